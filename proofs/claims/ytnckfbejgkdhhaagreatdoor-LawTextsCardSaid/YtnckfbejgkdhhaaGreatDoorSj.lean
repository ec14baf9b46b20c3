/- the reference cuts a text -/
import Derived.Test.YtnckfbejgkdhhaaGreatDoorSf
namespace Go.Proofs.YtnckfbejgkdhhaaGreatDoor
open Go.RowKit RayM
set_option linter.unusedSimpArgs false
set_option linter.unusedVariables false
theorem infoS : (Tryz.prog.info? 9).map (fun i => (i.zero, i.size, i.bytes)) = some (some (.string ByteArray.empty), 1, 16) := by kernel_rfl
theorem get_list' (s : ByteArray) (i : Nat) (h : i < s.size) : s.data.toList[i]? = some (s[i]'h) := by
  have e : (s[i]'h) = s.data[i]'h := rfl
  rw [e, Array.getElem?_toList, Array.getElem?_eq_getElem h]
/-- pieces as values -/
def pvs (P : List ByteArray) : List Value := P.map Value.string
def pls (P : List ByteArray) : List (List UInt8) := P.map (·.data.toList)
theorem pvs_snoc (P : List ByteArray) (x : ByteArray) : pvs (P ++ [x]) = pvs P ++ [.string x] := by unfold pvs; rw [List.map_append]; rfl
theorem pls_snoc (P : List ByteArray) (x : ByteArray) : pls (P ++ [x]) = pls P ++ [x.data.toList] := by unfold pls; rw [List.map_append]; rfl
set_option maxRecDepth 100000 in
set_option maxHeartbeats 4000000 in
theorem cut_any (s : ByteArray) (w : World) (hs : s.size ≤ 1000) :
    Calls Tryz.prog 25 #[.string s, .int .u8 32] w fun e w' => ∃ (v : Value) (P : List ByteArray), e = .returned v ∧ w'.ownsRow w.heap.size 9 1 v P.length (pvs P) ∧ pls P = Tb.cut 32 s.data.toList ∧ Below w.heap.size w w' := by
  obtain ⟨j0_, ji0, jz0, jz1, jz2⟩ := info_parts infoS
  have JI0 := Lib.hid ji0; have JZ0 := Lib.hid jz0; have JZ1 := Lib.hid jz1; have JZ2 := Lib.hid jz2
  clear ji0 jz0 jz1 jz2
  have hl := size_data s
  have HL := Lib.hid hl; clear hl
  go_enter Tryz.func25, Tryz.ntmps25
  go_wp2_with fail
  go_loopw [5, 6, 7] (fun s5 s6 s7 wr => ∃ (P : List ByteArray) (a i : Nat), wr.ownsRow w.heap.size 9 1 s5 P.length (pvs P) ∧ s6 = .int .i64 (a : Int) ∧ s7 = .int .i64 (i : Int) ∧ Tb.Cutting 32 s.data.toList a i (pls P) ∧ P.length ≤ i ∧ Below w.heap.size w wr) (fun _ _ s7 _ => s.size - (intOf s7).toNat)
  case atStart => exact ⟨[], 0, 0, World.ownsRow_nil _ _ _ _, rfl, rfl, Tb.Cutting.start _ _, Nat.le_refl _, Below.refl _ _⟩
  case round =>
    obtain ⟨P, a, i, hown, rfl, rfl, hc, hpi, hb⟩ := hrel
    have hai := hc.le
    have hil := hc.lt
    rw [← HL.out] at hil
    have HC := Lib.hid hc; clear hc
    have HB := Lib.hid hb
    have bm6 : (P.length + 1 : Nat) ≤ maxLen := by unfold maxLen; omega
    have BM6 := Lib.hid bm6; clear bm6
    have hsz := hb.size
    have ag5 := Lib.hid (fun q e => (hown.lt q e).1)
    by_cases hlt : i < s.size
    · have hg := get_list' s i hlt
      by_cases h32 : (s[i]'hlt) = 32
      · have hh := HC.out.hit (by rw [hg, h32])
        have h32' : (((s[i]'hlt).toNat : Nat) : Int) = 32 := by rw [h32]; rfl
        have HH := Lib.hid hh
        clear hg hh hb
        obtain ⟨A, c, rfl, _⟩ := own_form hown
        have nb6 : ∀ j u, (#[.string (s.extract a i)] : Array Value).toList[j]? = some u → (wr.alloc (.cells #[.string (s.extract a i)] 9)).cell? ((⟨wr.heap.size, 0, none⟩ : Addr).add j) = some u :=
          World.news_of_block (t := 9) (fr := (0, 0)) (by have h := heap_alloc_new wr (.cells #[.string (s.extract a i)] 9); simpa using h)
        have NB6 := Lib.hid nb6; clear nb6
        go_wp2_with (at_builtin; refine wpList_append_lies _ rfl _ _ _ rfl w.heap.size 9 j0_ _ 1 16 Tryz.underlying52 JI0.out JZ0.out JZ1.out JZ2.out rfl (by omega) (.slice A P.length c) P.length (pvs P) rfl (hown.alloc _) ⟨wr.heap.size, 0, none⟩ 1 1 [.string (s.extract a i)] rfl rfl NB6.out (by simp [Value.oneCell']) (by omega) BM6.out (by omega) (by simp; omega) (wr.heap.size + 1) (by simp) ?_; intro g6 cap6 w6 hown6 hgrow6 hat6 hlt6; have HG6 : Below w.heap.size wr w6 := ((Below.refl _ _).alloc (by omega) _).grown hgrow6 (by simp; omega) (fun q e => ag5.out q e); have H6 := Lib.hid (Below.trans HB.out HG6); have HO6 := Lib.hid hown6; clear hown6 hgrow6 hat6 hlt6 HG6)
        go_roundw
        case rel => exact ⟨P ++ [s.extract a i], i + 1, i + 1, by rw [pvs_snoc, List.length_append]; exact HO6.out, by go_num, by go_num, by rw [pls_snoc, Tb.extract_list]; exact HH.out, by rw [List.length_append, List.length_singleton]; omega, H6.out⟩
        case measure => first | (simp [intOf]; done) | (simp [intOf]; omega)
      · have hm := HC.out.miss hg h32
        have h32' : ¬ (((s[i]'hlt).toNat : Nat) : Int) = 32 := fun e => h32 (UInt8.toNat_inj.1 (by have e45 : (32 : UInt8).toNat = 32 := rfl; omega))
        clear hg h32
        go_wp2
        go_roundw
        case rel => exact ⟨P, a, i + 1, hown, rfl, by go_num, hm, by omega, HB.out⟩
        case measure => first | (simp [intOf]; done) | (simp [intOf]; omega)
    · have hi : i = s.size := by omega
      subst hi
      have hd := Tb.Cutting.done (by rw [← HL.out]; exact HC.out)
      have hx : (s.extract a s.size).data.toList = s.data.toList.drop a := by
        rw [Tb.extract_list, List.take_of_length_le]
        rw [List.length_drop]; have := HL.out; omega
      have HX := Lib.hid hx; have HD := Lib.hid hd
      clear hx hd hb
      obtain ⟨A, c, rfl, _⟩ := own_form hown
      have nb6 : ∀ j u, (#[.string (s.extract a s.size)] : Array Value).toList[j]? = some u → (wr.alloc (.cells #[.string (s.extract a s.size)] 9)).cell? ((⟨wr.heap.size, 0, none⟩ : Addr).add j) = some u :=
        World.news_of_block (t := 9) (fr := (0, 0)) (by have h := heap_alloc_new wr (.cells #[.string (s.extract a s.size)] 9); simpa using h)
      have NB6 := Lib.hid nb6; clear nb6
      go_wp2_with (at_builtin; refine wpList_append_lies _ rfl _ _ _ rfl w.heap.size 9 j0_ _ 1 16 Tryz.underlying52 JI0.out JZ0.out JZ1.out JZ2.out rfl (by omega) (.slice A P.length c) P.length (pvs P) rfl (hown.alloc _) ⟨wr.heap.size, 0, none⟩ 1 1 [.string (s.extract a s.size)] rfl rfl NB6.out (by simp [Value.oneCell']) (by omega) BM6.out (by omega) (by simp; omega) (wr.heap.size + 1) (by simp) ?_; intro g6 cap6 w6 hown6 hgrow6 hat6 hlt6; have HG6 : Below w.heap.size wr w6 := ((Below.refl _ _).alloc (by omega) _).grown hgrow6 (by simp; omega) (fun q e => ag5.out q e); have H6 := Lib.hid (Below.trans HB.out HG6); have HO6 := Lib.hid hown6; clear hown6 hgrow6 hat6 hlt6 HG6)
      exact bodyPost_ret (v := .slice (some ⟨g6, 0, none⟩) (P.length + 1) cap6) (by simp [results, Tryz.results25, go_sem]) (Eq.refl _) ⟨.slice (some ⟨g6, 0, none⟩) (P.length + 1) cap6, Eq.refl _, P ++ [s.extract a s.size], by rw [pvs_snoc, List.length_append]; exact HO6.out, by rw [pls_snoc, HX.out, HD.out], H6.out⟩
end Go.Proofs.YtnckfbejgkdhhaaGreatDoor
