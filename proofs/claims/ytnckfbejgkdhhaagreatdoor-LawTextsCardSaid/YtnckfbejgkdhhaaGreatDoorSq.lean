/- LawTexts: a law is written on both sides, and read back; the walk -/
import Derived.Test.YtnckfbejgkdhhaaGreatDoorSg
import Derived.Test.YtnckfbejgkdhhaaGreatDoorVc
import Derived.Test.YtnckfbejgkdhhaaGreatDoorSf
import Derived.Test.YtnckfbejgkdhhaaGreatDoorSj
import Derived.Test.YtnckfbejgkdhhaaGreatDoorSl
import Derived.Test.YtnckfbejgkdhhaaGreatDoorU2
namespace Go.Proofs.YtnckfbejgkdhhaaGreatDoor
open Go.RowKit Go.Shelf RayM
set_option linter.unusedSimpArgs false
set_option linter.unusedVariables false
/-- the words behind a law's clock, its text up to a word -/
def tws (t : Nat → Int) (k : Nat) : List (List UInt8) := (List.range k).map fun i => Tb.wd (t i)
def fmk (ck : Int) (t : Nat → Int) (k : Nat) : List UInt8 := Lib.itoa ck ++ Lib.joinTail [32] (tws t k)
def tls (t : Nat → Int) (n : Nat) : List Int := (List.range n).map t
theorem fmk_zero (ck : Int) (t : Nat → Int) : fmk ck t 0 = Lib.itoa ck := by simp [fmk, tws, Lib.joinTail]
theorem fmk_succ (ck : Int) (t : Nat → Int) (k : Nat) : fmk ck t (k + 1) = fmk ck t k ++ ([32] ++ Tb.wd (t k)) := by
  unfold fmk tws
  rw [List.range_succ, List.map_append]
  simp [Lib.joinTail, List.append_assoc]
theorem fmk_fmt (ck : Int) (t : Nat → Int) (n : Nat) : fmk ck t n = Tb.fmt ck (tls t n) := by
  unfold fmk Tb.fmt Tb.words tls tws
  rw [Lib.join_cons, List.map_map]
  rfl
theorem itoa_len (n : Int) (h0 : -9223372036854775808 ≤ n) (h1 : n ≤ 9223372036854775807) : (Lib.itoa n).length ≤ 21 := by
  unfold Lib.itoa
  split
  · have := Tb.digits_len 19 n.natAbs (by omega); rw [List.length_cons]; omega
  · have := Tb.digits_len 19 n.toNat (by omega); omega
theorem wd_len (n : Int) (h1 : n ≤ 9223372036854775807) : (Tb.wd n).length ≤ 21 := by
  unfold Tb.wd
  split
  · decide
  · exact itoa_len n (by omega) h1
theorem fmk_len (ck : Int) (t : Nat → Int) (h0 : -9223372036854775808 ≤ ck) (h1 : ck ≤ 9223372036854775807) : ∀ k, (∀ i, i < k → t i ≤ 9223372036854775807) → (fmk ck t k).length ≤ 22 * (k + 1)
  | 0, _ => by rw [fmk_zero]; have := itoa_len ck h0 h1; omega
  | k + 1, h => by
    have ih := fmk_len ck t h0 h1 k (fun i hi => h i (by omega))
    have := wd_len (t k) (h k (by omega))
    rw [fmk_succ, List.length_append, List.length_append, List.length_singleton]; omega
set_option maxRecDepth 100000 in
set_option maxHeartbeats 4000000 in
theorem rFormat_any (ck : Int) (t : Nat → Int) (n : Nat) (A : Option Addr) (c : Nat) (w : World) (hn : n ≤ 18) (h0 : -9223372036854775808 ≤ ck) (h1 : ck ≤ 9223372036854775807) (ht : ∀ i, i < n → t i ≤ 9223372036854775807) (h : InAt A n t w) :
    Calls Tryz.prog 10 #[.agg #[.int .i64 ck, .slice A n c]] w fun e w' => e = .returned (.string ⟨(fmk ck t n).toArray⟩) ∧ Below w.heap.size w w' := by
  have HX := Lib.hid h; clear h
  have HT := Lib.hid ht; clear ht
  have HL := Lib.hid (fmk_len ck t h0 h1)
  have HS := Lib.hid (fmk_succ ck t)
  have hz := fmk_zero ck t
  go_enter Tryz.func10, Tryz.ntmps10
  go_wp2_with (go_at_call 28; (with_reducible refine (decimal_any ck _ h0 h1).mono ?_); rintro e w1 ⟨rfl, hb1⟩; have q10 : w1.cell? ⟨w.heap.size, 0, none⟩ = some (.int .i64 ck) := cell_later hb1 (by simp [go_sem]); have q11 : w1.cell? ⟨w.heap.size, 1, none⟩ = some (.slice A n c) := cell_later hb1 (by simp [go_sem]); have z1 := hb1.size; have H1 : Hid (Below w.heap.size w w1) := Lib.hid (Below.trans ((Below.refl _ _).alloc (Nat.le_refl _) _) (hb1.mono (by simp))); clear hb1)
  simp at z1
  go_loopw [3, 4] (fun s3 s4 wr => ∃ k : Nat, k ≤ n ∧ s3 = .string ⟨(fmk ck t k).toArray⟩ ∧ s4 = .int .i64 (k : Int) ∧ Below w1.heap.size w1 wr) (fun _ s4 _ => n - (intOf s4).toNat)
  case atStart => exact ⟨0, Nat.zero_le _, by rw [hz], rfl, Below.refl _ _⟩
  case round =>
    obtain ⟨k, hk, rfl, rfl, hb⟩ := hrel
    have r11 := cell_later hb q11
    have hbw : Hid (Below w.heap.size w wr) := Lib.hid (below_then H1.out hb)
    by_cases hlt : k < n
    · obtain ⟨a, rfl, hc⟩ := (HX.out.later hbw.out) (by omega)
      have x1 := hc k hlt
      have hlen := HL.out k (fun i hi => HT.out i (by omega))
      have hwl := wd_len (t k) (HT.out k hlt)
      have htk := HT.out k hlt
      have hs := HS.out k
      have hs2 := size_list (fmk ck t k)
      generalize fmk ck t k = x at *
      have HS2 := Lib.hid hs; clear hs
      by_cases hneg : t k < 0
      · have hw : Tb.wd (t k) = [45] := by unfold Tb.wd; rw [if_pos hneg]
        have hc2 : (⟨#[32, 45]⟩ : ByteArray).size = 2 := rfl
        clear hc
        go_wp2
        go_roundw
        case rel => exact ⟨k + 1, by omega, by rw [HS2.out, hw]; exact congrArg Value.string (app_bytes x [32, 45]), by go_num, hb⟩
        case measure => first | (simp [intOf]; done) | (simp [intOf]; omega)
      · have hw : Tb.wd (t k) = Lib.itoa (t k) := by unfold Tb.wd; rw [if_neg hneg]
        have hs3 := size_list (Lib.itoa (t k))
        have hs4 : (⟨x.toArray⟩ ++ ⟨#[32]⟩ : ByteArray) = ⟨(x ++ [32]).toArray⟩ := app_bytes x [32]
        have hs5 := size_list (x ++ [32])
        have hc1 : (⟨#[32]⟩ : ByteArray).size = 1 := rfl
        rw [hw] at hwl
        rw [List.length_append, List.length_singleton] at hs5
        clear hc
        go_wp2_with (go_at_call 28; (with_reducible refine (decimal_any (t k) _ (by omega) htk).mono ?_); rintro e w2 ⟨rfl, hb2⟩; have H2 := Lib.hid (below_then hb hb2); clear hb2)
        go_roundw
        case rel => exact ⟨k + 1, by omega, by rw [HS2.out, hw]; exact congrArg Value.string (by rw [← List.append_assoc, ← app_bytes (x ++ [32]), ← hs4]), by go_num, H2.out⟩
        case measure => first | (simp [intOf]; done) | (simp [intOf]; omega)
    · have hkn : k = n := by omega
      subst hkn
      go_wp2
      exact bodyPost_ret (v := .string ⟨(fmk ck t k).toArray⟩) (by simp [results, Tryz.results10, go_sem]) rfl ⟨rfl, hbw.out⟩
/-- the text of a law -/
def ftx (ck : Int) (t : Nat → Int) (n : Nat) : ByteArray := ⟨(fmk ck t n).toArray⟩
theorem ftx_list (ck : Int) (t : Nat → Int) (n : Nat) : (ftx ck t n).data.toList = fmk ck t n := rfl
theorem ftx_cut (ck : Int) (t : Nat → Int) (n : Nat) : Tb.cut 32 (ftx ck t n).data.toList = Tb.words ck (tls t n) := by
  rw [ftx_list, fmk_fmt, Tb.cut_fmt]
theorem ftx_n (ck : Int) (t : Nat → Int) (n : Nat) : pcn (ftx ck t n) = n := by
  have h := Tb.cut_length 32 (ftx ck t n).data.toList
  rw [ftx_cut] at h
  have e : (Tb.words ck (tls t n)).length = n + 1 := by unfold Tb.words tls; simp
  unfold pcn
  omega
theorem ftx_zero (ck : Int) (t : Nat → Int) (n : Nat) : (pcs (ftx ck t n) 0).data.toList = Lib.itoa ck := by
  rw [pcs_list, ftx_cut]; rfl
theorem ftx_succ (ck : Int) (t : Nat → Int) (n i : Nat) (h : i < n) : (pcs (ftx ck t n) (i + 1)).data.toList = Tb.wd (t i) := by
  rw [pcs_list, ftx_cut]
  unfold Tb.words tls
  rw [List.getD_cons_succ, List.getD_eq_getElem?_getD, List.map_map, List.getElem?_map, List.getElem?_range h]
  rfl
theorem ftx_back (ck : Int) (t : Nat → Int) (n : Nat) (h : (⟨ck, t, n⟩ : Dl).E = 0) : (pcL (ftx ck t n)).ck = ck ∧ (∀ i, i < n → (pcL (ftx ck t n)).t i = t i) ∧ pcE (ftx ck t n) = 0 := by
  obtain ⟨⟨c1, c2⟩, ⟨n1, n2⟩, ht⟩ := (Dl.E_zero _).1 h
  dsimp only at c1 c2 n1 n2 ht
  have e0 : wN (pcs (ftx ck t n)) = (ck, true) := by
    unfold wN; rw [ftx_zero]; exact Tb.nb_itoa ck (by omega)
  have e1 : ∀ i, i < n → wT (pcs (ftx ck t n)) i = (t i, true) := fun i hi => by
    unfold wT; rw [ftx_succ ck t n i hi]
    exact Tb.tk_wd _ (ht i hi).1 (by have := (ht i hi).2; omega)
  have e2 : ∀ k, k ≤ n → wOk (pcs (ftx ck t n)) k = true := by
    intro k
    induction k with
    | zero => intro _; show (wN _).2 = true; rw [e0]
    | succ k ih =>
      intro hk
      show (wOk _ k && (wT _ k).2) = true
      rw [ih (by omega), e1 k (by omega)]
      rfl
  have h1 : (pcL (ftx ck t n)).ck = ck := by show (wN _).1 = ck; rw [e0]
  have h2 : ∀ i, i < n → (pcL (ftx ck t n)).t i = t i := fun i hi => by show (wT _ i).1 = t i; rw [e1 i hi]
  refine ⟨h1, h2, ?_⟩
  unfold pcE
  rw [ftx_n, e2 n (Nat.le_refl _)]
  have e3 : (pcL (ftx ck t n)).E = 0 := by
    rw [Dl.E_zero]
    have hn : (pcL (ftx ck t n)).n = n := ftx_n ck t n
    rw [h1, hn]
    exact ⟨⟨c1, c2⟩, ⟨n1, n2⟩, fun i hi => by rw [h2 i hi]; exact ht i hi⟩
  rw [e3]
  simp [fst, unl]
/-- the words of a law as byte arrays -/
def bws (ck : Int) (t : Nat → Int) (k : Nat) : List ByteArray := ⟨(Lib.itoa ck).toArray⟩ :: (List.range k).map fun i => ⟨(Tb.wd (t i)).toArray⟩
theorem bws_len (ck : Int) (t : Nat → Int) (k : Nat) : (bws ck t k).length = k + 1 := by unfold bws; simp
theorem bws_succ (ck : Int) (t : Nat → Int) (k : Nat) : bws ck t (k + 1) = bws ck t k ++ [⟨(Tb.wd (t k)).toArray⟩] := by
  unfold bws; rw [List.range_succ, List.map_append]; rfl
theorem bws_join (ck : Int) (t : Nat → Int) (k : Nat) : Lib.join ((bws ck t k).map (·.data.toList)) [32] = fmk ck t k := by
  unfold bws fmk tws
  rw [List.map_cons, Lib.join_cons, List.map_map]
  rfl
set_option maxRecDepth 100000 in
set_option maxHeartbeats 4000000 in
theorem format_any (ck : Int) (t : Nat → Int) (n : Nat) (A : Option Addr) (c : Nat) (w : World) (hE : Laid w) (hn : n ≤ 18) (h0 : -9223372036854775808 ≤ ck) (h1 : ck ≤ 9223372036854775807) (ht : ∀ i, i < n → t i ≤ 9223372036854775807) (h : InAt A n t w) :
    Calls Tryz.prog 6 #[.agg #[.int .i64 ck, .slice A n c]] w fun e w' => e = .returned (.string ⟨(fmk ck t n).toArray⟩) ∧ Below w.heap.size w w' := by
  obtain ⟨j0_, ji0, jz0, jz1, jz2⟩ := info_parts infoS
  have JI0 := Lib.hid ji0; have JZ0 := Lib.hid jz0; have JZ1 := Lib.hid jz1; have JZ2 := Lib.hid jz2
  clear ji0 jz0 jz1 jz2
  have HX := Lib.hid h; clear h
  have HT := Lib.hid ht; clear ht
  have HF := Lib.hid (fmk_len ck t h0 h1 n)
  have HJ := Lib.hid (bws_join ck t n)
  have HN := Lib.hid (bws_len ck t)
  have HS := Lib.hid (bws_succ ck t)
  have hz : pvs (bws ck t 0) = [.string ⟨(Lib.itoa ck).toArray⟩] := rfl
  have HZ := Lib.hid hz; clear hz
  go_enter Tryz.func6, Tryz.ntmps6
  go_wp2_with (go_at_call 17; (with_reducible refine (itoa_b ck h0 h1 _ (hE.later (below_one _ _))).mono ?_); rintro e w1 ⟨rfl, hb1⟩; have q10 : w1.cell? ⟨w.heap.size, 0, none⟩ = some (.int .i64 ck) := cell_later hb1 (by simp [go_sem]); have q11 : w1.cell? ⟨w.heap.size, 1, none⟩ = some (.slice A n c) := cell_later hb1 (by simp [go_sem]); have z1 := hb1.size; simp at z1; have q12 : ∀ o, (w1.alloc o).cell? ⟨w.heap.size, 1, none⟩ = some (.slice A n c) := fun o => (World.cell?_alloc_old _ _ _ (by dsimp only; omega)).trans q11; have H1 : Hid (Below w.heap.size w w1) := Lib.hid (Below.trans ((Below.refl _ _).alloc (Nat.le_refl _) _) (hb1.mono (by simp))); clear hb1)
  obtain ⟨w2, hw2⟩ : ∃ q, q = w1.alloc (.cells #[.string ⟨(Lib.itoa ck).toArray⟩] 9) := ⟨_, rfl⟩
  have hown0 : w2.ownsRow w1.heap.size 9 1 (.slice (some ⟨w1.heap.size, 0, none⟩) 1 1) 1 (pvs (bws ck t 0)) := by
    rw [HZ.out, hw2]; exact World.ownsRow_lit w1 #[.string ⟨(Lib.itoa ck).toArray⟩] 1 (Nat.le_refl _) (by unfold maxLen; omega) (by simp)
  have hb2 : Below w1.heap.size w1 w2 := by rw [hw2]; exact below_one _ _
  rw [← hw2]
  clear hw2
  go_loopw [3, 13] (fun s3 s13 wr => ∃ k : Nat, k ≤ n ∧ wr.ownsRow w1.heap.size 9 1 s3 (k + 1) (pvs (bws ck t k)) ∧ s13 = .int .i64 (k : Int) ∧ Below w1.heap.size w1 wr) (fun _ s13 _ => n - (intOf s13).toNat)
  case atStart => exact ⟨0, Nat.zero_le _, hown0, rfl, hb2⟩
  case round =>
    clear hown0 hb2
    obtain ⟨k, hk, hown, rfl, hb⟩ := hrel
    have hbw : Hid (Below w.heap.size w wr) := Lib.hid (below_then H1.out hb)
    obtain ⟨B, d, rfl, hcl⟩ := own_form hown
    have hsz := hb.size
    have bm6 : (k + 1 + 1 : Nat) ≤ maxLen := by unfold maxLen; omega
    have BM6 := Lib.hid bm6; clear bm6
    by_cases hlt : k < n
    · clear hcl
      obtain ⟨a, rfl, hc⟩ := (HX.out.later hbw.out) (by omega)
      have x1 := hc k hlt
      have htk := HT.out k hlt
      have hsk : pvs (bws ck t (k + 1)) = pvs (bws ck t k) ++ [.string ⟨(Tb.wd (t k)).toArray⟩] := by rw [HS.out k, pvs_snoc]
      have HK := Lib.hid hsk; clear hsk
      generalize pvs (bws ck t k) = vs at *
      clear hc
      by_cases hneg : t k < 0
      · have hw : Tb.wd (t k) = [45] := by unfold Tb.wd; rw [if_pos hneg]
        rw [hw] at HK
        have hown5 := hown
        have HB5 := Lib.hid hb
        have ag5 := Lib.hid (fun q e => (hown.lt q e).1)
        clear hown hb
        have nb6 : ∀ j u, (#[.string (⟨#[45]⟩)] : Array Value).toList[j]? = some u → (wr.alloc (.cells #[.string (⟨#[45]⟩)] 9)).cell? ((⟨wr.heap.size, 0, none⟩ : Addr).add j) = some u :=
          World.news_of_block (t := 9) (fr := (0, 0)) (by have h := heap_alloc_new wr (.cells #[.string (⟨#[45]⟩)] 9); simpa using h)
        have NB6 := Lib.hid nb6; clear nb6
        go_wp2_with (at_builtin; refine wpList_append_lies _ rfl _ _ _ rfl w1.heap.size 9 j0_ _ 1 16 Tryz.underlying52 JI0.out JZ0.out JZ1.out JZ2.out rfl (by omega) (.slice B (k + 1) d) (k + 1) vs rfl (hown5.alloc _) ⟨wr.heap.size, 0, none⟩ 1 1 [.string (⟨#[45]⟩)] rfl rfl NB6.out (by simp [Value.oneCell']) (by omega) BM6.out (by omega) (by simp; omega) (wr.heap.size + 1) (by simp) ?_; intro g6 cap6 w6 hown6 hgrow6 hat6 hlt6; have HG6 : Below w1.heap.size wr w6 := ((Below.refl _ _).alloc (by omega) _).grown hgrow6 (by simp; omega) (fun q e => ag5.out q e); have H6 := Lib.hid (Below.trans HB5.out HG6); have HO6 := Lib.hid hown6; clear hown6 hgrow6 hat6 hlt6 HG6)
        go_roundw
        case rel => exact ⟨k + 1, by omega, by rw [HK.out]; exact HO6.out, by go_num, H6.out⟩
        case measure => first | (simp [intOf]; done) | (simp [intOf]; omega)
      · have hw : Tb.wd (t k) = Lib.itoa (t k) := by unfold Tb.wd; rw [if_neg hneg]
        rw [hw] at HK
        go_wp2_with fail
        refine (itoa_b (t k) (by omega) htk _ (hE.later hbw.out)).mono ?_
        rintro e w5 ⟨rfl, hb5⟩
        have hown5 := own_later hown hb5
        have HB5 := Lib.hid (below_then hb hb5)
        have ag5 := Lib.hid (fun q e => (hown5.lt q e).1)
        have zz5 := hb5.size
        clear hown hb hb5 x1
        have nb6 : ∀ j u, (#[.string (⟨(Lib.itoa (t k)).toArray⟩)] : Array Value).toList[j]? = some u → (w5.alloc (.cells #[.string (⟨(Lib.itoa (t k)).toArray⟩)] 9)).cell? ((⟨w5.heap.size, 0, none⟩ : Addr).add j) = some u :=
          World.news_of_block (t := 9) (fr := (0, 0)) (by have h := heap_alloc_new w5 (.cells #[.string (⟨(Lib.itoa (t k)).toArray⟩)] 9); simpa using h)
        have NB6 := Lib.hid nb6; clear nb6
        go_wp2_with (at_builtin; refine wpList_append_lies _ rfl _ _ _ rfl w1.heap.size 9 j0_ _ 1 16 Tryz.underlying52 JI0.out JZ0.out JZ1.out JZ2.out rfl (by omega) (.slice B (k + 1) d) (k + 1) vs rfl (hown5.alloc _) ⟨w5.heap.size, 0, none⟩ 1 1 [.string (⟨(Lib.itoa (t k)).toArray⟩)] rfl rfl NB6.out (by simp [Value.oneCell']) (by omega) BM6.out (by omega) (by simp; omega) (w5.heap.size + 1) (by simp) ?_; intro g6 cap6 w6 hown6 hgrow6 hat6 hlt6; have HG6 : Below w1.heap.size w5 w6 := ((Below.refl _ _).alloc (by omega) _).grown hgrow6 (by simp; omega) (fun q e => ag5.out q e); have H6 := Lib.hid (Below.trans HB5.out HG6); have HO6 := Lib.hid hown6; clear hown6 hgrow6 hat6 hlt6 HG6)
        go_roundw
        case rel => exact ⟨k + 1, by omega, by rw [HK.out]; exact HO6.out, by go_num, H6.out⟩
        case measure => first | (simp [intOf]; done) | (simp [intOf]; omega)
    · have hkn : k = n := by omega
      subst hkn
      obtain ⟨g, rfl, hg1, hg2, hcc⟩ := hcl (by omega)
      have hfl := HF.out (fun i hi => HT.out i hi)
      have hcells : ∀ (j : Nat) x, (bws ck t k)[j]? = some x → wr.cell? ⟨g, 0 + j, none⟩ = some (.string x) := fun j x hx => by
        rw [Nat.zero_add]
        exact hcc j _ (by unfold pvs; rw [List.getElem?_map, hx]; rfl)
      have hd : k + 1 ≤ d := by
        rcases hown.2 with ⟨e, _⟩ | ⟨g', cap', cur', e, _, _, r, _⟩
        · cases e
        · cases e; exact r
      have hjoin := Tryz.strings_Join g 0 d (bws ck t k) ⟨#[32]⟩ wr hcells hg2 (by rw [HN.out]; omega) (by rw [HN.out]; exact hd) (by show (Lib.join _ [32]).length ≤ _; rw [HJ.out]; omega)
      rw [HN.out] at hjoin
      have e32 : (⟨#[32]⟩ : ByteArray).data.toList = [32] := rfl
      rw [e32, HJ.out] at hjoin
      have HJN := Lib.hid hjoin
      clear hjoin hcells hcc hcl hown
      go_wp2_with (go_at_call 18; (with_reducible refine HJN.out.mono ?_); rintro e w6 ⟨rfl, hb6⟩; have H6 := Lib.hid (below_then hbw.out hb6))
      exact bodyPost_ret (v := .string ⟨(fmk ck t k).toArray⟩) (by simp [results, Tryz.results6, go_sem]) rfl ⟨rfl, H6.out⟩
set_option maxRecDepth 100000 in
set_option maxHeartbeats 1000000 in
theorem few_any (n : Int) (w : World) :
    Calls Tryz.prog 5 #[.int .i64 n] w fun e w' => e = .returned (.bool (decide (n ≤ 18))) ∧ w = w' := by
  go_enter Tryz.func5, Tryz.ntmps5
  go_wp2
  go_ret
  exact ⟨rfl, rfl⟩
set_option maxRecDepth 100000 in
set_option maxHeartbeats 6000000 in
theorem texts_any (d : Dl) (s : ByteArray) (B : Option Addr) (e : Nat) (w : World) (hL : LaidE w) (AWK : Hid (∀ w, Laid w → Calls Tryz.prog 4 #[] w fun e w' => e = .returned (.bool true) ∧ Below w.heap.size w w')) (hB : B = none → d.n = 0 ∧ e = 0) (hk0 : -9223372036854775808 ≤ d.ck) (hk1 : d.ck ≤ 9223372036854775807) (ht : ∀ i, i < d.n → d.t i ≤ 9223372036854775807) (hsm : s.size ≤ maxLen) (g : InAt B d.n d.t w) :
    Calls Tryz.prog 3 #[.agg #[.int .i64 d.ck, .slice B d.n e], .string s] w fun e w' => e = .returned (.bool true) ∧ Below w.heap.size w w' := by
  have HT := Lib.hid g; clear g
  have LH := Lib.hid hL.laid; have LE := Lib.hid hL; clear hL
  have hsm' : s.size ≤ 9223372036854775807 := Nat.le_trans hsm (by unfold maxLen; omega)
  by_cases h1 : d.n ≤ 18
  · have FD : Hid (decide ((d.n : Int) ≤ 18) = true) := Lib.hid (by simp; omega)
    by_cases h2 : s.size ≤ 200
    · have h2' : ¬ (200 : Int) < (s.size : Int) := by omega
      have HCL : Hid (∀ w', InAt B d.n d.t w' → Calls Tryz.prog 7 #[.agg #[.int .i64 d.ck, .slice B d.n e]] w' fun e_ w'' => ∃ A1 c1, e_ = .returned (.agg #[.int .i64 d.ck, .slice A1 d.n c1]) ∧ InAt A1 d.n d.t w'' ∧ Below w'.heap.size w' w'') := Lib.hid (fun w' h => (copyLaw_any d B e w' (by omega) hB h).mono (fun e w'' ⟨v, e1, ho, hb⟩ => by
        obtain ⟨A1, c1, rfl, hz, hs⟩ := own_ints2 ho
        exact ⟨A1, c1, e1, hs, hb⟩))
      have HP : Hid (∀ w', LaidE w' → Calls Tryz.prog 8 #[.string s] w' fun e_ w'' => ∃ (x : Int) (A3 : Option Addr) (m3 c3 : Nat), e_ = .returned (.tuple #[.agg #[.int .i64 x, .slice A3 m3 c3], .int .i64 (pcE s)]) ∧ Lw (pcL s).ck (pcL s).t (pcn s) (pcE s) x A3 m3 c3 w'' ∧ (∀ a, A3 = some a → w'.heap.size ≤ a.block) ∧ (∀ a, A3 = some a → a.block < w''.heap.size) ∧ Below w'.heap.size w' w'') := Lib.hid (fun w' h => parseLaw_any s w' h (by omega))
      have HR : Hid (∀ w', Calls Tryz.prog 9 #[.string s] w' fun e_ w'' => ∃ (x : Int) (A3 : Option Addr) (m3 c3 : Nat), e_ = .returned (.tuple #[.agg #[.int .i64 x, .slice A3 m3 c3], .int .i64 (pcE s)]) ∧ Lw (pcL s).ck (pcL s).t (pcn s) (pcE s) x A3 m3 c3 w'' ∧ (∀ a, A3 = some a → w'.heap.size ≤ a.block) ∧ (∀ a, A3 = some a → a.block < w''.heap.size) ∧ Below w'.heap.size w' w'') := Lib.hid (fun w' => rParse_any s w' (by omega))
      have HF : Hid (∀ B1 e1 w', InAt B1 d.n d.t w' → LaidE w' → Calls Tryz.prog 6 #[.agg #[.int .i64 d.ck, .slice B1 d.n e1]] w' fun e_ w'' => e_ = .returned (.string (ftx d.ck d.t d.n)) ∧ Below w'.heap.size w' w'') := Lib.hid (fun B1 e1 w' h k => format_any d.ck d.t d.n B1 e1 w' k.laid h1 hk0 hk1 ht h)
      have HG : Hid (∀ w', InAt B d.n d.t w' → Calls Tryz.prog 10 #[.agg #[.int .i64 d.ck, .slice B d.n e]] w' fun e_ w'' => e_ = .returned (.string (ftx d.ck d.t d.n)) ∧ Below w'.heap.size w' w'') := Lib.hid (fun w' h => rFormat_any d.ck d.t d.n B e w' h1 hk0 hk1 ht h)
      have hfl : ((ftx d.ck d.t d.n)).size ≤ 1000 := by
        have e1 := size_data (ftx d.ck d.t d.n)
        have e2 := fmk_len d.ck d.t hk0 hk1 d.n ht
        rw [ftx_list] at e1
        omega
      have HB : Hid (∀ w', LaidE w' → Calls Tryz.prog 8 #[.string (ftx d.ck d.t d.n)] w' fun e_ w'' => ∃ (x : Int) (A3 : Option Addr) (m3 c3 : Nat), e_ = .returned (.tuple #[.agg #[.int .i64 x, .slice A3 m3 c3], .int .i64 (pcE (ftx d.ck d.t d.n))]) ∧ Lw (pcL (ftx d.ck d.t d.n)).ck (pcL (ftx d.ck d.t d.n)).t (pcn (ftx d.ck d.t d.n)) (pcE (ftx d.ck d.t d.n)) x A3 m3 c3 w'' ∧ (∀ a, A3 = some a → w'.heap.size ≤ a.block) ∧ (∀ a, A3 = some a → a.block < w''.heap.size) ∧ Below w'.heap.size w' w'') := Lib.hid (fun w' h => parseLaw_any (ftx d.ck d.t d.n) w' h hfl)
      have HLE := Lib.hid (fun w h => wLawErr_any d B e w h (by omega))
      have HSA : Hid (∀ x A3 m3 c3 x' A' m' c' w', Lw (pcL s).ck (pcL s).t (pcn s) (pcE s) x A3 m3 c3 w' → Lw (pcL s).ck (pcL s).t (pcn s) (pcE s) x' A' m' c' w' → Calls Tryz.prog 11 #[.agg #[.int .i64 x, .slice A3 m3 c3], .agg #[.int .i64 x', .slice A' m' c']] w' fun e w'' => e = .returned (.bool true) ∧ Below w'.heap.size w' w'') := Lib.hid (fun x A3 m3 c3 x' A' m' c' w' r r' => same_lw r r' (fun _ _ _ => rfl) (by have := pcn_le s; omega))
      have HSB : Hid (d.E = 0 → pcE (ftx d.ck d.t d.n) = 0 ∧ ∀ x A3 m3 c3 w', Lw (pcL (ftx d.ck d.t d.n)).ck (pcL (ftx d.ck d.t d.n)).t (pcn (ftx d.ck d.t d.n)) (pcE (ftx d.ck d.t d.n)) x A3 m3 c3 w' → InAt B d.n d.t w' → Calls Tryz.prog 11 #[.agg #[.int .i64 x, .slice A3 m3 c3], .agg #[.int .i64 d.ck, .slice B d.n e]] w' fun e w'' => e = .returned (.bool true) ∧ Below w'.heap.size w' w'') := Lib.hid (fun q => by
        obtain ⟨b1, b2, b3⟩ := ftx_back d.ck d.t d.n q
        refine ⟨b3, fun x A3 m3 c3 w' r h => ?_⟩
        rw [b1, ftx_n, b3] at r
        exact same_lw r (⟨by rw [if_pos rfl], fun _ => ⟨rfl, h⟩, fun q => absurd rfl q⟩ : Lw d.ck d.t d.n 0 d.ck B d.n e w') (fun _ i hi => b2 i hi) (by omega))
      clear hB ht hfl hk0 hk1
      generalize (ftx d.ck d.t d.n) = tx at *
      generalize (pcL tx).ck = ck2 at *
      generalize (pcL tx).t = l2 at *
      generalize pcn tx = n2 at *
      generalize pcE tx = E2 at *
      generalize (pcL s).ck = ck1 at *
      generalize (pcL s).t = l1 at *
      generalize pcn s = n1_ at *
      generalize pcE s = E1 at *
      generalize d.E = ed at *
      go_enter Tryz.func3, Tryz.ntmps3
      go_wp2_with fail
      refine (AWK.out _ (LH.out.later (by repeat (first | exact Below.refl _ _ | refine Below.drew ?_ | refine below_drewN ?_ _ | refine Below.setCell ?_ (by first | omega | (simp; done) | (simp; omega)) _ | refine Below.alloc ?_ (by first | omega | (simp; done) | (simp; omega)) _)))).mono ?_
      rintro e w1 ⟨rfl, hb1⟩
      have qw10 : w1.cell? ⟨w.heap.size, 0, none⟩ = some (.int .i64 d.ck) := cell_later hb1 (by simp [go_sem])
      have qw11 : w1.cell? ⟨w.heap.size, 1, none⟩ = some (.slice B d.n e) := cell_later hb1 (by simp [go_sem])
      have zqw1_0 := World.block_lt_of_cell? _ _ qw10
      dsimp only at zqw1_0
      have H1 : Hid (Below w.heap.size w w1) := Lib.hid (below_after (by repeat (first | exact Below.refl _ _ | refine Below.drew ?_ | refine below_drewN ?_ _ | refine Below.setCell ?_ (by first | omega | (simp; done) | (simp; omega)) _ | refine Below.alloc ?_ (by first | omega | (simp; done) | (simp; omega)) _)) hb1 (by first | omega | (simp; done) | (simp; omega))); clear hb1
      have R1_0 := Lib.hid (HT.out.later H1.out)
      have R1_1 := Lib.hid (LE.out.later H1.out)
      go_wp2_with (go_at_call 5; (with_reducible refine (few_any _ _).mono ?_); rw [FD.out]; rintro e w' ⟨rfl, rfl⟩)
      refine (HCL.out _ R1_0.out).mono ?_
      rintro e_ wA ⟨B1, e1, rfl, ib, hb⟩
      have k2_0 := cell_later hb qw10
      have k2_1 := cell_later hb qw11
      have R2_0 := Lib.hid (R1_0.out.later hb)
      have R2_1 := Lib.hid (R1_1.out.later hb)
      have B2 : Hid (Below w.heap.size w wA) := Lib.hid (below_then H1.out hb)
      clear qw10 qw11 R1_0 R1_1 H1
      have z2_0 := World.block_lt_of_cell? _ _ k2_0
      (try dsimp only at z2_0)
      clear hb
      have IB := Lib.hid ib
      clear ib
      go_wp2_with fail
      refine (HF.out _ _ _ IB.out R2_1.out).mono ?_
      rintro e_ wB ⟨rfl, hb⟩
      have k3_0 := cell_later hb k2_0
      have k3_1 := cell_later hb k2_1
      have R3_0 := Lib.hid (R2_0.out.later hb)
      have R3_1 := Lib.hid (R2_1.out.later hb)
      have R3_2 := Lib.hid (IB.out.later hb)
      have B3 : Hid (Below w.heap.size w wB) := Lib.hid (below_then B2.out hb)
      clear k2_0 k2_1 R2_0 R2_1 IB B2
      have z3_0 := World.block_lt_of_cell? _ _ k3_0
      (try dsimp only at z3_0)
      clear hb
      go_wp2_with fail
      refine (HP.out _ R3_1.out).mono ?_
      rintro e_ wC ⟨x3, A3, m3, c3, rfl, lw3, hB3, hL3, hb⟩
      have k4_0 := cell_later hb k3_0
      have k4_1 := cell_later hb k3_1
      have R4_0 := Lib.hid (R3_0.out.later hb)
      have R4_1 := Lib.hid (R3_1.out.later hb)
      have B4 : Hid (Below w.heap.size w wC) := Lib.hid (below_then B3.out hb)
      clear k3_0 k3_1 R3_0 R3_1 B3
      have z4_0 := World.block_lt_of_cell? _ _ k4_0
      (try dsimp only at z4_0)
      clear hb
      have L3 := Lib.hid lw3
      clear lw3 hB3 hL3
      go_wp2_with fail
      obtain ⟨wD, hw_⟩ : ∃ q_, q_ = wC.alloc (.cells #[.int .i64 x3, .slice A3 m3 c3] 24) := ⟨_, rfl⟩
      rw [← hw_]
      have hb : Below wC.heap.size wC wD := by rw [hw_]; exact (Below.refl _ _).alloc (Nat.le_refl _) _
      have n5_0 : wD.cell? ⟨wC.heap.size, 0, none⟩ = some (.int .i64 x3) := by rw [hw_]; simp [go_sem]
      have n5_1 : wD.cell? ⟨wC.heap.size, 1, none⟩ = some (.slice A3 m3 c3) := by rw [hw_]; simp [go_sem]
      have k5_0 := cell_later hb k4_0
      have k5_1 := cell_later hb k4_1
      have R5_0 := Lib.hid (R4_0.out.later hb)
      have R5_1 := Lib.hid (R4_1.out.later hb)
      have R5_2 := Lib.hid (L3.out.later hb)
      have B5 : Hid (Below w.heap.size w wD) := Lib.hid (below_then B4.out hb)
      clear k4_0 k4_1 R4_0 R4_1 L3 B4
      have z5_0 := World.block_lt_of_cell? _ _ k5_0
      (try dsimp only at z5_0)
      have zn5 : wC.heap.size < wD.heap.size := by rw [hw_]; simp
      clear hb hw_
      refine (HR.out _).mono ?_
      rintro e_ wE ⟨x4, A4, m4, c4, rfl, lw4, hB4, hL4, hb⟩
      have k6_0 := cell_later hb k5_0
      have k6_1 := cell_later hb k5_1
      have k6_2 := cell_later hb n5_0
      have k6_3 := cell_later hb n5_1
      have R6_0 := Lib.hid (R5_0.out.later hb)
      have R6_1 := Lib.hid (R5_1.out.later hb)
      have R6_2 := Lib.hid (R5_2.out.later hb)
      have B6 : Hid (Below w.heap.size w wE) := Lib.hid (below_then B5.out hb)
      clear k5_0 k5_1 n5_0 n5_1 R5_0 R5_1 R5_2 B5
      have z6_0 := World.block_lt_of_cell? _ _ k6_0
      (try dsimp only at z6_0)
      have z6_2 := World.block_lt_of_cell? _ _ k6_2
      (try dsimp only at z6_2)
      clear hb
      have L4 := Lib.hid lw4
      clear lw4 hB4 hL4
      go_wp2_with fail
      obtain ⟨wF, hw_⟩ : ∃ q_, q_ = wE.alloc (.cells #[.int .i64 x4, .slice A4 m4 c4] 24) := ⟨_, rfl⟩
      rw [← hw_]
      have hb : Below wE.heap.size wE wF := by rw [hw_]; exact (Below.refl _ _).alloc (Nat.le_refl _) _
      have n7_0 : wF.cell? ⟨wE.heap.size, 0, none⟩ = some (.int .i64 x4) := by rw [hw_]; simp [go_sem]
      have n7_1 : wF.cell? ⟨wE.heap.size, 1, none⟩ = some (.slice A4 m4 c4) := by rw [hw_]; simp [go_sem]
      have k7_0 := cell_later hb k6_0
      have k7_1 := cell_later hb k6_1
      have k7_2 := cell_later hb k6_2
      have k7_3 := cell_later hb k6_3
      have R7_0 := Lib.hid (R6_0.out.later hb)
      have R7_1 := Lib.hid (R6_1.out.later hb)
      have R7_2 := Lib.hid (R6_2.out.later hb)
      have R7_3 := Lib.hid (L4.out.later hb)
      have B7 : Hid (Below w.heap.size w wF) := Lib.hid (below_then B6.out hb)
      clear k6_0 k6_1 k6_2 k6_3 R6_0 R6_1 R6_2 L4 B6
      have z7_0 := World.block_lt_of_cell? _ _ k7_0
      (try dsimp only at z7_0)
      have z7_2 := World.block_lt_of_cell? _ _ k7_2
      (try dsimp only at z7_2)
      have zn7 : wE.heap.size < wF.heap.size := by rw [hw_]; simp
      clear hb hw_
      refine (HG.out _ R7_0.out).mono ?_
      rintro e_ wG ⟨rfl, hb⟩
      have k8_0 := cell_later hb k7_0
      have k8_1 := cell_later hb k7_1
      have k8_2 := cell_later hb k7_2
      have k8_3 := cell_later hb k7_3
      have k8_4 := cell_later hb n7_0
      have k8_5 := cell_later hb n7_1
      have R8_0 := Lib.hid (R7_0.out.later hb)
      have R8_1 := Lib.hid (R7_1.out.later hb)
      have R8_2 := Lib.hid (R7_2.out.later hb)
      have R8_3 := Lib.hid (R7_3.out.later hb)
      have B8 : Hid (Below w.heap.size w wG) := Lib.hid (below_then B7.out hb)
      clear k7_0 k7_1 k7_2 k7_3 n7_0 n7_1 R7_0 R7_1 R7_2 R7_3 B7
      have z8_0 := World.block_lt_of_cell? _ _ k8_0
      (try dsimp only at z8_0)
      have z8_2 := World.block_lt_of_cell? _ _ k8_2
      (try dsimp only at z8_2)
      have z8_4 := World.block_lt_of_cell? _ _ k8_4
      (try dsimp only at z8_4)
      clear hb
      go_wp2_with fail
      refine (HSA.out _ _ _ _ _ _ _ _ _ R8_2.out R8_3.out).mono ?_
      rintro e_ wH ⟨rfl, hb⟩
      have k9_0 := cell_later hb k8_0
      have k9_1 := cell_later hb k8_1
      have k9_2 := cell_later hb k8_2
      have k9_3 := cell_later hb k8_3
      have k9_4 := cell_later hb k8_4
      have k9_5 := cell_later hb k8_5
      have R9_0 := Lib.hid (R8_0.out.later hb)
      have R9_1 := Lib.hid (R8_1.out.later hb)
      have R9_2 := Lib.hid (R8_2.out.later hb)
      have R9_3 := Lib.hid (R8_3.out.later hb)
      have B9 : Hid (Below w.heap.size w wH) := Lib.hid (below_then B8.out hb)
      clear k8_0 k8_1 k8_2 k8_3 k8_4 k8_5 R8_0 R8_1 R8_2 R8_3 B8
      have z9_0 := World.block_lt_of_cell? _ _ k9_0
      (try dsimp only at z9_0)
      have z9_2 := World.block_lt_of_cell? _ _ k9_2
      (try dsimp only at z9_2)
      have z9_4 := World.block_lt_of_cell? _ _ k9_4
      (try dsimp only at z9_4)
      clear hb
      go_wp2_with fail
      refine (HB.out _ R9_1.out).mono ?_
      rintro e_ wI ⟨x5, A5, m5, c5, rfl, lw5, hB5, hL5, hb⟩
      have k10_0 := cell_later hb k9_0
      have k10_1 := cell_later hb k9_1
      have k10_2 := cell_later hb k9_2
      have k10_3 := cell_later hb k9_3
      have k10_4 := cell_later hb k9_4
      have k10_5 := cell_later hb k9_5
      have R10_0 := Lib.hid (R9_0.out.later hb)
      have R10_1 := Lib.hid (R9_1.out.later hb)
      have B10 : Hid (Below w.heap.size w wI) := Lib.hid (below_then B9.out hb)
      clear k9_0 k9_1 k9_2 k9_3 k9_4 k9_5 R9_0 R9_1 B9
      have z10_0 := World.block_lt_of_cell? _ _ k10_0
      (try dsimp only at z10_0)
      have z10_2 := World.block_lt_of_cell? _ _ k10_2
      (try dsimp only at z10_2)
      have z10_4 := World.block_lt_of_cell? _ _ k10_4
      (try dsimp only at z10_4)
      clear hb
      have L5 := Lib.hid lw5
      clear lw5 hB5 hL5
      go_wp2_with fail
      obtain ⟨wJ, hw_⟩ : ∃ q_, q_ = wI.alloc (.cells #[.int .i64 x5, .slice A5 m5 c5] 24) := ⟨_, rfl⟩
      rw [← hw_]
      have hb : Below wI.heap.size wI wJ := by rw [hw_]; exact (Below.refl _ _).alloc (Nat.le_refl _) _
      have n11_0 : wJ.cell? ⟨wI.heap.size, 0, none⟩ = some (.int .i64 x5) := by rw [hw_]; simp [go_sem]
      have n11_1 : wJ.cell? ⟨wI.heap.size, 1, none⟩ = some (.slice A5 m5 c5) := by rw [hw_]; simp [go_sem]
      have k11_0 := cell_later hb k10_0
      have k11_1 := cell_later hb k10_1
      have k11_2 := cell_later hb k10_2
      have k11_3 := cell_later hb k10_3
      have k11_4 := cell_later hb k10_4
      have k11_5 := cell_later hb k10_5
      have R11_0 := Lib.hid (R10_0.out.later hb)
      have R11_1 := Lib.hid (R10_1.out.later hb)
      have R11_2 := Lib.hid (L5.out.later hb)
      have B11 : Hid (Below w.heap.size w wJ) := Lib.hid (below_then B10.out hb)
      clear k10_0 k10_1 k10_2 k10_3 k10_4 k10_5 R10_0 R10_1 L5 B10
      have z11_0 := World.block_lt_of_cell? _ _ k11_0
      (try dsimp only at z11_0)
      have z11_2 := World.block_lt_of_cell? _ _ k11_2
      (try dsimp only at z11_2)
      have z11_4 := World.block_lt_of_cell? _ _ k11_4
      (try dsimp only at z11_4)
      have zn11 : wI.heap.size < wJ.heap.size := by rw [hw_]; simp
      clear hb hw_
      refine (HLE.out _ R11_0.out).mono ?_
      rintro e_ wK ⟨rfl, hb⟩
      have k12_0 := cell_later hb k11_0
      have k12_1 := cell_later hb k11_1
      have k12_2 := cell_later hb k11_2
      have k12_3 := cell_later hb k11_3
      have k12_4 := cell_later hb k11_4
      have k12_5 := cell_later hb k11_5
      have k12_6 := cell_later hb n11_0
      have k12_7 := cell_later hb n11_1
      have R12_0 := Lib.hid (R11_0.out.later hb)
      have R12_1 := Lib.hid (R11_1.out.later hb)
      have R12_2 := Lib.hid (R11_2.out.later hb)
      have B12 : Hid (Below w.heap.size w wK) := Lib.hid (below_then B11.out hb)
      clear k11_0 k11_1 k11_2 k11_3 k11_4 k11_5 n11_0 n11_1 R11_0 R11_1 R11_2 B11
      have z12_0 := World.block_lt_of_cell? _ _ k12_0
      (try dsimp only at z12_0)
      have z12_2 := World.block_lt_of_cell? _ _ k12_2
      (try dsimp only at z12_2)
      have z12_4 := World.block_lt_of_cell? _ _ k12_4
      (try dsimp only at z12_4)
      have z12_6 := World.block_lt_of_cell? _ _ k12_6
      (try dsimp only at z12_6)
      clear hb
      by_cases hE : ed = 0
      · obtain ⟨e2, HSC⟩ := HSB.out hE
        have HSD := Lib.hid HSC
        clear HSC
        subst hE
        subst e2
        go_wp2_with fail
        refine (HSD.out _ _ _ _ _ R12_2.out R12_0.out).mono ?_
        rintro e_ wL ⟨rfl, hb⟩
        have k13_0 := cell_later hb k12_0
        have k13_1 := cell_later hb k12_1
        have k13_2 := cell_later hb k12_2
        have k13_3 := cell_later hb k12_3
        have k13_4 := cell_later hb k12_4
        have k13_5 := cell_later hb k12_5
        have k13_6 := cell_later hb k12_6
        have k13_7 := cell_later hb k12_7
        have R13_0 := Lib.hid (R12_0.out.later hb)
        have R13_1 := Lib.hid (R12_1.out.later hb)
        have R13_2 := Lib.hid (R12_2.out.later hb)
        have B13 : Hid (Below w.heap.size w wL) := Lib.hid (below_then B12.out hb)
        clear k12_0 k12_1 k12_2 k12_3 k12_4 k12_5 k12_6 k12_7 R12_0 R12_1 R12_2 B12
        have z13_0 := World.block_lt_of_cell? _ _ k13_0
        (try dsimp only at z13_0)
        have z13_2 := World.block_lt_of_cell? _ _ k13_2
        (try dsimp only at z13_2)
        have z13_4 := World.block_lt_of_cell? _ _ k13_4
        (try dsimp only at z13_4)
        have z13_6 := World.block_lt_of_cell? _ _ k13_6
        (try dsimp only at z13_6)
        clear hb
        go_wp2
        go_ret
        exact ⟨by simp, B13.out⟩
      · have n1 : (ed == 0) = false := by simpa using hE
        have n2 : (ed != 0) = true := by simpa using hE
        clear hE HSB HB HP
        go_wp2
        go_ret
        exact ⟨by simp, B12.out⟩
    · have h2' : (200 : Int) < (s.size : Int) := by omega
      clear hB ht
      go_enter Tryz.func3, Tryz.ntmps3
      go_wp2_with fail
      refine (AWK.out _ (LH.out.later (by repeat (first | exact Below.refl _ _ | refine Below.drew ?_ | refine below_drewN ?_ _ | refine Below.setCell ?_ (by first | omega | (simp; done) | (simp; omega)) _ | refine Below.alloc ?_ (by first | omega | (simp; done) | (simp; omega)) _)))).mono ?_
      rintro e w1 ⟨rfl, hb1⟩
      have qw10 : w1.cell? ⟨w.heap.size, 0, none⟩ = some (.int .i64 d.ck) := cell_later hb1 (by simp [go_sem])
      have qw11 : w1.cell? ⟨w.heap.size, 1, none⟩ = some (.slice B d.n e) := cell_later hb1 (by simp [go_sem])
      have zqw1_0 := World.block_lt_of_cell? _ _ qw10
      dsimp only at zqw1_0
      have H1 : Hid (Below w.heap.size w w1) := Lib.hid (below_after (by repeat (first | exact Below.refl _ _ | refine Below.drew ?_ | refine below_drewN ?_ _ | refine Below.setCell ?_ (by first | omega | (simp; done) | (simp; omega)) _ | refine Below.alloc ?_ (by first | omega | (simp; done) | (simp; omega)) _)) hb1 (by first | omega | (simp; done) | (simp; omega))); clear hb1
      go_wp2_with (go_at_call 5; (with_reducible refine (few_any _ _).mono ?_); rw [FD.out]; rintro e w' ⟨rfl, rfl⟩)
      go_ret
      exact ⟨rfl, H1.out⟩
  · have FD : Hid (decide ((d.n : Int) ≤ 18) = false) := Lib.hid (by simp; omega)
    clear h1 hB ht
    go_enter Tryz.func3, Tryz.ntmps3
    go_wp2_with fail
    refine (AWK.out _ (LH.out.later (by repeat (first | exact Below.refl _ _ | refine Below.drew ?_ | refine below_drewN ?_ _ | refine Below.setCell ?_ (by first | omega | (simp; done) | (simp; omega)) _ | refine Below.alloc ?_ (by first | omega | (simp; done) | (simp; omega)) _)))).mono ?_
    rintro e w1 ⟨rfl, hb1⟩
    have qw10 : w1.cell? ⟨w.heap.size, 0, none⟩ = some (.int .i64 d.ck) := cell_later hb1 (by simp [go_sem])
    have qw11 : w1.cell? ⟨w.heap.size, 1, none⟩ = some (.slice B d.n e) := cell_later hb1 (by simp [go_sem])
    have zqw1_0 := World.block_lt_of_cell? _ _ qw10
    dsimp only at zqw1_0
    have H1 : Hid (Below w.heap.size w w1) := Lib.hid (below_after (by repeat (first | exact Below.refl _ _ | refine Below.drew ?_ | refine below_drewN ?_ _ | refine Below.setCell ?_ (by first | omega | (simp; done) | (simp; omega)) _ | refine Below.alloc ?_ (by first | omega | (simp; done) | (simp; omega)) _)) hb1 (by first | omega | (simp; done) | (simp; omega))); clear hb1
    go_wp2_with (go_at_call 5; (with_reducible refine (few_any _ _).mono ?_); rw [FD.out]; rintro e w' ⟨rfl, rfl⟩)
    go_ret
    exact ⟨rfl, H1.out⟩
end Go.Proofs.YtnckfbejgkdhhaaGreatDoor
