/- the law of any text, or nothing -/
import Derived.Test.YtnckfbejgkdhhaaGreatDoorSe
import Derived.Test.YtnckfbejgkdhhaaGreatDoorV5
import Derived.Test.YtnckfbejgkdhhaaGreatDoorTlx
namespace Go.Proofs.YtnckfbejgkdhhaaGreatDoor
open Go.RowKit Go.Shelf RayM
set_option linter.unusedSimpArgs false
set_option linter.unusedVariables false
/-- the pieces of a text at spaces -/
def pcs (s : ByteArray) (j : Nat) : ByteArray := ⟨((Tb.cut 32 s.data.toList).getD j []).toArray⟩
def pcn (s : ByteArray) : Nat := s.data.toList.count 32
theorem pcn_le (s : ByteArray) : pcn s ≤ s.size := by
  have := size_data s
  rw [this]; exact List.count_le_length
theorem cut_mem (c : UInt8) : ∀ (l p : List UInt8), p ∈ Tb.cut c l → p.length ≤ l.length
  | [], p, h => by simp [Tb.cut] at h; subst h; simp
  | b :: l, p, h => by
    have ih := cut_mem c l
    simp only [Tb.cut] at h
    split at h
    · rcases List.mem_cons.1 h with rfl | h
      · simp
      · have := ih p h; simp; omega
    · cases hq : Tb.cut c l with
      | nil => exact absurd hq (Tb.cut_ne c l)
      | cons q r =>
        rw [hq] at h
        rcases List.mem_cons.1 h with rfl | h
        · have := ih q (by rw [hq]; simp); simp; omega
        · have := ih p (by rw [hq]; simp [h]); simp; omega
theorem pcs_size (s : ByteArray) (j : Nat) : (pcs s j).size ≤ s.size := by
  have e := size_data s
  have e' : (pcs s j).size = ((Tb.cut 32 s.data.toList).getD j []).length := by simp [ByteArray.size, pcs]
  rw [e, e']
  by_cases hj : j < (Tb.cut 32 s.data.toList).length
  · rw [List.getD_eq_getElem?_getD, List.getElem?_eq_getElem hj]
    exact cut_mem _ _ _ (List.getElem_mem hj)
  · rw [List.getD_eq_getElem?_getD, List.getElem?_eq_none (by omega)]
    simp
theorem pcs_list (s : ByteArray) (j : Nat) : (pcs s j).data.toList = (Tb.cut 32 s.data.toList).getD j [] := by
  simp [pcs]
theorem countB_pcn (s : ByteArray) : Lib.countB s ⟨#[32]⟩ = pcn s := by
  have : Lib.countB s ⟨#[32]⟩ = Lib.count s.data.toList [32] := rfl
  rw [this, Lib.count_one]; rfl
theorem pieces_eq (s : ByteArray) : (Lib.splitB ⟨#[32]⟩ 0 (pcn s) s).map (·.data.toList) = Tb.cut 32 s.data.toList := by
  rw [Lib.splitB_data]
  exact Tb.split_cut 32 _
theorem pieces_get (s : ByteArray) (j : Nat) (h : j < pcn s + 1) : (Lib.splitB ⟨#[32]⟩ 0 (pcn s) s)[j]? = some (pcs s j) := by
  have e := pieces_eq s
  have hl : (Tb.cut 32 s.data.toList).length = pcn s + 1 := Tb.cut_length 32 _
  have hg : ((Lib.splitB ⟨#[32]⟩ 0 (pcn s) s).map (·.data.toList))[j]? = some ((Tb.cut 32 s.data.toList).getD j []) := by
    rw [e, List.getD_eq_getElem?_getD, List.getElem?_eq_getElem (by omega)]; rfl
  rw [List.getElem?_map] at hg
  cases hq : (Lib.splitB ⟨#[32]⟩ 0 (pcn s) s)[j]? with
  | none => rw [hq] at hg; cases hg
  | some b =>
    rw [hq] at hg
    simp only [Option.map_some, Option.some.injEq] at hg
    congr 1
    unfold pcs
    rw [← hg]
theorem split_any (s : ByteArray) (w : World) (hL : Laid w) (hs : s.size ≤ 1000) : Calls Tryz.prog 21 #[.string s, .string ⟨#[32]⟩] w fun e w' => ∃ g, e = .returned (.slice (some ⟨g, 0, none⟩) (pcn s + 1) (pcn s + 1)) ∧ WsAt g (pcn s + 1) (pcs s) w' ∧ Below w.heap.size w w' := by
  obtain ⟨m, hm⟩ := hL.max
  refine (Tryz.strings_Split _ _ m w (by omega) hm (by decide)).mono ?_
  rintro e w' ⟨he, rfl⟩
  rw [countB_pcn] at he ⊢
  refine ⟨_, he, ?_, below_one _ _⟩
  intro j hj
  have := pieces_get s j hj
  simp [go_sem, this]
/-- the law that a text says, and its error -/
def pcL (s : ByteArray) : Dl := ⟨(wN (pcs s)).1, fun j => (wT (pcs s) j).1, pcn s⟩
def pcE (s : ByteArray) : Int := fst [unl (wOk (pcs s) (pcn s)) 7, (pcL s).E]
theorem dl_pos (d : Dl) (h : d.E = 0) : 0 < d.n := by
  unfold Dl.E at h
  by_cases hc : d.E1 = 0
  · unfold Dl.E1 at hc
    rw [fst_zero] at hc
    have := hc (ctE d.n 16) (by simp)
    have := (ctE_zero _ _).1 this
    omega
  · rw [if_neg hc] at h; exact absurd h hc
theorem pc_pos (s : ByteArray) (h : pcE s = 0) : 0 < pcn s := by
  unfold pcE at h
  rw [fst_zero] at h
  exact dl_pos (pcL s) (h _ (by simp))
set_option maxRecDepth 100000 in
set_option maxHeartbeats 4000000 in
theorem parseLaw_any (s : ByteArray) (w : World) (hE : LaidE w) (hs : s.size ≤ 1000) :
    Calls Tryz.prog 8 #[.string s] w fun e w' => LwP (pcL s).ck (pcL s).t (pcn s) (pcE s) w e w' := by
  have hpos := pc_pos s
  have hpn := pcn_le s
  have hF : pcE s = fst [unl (wOk (pcs s) (pcn s)) 7, (pcL s).E] := rfl
  have hD : pcL s = ⟨(wN (pcs s)).1, fun j => (wT (pcs s) j).1, pcn s⟩ := rfl
  have HF := Lib.hid hF; clear hF
  have HW := Lib.hid (fun g w h k => lawWords_any g (pcn s) (pcs s) w h (fun j => Nat.le_trans (pcs_size s j) hs) (by omega) k)
  have HD0 : Hid (∀ (A : Option Addr) (c : Nat) (w : World), InAt A (pcn s) (pcL s).t w → Calls Tryz.prog 24 #[.agg #[.int .i64 (pcL s).ck, .slice A (pcn s) c]] w fun e w' => e = .returned (.int .i64 (pcL s).E) ∧ Below w.heap.size w w') := Lib.hid (fun A c w h => lawErr_any (pcL s) A c w h (by show pcn s ≤ _; omega))
  have hget : ∀ i, i < pcn s → (wVs (pcs s) (pcn s))[i]? = some (.int .i64 ((pcL s).t i)) := fun i hi => wVs_get (pcs s) (pcn s) i hi
  have hck : (wN (pcs s)).1 = (pcL s).ck := rfl
  rw [hck] at HW
  clear hck hD
  generalize wOk (pcs s) (pcn s) = ok at *
  generalize (pcL s).E = dE at *
  generalize (pcL s).ck = ck at *
  generalize (pcL s).t = tt at *
  generalize pcE s = E at *
  generalize wVs (pcs s) (pcn s) = vs at *
  go_enter Tryz.func8, Tryz.ntmps8
  go_wp2_with fail
  refine (split_any s _ (hE.later (below_one _ _)).laid hs).mono ?_
  rintro e w1 ⟨g, rfl, y, hb1⟩
  have c10 : w1.cell? ⟨w.heap.size, 0, none⟩ = some (.int .i64 0) := cell_later hb1 (by simp [go_sem])
  have c11 : w1.cell? ⟨w.heap.size, 1, none⟩ = some (.slice none 0 0) := cell_later hb1 (by simp [go_sem])
  have f10 : w1.frozen? ⟨w.heap.size, 0, none⟩ = false := frozen_after hb1 (v := .int .i64 0) (by simp [go_sem]) (by simp [go_sem])
  have f11 : w1.frozen? ⟨w.heap.size, 1, none⟩ = false := frozen_after hb1 (v := .slice none 0 0) (by simp [go_sem]) (by simp [go_sem])
  have s1 := hb1.size
  simp at s1
  have H1 : Hid (Below w.heap.size w w1) := Lib.hid ((below_one w _).trans (hb1.mono (by simp)))
  clear hb1
  go_wp2_with fail
  refine (HW.out g w1 (hE.later H1.out) y).mono ?_
  rintro e w2 ⟨v, rfl, hown, hb2⟩
  have c20 := cell_later hb2 c10; have c21 := cell_later hb2 c11
  have f20 := frozen_after hb2 c10 f10; have f21 := frozen_after hb2 c11 f11
  have s2 := hb2.size
  have H2 : Hid (Below w.heap.size w w2) := Lib.hid (below_then H1.out hb2)
  have HB2 := Lib.hid hb2
  clear hb2 c10 c11 f10 f11 y H1 HW
  have hI0 := own_ints hget hown
  obtain ⟨A, c, rfl, hr⟩ := own_form hown
  have hI : InAt A (pcn s) tt w2 := by
    obtain ⟨A', c', e', hi⟩ := hI0
    injection e' with e1 e2 e3
    subst e1
    exact hi
  have hr' : E = 0 → ∃ g', A = some ⟨g', 0, none⟩ ∧ w1.heap.size ≤ g' ∧ g' < w2.heap.size := fun q => by
    obtain ⟨g', q1, q2, q3, _⟩ := hr (hpos q)
    exact ⟨g', q1, q2, q3⟩
  have HR := Lib.hid hr'
  have HI := Lib.hid hI
  clear hown hI hI0 hr hr' hget
  have HD := Lib.hid (HD0.out A c)
  go_wp2
  obtain ⟨w3, hw3⟩ : ∃ q, q = w2.alloc (.cells #[.int .i64 ck, .slice A (pcn s) c] 24) := ⟨_, rfl⟩
  rw [← hw3]
  have hb3 : Below w2.heap.size w2 w3 := by rw [hw3]; exact below_one _ _
  have d0 : w3.cell? ⟨w2.heap.size, 0, none⟩ = some (.int .i64 ck) := by rw [hw3]; simp [go_sem]
  have d1 : w3.cell? ⟨w2.heap.size, 1, none⟩ = some (.slice A (pcn s) c) := by rw [hw3]; simp [go_sem]
  have c30 := cell_later hb3 c20; have c31 := cell_later hb3 c21
  have f30 := frozen_after hb3 c20 f20; have f31 := frozen_after hb3 c21 f21
  have HI3 := Lib.hid (HI.out.later hb3)
  have H3 : Hid (Below w.heap.size w w3) := Lib.hid (below_then H2.out hb3)
  have s3 := hb3.size
  clear hb3 hw3 c20 c21 f20 f21 H2 HI
  have r0 := Below.refl w3.heap.size w3
  go_region_held3 (fun w' => w'.cell? ⟨w2.heap.size, 0, none⟩ = some (.int .i64 ck) ∧ w'.cell? ⟨w2.heap.size, 1, none⟩ = some (.slice A (pcn s) c) ∧ Below w3.heap.size w3 w') (((go_split_ands; (repeat' apply And.intro) <;> first | (with_reducible assumption) | exact cell_later (by assumption) (by assumption) | exact frozen_after (by assumption) (by assumption) (by assumption) | exact below_then (by assumption) (by assumption) | exact below_alloc_top (by assumption) _ | exact cell_alloc_later (by assumption) _ | exact frozen_alloc_later (by assumption) (by assumption) _ | exact Below.drew (by assumption) | (simp [go_sem, World.cell?_alloc_past, *]; done))))
    (first
      | (go_split_ands; go_at_call 24; (with_reducible refine (HD.out _ (HI3.out.later (by with_reducible assumption))).mono ?_); rintro e w' ⟨rfl, hb⟩)
      | (go_at_call 23; (with_reducible refine (unless_any _ _ _).mono ?_); rintro e w' ⟨rfl, rfl⟩)
      | (go_at_call 22; refine (firstError_any _ [unl ok 7, dE] _ (by simp) (by first | exact cells_drew _ _ (by simp) _ _ | exact cells_new _ _ (by simp) _ _)).mono ?_; rw [← HF.out]; rintro e w' ⟨rfl, rfl⟩))
  go_split_ands
  rename_i k0 k1 kb
  obtain ⟨w4, hw4⟩ : ∃ q, q = w'.alloc (.cells #[.int .i64 (unl ok 7), .int .i64 dE] 29) := ⟨_, rfl⟩
  rw [← hw4] at k0 k1 kb ⊢
  have c40 := cell_later kb c30; have c41 := cell_later kb c31
  have f40 := frozen_after kb c30 f30; have f41 := frozen_after kb c31 f31
  have HI4 := Lib.hid (HI3.out.later kb)
  have H4 : Hid (Below w.heap.size w w4) := Lib.hid (below_then H3.out kb)
  have s4 := kb.size
  clear kb hw4 c30 c31 f30 f31 d0 d1 H3 HI3 HD r0 hb HF
  by_cases hE0 : E = 0
  · obtain ⟨g', rfl, hg1, hg2⟩ := HR.out hE0
    subst hE0
    go_wp2
    exact bodyPost_ret (v := .tuple #[.agg #[.int .i64 ck, .slice (some ⟨g', 0, none⟩) (pcn s) c], .int .i64 0]) (by simp [results, Tryz.results8, go_sem, World.cell?_alloc_past, *]) rfl
      (LwP.good rfl (by omega) (by simp; omega) ((HI4.out.set w.heap.size 0 _ (fun a ha => by cases ha; dsimp only; omega)).set w.heap.size 1 _ (fun a ha => by cases ha; dsimp only; omega)) ((H4.out.setCell (Nat.le_refl _) _).setCell (Nat.le_refl _) _))
  · go_wp2
    exact bodyPost_ret (v := .tuple #[.agg #[.int .i64 0, .slice none 0 0], .int .i64 E]) (by simp [results, Tryz.results8, go_sem, World.cell?_alloc_past, *]) rfl
      (LwP.bad hE0 rfl ((H4.out.setCell (Nat.le_refl _) _).setCell (Nat.le_refl _) _))
end Go.Proofs.YtnckfbejgkdhhaaGreatDoor
