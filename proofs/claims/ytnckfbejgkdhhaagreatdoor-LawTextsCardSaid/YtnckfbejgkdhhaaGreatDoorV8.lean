/- FocusLaw, Sending -/
import Derived.Test.YtnckfbejgkdhhaaGreatDoorV6
namespace Go.Proofs.YtnckfbejgkdhhaaGreatDoor
open Go.RowKit Go.Shelf RayM
set_option linter.unusedSimpArgs false
set_option linter.unusedVariables false

/-- the law of a focus, with the errors of the array -/
def La.FLE (a : La) (f : Sp) : Int := if a.E = 0 then a.FE f else a.E
def La.FLC (a : La) (f : Sp) : Int := if a.E = 0 then a.FC f else 0
def La.FLX (a : La) (f : Sp) : List Int := if a.E = 0 then a.FX f else []
theorem La.E_zero (a : La) : a.E = 0 ↔ (0 < a.n ∧ a.n ≤ 16) ∧ (∀ i, i < a.n → elE (a.p i) = 0) ∧ a.m.ok ∧ 1 ≤ a.ck ∧ a.ck ≤ 1000000 := by
  have h16 : ctE a.n 16 = 0 ↔ 0 < a.n ∧ a.n ≤ 16 := by rw [ctE_zero]; omega
  have h2 : a.E2 = 0 ↔ (∀ i, i < a.n → elE (a.p i) = 0) ∧ a.m.ok ∧ 1 ≤ a.ck ∧ a.ck ≤ 1000000 := by
    unfold La.E2
    rw [fst_zero]
    simp only [List.mem_cons, List.not_mem_nil, or_false, forall_eq_or_imp, forall_eq, unl_inB _ _ _ _ (show (2 : Int) ≠ 0 by decide), ffE_zero, moE_ok]
    exact Iff.rfl
  unfold La.E
  by_cases h : ctE a.n 16 = 0
  · rw [if_pos h, h2]
    exact ⟨fun q => ⟨h16.1 h, q⟩, fun q => q.2⟩
  · rw [if_neg h]
    exact ⟨fun q => absurd q h, fun q => absurd (h16.2 q.1) h⟩
set_option maxRecDepth 100000 in
set_option maxHeartbeats 1000000 in
theorem focus_any (a : La) (f : Sp) (A : Option Addr) (c : Nat) (w : World) (h : SpAt A a.n a.p w) (hm : a.n ≤ 9223372036854775807) :
    Calls Tryz.prog 13 #[.agg #[.slice A a.n c, .int .i64 a.m.wd, .int .i64 a.m.mt, .int .i64 a.m.sk, .int .i64 a.m.th, .int .i64 a.ck], .agg #[.int .i64 f.x, .int .i64 f.z]] w fun e w' => ∃ v : Value, e = .returned (.tuple #[.agg #[.int .i64 (a.FLC f), v], .int .i64 (a.FLE f)]) ∧ w'.ownsRow w.heap.size 3 1 v (a.FLX f).length ((a.FLX f).map (Value.int .i64)) ∧ Below w.heap.size w w' := by
  have HX := Lib.hid h
  have HA := Lib.hid (fun w h => arrayErr_any a A c w h hm); clear h
  by_cases hE : a.E = 0
  · obtain ⟨⟨n0, n1⟩, _, _, k0, k1⟩ := (La.E_zero a).1 hE
    have HF := Lib.hid (fun w h => focusLaw_any a f A c w h n0 n1 k0 k1)
    have e1 : a.FLE f = a.FE f := by unfold La.FLE; rw [if_pos hE]
    have e2 : a.FLC f = a.FC f := by unfold La.FLC; rw [if_pos hE]
    have e3 : a.FLX f = a.FX f := by unfold La.FLX; rw [if_pos hE]
    rw [e1, e2, e3]; rw [hE] at HA
    generalize a.FE f = vE at *
    generalize a.FC f = vC at *
    generalize a.FX f = vX at *
    clear e1 e2 e3 hE n0 n1 k0 k1
    go_enter Tryz.func13, Tryz.ntmps13
    go_wp2_with fail
    refine (HA.out _ (HX.out.later (by repeat (first | exact Below.refl _ _ | refine Below.drew ?_ | refine below_drewN ?_ _ | refine Below.setCell ?_ (by first | omega | (simp; done) | (simp; omega)) _ | refine Below.alloc ?_ (by first | omega | (simp; done) | (simp; omega)) _)))).mono ?_
    rintro e w1 ⟨rfl, hb1⟩
    have qw10 : w1.cell? ⟨w.heap.size, 0, none⟩ = some (.slice A a.n c) := cell_later hb1 (by simp [go_sem])
    have qw11 : w1.cell? ⟨w.heap.size, 1, none⟩ = some (.int .i64 a.m.wd) := cell_later hb1 (by simp [go_sem])
    have qw12 : w1.cell? ⟨w.heap.size, 2, none⟩ = some (.int .i64 a.m.mt) := cell_later hb1 (by simp [go_sem])
    have qw13 : w1.cell? ⟨w.heap.size, 3, none⟩ = some (.int .i64 a.m.sk) := cell_later hb1 (by simp [go_sem])
    have qw14 : w1.cell? ⟨w.heap.size, 4, none⟩ = some (.int .i64 a.m.th) := cell_later hb1 (by simp [go_sem])
    have qw15 : w1.cell? ⟨w.heap.size, 5, none⟩ = some (.int .i64 a.ck) := cell_later hb1 (by simp [go_sem])
    have qw16 : w1.cell? ⟨w.heap.size + 1, 0, none⟩ = some (.int .i64 f.x) := cell_later hb1 (by simp [go_sem])
    have qw17 : w1.cell? ⟨w.heap.size + 1, 1, none⟩ = some (.int .i64 f.z) := cell_later hb1 (by simp [go_sem])
    have qw18 : w1.cell? ⟨w.heap.size + 1 + 1, 0, none⟩ = some (.int .i64 0) := cell_later hb1 (by simp [go_sem])
    have qw19 : w1.cell? ⟨w.heap.size + 1 + 1, 1, none⟩ = some (.slice none 0 0) := cell_later hb1 (by simp [go_sem])
    have qw1f0 : w1.frozen? ⟨w.heap.size + 1 + 1, 0, none⟩ = false := frozen_after hb1 (v := .int .i64 0) (by simp [go_sem]) (by simp [go_sem])
    have qw1f1 : w1.frozen? ⟨w.heap.size + 1 + 1, 1, none⟩ = false := frozen_after hb1 (v := .slice none 0 0) (by simp [go_sem]) (by simp [go_sem])
    have zqw1_0 := World.block_lt_of_cell? _ _ qw10
    dsimp only at zqw1_0
    have zqw1_6 := World.block_lt_of_cell? _ _ qw16
    dsimp only at zqw1_6
    have zqw1_8 := World.block_lt_of_cell? _ _ qw18
    dsimp only at zqw1_8
    have H1 : Hid (Below w.heap.size w w1) := Lib.hid (below_after (by repeat (first | exact Below.refl _ _ | refine Below.drew ?_ | refine below_drewN ?_ _ | refine Below.setCell ?_ (by first | omega | (simp; done) | (simp; omega)) _ | refine Below.alloc ?_ (by first | omega | (simp; done) | (simp; omega)) _)) hb1 (by first | omega | (simp; done) | (simp; omega))); clear hb1
    go_wp2_with fail
    refine (HF.out _ (HX.out.later H1.out)).mono ?_
    rintro e w2 ⟨v5, rfl, hown5, hb2⟩
    have qw20 : w2.cell? ⟨w.heap.size + 1 + 1, 0, none⟩ = some (.int .i64 0) := cell_later hb2 (by simp [go_sem, World.cell?_alloc_past, World.frozen?_alloc_past, *])
    have qw21 : w2.cell? ⟨w.heap.size + 1 + 1, 1, none⟩ = some (.slice none 0 0) := cell_later hb2 (by simp [go_sem, World.cell?_alloc_past, World.frozen?_alloc_past, *])
    have qw2f0 : w2.frozen? ⟨w.heap.size + 1 + 1, 0, none⟩ = false := frozen_after hb2 (v := .int .i64 0) (by simp [go_sem, World.cell?_alloc_past, World.frozen?_alloc_past, *]) (by simp [go_sem, World.cell?_alloc_past, World.frozen?_alloc_past, *])
    have qw2f1 : w2.frozen? ⟨w.heap.size + 1 + 1, 1, none⟩ = false := frozen_after hb2 (v := .slice none 0 0) (by simp [go_sem, World.cell?_alloc_past, World.frozen?_alloc_past, *]) (by simp [go_sem, World.cell?_alloc_past, World.frozen?_alloc_past, *])
    have zqw2_0 := World.block_lt_of_cell? _ _ qw20
    dsimp only at zqw2_0
    have zz := hb2.size
    have H2 : Hid (Below w.heap.size w w2) := Lib.hid (below_then (by (repeat (first | (with_reducible exact H1.out) | (with_reducible refine Below.setCell ?_ ?_ _) | (with_reducible refine below_alloc_top ?_ _) | (with_reducible refine Below.drew ?_))); all_goals (first | omega | (simp; done) | (simp; omega))) hb2); clear hb2
    obtain ⟨A5, c5, rfl, _⟩ := own_form hown5
    have HO5 := Lib.hid hown5; clear hown5
    go_wp2
    exact bodyPost_ret (v := .tuple #[.agg #[.int .i64 vC, .slice A5 vX.length c5], .int .i64 vE]) (by simp [results, Tryz.results13, go_sem, World.cell?_alloc_past, *]) rfl ⟨.slice A5 vX.length c5, rfl, own_base (own_set (own_set HO5.out (w.heap.size + 1 + 1) 0 _ (by omega)) (w.heap.size + 1 + 1) 1 _ (by omega)) (show w.heap.size ≤ w1.heap.size by omega), (by (repeat (first | (with_reducible exact H2.out) | (with_reducible refine Below.setCell ?_ ?_ _) | (with_reducible refine below_alloc_top ?_ _) | (with_reducible refine Below.drew ?_))); all_goals (first | omega | (simp; done) | (simp; omega)))⟩
  · have e1 : a.FLE f = a.E := by unfold La.FLE; rw [if_neg hE]
    have e2 : a.FLC f = 0 := by unfold La.FLC; rw [if_neg hE]
    have e3 : a.FLX f = [] := by unfold La.FLX; rw [if_neg hE]
    rw [e1, e2, e3]
    have n1 : (a.E != 0) = true := by simpa using hE
    generalize a.E = u0 at *
    clear e1 e2 e3 hE
    go_enter Tryz.func13, Tryz.ntmps13
    go_wp2_with fail
    refine (HA.out _ (HX.out.later (by repeat (first | exact Below.refl _ _ | refine Below.drew ?_ | refine below_drewN ?_ _ | refine Below.setCell ?_ (by first | omega | (simp; done) | (simp; omega)) _ | refine Below.alloc ?_ (by first | omega | (simp; done) | (simp; omega)) _)))).mono ?_
    rintro e w1 ⟨rfl, hb1⟩
    have qw10 : w1.cell? ⟨w.heap.size, 0, none⟩ = some (.slice A a.n c) := cell_later hb1 (by simp [go_sem])
    have qw11 : w1.cell? ⟨w.heap.size, 1, none⟩ = some (.int .i64 a.m.wd) := cell_later hb1 (by simp [go_sem])
    have qw12 : w1.cell? ⟨w.heap.size, 2, none⟩ = some (.int .i64 a.m.mt) := cell_later hb1 (by simp [go_sem])
    have qw13 : w1.cell? ⟨w.heap.size, 3, none⟩ = some (.int .i64 a.m.sk) := cell_later hb1 (by simp [go_sem])
    have qw14 : w1.cell? ⟨w.heap.size, 4, none⟩ = some (.int .i64 a.m.th) := cell_later hb1 (by simp [go_sem])
    have qw15 : w1.cell? ⟨w.heap.size, 5, none⟩ = some (.int .i64 a.ck) := cell_later hb1 (by simp [go_sem])
    have qw16 : w1.cell? ⟨w.heap.size + 1, 0, none⟩ = some (.int .i64 f.x) := cell_later hb1 (by simp [go_sem])
    have qw17 : w1.cell? ⟨w.heap.size + 1, 1, none⟩ = some (.int .i64 f.z) := cell_later hb1 (by simp [go_sem])
    have qw18 : w1.cell? ⟨w.heap.size + 1 + 1, 0, none⟩ = some (.int .i64 0) := cell_later hb1 (by simp [go_sem])
    have qw19 : w1.cell? ⟨w.heap.size + 1 + 1, 1, none⟩ = some (.slice none 0 0) := cell_later hb1 (by simp [go_sem])
    have qw1f0 : w1.frozen? ⟨w.heap.size + 1 + 1, 0, none⟩ = false := frozen_after hb1 (v := .int .i64 0) (by simp [go_sem]) (by simp [go_sem])
    have qw1f1 : w1.frozen? ⟨w.heap.size + 1 + 1, 1, none⟩ = false := frozen_after hb1 (v := .slice none 0 0) (by simp [go_sem]) (by simp [go_sem])
    have zqw1_0 := World.block_lt_of_cell? _ _ qw10
    dsimp only at zqw1_0
    have zqw1_6 := World.block_lt_of_cell? _ _ qw16
    dsimp only at zqw1_6
    have zqw1_8 := World.block_lt_of_cell? _ _ qw18
    dsimp only at zqw1_8
    have H1 : Hid (Below w.heap.size w w1) := Lib.hid (below_after (by repeat (first | exact Below.refl _ _ | refine Below.drew ?_ | refine below_drewN ?_ _ | refine Below.setCell ?_ (by first | omega | (simp; done) | (simp; omega)) _ | refine Below.alloc ?_ (by first | omega | (simp; done) | (simp; omega)) _)) hb1 (by first | omega | (simp; done) | (simp; omega))); clear hb1
    go_wp2
    exact bodyPost_ret (v := .tuple #[.agg #[.int .i64 0, .slice none 0 0], .int .i64 u0]) (by simp [results, Tryz.results13, go_sem, World.cell?_alloc_past, *]) rfl ⟨.slice none 0 0, rfl, World.ownsRow_nil _ _ _ _, (by (repeat (first | (with_reducible exact H1.out) | (with_reducible refine Below.setCell ?_ ?_ _) | (with_reducible refine below_alloc_top ?_ _) | (with_reducible refine Below.drew ?_))); all_goals (first | omega | (simp; done) | (simp; omega)))⟩

/-- the elements that send -/
def sdL (t : Nat → Int) (n : Nat) : List Nat := (List.range n).filter fun i => t i != -1
def sdV (t : Nat → Int) (n : Nat) : List Value := (sdL t n).map fun (i : Nat) => Value.int .i64 (i : Int)
def sdF (t : Nat → Int) (n : Nat) (j : Nat) : Int := ((sdL t n).getD j 0 : Nat)
theorem sdL_yes (t : Nat → Int) (k : Nat) (h : t k ≠ -1) : sdL t (k + 1) = sdL t k ++ [k] := by
  unfold sdL; rw [List.range_succ, List.filter_append]; simp [h]
theorem sdL_no (t : Nat → Int) (k : Nat) (h : t k = -1) : sdL t (k + 1) = sdL t k := by
  unfold sdL; rw [List.range_succ, List.filter_append]; simp [h]
theorem sdV_yes (t : Nat → Int) (k : Nat) (h : t k ≠ -1) : sdV t (k + 1) = sdV t k ++ [.int .i64 (k : Int)] := by unfold sdV; rw [sdL_yes t k h]; simp
theorem sdV_no (t : Nat → Int) (k : Nat) (h : t k = -1) : sdV t (k + 1) = sdV t k := by unfold sdV; rw [sdL_no t k h]
theorem sdL_len (t : Nat → Int) (k : Nat) : (sdL t k).length ≤ k := by
  unfold sdL
  have := List.length_filter_le (fun i => t i != -1) (List.range k)
  simpa using this
theorem sdV_len (t : Nat → Int) (k : Nat) : (sdV t k).length = (sdL t k).length := by simp [sdV]
theorem sdL_mem (t : Nat → Int) (n i : Nat) : i ∈ sdL t n ↔ i < n ∧ t i ≠ -1 := by simp [sdL]
theorem sdF_get (t : Nat → Int) (n j : Nat) (h : j < (sdL t n).length) : ∃ i : Nat, sdF t n j = i ∧ i < n ∧ t i ≠ -1 ∧ (sdL t n)[j]? = some i := by
  refine ⟨(sdL t n)[j], by simp [sdF, h], ?_, ?_, by simp [h]⟩
  · exact ((sdL_mem t n _).1 (List.getElem_mem h)).1
  · exact ((sdL_mem t n _).1 (List.getElem_mem h)).2
theorem sdV_mvs (t : Nat → Int) (n : Nat) : sdV t n = mvs (sdF t n) (sdL t n).length := by
  apply List.ext_getElem
  · simp [sdV, mvs]
  · intro i h1 h2
    have h3 : i < (sdL t n).length := by simpa [sdV] using h1
    simp [sdV, mvs, sdF, h3]
theorem Dl.E_zero (d : Dl) : d.E = 0 ↔ (1 ≤ d.ck ∧ d.ck ≤ 1000000) ∧ (0 < d.n ∧ d.n ≤ 16) ∧ ∀ i, i < d.n → -1 ≤ d.t i ∧ d.t i ≤ 1000000 := by
  have h1 : d.E1 = 0 ↔ (1 ≤ d.ck ∧ d.ck ≤ 1000000) ∧ (0 < d.n ∧ d.n ≤ 16) := by
    unfold Dl.E1
    rw [fst_zero]
    simp only [List.mem_cons, List.not_mem_nil, or_false, forall_eq_or_imp, forall_eq, unl_inB _ _ _ _ (show (2 : Int) ≠ 0 by decide), ctE_zero]
    omega
  unfold Dl.E
  by_cases h : d.E1 = 0
  · rw [if_pos h, ffE_zero]
    unfold Dl.g
    simp only [unl_inB _ _ _ _ (show (2 : Int) ≠ 0 by decide)]
    exact ⟨fun q => ⟨(h1.1 h).1, (h1.1 h).2, q⟩, fun q => q.2.2⟩
  · rw [if_neg h]
    exact ⟨fun q => absurd q h, fun q => absurd (h1.2 ⟨q.1, q.2.1⟩) h⟩
/-- who sends, with the error of the law -/
def Dl.sL (d : Dl) : List Nat := if d.E = 0 then sdL d.t d.n else []
def Dl.sF (d : Dl) (j : Nat) : Int := (d.sL.getD j 0 : Nat)
end Go.Proofs.YtnckfbejgkdhhaaGreatDoor
