/- the reference: errors -/
import Derived.Test.YtkkaomgdlnejcaaGreatDoorB4
namespace Go.Proofs.YtkkaomgdlnejcaaGreatDoor
open Go.RowKit RayM
set_option linter.unusedSimpArgs false
set_option linter.unusedVariables false

set_option maxRecDepth 100000 in
set_option maxHeartbeats 1000000 in
theorem within_any (n l m : Int) (w : World) :
    Calls Tryz.prog 16 #[.int .i64 n, .int .i64 l, .int .i64 m] w fun e w' => e = .returned (.bool (inB n l m)) ∧ w = w' := by
  by_cases h1 : l ≤ n
  · by_cases h2 : n ≤ m
    · go_enter Tryz.func16, Tryz.ntmps16
      go_wp2
      go_ret
      exact ⟨by simp [inB, h1, h2], rfl⟩
    · go_enter Tryz.func16, Tryz.ntmps16
      go_wp2
      go_ret
      exact ⟨by simp [inB, h1]; omega, rfl⟩
  · go_enter Tryz.func16, Tryz.ntmps16
    go_wp2
    go_ret
    exact ⟨by simp [inB]; omega, rfl⟩
set_option maxRecDepth 100000 in
set_option maxHeartbeats 1000000 in
theorem speedErr_any (v : Int) (w : World) :
    Calls Tryz.prog 106 #[.int .i64 v] w fun e w' => e = .returned (.int .i64 (unl (inB v 500 10000) 2)) ∧ w = w' := by
  cases h : inB v 500 10000
  · go_enter Tryz.func106, Tryz.ntmps106
    go_wp2_with (go_at_call 16; refine (within_any _ _ _ _).mono ?_; rintro e w' ⟨rfl, rfl⟩)
    go_ret
    exact ⟨rfl, rfl⟩
  · go_enter Tryz.func106, Tryz.ntmps106
    go_wp2_with (go_at_call 16; refine (within_any _ _ _ _).mono ?_; rintro e w' ⟨rfl, rfl⟩)
    go_ret
    exact ⟨rfl, rfl⟩
set_option maxRecDepth 100000 in
set_option maxHeartbeats 1000000 in
theorem firstOf_any (b : Nat) (l : List Int) (w : World) (hl : l.length ≤ 20)
    (hc : ∀ i, i < l.length → w.cell? ⟨b, i, none⟩ = some (.int .i64 (l.getD i 0))) :
    Calls Tryz.prog 105 #[.slice (some ⟨b, 0, none⟩) l.length l.length] w fun e w' => e = .returned (.int .i64 (fst l)) ∧ w = w' := by
  go_enter Tryz.func105, Tryz.ntmps105
  go_wp2
  go_loop [3] (fun i => ∃ k : Nat, k ≤ l.length ∧ i = .int .i64 k ∧ fst (l.drop k) = fst l) (fun i => l.length - (intOf i).toNat)
  case atStart => exact ⟨0, Nat.zero_le _, rfl, by simp⟩
  case round =>
    obtain ⟨k, hk, rfl, hf⟩ := hrel
    by_cases hlt : k < l.length
    · have hcell := hc k hlt
      have hd := fst_drop l k hlt
      rw [hf] at hd
      have HD : Hid (fst l = if l.getD k 0 = 0 then fst (l.drop (k + 1)) else l.getD k 0) := hd
      clear hd hf hc
      generalize l.getD k 0 = x at *
      by_cases hx : x = 0
      · subst hx
        go_wp2
        go_round
        case rel => exact ⟨k + 1, by omega, by go_num, by rw [HD.out]; simp⟩
        case measure => simp [intOf]; omega
      · have hx' : (x != 0) = true := by simpa using hx
        go_wp2
        go_ret
        exact ⟨by rw [HD.out, if_neg hx]; rfl, rfl⟩
    · have he : k = l.length := by omega
      have HF := Lib.hid hf
      clear hf
      go_wp2
      go_ret
      exact ⟨by rw [← HF.out, he]; simp [fst], rfl⟩
theorem fst_two_more (a b : Int) (l : List Int) (h : fst [a, b] ≠ 0) : fst (a :: b :: l) = fst [a, b] := by
  simp only [fst] at *
  split
  · split
    · simp_all
    · rfl
  · rfl
theorem fst_two_zero (a b : Int) (l : List Int) (h : fst [a, b] = 0) : fst (a :: b :: l) = fst l := by
  simp only [fst] at *
  by_cases ha : a = 0
  · by_cases hb : b = 0
    · simp [ha, hb]
    · simp_all
  · simp_all
set_option maxRecDepth 100000 in
set_option maxHeartbeats 1000000 in
/-- CheckMode of the reference -/
theorem refMode_any (m : Mo) (w : World) :
    Calls Tryz.prog 82 #[.agg #[.int .i64 m.wd, .int .i64 m.mt, .int .i64 m.sk, .int .i64 m.th]] w fun e w' => e = .returned (.int .i64 (moE m)) ∧ Below w.heap.size w w' := by
  by_cases hz : fst [unl (inB m.wd 500 10000) 2, unl (inB m.mt 500 10000) 2] = 0
  · have hv : moE m = fst [unl (inB m.sk 0 4) 2, unl (inB m.th 2 20000) 2] := by unfold moE; exact fst_two_zero _ _ _ hz
    have HZ := Lib.hid hz; have HV := Lib.hid hv; clear hz hv
    cases h3 : inB m.sk 0 4 <;> cases h4 : inB m.th 2 20000
    all_goals
      go_enter Tryz.func82, Tryz.ntmps82
      go_wp2
      go_region_held3 (fun w' => w'.cell? ⟨w.heap.size, 0, none⟩ = some (.int .i64 m.wd) ∧ w'.cell? ⟨w.heap.size, 1, none⟩ = some (.int .i64 m.mt) ∧ w'.cell? ⟨w.heap.size, 2, none⟩ = some (.int .i64 m.sk) ∧ w'.cell? ⟨w.heap.size, 3, none⟩ = some (.int .i64 m.th)) (simp [go_sem, World.cell?_alloc_past])
        (first
          | (go_at_call 106; refine (speedErr_any _ _).mono ?_; rintro e w' ⟨rfl, rfl⟩)
          | (go_at_call 105; refine (firstOf_any _ [unl (inB m.wd 500 10000) 2, unl (inB m.mt 500 10000) 2] _ (by simp) (by first | exact cells_drew _ _ (by simp) _ _ | exact cells_new _ _ (by simp) _ _)).mono ?_; rintro e w' ⟨rfl, rfl⟩))
      rw [HZ.out]
      go_wp2_with (go_at_call 16; refine (within_any _ _ _ _).mono ?_; rintro e w' ⟨rfl, rfl⟩)
      go_ret
      exact ⟨by rw [HV.out]; simp [h3, h4, unl, fst], (by repeat (first | exact Below.refl _ _ | refine Below.drew ?_ | refine below_drewN ?_ _ | refine Below.setCell ?_ (by first | omega | (simp; done) | (simp; omega)) _ | refine Below.alloc ?_ (by first | omega | (simp; done) | (simp; omega)) _))⟩
  · have hv : moE m = fst [unl (inB m.wd 500 10000) 2, unl (inB m.mt 500 10000) 2] := by unfold moE; exact fst_two_more _ _ _ hz
    have n0 : (fst [unl (inB m.wd 500 10000) 2, unl (inB m.mt 500 10000) 2] != 0) = true := by simpa using hz
    have HV := Lib.hid hv; clear hz hv
    go_enter Tryz.func82, Tryz.ntmps82
    go_wp2
    go_region_held3 (fun w' => w'.cell? ⟨w.heap.size, 0, none⟩ = some (.int .i64 m.wd) ∧ w'.cell? ⟨w.heap.size, 1, none⟩ = some (.int .i64 m.mt) ∧ w'.cell? ⟨w.heap.size, 2, none⟩ = some (.int .i64 m.sk) ∧ w'.cell? ⟨w.heap.size, 3, none⟩ = some (.int .i64 m.th)) (simp [go_sem, World.cell?_alloc_past])
      (first
        | (go_at_call 106; refine (speedErr_any _ _).mono ?_; rintro e w' ⟨rfl, rfl⟩)
        | (go_at_call 105; refine (firstOf_any _ [unl (inB m.wd 500 10000) 2, unl (inB m.mt 500 10000) 2] _ (by simp) (by first | exact cells_drew _ _ (by simp) _ _ | exact cells_new _ _ (by simp) _ _)).mono ?_; rintro e w' ⟨rfl, rfl⟩))
    go_wp2
    go_ret
    exact ⟨by rw [HV.out]; rfl, (by repeat (first | exact Below.refl _ _ | refine Below.drew ?_ | refine below_drewN ?_ _ | refine Below.setCell ?_ (by first | omega | (simp; done) | (simp; omega)) _ | refine Below.alloc ?_ (by first | omega | (simp; done) | (simp; omega)) _))⟩
set_option maxRecDepth 100000 in
set_option maxHeartbeats 1000000 in
/-- Unfolded of the reference -/
theorem refUnfolded_any (m : Mo) (o : m.ok) (z : Int) (w : World) (h0 : 0 < z) (h1 : z < m.th) :
    Calls Tryz.prog 142 #[.agg #[.int .i64 m.wd, .int .i64 m.mt, .int .i64 m.sk, .int .i64 m.th], .int .i64 z] w fun e w' => e = .returned (.int .i64 (m.unf z)) ∧ Below w.heap.size w w' := by
  obtain ⟨u1, u2, u3, u4⟩ := unf_bounds m o z h0 h1
  have hu : m.unf z = if m.sk % 2 = 0 then m.sk * m.th + z else m.sk * m.th + (m.th - z) := rfl
  have HU := Lib.hid hu
  obtain ⟨a1, a2, b1, b2, c1, c2, d1, d2⟩ := o
  clear hu u1 u2 a1 a2 b1 b2
  by_cases hp : m.sk % 2 = 0
  · have n0 : (m.sk % 2 == 0) = true := by simp [hp]
    have HP := Lib.hid hp; clear hp
    go_enter Tryz.func142, Tryz.ntmps142
    go_wp2
    go_ret
    exact ⟨by rw [HU.out, if_pos HP.out]; rfl, (by repeat (first | exact Below.refl _ _ | refine Below.drew ?_ | refine below_drewN ?_ _ | refine Below.setCell ?_ (by first | omega | (simp; done) | (simp; omega)) _ | refine Below.alloc ?_ (by first | omega | (simp; done) | (simp; omega)) _))⟩
  · have n0 : (m.sk % 2 == 0) = false := by simp [hp]
    have HP := Lib.hid hp; clear hp
    go_enter Tryz.func142, Tryz.ntmps142
    go_wp2
    go_ret
    exact ⟨by rw [HU.out, if_neg HP.out, ← Int.add_sub_assoc]; rfl, (by repeat (first | exact Below.refl _ _ | refine Below.drew ?_ | refine below_drewN ?_ _ | refine Below.setCell ?_ (by first | omega | (simp; done) | (simp; omega)) _ | refine Below.alloc ?_ (by first | omega | (simp; done) | (simp; omega)) _))⟩
set_option maxRecDepth 100000 in
set_option maxHeartbeats 1000000 in
theorem spotErr_any (x z : Int) (w : World) :
    Calls Tryz.prog 61 #[.agg #[.int .i64 x, .int .i64 z]] w fun e w' => e = .returned (.int .i64 (placeE x z)) ∧ Below w.heap.size w w' := by
  have hv : placeE x z = fst [unl (inB x (-100000) 100000) 2, unl (inB z (-100000) 100000) 2] := rfl
  have HV := Lib.hid hv; clear hv
  cases h3 : inB x (-100000) 100000 <;> cases h4 : inB z (-100000) 100000
  all_goals
    go_enter Tryz.func61, Tryz.ntmps61
    go_wp2_with (go_at_call 16; refine (within_any _ _ _ _).mono ?_; rintro e w' ⟨rfl, rfl⟩)
    go_ret
    exact ⟨by rw [HV.out]; simp [h3, h4, unl, fst], (by repeat (first | exact Below.refl _ _ | refine Below.drew ?_ | refine below_drewN ?_ _ | refine Below.setCell ?_ (by first | omega | (simp; done) | (simp; omega)) _ | refine Below.alloc ?_ (by first | omega | (simp; done) | (simp; omega)) _))⟩

/-- Unfolded -/
def unE (m : Mo) (z : Int) : Int := fst [moE m, unl (dpB z m.th) 22]
end Go.Proofs.YtkkaomgdlnejcaaGreatDoor
