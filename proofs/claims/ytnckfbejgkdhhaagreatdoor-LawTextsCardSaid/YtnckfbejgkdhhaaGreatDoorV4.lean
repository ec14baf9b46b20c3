/- which elements and ticks are right -/
import Derived.Test.YtnckfbejgkdhhaaGreatDoorV0
namespace Go.Proofs.YtnckfbejgkdhhaaGreatDoor
open Go.RowKit RayM
set_option linter.unusedSimpArgs false
set_option linter.unusedVariables false

/-- the first error of some, and its number -/
def ffE (g : Nat → Int) : Nat → Nat → Int
  | _, 0 => 0
  | i, m + 1 => if g i = 0 then ffE g (i + 1) m else g i
def ffI (g : Nat → Int) : Nat → Nat → Nat
  | _, 0 => 0
  | i, m + 1 => if g i = 0 then ffI g (i + 1) m else i
theorem ffE_step (g : Nat → Int) (k n : Nat) (h : k < n) : ffE g k (n - k) = if g k = 0 then ffE g (k + 1) (n - (k + 1)) else g k := by
  rw [show n - k = (n - (k + 1)) + 1 by omega]; rfl
theorem ffI_step (g : Nat → Int) (k n : Nat) (h : k < n) : ffI g k (n - k) = if g k = 0 then ffI g (k + 1) (n - (k + 1)) else k := by
  rw [show n - k = (n - (k + 1)) + 1 by omega]; rfl
theorem ffE_from (g : Nat → Int) : ∀ m i, ffE g i m = 0 ↔ ∀ j, i ≤ j → j < i + m → g j = 0
  | 0, i => ⟨fun _ j h1 h2 => by omega, fun _ => rfl⟩
  | m + 1, i => by
    show (if g i = 0 then ffE g (i + 1) m else g i) = 0 ↔ _
    by_cases h : g i = 0
    · rw [if_pos h, ffE_from g m (i + 1)]
      exact ⟨fun q j h1 h2 => by
        by_cases e : j = i
        · rw [e]; exact h
        · exact q j (by omega) (by omega), fun q j h1 h2 => q j (by omega) (by omega)⟩
    · rw [if_neg h]
      exact ⟨fun q => absurd q h, fun q => q i (by omega) (by omega)⟩
theorem ffE_zero (g : Nat → Int) (n : Nat) : ffE g 0 n = 0 ↔ ∀ j, j < n → g j = 0 := by
  rw [ffE_from]; exact ⟨fun q j h => q j (by omega) (by omega), fun q j _ h => q j (by omega)⟩
theorem ffE_congr {g h : Nat → Int} : ∀ m i, (∀ j, i ≤ j → j < i + m → g j = h j) → ffE g i m = ffE h i m
  | 0, _, _ => rfl
  | m + 1, i, e => by
    show (if g i = 0 then ffE g (i + 1) m else g i) = (if h i = 0 then ffE h (i + 1) m else h i)
    rw [e i (by omega) (by omega), ffE_congr m (i + 1) (fun j h1 h2 => e j (by omega) (by omega))]
theorem ffI_congr {g h : Nat → Int} : ∀ m i, (∀ j, i ≤ j → j < i + m → g j = h j) → ffI g i m = ffI h i m
  | 0, _, _ => rfl
  | m + 1, i, e => by
    show (if g i = 0 then ffI g (i + 1) m else i) = (if h i = 0 then ffI h (i + 1) m else i)
    rw [e i (by omega) (by omega), ffI_congr m (i + 1) (fun j h1 h2 => e j (by omega) (by omega))]
/-- the error of an element's place -/
def elE (p : Sp) : Int := fst [placeE p.x p.z, unl (decide (p.z < 0)) 15]
set_option maxRecDepth 100000 in
set_option maxHeartbeats 1000000 in
theorem ca1_any (i : Int) (p : Sp) (w : World) :
    Calls Tryz.prog 85 #[.int .i64 i, .agg #[.int .i64 p.x, .int .i64 p.z]] w fun e w' => e = .returned (.int .i64 (elE p)) ∧ Below w.heap.size w w' := by
  have HP := Lib.hid (fun w => placeError_any p.x p.z w)
  unfold elE
  generalize placeE p.x p.z = u0 at *
  go_enter Tryz.func85, Tryz.ntmps85
  go_wp2
  have hS : Below w.heap.size w (w.alloc (.cells #[.int .i64 p.x, .int .i64 p.z] 45)) := (by repeat (first | exact Below.refl _ _ | refine Below.drew ?_ | refine below_drewN ?_ _ | refine Below.setCell ?_ (by first | omega | (simp; done) | (simp; omega)) _ | refine Below.alloc ?_ (by first | omega | (simp; done) | (simp; omega)) _))
  go_region_held3 (fun w' => w'.cell? ⟨w.heap.size, 0, none⟩ = some (.int .i64 p.x) ∧ w'.cell? ⟨w.heap.size, 1, none⟩ = some (.int .i64 p.z) ∧ Below w.heap.size w w') (((go_split_ands; (repeat' apply And.intro) <;> first | (with_reducible assumption) | exact cell_later (by assumption) (by assumption) | exact frozen_after (by assumption) (by assumption) (by assumption) | exact below_then (by assumption) (by assumption) | exact below_alloc_top (by assumption) _ | exact cell_alloc_later (by assumption) _ | exact frozen_alloc_later (by assumption) (by assumption) _ | exact Below.drew (by assumption) | (simp [go_sem, World.cell?_alloc_past, *]; done))))
    (first
      | (go_at_call 86; (with_reducible refine (HP.out _).mono ?_); rintro e w' ⟨rfl, hb⟩)
      | (go_at_call 23; refine (unless_any _ _ _).mono ?_; rintro e w' ⟨rfl, rfl⟩)
      | (go_at_call 22; refine (firstError_any _ [u0, unl (decide (p.z < 0)) 15] _ (by simp) (by first | exact cells_drew _ _ (by simp) _ _ | exact cells_new _ _ (by simp) _ _)).mono ?_; rintro e w' ⟨rfl, rfl⟩))
  go_split_ands
  go_wp2
  go_ret
  exact ⟨rfl, by first | (with_reducible assumption) | (with_reducible exact Below.drew (by assumption)) | (with_reducible exact below_alloc_top (by assumption) _)⟩
set_option maxRecDepth 100000 in
set_option maxHeartbeats 1000000 in
theorem each_ca (A : Option Addr) (n c : Nat) (p : Nat → Sp) (g : Nat → Int) (w : World) (hm : n ≤ 1000) (h : SpAt A n p w)
    (HC : ∀ i, i < n → ∀ W, Below w.heap.size w W → Calls Tryz.prog 85 #[.int .i64 (i : Int), .agg #[.int .i64 (p i).x, .int .i64 (p i).z]] W fun e w' => e = .returned (.int .i64 (g i)) ∧ Below W.heap.size W w') :
    Calls Tryz.prog 84 #[.slice A n c, .func (.func 85) #[] #[]] w fun e w' => e = .returned (.tuple #[.int .i64 (ffI g 0 n : Nat), .int .i64 (ffE g 0 n)]) ∧ Below w.heap.size w w' := by
  have HX := Lib.hid h; have HC' := Lib.hid HC; clear h HC
  have FS := Lib.hid (ffE_step g); have IS := Lib.hid (ffI_step g)
  generalize hEq : ffE g 0 n = E0 at *
  generalize hIq : ffI g 0 n = I0 at *
  have EQ := Lib.hid hEq; have IQ := Lib.hid hIq; clear hEq hIq
  go_enter Tryz.func84, Tryz.ntmps84
  go_wp2
  go_loopw [11] (fun s11 wr => ∃ k : Nat, k ≤ n ∧ s11 = .int .i64 (k : Int) ∧ ffE g k (n - k) = E0 ∧ ffI g k (n - k) = I0 ∧ Below w.heap.size w wr) (fun s11 _ => n - (intOf s11).toNat)
  case atStart => exact ⟨0, Nat.zero_le _, rfl, EQ.out, IQ.out, Below.refl _ _⟩
  case round =>
    obtain ⟨k, hk, rfl, hE, hI, hb⟩ := hrel
    have HE := Lib.hid hE; have HI := Lib.hid hI; clear hE hI
    have sz := hb.size
    have HB := Lib.hid hb
    by_cases hlt : k < n
    · obtain ⟨a, rfl⟩ := HX.out.some (by omega)
      obtain ⟨e0, e1⟩ := (HX.out.later hb).at hlt
      have j0 : (0 : Int) ≤ (k : Int) := Int.natCast_nonneg _
      have j1 : (k : Int) < (n : Int) := by omega
      have j8 : (k : Int) < 1000 := by omega
      clear hb
      have HL := Lib.hid (fun W => HC'.out k hlt W)
      by_cases hg : g k = 0
      · have HG := Lib.hid hg
        rw [hg] at HL
        clear hg
        go_wp2_with fail
        refine (HL.out _ (by (repeat (first | (with_reducible exact HB.out) | (with_reducible refine Below.setCell ?_ ?_ _) | (with_reducible refine below_alloc_top ?_ _) | (with_reducible refine Below.drew ?_))); all_goals (first | omega | (simp; done) | (simp; omega)))).mono ?_
        rintro e w5 ⟨rfl, hb5⟩
        have H5 : Hid (Below w.heap.size w w5) := Lib.hid (below_then (by (repeat (first | (with_reducible exact HB.out) | (with_reducible refine Below.setCell ?_ ?_ _) | (with_reducible refine below_alloc_top ?_ _) | (with_reducible refine Below.drew ?_))); all_goals (first | omega | (simp; done) | (simp; omega))) hb5)
        clear hb5
        go_wp2
        go_roundw
        case rel => exact ⟨k + 1, by omega, by go_num, by rw [← HE.out, FS.out k n hlt, if_pos HG.out], by rw [← HI.out, IS.out k n hlt, if_pos HG.out], H5.out⟩
        case measure => simp [intOf]; omega
      · have n1 : (g k != 0) = true := by simpa using hg
        have EE : Hid (E0 = g k) := by show _ = _; rw [← HE.out, FS.out k n hlt, if_neg hg]
        have II : Hid (I0 = k) := by show _ = _; rw [← HI.out, IS.out k n hlt, if_neg hg]
        clear hg
        go_wp2_with fail
        refine (HL.out _ (by (repeat (first | (with_reducible exact HB.out) | (with_reducible refine Below.setCell ?_ ?_ _) | (with_reducible refine below_alloc_top ?_ _) | (with_reducible refine Below.drew ?_))); all_goals (first | omega | (simp; done) | (simp; omega)))).mono ?_
        rintro e w5 ⟨rfl, hb5⟩
        have H5 : Hid (Below w.heap.size w w5) := Lib.hid (below_then (by (repeat (first | (with_reducible exact HB.out) | (with_reducible refine Below.setCell ?_ ?_ _) | (with_reducible refine below_alloc_top ?_ _) | (with_reducible refine Below.drew ?_))); all_goals (first | omega | (simp; done) | (simp; omega))) hb5)
        clear hb5
        go_wp2
        go_ret2
        exact ⟨by rw [EE.out, II.out]; rfl, H5.out⟩
    · have hk' : k = n := by omega
      have hE0 : E0 = 0 := by rw [← HE.out, hk', Nat.sub_self]; rfl
      have hI0 : I0 = 0 := by rw [← HI.out, hk', Nat.sub_self]; rfl
      have HE0 := Lib.hid hE0; have HI0 := Lib.hid hI0
      have kk : decide ((k : Int) < (n : Int)) = false := by simp; omega
      clear hE0 hI0 hk'
      go_wp2
      go_ret2
      exact ⟨by rw [HE0.out, HI0.out]; rfl, HB.out⟩
set_option maxRecDepth 100000 in
set_option maxHeartbeats 1000000 in
theorem cl1_any (i t : Int) (w : World) :
    Calls Tryz.prog 66 #[.int .i64 i, .int .i64 t] w fun e w' => e = .returned (.int .i64 (unl (inB t (-1) 1000000) 2)) ∧ Below w.heap.size w w' := by
  go_enter Tryz.func66, Tryz.ntmps66
  go_wp2_with (go_at_call 34; refine (isWithin_any _ _ _ _).mono ?_; rintro e w' ⟨rfl, rfl⟩)
  go_ret
  exact ⟨rfl, Below.refl _ _⟩
set_option maxRecDepth 100000 in
set_option maxHeartbeats 1000000 in
theorem each_cl (A : Option Addr) (n c : Nat) (p : Nat → Int) (g : Nat → Int) (w : World) (hm : n ≤ 1000) (h : InAt A n p w)
    (HC : ∀ i, i < n → ∀ W, Below w.heap.size w W → Calls Tryz.prog 66 #[.int .i64 (i : Int), .int .i64 (p i)] W fun e w' => e = .returned (.int .i64 (g i)) ∧ Below W.heap.size W w') :
    Calls Tryz.prog 65 #[.slice A n c, .func (.func 66) #[] #[]] w fun e w' => e = .returned (.tuple #[.int .i64 (ffI g 0 n : Nat), .int .i64 (ffE g 0 n)]) ∧ Below w.heap.size w w' := by
  have HX := Lib.hid h; have HC' := Lib.hid HC; clear h HC
  have FS := Lib.hid (ffE_step g); have IS := Lib.hid (ffI_step g)
  generalize hEq : ffE g 0 n = E0 at *
  generalize hIq : ffI g 0 n = I0 at *
  have EQ := Lib.hid hEq; have IQ := Lib.hid hIq; clear hEq hIq
  go_enter Tryz.func65, Tryz.ntmps65
  go_wp2
  go_loopw [11] (fun s11 wr => ∃ k : Nat, k ≤ n ∧ s11 = .int .i64 (k : Int) ∧ ffE g k (n - k) = E0 ∧ ffI g k (n - k) = I0 ∧ Below w.heap.size w wr) (fun s11 _ => n - (intOf s11).toNat)
  case atStart => exact ⟨0, Nat.zero_le _, rfl, EQ.out, IQ.out, Below.refl _ _⟩
  case round =>
    obtain ⟨k, hk, rfl, hE, hI, hb⟩ := hrel
    have HE := Lib.hid hE; have HI := Lib.hid hI; clear hE hI
    have sz := hb.size
    have HB := Lib.hid hb
    by_cases hlt : k < n
    · obtain ⟨a, rfl⟩ := HX.out.some (by omega)
      have e0 := (HX.out.later hb).at hlt
      have j0 : (0 : Int) ≤ (k : Int) := Int.natCast_nonneg _
      have j1 : (k : Int) < (n : Int) := by omega
      have j8 : (k : Int) < 1000 := by omega
      clear hb
      have HL := Lib.hid (fun W => HC'.out k hlt W)
      by_cases hg : g k = 0
      · have HG := Lib.hid hg
        rw [hg] at HL
        clear hg
        go_wp2_with fail
        refine (HL.out _ (by (repeat (first | (with_reducible exact HB.out) | (with_reducible refine Below.setCell ?_ ?_ _) | (with_reducible refine below_alloc_top ?_ _) | (with_reducible refine Below.drew ?_))); all_goals (first | omega | (simp; done) | (simp; omega)))).mono ?_
        rintro e w5 ⟨rfl, hb5⟩
        have H5 : Hid (Below w.heap.size w w5) := Lib.hid (below_then (by (repeat (first | (with_reducible exact HB.out) | (with_reducible refine Below.setCell ?_ ?_ _) | (with_reducible refine below_alloc_top ?_ _) | (with_reducible refine Below.drew ?_))); all_goals (first | omega | (simp; done) | (simp; omega))) hb5)
        clear hb5
        go_wp2
        go_roundw
        case rel => exact ⟨k + 1, by omega, by go_num, by rw [← HE.out, FS.out k n hlt, if_pos HG.out], by rw [← HI.out, IS.out k n hlt, if_pos HG.out], H5.out⟩
        case measure => simp [intOf]; omega
      · have n1 : (g k != 0) = true := by simpa using hg
        have EE : Hid (E0 = g k) := by show _ = _; rw [← HE.out, FS.out k n hlt, if_neg hg]
        have II : Hid (I0 = k) := by show _ = _; rw [← HI.out, IS.out k n hlt, if_neg hg]
        clear hg
        go_wp2_with fail
        refine (HL.out _ (by (repeat (first | (with_reducible exact HB.out) | (with_reducible refine Below.setCell ?_ ?_ _) | (with_reducible refine below_alloc_top ?_ _) | (with_reducible refine Below.drew ?_))); all_goals (first | omega | (simp; done) | (simp; omega)))).mono ?_
        rintro e w5 ⟨rfl, hb5⟩
        have H5 : Hid (Below w.heap.size w w5) := Lib.hid (below_then (by (repeat (first | (with_reducible exact HB.out) | (with_reducible refine Below.setCell ?_ ?_ _) | (with_reducible refine below_alloc_top ?_ _) | (with_reducible refine Below.drew ?_))); all_goals (first | omega | (simp; done) | (simp; omega))) hb5)
        clear hb5
        go_wp2
        go_ret2
        exact ⟨by rw [EE.out, II.out]; rfl, H5.out⟩
    · have hk' : k = n := by omega
      have hE0 : E0 = 0 := by rw [← HE.out, hk', Nat.sub_self]; rfl
      have hI0 : I0 = 0 := by rw [← HI.out, hk', Nat.sub_self]; rfl
      have HE0 := Lib.hid hE0; have HI0 := Lib.hid hI0
      have kk : decide ((k : Int) < (n : Int)) = false := by simp; omega
      clear hE0 hI0 hk'
      go_wp2
      go_ret2
      exact ⟨by rw [HE0.out, HI0.out]; rfl, HB.out⟩
end Go.Proofs.YtnckfbejgkdhhaaGreatDoor
