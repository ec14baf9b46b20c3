/- elements that do not send -/
import Derived.Test.YtkkaomgdlnejcaaGreatDoorV14
import Derived.BigQuiet
namespace Go.Proofs.YtkkaomgdlnejcaaGreatDoor
open Go.RowKit Go.Shelf RayM
set_option linter.unusedSimpArgs false
set_option linter.unusedVariables false

/-- whether a number rises over the one before -/
def ascB (l : Nat → Int) (k : Nat) : Bool := decide (k = 0 ∨ l (k - 1) < l k)
def thB (n : Nat) (x : Int) : Bool := decide (0 ≤ x ∧ x < n)
def wcE (n : Nat) (dd : Nat → Int) (i : Nat) : Int := fst [unl (thB n (dd i)) 6, unl (ascB dd i) 9]
theorem wcE_zero (n : Nat) (dd : Nat → Int) (i : Nat) : wcE n dd i = 0 ↔ (0 ≤ dd i ∧ dd i < n) ∧ (i = 0 ∨ dd (i - 1) < dd i) := by
  unfold wcE
  rw [fst_zero]
  simp only [List.mem_cons, List.not_mem_nil, or_false, forall_eq_or_imp, forall_eq, unl_zero _ _ (show (6 : Int) ≠ 0 by decide), unl_zero _ _ (show (9 : Int) ≠ 0 by decide), thB, ascB, decide_eq_true_eq]
/-- the error of a law in which some do not send, and its ticks -/
def woE (d : Dl) (dd : Nat → Int) (nd : Nat) : Int := if d.E = 0 then ffE (wcE d.n dd) 0 nd else d.E
def woC (t dd : Nat → Int) (k i : Nat) : Int := if hasB dd k i then -1 else t i
theorem woC_zero (t dd : Nat → Int) : woC t dd 0 = t := by funext i; simp [woC, hasB]
theorem woC_next (t dd : Nat → Int) (k i j : Nat) (h : dd k = i) : woC t dd (k + 1) j = if j = i then -1 else woC t dd k j := by
  unfold woC
  have e : hasB dd (k + 1) j = (hasB dd k j || dd k == j) := by unfold hasB; rw [List.range_succ, List.any_append]; simp
  rw [e, h]
  by_cases q : j = i
  · subst q; simp
  · have : ((i : Int) == (j : Int)) = false := by simp; omega
    rw [this, Bool.or_false, if_neg q]
def woPost (ck : Int) (t : Nat → Int) (n : Nat) (E : Int) (w : World) (e : Ending) (w' : World) : Prop :=
  ∃ (x : Int) (A : Option Addr) (n' c' : Nat), e = .returned (.tuple #[.agg #[.int .i64 x, .slice A n' c'], .int .i64 E]) ∧ (E = 0 → x = ck ∧ n' = n ∧ (∃ g, A = some ⟨g, 0, none⟩ ∧ w.heap.size ≤ g ∧ g < w'.heap.size) ∧ InAt A n t w') ∧ Below w.heap.size w w'
set_option maxRecDepth 100000 in
set_option maxHeartbeats 1000000 in
theorem ascend_any (a : Addr) (n c : Nat) (l : Nat → Int) (k : Nat) (w : World) (hk : k < n) (hm : n ≤ 1000) (h : InAt (some a) n l w) :
    Calls Tryz.prog 89 #[.slice (some a) n c, .int .i64 (k : Int)] w fun e w' => e = .returned (.int .i64 (unl (ascB l k) 9)) ∧ Below w.heap.size w w' := by
  have UU : Hid (∀ b w, Calls Tryz.prog 78 #[.bool b, .int .i64 9] w fun e w' => e = .returned (.int .i64 (unl b 9)) ∧ w' = w) := Lib.hid (fun b w => (unless_any b 9 w).mono (fun e w' h => ⟨h.1, h.2.symm⟩))
  by_cases h0 : k = 0
  · subst h0
    have e1 : ascB l 0 = true := by simp [ascB]
    rw [e1]
    clear h e1
    go_enter Tryz.func89, Tryz.ntmps89
    go_upto_region 1 with fail
    go_quiet ((go_at_call 78; exact Calls.quiet_of_same (UU.out _ _)))
    go_wp2
    go_ret
    exact ⟨rfl, below_drewN (Below.refl _ _) _⟩
  · obtain ⟨m, rfl⟩ : ∃ m, k = m + 1 := ⟨k - 1, by omega⟩
    have c0 := h.at (show m < n by omega)
    have c1 := h.at hk
    have c2 : w.cell? ⟨a.block, a.off + (m + 1), none⟩ = some (.int .i64 (l (m + 1))) := c1
    have b0 : (((m + 1 : Nat) : Int) == 0) = false := by simp; omega
    have j0 : (0 : Int) ≤ (m : Int) := Int.natCast_nonneg _
    have j1 : (m : Int) < (n : Int) := by omega
    have j2 : (m : Int) + 1 < (n : Int) := by omega
    have j3 : (0 : Int) ≤ (m : Int) + 1 := by omega
    have v1 : IntKind.i64.wrap (m : Int) = (m : Int) := IntWalk.i64_in _ (by omega)
    have e1 : ascB l (m + 1) = decide (l m < l (m + 1)) := by simp [ascB]
    rw [e1]
    have e2 : ((m + 1 : Nat) : Int) = (m : Int) + 1 := rfl
    rw [e2] at b0 ⊢
    clear h h0 hk e1 e2
    go_enter Tryz.func89, Tryz.ntmps89
    go_upto_region 1 with fail
    go_quiet ((go_at_call 78; exact Calls.quiet_of_same (UU.out _ _)))
    go_wp2
    go_ret
    exact ⟨rfl, below_drewN (Below.refl _ _) _⟩
set_option maxRecDepth 100000 in
set_option maxHeartbeats 1000000 in
theorem item_any (n : Nat) (x : Int) (w : World) : Calls Tryz.prog 94 #[.int .i64 x, .int .i64 (n : Int)] w fun e w' => e = .returned (.int .i64 (unl (thB n x) 6)) ∧ w = w' := by
  by_cases h0 : 0 ≤ x
  · have e1 : thB n x = decide (x < n) := by unfold thB; simp [h0]
    rw [e1]
    clear e1
    go_enter Tryz.func94, Tryz.ntmps94
    go_wp2_with (go_at_call 78; (with_reducible refine (unless_any _ _ _).mono ?_); rintro e w' ⟨rfl, rfl⟩)
    go_ret
    exact ⟨rfl, rfl⟩
  · have e1 : thB n x = false := by unfold thB; simp; omega
    rw [e1]
    clear e1
    go_enter Tryz.func94, Tryz.ntmps94
    go_wp2_with (go_at_call 78; (with_reducible refine (unless_any _ _ _).mono ?_); rintro e w' ⟨rfl, rfl⟩)
    go_ret
    exact ⟨rfl, rfl⟩
set_option maxRecDepth 100000 in
set_option maxHeartbeats 1000000 in
theorem dead1_any (n : Nat) (A : Option Addr) (nd c : Nat) (dd : Nat → Int) (i : Nat) (x : Int) (Bl Bd : Nat) (w : World) (b1 : w.cell? ⟨Bl, 0, none⟩ = some (.int .i64 (n : Int))) (b2 : w.cell? ⟨Bd, 0, none⟩ = some (.slice A nd c)) (h : InAt A nd dd w) (hi : i < nd) (hx : dd i = x) (hm : nd ≤ 1000) (hn : n ≤ 1000) :
    Calls Tryz.prog 93 #[.int .i64 (i : Int), .int .i64 x, .pointer (some ⟨Bl, 0, none⟩), .pointer (some ⟨Bd, 0, none⟩)] w fun e w' => e = .returned (.int .i64 (wcE n dd i)) ∧ Below w.heap.size w w' := by
  obtain ⟨a, rfl⟩ := h.some (show 0 < nd by omega)
  have HX := Lib.hid h; clear h
  have HA := Lib.hid (fun w h => ascend_any a nd c dd i w hi hm h)
  have hE : wcE n dd i = fst [unl (thB n x) 6, unl (ascB dd i) 9] := by unfold wcE; rw [hx]
  rw [hE]
  generalize ascB dd i = rb at *
  have HI := Lib.hid (fun w => item_any n x w)
  generalize thB n x = tb at *
  clear hE hx
  have zl := World.block_lt_of_cell? _ _ b1
  have zd := World.block_lt_of_cell? _ _ b2
  dsimp only at zl zd
  have hS : Below w.heap.size w w := Below.refl _ _
  go_enter Tryz.func93, Tryz.ntmps93
  go_upto_region 1 with fail
  go_region_held3 (fun w' => w'.cell? ⟨Bl, 0, none⟩ = some (.int .i64 (n : Int)) ∧ w'.cell? ⟨Bd, 0, none⟩ = some (.slice (some a) nd c) ∧ Below w.heap.size w w') (((go_split_ands; (repeat' apply And.intro) <;> first | (with_reducible assumption) | exact cell_later (by assumption) (by assumption) | exact frozen_after (by assumption) (by assumption) (by assumption) | exact below_then (by assumption) (by assumption) | exact below_alloc_top (by assumption) _ | exact cell_alloc_later (by assumption) _ | exact frozen_alloc_later (by assumption) (by assumption) _ | exact Below.drew (by assumption) | (simp [go_sem, World.cell?_alloc_past, *]; done))))
    (first
      | (go_at_call 94; (with_reducible refine (HI.out _).mono ?_); rintro e w' ⟨rfl, rfl⟩)
      | (go_split_ands; go_at_call 89; (with_reducible refine (HA.out _ (HX.out.later (by with_reducible assumption))).mono ?_); rintro e w' ⟨rfl, hb⟩)
      | (go_at_call 42; refine (firstError_any _ [unl tb 6, unl rb 9] _ (by simp) (by first | exact cells_drew _ _ (by simp) _ _ | exact cells_new _ _ (by simp) _ _)).mono ?_; rintro e w' ⟨rfl, rfl⟩))
  go_split_ands
  go_wp2
  go_ret
  exact ⟨rfl, by first | (with_reducible assumption) | (with_reducible exact Below.drew (by assumption)) | (with_reducible exact below_alloc_top (by assumption) _)⟩
set_option maxRecDepth 100000 in
set_option maxHeartbeats 1000000 in
theorem each_dead (A : Option Addr) (n c : Nat) (p : Nat → Int) (g : Nat → Int) (Bl Bd : Nat) (w : World) (hm : n ≤ 1000) (h : InAt A n p w)
    (HC : ∀ i, i < n → ∀ W, Below w.heap.size w W → Calls Tryz.prog 93 #[.int .i64 (i : Int), .int .i64 (p i), .pointer (some ⟨Bl, 0, none⟩), .pointer (some ⟨Bd, 0, none⟩)] W fun e w' => e = .returned (.int .i64 (g i)) ∧ Below W.heap.size W w') :
    Calls Tryz.prog 87 #[.slice A n c, .func (.func 93) #[] #[.pointer (some ⟨Bl, 0, none⟩), .pointer (some ⟨Bd, 0, none⟩)]] w fun e w' => e = .returned (.tuple #[.int .i64 (ffI g 0 n : Nat), .int .i64 (ffE g 0 n)]) ∧ Below w.heap.size w w' := by
  have HX := Lib.hid h; have HC' := Lib.hid HC; clear h HC
  have FS := Lib.hid (ffE_step g); have IS := Lib.hid (ffI_step g)
  generalize hEq : ffE g 0 n = E0 at *
  generalize hIq : ffI g 0 n = I0 at *
  have EQ := Lib.hid hEq; have IQ := Lib.hid hIq; clear hEq hIq
  go_enter Tryz.func87, Tryz.ntmps87
  go_wp2
  go_loopw [11] (fun s11 wr => ∃ k : Nat, k ≤ n ∧ s11 = .int .i64 (k : Int) ∧ ffE g k (n - k) = E0 ∧ ffI g k (n - k) = I0 ∧ Below w.heap.size w wr) (fun s11 _ => n - (intOf s11).toNat)
  case atStart => exact ⟨0, Nat.zero_le _, rfl, EQ.out, IQ.out, Below.refl _ _⟩
  case round =>
    obtain ⟨k, hk, rfl, hE, hI, hb⟩ := hrel
    have HE := Lib.hid hE; have HI := Lib.hid hI; clear hE hI
    have sz := hb.size
    have HB := Lib.hid hb
    by_cases hlt : k < n
    · obtain ⟨a, rfl⟩ := HX.out.some (by omega)
      have e0 := (HX.out.later hb).at hlt
      have j0 : (0 : Int) ≤ (k : Int) := Int.natCast_nonneg _
      have j1 : (k : Int) < (n : Int) := by omega
      have j8 : (k : Int) < 1000 := by omega
      clear hb
      have HL := Lib.hid (fun W => HC'.out k hlt W)
      by_cases hg : g k = 0
      · have HG := Lib.hid hg
        rw [hg] at HL
        clear hg
        go_wp2_with fail
        refine (HL.out _ (by (repeat (first | (with_reducible exact HB.out) | (with_reducible refine Below.setCell ?_ ?_ _) | (with_reducible refine below_alloc_top ?_ _) | (with_reducible refine Below.drew ?_))); all_goals (first | omega | (simp; done) | (simp; omega)))).mono ?_
        rintro e w5 ⟨rfl, hb5⟩
        have H5 : Hid (Below w.heap.size w w5) := Lib.hid (below_then (by (repeat (first | (with_reducible exact HB.out) | (with_reducible refine Below.setCell ?_ ?_ _) | (with_reducible refine below_alloc_top ?_ _) | (with_reducible refine Below.drew ?_))); all_goals (first | omega | (simp; done) | (simp; omega))) hb5)
        clear hb5
        go_wp2
        go_roundw
        case rel => exact ⟨k + 1, by omega, by go_num, by rw [← HE.out, FS.out k n hlt, if_pos HG.out], by rw [← HI.out, IS.out k n hlt, if_pos HG.out], H5.out⟩
        case measure => simp [intOf]; omega
      · have n1 : (g k != 0) = true := by simpa using hg
        have EE : Hid (E0 = g k) := by show _ = _; rw [← HE.out, FS.out k n hlt, if_neg hg]
        have II : Hid (I0 = k) := by show _ = _; rw [← HI.out, IS.out k n hlt, if_neg hg]
        clear hg
        go_wp2_with fail
        refine (HL.out _ (by (repeat (first | (with_reducible exact HB.out) | (with_reducible refine Below.setCell ?_ ?_ _) | (with_reducible refine below_alloc_top ?_ _) | (with_reducible refine Below.drew ?_))); all_goals (first | omega | (simp; done) | (simp; omega)))).mono ?_
        rintro e w5 ⟨rfl, hb5⟩
        have H5 : Hid (Below w.heap.size w w5) := Lib.hid (below_then (by (repeat (first | (with_reducible exact HB.out) | (with_reducible refine Below.setCell ?_ ?_ _) | (with_reducible refine below_alloc_top ?_ _) | (with_reducible refine Below.drew ?_))); all_goals (first | omega | (simp; done) | (simp; omega))) hb5)
        clear hb5
        go_wp2
        go_ret2
        exact ⟨by rw [EE.out, II.out]; rfl, H5.out⟩
    · have hk' : k = n := by omega
      have hE0 : E0 = 0 := by rw [← HE.out, hk', Nat.sub_self]; rfl
      have hI0 : I0 = 0 := by rw [← HI.out, hk', Nat.sub_self]; rfl
      have HE0 := Lib.hid hE0; have HI0 := Lib.hid hI0
      have kk : decide ((k : Int) < (n : Int)) = false := by simp; omega
      clear hE0 hI0 hk'
      go_wp2
      go_ret2
      exact ⟨by rw [HE0.out, HI0.out]; rfl, HB.out⟩
set_option maxRecDepth 100000 in
set_option maxHeartbeats 1000000 in
theorem dead_any (dd : Nat → Int) (nd n : Nat) (A : Option Addr) (c : Nat) (w : World) (k : InAt A nd dd w) (hd : nd ≤ 1000) (hn : n ≤ 1000) :
    Calls Tryz.prog 64 #[.slice A nd c, .int .i64 (n : Int)] w fun e w' => e = .returned (.int .i64 (ffE (wcE n dd) 0 nd)) ∧ Below w.heap.size w w' := by
  have HX := Lib.hid k; clear k
  have HEA : Hid (∀ w', w'.cell? ⟨w.heap.size + 1, 0, none⟩ = some (.int .i64 (n : Int)) → w'.cell? ⟨w.heap.size, 0, none⟩ = some (.slice A nd c) → InAt A nd dd w' → Calls Tryz.prog 87 #[.slice A nd c, .func (.func 93) #[] #[.pointer (some ⟨w.heap.size + 1, 0, none⟩), .pointer (some ⟨w.heap.size, 0, none⟩)]] w' fun e' w'' => e' = .returned (.tuple #[.int .i64 (ffI (wcE n dd) 0 nd : Nat), .int .i64 (ffE (wcE n dd) 0 nd)]) ∧ Below w'.heap.size w' w'') := Lib.hid (fun w' c1 c2 h => each_dead A nd c dd (wcE n dd) (w.heap.size + 1) w.heap.size w' (by omega) h (fun i hi W hW => dead1_any n A nd c dd i (dd i) (w.heap.size + 1) w.heap.size W (cell_later hW c1) (cell_later hW c2) (h.later hW) hi rfl (by omega) (by omega)))
  generalize (ffI (wcE n dd) 0 nd : Nat) = I2 at *
  generalize ffE (wcE n dd) 0 nd = E2 at *
  go_enter Tryz.func64, Tryz.ntmps64
  go_wp2_with fail
  refine (HEA.out _ (by simp [go_sem]) (by simp [go_sem]) (HX.out.later (by repeat (first | exact Below.refl _ _ | refine Below.drew ?_ | refine below_drewN ?_ _ | refine Below.setCell ?_ (by first | omega | (simp; done) | (simp; omega)) _ | refine Below.alloc ?_ (by first | omega | (simp; done) | (simp; omega)) _)))).mono ?_
  rintro e w1 ⟨rfl, hb1⟩
  have H1 : Hid (Below w.heap.size w w1) := Lib.hid (below_after (by repeat (first | exact Below.refl _ _ | refine Below.drew ?_ | refine below_drewN ?_ _ | refine Below.setCell ?_ (by first | omega | (simp; done) | (simp; omega)) _ | refine Below.alloc ?_ (by first | omega | (simp; done) | (simp; omega)) _)) hb1 (by first | omega | (simp; done) | (simp; omega))); clear hb1
  go_wp2
  go_ret
  exact ⟨rfl, H1.out⟩
end Go.Proofs.YtkkaomgdlnejcaaGreatDoor
