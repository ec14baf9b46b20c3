/- LawChanges: the walk -/
import Derived.Test.YtkkaomgdlnejcaaGreatDoorTm
import Derived.Test.YtkkaomgdlnejcaaGreatDoorTc
import Derived.Test.YtkkaomgdlnejcaaGreatDoorU2
namespace Go.Proofs.YtkkaomgdlnejcaaGreatDoor
open Go.RowKit Go.Shelf RayM
set_option linter.unusedSimpArgs false
set_option linter.unusedVariables false
set_option maxRecDepth 100000 in
set_option maxHeartbeats 1000000 in
theorem few_any (n : Int) (w : World) :
    Calls Tryz.prog 9 #[.int .i64 n] w fun e w' => e = .returned (.bool (decide (n ≤ 18))) ∧ w = w' := by
  go_enter Tryz.func9, Tryz.ntmps9
  go_wp2
  go_ret
  exact ⟨rfl, rfl⟩
/-- the numbers that Sending leaves -/
def Sn (E : Int) (M : Nat) (f : Nat → Int) (A : Option Addr) (m : Nat) (w : World) : Prop := (E = 0 → m = M ∧ InAt A M f w) ∧ (E ≠ 0 → m = 0)
theorem Sn.later {E : Int} {M : Nat} {f : Nat → Int} {A : Option Addr} {m : Nat} {w w' : World} (r : Sn E M f A m w) (hb : Below w.heap.size w w') : Sn E M f A m w' := ⟨fun q => ⟨(r.1 q).1, (r.1 q).2.later hb⟩, r.2⟩
theorem woE_bad (d : Dl) (dd : Nat → Int) (nd : Nat) (h : d.E ≠ 0) : woE d dd nd = d.E := by unfold woE; rw [if_neg h]
theorem rcE_bad (d : Dl) (k : Int) (h : d.E ≠ 0) : rcE d k = d.E := by
  have e : rcE1 d k = d.E := by unfold rcE1; simp [fst, h]
  unfold rcE; rw [e, if_neg h]
theorem rcE_ck (d : Dl) (k : Int) (h : d.E = 0) (q : unl (inB k 1 1000000) 2 ≠ 0) : rcE d k = unl (inB k 1 1000000) 2 := by
  have e : rcE1 d k = unl (inB k 1 1000000) 2 := by unfold rcE1; rw [h]; simp [fst]; omega
  unfold rcE; rw [e, if_neg q]
theorem ck_ok (k : Int) (q : unl (inB k 1 1000000) 2 = 0) : 1 ≤ k ∧ k ≤ 1000000 := by
  unfold unl inB at q
  split at q
  · rename_i h; simpa using h
  · cases q
theorem rc_pos (d : Dl) (k : Int) (h : rcE d k = 0) : d.E = 0 := by
  by_cases q : d.E = 0
  · exact q
  · rw [rcE_bad d k q] at h; exact absurd h q
set_option maxRecDepth 100000 in
set_option maxHeartbeats 6000000 in
theorem changes_any (d : Dl) (dd : Nat → Int) (nd : Nat) (k : Int) (B : Option Addr) (e : Nat) (D : Option Addr) (c : Nat) (w : World) (hL : Laid w) (AWK : Hid (∀ w, Laid w → Calls Tryz.prog 8 #[] w fun e w' => e = .returned (.bool true) ∧ Below w.heap.size w w')) (hB : B = none → d.n = 0 ∧ e = 0) (hD : D = none → nd = 0 ∧ c = 0) (h : InAt B d.n d.t w) (g : InAt D nd dd w) :
    Calls Tryz.prog 6 #[.agg #[.int .i64 d.ck, .slice B d.n e], .slice D nd c, .int .i64 k] w fun e w' => e = .returned (.bool true) ∧ Below w.heap.size w w' := by
  have HX := Lib.hid h; clear h
  have HT := Lib.hid g; clear g
  have LH := Lib.hid hL; clear hL
  by_cases h1 : d.n ≤ 18
  · have FA : Hid (decide ((d.n : Int) ≤ 18) = true) := Lib.hid (by simp; omega)
    by_cases h2 : nd ≤ 18
    · have FD : Hid (decide ((nd : Int) ≤ 18) = true) := Lib.hid (by simp; omega)
      have HCL : Hid (∀ w', InAt B d.n d.t w' → Calls Tryz.prog 18 #[.agg #[.int .i64 d.ck, .slice B d.n e]] w' fun e_ w'' => ∃ A1 c1, e_ = .returned (.agg #[.int .i64 d.ck, .slice A1 d.n c1]) ∧ InAt A1 d.n d.t w'' ∧ Below w'.heap.size w' w'') := Lib.hid (fun w' h => (copyLaw_any d B e w' (by omega) hB h).mono (fun e w'' ⟨v, e1, ho, hb⟩ => by
        obtain ⟨A1, c1, rfl, hz, hs⟩ := own_ints2 ho
        exact ⟨A1, c1, e1, hs, hb⟩))
      have HCI : Hid (∀ w', InAt D nd dd w' → Calls Tryz.prog 23 #[.slice D nd c] w' fun e_ w'' => ∃ A1 c1, e_ = .returned (.slice A1 nd c1) ∧ InAt A1 nd dd w'' ∧ Below w'.heap.size w' w'') := Lib.hid (fun w' h => (copyInts_any D nd c dd w' (by omega) hD h).mono (fun e_ w'' ⟨v, e1, ho, hb⟩ => by
        obtain ⟨A1, c1, rfl, _, hs⟩ := own_ints2 ho
        exact ⟨A1, c1, e1, hs, hb⟩))
      have HWO : Hid (∀ B1 e1 A1 c1 w', InAt B1 d.n d.t w' → InAt A1 nd dd w' → Calls Tryz.prog 26 #[.agg #[.int .i64 d.ck, .slice B1 d.n e1], .slice A1 nd c1] w' fun e_ w'' => ∃ (x : Int) (A3 : Option Addr) (m3 c3 : Nat), e_ = .returned (.tuple #[.agg #[.int .i64 x, .slice A3 m3 c3], .int .i64 (woE d dd nd)]) ∧ Lw d.ck (woC d.t dd nd) d.n (woE d dd nd) x A3 m3 c3 w'' ∧ (∀ a, A3 = some a → w'.heap.size ≤ a.block) ∧ (∀ a, A3 = some a → a.block < w''.heap.size) ∧ Below w'.heap.size w' w'') := Lib.hid (fun B1 e1 A1 c1 w' h g => withoutL_any d dd nd B1 e1 A1 c1 w' h g (by omega) (by omega))
      have HSN : Hid (∀ B1 e1 w', InAt B1 d.n d.t w' → Calls Tryz.prog 27 #[.agg #[.int .i64 d.ck, .slice B1 d.n e1]] w' fun e_ w'' => ∃ (A : Option Addr) (m c : Nat), e_ = .returned (.tuple #[.slice A m c, .int .i64 d.E]) ∧ Sn d.E (snM d) (sdF d.t d.n) A m w'' ∧ Below w'.heap.size w' w'') := Lib.hid (fun B1 e1 w' h => (sendingL_any d B1 e1 w' h (by omega)).mono (fun e_ w'' ⟨A, m, c, e1, h1, h2, hb⟩ => ⟨A, m, c, e1, ⟨h1, h2⟩, hb⟩))
      have HRC : Hid (∀ B1 e1 w', InAt B1 d.n d.t w' → Calls Tryz.prog 28 #[.agg #[.int .i64 d.ck, .slice B1 d.n e1], .int .i64 k] w' fun e_ w'' => ∃ (x : Int) (A3 : Option Addr) (m3 c3 : Nat), e_ = .returned (.tuple #[.agg #[.int .i64 x, .slice A3 m3 c3], .int .i64 (rcE d k)]) ∧ Lw k (chT d.t (rcF d k)) d.n (rcE d k) x A3 m3 c3 w'' ∧ (∀ a, A3 = some a → w'.heap.size ≤ a.block) ∧ (∀ a, A3 = some a → a.block < w''.heap.size) ∧ Below w'.heap.size w' w'') := Lib.hid (fun B1 e1 w' h => (recast_any d k B1 e1 w' h (by omega)).mono (fun e_ w'' hh => ch_lw hh (fun q => (((Dl.E_zero d).1 (rc_pos d k q)).2.1).1)))
      have HLE := Lib.hid (fun w h => wLawErr_any d B e w h (by omega))
      have HCK := Lib.hid (fun w => rClock_any k w)
      have HRW : Hid (d.E = 0 → ∀ w', InAt B d.n d.t w' → InAt D nd dd w' → Calls Tryz.prog 30 #[.agg #[.int .i64 d.ck, .slice B d.n e], .slice D nd c] w' fun e_ w'' => ∃ (x : Int) (A3 : Option Addr) (m3 c3 : Nat), e_ = .returned (.tuple #[.agg #[.int .i64 x, .slice A3 m3 c3], .int .i64 (woE d dd nd)]) ∧ Lw d.ck (woC d.t dd nd) d.n (woE d dd nd) x A3 m3 c3 w'' ∧ (∀ a, A3 = some a → w'.heap.size ≤ a.block) ∧ (∀ a, A3 = some a → a.block < w''.heap.size) ∧ Below w'.heap.size w' w'') := Lib.hid (fun q w' h g => by
        obtain ⟨ad, rfl⟩ := h.some ((Dl.E_zero d).1 q).2.1.1
        exact rWithout_any d dd nd ad e D c w' q h g (by omega))
      have HRR : Hid (d.E = 0 → unl (inB k 1 1000000) 2 = 0 → ∀ w', InAt B d.n d.t w' → Calls Tryz.prog 32 #[.agg #[.int .i64 d.ck, .slice B d.n e], .int .i64 k] w' fun e_ w'' => ∃ (x : Int) (A3 : Option Addr) (m3 c3 : Nat), e_ = .returned (.tuple #[.agg #[.int .i64 x, .slice A3 m3 c3], .int .i64 (rcE d k)]) ∧ Lw k (chT d.t (rcF d k)) d.n (rcE d k) x A3 m3 c3 w'' ∧ (∀ a, A3 = some a → w'.heap.size ≤ a.block) ∧ (∀ a, A3 = some a → a.block < w''.heap.size) ∧ Below w'.heap.size w' w'') := Lib.hid (fun q r w' h => by
        obtain ⟨ad, rfl⟩ := h.some ((Dl.E_zero d).1 q).2.1.1
        exact rRecast_any d k ad e w' q (ck_ok k r).1 (ck_ok k r).2 h)
      have HRS : Hid (d.E = 0 → ∀ w', InAt B d.n d.t w' → Calls Tryz.prog 34 #[.agg #[.int .i64 d.ck, .slice B d.n e]] w' fun e_ w'' => ∃ A1 c1, e_ = .returned (.slice A1 (snM d) c1) ∧ InAt A1 (snM d) (sdF d.t d.n) w'' ∧ Below w'.heap.size w' w'') := Lib.hid (fun q w' h => (rSending_any d B e w' (by omega) (fun i hi => (((Dl.E_zero d).1 q).2.2 i hi).1) h).mono (fun e_ w'' ⟨v, e1, ho, hb⟩ => by
        obtain ⟨A1, c1, rfl, _, hs⟩ := own_ints2 ho
        exact ⟨A1, c1, e1, hs, hb⟩))
      have SM : snM d ≤ 1000 := by have := sdL_len d.t d.n; unfold snM; omega
      have HIN : Hid (∀ A5 c5 A6 c6 w', InAt A5 (snM d) (sdF d.t d.n) w' → InAt A6 (snM d) (sdF d.t d.n) w' → Calls Tryz.prog 33 #[.slice A5 (snM d) c5, .slice A6 (snM d) c6] w' fun e w'' => e = .returned (.bool true) ∧ Below w'.heap.size w' w'') := Lib.hid (fun A5 c5 A6 c6 w' h g => by
        have := ints_any A5 (snM d) c5 (sdF d.t d.n) A6 (snM d) c6 (sdF d.t d.n) w' SM (by omega) h g
        rwa [(eqB_iff _ _ _ _).2 ⟨rfl, fun _ _ => rfl⟩] at this)
      have HSW : Hid (∀ x A3 m3 c3 x' A' m' c' w', Lw d.ck (woC d.t dd nd) d.n (woE d dd nd) x A3 m3 c3 w' → Lw d.ck (woC d.t dd nd) d.n (woE d dd nd) x' A' m' c' w' → Calls Tryz.prog 15 #[.agg #[.int .i64 x, .slice A3 m3 c3], .agg #[.int .i64 x', .slice A' m' c']] w' fun e w'' => e = .returned (.bool true) ∧ Below w'.heap.size w' w'') := Lib.hid (fun x A3 m3 c3 x' A' m' c' w' h k => same_lw h k (fun _ _ _ => rfl) (by omega))
      have HSR : Hid (∀ x A3 m3 c3 x' A' m' c' w', Lw k (chT d.t (rcF d k)) d.n (rcE d k) x A3 m3 c3 w' → Lw k (chT d.t (rcF d k)) d.n (rcE d k) x' A' m' c' w' → Calls Tryz.prog 15 #[.agg #[.int .i64 x, .slice A3 m3 c3], .agg #[.int .i64 x', .slice A' m' c']] w' fun e w'' => e = .returned (.bool true) ∧ Below w'.heap.size w' w'') := Lib.hid (fun x A3 m3 c3 x' A' m' c' w' h k => same_lw h k (fun _ _ _ => rfl) (by omega))
      have PW : Hid (d.E ≠ 0 → woE d dd nd = d.E) := Lib.hid (fun q => woE_bad d dd nd q)
      have PR : Hid (d.E ≠ 0 → rcE d k = d.E) := Lib.hid (fun q => rcE_bad d k q)
      have PC : Hid (d.E = 0 → unl (inB k 1 1000000) 2 ≠ 0 → rcE d k = unl (inB k 1 1000000) 2) := Lib.hid (fun q r => rcE_ck d k q r)
      generalize woC d.t dd nd = u at *
      generalize woE d dd nd = E5 at *
      generalize chT d.t (rcF d k) = v at *
      generalize rcE d k = E7 at *
      generalize unl (inB k 1 1000000) 2 = ce at *
      generalize snM d = M at *
      generalize sdF d.t d.n = sf at *
      generalize d.E = ed at *
      clear hB hD SM
      go_enter Tryz.func6, Tryz.ntmps6
      go_wp2_with fail
      refine (AWK.out _ (LH.out.later (by repeat (first | exact Below.refl _ _ | refine Below.drew ?_ | refine below_drewN ?_ _ | refine Below.setCell ?_ (by first | omega | (simp; done) | (simp; omega)) _ | refine Below.alloc ?_ (by first | omega | (simp; done) | (simp; omega)) _)))).mono ?_
      rintro e w1 ⟨rfl, hb1⟩
      have qw10 : w1.cell? ⟨w.heap.size, 0, none⟩ = some (.int .i64 d.ck) := cell_later hb1 (by simp [go_sem])
      have qw11 : w1.cell? ⟨w.heap.size, 1, none⟩ = some (.slice B d.n e) := cell_later hb1 (by simp [go_sem])
      have zqw1_0 := World.block_lt_of_cell? _ _ qw10
      dsimp only at zqw1_0
      have H1 : Hid (Below w.heap.size w w1) := Lib.hid (below_after (by repeat (first | exact Below.refl _ _ | refine Below.drew ?_ | refine below_drewN ?_ _ | refine Below.setCell ?_ (by first | omega | (simp; done) | (simp; omega)) _ | refine Below.alloc ?_ (by first | omega | (simp; done) | (simp; omega)) _)) hb1 (by first | omega | (simp; done) | (simp; omega))); clear hb1
      have R1_0 := Lib.hid (HX.out.later H1.out)
      have R1_1 := Lib.hid (HT.out.later H1.out)
      go_wp2_with (go_at_call 9; (with_reducible refine (few_any _ _).mono ?_); (first | rw [FA.out] | rw [FD.out]); rintro e w' ⟨rfl, rfl⟩)
      refine (HCL.out _ R1_0.out).mono ?_
      rintro e_ wA ⟨B1, e1, rfl, ib, hb⟩
      have k2_0 := cell_later hb qw10
      have k2_1 := cell_later hb qw11
      have R2_0 := Lib.hid (R1_0.out.later hb)
      have R2_1 := Lib.hid (R1_1.out.later hb)
      have B2 : Hid (Below w.heap.size w wA) := Lib.hid (below_then H1.out hb)
      clear qw10 qw11 R1_0 R1_1 H1
      have z2_0 := World.block_lt_of_cell? _ _ k2_0
      (try dsimp only at z2_0)
      clear hb
      have IB := Lib.hid ib
      clear ib
      go_wp2_with fail
      refine (HCI.out _ R2_1.out).mono ?_
      rintro e_ wB ⟨A1, c1, rfl, ia, hb⟩
      have k3_0 := cell_later hb k2_0
      have k3_1 := cell_later hb k2_1
      have R3_0 := Lib.hid (R2_0.out.later hb)
      have R3_1 := Lib.hid (R2_1.out.later hb)
      have R3_2 := Lib.hid (IB.out.later hb)
      have B3 : Hid (Below w.heap.size w wB) := Lib.hid (below_then B2.out hb)
      clear k2_0 k2_1 R2_0 R2_1 IB B2
      have z3_0 := World.block_lt_of_cell? _ _ k3_0
      (try dsimp only at z3_0)
      clear hb
      go_wp2_with fail
      refine (HWO.out _ _ _ _ _ R3_2.out ia).mono ?_
      rintro e_ wC ⟨x3, A3, m3, c3, rfl, lw3, hB3, hL3, hb⟩
      have k4_0 := cell_later hb k3_0
      have k4_1 := cell_later hb k3_1
      have R4_0 := Lib.hid (R3_0.out.later hb)
      have R4_1 := Lib.hid (R3_1.out.later hb)
      have R4_2 := Lib.hid (R3_2.out.later hb)
      have B4 : Hid (Below w.heap.size w wC) := Lib.hid (below_then B3.out hb)
      clear k3_0 k3_1 R3_0 R3_1 R3_2 B3
      have z4_0 := World.block_lt_of_cell? _ _ k4_0
      (try dsimp only at z4_0)
      clear hb
      have L3 := Lib.hid lw3
      clear lw3 ia hB3 hL3 R4_2
      go_wp2_with fail
      obtain ⟨wD, hw_⟩ : ∃ q, q = wC.alloc (.cells #[.int .i64 x3, .slice A3 m3 c3] 33) := ⟨_, rfl⟩
      rw [← hw_]
      have hb : Below wC.heap.size wC wD := by rw [hw_]; exact (Below.refl _ _).alloc (Nat.le_refl _) _
      have n5_0 : wD.cell? ⟨wC.heap.size, 0, none⟩ = some (.int .i64 x3) := by rw [hw_]; simp [go_sem]
      have n5_1 : wD.cell? ⟨wC.heap.size, 1, none⟩ = some (.slice A3 m3 c3) := by rw [hw_]; simp [go_sem]
      have k5_0 := cell_later hb k4_0
      have k5_1 := cell_later hb k4_1
      have R5_0 := Lib.hid (R4_0.out.later hb)
      have R5_1 := Lib.hid (R4_1.out.later hb)
      have R5_2 := Lib.hid (L3.out.later hb)
      have B5 : Hid (Below w.heap.size w wD) := Lib.hid (below_then B4.out hb)
      clear k4_0 k4_1 R4_0 R4_1 L3 B4
      have z5_0 := World.block_lt_of_cell? _ _ k5_0
      (try dsimp only at z5_0)
      have zn5 : wC.heap.size < wD.heap.size := by rw [hw_]; simp
      clear hb hw_
      refine (HCL.out _ R5_0.out).mono ?_
      rintro e_ wE ⟨B2, e2, rfl, ib, hb⟩
      have k6_0 := cell_later hb k5_0
      have k6_1 := cell_later hb k5_1
      have k6_2 := cell_later hb n5_0
      have k6_3 := cell_later hb n5_1
      have R6_0 := Lib.hid (R5_0.out.later hb)
      have R6_1 := Lib.hid (R5_1.out.later hb)
      have R6_2 := Lib.hid (R5_2.out.later hb)
      have B6 : Hid (Below w.heap.size w wE) := Lib.hid (below_then B5.out hb)
      clear k5_0 k5_1 n5_0 n5_1 R5_0 R5_1 R5_2 B5
      have z6_0 := World.block_lt_of_cell? _ _ k6_0
      (try dsimp only at z6_0)
      have z6_2 := World.block_lt_of_cell? _ _ k6_2
      (try dsimp only at z6_2)
      clear hb
      go_wp2_with fail
      refine (HSN.out _ _ _ ib).mono ?_
      rintro e_ wF ⟨A5, m5, c5, rfl, sn5, hb⟩
      have k7_0 := cell_later hb k6_0
      have k7_1 := cell_later hb k6_1
      have k7_2 := cell_later hb k6_2
      have k7_3 := cell_later hb k6_3
      have R7_0 := Lib.hid (R6_0.out.later hb)
      have R7_1 := Lib.hid (R6_1.out.later hb)
      have R7_2 := Lib.hid (R6_2.out.later hb)
      have B7 : Hid (Below w.heap.size w wF) := Lib.hid (below_then B6.out hb)
      clear k6_0 k6_1 k6_2 k6_3 R6_0 R6_1 R6_2 B6
      have z7_0 := World.block_lt_of_cell? _ _ k7_0
      (try dsimp only at z7_0)
      have z7_2 := World.block_lt_of_cell? _ _ k7_2
      (try dsimp only at z7_2)
      clear hb
      have L5 := Lib.hid sn5
      clear sn5 ib
      go_wp2_with fail
      refine (HCL.out _ R7_0.out).mono ?_
      rintro e_ wG ⟨B3, e3, rfl, ib, hb⟩
      have k8_0 := cell_later hb k7_0
      have k8_1 := cell_later hb k7_1
      have k8_2 := cell_later hb k7_2
      have k8_3 := cell_later hb k7_3
      have R8_0 := Lib.hid (R7_0.out.later hb)
      have R8_1 := Lib.hid (R7_1.out.later hb)
      have R8_2 := Lib.hid (R7_2.out.later hb)
      have R8_3 := Lib.hid (L5.out.later hb)
      have B8 : Hid (Below w.heap.size w wG) := Lib.hid (below_then B7.out hb)
      clear k7_0 k7_1 k7_2 k7_3 R7_0 R7_1 R7_2 L5 B7
      have z8_0 := World.block_lt_of_cell? _ _ k8_0
      (try dsimp only at z8_0)
      have z8_2 := World.block_lt_of_cell? _ _ k8_2
      (try dsimp only at z8_2)
      clear hb
      go_wp2_with fail
      refine (HRC.out _ _ _ ib).mono ?_
      rintro e_ wH ⟨x7, A7, m7, c7, rfl, lw7, hB3, hL3, hb⟩
      have k9_0 := cell_later hb k8_0
      have k9_1 := cell_later hb k8_1
      have k9_2 := cell_later hb k8_2
      have k9_3 := cell_later hb k8_3
      have R9_0 := Lib.hid (R8_0.out.later hb)
      have R9_1 := Lib.hid (R8_1.out.later hb)
      have R9_2 := Lib.hid (R8_2.out.later hb)
      have R9_3 := Lib.hid (R8_3.out.later hb)
      have B9 : Hid (Below w.heap.size w wH) := Lib.hid (below_then B8.out hb)
      clear k8_0 k8_1 k8_2 k8_3 R8_0 R8_1 R8_2 R8_3 B8
      have z9_0 := World.block_lt_of_cell? _ _ k9_0
      (try dsimp only at z9_0)
      have z9_2 := World.block_lt_of_cell? _ _ k9_2
      (try dsimp only at z9_2)
      clear hb
      have L7 := Lib.hid lw7
      clear lw7 ib hB3 hL3
      go_wp2_with fail
      obtain ⟨wI, hw_⟩ : ∃ q, q = wH.alloc (.cells #[.int .i64 x7, .slice A7 m7 c7] 33) := ⟨_, rfl⟩
      rw [← hw_]
      have hb : Below wH.heap.size wH wI := by rw [hw_]; exact (Below.refl _ _).alloc (Nat.le_refl _) _
      have n10_0 : wI.cell? ⟨wH.heap.size, 0, none⟩ = some (.int .i64 x7) := by rw [hw_]; simp [go_sem]
      have n10_1 : wI.cell? ⟨wH.heap.size, 1, none⟩ = some (.slice A7 m7 c7) := by rw [hw_]; simp [go_sem]
      have k10_0 := cell_later hb k9_0
      have k10_1 := cell_later hb k9_1
      have k10_2 := cell_later hb k9_2
      have k10_3 := cell_later hb k9_3
      have R10_0 := Lib.hid (R9_0.out.later hb)
      have R10_1 := Lib.hid (R9_1.out.later hb)
      have R10_2 := Lib.hid (R9_2.out.later hb)
      have R10_3 := Lib.hid (R9_3.out.later hb)
      have R10_4 := Lib.hid (L7.out.later hb)
      have B10 : Hid (Below w.heap.size w wI) := Lib.hid (below_then B9.out hb)
      clear k9_0 k9_1 k9_2 k9_3 R9_0 R9_1 R9_2 R9_3 L7 B9
      have z10_0 := World.block_lt_of_cell? _ _ k10_0
      (try dsimp only at z10_0)
      have z10_2 := World.block_lt_of_cell? _ _ k10_2
      (try dsimp only at z10_2)
      have zn10 : wH.heap.size < wI.heap.size := by rw [hw_]; simp
      clear hb hw_
      refine (HLE.out _ R10_0.out).mono ?_
      rintro e_ wJ ⟨rfl, hb⟩
      have k11_0 := cell_later hb k10_0
      have k11_1 := cell_later hb k10_1
      have k11_2 := cell_later hb k10_2
      have k11_3 := cell_later hb k10_3
      have k11_4 := cell_later hb n10_0
      have k11_5 := cell_later hb n10_1
      have R11_0 := Lib.hid (R10_0.out.later hb)
      have R11_1 := Lib.hid (R10_1.out.later hb)
      have R11_2 := Lib.hid (R10_2.out.later hb)
      have R11_3 := Lib.hid (R10_3.out.later hb)
      have R11_4 := Lib.hid (R10_4.out.later hb)
      have B11 : Hid (Below w.heap.size w wJ) := Lib.hid (below_then B10.out hb)
      clear k10_0 k10_1 k10_2 k10_3 n10_0 n10_1 R10_0 R10_1 R10_2 R10_3 R10_4 B10
      have z11_0 := World.block_lt_of_cell? _ _ k11_0
      (try dsimp only at z11_0)
      have z11_2 := World.block_lt_of_cell? _ _ k11_2
      (try dsimp only at z11_2)
      have z11_4 := World.block_lt_of_cell? _ _ k11_4
      (try dsimp only at z11_4)
      clear hb
      by_cases hE : ed = 0
      · have HRW' := Lib.hid (HRW.out hE)
        have HRR' := Lib.hid (HRR.out hE)
        have HRS' := Lib.hid (HRS.out hE)
        have PC' := Lib.hid (PC.out hE)
        obtain ⟨l5, -⟩ := R11_3.out
        obtain ⟨em, l5i⟩ := l5 hE
        subst em
        have S5 := Lib.hid l5i
        clear l5 l5i R11_3
        subst hE
        clear HRW HRR HRS HWO HSN HRC PW PR PC
        go_wp2_with fail
        refine (HRW'.out _ R11_0.out R11_1.out).mono ?_
        rintro e_ wK ⟨xw, Aw, mw, cw, rfl, lww, hB3, hL3, hb⟩
        have k12_0 := cell_later hb k11_0
        have k12_1 := cell_later hb k11_1
        have k12_2 := cell_later hb k11_2
        have k12_3 := cell_later hb k11_3
        have k12_4 := cell_later hb k11_4
        have k12_5 := cell_later hb k11_5
        have R12_0 := Lib.hid (R11_0.out.later hb)
        have R12_1 := Lib.hid (R11_1.out.later hb)
        have R12_2 := Lib.hid (R11_2.out.later hb)
        have R12_3 := Lib.hid (S5.out.later hb)
        have R12_4 := Lib.hid (R11_4.out.later hb)
        have B12 : Hid (Below w.heap.size w wK) := Lib.hid (below_then B11.out hb)
        clear k11_0 k11_1 k11_2 k11_3 k11_4 k11_5 R11_0 R11_1 R11_2 S5 R11_4 B11
        have z12_0 := World.block_lt_of_cell? _ _ k12_0
        (try dsimp only at z12_0)
        have z12_2 := World.block_lt_of_cell? _ _ k12_2
        (try dsimp only at z12_2)
        have z12_4 := World.block_lt_of_cell? _ _ k12_4
        (try dsimp only at z12_4)
        clear hb
        have LV := Lib.hid lww
        clear lww hB3 hL3
        go_upto_region 12 with fail
        obtain ⟨wL, hw_⟩ : ∃ q, q = wK.alloc (.cells #[.int .i64 xw, .slice Aw mw cw] 33) := ⟨_, rfl⟩
        rw [← hw_]
        have hb : Below wK.heap.size wK wL := by rw [hw_]; exact (Below.refl _ _).alloc (Nat.le_refl _) _
        have n13_0 : wL.cell? ⟨wK.heap.size, 0, none⟩ = some (.int .i64 xw) := by rw [hw_]; simp [go_sem]
        have n13_1 : wL.cell? ⟨wK.heap.size, 1, none⟩ = some (.slice Aw mw cw) := by rw [hw_]; simp [go_sem]
        have k13_0 := cell_later hb k12_0
        have k13_1 := cell_later hb k12_1
        have k13_2 := cell_later hb k12_2
        have k13_3 := cell_later hb k12_3
        have k13_4 := cell_later hb k12_4
        have k13_5 := cell_later hb k12_5
        have R13_0 := Lib.hid (R12_0.out.later hb)
        have R13_1 := Lib.hid (R12_1.out.later hb)
        have R13_2 := Lib.hid (R12_2.out.later hb)
        have R13_3 := Lib.hid (R12_3.out.later hb)
        have R13_4 := Lib.hid (R12_4.out.later hb)
        have R13_5 := Lib.hid (LV.out.later hb)
        have B13 : Hid (Below w.heap.size w wL) := Lib.hid (below_then B12.out hb)
        clear k12_0 k12_1 k12_2 k12_3 k12_4 k12_5 R12_0 R12_1 R12_2 R12_3 R12_4 LV B12
        have z13_0 := World.block_lt_of_cell? _ _ k13_0
        (try dsimp only at z13_0)
        have z13_2 := World.block_lt_of_cell? _ _ k13_2
        (try dsimp only at z13_2)
        have z13_4 := World.block_lt_of_cell? _ _ k13_4
        (try dsimp only at z13_4)
        have zn13 : wK.heap.size < wL.heap.size := by rw [hw_]; simp
        clear hb hw_
        go_upto_region 13 with fail
        obtain ⟨wZr, hz_⟩ : ∃ q, q = wL.alloc (.cells #[.int .i64 0, .slice none 0 0] 33) := ⟨_, rfl⟩
        rw [← hz_]
        have hb0 : Below wL.heap.size wL wZr := by rw [hz_]; exact (Below.refl _ _).alloc (Nat.le_refl _) _
        have y0 : wZr.cell? ⟨wL.heap.size, 0, none⟩ = some (.int .i64 0) := by rw [hz_]; simp [go_sem]
        have yf0 : wZr.frozen? ⟨wL.heap.size, 0, none⟩ = false := by rw [hz_]; simp [go_sem]
        have y1 : wZr.cell? ⟨wL.heap.size, 1, none⟩ = some (.slice none 0 0) := by rw [hz_]; simp [go_sem]
        have yf1 : wZr.frozen? ⟨wL.heap.size, 1, none⟩ = false := by rw [hz_]; simp [go_sem]
        have yz : wL.heap.size < wZr.heap.size := by rw [hz_]; simp
        clear hz_
        go_wp2_with fail
        refine (HCK.out _).mono ?_
        rintro e_ w' ⟨rfl, rfl⟩
        by_cases hC : ce = 0
        · have HRZ := Lib.hid (HRR'.out hC)
          subst hC
          clear HRR' PC'
          have zc0 := cell_later hb0 k13_0
          have zc1 := cell_later hb0 k13_1
          go_wp2_with fail
          refine (HRZ.out _ (R13_0.out.later hb0)).mono ?_
          rintro e_ wN ⟨xl, Al, ml, cl, rfl, lw_, hB_, hL_, hb⟩
          have yn0 := cell_later hb y0
          have yg0 := frozen_after hb y0 yf0
          have yn1 := cell_later hb y1
          have yg1 := frozen_after hb y1 yf1
          have yz2 := hb.size
          go_upto_region 16 with fail
          obtain ⟨wP, hw_⟩ : ∃ q, q = (wN.setCell ⟨wL.heap.size, 0, none⟩ (.int .i64 xl)).setCell ⟨wL.heap.size, 1, none⟩ (.slice Al ml cl) := ⟨_, rfl⟩
          rw [← hw_]
          have hM : Below wL.heap.size wL wP := by rw [hw_]; exact ((Below.trans hb0 (hb.mono (by omega))).setCell (Nat.le_refl _) _).setCell (Nat.le_refl _) _
          have p0 : wP.cell? ⟨wL.heap.size, 0, none⟩ = some (.int .i64 xl) := by rw [hw_]; exact setO (.inr (by dsimp only; omega)) (setS yn0)
          have p1 : wP.cell? ⟨wL.heap.size, 1, none⟩ = some (.slice Al ml cl) := by rw [hw_]; exact setS (setO (.inr (by dsimp only; omega)) yn1)
          have LZ := Lib.hid (show Lw _ _ _ _ _ _ _ _ wP by rw [hw_]; exact ((lw_.set _ _ _ (fun a e => by have := hB_ a e; omega)).set _ _ _ (fun a e => by have := hB_ a e; omega)))
          clear y0 y1 yf0 yf1 yn0 yn1 yg0 yg1 hb hb0 lw_ hB_ hL_ hw_ yz yz2 zc0 zc1
          have k14_0 := cell_later hM k13_0
          have k14_1 := cell_later hM k13_1
          have k14_2 := cell_later hM k13_2
          have k14_3 := cell_later hM k13_3
          have k14_4 := cell_later hM k13_4
          have k14_5 := cell_later hM k13_5
          have k14_6 := cell_later hM n13_0
          have k14_7 := cell_later hM n13_1
          have R14_0 := Lib.hid (R13_0.out.later hM)
          have R14_1 := Lib.hid (R13_1.out.later hM)
          have R14_2 := Lib.hid (R13_2.out.later hM)
          have R14_3 := Lib.hid (R13_3.out.later hM)
          have R14_4 := Lib.hid (R13_4.out.later hM)
          have R14_5 := Lib.hid (R13_5.out.later hM)
          have B14 : Hid (Below w.heap.size w wP) := Lib.hid (below_then B13.out hM)
          clear k13_0 k13_1 k13_2 k13_3 k13_4 k13_5 n13_0 n13_1 R13_0 R13_1 R13_2 R13_3 R13_4 R13_5 B13
          have z14_0 := World.block_lt_of_cell? _ _ k14_0
          (try dsimp only at z14_0)
          have z14_2 := World.block_lt_of_cell? _ _ k14_2
          (try dsimp only at z14_2)
          have z14_4 := World.block_lt_of_cell? _ _ k14_4
          (try dsimp only at z14_4)
          have z14_6 := World.block_lt_of_cell? _ _ k14_6
          (try dsimp only at z14_6)
          clear hM
          go_wp2_with fail
          refine (HSW.out _ _ _ _ _ _ _ _ _ R14_2.out R14_5.out).mono ?_
          rintro e_ wQ ⟨rfl, hb⟩
          have k15_0 := cell_later hb k14_0
          have k15_1 := cell_later hb k14_1
          have k15_2 := cell_later hb k14_2
          have k15_3 := cell_later hb k14_3
          have k15_4 := cell_later hb k14_4
          have k15_5 := cell_later hb k14_5
          have k15_6 := cell_later hb k14_6
          have k15_7 := cell_later hb k14_7
          have k15_8 := cell_later hb p0
          have k15_9 := cell_later hb p1
          have R15_0 := Lib.hid (R14_0.out.later hb)
          have R15_1 := Lib.hid (R14_1.out.later hb)
          have R15_2 := Lib.hid (R14_2.out.later hb)
          have R15_3 := Lib.hid (R14_3.out.later hb)
          have R15_4 := Lib.hid (R14_4.out.later hb)
          have R15_5 := Lib.hid (R14_5.out.later hb)
          have R15_6 := Lib.hid (LZ.out.later hb)
          have B15 : Hid (Below w.heap.size w wQ) := Lib.hid (below_then B14.out hb)
          clear k14_0 k14_1 k14_2 k14_3 k14_4 k14_5 k14_6 k14_7 p0 p1 R14_0 R14_1 R14_2 R14_3 R14_4 R14_5 LZ B14
          have z15_0 := World.block_lt_of_cell? _ _ k15_0
          (try dsimp only at z15_0)
          have z15_2 := World.block_lt_of_cell? _ _ k15_2
          (try dsimp only at z15_2)
          have z15_4 := World.block_lt_of_cell? _ _ k15_4
          (try dsimp only at z15_4)
          have z15_6 := World.block_lt_of_cell? _ _ k15_6
          (try dsimp only at z15_6)
          have z15_8 := World.block_lt_of_cell? _ _ k15_8
          (try dsimp only at z15_8)
          clear hb
          go_wp2_with fail
          refine (HRS'.out _ R15_0.out).mono ?_
          rintro e_ wR ⟨A8, c8, rfl, i8, hb⟩
          have k16_0 := cell_later hb k15_0
          have k16_1 := cell_later hb k15_1
          have k16_2 := cell_later hb k15_2
          have k16_3 := cell_later hb k15_3
          have k16_4 := cell_later hb k15_4
          have k16_5 := cell_later hb k15_5
          have k16_6 := cell_later hb k15_6
          have k16_7 := cell_later hb k15_7
          have k16_8 := cell_later hb k15_8
          have k16_9 := cell_later hb k15_9
          have R16_0 := Lib.hid (R15_0.out.later hb)
          have R16_1 := Lib.hid (R15_1.out.later hb)
          have R16_2 := Lib.hid (R15_2.out.later hb)
          have R16_3 := Lib.hid (R15_3.out.later hb)
          have R16_4 := Lib.hid (R15_4.out.later hb)
          have R16_5 := Lib.hid (R15_5.out.later hb)
          have R16_6 := Lib.hid (R15_6.out.later hb)
          have B16 : Hid (Below w.heap.size w wR) := Lib.hid (below_then B15.out hb)
          clear k15_0 k15_1 k15_2 k15_3 k15_4 k15_5 k15_6 k15_7 k15_8 k15_9 R15_0 R15_1 R15_2 R15_3 R15_4 R15_5 R15_6 B15
          have z16_0 := World.block_lt_of_cell? _ _ k16_0
          (try dsimp only at z16_0)
          have z16_2 := World.block_lt_of_cell? _ _ k16_2
          (try dsimp only at z16_2)
          have z16_4 := World.block_lt_of_cell? _ _ k16_4
          (try dsimp only at z16_4)
          have z16_6 := World.block_lt_of_cell? _ _ k16_6
          (try dsimp only at z16_6)
          have z16_8 := World.block_lt_of_cell? _ _ k16_8
          (try dsimp only at z16_8)
          clear hb
          go_wp2_with fail
          refine (HIN.out _ _ _ _ _ R16_3.out i8).mono ?_
          rintro e_ wS ⟨rfl, hb⟩
          have k17_0 := cell_later hb k16_0
          have k17_1 := cell_later hb k16_1
          have k17_2 := cell_later hb k16_2
          have k17_3 := cell_later hb k16_3
          have k17_4 := cell_later hb k16_4
          have k17_5 := cell_later hb k16_5
          have k17_6 := cell_later hb k16_6
          have k17_7 := cell_later hb k16_7
          have k17_8 := cell_later hb k16_8
          have k17_9 := cell_later hb k16_9
          have R17_0 := Lib.hid (R16_0.out.later hb)
          have R17_1 := Lib.hid (R16_1.out.later hb)
          have R17_2 := Lib.hid (R16_2.out.later hb)
          have R17_3 := Lib.hid (R16_3.out.later hb)
          have R17_4 := Lib.hid (R16_4.out.later hb)
          have R17_5 := Lib.hid (R16_5.out.later hb)
          have R17_6 := Lib.hid (R16_6.out.later hb)
          have B17 : Hid (Below w.heap.size w wS) := Lib.hid (below_then B16.out hb)
          clear k16_0 k16_1 k16_2 k16_3 k16_4 k16_5 k16_6 k16_7 k16_8 k16_9 R16_0 R16_1 R16_2 R16_3 R16_4 R16_5 R16_6 B16
          have z17_0 := World.block_lt_of_cell? _ _ k17_0
          (try dsimp only at z17_0)
          have z17_2 := World.block_lt_of_cell? _ _ k17_2
          (try dsimp only at z17_2)
          have z17_4 := World.block_lt_of_cell? _ _ k17_4
          (try dsimp only at z17_4)
          have z17_6 := World.block_lt_of_cell? _ _ k17_6
          (try dsimp only at z17_6)
          have z17_8 := World.block_lt_of_cell? _ _ k17_8
          (try dsimp only at z17_8)
          clear hb
          clear i8
          go_wp2_with fail
          refine (HSR.out _ _ _ _ _ _ _ _ _ R17_4.out R17_6.out).mono ?_
          rintro e_ wT ⟨rfl, hb⟩
          have k18_0 := cell_later hb k17_0
          have k18_1 := cell_later hb k17_1
          have k18_2 := cell_later hb k17_2
          have k18_3 := cell_later hb k17_3
          have k18_4 := cell_later hb k17_4
          have k18_5 := cell_later hb k17_5
          have k18_6 := cell_later hb k17_6
          have k18_7 := cell_later hb k17_7
          have k18_8 := cell_later hb k17_8
          have k18_9 := cell_later hb k17_9
          have R18_0 := Lib.hid (R17_0.out.later hb)
          have R18_1 := Lib.hid (R17_1.out.later hb)
          have R18_2 := Lib.hid (R17_2.out.later hb)
          have R18_3 := Lib.hid (R17_3.out.later hb)
          have R18_4 := Lib.hid (R17_4.out.later hb)
          have R18_5 := Lib.hid (R17_5.out.later hb)
          have R18_6 := Lib.hid (R17_6.out.later hb)
          have B18 : Hid (Below w.heap.size w wT) := Lib.hid (below_then B17.out hb)
          clear k17_0 k17_1 k17_2 k17_3 k17_4 k17_5 k17_6 k17_7 k17_8 k17_9 R17_0 R17_1 R17_2 R17_3 R17_4 R17_5 R17_6 B17
          have z18_0 := World.block_lt_of_cell? _ _ k18_0
          (try dsimp only at z18_0)
          have z18_2 := World.block_lt_of_cell? _ _ k18_2
          (try dsimp only at z18_2)
          have z18_4 := World.block_lt_of_cell? _ _ k18_4
          (try dsimp only at z18_4)
          have z18_6 := World.block_lt_of_cell? _ _ k18_6
          (try dsimp only at z18_6)
          have z18_8 := World.block_lt_of_cell? _ _ k18_8
          (try dsimp only at z18_8)
          clear hb
          go_wp2
          go_ret
          exact ⟨by simp, B18.out⟩
        · have e7 := PC'.out hC
          have LZ := Lib.hid (Lw.none k v d.n E7 wZr (by rw [e7]; exact hC))
          have n1 : (ce == 0) = false := by simpa using hC
          have n2 : (ce != 0) = true := by simpa using hC
          have e7' := e7.symm
          clear e7 hC HRR' PC'
          subst e7'
          have k14_0 := cell_later hb0 k13_0
          have k14_1 := cell_later hb0 k13_1
          have k14_2 := cell_later hb0 k13_2
          have k14_3 := cell_later hb0 k13_3
          have k14_4 := cell_later hb0 k13_4
          have k14_5 := cell_later hb0 k13_5
          have k14_6 := cell_later hb0 n13_0
          have k14_7 := cell_later hb0 n13_1
          have R14_0 := Lib.hid (R13_0.out.later hb0)
          have R14_1 := Lib.hid (R13_1.out.later hb0)
          have R14_2 := Lib.hid (R13_2.out.later hb0)
          have R14_3 := Lib.hid (R13_3.out.later hb0)
          have R14_4 := Lib.hid (R13_4.out.later hb0)
          have R14_5 := Lib.hid (R13_5.out.later hb0)
          have B14 : Hid (Below w.heap.size w wZr) := Lib.hid (below_then B13.out hb0)
          clear k13_0 k13_1 k13_2 k13_3 k13_4 k13_5 n13_0 n13_1 R13_0 R13_1 R13_2 R13_3 R13_4 R13_5 B13
          have z14_0 := World.block_lt_of_cell? _ _ k14_0
          (try dsimp only at z14_0)
          have z14_2 := World.block_lt_of_cell? _ _ k14_2
          (try dsimp only at z14_2)
          have z14_4 := World.block_lt_of_cell? _ _ k14_4
          (try dsimp only at z14_4)
          have z14_6 := World.block_lt_of_cell? _ _ k14_6
          (try dsimp only at z14_6)
          clear hb0 yz
          go_wp2_with fail
          refine (HSW.out _ _ _ _ _ _ _ _ _ R14_2.out R14_5.out).mono ?_
          rintro e_ wQ ⟨rfl, hb⟩
          have k15_0 := cell_later hb k14_0
          have k15_1 := cell_later hb k14_1
          have k15_2 := cell_later hb k14_2
          have k15_3 := cell_later hb k14_3
          have k15_4 := cell_later hb k14_4
          have k15_5 := cell_later hb k14_5
          have k15_6 := cell_later hb k14_6
          have k15_7 := cell_later hb k14_7
          have k15_8 := cell_later hb y0
          have k15_9 := cell_later hb y1
          have R15_0 := Lib.hid (R14_0.out.later hb)
          have R15_1 := Lib.hid (R14_1.out.later hb)
          have R15_2 := Lib.hid (R14_2.out.later hb)
          have R15_3 := Lib.hid (R14_3.out.later hb)
          have R15_4 := Lib.hid (R14_4.out.later hb)
          have R15_5 := Lib.hid (R14_5.out.later hb)
          have R15_6 := Lib.hid (LZ.out.later hb)
          have B15 : Hid (Below w.heap.size w wQ) := Lib.hid (below_then B14.out hb)
          clear k14_0 k14_1 k14_2 k14_3 k14_4 k14_5 k14_6 k14_7 y0 y1 R14_0 R14_1 R14_2 R14_3 R14_4 R14_5 LZ B14
          have z15_0 := World.block_lt_of_cell? _ _ k15_0
          (try dsimp only at z15_0)
          have z15_2 := World.block_lt_of_cell? _ _ k15_2
          (try dsimp only at z15_2)
          have z15_4 := World.block_lt_of_cell? _ _ k15_4
          (try dsimp only at z15_4)
          have z15_6 := World.block_lt_of_cell? _ _ k15_6
          (try dsimp only at z15_6)
          have z15_8 := World.block_lt_of_cell? _ _ k15_8
          (try dsimp only at z15_8)
          clear hb
          go_wp2_with fail
          refine (HRS'.out _ R15_0.out).mono ?_
          rintro e_ wR ⟨A8, c8, rfl, i8, hb⟩
          have k16_0 := cell_later hb k15_0
          have k16_1 := cell_later hb k15_1
          have k16_2 := cell_later hb k15_2
          have k16_3 := cell_later hb k15_3
          have k16_4 := cell_later hb k15_4
          have k16_5 := cell_later hb k15_5
          have k16_6 := cell_later hb k15_6
          have k16_7 := cell_later hb k15_7
          have k16_8 := cell_later hb k15_8
          have k16_9 := cell_later hb k15_9
          have R16_0 := Lib.hid (R15_0.out.later hb)
          have R16_1 := Lib.hid (R15_1.out.later hb)
          have R16_2 := Lib.hid (R15_2.out.later hb)
          have R16_3 := Lib.hid (R15_3.out.later hb)
          have R16_4 := Lib.hid (R15_4.out.later hb)
          have R16_5 := Lib.hid (R15_5.out.later hb)
          have R16_6 := Lib.hid (R15_6.out.later hb)
          have B16 : Hid (Below w.heap.size w wR) := Lib.hid (below_then B15.out hb)
          clear k15_0 k15_1 k15_2 k15_3 k15_4 k15_5 k15_6 k15_7 k15_8 k15_9 R15_0 R15_1 R15_2 R15_3 R15_4 R15_5 R15_6 B15
          have z16_0 := World.block_lt_of_cell? _ _ k16_0
          (try dsimp only at z16_0)
          have z16_2 := World.block_lt_of_cell? _ _ k16_2
          (try dsimp only at z16_2)
          have z16_4 := World.block_lt_of_cell? _ _ k16_4
          (try dsimp only at z16_4)
          have z16_6 := World.block_lt_of_cell? _ _ k16_6
          (try dsimp only at z16_6)
          have z16_8 := World.block_lt_of_cell? _ _ k16_8
          (try dsimp only at z16_8)
          clear hb
          go_wp2_with fail
          refine (HIN.out _ _ _ _ _ R16_3.out i8).mono ?_
          rintro e_ wS ⟨rfl, hb⟩
          have k17_0 := cell_later hb k16_0
          have k17_1 := cell_later hb k16_1
          have k17_2 := cell_later hb k16_2
          have k17_3 := cell_later hb k16_3
          have k17_4 := cell_later hb k16_4
          have k17_5 := cell_later hb k16_5
          have k17_6 := cell_later hb k16_6
          have k17_7 := cell_later hb k16_7
          have k17_8 := cell_later hb k16_8
          have k17_9 := cell_later hb k16_9
          have R17_0 := Lib.hid (R16_0.out.later hb)
          have R17_1 := Lib.hid (R16_1.out.later hb)
          have R17_2 := Lib.hid (R16_2.out.later hb)
          have R17_3 := Lib.hid (R16_3.out.later hb)
          have R17_4 := Lib.hid (R16_4.out.later hb)
          have R17_5 := Lib.hid (R16_5.out.later hb)
          have R17_6 := Lib.hid (R16_6.out.later hb)
          have B17 : Hid (Below w.heap.size w wS) := Lib.hid (below_then B16.out hb)
          clear k16_0 k16_1 k16_2 k16_3 k16_4 k16_5 k16_6 k16_7 k16_8 k16_9 R16_0 R16_1 R16_2 R16_3 R16_4 R16_5 R16_6 B16
          have z17_0 := World.block_lt_of_cell? _ _ k17_0
          (try dsimp only at z17_0)
          have z17_2 := World.block_lt_of_cell? _ _ k17_2
          (try dsimp only at z17_2)
          have z17_4 := World.block_lt_of_cell? _ _ k17_4
          (try dsimp only at z17_4)
          have z17_6 := World.block_lt_of_cell? _ _ k17_6
          (try dsimp only at z17_6)
          have z17_8 := World.block_lt_of_cell? _ _ k17_8
          (try dsimp only at z17_8)
          clear hb
          clear i8
          go_wp2_with fail
          refine (HSR.out _ _ _ _ _ _ _ _ _ R17_4.out R17_6.out).mono ?_
          rintro e_ wT ⟨rfl, hb⟩
          have k18_0 := cell_later hb k17_0
          have k18_1 := cell_later hb k17_1
          have k18_2 := cell_later hb k17_2
          have k18_3 := cell_later hb k17_3
          have k18_4 := cell_later hb k17_4
          have k18_5 := cell_later hb k17_5
          have k18_6 := cell_later hb k17_6
          have k18_7 := cell_later hb k17_7
          have k18_8 := cell_later hb k17_8
          have k18_9 := cell_later hb k17_9
          have R18_0 := Lib.hid (R17_0.out.later hb)
          have R18_1 := Lib.hid (R17_1.out.later hb)
          have R18_2 := Lib.hid (R17_2.out.later hb)
          have R18_3 := Lib.hid (R17_3.out.later hb)
          have R18_4 := Lib.hid (R17_4.out.later hb)
          have R18_5 := Lib.hid (R17_5.out.later hb)
          have R18_6 := Lib.hid (R17_6.out.later hb)
          have B18 : Hid (Below w.heap.size w wT) := Lib.hid (below_then B17.out hb)
          clear k17_0 k17_1 k17_2 k17_3 k17_4 k17_5 k17_6 k17_7 k17_8 k17_9 R17_0 R17_1 R17_2 R17_3 R17_4 R17_5 R17_6 B17
          have z18_0 := World.block_lt_of_cell? _ _ k18_0
          (try dsimp only at z18_0)
          have z18_2 := World.block_lt_of_cell? _ _ k18_2
          (try dsimp only at z18_2)
          have z18_4 := World.block_lt_of_cell? _ _ k18_4
          (try dsimp only at z18_4)
          have z18_6 := World.block_lt_of_cell? _ _ k18_6
          (try dsimp only at z18_6)
          have z18_8 := World.block_lt_of_cell? _ _ k18_8
          (try dsimp only at z18_8)
          clear hb
          go_wp2
          go_ret
          exact ⟨by simp, B18.out⟩
      · obtain ⟨-, -, l3⟩ := R11_2.out
        obtain ⟨-, l5⟩ := R11_3.out
        obtain ⟨-, -, l7⟩ := R11_4.out
        have e5 := PW.out hE
        have e7 := PR.out hE
        obtain ⟨rfl, rfl, rfl⟩ := l3 (by rw [e5]; exact hE)
        obtain rfl := l5 hE
        obtain ⟨rfl, rfl, rfl⟩ := l7 (by rw [e7]; exact hE)
        clear l3 l5 l7
        have e5' := e5.symm
        have e7' := e7.symm
        clear e5 e7
        subst e5'
        subst e7'
        have n1 : (ed == 0) = false := by simpa using hE
        have n2 : (ed != 0) = true := by simpa using hE
        clear HRW HRR HRS HWO HSN HRC HSW HSR HIN PW PR PC hE R11_2 R11_3 R11_4
        go_wp2
        go_ret
        exact ⟨by simp, B11.out⟩
    · have FD : Hid (decide ((nd : Int) ≤ 18) = false) := Lib.hid (by simp; omega)
      clear h1 h2 hB hD
      go_enter Tryz.func6, Tryz.ntmps6
      go_wp2_with fail
      refine (AWK.out _ (LH.out.later (by repeat (first | exact Below.refl _ _ | refine Below.drew ?_ | refine below_drewN ?_ _ | refine Below.setCell ?_ (by first | omega | (simp; done) | (simp; omega)) _ | refine Below.alloc ?_ (by first | omega | (simp; done) | (simp; omega)) _)))).mono ?_
      rintro e w1 ⟨rfl, hb1⟩
      have qw10 : w1.cell? ⟨w.heap.size, 0, none⟩ = some (.int .i64 d.ck) := cell_later hb1 (by simp [go_sem])
      have qw11 : w1.cell? ⟨w.heap.size, 1, none⟩ = some (.slice B d.n e) := cell_later hb1 (by simp [go_sem])
      have zqw1_0 := World.block_lt_of_cell? _ _ qw10
      dsimp only at zqw1_0
      have H1 : Hid (Below w.heap.size w w1) := Lib.hid (below_after (by repeat (first | exact Below.refl _ _ | refine Below.drew ?_ | refine below_drewN ?_ _ | refine Below.setCell ?_ (by first | omega | (simp; done) | (simp; omega)) _ | refine Below.alloc ?_ (by first | omega | (simp; done) | (simp; omega)) _)) hb1 (by first | omega | (simp; done) | (simp; omega))); clear hb1
      go_wp2_with (go_at_call 9; (with_reducible refine (few_any _ _).mono ?_); (first | rw [FA.out] | rw [FD.out]); rintro e w' ⟨rfl, rfl⟩)
      go_ret
      exact ⟨rfl, H1.out⟩
  · have FA : Hid (decide ((d.n : Int) ≤ 18) = false) := Lib.hid (by simp; omega)
    clear h1 hB hD
    go_enter Tryz.func6, Tryz.ntmps6
    go_wp2_with fail
    refine (AWK.out _ (LH.out.later (by repeat (first | exact Below.refl _ _ | refine Below.drew ?_ | refine below_drewN ?_ _ | refine Below.setCell ?_ (by first | omega | (simp; done) | (simp; omega)) _ | refine Below.alloc ?_ (by first | omega | (simp; done) | (simp; omega)) _)))).mono ?_
    rintro e w1 ⟨rfl, hb1⟩
    have qw10 : w1.cell? ⟨w.heap.size, 0, none⟩ = some (.int .i64 d.ck) := cell_later hb1 (by simp [go_sem])
    have qw11 : w1.cell? ⟨w.heap.size, 1, none⟩ = some (.slice B d.n e) := cell_later hb1 (by simp [go_sem])
    have zqw1_0 := World.block_lt_of_cell? _ _ qw10
    dsimp only at zqw1_0
    have H1 : Hid (Below w.heap.size w w1) := Lib.hid (below_after (by repeat (first | exact Below.refl _ _ | refine Below.drew ?_ | refine below_drewN ?_ _ | refine Below.setCell ?_ (by first | omega | (simp; done) | (simp; omega)) _ | refine Below.alloc ?_ (by first | omega | (simp; done) | (simp; omega)) _)) hb1 (by first | omega | (simp; done) | (simp; omega))); clear hb1
    go_wp2_with (go_at_call 9; (with_reducible refine (few_any _ _).mono ?_); (first | rw [FA.out]); rintro e w' ⟨rfl, rfl⟩)
    go_ret
    exact ⟨rfl, H1.out⟩
end Go.Proofs.YtkkaomgdlnejcaaGreatDoor
