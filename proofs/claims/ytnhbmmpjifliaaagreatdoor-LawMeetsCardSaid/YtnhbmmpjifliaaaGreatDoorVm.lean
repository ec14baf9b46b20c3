/- LawMeets: the walk -/
import Derived.Test.YtnhbmmpjifliaaaGreatDoorVq
import Derived.Test.YtnhbmmpjifliaaaGreatDoorVn
import Derived.Test.YtnhbmmpjifliaaaGreatDoorU2
import Derived.Test.YtnhbmmpjifliaaaGreatDoorU6
import Derived.Test.YtnhbmmpjifliaaaGreatDoorVx
namespace Go.Proofs.YtnhbmmpjifliaaaGreatDoor
open Go.RowKit Go.Shelf RayM
set_option linter.unusedSimpArgs false
set_option linter.unusedVariables false

theorem cut2_ {A B : Prop} (h : A) (f : A → B) : B := f h
/-- what an opaque call leaves: what lay lies -/
def BelA (w w' : World) : Prop := Below w.heap.size w w'
theorem cellA {w w' : World} {a : Addr} {v : Value} (h : BelA w w') (hc : w.cell? a = some v) : w'.cell? a = some v := cell_later h hc
theorem frozenA {w w' : World} {a : Addr} {v : Value} (h : BelA w w') (hc : w.cell? a = some v) (hf : w.frozen? a = false) : w'.frozen? a = false := frozen_after h hc hf
theorem belowA {w0 w w' : World} (h : Below w0.heap.size w0 w) (hb : BelA w w') : Below w0.heap.size w0 w' := below_then h hb
theorem SpAt.laterA {A : Option Addr} {n : Nat} {p : Nat → Sp} {w w' : World} (hb : BelA w w') (r : SpAt A n p w) : SpAt A n p w' := r.later hb
theorem InAt.laterA {A : Option Addr} {n : Nat} {p : Nat → Int} {w w' : World} (hb : BelA w w') (r : InAt A n p w) : InAt A n p w' := r.later hb
theorem SpAt.alloc {A : Option Addr} {n : Nat} {p : Nat → Sp} {w : World} (r : SpAt A n p w) (o : Obj) : SpAt A n p (w.alloc o) := r.later ((Below.refl _ _).alloc (Nat.le_refl _) _)
theorem InAt.alloc {A : Option Addr} {n : Nat} {p : Nat → Int} {w : World} (r : InAt A n p w) (o : Obj) : InAt A n p (w.alloc o) := r.later ((Below.refl _ _).alloc (Nat.le_refl _) _)
theorem SpAt.drew {A : Option Addr} {n : Nat} {p : Nat → Sp} {w : World} (r : SpAt A n p w) : SpAt A n p w.drew := r
theorem InAt.drew {A : Option Addr} {n : Nat} {p : Nat → Int} {w : World} (r : InAt A n p w) : InAt A n p w.drew := r
theorem cell_drewA {w : World} {a : Addr} {v : Value} (h : w.cell? a = some v) : w.drew.cell? a = some v := h
theorem frozen_drewA {w : World} {a : Addr} (h : w.frozen? a = false) : w.drew.frozen? a = false := h
theorem cell_set_old {w wk : World} {a : Addr} {v u x : Value} {i : Nat} (h : w.cell? a = some v) (hk : wk.cell? a = some u) : (w.setCell ⟨wk.heap.size, i, none⟩ x).cell? a = some v := by
  have := World.block_lt_of_cell? _ _ hk
  rw [World.cell?_setCell_other w _ a x (fun e => by rw [← e] at this; exact Nat.lt_irrefl _ this)]; exact h
theorem below_set_old {w0 w wk : World} {x : Value} {i : Nat} (h : Below w0.heap.size w0 w) (hk : Below w0.heap.size w0 wk) : Below w0.heap.size w0 (w.setCell ⟨wk.heap.size, i, none⟩ x) := Below.setCell h hk.size _
theorem upto_mv (f : Nat → Int) (n : Nat) : (upto f n).map (Value.int .i64) = mvs f n := by simp [upto, mvs]
/-- a number modulo another one, not below 0 -/
def mdI (x n : Int) : Int := if x.tmod n < 0 then x.tmod n + n else x.tmod n
theorem mdI_in (x n : Int) (h : 1 ≤ n) : 0 ≤ mdI x n ∧ mdI x n < n := by
  have e := Int.natAbs_tmod x n
  have q := Nat.mod_lt x.natAbs (show 0 < n.natAbs by omega)
  unfold mdI
  by_cases r : x.tmod n < 0
  · rw [if_pos r]; omega
  · rw [if_neg r]; omega
set_option maxRecDepth 100000 in
set_option maxHeartbeats 1000000 in
theorem mod_any (x n : Int) (w : World) (h0 : 1 ≤ n) (h1 : n ≤ 1000) :
    Calls Tryz.prog 35 #[.int .i64 x, .int .i64 n] w fun e w' => e = .returned (.int .i64 (mdI x n)) ∧ w = w' := by
  have e := Int.natAbs_tmod x n
  have q := Nat.mod_lt x.natAbs (show 0 < n.natAbs by omega)
  have b : -1000 ≤ x.tmod n ∧ x.tmod n ≤ 1000 := by omega
  clear e q
  have v : IntKind.i64.wrap (x.tmod n) = x.tmod n := IntWalk.i64_in _ (by omega)
  have v2 : wrap64 (x.tmod n + n) = x.tmod n + n := IntWalk.wrap64_in _ ⟨by omega, by omega⟩
  have z : (n == 0) = false := by simp; omega
  unfold mdI
  by_cases r : x.tmod n < 0
  · rw [if_pos r]
    go_enter Tryz.func35, Tryz.ntmps35
    go_wp2
    go_ret
    exact ⟨by simp [v2], rfl⟩
  · rw [if_neg r]
    have r2 : decide (x.tmod n < 0) = false := by simp; omega
    go_enter Tryz.func35, Tryz.ntmps35
    go_wp2
    go_ret
    exact ⟨by simp, rfl⟩
theorem one_at {g : Nat} {k : Int} {w : World} (h : w.cell? ⟨g, 0, none⟩ = some (.int .i64 k)) : InAt (some ⟨g, 0, none⟩) 1 (fun _ => k) w := fun _ => ⟨_, rfl, fun i hi => by
  obtain rfl : i = 0 := by omega
  exact h⟩
set_option maxRecDepth 100000 in
set_option maxHeartbeats 8000000 in
theorem meets_any (a : La) (f : Sp) (dead : Int) (A : Option Addr) (c : Nat) (w : World) (hL : Laid w) (AWK : Hid (∀ w, Laid w → Calls Tryz.prog 11 #[] w fun e w' => e = .returned (.bool true) ∧ Below w.heap.size w w')) (hA : A = none → a.n = 0 ∧ c = 0) (h : SpAt A a.n a.p w) :
    Calls Tryz.prog 6 #[.agg #[.slice A a.n c, .int .i64 a.m.wd, .int .i64 a.m.mt, .int .i64 a.m.sk, .int .i64 a.m.th, .int .i64 a.ck], .agg #[.int .i64 f.x, .int .i64 f.z], .int .i64 dead] w fun e w' => e = .returned (.bool true) ∧ Below w.heap.size w w' := by
  have HX := Lib.hid h; clear h
  have LH := Lib.hid hL; clear hL
  by_cases h1 : a.n ≤ 18
  · have FA : Hid (decide ((a.n : Int) ≤ 18) = true) := Lib.hid (by simp; omega)
    have HCA : Hid (∀ w', SpAt A a.n a.p w' → Calls Tryz.prog 27 #[.agg #[.slice A a.n c, .int .i64 a.m.wd, .int .i64 a.m.mt, .int .i64 a.m.sk, .int .i64 a.m.th, .int .i64 a.ck]] w' fun e w'' => ∃ A1 c1, e = .returned (.agg #[.slice A1 a.n c1, .int .i64 a.m.wd, .int .i64 a.m.mt, .int .i64 a.m.sk, .int .i64 a.m.th, .int .i64 a.ck]) ∧ SpAt A1 a.n a.p w'' ∧ Below w'.heap.size w' w'') := Lib.hid (fun w' h => (copyArray_any a A c w' (by omega) hA h).mono (fun e w'' ⟨v, e1, ho, hb⟩ => by
      obtain ⟨A1, c1, rfl, _, hs⟩ := own_spots ho
      exact ⟨A1, c1, e1, hs, hb⟩))
    have HFO : Hid (∀ A1 c1 w', SpAt A1 a.n a.p w' → Calls Tryz.prog 32 #[.agg #[.slice A1 a.n c1, .int .i64 a.m.wd, .int .i64 a.m.mt, .int .i64 a.m.sk, .int .i64 a.m.th, .int .i64 a.ck], .agg #[.int .i64 f.x, .int .i64 f.z]] w' fun e_ w'' => ∃ (A5 : Option Addr) (n5 c5 : Nat), e_ = .returned (.tuple #[.agg #[.int .i64 (a.FLC f), .slice A5 n5 c5], .int .i64 (a.FLE f)]) ∧ (a.FLE f ≠ 0 → n5 = 0) ∧ (a.FLE f = 0 → n5 = a.n ∧ A5 ≠ none ∧ InAt A5 a.n (a.dl f) w'') ∧ (∀ a5, A5 = some a5 → w'.heap.size ≤ a5.block) ∧ (∀ a5, A5 = some a5 → a5.block < w''.heap.size) ∧ Below w'.heap.size w' w'') := Lib.hid (fun A1 c1 w' h => (focus_any a f A1 c1 w' h (by omega)).mono (fun e_ w'' ⟨v, e1, ho, hb⟩ => by
      obtain ⟨A5, c5, rfl, hr⟩ := own_form ho
      refine ⟨A5, _, c5, e1, fun q => by rw [FLX_bad a f q]; rfl, fun q => ?_, fun a5 q => ?_, fun a5 q => ?_, hb⟩
      · obtain ⟨q1, _, _, q4, _, _⟩ := FLE_parts a f q
        have n0 := ((La.E_zero a).1 q1).1.1
        rw [q4] at ho ⊢
        rw [upto_mv, upto_length] at ho
        obtain ⟨g, c', e3, _, _, hR⟩ := own_row ho n0
        simp at e3
        refine ⟨upto_length _ _, by rw [e3.1]; simp, ?_⟩
        rw [e3.1]; exact hR.at
      · rcases ho.2 with ⟨k, _⟩ | ⟨g, cap, cur, k, hb', hgb, _⟩
        · simp at k; rw [k.1] at q; cases q
        · simp at k; rw [k.1] at q; cases q; exact hb'
      · rcases ho.2 with ⟨k, _⟩ | ⟨g, cap, cur, k, hb', hgb, _⟩
        · simp at k; rw [k.1] at q; cases q
        · simp at k; rw [k.1] at q; cases q; exact (Array.getElem?_eq_some_iff.1 hgb).1))
    go_enter Tryz.func6, Tryz.ntmps6
    go_wp2_with fail
    refine (AWK.out _ (LH.out.later (by repeat (first | exact Below.refl _ _ | refine Below.drew ?_ | refine below_drewN ?_ _ | refine Below.setCell ?_ (by first | omega | (simp; done) | (simp; omega)) _ | refine Below.alloc ?_ (by first | omega | (simp; done) | (simp; omega)) _)))).mono ?_
    rintro e w1 ⟨rfl, hb1⟩
    have qw10 : w1.cell? ⟨w.heap.size, 0, none⟩ = some (.slice A a.n c) := cell_later hb1 (by simp [go_sem])
    have qw11 : w1.cell? ⟨w.heap.size, 1, none⟩ = some (.int .i64 a.m.wd) := cell_later hb1 (by simp [go_sem])
    have qw12 : w1.cell? ⟨w.heap.size, 2, none⟩ = some (.int .i64 a.m.mt) := cell_later hb1 (by simp [go_sem])
    have qw13 : w1.cell? ⟨w.heap.size, 3, none⟩ = some (.int .i64 a.m.sk) := cell_later hb1 (by simp [go_sem])
    have qw14 : w1.cell? ⟨w.heap.size, 4, none⟩ = some (.int .i64 a.m.th) := cell_later hb1 (by simp [go_sem])
    have qw15 : w1.cell? ⟨w.heap.size, 5, none⟩ = some (.int .i64 a.ck) := cell_later hb1 (by simp [go_sem])
    have qw16 : w1.cell? ⟨w.heap.size + 1, 0, none⟩ = some (.int .i64 f.x) := cell_later hb1 (by simp [go_sem])
    have qw17 : w1.cell? ⟨w.heap.size + 1, 1, none⟩ = some (.int .i64 f.z) := cell_later hb1 (by simp [go_sem])
    have zqw1_0 := World.block_lt_of_cell? _ _ qw10
    dsimp only at zqw1_0
    have zqw1_6 := World.block_lt_of_cell? _ _ qw16
    dsimp only at zqw1_6
    have H1 : Hid (Below w.heap.size w w1) := Lib.hid (below_after (by repeat (first | exact Below.refl _ _ | refine Below.drew ?_ | refine below_drewN ?_ _ | refine Below.setCell ?_ (by first | omega | (simp; done) | (simp; omega)) _ | refine Below.alloc ?_ (by first | omega | (simp; done) | (simp; omega)) _)) hb1 (by first | omega | (simp; done) | (simp; omega))); clear hb1
    have R1_0 := Lib.hid (HX.out.later H1.out)
    go_upto_region 5 with (go_at_call 25; (with_reducible refine (few_any _ _).mono ?_); (first | rw [FA.out]); rintro e w' ⟨rfl, rfl⟩)
    have hS : Below w1.heap.size w1 w1 := Below.refl _ _
    go_cut [7, 8] (fun s7 s8 wx => ∃ (P : Nat) (A5 : Option Addr) (n5 c5 : Nat), s7 = .pointer (some ⟨P, 0, none⟩) ∧ s8 = .int .i64 (a.FLE f) ∧ wx.cell? ⟨P, 0, none⟩ = some (.int .i64 (a.FLC f)) ∧ wx.cell? ⟨P, 1, none⟩ = some (.slice A5 n5 c5) ∧ (a.FLE f ≠ 0 → n5 = 0) ∧ (a.FLE f = 0 → n5 = a.n ∧ A5 ≠ none ∧ InAt A5 a.n (a.dl f) wx) ∧ Below w1.heap.size w1 wx)
    case first =>
      as_aux_lemma =>
        go_region_held3 (fun w' => w'.cell? ⟨w.heap.size, 0, none⟩ = some (.slice A a.n c) ∧ w'.cell? ⟨w.heap.size, 1, none⟩ = some (.int .i64 a.m.wd) ∧ w'.cell? ⟨w.heap.size, 2, none⟩ = some (.int .i64 a.m.mt) ∧ w'.cell? ⟨w.heap.size, 3, none⟩ = some (.int .i64 a.m.sk) ∧ w'.cell? ⟨w.heap.size, 4, none⟩ = some (.int .i64 a.m.th) ∧ w'.cell? ⟨w.heap.size, 5, none⟩ = some (.int .i64 a.ck) ∧ w'.cell? ⟨w.heap.size + 1, 0, none⟩ = some (.int .i64 f.x) ∧ w'.cell? ⟨w.heap.size + 1, 1, none⟩ = some (.int .i64 f.z) ∧ Below w1.heap.size w1 w') (((go_split_ands; (repeat' apply And.intro) <;> ((repeat (first | (with_reducible assumption) | (with_reducible exact Below.refl _ _) | (with_reducible refine cell_alloc_later ?_ _) | (with_reducible refine cell_drewA ?_) | (with_reducible refine cellA (by with_reducible assumption) ?_) | (with_reducible refine belowA ?_ (by with_reducible assumption)) | (with_reducible refine below_alloc_top ?_ _) | (with_reducible refine Below.drew ?_) | (with_reducible refine cell_set_old ?_ (by with_reducible assumption)) | (with_reducible refine below_set_old ?_ (by with_reducible assumption)) | (with_reducible refine Below.setCell ?_ (by first | omega | (simp; done) | (simp; omega)) _) | (simp [go_sem, World.cell?_alloc_past, *]; done))); done))))
          (first
            | (go_split_ands; go_at_call 27; (with_reducible refine (HCA.out _ (R1_0.out.later (by with_reducible assumption))).mono ?_); rintro e w' ⟨A1, c1, rfl, hs, hb⟩; have hbA : BelA _ w' := hb; obtain ⟨hc', hf'⟩ := bcell hb; have hz' := hb.size; (try simp at hz'); (first | (have tF' := Nat.lt_of_succ_le hz') | (have tF' := Nat.lt_of_lt_of_le tF' hz') | skip); clear hb)
            | (go_split_ands; go_at_call 32; (with_reducible refine (HFO.out _ _ _ (by repeat (first | (with_reducible assumption) | (with_reducible refine SpAt.laterA (by with_reducible assumption) ?_) | (with_reducible refine SpAt.alloc ?_ _) | (with_reducible refine SpAt.drew ?_)))).mono ?_); rintro e w' ⟨A5, n5, c5, rfl, hg5, hi5, hB5, hL5, hb⟩; have hbA : BelA _ w' := hb; obtain ⟨hc', hf'⟩ := bcell hb; have hz' := hb.size; (try simp at hz'); (first | (have tF' := Nat.lt_of_succ_le hz') | (have tF' := Nat.lt_of_lt_of_le tF' hz') | skip); clear hb))
        all_goals
          go_split_ands
          go_wp2_with fail
          go_meet
          exact ⟨_, A5, n5, c5, rfl, rfl, (by first | (with_reducible assumption) | (simp [go_sem, World.cell?_alloc_past, *]; done)), (by first | (with_reducible assumption) | (simp [go_sem, World.cell?_alloc_past, *]; done)), hg5, (fun hr => ⟨(hi5 hr).1, (hi5 hr).2.1, (by have hi3 := (hi5 hr).2.2; exact (by repeat (first | (with_reducible assumption) | (with_reducible refine InAt.alloc ?_ _) | (with_reducible refine InAt.drew ?_) | (refine InAt.set ?_ _ _ _ (fun a e => by have q1 := hB5 a e; have q2 := hL5 a e; (try simp at q1); omega)))))⟩), (by first | (with_reducible assumption) | (simp [go_sem, World.cell?_alloc_past, *]; done))⟩
    case rest =>
      obtain ⟨P, A5, n5, c5, rfl, rfl, p0, p1, hg5, hi5, bel⟩ := hcut
      clear hS
      obtain ⟨wA, hw_⟩ : ∃ q, q = wc := ⟨_, rfl⟩
      subst hw_
      have k2_0 := cell_later bel qw10
      have k2_1 := cell_later bel qw11
      have k2_2 := cell_later bel qw12
      have k2_3 := cell_later bel qw13
      have k2_4 := cell_later bel qw14
      have k2_5 := cell_later bel qw15
      have k2_6 := cell_later bel qw16
      have k2_7 := cell_later bel qw17
      have R2_0 := Lib.hid (R1_0.out.later bel)
      have B2 : Hid (Below w.heap.size w wA) := Lib.hid (below_then H1.out bel)
      clear qw10 qw11 qw12 qw13 qw14 qw15 qw16 qw17 R1_0 H1
      have z2_0 := World.block_lt_of_cell? _ _ k2_0
      (try dsimp only at z2_0)
      have z2_6 := World.block_lt_of_cell? _ _ k2_6
      (try dsimp only at z2_6)
      clear bel
      by_cases hr : a.FLE f = 0
      · obtain ⟨rfl, hA5, i5⟩ := hi5 hr
        have I5 := Lib.hid i5
        obtain ⟨qE, qf, qc, _, _, qd⟩ := FLE_parts a f hr
        obtain ⟨⟨an0, an1⟩, _, _, ck0, ck1⟩ := (La.E_zero a).1 qE
        obtain ⟨ms, m0, m1, m2, m3, m4⟩ := focus_meets a f hr
        have HST := Lib.hid (focus_still a f hr)
        have k_ := hr
        have LH_ : Hid (∀ i, i < a.n → inB (a.lo f i) 0 (a.hi f i) = true ∧ (0 ≤ a.lo f i ∧ a.lo f i ≤ a.hi f i ∧ a.hi f i ≤ 200000000000000)) := Lib.hid (fun i hi => by
          have b := lh_bounds a f i ((ffE_zero _ _).1 qf i hi)
          refine ⟨?_, by omega⟩
          simp [inB]; omega)
        have HLT : Hid (∀ i, i < a.n → ∀ w, Calls Tryz.prog 33 #[.agg #[.int .i64 a.m.wd, .int .i64 a.m.mt, .int .i64 a.m.sk, .int .i64 a.m.th], .agg #[.int .i64 (a.p i).x, .int .i64 (a.p i).z], .agg #[.int .i64 f.x, .int .i64 f.z]] w fun e w' => e = .returned (.tuple #[.agg #[.int .i64 (a.lo f i), .int .i64 (a.hi f i)], .int .i64 0]) ∧ Below w.heap.size w w') := Lib.hid (fun i hi w => leastOf_ok (a.y f i) (wyE_zero_ok _ ((ffE_zero _ _).1 qf i hi)) w)
        have HCD : Hid (∀ w', InAt A5 a.n (a.dl f) w' → Calls Tryz.prog 28 #[.agg #[.int .i64 a.ck, .slice A5 a.n c5]] w' fun e_ w'' => ∃ A1 c1, e_ = .returned (.agg #[.int .i64 a.ck, .slice A1 a.n c1]) ∧ InAt A1 a.n (a.dl f) w'' ∧ Below w'.heap.size w' w'') := Lib.hid (fun w' h => (copyLaw_any (a.fd f) A5 c5 w' (by show a.n ≤ 1000; omega) (fun q => absurd q hA5) h).mono (fun e w'' ⟨v, e1, ho, hb⟩ => by
          obtain ⟨A1, c1, rfl, hz, hs⟩ := own_ints2 ho
          exact ⟨A1, c1, e1, hs, hb⟩))
        have HSD : Hid (∀ A1 c1 B1 e1 w', SpAt A1 a.n a.p w' → InAt B1 a.n (a.dl f) w' → Calls Tryz.prog 26 #[.agg #[.slice A1 a.n c1, .int .i64 a.m.wd, .int .i64 a.m.mt, .int .i64 a.m.sk, .int .i64 a.m.th, .int .i64 a.ck], .agg #[.int .i64 a.ck, .slice B1 a.n e1], .agg #[.int .i64 f.x, .int .i64 f.z]] w' fun e_ w'' => e_ = .returned (.tuple #[.agg #[.int .i64 (a.SLo (a.fd f) f), .int .i64 (a.SHi (a.fd f) f)], .int .i64 0]) ∧ Below w'.heap.size w' w'') := Lib.hid (fun A1 c1 B1 e1 w' h g => by
          have := spreadOf_any a (a.fd f) f A1 c1 B1 e1 w' h g (by omega) (by show a.n ≤ 9223372036854775807; omega)
          rw [ms] at this
          exact this)
        have HWO : Hid (2 ≤ a.n → ∃ (hi2 lo2 : Int) (k : Nat), mdI dead a.n = k ∧ hi2 ≤ a.SHi (a.fd f) f ∧ ∃ v : Nat → Int, (∀ A1 c1 B1 e1 w', InAt A1 a.n (a.dl f) w' → InAt B1 1 (fun _ => (k : Int)) w' → Calls Tryz.prog 34 #[.agg #[.int .i64 a.ck, .slice A1 a.n c1], .slice B1 1 e1] w' fun e_ w'' => ∃ (A6 : Option Addr) (c6 : Nat), e_ = .returned (.tuple #[.agg #[.int .i64 a.ck, .slice A6 a.n c6], .int .i64 0]) ∧ InAt A6 a.n v w'' ∧ (∀ b, A6 = some b → w'.heap.size ≤ b.block) ∧ (∀ b, A6 = some b → b.block < w''.heap.size) ∧ Below w'.heap.size w' w'') ∧ (∀ A1 c1 B1 e1 w', SpAt A1 a.n a.p w' → InAt B1 a.n v w' → Calls Tryz.prog 26 #[.agg #[.slice A1 a.n c1, .int .i64 a.m.wd, .int .i64 a.m.mt, .int .i64 a.m.sk, .int .i64 a.m.th, .int .i64 a.ck], .agg #[.int .i64 a.ck, .slice B1 a.n e1], .agg #[.int .i64 f.x, .int .i64 f.z]] w' fun e_ w'' => e_ = .returned (.tuple #[.agg #[.int .i64 lo2, .int .i64 hi2], .int .i64 0]) ∧ Below w'.heap.size w' w'')) := Lib.hid (fun h2 => by
          obtain ⟨b0, b1⟩ := mdI_in dead a.n (by omega)
          obtain ⟨k, hk⟩ := Int.eq_ofNat_of_zero_le b0
          have kn : k < a.n := by omega
          obtain ⟨q1, q2⟩ := fewer_meets a f k hr kn h2
          refine ⟨a.SHi (a.fw f k) f, a.SLo (a.fw f k) f, k, hk, q2, (a.fw f k).t, fun A1 c1 B1 e1 w' h g => ?_, fun A1 c1 B1 e1 w' h g => ?_⟩
          · refine (without_any (a.fd f) (fun _ => (k : Int)) 1 A1 c1 B1 e1 w' h g (by show a.n ≤ 1000; omega) (by omega)).mono (fun e_ w'' hh => ?_)
            obtain ⟨x, A, n', c', e1, hg, hb⟩ := hh
            obtain ⟨rfl, rfl, ⟨g, rfl, g0, g1⟩, hi⟩ := hg (fw_wo a f k hr kn)
            rw [fw_wo a f k hr kn] at e1
            exact ⟨_, c', e1, hi, fun b e => by cases e; exact g0, fun b e => by cases e; exact g1, hb⟩
          · have := spreadOf_any a (a.fw f k) f A1 c1 B1 e1 w' h g (by omega) (by show a.n ≤ 9223372036854775807; omega)
            rw [q1] at this
            exact this)
        have n0 : (a.FLE f != 0) = false := by rw [hr]; rfl
        rw [qc] at p0
        have HN0 := Lib.hid an0
        have HN1 := Lib.hid an1
        have MWS : Hid (∀ k, a.mw f (k + 1) = max (a.mw f k) (a.hi f k - a.lo f k)) := Lib.hid (fun k => rfl)
        have MW0 : Hid (a.mw f 0 = 0) := Lib.hid rfl
        have STS : Hid (∀ k, stB (a.dl f) (k + 1) = (stB (a.dl f) k || (a.dl f k == 0))) := Lib.hid (fun k => rfl)
        have ST0 : Hid (stB (a.dl f) 0 = false) := Lib.hid rfl
        have MWB : Hid (∀ k, k ≤ a.n → 0 ≤ a.mw f k ∧ a.mw f k ≤ 200000000000000) := Lib.hid (fun k hk => ⟨mw_nn a f k, mw_top a f k (fun i hi => by have := lh_bounds a f i ((ffE_zero _ _).1 qf i (by omega)); omega)⟩)
        have zP := World.block_lt_of_cell? _ _ p0
        (try dsimp only at zP)
        clear hi5 hg5 i5 hA5 qE qf qc qd ms hr HFO hA an0 k_
        generalize a.SLo (a.fd f) f = lo1 at *
        generalize a.SHi (a.fd f) f = hi1 at *
        go_upto_region 8 with fail
        have hS : Below wA.heap.size wA wA := Below.refl _ _
        go_cut [9, 10] (fun s9 s10 wx => ∃ P2 : Nat, s9 = .pointer (some ⟨P2, 0, none⟩) ∧ s10 = .int .i64 0 ∧ wx.cell? ⟨P2, 0, none⟩ = some (.int .i64 lo1) ∧ wx.cell? ⟨P2, 1, none⟩ = some (.int .i64 hi1) ∧ Below wA.heap.size wA wx)
        case first =>
          as_aux_lemma =>
            go_region_held3 (fun w' => w'.cell? ⟨w.heap.size, 0, none⟩ = some (.slice A a.n c) ∧ w'.cell? ⟨w.heap.size, 1, none⟩ = some (.int .i64 a.m.wd) ∧ w'.cell? ⟨w.heap.size, 2, none⟩ = some (.int .i64 a.m.mt) ∧ w'.cell? ⟨w.heap.size, 3, none⟩ = some (.int .i64 a.m.sk) ∧ w'.cell? ⟨w.heap.size, 4, none⟩ = some (.int .i64 a.m.th) ∧ w'.cell? ⟨w.heap.size, 5, none⟩ = some (.int .i64 a.ck) ∧ w'.cell? ⟨w.heap.size + 1, 0, none⟩ = some (.int .i64 f.x) ∧ w'.cell? ⟨w.heap.size + 1, 1, none⟩ = some (.int .i64 f.z) ∧ w'.cell? ⟨P, 0, none⟩ = some (.int .i64 a.ck) ∧ w'.cell? ⟨P, 1, none⟩ = some (.slice A5 a.n c5) ∧ Below wA.heap.size wA w') (((go_split_ands; (repeat' apply And.intro) <;> ((repeat (first | (with_reducible assumption) | (with_reducible exact Below.refl _ _) | (with_reducible refine cell_alloc_later ?_ _) | (with_reducible refine cell_drewA ?_) | (with_reducible refine cellA (by with_reducible assumption) ?_) | (with_reducible refine belowA ?_ (by with_reducible assumption)) | (with_reducible refine below_alloc_top ?_ _) | (with_reducible refine Below.drew ?_) | (with_reducible refine cell_set_old ?_ (by with_reducible assumption)) | (with_reducible refine below_set_old ?_ (by with_reducible assumption)) | (with_reducible refine Below.setCell ?_ (by first | omega | (simp; done) | (simp; omega)) _) | (simp [go_sem, World.cell?_alloc_past, *]; done))); done))))
              (first
                | (go_split_ands; go_at_call 27; (with_reducible refine (HCA.out _ (R2_0.out.later (by with_reducible assumption))).mono ?_); rintro e w' ⟨A1, c1, rfl, hs, hb⟩; have hbA : BelA _ w' := hb; obtain ⟨hc', hf'⟩ := bcell hb; have hz' := hb.size; (try simp at hz'); (first | (have tF' := Nat.lt_of_succ_le hz') | (have tF' := Nat.lt_of_lt_of_le tF' hz') | skip); clear hb)
                | (go_split_ands; go_at_call 28; (with_reducible refine (HCD.out _ (I5.out.later (by with_reducible assumption))).mono ?_); rintro e w' ⟨A2, c2, rfl, hi, hb⟩; have hbA : BelA _ w' := hb; obtain ⟨hc', hf'⟩ := bcell hb; have hz' := hb.size; (try simp at hz'); (first | (have tF' := Nat.lt_of_succ_le hz') | (have tF' := Nat.lt_of_lt_of_le tF' hz') | skip); clear hb)
                | (go_split_ands; go_at_call 26; (with_reducible refine (HSD.out _ _ _ _ _ (by repeat (first | (with_reducible assumption) | (with_reducible refine SpAt.laterA (by with_reducible assumption) ?_) | (with_reducible refine SpAt.alloc ?_ _) | (with_reducible refine SpAt.drew ?_))) (by repeat (first | (with_reducible assumption) | (with_reducible refine InAt.laterA (by with_reducible assumption) ?_) | (with_reducible refine InAt.alloc ?_ _) | (with_reducible refine InAt.drew ?_)))).mono ?_); rintro e w' ⟨rfl, hb⟩; have hbA : BelA _ w' := hb; obtain ⟨hc', hf'⟩ := bcell hb; have hz' := hb.size; (try simp at hz'); (first | (have tF' := Nat.lt_of_succ_le hz') | (have tF' := Nat.lt_of_lt_of_le tF' hz') | skip); clear hb))
            all_goals
              go_split_ands
              go_wp2_with fail
              go_meet
              exact ⟨_, rfl, rfl, (by first | (with_reducible assumption) | (simp [go_sem, World.cell?_alloc_past, *]; done)), (by first | (with_reducible assumption) | (simp [go_sem, World.cell?_alloc_past, *]; done)), (by first | (with_reducible assumption) | (simp [go_sem, World.cell?_alloc_past, *]; done))⟩
        case rest =>
          obtain ⟨P2, rfl, rfl, pp0, pp1, bel⟩ := hcut
          clear hS
          obtain ⟨wB, hw_⟩ : ∃ q, q = wc := ⟨_, rfl⟩
          subst hw_
          have k3_0 := cell_later bel k2_0
          have k3_1 := cell_later bel k2_1
          have k3_2 := cell_later bel k2_2
          have k3_3 := cell_later bel k2_3
          have k3_4 := cell_later bel k2_4
          have k3_5 := cell_later bel k2_5
          have k3_6 := cell_later bel k2_6
          have k3_7 := cell_later bel k2_7
          have k3_8 := cell_later bel p0
          have k3_9 := cell_later bel p1
          have R3_0 := Lib.hid (R2_0.out.later bel)
          have R3_1 := Lib.hid (I5.out.later bel)
          have B3 : Hid (Below w.heap.size w wB) := Lib.hid (below_then B2.out bel)
          clear k2_0 k2_1 k2_2 k2_3 k2_4 k2_5 k2_6 k2_7 p0 p1 R2_0 I5 B2
          have z3_0 := World.block_lt_of_cell? _ _ k3_0
          (try dsimp only at z3_0)
          have z3_6 := World.block_lt_of_cell? _ _ k3_6
          (try dsimp only at z3_6)
          have z3_8 := World.block_lt_of_cell? _ _ k3_8
          (try dsimp only at z3_8)
          clear bel
          go_wp2_with fail
          go_loopw [11, 12, 13] (fun s11 s12 s13 wr => ∃ k : Nat, k ≤ a.n ∧ s11 = .int .i64 (a.mw f k) ∧ s12 = .bool (stB (a.dl f) k) ∧ s13 = .int .i64 (k : Int) ∧ Below wB.heap.size wB wr) (fun _ _ s13 _ => a.n - (intOf s13).toNat)
          case atStart => exact ⟨0, Nat.zero_le _, by rw [MW0.out], by rw [ST0.out], rfl, Below.refl _ _⟩
          case round =>
            obtain ⟨k, hk, rfl, rfl, rfl, hb⟩ := hrel
            have hb0 := Lib.hid hb
            have k4_0 := cell_later hb k3_0
            have k4_1 := cell_later hb k3_1
            have k4_2 := cell_later hb k3_2
            have k4_3 := cell_later hb k3_3
            have k4_4 := cell_later hb k3_4
            have k4_5 := cell_later hb k3_5
            have k4_6 := cell_later hb k3_6
            have k4_7 := cell_later hb k3_7
            have k4_8 := cell_later hb k3_8
            have k4_9 := cell_later hb k3_9
            have k4_10 := cell_later hb pp0
            have k4_11 := cell_later hb pp1
            have R4_0 := Lib.hid (R3_0.out.later hb)
            have R4_1 := Lib.hid (R3_1.out.later hb)
            have B4 : Hid (Below w.heap.size w wr) := Lib.hid (below_then B3.out hb)
            clear k3_0 k3_1 k3_2 k3_3 k3_4 k3_5 k3_6 k3_7 k3_8 k3_9 pp0 pp1 R3_0 R3_1 B3
            have z4_0 := World.block_lt_of_cell? _ _ k4_0
            (try dsimp only at z4_0)
            have z4_6 := World.block_lt_of_cell? _ _ k4_6
            (try dsimp only at z4_6)
            have z4_8 := World.block_lt_of_cell? _ _ k4_8
            (try dsimp only at z4_8)
            have z4_10 := World.block_lt_of_cell? _ _ k4_10
            (try dsimp only at z4_10)
            clear hb
            by_cases hlt : k < a.n
            · obtain ⟨ad, rfl⟩ : ∃ ad, A = some ad := R4_0.out.some (by have := HN0.out; omega)
              obtain ⟨c0, c1⟩ := R4_0.out.at hlt
              have j0 : (0 : Int) ≤ (k : Int) := Int.natCast_nonneg _
              have j1 : (k : Int) < (a.n : Int) := by omega
              have j8 : (k : Int) < 1000 := by have := HN1.out; omega
              have HK := Lib.hid (HLT.out k hlt)
              obtain ⟨wi, lb0, lb1, lb2⟩ := LH_.out k hlt
              have WI := Lib.hid wi; clear wi
              have MK := Lib.hid (MWS.out k)
              have SK := Lib.hid (STS.out k)
              obtain ⟨mb0, mb1⟩ := MWB.out k (by omega)
              generalize a.mw f k = mk at *
              generalize a.lo f k = lk at *
              generalize a.hi f k = hk' at *
              generalize (a.p k).x = px at *
              generalize (a.p k).z = pz at *
              go_upto_region 15 with fail
              have hS : Below wr.heap.size wr wr := Below.refl _ _
              go_cut [14, 15] (fun s14 s15 wx => ∃ T : Nat, s14 = .pointer (some ⟨T, 0, none⟩) ∧ s15 = .int .i64 0 ∧ wx.cell? ⟨T, 0, none⟩ = some (.int .i64 lk) ∧ wx.cell? ⟨T, 1, none⟩ = some (.int .i64 hk') ∧ Below wr.heap.size wr wx)
              case first =>
                as_aux_lemma =>
                  go_region_held3 (fun w' => w'.cell? ⟨w.heap.size, 0, none⟩ = some (.slice (some ad) a.n c) ∧ w'.cell? ⟨w.heap.size, 1, none⟩ = some (.int .i64 a.m.wd) ∧ w'.cell? ⟨w.heap.size, 2, none⟩ = some (.int .i64 a.m.mt) ∧ w'.cell? ⟨w.heap.size, 3, none⟩ = some (.int .i64 a.m.sk) ∧ w'.cell? ⟨w.heap.size, 4, none⟩ = some (.int .i64 a.m.th) ∧ w'.cell? ⟨w.heap.size, 5, none⟩ = some (.int .i64 a.ck) ∧ w'.cell? ⟨w.heap.size + 1, 0, none⟩ = some (.int .i64 f.x) ∧ w'.cell? ⟨w.heap.size + 1, 1, none⟩ = some (.int .i64 f.z) ∧ w'.cell? (ad.add (k * 2)) = some (.int .i64 px) ∧ w'.cell? ⟨(ad.add (k * 2)).block, (ad.add (k * 2)).off + 1, none⟩ = some (.int .i64 pz) ∧ Below wr.heap.size wr w') (((go_split_ands; (repeat' apply And.intro) <;> ((repeat (first | (with_reducible assumption) | (with_reducible exact Below.refl _ _) | (with_reducible refine cell_alloc_later ?_ _) | (with_reducible refine cell_drewA ?_) | (with_reducible refine cellA (by with_reducible assumption) ?_) | (with_reducible refine belowA ?_ (by with_reducible assumption)) | (with_reducible refine below_alloc_top ?_ _) | (with_reducible refine Below.drew ?_) | (with_reducible refine cell_set_old ?_ (by with_reducible assumption)) | (with_reducible refine below_set_old ?_ (by with_reducible assumption)) | (with_reducible refine Below.setCell ?_ (by first | omega | (simp; done) | (simp; omega)) _) | (simp [go_sem, World.cell?_alloc_past, *]; done))); done))))
                    (first
                      | (go_split_ands; go_at_call 33; (with_reducible refine (HK.out _).mono ?_); rintro e w' ⟨rfl, hb⟩; have hbA : BelA _ w' := hb; obtain ⟨hc', hf'⟩ := bcell hb; have hz' := hb.size; (try simp at hz'); (first | (have tF' := Nat.lt_of_succ_le hz') | (have tF' := Nat.lt_of_lt_of_le tF' hz') | skip); clear hb))
                  all_goals
                    go_split_ands
                    go_wp2_with fail
                    go_meet
                    exact ⟨_, rfl, rfl, (by first | (with_reducible assumption) | (simp [go_sem, World.cell?_alloc_past, *]; done)), (by first | (with_reducible assumption) | (simp [go_sem, World.cell?_alloc_past, *]; done)), (by first | (with_reducible assumption) | (simp [go_sem, World.cell?_alloc_past, *]; done))⟩
              case rest =>
                obtain ⟨T, rfl, rfl, t0, t1, bel⟩ := hcut
                clear hS
                obtain ⟨wT, hw_⟩ : ∃ q, q = wc := ⟨_, rfl⟩
                subst hw_
                have k5_0 := cell_later bel k4_0
                have k5_1 := cell_later bel k4_1
                have k5_2 := cell_later bel k4_2
                have k5_3 := cell_later bel k4_3
                have k5_4 := cell_later bel k4_4
                have k5_5 := cell_later bel k4_5
                have k5_6 := cell_later bel k4_6
                have k5_7 := cell_later bel k4_7
                have k5_8 := cell_later bel k4_8
                have k5_9 := cell_later bel k4_9
                have k5_10 := cell_later bel k4_10
                have k5_11 := cell_later bel k4_11
                have k5_12 := cell_later bel c0
                have k5_13 := cell_later bel c1
                have R5_0 := Lib.hid (R4_0.out.later bel)
                have R5_1 := Lib.hid (R4_1.out.later bel)
                have B5 : Hid (Below w.heap.size w wT) := Lib.hid (below_then B4.out bel)
                clear k4_0 k4_1 k4_2 k4_3 k4_4 k4_5 k4_6 k4_7 k4_8 k4_9 k4_10 k4_11 c0 c1 R4_0 R4_1 B4
                have z5_0 := World.block_lt_of_cell? _ _ k5_0
                (try dsimp only at z5_0)
                have z5_6 := World.block_lt_of_cell? _ _ k5_6
                (try dsimp only at z5_6)
                have z5_8 := World.block_lt_of_cell? _ _ k5_8
                (try dsimp only at z5_8)
                have z5_10 := World.block_lt_of_cell? _ _ k5_10
                (try dsimp only at z5_10)
                have z5_12 := World.block_lt_of_cell? _ _ k5_12
                (try dsimp only at z5_12)
                have z5_13 := World.block_lt_of_cell? _ _ k5_13
                (try dsimp only at z5_13)
                have BW := Lib.hid (below_then hb0.out bel)
                clear bel
                obtain ⟨a5, hA5⟩ := R5_1.out.some (show 0 < a.n by omega)
                subst hA5
                have tk := R5_1.out.at hlt
                generalize a.dl f k = dk at *
                cases hst : stB (a.dl f) k
                · rw [hst] at SK
                  clear hst
                  go_upto_region 18 with (go_at_call 14; (with_reducible refine (bwithin_any _ _ _ _).mono ?_); rw [WI.out]; rintro e w' ⟨rfl, rfl⟩)
                  go_quiet (fail)
                  go_wp2
                  go_roundw
                  case rel => exact ⟨k + 1, by omega, by rw [MK.out], by rw [SK.out]; simp, by go_num, below_drewN (BW.out) _⟩
                  case measure => simp [intOf]; omega
                · rw [hst] at SK
                  clear hst
                  go_upto_region 18 with (go_at_call 14; (with_reducible refine (bwithin_any _ _ _ _).mono ?_); rw [WI.out]; rintro e w' ⟨rfl, rfl⟩)
                  go_quiet (fail)
                  go_wp2
                  go_roundw
                  case rel => exact ⟨k + 1, by omega, by rw [MK.out], by rw [SK.out]; rfl, by go_num, below_drewN (BW.out) _⟩
                  case measure => simp [intOf]; omega
            · have hk' : k = a.n := by omega
              have kk : decide ((k : Int) < (a.n : Int)) = false := by simp; omega
              subst hk'
              rw [HST.out]
              generalize a.mw f a.n = W at *
              by_cases h2 : 2 ≤ a.n
              · obtain ⟨hi2, lo2, k2, hk2, hle, vv, HW1, HW2⟩ := HWO.out h2
                have n5 : decide ((a.n : Int) < 2) = false := by simp; omega
                have HW1' := Lib.hid HW1; have HW2' := Lib.hid HW2
                have HMD : Hid (∀ w, Calls Tryz.prog 35 #[.int .i64 dead, .int .i64 (a.n : Int)] w fun e w' => e = .returned (.int .i64 (k2 : Int)) ∧ w = w') := Lib.hid (fun w => by
                  have := mod_any dead (a.n : Int) w (by omega) (by have := HN1.out; omega)
                  rw [hk2] at this
                  exact this)
                clear HW1 HW2 hk2 HWO h2
                go_upto_region 23 with fail
                have hS : Below wr.heap.size wr wr := Below.refl _ _
                go_cut [16, 17] (fun s16 s17 wx => ∃ (Q : Nat) (A6 : Option Addr) (c6 : Nat), s16 = .pointer (some ⟨Q, 0, none⟩) ∧ s17 = .int .i64 0 ∧ wx.cell? ⟨Q, 0, none⟩ = some (.int .i64 a.ck) ∧ wx.cell? ⟨Q, 1, none⟩ = some (.slice A6 a.n c6) ∧ InAt A6 a.n vv wx ∧ Below wr.heap.size wr wx)
                case first =>
                  as_aux_lemma =>
                    go_region_held3 (fun w' => w'.cell? ⟨w.heap.size, 0, none⟩ = some (.slice A a.n c) ∧ w'.cell? ⟨w.heap.size, 1, none⟩ = some (.int .i64 a.m.wd) ∧ w'.cell? ⟨w.heap.size, 2, none⟩ = some (.int .i64 a.m.mt) ∧ w'.cell? ⟨w.heap.size, 3, none⟩ = some (.int .i64 a.m.sk) ∧ w'.cell? ⟨w.heap.size, 4, none⟩ = some (.int .i64 a.m.th) ∧ w'.cell? ⟨w.heap.size, 5, none⟩ = some (.int .i64 a.ck) ∧ w'.cell? ⟨w.heap.size + 1, 0, none⟩ = some (.int .i64 f.x) ∧ w'.cell? ⟨w.heap.size + 1, 1, none⟩ = some (.int .i64 f.z) ∧ w'.cell? ⟨P, 0, none⟩ = some (.int .i64 a.ck) ∧ w'.cell? ⟨P, 1, none⟩ = some (.slice A5 a.n c5) ∧ Below wr.heap.size wr w') (((go_split_ands; (repeat' apply And.intro) <;> ((repeat (first | (with_reducible assumption) | (with_reducible exact Below.refl _ _) | (with_reducible refine cell_alloc_later ?_ _) | (with_reducible refine cell_drewA ?_) | (with_reducible refine cellA (by with_reducible assumption) ?_) | (with_reducible refine belowA ?_ (by with_reducible assumption)) | (with_reducible refine below_alloc_top ?_ _) | (with_reducible refine Below.drew ?_) | (with_reducible refine cell_set_old ?_ (by with_reducible assumption)) | (with_reducible refine below_set_old ?_ (by with_reducible assumption)) | (with_reducible refine Below.setCell ?_ (by first | omega | (simp; done) | (simp; omega)) _) | (simp [go_sem, World.cell?_alloc_past, *]; done))); done))))
                      (first
                        | (go_split_ands; go_at_call 28; (with_reducible refine (HCD.out _ (R4_1.out.later (by with_reducible assumption))).mono ?_); rintro e w' ⟨A2, c2, rfl, hi, hb⟩; have hbA : BelA _ w' := hb; obtain ⟨hc', hf'⟩ := bcell hb; have hz' := hb.size; (try simp at hz'); (first | (have tF' := Nat.lt_of_succ_le hz') | (have tF' := Nat.lt_of_lt_of_le tF' hz') | skip); clear hb)
                        | (go_at_call 35; (with_reducible refine (HMD.out _).mono ?_); rintro e w' ⟨rfl, rfl⟩)
                        | (go_split_ands; go_at_call 34; (with_reducible refine (HW1'.out _ _ _ _ _ (by repeat (first | (with_reducible assumption) | (with_reducible refine InAt.laterA (by with_reducible assumption) ?_) | (with_reducible refine InAt.alloc ?_ _) | (with_reducible refine InAt.drew ?_))) (one_at (by first | (with_reducible assumption) | (simp [go_sem, World.cell?_alloc_past, *]; done)))).mono ?_); rintro e w' ⟨A6, c6, rfl, hi6, hB6, hL6, hb⟩; have hbA : BelA _ w' := hb; obtain ⟨hc', hf'⟩ := bcell hb; have hz' := hb.size; (try simp at hz'); (first | (have tF' := Nat.lt_of_succ_le hz') | (have tF' := Nat.lt_of_lt_of_le tF' hz') | skip); clear hb))
                    all_goals
                      go_split_ands
                      go_wp2_with fail
                      go_meet
                      exact ⟨_, A6, c6, rfl, rfl, (by first | (with_reducible assumption) | (simp [go_sem, World.cell?_alloc_past, *]; done) | exact setO (.inr (by dsimp only; omega)) (setS ((hc' _ 0 (by (try simp); try omega)).trans (show _ = some (Value.int .i64 0) from by first | exact cell_alloc_later (by simp [go_sem]) _ | exact cell_alloc_later (cellA (by with_reducible assumption) (by simp [go_sem])) _ | exact cell_alloc_later (by simp [go_sem, World.cell?_alloc_past, *]) _ | (simp [go_sem, World.cell?_alloc_past]; done))))), (by first | (with_reducible assumption) | (simp [go_sem, World.cell?_alloc_past, *]; done) | exact setS (setO (.inr (by dsimp only; omega)) ((hc' _ 1 (by (try simp); try omega)).trans (show _ = some (Value.slice none 0 0) from by first | exact cell_alloc_later (by simp [go_sem]) _ | exact cell_alloc_later (cellA (by with_reducible assumption) (by simp [go_sem])) _ | exact cell_alloc_later (by simp [go_sem, World.cell?_alloc_past, *]) _ | (simp [go_sem, World.cell?_alloc_past]; done))))), (by repeat (first | (with_reducible assumption) | (with_reducible refine InAt.alloc ?_ _) | (with_reducible refine InAt.drew ?_) | (refine InAt.set ?_ _ _ _ (fun a e => by have q1 := hB6 a e; have q2 := hL6 a e; (try simp at q1); omega)))), (by first | (with_reducible assumption) | (simp [go_sem, World.cell?_alloc_past, *]; done))⟩
                case rest =>
                  obtain ⟨Q, A6, c6, rfl, rfl, q0, q1, i6, bel⟩ := hcut
                  clear hS
                  obtain ⟨wC, hw_⟩ : ∃ q, q = wc := ⟨_, rfl⟩
                  subst hw_
                  have k5_0 := cell_later bel k4_0
                  have k5_1 := cell_later bel k4_1
                  have k5_2 := cell_later bel k4_2
                  have k5_3 := cell_later bel k4_3
                  have k5_4 := cell_later bel k4_4
                  have k5_5 := cell_later bel k4_5
                  have k5_6 := cell_later bel k4_6
                  have k5_7 := cell_later bel k4_7
                  have k5_8 := cell_later bel k4_8
                  have k5_9 := cell_later bel k4_9
                  have k5_10 := cell_later bel k4_10
                  have k5_11 := cell_later bel k4_11
                  have R5_0 := Lib.hid (R4_0.out.later bel)
                  have R5_1 := Lib.hid (R4_1.out.later bel)
                  have B5 : Hid (Below w.heap.size w wC) := Lib.hid (below_then B4.out bel)
                  clear k4_0 k4_1 k4_2 k4_3 k4_4 k4_5 k4_6 k4_7 k4_8 k4_9 k4_10 k4_11 R4_0 R4_1 B4
                  have z5_0 := World.block_lt_of_cell? _ _ k5_0
                  (try dsimp only at z5_0)
                  have z5_6 := World.block_lt_of_cell? _ _ k5_6
                  (try dsimp only at z5_6)
                  have z5_8 := World.block_lt_of_cell? _ _ k5_8
                  (try dsimp only at z5_8)
                  have z5_10 := World.block_lt_of_cell? _ _ k5_10
                  (try dsimp only at z5_10)
                  clear bel
                  have I6 := Lib.hid i6
                  clear i6
                  have zQ := World.block_lt_of_cell? _ _ q0
                  (try dsimp only at zQ)
                  go_upto_region 24 with fail
                  have hS : Below wC.heap.size wC wC := Below.refl _ _
                  go_cut [18, 19] (fun s18 s19 wx => ∃ T2 : Nat, s18 = .pointer (some ⟨T2, 0, none⟩) ∧ s19 = .int .i64 0 ∧ wx.cell? ⟨T2, 0, none⟩ = some (.int .i64 lo2) ∧ wx.cell? ⟨T2, 1, none⟩ = some (.int .i64 hi2) ∧ Below wC.heap.size wC wx)
                  case first =>
                    as_aux_lemma =>
                      go_region_held3 (fun w' => w'.cell? ⟨w.heap.size, 0, none⟩ = some (.slice A a.n c) ∧ w'.cell? ⟨w.heap.size, 1, none⟩ = some (.int .i64 a.m.wd) ∧ w'.cell? ⟨w.heap.size, 2, none⟩ = some (.int .i64 a.m.mt) ∧ w'.cell? ⟨w.heap.size, 3, none⟩ = some (.int .i64 a.m.sk) ∧ w'.cell? ⟨w.heap.size, 4, none⟩ = some (.int .i64 a.m.th) ∧ w'.cell? ⟨w.heap.size, 5, none⟩ = some (.int .i64 a.ck) ∧ w'.cell? ⟨w.heap.size + 1, 0, none⟩ = some (.int .i64 f.x) ∧ w'.cell? ⟨w.heap.size + 1, 1, none⟩ = some (.int .i64 f.z) ∧ w'.cell? ⟨Q, 0, none⟩ = some (.int .i64 a.ck) ∧ w'.cell? ⟨Q, 1, none⟩ = some (.slice A6 a.n c6) ∧ Below wC.heap.size wC w') (((go_split_ands; (repeat' apply And.intro) <;> ((repeat (first | (with_reducible assumption) | (with_reducible exact Below.refl _ _) | (with_reducible refine cell_alloc_later ?_ _) | (with_reducible refine cell_drewA ?_) | (with_reducible refine cellA (by with_reducible assumption) ?_) | (with_reducible refine belowA ?_ (by with_reducible assumption)) | (with_reducible refine below_alloc_top ?_ _) | (with_reducible refine Below.drew ?_) | (with_reducible refine cell_set_old ?_ (by with_reducible assumption)) | (with_reducible refine below_set_old ?_ (by with_reducible assumption)) | (with_reducible refine Below.setCell ?_ (by first | omega | (simp; done) | (simp; omega)) _) | (simp [go_sem, World.cell?_alloc_past, *]; done))); done))))
                        (first
                          | (go_split_ands; go_at_call 27; (with_reducible refine (HCA.out _ (R5_0.out.later (by with_reducible assumption))).mono ?_); rintro e w' ⟨A1, c1, rfl, hs, hb⟩; have hbA : BelA _ w' := hb; obtain ⟨hc', hf'⟩ := bcell hb; have hz' := hb.size; (try simp at hz'); (first | (have tF' := Nat.lt_of_succ_le hz') | (have tF' := Nat.lt_of_lt_of_le tF' hz') | skip); clear hb)
                          | (go_split_ands; go_at_call 26; (with_reducible refine (HW2'.out _ _ _ _ _ (by repeat (first | (with_reducible assumption) | (with_reducible refine SpAt.laterA (by with_reducible assumption) ?_) | (with_reducible refine SpAt.alloc ?_ _) | (with_reducible refine SpAt.drew ?_))) (I6.out.later (by with_reducible assumption))).mono ?_); rintro e w' ⟨rfl, hb⟩; have hbA : BelA _ w' := hb; obtain ⟨hc', hf'⟩ := bcell hb; have hz' := hb.size; (try simp at hz'); (first | (have tF' := Nat.lt_of_succ_le hz') | (have tF' := Nat.lt_of_lt_of_le tF' hz') | skip); clear hb))
                      all_goals
                        go_split_ands
                        go_wp2_with fail
                        go_meet
                        exact ⟨_, rfl, rfl, (by first | (with_reducible assumption) | (simp [go_sem, World.cell?_alloc_past, *]; done)), (by first | (with_reducible assumption) | (simp [go_sem, World.cell?_alloc_past, *]; done)), (by first | (with_reducible assumption) | (simp [go_sem, World.cell?_alloc_past, *]; done))⟩
                  case rest =>
                    obtain ⟨T2, rfl, rfl, tt0, tt1, bel⟩ := hcut
                    clear hS
                    obtain ⟨wD, hw_⟩ : ∃ q, q = wc := ⟨_, rfl⟩
                    subst hw_
                    have k6_0 := cell_later bel k5_0
                    have k6_1 := cell_later bel k5_1
                    have k6_2 := cell_later bel k5_2
                    have k6_3 := cell_later bel k5_3
                    have k6_4 := cell_later bel k5_4
                    have k6_5 := cell_later bel k5_5
                    have k6_6 := cell_later bel k5_6
                    have k6_7 := cell_later bel k5_7
                    have k6_8 := cell_later bel k5_8
                    have k6_9 := cell_later bel k5_9
                    have k6_10 := cell_later bel k5_10
                    have k6_11 := cell_later bel k5_11
                    have k6_12 := cell_later bel q0
                    have k6_13 := cell_later bel q1
                    have R6_0 := Lib.hid (R5_0.out.later bel)
                    have R6_1 := Lib.hid (R5_1.out.later bel)
                    have R6_2 := Lib.hid (I6.out.later bel)
                    have B6 : Hid (Below w.heap.size w wD) := Lib.hid (below_then B5.out bel)
                    clear k5_0 k5_1 k5_2 k5_3 k5_4 k5_5 k5_6 k5_7 k5_8 k5_9 k5_10 k5_11 q0 q1 R5_0 R5_1 I6 B5
                    have z6_0 := World.block_lt_of_cell? _ _ k6_0
                    (try dsimp only at z6_0)
                    have z6_6 := World.block_lt_of_cell? _ _ k6_6
                    (try dsimp only at z6_6)
                    have z6_8 := World.block_lt_of_cell? _ _ k6_8
                    (try dsimp only at z6_8)
                    have z6_10 := World.block_lt_of_cell? _ _ k6_10
                    (try dsimp only at z6_10)
                    have z6_12 := World.block_lt_of_cell? _ _ k6_12
                    (try dsimp only at z6_12)
                    clear bel
                    go_wp2
                    go_ret
                    exact ⟨by first | (simp; done) | (simp; omega), B6.out⟩
              · have n5 : decide ((a.n : Int) < 2) = true := by simp; omega
                clear HWO
                go_wp2
                go_ret
                exact ⟨rfl, B4.out⟩
      · have n0 : (a.FLE f != 0) = true := by simpa using hr
        obtain rfl := hg5 hr
        clear hi5 hg5 hr
        go_wp2
        go_ret
        exact ⟨rfl, B2.out⟩
  · have FA : Hid (decide ((a.n : Int) ≤ 18) = false) := Lib.hid (by simp; omega)
    clear h1 hA
    go_enter Tryz.func6, Tryz.ntmps6
    go_wp2_with fail
    refine (AWK.out _ (LH.out.later (by repeat (first | exact Below.refl _ _ | refine Below.drew ?_ | refine below_drewN ?_ _ | refine Below.setCell ?_ (by first | omega | (simp; done) | (simp; omega)) _ | refine Below.alloc ?_ (by first | omega | (simp; done) | (simp; omega)) _)))).mono ?_
    rintro e w1 ⟨rfl, hb1⟩
    have qw10 : w1.cell? ⟨w.heap.size, 0, none⟩ = some (.slice A a.n c) := cell_later hb1 (by simp [go_sem])
    have qw11 : w1.cell? ⟨w.heap.size, 1, none⟩ = some (.int .i64 a.m.wd) := cell_later hb1 (by simp [go_sem])
    have qw12 : w1.cell? ⟨w.heap.size, 2, none⟩ = some (.int .i64 a.m.mt) := cell_later hb1 (by simp [go_sem])
    have qw13 : w1.cell? ⟨w.heap.size, 3, none⟩ = some (.int .i64 a.m.sk) := cell_later hb1 (by simp [go_sem])
    have qw14 : w1.cell? ⟨w.heap.size, 4, none⟩ = some (.int .i64 a.m.th) := cell_later hb1 (by simp [go_sem])
    have qw15 : w1.cell? ⟨w.heap.size, 5, none⟩ = some (.int .i64 a.ck) := cell_later hb1 (by simp [go_sem])
    have qw16 : w1.cell? ⟨w.heap.size + 1, 0, none⟩ = some (.int .i64 f.x) := cell_later hb1 (by simp [go_sem])
    have qw17 : w1.cell? ⟨w.heap.size + 1, 1, none⟩ = some (.int .i64 f.z) := cell_later hb1 (by simp [go_sem])
    have zqw1_0 := World.block_lt_of_cell? _ _ qw10
    dsimp only at zqw1_0
    have zqw1_6 := World.block_lt_of_cell? _ _ qw16
    dsimp only at zqw1_6
    have H1 : Hid (Below w.heap.size w w1) := Lib.hid (below_after (by repeat (first | exact Below.refl _ _ | refine Below.drew ?_ | refine below_drewN ?_ _ | refine Below.setCell ?_ (by first | omega | (simp; done) | (simp; omega)) _ | refine Below.alloc ?_ (by first | omega | (simp; done) | (simp; omega)) _)) hb1 (by first | omega | (simp; done) | (simp; omega))); clear hb1
    go_wp2_with (go_at_call 25; (with_reducible refine (few_any _ _).mono ?_); (first | rw [FA.out]); rintro e w' ⟨rfl, rfl⟩)
    go_ret
    exact ⟨rfl, H1.out⟩
end Go.Proofs.YtnhbmmpjifliaaaGreatDoor
