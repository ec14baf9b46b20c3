/- limits of steepness, of the program and of the reference -/
import Derived.Test.YtdicndakelgoeaaE2
namespace Go.Proofs.Ytdicndakelgoeaa
open Go.RowKit RayM
set_option linter.unusedSimpArgs false
set_option linter.unusedVariables false
set_option maxRecDepth 100000 in
set_option maxHeartbeats 1000000 in
theorem sizeZ_any (n : Int) (w : World) (h0 : -9223372036854775807 ≤ n) (h1 : n ≤ 9223372036854775807) :
    Calls Try.prog 132 #[.int .i64 n] w fun e w' => e = .returned (.int .i64 (n.natAbs : Int)) ∧ w = w' := by
  have e : max n (-n) = (n.natAbs : Int) := by omega
  have E := Lib.hid e; clear e
  have e2 : IntKind.i64.wrap (-n) = -n := IntWalk.i64_in _ (by omega)
  go_enter Try.func132, Try.ntmps132
  go_wp2
  go_ret
  exact ⟨by show Ending.returned (.int .i64 (max n (-n))) = _; rw [E.out], rfl⟩
theorem tmod_b (x y : Int) (h0 : -9223372036854775808 ≤ y) (h1 : y ≤ 9223372036854775807) (hy : y ≠ 0) : -9223372036854775807 ≤ Int.tmod x y ∧ Int.tmod x y ≤ 9223372036854775807 := by
  have e := Int.natAbs_tmod x y
  have := Nat.mod_lt x.natAbs (show 0 < y.natAbs by omega)
  omega
set_option maxRecDepth 100000 in
set_option maxHeartbeats 1000000 in
theorem gcdZ_any (a b : Int) (w : World) (a0 : -9223372036854775808 ≤ a) (a1 : a ≤ 9223372036854775807) (b0 : 1 ≤ b) (b1 : b ≤ 9223372036854775807) :
    Calls Try.prog 163 #[.int .i64 a, .int .i64 b] w fun e w' => e = .returned (.int .i64 (Nat.gcd a.natAbs b.natAbs : Nat)) ∧ Below w.heap.size w w' := by
  have hg0 : Nat.gcd a.natAbs b.natAbs ≤ 9223372036854775807 := Nat.le_trans (Nat.gcd_le_right _ (by omega)) (by omega)
  generalize hg : Nat.gcd a.natAbs b.natAbs = g at *
  have HG := Lib.hid hg; clear hg
  go_enter Try.func163, Try.ntmps163
  go_wp2
  go_loopw [0, 1] (fun s5 s6 wr => ∃ x y : Int, s5 = .int .i64 x ∧ s6 = .int .i64 y ∧ -9223372036854775808 ≤ x ∧ x ≤ 9223372036854775807 ∧ -9223372036854775807 ≤ y ∧ y ≤ 9223372036854775807 ∧ Below w.heap.size w wr ∧ Hid (Nat.gcd x.natAbs y.natAbs = g)) (fun _ s6 _ => (intOf s6).natAbs)
  case atStart => exact ⟨_, _, rfl, rfl, a0, a1, by omega, b1, Below.refl _ _, HG⟩
  case round =>
    clear a0 a1 b0 b1 HG
    obtain ⟨x, y, rfl, rfl, hx0, hx1, hy0, hy1, hb, I⟩ := hrel
    by_cases h0 : y = 0
    · subst h0
      have e : x.natAbs = g := by rw [← I.out]; simp
      have E := Lib.hid e
      go_wp2_with (go_at_call 132; refine (sizeZ_any _ _ (by omega) (by omega)).mono ?_; rintro e w' ⟨rfl, rfl⟩)
      go_ret
      exact ⟨by rw [← E.out]; rfl, hb⟩
    · have n0 : (y != 0) = true := by simp; omega
      have n1 : (y == 0) = false := by simp; omega
      obtain ⟨t0, t1⟩ := tmod_b x y (by omega) (by omega) h0
      have j : Nat.gcd y.natAbs (Int.tmod x y).natAbs = g := by rw [← I.out, Int.natAbs_tmod, Nat.gcd_comm x.natAbs y.natAbs, Nat.gcd_rec y.natAbs x.natAbs, Nat.gcd_comm]
      have J := Lib.hid j; clear j
      have hm2 : x.natAbs % y.natAbs < y.natAbs := Nat.mod_lt _ (by omega)
      have hm : (Int.tmod x y).natAbs < y.natAbs := by rw [Int.natAbs_tmod]; exact Nat.mod_lt _ (by omega)
      go_wp2
      go_quiet (fail)
      go_wp2
      go_roundw
      case rel => exact ⟨y, Int.tmod x y, rfl, by go_num, by omega, by omega, by omega, by omega, below_drewN hb _, J⟩
      case measure => simp [intOf]; omega
def lowB (n d : Int) : Bool := decide (0 < d) && (Nat.gcd n.natAbs d.natAbs == 1)
def stE (n d : Int) : Int := if lowB n d then unl (inB n 0 1000000000 && decide (d ≤ 1000000000)) 2 else 3
structure I64 (n : Int) : Prop where
  a : -9223372036854775808 ≤ n
  b : n ≤ 9223372036854775807
set_option maxRecDepth 100000 in
set_option maxHeartbeats 1000000 in
theorem isLowest_any (n d : Int) (hn : I64 n) (hd : I64 d) (w : World) :
    Calls Try.prog 165 #[.agg #[.int .i64 n, .int .i64 d]] w fun e w' => e = .returned (.bool (lowB n d)) ∧ Below w.heap.size w w' := by
  obtain ⟨n0, n1⟩ := hn
  obtain ⟨d0, d1⟩ := hd
  by_cases h : 0 < d
  · have hv : lowB n d = (Nat.gcd n.natAbs d.natAbs == 1) := by unfold lowB; rw [decide_eq_true h, Bool.true_and]
    have HG := Lib.hid (fun w => gcdZ_any n d w n0 n1 (by omega) d1)
    rw [hv]
    generalize Nat.gcd n.natAbs d.natAbs = g at *
    clear hv
    by_cases hg : g = 1
    · subst hg
      go_enter Try.func165, Try.ntmps165
      go_wp2_with fail
      refine (HG.out _).mono ?_
      rintro e w1 ⟨rfl, hb1⟩
      have H1 : Hid (Below w.heap.size w w1) := below_after (by repeat (first | exact Below.refl _ _ | refine Below.drew ?_ | refine below_drewN ?_ _ | refine Below.setCell ?_ (by first | omega | (simp; done) | (simp; omega)) _ | refine Below.alloc ?_ (by first | omega | (simp; done) | (simp; omega)) _)) hb1 (by simp)
      clear hb1
      go_wp2
      go_ret
      exact ⟨rfl, H1.out⟩
    · have k : ((g : Int) == 1) = false := by simp; omega
      go_enter Try.func165, Try.ntmps165
      go_wp2_with fail
      refine (HG.out _).mono ?_
      rintro e w1 ⟨rfl, hb1⟩
      have H1 : Hid (Below w.heap.size w w1) := below_after (by repeat (first | exact Below.refl _ _ | refine Below.drew ?_ | refine below_drewN ?_ _ | refine Below.setCell ?_ (by first | omega | (simp; done) | (simp; omega)) _ | refine Below.alloc ?_ (by first | omega | (simp; done) | (simp; omega)) _)) hb1 (by simp)
      clear hb1
      go_wp2
      go_ret
      exact ⟨by rw [show (g == 1) = false by simp [hg]]; rfl, H1.out⟩
  · have hv : lowB n d = false := by unfold lowB; rw [decide_eq_false h, Bool.false_and]
    rw [hv]
    clear hv
    go_enter Try.func165, Try.ntmps165
    go_wp2
    go_ret
    exact ⟨rfl, (by repeat (first | exact Below.refl _ _ | refine Below.drew ?_ | refine below_drewN ?_ _ | refine Below.setCell ?_ (by first | omega | (simp; done) | (simp; omega)) _ | refine Below.alloc ?_ (by first | omega | (simp; done) | (simp; omega)) _))⟩
set_option maxRecDepth 100000 in
set_option maxHeartbeats 1000000 in
theorem limitErr_any (n d : Int) (hn : I64 n) (hd : I64 d) (w : World) :
    Calls Try.prog 130 #[.agg #[.int .i64 n, .int .i64 d]] w fun e w' => e = .returned (.int .i64 (stE n d)) ∧ Below w.heap.size w w' := by
  have HL := Lib.hid (fun w => isLowest_any n d hn hd w)
  have HS := Lib.hid (fun w => isSmall_any n d w)
  clear hn hd
  cases hl : lowB n d
  · have hv : stE n d = 3 := by unfold stE; rw [hl]; rfl
    rw [hv]; rw [hl] at HL
    clear hv hl HS
    go_enter Try.func130, Try.ntmps130
    go_wp2_with fail
    refine (HL.out _).mono ?_
    rintro e w1 ⟨rfl, hb1⟩
    have H1 : Hid (Below w.heap.size w w1) := below_after (by repeat (first | exact Below.refl _ _ | refine Below.drew ?_ | refine below_drewN ?_ _ | refine Below.setCell ?_ (by first | omega | (simp; done) | (simp; omega)) _ | refine Below.alloc ?_ (by first | omega | (simp; done) | (simp; omega)) _)) hb1 (by simp)
    clear hb1
    go_wp2
    go_ret
    exact ⟨rfl, H1.out⟩
  · have hd : 0 < d := by unfold lowB at hl; simp at hl; exact hl.1
    rw [hl] at HL
    by_cases hn : n < 0
    · have hv : stE n d = 2 := by
        unfold stE; rw [hl]
        have : inB n 0 1000000000 = false := by rw [Bool.eq_false_iff]; intro k; have := (inB_iff _ _ _).1 k; omega
        rw [this]; rfl
      rw [hv]
      clear hv hl HS
      go_enter Try.func130, Try.ntmps130
      go_wp2_with fail
      refine (HL.out _).mono ?_
      rintro e w1 ⟨rfl, hb1⟩
      have q0 : w1.cell? ⟨w.heap.size, 0, none⟩ = some (.int .i64 n) := cell_later hb1 (by simp [go_sem])
      have q1 : w1.cell? ⟨w.heap.size, 1, none⟩ = some (.int .i64 d) := cell_later hb1 (by simp [go_sem])
      have H1 : Hid (Below w.heap.size w w1) := below_after (by repeat (first | exact Below.refl _ _ | refine Below.drew ?_ | refine below_drewN ?_ _ | refine Below.setCell ?_ (by first | omega | (simp; done) | (simp; omega)) _ | refine Below.alloc ?_ (by first | omega | (simp; done) | (simp; omega)) _)) hb1 (by simp)
      clear hb1
      go_wp2
      go_ret
      exact ⟨rfl, H1.out⟩
    · have hv : stE n d = unl (inB n (-1000000000) 1000000000 && inB d 1 1000000000) 2 := by
        unfold stE; rw [hl]
        have e1 : inB n 0 1000000000 = inB n (-1000000000) 1000000000 := by
          unfold inB; rw [decide_eq_true (show 0 ≤ n by omega), decide_eq_true (show -1000000000 ≤ n by omega)]
        have e2 : inB d 1 1000000000 = decide (d ≤ 1000000000) := by
          unfold inB; rw [decide_eq_true (show 1 ≤ d by omega), Bool.true_and]
        rw [e1, e2]; rfl
      rw [hv]
      clear hv hl
      generalize (inB n (-1000000000) 1000000000 && inB d 1 1000000000) = sb at *
      cases sb
      · go_enter Try.func130, Try.ntmps130
        go_wp2_with fail
        refine (HL.out _).mono ?_
        rintro e w1 ⟨rfl, hb1⟩
        have q0 : w1.cell? ⟨w.heap.size, 0, none⟩ = some (.int .i64 n) := cell_later hb1 (by simp [go_sem])
        have q1 : w1.cell? ⟨w.heap.size, 1, none⟩ = some (.int .i64 d) := cell_later hb1 (by simp [go_sem])
        have H1 : Hid (Below w.heap.size w w1) := below_after (by repeat (first | exact Below.refl _ _ | refine Below.drew ?_ | refine below_drewN ?_ _ | refine Below.setCell ?_ (by first | omega | (simp; done) | (simp; omega)) _ | refine Below.alloc ?_ (by first | omega | (simp; done) | (simp; omega)) _)) hb1 (by simp)
        clear hb1
        go_wp2_with fail
        refine (HS.out _).mono ?_
        rintro e w2 ⟨rfl, hb2⟩
        have H2 : Hid (Below w.heap.size w w2) := below_then H1.out hb2
        clear hb2
        go_wp2
        go_ret
        exact ⟨rfl, H2.out⟩
      · go_enter Try.func130, Try.ntmps130
        go_wp2_with fail
        refine (HL.out _).mono ?_
        rintro e w1 ⟨rfl, hb1⟩
        have q0 : w1.cell? ⟨w.heap.size, 0, none⟩ = some (.int .i64 n) := cell_later hb1 (by simp [go_sem])
        have q1 : w1.cell? ⟨w.heap.size, 1, none⟩ = some (.int .i64 d) := cell_later hb1 (by simp [go_sem])
        have H1 : Hid (Below w.heap.size w w1) := below_after (by repeat (first | exact Below.refl _ _ | refine Below.drew ?_ | refine below_drewN ?_ _ | refine Below.setCell ?_ (by first | omega | (simp; done) | (simp; omega)) _ | refine Below.alloc ?_ (by first | omega | (simp; done) | (simp; omega)) _)) hb1 (by simp)
        clear hb1
        go_wp2_with fail
        refine (HS.out _).mono ?_
        rintro e w2 ⟨rfl, hb2⟩
        have H2 : Hid (Below w.heap.size w w2) := below_then H1.out hb2
        clear hb2
        go_wp2
        go_ret
        exact ⟨rfl, H2.out⟩
set_option maxRecDepth 100000 in
set_option maxHeartbeats 1000000 in
theorem chkLowest_any (n d : Int) (hn : I64 n) (hd : I64 d) (w : World) :
    Calls Try.prog 164 #[.agg #[.int .i64 n, .int .i64 d]] w fun e w' => e = .returned (.int .i64 (unl (lowB n d) 3)) ∧ Below w.heap.size w w' := by
  obtain ⟨n0, n1⟩ := hn
  obtain ⟨d0, d1⟩ := hd
  by_cases h : 0 < d
  · have hv : lowB n d = (Nat.gcd n.natAbs d.natAbs == 1) := by unfold lowB; rw [decide_eq_true h, Bool.true_and]
    have HG := Lib.hid (fun w => commonDivisor_any n d w n0 n1 d0 d1)
    rw [hv]
    generalize Nat.gcd n.natAbs d.natAbs = g at *
    clear hv
    by_cases hg : g = 1
    · subst hg
      go_enter Try.func164, Try.ntmps164
      go_wp2_with fail
      refine (HG.out _).mono ?_
      rintro e w1 ⟨rfl, hb1⟩
      have H1 : Hid (Below w.heap.size w w1) := Lib.hid (below_after (by repeat (first | exact Below.refl _ _ | refine Below.drew ?_ | refine below_drewN ?_ _ | refine Below.setCell ?_ (by first | omega | (simp; done) | (simp; omega)) _ | refine Below.alloc ?_ (by first | omega | (simp; done) | (simp; omega)) _)) hb1 (by simp))
      clear hb1
      go_wp2_with (go_at_call 122; refine (unless_any _ _ _).mono ?_; rintro e w' ⟨rfl, rfl⟩)
      go_ret
      exact ⟨rfl, H1.out⟩
    · have k : ((g : Int) == 1) = false := by simp; omega
      go_enter Try.func164, Try.ntmps164
      go_wp2_with fail
      refine (HG.out _).mono ?_
      rintro e w1 ⟨rfl, hb1⟩
      have H1 : Hid (Below w.heap.size w w1) := Lib.hid (below_after (by repeat (first | exact Below.refl _ _ | refine Below.drew ?_ | refine below_drewN ?_ _ | refine Below.setCell ?_ (by first | omega | (simp; done) | (simp; omega)) _ | refine Below.alloc ?_ (by first | omega | (simp; done) | (simp; omega)) _)) hb1 (by simp))
      clear hb1
      go_wp2_with (go_at_call 122; refine (unless_any _ _ _).mono ?_; rintro e w' ⟨rfl, rfl⟩)
      go_ret
      exact ⟨by rw [show (g == 1) = false by simp [hg]]; rfl, H1.out⟩
  · have hv : lowB n d = false := by unfold lowB; rw [decide_eq_false h, Bool.false_and]
    rw [hv]
    clear hv
    go_enter Try.func164, Try.ntmps164
    go_wp2_with (go_at_call 122; refine (unless_any _ _ _).mono ?_; rintro e w' ⟨rfl, rfl⟩)
    go_ret
    exact ⟨rfl, (by repeat (first | exact Below.refl _ _ | refine Below.drew ?_ | refine below_drewN ?_ _ | refine Below.setCell ?_ (by first | omega | (simp; done) | (simp; omega)) _ | refine Below.alloc ?_ (by first | omega | (simp; done) | (simp; omega)) _))⟩
theorem stE_fst (n d : Int) : fst [unl (lowB n d) 3, unl (inB n 0 1000000000) 2, unl (inB d 1 1000000000) 2] = stE n d := by
  by_cases h : 0 < d
  · have e : inB d 1 1000000000 = decide (d ≤ 1000000000) := by unfold inB; rw [decide_eq_true (show (1 : Int) ≤ d by omega), Bool.true_and]
    unfold stE; rw [e]
    cases lowB n d <;> cases inB n 0 1000000000 <;> cases decide (d ≤ 1000000000) <;> rfl
  · have e : lowB n d = false := by unfold lowB; rw [decide_eq_false h, Bool.false_and]
    unfold stE; rw [e]; rfl
set_option maxRecDepth 100000 in
set_option maxHeartbeats 1000000 in
theorem steepError_any (n d : Int) (hn : I64 n) (hd : I64 d) (w : World) :
    Calls Try.prog 128 #[.agg #[.int .i64 n, .int .i64 d]] w fun e w' => e = .returned (.int .i64 (stE n d)) ∧ Below w.heap.size w w' := by
  have HL := Lib.hid (fun w => chkLowest_any n d hn hd w)
  clear hn hd
  rw [← stE_fst]
  generalize hu0 : unl (lowB n d) 3 = u0 at *
  go_enter Try.func128, Try.ntmps128
  go_wp2
  have hS : Below w.heap.size w (w.alloc (.cells #[.int .i64 n, .int .i64 d] 98)) := (by repeat (first | exact Below.refl _ _ | refine Below.drew ?_ | refine below_drewN ?_ _ | refine Below.setCell ?_ (by first | omega | (simp; done) | (simp; omega)) _ | refine Below.alloc ?_ (by first | omega | (simp; done) | (simp; omega)) _))
  go_region_held3 (fun w' => w'.cell? ⟨w.heap.size, 0, none⟩ = some (.int .i64 n) ∧ w'.cell? ⟨w.heap.size, 1, none⟩ = some (.int .i64 d) ∧ Below w.heap.size w w') (((go_split_ands; (repeat' apply And.intro) <;> first | (with_reducible assumption) | exact cell_later (by assumption) (by assumption) | exact frozen_after (by assumption) (by assumption) (by assumption) | exact below_then (by assumption) (by assumption) | exact below_alloc_top (by assumption) _ | exact cell_alloc_later (by assumption) _ | exact frozen_alloc_later (by assumption) (by assumption) _ | exact Below.drew (by assumption) | (simp [go_sem, World.cell?_alloc_past, *]; done))))
    (first
      | (go_at_call 164; (with_reducible refine (HL.out _).mono ?_); rintro e w' ⟨rfl, hb⟩)
      | (go_at_call 106; refine (isWithin_any _ _ _ _).mono ?_; rintro e w' ⟨rfl, rfl⟩)
      | (go_at_call 93; refine (firstError_any _ [u0, unl (inB n 0 1000000000) 2, unl (inB d 1 1000000000) 2] _ (by simp) (by first | exact cells_drew _ _ (by simp) _ _ | exact cells_new _ _ (by simp) _ _)).mono ?_; rintro e w' ⟨rfl, rfl⟩))
  go_split_ands
  go_wp2
  go_ret
  exact ⟨rfl, by first | (with_reducible assumption) | (with_reducible exact Below.drew (by assumption)) | (with_reducible exact below_alloc_top (by assumption) _)⟩
set_option maxRecDepth 100000 in
set_option maxHeartbeats 1000000 in
theorem cmp_any (n d m k : Int) (w : World) (n0 : 0 ≤ n * k) (n1 : n * k ≤ 1000000000000000000) (m0 : 0 ≤ m * d) (m1 : m * d ≤ 1000000000000000000) :
    Calls Try.prog 131 #[.agg #[.int .i64 n, .int .i64 d], .agg #[.int .i64 m, .int .i64 k]] w fun e w' => e = .returned (.int .i64 (sg (n * k) (m * d))) ∧ Below w.heap.size w w' := by
  rcases sg_cases (n * k) (m * d) with ⟨h, hv⟩ | ⟨h, hv⟩ | ⟨h, hv⟩ <;>
  · have HV := Lib.hid hv; clear hv
    go_enter Try.func131, Try.ntmps131
    go_wp2
    go_quiet (fail)
    go_wp2
    go_ret
    exact ⟨by rw [HV.out]; rfl, (by repeat (first | exact Below.refl _ _ | refine Below.drew ?_ | refine below_drewN ?_ _ | refine Below.setCell ?_ (by first | omega | (simp; done) | (simp; omega)) _ | refine Below.alloc ?_ (by first | omega | (simp; done) | (simp; omega)) _))⟩
end Go.Proofs.Ytdicndakelgoeaa
