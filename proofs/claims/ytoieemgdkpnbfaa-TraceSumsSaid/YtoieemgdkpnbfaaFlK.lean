/- what is right of a trace, of the reference -/
import Derived.Test.YtoieemgdkpnbfaaFl10
namespace Go.Proofs.Ytoieemgdkpnbfaa
open Go.RowKit RayM
set_option linter.unusedSimpArgs false
set_option linter.unusedVariables false
theorem signed_more (s : Bool) (m e k : Nat) : Ieee.signed s m (e + k) = Ieee.signed s m e * (2 : Int) ^ k := by
  unfold Ieee.signed
  rw [Nat.shiftLeft_eq, Nat.shiftLeft_eq, Nat.pow_add, ← Nat.mul_assoc]
  cases s
  · rw [if_neg (by decide), if_neg (by decide), Int.natCast_mul, Int.natCast_pow]; rfl
  · rw [if_pos rfl, if_pos rfl, Int.natCast_mul (m * 2 ^ e), Int.natCast_pow, Int.neg_mul]; rfl
theorem order_const {f : Ieee.Format} (g : Fl.Good f) (n : Int) (h : n.natAbs < 2 ^ (f.fractionBits + 1)) (c : Nat) (s : Bool) (m e : Nat) (hc : f.read c = .number s m (e : Int)) : f.order (Fl.fl f n) c = some (compare n (Ieee.signed s m e)) := by
  obtain ⟨i, ei⟩ := Fl.read_fl g n h
  unfold Ieee.Format.order
  rw [ei, hc]
  simp only [Ieee.Datum.order]
  rw [Fl.signed_whole]
  have hbase : min (-(i : Int)) (e : Int) = -(i : Int) := by omega
  rw [hbase]
  have k1 : i + (-(i : Int) - -(i : Int)).toNat = i := by omega
  have k2 : ((e : Int) - -(i : Int)).toNat = e + i := by omega
  rw [k1, k2, signed_more]
  have pp := Fl.pow2_pos i
  congr 1
  generalize Ieee.signed s m e = b
  rcases Int.lt_trichotomy n b with h | h | h
  · rw [(Int.compare_eq_lt).2 h, (Int.compare_eq_lt).2 (Int.mul_lt_mul_of_pos_right h pp)]
  · subst h; simp
  · rw [(Int.compare_eq_gt).2 h, (Int.compare_eq_gt).2 (Int.mul_lt_mul_of_pos_right h pp)]
theorem ge_lo (n : Int) (h : n.natAbs < 2 ^ 24) : (FloatKind.f64.format.order (fd n) 14069741636278059008 == some .gt || FloatKind.f64.format.order (fd n) 14069741636278059008 == some .eq) = true := by
  have e := order_const Fl.good64 n (Nat.lt_of_lt_of_le h (by decide)) 14069741636278059008 true 5000000000000000 1 (by decide +kernel)
  have e2 : FloatKind.f64.format.order (fd n) 14069741636278059008 = _ := e
  rw [e2]
  have hs : Ieee.signed true 5000000000000000 1 = -10000000000000000 := by decide
  rw [hs, Int.compare_eq_gt.2 (by omega)]
  rfl
theorem le_hi (n : Int) (h : n.natAbs < 2 ^ 24) : (FloatKind.f64.format.order (fd n) 4846369599423283200 == some .lt || FloatKind.f64.format.order (fd n) 4846369599423283200 == some .eq) = true := by
  have e := order_const Fl.good64 n (Nat.lt_of_lt_of_le h (by decide)) 4846369599423283200 false 5000000000000000 1 (by decide +kernel)
  have e2 : FloatKind.f64.format.order (fd n) 4846369599423283200 = _ := e
  rw [e2]
  have hs : Ieee.signed false 5000000000000000 1 = 10000000000000000 := by decide
  rw [hs, Int.compare_eq_lt.2 (by omega)]
  rfl
theorem toInt_d (a : Int) (ha : a.natAbs < 2 ^ 24) (w : World) : (convert 124 3 (.float .f64 (fd a))).run Try.prog w = .ok (.int .i64 a) w := by
  refine run_convert_float_int w _ _ .f64 .i64 _ _ (by kernel_rfl) (by kernel_rfl) ?_
  have e : (FloatKind.f64.decode (fd a)).toInt .zero = some a := Fl.toInt_fl Fl.good64 a (Nat.lt_of_lt_of_le ha (by decide))
  unfold floatToIntVal
  rw [e]
  dsimp only
  rw [if_pos ?_]
  have h1 : IntKind.i64.min = -9223372036854775808 := by decide
  have h2 : IntKind.i64.max = 9223372036854775807 := by decide
  rw [h1, h2]; omega
theorem fd_zero : fd 0 = 0 := by decide +kernel
theorem lt_lo (n : Int) (h : n.natAbs < 2 ^ 24) : (FloatKind.f32.format.order (fs n) 3305103360 == some .lt) = decide (n < -2047) := by
  rw [← fs_lo]
  show (Ieee.single.order (Fl.fl Ieee.single n) (Fl.fl Ieee.single (-2047)) == _) = _
  rw [Fl.order_fl Fl.good32 n (-2047) h (by decide)]
  rcases Int.lt_trichotomy n (-2047) with h | h | h
  · rw [Int.compare_eq_lt.2 h]; simp; omega
  · rw [Int.compare_eq_eq.2 h]; simp; omega
  · rw [Int.compare_eq_gt.2 h]; simp; omega
theorem gt_hi (n : Int) (h : n.natAbs < 2 ^ 24) : (FloatKind.f32.format.order (fs n) 1157619712 == some .gt) = decide (2047 < n) := by
  rw [← fs_hi]
  show (Ieee.single.order (Fl.fl Ieee.single n) (Fl.fl Ieee.single 2047) == _) = _
  rw [Fl.order_fl Fl.good32 n 2047 h (by decide)]
  rcases Int.lt_trichotomy n 2047 with h | h | h
  · rw [Int.compare_eq_lt.2 h]; simp; omega
  · rw [Int.compare_eq_eq.2 h]; simp; omega
  · rw [Int.compare_eq_gt.2 h]; simp; omega
set_option maxRecDepth 100000 in
set_option maxHeartbeats 1000000 in
theorem bIsWhole_any (n : Int) (w : World) (h : n.natAbs < 2 ^ 24) :
    Calls Try.prog 86 #[.float .f64 (fd n)] w fun e w' => e = .returned (.bool true) ∧ w = w' := by
  have h53 : n.natAbs < 2 ^ 53 := Nat.lt_of_lt_of_le h (by decide)
  have f1 : (FloatKind.f64.format.order (fd n) (fd n) != some .eq) = false := by have := order_eq n h53; simp only [bne]; rw [this]; rfl
  have f2 : (FloatKind.f64.format.order (fd n) (fd n) == some .eq) = true := order_eq n h53
  have f3 : ∀ w, (binOp .sub 124 (.float .f64 (fd n)) (.float .f64 (fd n))).run Try.prog w = .ok (.float .f64 (fd 0)) w := fun w =>
    run_float_arith w .sub _ .f64 _ _ _ (by have := Fl.sub_fl Fl.good64 n n h53 h53 (by rw [Int.sub_self]; decide); rw [Int.sub_self] at this; exact this)
  rw [fd_zero] at f3
  have f4 : (FloatKind.f64.format.order 0 0 != some .eq) = false := by decide +kernel
  have f5 := ge_lo n h
  have f6 := le_hi n h
  have f7 := toInt_d n h
  have f8 : floatOfInt .f64 n = fd n := rfl
  go_enter Try.func86, Try.ntmps86
  go_wp2
  go_ret
  exact ⟨rfl, rfl⟩
set_option maxRecDepth 100000 in
set_option maxHeartbeats 1000000 in
theorem rSampleErr_any (n : Int) (w : World) (h : n.natAbs < 8192) :
    Calls Try.prog 79 #[.float .f32 (fs n)] w fun e w' => e = .returned (.int .i64 (smE n)) ∧ w = w' := by
  have h24 : n.natAbs < 2 ^ 24 := Nat.lt_trans h (by decide)
  have hc := run_fd n h24
  have IW := Lib.hid (fun w => bIsWhole_any n w h24)
  have l1 := lt_lo n h24
  have l2 := gt_hi n h24
  by_cases p1 : n < -2047
  · have HS : Hid (smE n = 2) := by show _ = _; unfold smE inB unl; rw [if_neg]; simp; omega
    rw [decide_eq_true p1] at l1
    rw [HS.out]
    go_enter Try.func79, Try.ntmps79
    go_wp2_with (go_at_call 86; (with_reducible refine (IW.out _).mono ?_); rintro e w' ⟨rfl, rfl⟩)
    go_ret
    exact ⟨rfl, rfl⟩
  · rw [decide_eq_false p1] at l1
    by_cases p2 : 2047 < n
    · have HS : Hid (smE n = 2) := by show _ = _; unfold smE inB unl; rw [if_neg]; simp; omega
      rw [decide_eq_true p2] at l2
      rw [HS.out]
      go_enter Try.func79, Try.ntmps79
      go_wp2_with (go_at_call 86; (with_reducible refine (IW.out _).mono ?_); rintro e w' ⟨rfl, rfl⟩)
      go_ret
      exact ⟨rfl, rfl⟩
    · have HS : Hid (smE n = 0) := by show _ = _; unfold smE inB unl; rw [if_pos]; simp; omega
      rw [decide_eq_false p2] at l2
      rw [HS.out]
      go_enter Try.func79, Try.ntmps79
      go_wp2_with (go_at_call 86; (with_reducible refine (IW.out _).mono ?_); rintro e w' ⟨rfl, rfl⟩)
      go_ret
      exact ⟨rfl, rfl⟩
set_option maxRecDepth 100000 in
set_option maxHeartbeats 1000000 in
theorem samplesErr_any (b c : Nat) (l : Nat → Int) (w : World) (hl : Few l) (h : VAt b 64 (fv l) w) :
    Calls Try.prog 55 #[.slice (some ⟨b, 0, none⟩) 64 c] w fun e w' => e = .returned (.tuple #[.int .i64 (ctI l : Nat), .int .i64 (ctE l)]) ∧ Below w.heap.size w w' := by
  have FS := Lib.hid (ffE_step (fun i => smE (l i))); have IS := Lib.hid (ffI_step (fun i => smE (l i)))
  have SE := Lib.hid (fun i (hi : i < 64) w => rSampleErr_any (l i) w (hl i hi))
  unfold ctI ctE
  generalize hEq : ffE (fun i => smE (l i)) 0 64 = E0 at *
  generalize hIq : ffI (fun i => smE (l i)) 0 64 = I0 at *
  have EQ := Lib.hid hEq; have IQ := Lib.hid hIq; clear hEq hIq
  go_enter Try.func55, Try.ntmps55
  go_wp2
  go_loopw [4] (fun s4 wr => ∃ k : Nat, k ≤ 64 ∧ s4 = .int .i64 (k : Int) ∧ ffE (fun i => smE (l i)) k (64 - k) = E0 ∧ ffI (fun i => smE (l i)) k (64 - k) = I0 ∧ wr = w) (fun s4 _ => 64 - (intOf s4).toNat)
  case atStart => exact ⟨0, Nat.zero_le _, rfl, EQ.out, IQ.out, rfl⟩
  case round =>
    obtain ⟨k, hk, rfl, hE, hI, rfl⟩ := hrel
    have HE := Lib.hid hE; have HI := Lib.hid hI; clear hE hI
    have j0 : (0 : Int) ≤ (k : Int) := Int.natCast_nonneg _
    by_cases hlt : k < 64
    · have e0 : wr.cell? ⟨b, k, none⟩ = some (.float .f32 (fs (l k))) := h k hlt
      have j1 : (k : Int) < 64 := by omega
      have HL := Lib.hid (fun W => SE.out k hlt W)
      by_cases hg : smE (l k) = 0
      · have HG := Lib.hid hg
        rw [hg] at HL
        clear hg
        go_wp2_with (go_at_call 79; (with_reducible refine (HL.out _).mono ?_); rintro e w' ⟨rfl, rfl⟩)
        go_roundw
        case rel => exact ⟨k + 1, by omega, by go_num, by rw [← HE.out, FS.out k 64 hlt, if_pos HG.out], by rw [← HI.out, IS.out k 64 hlt, if_pos HG.out], by first | trivial | rfl⟩
        case measure => simp [intOf]; omega
      · have n1 : (smE (l k) != 0) = true := by simpa using hg
        have EE : Hid (E0 = smE (l k)) := by show _ = _; rw [← HE.out, FS.out k 64 hlt, if_neg hg]
        have II : Hid (I0 = k) := by show _ = _; rw [← HI.out, IS.out k 64 hlt, if_neg hg]
        clear hg
        generalize smE (l k) = ek at *
        go_wp2_with (go_at_call 79; (with_reducible refine (HL.out _).mono ?_); rintro e w' ⟨rfl, rfl⟩)
        go_ret2
        exact ⟨by rw [EE.out, II.out]; rfl, Below.refl _ _⟩
    · obtain rfl : k = 64 := by omega
      have EE : Hid (E0 = 0) := by show _ = _; rw [← HE.out]; rfl
      have II : Hid (I0 = 0) := by show _ = _; rw [← HI.out]; rfl
      go_wp2
      go_ret2
      exact ⟨by rw [EE.out, II.out]; rfl, Below.refl _ _⟩
set_option maxRecDepth 100000 in
set_option maxHeartbeats 1000000 in
theorem rCheckTrace_any (l : Nat → Int) (w : World) (hl : Few l) :
    Calls Try.prog 16 #[.agg (vls 64 (fv l)).toArray] w fun e w' => e = .returned (.tuple #[.int .i64 (ctI l : Nat), .int .i64 (ctE l)]) ∧ Below w.heap.size w w' := by
  go_enter Try.func16, Try.ntmps16
  go_wp2_with (first
    | ((with_reducible refine wpList_box_named rfl 26 _ rfl 1 rfl 64 (fv l) rfl ?_); intro w1 N1; have s1 := N1.size; have ct1 := N1.at'; have zt1 := N1.free; have b1 : Hid (Below w.heap.size w w1) := Lib.hid N1.below; clear N1)
    | (go_at_call 55; (with_reducible refine (samplesErr_any _ _ l _ hl ct1).mono ?_); rintro e w' ⟨rfl, hb⟩))
  go_ret2
  exact ⟨rfl, below_then b1.out hb⟩
end Go.Proofs.Ytoieemgdkpnbfaa
