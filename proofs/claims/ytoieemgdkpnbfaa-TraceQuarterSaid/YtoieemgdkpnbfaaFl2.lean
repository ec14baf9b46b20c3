/- samples: whole numbers as floats, what is right of them -/
import Derived.Test.YtoieemgdkpnbfaaFl1
namespace Go.Proofs.Ytoieemgdkpnbfaa
open Go.RowKit RayM
set_option linter.unusedSimpArgs false
set_option linter.unusedVariables false

/-- a whole number as a float32, as a float64 -/
def fs (n : Int) : Nat := Fl.fl Ieee.single n
def fd (n : Int) : Nat := Fl.fl Ieee.double n
theorem fd_word (n : Int) (h : n.natAbs < 2 ^ 53) : ∃ r, r < Ieee.double.infRung ∧ fd n = Ieee.double.word (decide (n < 0)) r ∧ fd (n.natAbs : Int) = r := by
  unfold fd Fl.fl
  by_cases h0 : n = 0
  · subst h0
    exact ⟨0, by decide +kernel, rfl, rfl⟩
  · have hp : 0 < n.natAbs := by omega
    have hl := Fl.log2_le (p := 52) h
    have e1 := Fl.nearest_whole Fl.good64 (decide (n < 0)) n.natAbs 0 hp hl
    have e2 := Fl.nearest_whole Fl.good64 false n.natAbs 0 hp hl
    simp only [Nat.pow_zero, Nat.mul_one] at e1 e2
    have hr := Fl.rung_lt Fl.good64 n.natAbs hp hl
    rw [Nat.min_eq_left (Nat.le_of_lt hr)] at e1 e2
    refine ⟨Fl.rung Ieee.double n.natAbs, hr, e1, ?_⟩
    have : decide ((n.natAbs : Int) < 0) = false := by simp
    rw [this]
    exact e2
theorem sw64 : Ieee.double.signWeight = 9223372036854775808 := by decide +kernel
theorem abs_bits (n : Int) (h : n.natAbs < 2 ^ 53) : bits .andNot .u64 (fd n : Int) 9223372036854775808 = ((fd (n.natAbs : Int) : Nat) : Int) := by
  obtain ⟨r, hr, e1, e2⟩ := fd_word n h
  have hi := Fl.good64.inf
  rw [sw64] at hi
  have hlt : fd n < 18446744073709551616 := by
    rw [e1]; unfold Ieee.Format.word; rw [sw64]; split <;> omega
  have := u64_andNot_nat (fd n) 9223372036854775808 hlt (by decide)
  rw [e2]
  have q : fd n &&& (18446744073709551615 - 9223372036854775808) = r := by
    rw [show (18446744073709551615 - 9223372036854775808 : Nat) = 2 ^ 63 - 1 by decide, Nat.and_two_pow_sub_one_eq_mod, e1]
    unfold Ieee.Format.word
    rw [sw64]
    split <;> omega
  rw [q] at this
  exact this
theorem c83 (b : Nat) (w : World) : (callFunc 83 #[.float .f64 b]).run Try.prog w = .ok (.value (.int .u64 b)) w := by
  rw [run_callFunc_extern (e := Extern.MathFloatBits.float64bits) Try.func83 (by kernel_rfl) (by kernel_rfl) (by kernel_rfl) (by kernel_rfl)]
  rfl
theorem c96 (b : Int) (w : World) : (callFunc 96 #[.int .u64 b]).run Try.prog w = .ok (.value (.float .f64 b.toNat)) w := by
  rw [run_callFunc_extern (e := Extern.MathFloatBits.float64frombits) Try.func96 (by kernel_rfl) (by kernel_rfl) (by kernel_rfl) (by kernel_rfl)]
  rfl
theorem toIntegral_number (nm : String) (way : Ieee.Toward) (x : Nat) (s : Bool) (m : Nat) (i : Int) (h : FloatKind.f64.decode x = .number s m i) : Extern.MathFloor.toIntegral nm way #[.float .f64 x] = pure (.float .f64 (FloatKind.f64.encode (Ieee.Datum.integral way (.number s m i)))) := by
  conv => lhs; whnf
  rw [h]
theorem c92 (n : Int) (h : n.natAbs < 2 ^ 53) (w : World) : (callFunc 92 #[.float .f64 (fd n)]).run Try.prog w = .ok (.value (.float .f64 (fd n))) w := by
  rw [run_callFunc_extern (e := Extern.MathFloor.toIntegral "math.archTrunc" .zero) Try.func92 (by kernel_rfl) (by kernel_rfl) (by kernel_rfl) (by kernel_rfl)]
  obtain ⟨k, e⟩ := Fl.read_fl Fl.good64 n h
  have e' : FloatKind.f64.decode (fd n) = .number (decide (n < 0)) (n.natAbs * 2 ^ k) (-(k : Int)) := e
  have e1 : (-(k : Int)).toNat = 0 := by omega
  have e2 : (- -(k : Int)).toNat = k := by omega
  have hw := Fl.write_whole Fl.good64 n 0 _ h rfl
  simp only [Nat.pow_zero, Nat.mul_one] at hw
  have hi : Ieee.Datum.integral .zero (.number (decide (n < 0)) (n.natAbs * 2 ^ k) (-(k : Int))) = .number (decide (n < 0)) n.natAbs (-((0 : Nat) : Int)) := by
    simp only [Ieee.Datum.integral, e1, e2, Nat.shiftLeft_zero, Fl.cut_exact]; rfl
  have hh : FloatKind.f64.encode (.number (decide (n < 0)) n.natAbs (-((0 : Nat) : Int))) = fd n := hw
  rw [toIntegral_number _ _ _ _ _ _ e', hi, hh]
  rfl
theorem signed_split (m e k : Nat) : Ieee.signed false m (e + k) = ((m * 2 ^ e : Nat) : Int) * (2 : Int) ^ k := by
  unfold Ieee.signed
  rw [if_neg (by decide), Nat.shiftLeft_eq, Nat.pow_add, ← Nat.mul_assoc, Int.natCast_mul, Int.natCast_pow]
  rfl
theorem order_max (n : Int) (h : n.natAbs < 2 ^ 53) : (FloatKind.f64.format.order (fd (n.natAbs : Int)) 9218868437227405311 == some .gt) = false := by
  obtain ⟨k, e⟩ := Fl.read_fl Fl.good64 (n.natAbs : Int) (by rw [Int.natAbs_natCast]; exact h)
  have e' : Ieee.double.read (fd (n.natAbs : Int)) = .number (decide ((n.natAbs : Int) < 0)) ((n.natAbs : Int).natAbs * 2 ^ k) (-(k : Int)) := e
  have m : Ieee.double.read 9218868437227405311 = .number false 9007199254740991 971 := by decide +kernel
  show (Ieee.double.order _ _ == _) = false
  unfold Ieee.Format.order
  rw [e', m]
  simp only [Ieee.Datum.order]
  rw [Fl.signed_whole]
  have hb : min (-(k : Int)) 971 = -(k : Int) := by omega
  rw [hb]
  have k1 : k + (-(k : Int) - -(k : Int)).toNat = k := by omega
  have k2 : ((971 : Int) - -(k : Int)).toNat = 971 + k := by omega
  rw [k1, k2]
  have hlt : (n.natAbs : Int) * (2 : Int) ^ k < Ieee.signed false 9007199254740991 (971 + k) := by
    rw [signed_split]
    refine Int.mul_lt_mul_of_pos_right ?_ (Fl.pow2_pos k)
    have : n.natAbs < 9007199254740991 * 2 ^ 971 := Nat.lt_of_lt_of_le h (by decide +kernel)
    exact Int.ofNat_lt.2 this
  rw [(Int.compare_eq_lt).2 hlt]
  rfl
set_option maxRecDepth 100000 in
set_option maxHeartbeats 1000000 in
theorem isInf_any (n : Int) (w : World) (h : n.natAbs < 2 ^ 53) :
    Calls Try.prog 91 #[.float .f64 (fd n), .int .i64 0] w fun e w' => e = .returned (.bool false) ∧ w = w' := by
  have h83 := c83 (fd n)
  have h96 := c96
  have hb := abs_bits n h
  have hg : (FloatKind.f64.format.order (fd (n.natAbs : Int)) 9218868437227405311 == some .gt) = false := order_max n h
  go_enter Try.func91, Try.ntmps91
  go_wp2
  go_ret
  exact ⟨rfl, rfl⟩
set_option maxRecDepth 100000 in
set_option maxHeartbeats 1000000 in
theorem trunc_any (n : Int) (w : World) (h : n.natAbs < 2 ^ 53) :
    Calls Try.prog 90 #[.float .f64 (fd n)] w fun e w' => e = .returned (.float .f64 (fd n)) ∧ w = w' := by
  have h92 := c92 n h
  go_enter Try.func90, Try.ntmps90
  go_wp2
  go_ret
  exact ⟨rfl, rfl⟩
theorem order_eq (n : Int) (h : n.natAbs < 2 ^ 53) : (FloatKind.f64.format.order (fd n) (fd n) == some .eq) = true := by
  show (Ieee.double.order (Fl.fl Ieee.double n) (Fl.fl Ieee.double n) == _) = true
  rw [Fl.order_fl Fl.good64 n n h h, Int.compare_eq_eq.2 rfl]; rfl
set_option maxRecDepth 100000 in
set_option maxHeartbeats 1000000 in
theorem isWhole_any (n : Int) (w : World) (h : n.natAbs < 2 ^ 53) :
    Calls Try.prog 88 #[.float .f64 (fd n)] w fun e w' => e = .returned (.bool true) ∧ w = w' := by
  have he := order_eq n h
  go_enter Try.func88, Try.ntmps88
  go_wp2_with (first | (go_at_call 90; (with_reducible refine (trunc_any _ _ h).mono ?_); rintro e w' ⟨rfl, rfl⟩) | (go_at_call 91; (with_reducible refine (isInf_any _ _ h).mono ?_); rintro e w' ⟨rfl, rfl⟩))
  go_ret
  exact ⟨rfl, rfl⟩
/-- the error of a sample that is whole -/
def smE (n : Int) : Int := unl (inB n (-2047) 2047) 2
theorem run_fd (n : Int) (h : n.natAbs < 2 ^ 24) (w : World) : (convert 24 124 (.float .f32 (fs n))).run Try.prog w = .ok (.float .f64 (fd n)) w := by
  refine run_convert_float_float w _ _ .f32 .f64 _ _ (by kernel_rfl) (by kernel_rfl) ?_ 
  unfold floatToFloatBits
  rw [if_neg (by decide)]
  have h2 : n.natAbs < 2 ^ 53 := Nat.lt_of_lt_of_le h (by decide)
  obtain ⟨k, e⟩ := Fl.read_fl Fl.good32 n h
  have e1 : FloatKind.f32.decode (fs n) = .number (decide (n < 0)) (n.natAbs * 2 ^ k) (-(k : Int)) := e
  have e2 : FloatKind.f64.encode (.number (decide (n < 0)) (n.natAbs * 2 ^ k) (-(k : Int))) = fd n := Fl.write_whole Fl.good64 n k _ h2 rfl
  obtain ⟨k', e3⟩ := Fl.read_fl Fl.good64 n h2
  have e4 : FloatKind.f64.decode (fd n) = .number (decide (n < 0)) (n.natAbs * 2 ^ k') (-(k' : Int)) := e3
  rw [e1]
  dsimp only
  rw [e2, e4]
  rfl
theorem leq_fs (a b : Int) (ha : a.natAbs < 2 ^ 24) (hb : b.natAbs < 2 ^ 24) : (FloatKind.f32.format.order (fs a) (fs b) == some .lt || FloatKind.f32.format.order (fs a) (fs b) == some .eq) = decide (a ≤ b) := by
  show (Ieee.single.order (Fl.fl Ieee.single a) (Fl.fl Ieee.single b) == _ || Ieee.single.order (Fl.fl Ieee.single a) (Fl.fl Ieee.single b) == _) = _
  rw [Fl.order_fl Fl.good32 a b ha hb]
  rcases Int.lt_trichotomy a b with h | h | h
  · rw [Int.compare_eq_lt.2 h]; simp; omega
  · rw [Int.compare_eq_eq.2 h]; simp; omega
  · rw [Int.compare_eq_gt.2 h]; simp; omega
theorem fs_lo : fs (-2047) = 3305103360 := by decide +kernel
theorem fs_hi : fs 2047 = 1157619712 := by decide +kernel
set_option maxRecDepth 100000 in
set_option maxHeartbeats 1000000 in
theorem sampleErr_any (i n : Int) (w : World) (h : n.natAbs < 8192) :
    Calls Try.prog 85 #[.int .i64 i, .float .f32 (fs n)] w fun e w' => e = .returned (.int .i64 (smE n)) ∧ Below w.heap.size w w' := by
  have hc := run_fd n (Nat.lt_trans h (by decide))
  have l1 := leq_fs (-2047) n (by decide) (Nat.lt_trans h (by decide))
  have l2 := leq_fs n 2047 (Nat.lt_trans h (by decide)) (by decide)
  rw [fs_lo] at l1
  rw [fs_hi] at l2
  have h53 : n.natAbs < 2 ^ 53 := Nat.lt_trans h (by decide)
  have hs : ∀ x, fst [unl true 25, x] = x := fun x => by by_cases hx : x = 0 <;> simp [fst, unl, hx]
  by_cases hd : -2047 ≤ n
  · have HS : Hid (smE n = fst [unl true 25, unl (decide (n ≤ 2047)) 2]) := by show _ = _; rw [hs]; simp [smE, inB, hd]
    clear hs
    go_enter Try.func85, Try.ntmps85
    go_wp2_with (first | (go_at_call 88; (with_reducible refine (isWhole_any _ _ h53).mono ?_); rintro e w' ⟨rfl, rfl⟩) | (go_at_call 67; (with_reducible refine (unless_any _ _ _).mono ?_); rintro e w' ⟨rfl, rfl⟩) | (go_at_call 50; refine (firstError_any _ [unl true 25, unl (decide (n ≤ 2047)) 2] _ (by simp) (by first | exact cells_drew _ _ (by simp) _ _ | exact cells_new _ _ (by simp) _ _)).mono ?_; rw [← HS.out]; rintro e w' ⟨rfl, rfl⟩))
    go_ret
    exact ⟨rfl, (Below.refl _ _).alloc (Nat.le_refl _) _⟩
  · have HS : Hid (smE n = fst [unl true 25, unl false 2]) := by show _ = _; rw [hs]; simp [smE, inB, hd]
    clear hs
    go_enter Try.func85, Try.ntmps85
    go_wp2_with (first | (go_at_call 88; (with_reducible refine (isWhole_any _ _ h53).mono ?_); rintro e w' ⟨rfl, rfl⟩) | (go_at_call 67; (with_reducible refine (unless_any _ _ _).mono ?_); rintro e w' ⟨rfl, rfl⟩) | (go_at_call 50; refine (firstError_any _ [unl true 25, unl false 2] _ (by simp) (by first | exact cells_drew _ _ (by simp) _ _ | exact cells_new _ _ (by simp) _ _)).mono ?_; rw [← HS.out]; rintro e w' ⟨rfl, rfl⟩))
    go_ret
    exact ⟨rfl, (Below.refl _ _).alloc (Nat.le_refl _) _⟩
end Go.Proofs.Ytoieemgdkpnbfaa
