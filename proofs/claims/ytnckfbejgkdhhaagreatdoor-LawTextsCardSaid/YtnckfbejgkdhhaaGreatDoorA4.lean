import Derived.Test.YtnckfbejgkdhhaaGreatDoorA3
namespace Go.Proofs.YtnckfbejgkdhhaaGreatDoor
open Go.RowKit RayM
set_option linter.unusedSimpArgs false
set_option linter.unusedVariables false

set_option maxHeartbeats 400000 in
theorem sumOf_any (a b c d : Int) (w : World) (a0 : 0 ≤ a) (b0 : 0 ≤ b) (c0 : 0 ≤ c) (d0 : 0 ≤ d) (a1 : a ≤ 4611686018427387903) (b1 : b ≤ 4611686018427387903) (c1 : c ≤ 4611686018427387903) (d1 : d ≤ 4611686018427387903) :
    Calls Tryz.prog 128 #[.agg #[.int .i64 a, .int .i64 b], .agg #[.int .i64 c, .int .i64 d]] w fun e w' => e = .returned (.agg #[.int .i64 (a + c), .int .i64 (b + d)]) ∧ Below w.heap.size w w' := by
  go_enter Tryz.func128, Tryz.ntmps128
  go_wp2
  exact bodyPost_ret (v := .agg #[.int .i64 (a + c), .int .i64 (b + d)]) (by simp [results, Tryz.results128, go_sem]) rfl ⟨rfl, (((Below.refl _ _).alloc (Nat.le_refl _) _).alloc (by simp) _).alloc (by simp; omega) _⟩

set_option maxHeartbeats 1000000 in
theorem timeOfLength_any (l h v : Int) (w : World) (a : 0 ≤ l) (b : l ≤ 565685425) (c : 0 ≤ h) (d : h ≤ 565685425) (v0 : 500 ≤ v) (v1 : v ≤ 10000) :
    Calls Tryz.prog 129 #[.agg #[.int .i64 l, .int .i64 h], .int .i64 v] w fun e w' => e = .returned (.agg #[.int .i64 (l * 10000 / v), .int .i64 (cdiv (h * 10000) v)]) ∧ Below w.heap.size w w' := by
  have c94 := Lib.hid (fun w => down_any (l * 10000) v w (by omega) (by omega) (by omega) (by omega))
  have c95 := Lib.hid (fun w => up_any (h * 10000) v w (by omega) (by omega) (by omega) (by omega))
  have e1 : IntKind.i64.wrap (l * 10000) = l * 10000 := IntWalk.i64_in _ (by omega)
  have e2 : IntKind.i64.wrap (h * 10000) = h * 10000 := IntWalk.i64_in _ (by omega)
  go_enter Tryz.func129, Tryz.ntmps129
  go_wp2
  go_region_held3 (fun w' => w'.cell? ⟨w.heap.size, 0, none⟩ = some (.int .i64 l) ∧ w'.cell? ⟨w.heap.size, 1, none⟩ = some (.int .i64 h)) (simp [go_sem, World.cell?_alloc_past])
    (first
      | (go_at_call 53; refine (c94.out _).mono ?_; rintro e w' ⟨rfl, rfl⟩)
      | (go_at_call 54; refine (c95.out _).mono ?_; rintro e w' ⟨rfl, rfl⟩))
  clear e1 e2
  go_wp2
  exact bodyPost_ret (v := .agg #[.int .i64 (l * 10000 / v), .int .i64 (cdiv (h * 10000) v)]) (by simp [results, Tryz.results129, go_sem]) rfl ⟨rfl, (((Below.refl _ _).alloc (Nat.le_refl _) _).alloc (by simp) _).drew⟩

set_option maxHeartbeats 1000000 in
theorem lengthBetween_any (a b c d : Int) (w : World) (a0 : -200000 ≤ a) (b0 : -200000 ≤ b) (c0 : -200000 ≤ c) (d0 : -200000 ≤ d) (a1 : a ≤ 200000) (b1 : b ≤ 200000) (c1 : c ≤ 200000) (d1 : d ≤ 200000) :
    Calls Tryz.prog 127 #[.agg #[.int .i64 a, .int .i64 b], .agg #[.int .i64 c, .int .i64 d]] w fun e w' => e = .returned (.agg #[.int .i64 (rt (sqL (c - a) (d - b))), .int .i64 (rtU (sqL (c - a) (d - b)))]) ∧ Below w.heap.size w w' := by
  have k1 := sq_nonneg (c - a)
  have k2 := sq_nonneg (d - b)
  have k := sqL_bounds (c - a) (d - b) (by omega) (by omega) (by omega) (by omega)
  have hq : sqL (c - a) (d - b) = 1000000 * ((c - a) * (c - a) + (d - b) * (d - b)) := rfl
  have HQ := Lib.hid hq
  have k3 : 1000000 * ((c - a) * (c - a) + (d - b) * (d - b)) ≤ 320000000000000000 := by omega
  clear hq
  by_cases hh : a = c
  · by_cases hh2 : b = d
    · subst hh hh2
      have hz : rt (sqL (a - a) (b - b)) = 0 ∧ rtU (sqL (a - a) (b - b)) = 0 := by
        rw [Int.sub_self, Int.sub_self]; decide +kernel
      have HZ := Lib.hid hz; clear hz
      go_enter Tryz.func127, Tryz.ntmps127
      go_wp2
      exact bodyPost_ret (v := .agg #[.int .i64 0, .int .i64 0]) (by simp [results, Tryz.results127, go_sem]) rfl ⟨by rw [HZ.out.1, HZ.out.2], (((Below.refl _ _).alloc (Nat.le_refl _) _).alloc (by simp) _).alloc (by simp; omega) _⟩
    · subst hh
      go_enter Tryz.func127, Tryz.ntmps127
      go_wp2
      go_quiet (fail)
      go_wp2_with (first | (go_at_call 133; refine (rootDown_any _ _ (by omega) (by omega)).mono ?_; rintro e w' ⟨rfl, rfl⟩) | (go_at_call 134; refine (rootUp_any _ _ (by omega) (by omega)).mono ?_; rintro e w' ⟨rfl, rfl⟩))
      exact bodyPost_ret (v := .agg #[.int .i64 (rt (sqL (a - a) (d - b))), .int .i64 (rtU (sqL (a - a) (d - b)))]) (by rw [HQ.out]; simp [results, Tryz.results127, go_sem]) rfl ⟨rfl, by repeat (first | exact Below.refl _ _ | refine Below.drew ?_ | refine below_drewN ?_ _ | refine Below.alloc ?_ (by first | omega | (simp; done) | (simp; omega)) _ | refine Below.setCell ?_ (by first | omega | (simp; done) | (simp; omega)) _)⟩
  · have hh' : (a == c) = false := by simpa using hh
    go_enter Tryz.func127, Tryz.ntmps127
    go_wp2
    go_quiet (fail)
    go_wp2_with (first | (go_at_call 133; refine (rootDown_any _ _ (by omega) (by omega)).mono ?_; rintro e w' ⟨rfl, rfl⟩) | (go_at_call 134; refine (rootUp_any _ _ (by omega) (by omega)).mono ?_; rintro e w' ⟨rfl, rfl⟩))
    exact bodyPost_ret (v := .agg #[.int .i64 (rt (sqL (c - a) (d - b))), .int .i64 (rtU (sqL (c - a) (d - b)))]) (by rw [HQ.out]; simp [results, Tryz.results127, go_sem]) rfl ⟨rfl, by repeat (first | exact Below.refl _ _ | refine Below.drew ?_ | refine below_drewN ?_ _ | refine Below.alloc ?_ (by first | omega | (simp; done) | (simp; omega)) _ | refine Below.setCell ?_ (by first | omega | (simp; done) | (simp; omega)) _)⟩

/-! the reference's root -/
def RootInv (n r q : Int) : Prop := 0 ≤ r ∧ r * r ≤ n ∧ ((q = 0 ∧ n < (r + 1) * (r + 1)) ∨ (1 ≤ q ∧ q ≤ 1073741824 ∧ n < (r + 2 * q) * (r + 2 * q) ∧ ∃ i : Nat, q = 2 ^ i))
theorem root_next (n r q s : Int) (h : RootInv n r q) (hq : 1 ≤ q) (hs : s = if (r + q) * (r + q) ≤ n then r + q else r) : RootInv n s (q / 2) := by
  obtain ⟨a, b, ⟨c, d⟩ | ⟨c, d, e, i, f⟩⟩ := h
  · omega
  · have g : 0 ≤ s ∧ s * s ≤ n ∧ n < (s + q) * (s + q) := by
      subst hs
      split
      · refine ⟨by omega, by assumption, ?_⟩
        rw [show r + q + q = r + 2 * q by omega]; exact e
      · exact ⟨a, b, by omega⟩
    refine ⟨g.1, g.2.1, ?_⟩
    cases i with
    | zero =>
      have : q = 1 := by simpa using f
      subst this
      exact .inl ⟨by omega, g.2.2⟩
    | succ j =>
      have e2 : q = 2 * 2 ^ j := by rw [f, Int.pow_succ, Int.mul_comm]
      have p : (0 : Int) < 2 ^ j := Int.pow_pos (by omega)
      refine .inr ⟨by omega, by omega, ?_, j, by omega⟩
      rw [show s + 2 * (q / 2) = s + q by omega]; exact g.2.2
set_option maxRecDepth 100000 in
set_option maxHeartbeats 1000000 in
theorem cmpOr_any (b : Nat) (l : List Int) (w : World) (hl : l.length ≤ 20)
    (hc : ∀ i, i < l.length → w.cell? ⟨b, i, none⟩ = some (.int .i64 (l.getD i 0))) :
    Calls Tryz.prog 136 #[.slice (some ⟨b, 0, none⟩) l.length l.length] w fun e w' => e = .returned (.int .i64 (fst l)) ∧ w = w' := by
  go_enter Tryz.func136, Tryz.ntmps136
  go_wp2
  go_loop [8] (fun i => ∃ k : Nat, k ≤ l.length ∧ i = .int .i64 k ∧ fst (l.drop k) = fst l) (fun i => l.length - (intOf i).toNat)
  case atStart => exact ⟨0, Nat.zero_le _, rfl, by simp⟩
  case round =>
    obtain ⟨k, hk, rfl, hf⟩ := hrel
    by_cases hlt : k < l.length
    · have hcell := hc k hlt
      have hd := fst_drop l k hlt
      rw [hf] at hd
      have HD : Hid (fst l = if l.getD k 0 = 0 then fst (l.drop (k + 1)) else l.getD k 0) := hd
      clear hd hf hc
      generalize l.getD k 0 = x at *
      by_cases hx : x = 0
      · subst hx
        go_wp2
        go_round
        case rel => exact ⟨k + 1, by omega, by go_num, by rw [HD.out]; simp⟩
        case measure => simp [intOf]; omega
      · have hx' : (x != 0) = true := by simpa using hx
        go_wp2
        go_ret
        exact ⟨by rw [HD.out, if_neg hx]; rfl, rfl⟩
    · have he : k = l.length := by omega
      have HF := Lib.hid hf
      clear hf
      go_wp2
      go_ret
      exact ⟨by rw [← HF.out, he]; simp [fst], rfl⟩

theorem mulHL_any (a b : Int) (w : World) (a0 : 0 ≤ a) (b0 : 0 ≤ b) (a1 : a ≤ 9223372036854775807) (b1 : b ≤ 9223372036854775807) :
    Calls Tryz.prog 135 #[.int .u64 a, .int .u64 b] w fun e w' => e = .returned (.tuple #[.int .u64 (a * b / 18446744073709551616), .int .u64 (a * b % 18446744073709551616)]) ∧ w = w' := by
  obtain ⟨x, rfl⟩ := Int.eq_ofNat_of_zero_le a0
  obtain ⟨y, rfl⟩ := Int.eq_ofNat_of_zero_le b0
  have e1 : ((x * y / 18446744073709551616 : Nat) : Int) = (x : Int) * y / 18446744073709551616 := by omega
  have e2 : ((x * y % 18446744073709551616 : Nat) : Int) = (x : Int) * y % 18446744073709551616 := by omega
  have hm := mul64_any x y (by omega) (by omega) w
  rw [e1, e2] at hm
  exact hm
theorem wide_sg (X Y : Int) : fst [sg (X / 18446744073709551616) (Y / 18446744073709551616), sg (X % 18446744073709551616) (Y % 18446744073709551616)] = sg X Y := by
  have h1 := sg_cases (X / 18446744073709551616) (Y / 18446744073709551616)
  have h2 := sg_cases (X % 18446744073709551616) (Y % 18446744073709551616)
  have h3 := sg_cases X Y
  simp only [fst]
  split
  · split <;> omega
  · omega
set_option maxRecDepth 100000 in
set_option maxHeartbeats 1000000 in
theorem compareProducts_any (a b c d : Int) (w : World) (a0 : 0 ≤ a) (b0 : 0 ≤ b) (c0 : 0 ≤ c) (d0 : 0 ≤ d) (a1 : a ≤ 9223372036854775807) (b1 : b ≤ 9223372036854775807) (c1 : c ≤ 9223372036854775807) (d1 : d ≤ 9223372036854775807) :
    Calls Tryz.prog 132 #[.int .i64 a, .int .i64 b, .int .i64 c, .int .i64 d] w fun e w' => e = .returned (.int .i64 (sg (a * b) (c * d))) ∧ Below w.heap.size w w' := by
  have HM1 := Lib.hid (fun w => mulHL_any a b w a0 b0 a1 b1)
  have HM2 := Lib.hid (fun w => mulHL_any c d w c0 d0 c1 d1)
  rw [← wide_sg]
  obtain ⟨x, rfl⟩ := Int.eq_ofNat_of_zero_le a0
  obtain ⟨y, rfl⟩ := Int.eq_ofNat_of_zero_le b0
  obtain ⟨z, rfl⟩ := Int.eq_ofNat_of_zero_le c0
  obtain ⟨u, rfl⟩ := Int.eq_ofNat_of_zero_le d0
  generalize (x : Int) * y / 18446744073709551616 = p1 at *
  generalize (x : Int) * y % 18446744073709551616 = p2 at *
  generalize (z : Int) * u / 18446744073709551616 = p3 at *
  generalize (z : Int) * u % 18446744073709551616 = p4 at *
  go_enter Tryz.func132, Tryz.ntmps132
  go_wp2_with (first | (go_at_call 135; (with_reducible refine (HM1.out _).mono ?_); rintro e w1 ⟨rfl, rfl⟩) | (go_at_call 135; (with_reducible refine (HM2.out _).mono ?_); rintro e w1 ⟨rfl, rfl⟩) | (go_at_call 137; refine (compareU_any _ _ _).mono ?_; rintro e w' ⟨rfl, rfl⟩) | (go_at_call 136; refine (cmpOr_any _ [sg p1 p3, sg p2 p4] _ (by simp) (by first | exact cells_drew _ _ (by simp) _ _ | exact cells_new _ _ (by simp) _ _)).mono ?_; rintro e w' ⟨rfl, rfl⟩))
  go_ret
  exact ⟨rfl, (by repeat (first | exact Below.refl _ _ | refine Below.drew ?_ | refine below_drewN ?_ _ | refine Below.setCell ?_ (by first | omega | (simp; done) | (simp; omega)) _ | refine Below.alloc ?_ (by first | omega | (simp; done) | (simp; omega)) _))⟩
end Go.Proofs.YtnckfbejgkdhhaaGreatDoor
