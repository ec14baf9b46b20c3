/- RaySteep: the walk -/
import Derived.Test.YtdicndakelgoeaaS1
import Derived.Test.YtdicndakelgoeaaC4
namespace Go.Proofs.Ytdicndakelgoeaa
open Go.RowKit RayM
set_option linter.unusedSimpArgs false
set_option linter.unusedVariables false
structure SwOk (p b n d m k : Int) : Prop where
  p0 : 0 ≤ p
  p1 : p ≤ 1000
  b0 : 1 ≤ b
  b1 : b ≤ 1000
  n0 : 0 ≤ n
  n1 : n ≤ 1000000000
  d0 : 1 ≤ d
  d1 : d ≤ 1000000000
  m0 : 0 ≤ m
  m1 : m ≤ 1000000000
  k0 : 1 ≤ k
  k1 : k ≤ 1000000000
structure SwF (p b n d m k : Int) : Prop where
  f1 : 0 ≤ n * k ∧ n * k ≤ 1000000000000000000
  f2 : 0 ≤ m * d ∧ m * d ≤ 1000000000000000000
  f3 : 0 ≤ n * b ∧ n * b ≤ 1000000000000
  f4 : 0 ≤ p * d ∧ p * d ≤ 1000000000000
  f5 : 0 ≤ p * k ∧ p * k ≤ 1000000000000
  f6 : 0 ≤ m * b ∧ m * b ≤ 1000000000000
theorem sw_f {p b n d m k : Int} (o : SwOk p b n d m k) : SwF p b n d m k := by
  obtain ⟨p0, p1, b0, b1, n0, n1, d0, d1, m0, m1, k0, k1⟩ := o
  have a1 := mul_in n k 0 1000000000 1 1000000000 (by omega) (by omega) n0 n1 k0 k1
  have a2 := mul_in m d 0 1000000000 1 1000000000 (by omega) (by omega) m0 m1 d0 d1
  have a3 := mul_in n b 0 1000000000 1 1000 (by omega) (by omega) n0 n1 b0 b1
  have a4 := mul_in p d 0 1000 1 1000000000 (by omega) (by omega) p0 p1 d0 d1
  have a5 := mul_in p k 0 1000 1 1000000000 (by omega) (by omega) p0 p1 k0 k1
  have a6 := mul_in m b 0 1000000000 1 1000 (by omega) (by omega) m0 m1 b0 b1
  exact ⟨by omega, by omega, by omega, by omega, by omega, by omega⟩
set_option maxRecDepth 100000 in
set_option maxHeartbeats 1000000 in
theorem sw_bad (a b n d m k : Int) (in0 : I64 n) (id0 : I64 d) (im0 : I64 m) (ik0 : I64 k) (r : Int) (hr : r ≠ 0) (he : fst [dirE a b, stE n d, stE m k] = r) (w : World) :
    Calls Try.prog 75 #[.agg #[.int .i64 a, .int .i64 b], .agg #[.int .i64 n, .int .i64 d], .agg #[.int .i64 m, .int .i64 k]] w fun e w' => e = .returned (.tuple #[.bool false, .int .i64 r]) ∧ Below w.heap.size w w' := by
  have h2 : (r != 0) = true := by simpa using hr
  have HE := Lib.hid he; clear he hr
  have T1 := Lib.hid (fun w => steepError_any n d in0 id0 w)
  have T2 := Lib.hid (fun w => steepError_any m k im0 ik0 w)
  clear in0 id0 im0 ik0
  go_enter Try.func75, Try.ntmps75
  go_wp2
  have hS : Below w.heap.size w (((w.alloc (.cells #[.int .i64 a, .int .i64 b] 96)).alloc (.cells #[.int .i64 n, .int .i64 d] 98)).alloc (.cells #[.int .i64 m, .int .i64 k] 98)) := (by repeat (first | exact Below.refl _ _ | refine Below.drew ?_ | refine below_drewN ?_ _ | refine Below.setCell ?_ (by first | omega | (simp; done) | (simp; omega)) _ | refine Below.alloc ?_ (by first | omega | (simp; done) | (simp; omega)) _))
  go_region_held3 (fun w' => w'.cell? ⟨w.heap.size, 0, none⟩ = some (.int .i64 a) ∧ w'.cell? ⟨w.heap.size, 1, none⟩ = some (.int .i64 b) ∧ w'.cell? ⟨w.heap.size + 1, 0, none⟩ = some (.int .i64 n) ∧ w'.cell? ⟨w.heap.size + 1, 1, none⟩ = some (.int .i64 d) ∧ w'.cell? ⟨w.heap.size + 1 + 1, 0, none⟩ = some (.int .i64 m) ∧ w'.cell? ⟨w.heap.size + 1 + 1, 1, none⟩ = some (.int .i64 k) ∧ Below w.heap.size w w') ((go_split_ands; (repeat' apply And.intro) <;> first | (with_reducible assumption) | exact cell_later (by assumption) (by assumption) | exact frozen_after (by assumption) (by assumption) (by assumption) | exact below_then (by assumption) (by assumption) | exact below_alloc_top (by assumption) _ | exact cell_alloc_later (by assumption) _ | exact frozen_alloc_later (by assumption) (by assumption) _ | exact Below.drew (by assumption) | (simp [go_sem, World.cell?_alloc_past, *]; done)))
    (first
      | (go_at_call 124; refine (directionError_any _ _ _).mono ?_; rintro e w' ⟨rfl, hb⟩)
      | (go_at_call 128; (with_reducible refine (T1.out _).mono ?_); rintro e w' ⟨rfl, hb⟩)
      | (go_at_call 128; (with_reducible refine (T2.out _).mono ?_); rintro e w' ⟨rfl, hb⟩)
      | (go_at_call 93; refine (firstError_any _ [dirE a b, stE n d, stE m k] _ (by simp) (by first | exact cells_drew _ _ (by simp) _ _ | exact cells_new _ _ (by simp) _ _)).mono ?_; rintro e w' ⟨rfl, rfl⟩))
  go_split_ands
  rw [HE.out]
  go_wp2
  go_ret2
  exact ⟨by first | rfl | (simp [*]; done), by first | (with_reducible assumption) | (with_reducible exact Below.drew (by assumption)) | (with_reducible exact below_alloc_top (by assumption) _) | (with_reducible exact Below.drew (below_alloc_top (by assumption) _))⟩
set_option maxRecDepth 100000 in
set_option maxHeartbeats 1000000 in
theorem sw_order (a b n d m k : Int) (in0 : I64 n) (id0 : I64 d) (im0 : I64 m) (ik0 : I64 k) (o : SwOk (a.natAbs : Int) b n d m k) (he : fst [dirE a b, stE n d, stE m k] = 0) (hk : m * d < n * k) (w : World) :
    Calls Try.prog 75 #[.agg #[.int .i64 a, .int .i64 b], .agg #[.int .i64 n, .int .i64 d], .agg #[.int .i64 m, .int .i64 k]] w fun e w' => e = .returned (.tuple #[.bool false, .int .i64 9]) ∧ Below w.heap.size w w' := by
  have HE := Lib.hid he; clear he
  obtain ⟨⟨f1, f2⟩, ⟨f3, f4⟩, ⟨f5, f6⟩, ⟨f7, f8⟩, ⟨f9, f10⟩, ⟨f11, f12⟩⟩ := sw_f o
  have HZ := Lib.hid (fun w => sizeOf_any a w (by have := o.p1; omega) (by have := o.p1; omega))
  have hp0 := o.p0; have hp1 := o.p1
  clear o
  generalize (a.natAbs : Int) = p at *
  have T1 := Lib.hid (fun w => steepError_any n d in0 id0 w)
  have T2 := Lib.hid (fun w => steepError_any m k im0 ik0 w)
  clear in0 id0 im0 ik0
  go_enter Try.func75, Try.ntmps75
  go_wp2
  have hS : Below w.heap.size w (((w.alloc (.cells #[.int .i64 a, .int .i64 b] 96)).alloc (.cells #[.int .i64 n, .int .i64 d] 98)).alloc (.cells #[.int .i64 m, .int .i64 k] 98)) := (by repeat (first | exact Below.refl _ _ | refine Below.drew ?_ | refine below_drewN ?_ _ | refine Below.setCell ?_ (by first | omega | (simp; done) | (simp; omega)) _ | refine Below.alloc ?_ (by first | omega | (simp; done) | (simp; omega)) _))
  go_region_held3 (fun w' => w'.cell? ⟨w.heap.size, 0, none⟩ = some (.int .i64 a) ∧ w'.cell? ⟨w.heap.size, 1, none⟩ = some (.int .i64 b) ∧ w'.cell? ⟨w.heap.size + 1, 0, none⟩ = some (.int .i64 n) ∧ w'.cell? ⟨w.heap.size + 1, 1, none⟩ = some (.int .i64 d) ∧ w'.cell? ⟨w.heap.size + 1 + 1, 0, none⟩ = some (.int .i64 m) ∧ w'.cell? ⟨w.heap.size + 1 + 1, 1, none⟩ = some (.int .i64 k) ∧ Below w.heap.size w w') ((go_split_ands; (repeat' apply And.intro) <;> first | (with_reducible assumption) | exact cell_later (by assumption) (by assumption) | exact frozen_after (by assumption) (by assumption) (by assumption) | exact below_then (by assumption) (by assumption) | exact below_alloc_top (by assumption) _ | exact cell_alloc_later (by assumption) _ | exact frozen_alloc_later (by assumption) (by assumption) _ | exact Below.drew (by assumption) | (simp [go_sem, World.cell?_alloc_past, *]; done)))
    (first
      | (go_at_call 124; refine (directionError_any _ _ _).mono ?_; rintro e w' ⟨rfl, hb⟩)
      | (go_at_call 128; (with_reducible refine (T1.out _).mono ?_); rintro e w' ⟨rfl, hb⟩)
      | (go_at_call 128; (with_reducible refine (T2.out _).mono ?_); rintro e w' ⟨rfl, hb⟩)
      | (go_at_call 93; refine (firstError_any _ [dirE a b, stE n d, stE m k] _ (by simp) (by first | exact cells_drew _ _ (by simp) _ _ | exact cells_new _ _ (by simp) _ _)).mono ?_; rintro e w' ⟨rfl, rfl⟩))
  go_split_ands
  rw [HE.out]
  go_wp2
  go_ret2
  exact ⟨by first | rfl | (simp [*]; done), by first | (with_reducible assumption) | (with_reducible exact Below.drew (by assumption)) | (with_reducible exact below_alloc_top (by assumption) _) | (with_reducible exact Below.drew (below_alloc_top (by assumption) _))⟩
set_option maxRecDepth 100000 in
set_option maxHeartbeats 1000000 in
theorem sw_n (a b n d m k : Int) (in0 : I64 n) (id0 : I64 d) (im0 : I64 m) (ik0 : I64 k) (o : SwOk (a.natAbs : Int) b n d m k) (he : fst [dirE a b, stE n d, stE m k] = 0) (hk : ¬ m * d < n * k) (c1 : ¬ n * b ≤ a.natAbs * d) (w : World) :
    Calls Try.prog 75 #[.agg #[.int .i64 a, .int .i64 b], .agg #[.int .i64 n, .int .i64 d], .agg #[.int .i64 m, .int .i64 k]] w fun e w' => e = .returned (.tuple #[.bool false, .int .i64 0]) ∧ Below w.heap.size w w' := by
  have HE := Lib.hid he; clear he
  obtain ⟨⟨f1, f2⟩, ⟨f3, f4⟩, ⟨f5, f6⟩, ⟨f7, f8⟩, ⟨f9, f10⟩, ⟨f11, f12⟩⟩ := sw_f o
  have HZ := Lib.hid (fun w => sizeOf_any a w (by have := o.p1; omega) (by have := o.p1; omega))
  have hp0 := o.p0; have hp1 := o.p1
  clear o
  generalize (a.natAbs : Int) = p at *
  have T1 := Lib.hid (fun w => steepError_any n d in0 id0 w)
  have T2 := Lib.hid (fun w => steepError_any m k im0 ik0 w)
  clear in0 id0 im0 ik0
  go_enter Try.func75, Try.ntmps75
  go_wp2
  have hS : Below w.heap.size w (((w.alloc (.cells #[.int .i64 a, .int .i64 b] 96)).alloc (.cells #[.int .i64 n, .int .i64 d] 98)).alloc (.cells #[.int .i64 m, .int .i64 k] 98)) := (by repeat (first | exact Below.refl _ _ | refine Below.drew ?_ | refine below_drewN ?_ _ | refine Below.setCell ?_ (by first | omega | (simp; done) | (simp; omega)) _ | refine Below.alloc ?_ (by first | omega | (simp; done) | (simp; omega)) _))
  go_region_held3 (fun w' => w'.cell? ⟨w.heap.size, 0, none⟩ = some (.int .i64 a) ∧ w'.cell? ⟨w.heap.size, 1, none⟩ = some (.int .i64 b) ∧ w'.cell? ⟨w.heap.size + 1, 0, none⟩ = some (.int .i64 n) ∧ w'.cell? ⟨w.heap.size + 1, 1, none⟩ = some (.int .i64 d) ∧ w'.cell? ⟨w.heap.size + 1 + 1, 0, none⟩ = some (.int .i64 m) ∧ w'.cell? ⟨w.heap.size + 1 + 1, 1, none⟩ = some (.int .i64 k) ∧ Below w.heap.size w w') ((go_split_ands; (repeat' apply And.intro) <;> first | (with_reducible assumption) | exact cell_later (by assumption) (by assumption) | exact frozen_after (by assumption) (by assumption) (by assumption) | exact below_then (by assumption) (by assumption) | exact below_alloc_top (by assumption) _ | exact cell_alloc_later (by assumption) _ | exact frozen_alloc_later (by assumption) (by assumption) _ | exact Below.drew (by assumption) | (simp [go_sem, World.cell?_alloc_past, *]; done)))
    (first
      | (go_at_call 124; refine (directionError_any _ _ _).mono ?_; rintro e w' ⟨rfl, hb⟩)
      | (go_at_call 128; (with_reducible refine (T1.out _).mono ?_); rintro e w' ⟨rfl, hb⟩)
      | (go_at_call 128; (with_reducible refine (T2.out _).mono ?_); rintro e w' ⟨rfl, hb⟩)
      | (go_at_call 93; refine (firstError_any _ [dirE a b, stE n d, stE m k] _ (by simp) (by first | exact cells_drew _ _ (by simp) _ _ | exact cells_new _ _ (by simp) _ _)).mono ?_; rintro e w' ⟨rfl, rfl⟩))
  go_split_ands
  rw [HE.out]
  go_wp2
  go_region_held3 (fun w' => w'.cell? ⟨w.heap.size, 0, none⟩ = some (.int .i64 a) ∧ w'.cell? ⟨w.heap.size, 1, none⟩ = some (.int .i64 b) ∧ w'.cell? ⟨w.heap.size + 1, 0, none⟩ = some (.int .i64 n) ∧ w'.cell? ⟨w.heap.size + 1, 1, none⟩ = some (.int .i64 d) ∧ w'.cell? ⟨w.heap.size + 1 + 1, 0, none⟩ = some (.int .i64 m) ∧ w'.cell? ⟨w.heap.size + 1 + 1, 1, none⟩ = some (.int .i64 k) ∧ Below w.heap.size w w') ((go_split_ands; (repeat' apply And.intro) <;> first | (with_reducible assumption) | exact cell_later (by assumption) (by assumption) | exact frozen_after (by assumption) (by assumption) (by assumption) | exact below_then (by assumption) (by assumption) | exact below_alloc_top (by assumption) _ | exact cell_alloc_later (by assumption) _ | exact frozen_alloc_later (by assumption) (by assumption) _ | exact Below.drew (by assumption) | (simp [go_sem, World.cell?_alloc_past, *]; done)))
    (first
      | (go_at_call 129; (with_reducible refine (HZ.out _).mono ?_); rintro e w' ⟨rfl, rfl⟩))
  go_split_ands
  go_wp2
  go_ret2
  exact ⟨by first | rfl | (simp [*]; done), by first | (with_reducible assumption) | (with_reducible exact Below.drew (by assumption)) | (with_reducible exact below_alloc_top (by assumption) _) | (with_reducible exact Below.drew (below_alloc_top (by assumption) _))⟩
set_option maxRecDepth 100000 in
set_option maxHeartbeats 1000000 in
theorem sw_yn (a b n d m k : Int) (in0 : I64 n) (id0 : I64 d) (im0 : I64 m) (ik0 : I64 k) (o : SwOk (a.natAbs : Int) b n d m k) (he : fst [dirE a b, stE n d, stE m k] = 0) (hk : ¬ m * d < n * k) (c1 : n * b ≤ a.natAbs * d) (c2 : ¬ a.natAbs * k ≤ m * b) (w : World) :
    Calls Try.prog 75 #[.agg #[.int .i64 a, .int .i64 b], .agg #[.int .i64 n, .int .i64 d], .agg #[.int .i64 m, .int .i64 k]] w fun e w' => e = .returned (.tuple #[.bool false, .int .i64 0]) ∧ Below w.heap.size w w' := by
  have HE := Lib.hid he; clear he
  obtain ⟨⟨f1, f2⟩, ⟨f3, f4⟩, ⟨f5, f6⟩, ⟨f7, f8⟩, ⟨f9, f10⟩, ⟨f11, f12⟩⟩ := sw_f o
  have HZ := Lib.hid (fun w => sizeOf_any a w (by have := o.p1; omega) (by have := o.p1; omega))
  have hp0 := o.p0; have hp1 := o.p1
  clear o
  generalize (a.natAbs : Int) = p at *
  have T1 := Lib.hid (fun w => steepError_any n d in0 id0 w)
  have T2 := Lib.hid (fun w => steepError_any m k im0 ik0 w)
  clear in0 id0 im0 ik0
  go_enter Try.func75, Try.ntmps75
  go_wp2
  have hS : Below w.heap.size w (((w.alloc (.cells #[.int .i64 a, .int .i64 b] 96)).alloc (.cells #[.int .i64 n, .int .i64 d] 98)).alloc (.cells #[.int .i64 m, .int .i64 k] 98)) := (by repeat (first | exact Below.refl _ _ | refine Below.drew ?_ | refine below_drewN ?_ _ | refine Below.setCell ?_ (by first | omega | (simp; done) | (simp; omega)) _ | refine Below.alloc ?_ (by first | omega | (simp; done) | (simp; omega)) _))
  go_region_held3 (fun w' => w'.cell? ⟨w.heap.size, 0, none⟩ = some (.int .i64 a) ∧ w'.cell? ⟨w.heap.size, 1, none⟩ = some (.int .i64 b) ∧ w'.cell? ⟨w.heap.size + 1, 0, none⟩ = some (.int .i64 n) ∧ w'.cell? ⟨w.heap.size + 1, 1, none⟩ = some (.int .i64 d) ∧ w'.cell? ⟨w.heap.size + 1 + 1, 0, none⟩ = some (.int .i64 m) ∧ w'.cell? ⟨w.heap.size + 1 + 1, 1, none⟩ = some (.int .i64 k) ∧ Below w.heap.size w w') ((go_split_ands; (repeat' apply And.intro) <;> first | (with_reducible assumption) | exact cell_later (by assumption) (by assumption) | exact frozen_after (by assumption) (by assumption) (by assumption) | exact below_then (by assumption) (by assumption) | exact below_alloc_top (by assumption) _ | exact cell_alloc_later (by assumption) _ | exact frozen_alloc_later (by assumption) (by assumption) _ | exact Below.drew (by assumption) | (simp [go_sem, World.cell?_alloc_past, *]; done)))
    (first
      | (go_at_call 124; refine (directionError_any _ _ _).mono ?_; rintro e w' ⟨rfl, hb⟩)
      | (go_at_call 128; (with_reducible refine (T1.out _).mono ?_); rintro e w' ⟨rfl, hb⟩)
      | (go_at_call 128; (with_reducible refine (T2.out _).mono ?_); rintro e w' ⟨rfl, hb⟩)
      | (go_at_call 93; refine (firstError_any _ [dirE a b, stE n d, stE m k] _ (by simp) (by first | exact cells_drew _ _ (by simp) _ _ | exact cells_new _ _ (by simp) _ _)).mono ?_; rintro e w' ⟨rfl, rfl⟩))
  go_split_ands
  rw [HE.out]
  go_wp2
  go_region_held3 (fun w' => w'.cell? ⟨w.heap.size, 0, none⟩ = some (.int .i64 a) ∧ w'.cell? ⟨w.heap.size, 1, none⟩ = some (.int .i64 b) ∧ w'.cell? ⟨w.heap.size + 1, 0, none⟩ = some (.int .i64 n) ∧ w'.cell? ⟨w.heap.size + 1, 1, none⟩ = some (.int .i64 d) ∧ w'.cell? ⟨w.heap.size + 1 + 1, 0, none⟩ = some (.int .i64 m) ∧ w'.cell? ⟨w.heap.size + 1 + 1, 1, none⟩ = some (.int .i64 k) ∧ Below w.heap.size w w') ((go_split_ands; (repeat' apply And.intro) <;> first | (with_reducible assumption) | exact cell_later (by assumption) (by assumption) | exact frozen_after (by assumption) (by assumption) (by assumption) | exact below_then (by assumption) (by assumption) | exact below_alloc_top (by assumption) _ | exact cell_alloc_later (by assumption) _ | exact frozen_alloc_later (by assumption) (by assumption) _ | exact Below.drew (by assumption) | (simp [go_sem, World.cell?_alloc_past, *]; done)))
    (first
      | (go_at_call 129; (with_reducible refine (HZ.out _).mono ?_); rintro e w' ⟨rfl, rfl⟩))
  go_split_ands
  go_wp2
  go_ret2
  exact ⟨by first | rfl | (simp [*]; done), by first | (with_reducible assumption) | (with_reducible exact Below.drew (by assumption)) | (with_reducible exact below_alloc_top (by assumption) _) | (with_reducible exact Below.drew (below_alloc_top (by assumption) _))⟩
set_option maxRecDepth 100000 in
set_option maxHeartbeats 1000000 in
theorem sw_yy (a b n d m k : Int) (in0 : I64 n) (id0 : I64 d) (im0 : I64 m) (ik0 : I64 k) (o : SwOk (a.natAbs : Int) b n d m k) (he : fst [dirE a b, stE n d, stE m k] = 0) (hk : ¬ m * d < n * k) (c1 : n * b ≤ a.natAbs * d) (c2 : a.natAbs * k ≤ m * b) (w : World) :
    Calls Try.prog 75 #[.agg #[.int .i64 a, .int .i64 b], .agg #[.int .i64 n, .int .i64 d], .agg #[.int .i64 m, .int .i64 k]] w fun e w' => e = .returned (.tuple #[.bool true, .int .i64 0]) ∧ Below w.heap.size w w' := by
  have HE := Lib.hid he; clear he
  obtain ⟨⟨f1, f2⟩, ⟨f3, f4⟩, ⟨f5, f6⟩, ⟨f7, f8⟩, ⟨f9, f10⟩, ⟨f11, f12⟩⟩ := sw_f o
  have HZ := Lib.hid (fun w => sizeOf_any a w (by have := o.p1; omega) (by have := o.p1; omega))
  have hp0 := o.p0; have hp1 := o.p1
  clear o
  generalize (a.natAbs : Int) = p at *
  have T1 := Lib.hid (fun w => steepError_any n d in0 id0 w)
  have T2 := Lib.hid (fun w => steepError_any m k im0 ik0 w)
  clear in0 id0 im0 ik0
  go_enter Try.func75, Try.ntmps75
  go_wp2
  have hS : Below w.heap.size w (((w.alloc (.cells #[.int .i64 a, .int .i64 b] 96)).alloc (.cells #[.int .i64 n, .int .i64 d] 98)).alloc (.cells #[.int .i64 m, .int .i64 k] 98)) := (by repeat (first | exact Below.refl _ _ | refine Below.drew ?_ | refine below_drewN ?_ _ | refine Below.setCell ?_ (by first | omega | (simp; done) | (simp; omega)) _ | refine Below.alloc ?_ (by first | omega | (simp; done) | (simp; omega)) _))
  go_region_held3 (fun w' => w'.cell? ⟨w.heap.size, 0, none⟩ = some (.int .i64 a) ∧ w'.cell? ⟨w.heap.size, 1, none⟩ = some (.int .i64 b) ∧ w'.cell? ⟨w.heap.size + 1, 0, none⟩ = some (.int .i64 n) ∧ w'.cell? ⟨w.heap.size + 1, 1, none⟩ = some (.int .i64 d) ∧ w'.cell? ⟨w.heap.size + 1 + 1, 0, none⟩ = some (.int .i64 m) ∧ w'.cell? ⟨w.heap.size + 1 + 1, 1, none⟩ = some (.int .i64 k) ∧ Below w.heap.size w w') ((go_split_ands; (repeat' apply And.intro) <;> first | (with_reducible assumption) | exact cell_later (by assumption) (by assumption) | exact frozen_after (by assumption) (by assumption) (by assumption) | exact below_then (by assumption) (by assumption) | exact below_alloc_top (by assumption) _ | exact cell_alloc_later (by assumption) _ | exact frozen_alloc_later (by assumption) (by assumption) _ | exact Below.drew (by assumption) | (simp [go_sem, World.cell?_alloc_past, *]; done)))
    (first
      | (go_at_call 124; refine (directionError_any _ _ _).mono ?_; rintro e w' ⟨rfl, hb⟩)
      | (go_at_call 128; (with_reducible refine (T1.out _).mono ?_); rintro e w' ⟨rfl, hb⟩)
      | (go_at_call 128; (with_reducible refine (T2.out _).mono ?_); rintro e w' ⟨rfl, hb⟩)
      | (go_at_call 93; refine (firstError_any _ [dirE a b, stE n d, stE m k] _ (by simp) (by first | exact cells_drew _ _ (by simp) _ _ | exact cells_new _ _ (by simp) _ _)).mono ?_; rintro e w' ⟨rfl, rfl⟩))
  go_split_ands
  rw [HE.out]
  go_wp2
  go_region_held3 (fun w' => w'.cell? ⟨w.heap.size, 0, none⟩ = some (.int .i64 a) ∧ w'.cell? ⟨w.heap.size, 1, none⟩ = some (.int .i64 b) ∧ w'.cell? ⟨w.heap.size + 1, 0, none⟩ = some (.int .i64 n) ∧ w'.cell? ⟨w.heap.size + 1, 1, none⟩ = some (.int .i64 d) ∧ w'.cell? ⟨w.heap.size + 1 + 1, 0, none⟩ = some (.int .i64 m) ∧ w'.cell? ⟨w.heap.size + 1 + 1, 1, none⟩ = some (.int .i64 k) ∧ Below w.heap.size w w') ((go_split_ands; (repeat' apply And.intro) <;> first | (with_reducible assumption) | exact cell_later (by assumption) (by assumption) | exact frozen_after (by assumption) (by assumption) (by assumption) | exact below_then (by assumption) (by assumption) | exact below_alloc_top (by assumption) _ | exact cell_alloc_later (by assumption) _ | exact frozen_alloc_later (by assumption) (by assumption) _ | exact Below.drew (by assumption) | (simp [go_sem, World.cell?_alloc_past, *]; done)))
    (first
      | (go_at_call 129; (with_reducible refine (HZ.out _).mono ?_); rintro e w' ⟨rfl, rfl⟩))
  go_split_ands
  go_wp2
  go_ret2
  exact ⟨by first | rfl | (simp [*]; done), by first | (with_reducible assumption) | (with_reducible exact Below.drew (by assumption)) | (with_reducible exact below_alloc_top (by assumption) _) | (with_reducible exact Below.drew (below_alloc_top (by assumption) _))⟩
set_option maxRecDepth 100000 in
set_option maxHeartbeats 1000000 in
theorem rsw_bad (a b n d m k : Int) (in0 : I64 n) (id0 : I64 d) (im0 : I64 m) (ik0 : I64 k) (r : Int) (hr : r ≠ 0) (he : fst [stE n d, stE m k] = r) (w : World) :
    Calls Try.prog 76 #[.agg #[.int .i64 a, .int .i64 b], .agg #[.int .i64 n, .int .i64 d], .agg #[.int .i64 m, .int .i64 k]] w fun e w' => e = .returned (.tuple #[.bool false, .int .i64 r]) ∧ Below w.heap.size w w' := by
  have h2 : (r != 0) = true := by simpa using hr
  have HE := Lib.hid he; clear he hr
  have T1 := Lib.hid (fun w => limitErr_any n d in0 id0 w)
  have T2 := Lib.hid (fun w => limitErr_any m k im0 ik0 w)
  clear in0 id0 im0 ik0
  go_enter Try.func76, Try.ntmps76
  go_wp2
  have hS : Below w.heap.size w (((w.alloc (.cells #[.int .i64 a, .int .i64 b] 96)).alloc (.cells #[.int .i64 n, .int .i64 d] 98)).alloc (.cells #[.int .i64 m, .int .i64 k] 98)) := (by repeat (first | exact Below.refl _ _ | refine Below.drew ?_ | refine below_drewN ?_ _ | refine Below.setCell ?_ (by first | omega | (simp; done) | (simp; omega)) _ | refine Below.alloc ?_ (by first | omega | (simp; done) | (simp; omega)) _))
  go_region_held3 (fun w' => w'.cell? ⟨w.heap.size, 0, none⟩ = some (.int .i64 a) ∧ w'.cell? ⟨w.heap.size, 1, none⟩ = some (.int .i64 b) ∧ w'.cell? ⟨w.heap.size + 1, 0, none⟩ = some (.int .i64 n) ∧ w'.cell? ⟨w.heap.size + 1, 1, none⟩ = some (.int .i64 d) ∧ w'.cell? ⟨w.heap.size + 1 + 1, 0, none⟩ = some (.int .i64 m) ∧ w'.cell? ⟨w.heap.size + 1 + 1, 1, none⟩ = some (.int .i64 k) ∧ Below w.heap.size w w') ((go_split_ands; (repeat' apply And.intro) <;> first | (with_reducible assumption) | exact cell_later (by assumption) (by assumption) | exact frozen_after (by assumption) (by assumption) (by assumption) | exact below_then (by assumption) (by assumption) | exact below_alloc_top (by assumption) _ | exact cell_alloc_later (by assumption) _ | exact frozen_alloc_later (by assumption) (by assumption) _ | exact Below.drew (by assumption) | (simp [go_sem, World.cell?_alloc_past, *]; done)))
    (first
      | (go_at_call 130; (with_reducible refine (T1.out _).mono ?_); rintro e w' ⟨rfl, hb⟩)
      | (go_at_call 130; (with_reducible refine (T2.out _).mono ?_); rintro e w' ⟨rfl, hb⟩)
      | (go_at_call 105; refine (firstOf_any _ [stE n d, stE m k] _ (by simp) (by first | exact cells_drew _ _ (by simp) _ _ | exact cells_new _ _ (by simp) _ _)).mono ?_; rintro e w' ⟨rfl, rfl⟩))
  go_split_ands
  rw [HE.out]
  go_wp2
  go_ret2
  exact ⟨by first | rfl | (simp [*]; done), by first | (with_reducible assumption) | (with_reducible exact Below.drew (by assumption)) | (with_reducible exact below_alloc_top (by assumption) _) | (with_reducible exact Below.drew (below_alloc_top (by assumption) _))⟩
set_option maxRecDepth 100000 in
set_option maxHeartbeats 1000000 in
theorem rsw_order (a b n d m k : Int) (in0 : I64 n) (id0 : I64 d) (im0 : I64 m) (ik0 : I64 k) (o : SwOk (a.natAbs : Int) b n d m k) (he : fst [stE n d, stE m k] = 0) (hs : sg (n * k) (m * d) = 1) (w : World) :
    Calls Try.prog 76 #[.agg #[.int .i64 a, .int .i64 b], .agg #[.int .i64 n, .int .i64 d], .agg #[.int .i64 m, .int .i64 k]] w fun e w' => e = .returned (.tuple #[.bool false, .int .i64 9]) ∧ Below w.heap.size w w' := by
  have HE := Lib.hid he; clear he
  obtain ⟨⟨f1, f2⟩, ⟨f3, f4⟩, ⟨f5, f6⟩, ⟨f7, f8⟩, ⟨f9, f10⟩, ⟨f11, f12⟩⟩ := sw_f o
  have HZ := Lib.hid (fun w => sizeZ_any a w (by have := o.p1; omega) (by have := o.p1; omega))
  have HC := Lib.hid (fun w => cmp_any n d m k w f1 f2 f3 f4)
  rw [hs] at HC
  have hp0 := o.p0; have hp1 := o.p1
  clear o hs
  generalize (a.natAbs : Int) = p at *
  have T1 := Lib.hid (fun w => limitErr_any n d in0 id0 w)
  have T2 := Lib.hid (fun w => limitErr_any m k im0 ik0 w)
  clear in0 id0 im0 ik0
  go_enter Try.func76, Try.ntmps76
  go_wp2
  have hS : Below w.heap.size w (((w.alloc (.cells #[.int .i64 a, .int .i64 b] 96)).alloc (.cells #[.int .i64 n, .int .i64 d] 98)).alloc (.cells #[.int .i64 m, .int .i64 k] 98)) := (by repeat (first | exact Below.refl _ _ | refine Below.drew ?_ | refine below_drewN ?_ _ | refine Below.setCell ?_ (by first | omega | (simp; done) | (simp; omega)) _ | refine Below.alloc ?_ (by first | omega | (simp; done) | (simp; omega)) _))
  go_region_held3 (fun w' => w'.cell? ⟨w.heap.size, 0, none⟩ = some (.int .i64 a) ∧ w'.cell? ⟨w.heap.size, 1, none⟩ = some (.int .i64 b) ∧ w'.cell? ⟨w.heap.size + 1, 0, none⟩ = some (.int .i64 n) ∧ w'.cell? ⟨w.heap.size + 1, 1, none⟩ = some (.int .i64 d) ∧ w'.cell? ⟨w.heap.size + 1 + 1, 0, none⟩ = some (.int .i64 m) ∧ w'.cell? ⟨w.heap.size + 1 + 1, 1, none⟩ = some (.int .i64 k) ∧ Below w.heap.size w w') ((go_split_ands; (repeat' apply And.intro) <;> first | (with_reducible assumption) | exact cell_later (by assumption) (by assumption) | exact frozen_after (by assumption) (by assumption) (by assumption) | exact below_then (by assumption) (by assumption) | exact below_alloc_top (by assumption) _ | exact cell_alloc_later (by assumption) _ | exact frozen_alloc_later (by assumption) (by assumption) _ | exact Below.drew (by assumption) | (simp [go_sem, World.cell?_alloc_past, *]; done)))
    (first
      | (go_at_call 130; (with_reducible refine (T1.out _).mono ?_); rintro e w' ⟨rfl, hb⟩)
      | (go_at_call 130; (with_reducible refine (T2.out _).mono ?_); rintro e w' ⟨rfl, hb⟩)
      | (go_at_call 105; refine (firstOf_any _ [stE n d, stE m k] _ (by simp) (by first | exact cells_drew _ _ (by simp) _ _ | exact cells_new _ _ (by simp) _ _)).mono ?_; rintro e w' ⟨rfl, rfl⟩))
  go_split_ands
  rw [HE.out]
  go_wp2_with fail
  refine (HC.out _).mono ?_
  rintro e wc ⟨rfl, hbc⟩
  have HBc : Hid (Below w.heap.size w wc) := Lib.hid (below_then (by first | (with_reducible assumption) | (with_reducible exact below_alloc_top (by assumption) _) | (with_reducible exact Below.drew (by assumption)) | (with_reducible exact Below.drew (below_alloc_top (by assumption) _))) hbc)
  have qc0 : wc.cell? ⟨w.heap.size, 0, none⟩ = some (.int .i64 a) := cell_later hbc (by first | (with_reducible assumption) | (simp [go_sem, World.cell?_alloc_past, *]; done))
  have qc1 : wc.cell? ⟨w.heap.size, 1, none⟩ = some (.int .i64 b) := cell_later hbc (by first | (with_reducible assumption) | (simp [go_sem, World.cell?_alloc_past, *]; done))
  have qc2 : wc.cell? ⟨w.heap.size + 1, 0, none⟩ = some (.int .i64 n) := cell_later hbc (by first | (with_reducible assumption) | (simp [go_sem, World.cell?_alloc_past, *]; done))
  have qc3 : wc.cell? ⟨w.heap.size + 1, 1, none⟩ = some (.int .i64 d) := cell_later hbc (by first | (with_reducible assumption) | (simp [go_sem, World.cell?_alloc_past, *]; done))
  have qc4 : wc.cell? ⟨w.heap.size + 1 + 1, 0, none⟩ = some (.int .i64 m) := cell_later hbc (by first | (with_reducible assumption) | (simp [go_sem, World.cell?_alloc_past, *]; done))
  have qc5 : wc.cell? ⟨w.heap.size + 1 + 1, 1, none⟩ = some (.int .i64 k) := cell_later hbc (by first | (with_reducible assumption) | (simp [go_sem, World.cell?_alloc_past, *]; done))
  clear hbc
  go_wp2
  go_ret2
  exact ⟨by first | rfl | (simp [*]; done), HBc.out⟩
set_option maxRecDepth 100000 in
set_option maxHeartbeats 1000000 in
theorem rsw_m_n (a b n d m k : Int) (in0 : I64 n) (id0 : I64 d) (im0 : I64 m) (ik0 : I64 k) (o : SwOk (a.natAbs : Int) b n d m k) (he : fst [stE n d, stE m k] = 0) (hs : sg (n * k) (m * d) = -1) (c1 : ¬ n * b ≤ a.natAbs * d) (w : World) :
    Calls Try.prog 76 #[.agg #[.int .i64 a, .int .i64 b], .agg #[.int .i64 n, .int .i64 d], .agg #[.int .i64 m, .int .i64 k]] w fun e w' => e = .returned (.tuple #[.bool false, .int .i64 0]) ∧ Below w.heap.size w w' := by
  have HE := Lib.hid he; clear he
  obtain ⟨⟨f1, f2⟩, ⟨f3, f4⟩, ⟨f5, f6⟩, ⟨f7, f8⟩, ⟨f9, f10⟩, ⟨f11, f12⟩⟩ := sw_f o
  have HZ := Lib.hid (fun w => sizeZ_any a w (by have := o.p1; omega) (by have := o.p1; omega))
  have HC := Lib.hid (fun w => cmp_any n d m k w f1 f2 f3 f4)
  rw [hs] at HC
  have hp0 := o.p0; have hp1 := o.p1
  clear o hs
  generalize (a.natAbs : Int) = p at *
  have T1 := Lib.hid (fun w => limitErr_any n d in0 id0 w)
  have T2 := Lib.hid (fun w => limitErr_any m k im0 ik0 w)
  clear in0 id0 im0 ik0
  go_enter Try.func76, Try.ntmps76
  go_wp2
  have hS : Below w.heap.size w (((w.alloc (.cells #[.int .i64 a, .int .i64 b] 96)).alloc (.cells #[.int .i64 n, .int .i64 d] 98)).alloc (.cells #[.int .i64 m, .int .i64 k] 98)) := (by repeat (first | exact Below.refl _ _ | refine Below.drew ?_ | refine below_drewN ?_ _ | refine Below.setCell ?_ (by first | omega | (simp; done) | (simp; omega)) _ | refine Below.alloc ?_ (by first | omega | (simp; done) | (simp; omega)) _))
  go_region_held3 (fun w' => w'.cell? ⟨w.heap.size, 0, none⟩ = some (.int .i64 a) ∧ w'.cell? ⟨w.heap.size, 1, none⟩ = some (.int .i64 b) ∧ w'.cell? ⟨w.heap.size + 1, 0, none⟩ = some (.int .i64 n) ∧ w'.cell? ⟨w.heap.size + 1, 1, none⟩ = some (.int .i64 d) ∧ w'.cell? ⟨w.heap.size + 1 + 1, 0, none⟩ = some (.int .i64 m) ∧ w'.cell? ⟨w.heap.size + 1 + 1, 1, none⟩ = some (.int .i64 k) ∧ Below w.heap.size w w') ((go_split_ands; (repeat' apply And.intro) <;> first | (with_reducible assumption) | exact cell_later (by assumption) (by assumption) | exact frozen_after (by assumption) (by assumption) (by assumption) | exact below_then (by assumption) (by assumption) | exact below_alloc_top (by assumption) _ | exact cell_alloc_later (by assumption) _ | exact frozen_alloc_later (by assumption) (by assumption) _ | exact Below.drew (by assumption) | (simp [go_sem, World.cell?_alloc_past, *]; done)))
    (first
      | (go_at_call 130; (with_reducible refine (T1.out _).mono ?_); rintro e w' ⟨rfl, hb⟩)
      | (go_at_call 130; (with_reducible refine (T2.out _).mono ?_); rintro e w' ⟨rfl, hb⟩)
      | (go_at_call 105; refine (firstOf_any _ [stE n d, stE m k] _ (by simp) (by first | exact cells_drew _ _ (by simp) _ _ | exact cells_new _ _ (by simp) _ _)).mono ?_; rintro e w' ⟨rfl, rfl⟩))
  go_split_ands
  rw [HE.out]
  go_wp2_with fail
  refine (HC.out _).mono ?_
  rintro e wc ⟨rfl, hbc⟩
  have HBc : Hid (Below w.heap.size w wc) := Lib.hid (below_then (by first | (with_reducible assumption) | (with_reducible exact below_alloc_top (by assumption) _) | (with_reducible exact Below.drew (by assumption)) | (with_reducible exact Below.drew (below_alloc_top (by assumption) _))) hbc)
  have qc0 : wc.cell? ⟨w.heap.size, 0, none⟩ = some (.int .i64 a) := cell_later hbc (by first | (with_reducible assumption) | (simp [go_sem, World.cell?_alloc_past, *]; done))
  have qc1 : wc.cell? ⟨w.heap.size, 1, none⟩ = some (.int .i64 b) := cell_later hbc (by first | (with_reducible assumption) | (simp [go_sem, World.cell?_alloc_past, *]; done))
  have qc2 : wc.cell? ⟨w.heap.size + 1, 0, none⟩ = some (.int .i64 n) := cell_later hbc (by first | (with_reducible assumption) | (simp [go_sem, World.cell?_alloc_past, *]; done))
  have qc3 : wc.cell? ⟨w.heap.size + 1, 1, none⟩ = some (.int .i64 d) := cell_later hbc (by first | (with_reducible assumption) | (simp [go_sem, World.cell?_alloc_past, *]; done))
  have qc4 : wc.cell? ⟨w.heap.size + 1 + 1, 0, none⟩ = some (.int .i64 m) := cell_later hbc (by first | (with_reducible assumption) | (simp [go_sem, World.cell?_alloc_past, *]; done))
  have qc5 : wc.cell? ⟨w.heap.size + 1 + 1, 1, none⟩ = some (.int .i64 k) := cell_later hbc (by first | (with_reducible assumption) | (simp [go_sem, World.cell?_alloc_past, *]; done))
  clear hbc
  go_wp2_with (go_at_call 132; (with_reducible refine (HZ.out _).mono ?_); rintro e w' ⟨rfl, rfl⟩)
  go_ret2
  exact ⟨by first | rfl | (simp [*]; done), HBc.out⟩
set_option maxRecDepth 100000 in
set_option maxHeartbeats 1000000 in
theorem rsw_m_yn (a b n d m k : Int) (in0 : I64 n) (id0 : I64 d) (im0 : I64 m) (ik0 : I64 k) (o : SwOk (a.natAbs : Int) b n d m k) (he : fst [stE n d, stE m k] = 0) (hs : sg (n * k) (m * d) = -1) (c1 : n * b ≤ a.natAbs * d) (c2 : ¬ a.natAbs * k ≤ m * b) (w : World) :
    Calls Try.prog 76 #[.agg #[.int .i64 a, .int .i64 b], .agg #[.int .i64 n, .int .i64 d], .agg #[.int .i64 m, .int .i64 k]] w fun e w' => e = .returned (.tuple #[.bool false, .int .i64 0]) ∧ Below w.heap.size w w' := by
  have HE := Lib.hid he; clear he
  obtain ⟨⟨f1, f2⟩, ⟨f3, f4⟩, ⟨f5, f6⟩, ⟨f7, f8⟩, ⟨f9, f10⟩, ⟨f11, f12⟩⟩ := sw_f o
  have HZ := Lib.hid (fun w => sizeZ_any a w (by have := o.p1; omega) (by have := o.p1; omega))
  have HC := Lib.hid (fun w => cmp_any n d m k w f1 f2 f3 f4)
  rw [hs] at HC
  have hp0 := o.p0; have hp1 := o.p1
  clear o hs
  generalize (a.natAbs : Int) = p at *
  have T1 := Lib.hid (fun w => limitErr_any n d in0 id0 w)
  have T2 := Lib.hid (fun w => limitErr_any m k im0 ik0 w)
  clear in0 id0 im0 ik0
  go_enter Try.func76, Try.ntmps76
  go_wp2
  have hS : Below w.heap.size w (((w.alloc (.cells #[.int .i64 a, .int .i64 b] 96)).alloc (.cells #[.int .i64 n, .int .i64 d] 98)).alloc (.cells #[.int .i64 m, .int .i64 k] 98)) := (by repeat (first | exact Below.refl _ _ | refine Below.drew ?_ | refine below_drewN ?_ _ | refine Below.setCell ?_ (by first | omega | (simp; done) | (simp; omega)) _ | refine Below.alloc ?_ (by first | omega | (simp; done) | (simp; omega)) _))
  go_region_held3 (fun w' => w'.cell? ⟨w.heap.size, 0, none⟩ = some (.int .i64 a) ∧ w'.cell? ⟨w.heap.size, 1, none⟩ = some (.int .i64 b) ∧ w'.cell? ⟨w.heap.size + 1, 0, none⟩ = some (.int .i64 n) ∧ w'.cell? ⟨w.heap.size + 1, 1, none⟩ = some (.int .i64 d) ∧ w'.cell? ⟨w.heap.size + 1 + 1, 0, none⟩ = some (.int .i64 m) ∧ w'.cell? ⟨w.heap.size + 1 + 1, 1, none⟩ = some (.int .i64 k) ∧ Below w.heap.size w w') ((go_split_ands; (repeat' apply And.intro) <;> first | (with_reducible assumption) | exact cell_later (by assumption) (by assumption) | exact frozen_after (by assumption) (by assumption) (by assumption) | exact below_then (by assumption) (by assumption) | exact below_alloc_top (by assumption) _ | exact cell_alloc_later (by assumption) _ | exact frozen_alloc_later (by assumption) (by assumption) _ | exact Below.drew (by assumption) | (simp [go_sem, World.cell?_alloc_past, *]; done)))
    (first
      | (go_at_call 130; (with_reducible refine (T1.out _).mono ?_); rintro e w' ⟨rfl, hb⟩)
      | (go_at_call 130; (with_reducible refine (T2.out _).mono ?_); rintro e w' ⟨rfl, hb⟩)
      | (go_at_call 105; refine (firstOf_any _ [stE n d, stE m k] _ (by simp) (by first | exact cells_drew _ _ (by simp) _ _ | exact cells_new _ _ (by simp) _ _)).mono ?_; rintro e w' ⟨rfl, rfl⟩))
  go_split_ands
  rw [HE.out]
  go_wp2_with fail
  refine (HC.out _).mono ?_
  rintro e wc ⟨rfl, hbc⟩
  have HBc : Hid (Below w.heap.size w wc) := Lib.hid (below_then (by first | (with_reducible assumption) | (with_reducible exact below_alloc_top (by assumption) _) | (with_reducible exact Below.drew (by assumption)) | (with_reducible exact Below.drew (below_alloc_top (by assumption) _))) hbc)
  have qc0 : wc.cell? ⟨w.heap.size, 0, none⟩ = some (.int .i64 a) := cell_later hbc (by first | (with_reducible assumption) | (simp [go_sem, World.cell?_alloc_past, *]; done))
  have qc1 : wc.cell? ⟨w.heap.size, 1, none⟩ = some (.int .i64 b) := cell_later hbc (by first | (with_reducible assumption) | (simp [go_sem, World.cell?_alloc_past, *]; done))
  have qc2 : wc.cell? ⟨w.heap.size + 1, 0, none⟩ = some (.int .i64 n) := cell_later hbc (by first | (with_reducible assumption) | (simp [go_sem, World.cell?_alloc_past, *]; done))
  have qc3 : wc.cell? ⟨w.heap.size + 1, 1, none⟩ = some (.int .i64 d) := cell_later hbc (by first | (with_reducible assumption) | (simp [go_sem, World.cell?_alloc_past, *]; done))
  have qc4 : wc.cell? ⟨w.heap.size + 1 + 1, 0, none⟩ = some (.int .i64 m) := cell_later hbc (by first | (with_reducible assumption) | (simp [go_sem, World.cell?_alloc_past, *]; done))
  have qc5 : wc.cell? ⟨w.heap.size + 1 + 1, 1, none⟩ = some (.int .i64 k) := cell_later hbc (by first | (with_reducible assumption) | (simp [go_sem, World.cell?_alloc_past, *]; done))
  clear hbc
  go_wp2_with (go_at_call 132; (with_reducible refine (HZ.out _).mono ?_); rintro e w' ⟨rfl, rfl⟩)
  go_ret2
  exact ⟨by first | rfl | (simp [*]; done), HBc.out⟩
set_option maxRecDepth 100000 in
set_option maxHeartbeats 1000000 in
theorem rsw_m_yy (a b n d m k : Int) (in0 : I64 n) (id0 : I64 d) (im0 : I64 m) (ik0 : I64 k) (o : SwOk (a.natAbs : Int) b n d m k) (he : fst [stE n d, stE m k] = 0) (hs : sg (n * k) (m * d) = -1) (c1 : n * b ≤ a.natAbs * d) (c2 : a.natAbs * k ≤ m * b) (w : World) :
    Calls Try.prog 76 #[.agg #[.int .i64 a, .int .i64 b], .agg #[.int .i64 n, .int .i64 d], .agg #[.int .i64 m, .int .i64 k]] w fun e w' => e = .returned (.tuple #[.bool true, .int .i64 0]) ∧ Below w.heap.size w w' := by
  have HE := Lib.hid he; clear he
  obtain ⟨⟨f1, f2⟩, ⟨f3, f4⟩, ⟨f5, f6⟩, ⟨f7, f8⟩, ⟨f9, f10⟩, ⟨f11, f12⟩⟩ := sw_f o
  have HZ := Lib.hid (fun w => sizeZ_any a w (by have := o.p1; omega) (by have := o.p1; omega))
  have HC := Lib.hid (fun w => cmp_any n d m k w f1 f2 f3 f4)
  rw [hs] at HC
  have hp0 := o.p0; have hp1 := o.p1
  clear o hs
  generalize (a.natAbs : Int) = p at *
  have T1 := Lib.hid (fun w => limitErr_any n d in0 id0 w)
  have T2 := Lib.hid (fun w => limitErr_any m k im0 ik0 w)
  clear in0 id0 im0 ik0
  go_enter Try.func76, Try.ntmps76
  go_wp2
  have hS : Below w.heap.size w (((w.alloc (.cells #[.int .i64 a, .int .i64 b] 96)).alloc (.cells #[.int .i64 n, .int .i64 d] 98)).alloc (.cells #[.int .i64 m, .int .i64 k] 98)) := (by repeat (first | exact Below.refl _ _ | refine Below.drew ?_ | refine below_drewN ?_ _ | refine Below.setCell ?_ (by first | omega | (simp; done) | (simp; omega)) _ | refine Below.alloc ?_ (by first | omega | (simp; done) | (simp; omega)) _))
  go_region_held3 (fun w' => w'.cell? ⟨w.heap.size, 0, none⟩ = some (.int .i64 a) ∧ w'.cell? ⟨w.heap.size, 1, none⟩ = some (.int .i64 b) ∧ w'.cell? ⟨w.heap.size + 1, 0, none⟩ = some (.int .i64 n) ∧ w'.cell? ⟨w.heap.size + 1, 1, none⟩ = some (.int .i64 d) ∧ w'.cell? ⟨w.heap.size + 1 + 1, 0, none⟩ = some (.int .i64 m) ∧ w'.cell? ⟨w.heap.size + 1 + 1, 1, none⟩ = some (.int .i64 k) ∧ Below w.heap.size w w') ((go_split_ands; (repeat' apply And.intro) <;> first | (with_reducible assumption) | exact cell_later (by assumption) (by assumption) | exact frozen_after (by assumption) (by assumption) (by assumption) | exact below_then (by assumption) (by assumption) | exact below_alloc_top (by assumption) _ | exact cell_alloc_later (by assumption) _ | exact frozen_alloc_later (by assumption) (by assumption) _ | exact Below.drew (by assumption) | (simp [go_sem, World.cell?_alloc_past, *]; done)))
    (first
      | (go_at_call 130; (with_reducible refine (T1.out _).mono ?_); rintro e w' ⟨rfl, hb⟩)
      | (go_at_call 130; (with_reducible refine (T2.out _).mono ?_); rintro e w' ⟨rfl, hb⟩)
      | (go_at_call 105; refine (firstOf_any _ [stE n d, stE m k] _ (by simp) (by first | exact cells_drew _ _ (by simp) _ _ | exact cells_new _ _ (by simp) _ _)).mono ?_; rintro e w' ⟨rfl, rfl⟩))
  go_split_ands
  rw [HE.out]
  go_wp2_with fail
  refine (HC.out _).mono ?_
  rintro e wc ⟨rfl, hbc⟩
  have HBc : Hid (Below w.heap.size w wc) := Lib.hid (below_then (by first | (with_reducible assumption) | (with_reducible exact below_alloc_top (by assumption) _) | (with_reducible exact Below.drew (by assumption)) | (with_reducible exact Below.drew (below_alloc_top (by assumption) _))) hbc)
  have qc0 : wc.cell? ⟨w.heap.size, 0, none⟩ = some (.int .i64 a) := cell_later hbc (by first | (with_reducible assumption) | (simp [go_sem, World.cell?_alloc_past, *]; done))
  have qc1 : wc.cell? ⟨w.heap.size, 1, none⟩ = some (.int .i64 b) := cell_later hbc (by first | (with_reducible assumption) | (simp [go_sem, World.cell?_alloc_past, *]; done))
  have qc2 : wc.cell? ⟨w.heap.size + 1, 0, none⟩ = some (.int .i64 n) := cell_later hbc (by first | (with_reducible assumption) | (simp [go_sem, World.cell?_alloc_past, *]; done))
  have qc3 : wc.cell? ⟨w.heap.size + 1, 1, none⟩ = some (.int .i64 d) := cell_later hbc (by first | (with_reducible assumption) | (simp [go_sem, World.cell?_alloc_past, *]; done))
  have qc4 : wc.cell? ⟨w.heap.size + 1 + 1, 0, none⟩ = some (.int .i64 m) := cell_later hbc (by first | (with_reducible assumption) | (simp [go_sem, World.cell?_alloc_past, *]; done))
  have qc5 : wc.cell? ⟨w.heap.size + 1 + 1, 1, none⟩ = some (.int .i64 k) := cell_later hbc (by first | (with_reducible assumption) | (simp [go_sem, World.cell?_alloc_past, *]; done))
  clear hbc
  go_wp2_with (go_at_call 132; (with_reducible refine (HZ.out _).mono ?_); rintro e w' ⟨rfl, rfl⟩)
  go_ret2
  exact ⟨by first | rfl | (simp [*]; done), HBc.out⟩
set_option maxRecDepth 100000 in
set_option maxHeartbeats 1000000 in
theorem rsw_z_n (a b n d m k : Int) (in0 : I64 n) (id0 : I64 d) (im0 : I64 m) (ik0 : I64 k) (o : SwOk (a.natAbs : Int) b n d m k) (he : fst [stE n d, stE m k] = 0) (hs : sg (n * k) (m * d) = 0) (c1 : ¬ n * b ≤ a.natAbs * d) (w : World) :
    Calls Try.prog 76 #[.agg #[.int .i64 a, .int .i64 b], .agg #[.int .i64 n, .int .i64 d], .agg #[.int .i64 m, .int .i64 k]] w fun e w' => e = .returned (.tuple #[.bool false, .int .i64 0]) ∧ Below w.heap.size w w' := by
  have HE := Lib.hid he; clear he
  obtain ⟨⟨f1, f2⟩, ⟨f3, f4⟩, ⟨f5, f6⟩, ⟨f7, f8⟩, ⟨f9, f10⟩, ⟨f11, f12⟩⟩ := sw_f o
  have HZ := Lib.hid (fun w => sizeZ_any a w (by have := o.p1; omega) (by have := o.p1; omega))
  have HC := Lib.hid (fun w => cmp_any n d m k w f1 f2 f3 f4)
  rw [hs] at HC
  have hp0 := o.p0; have hp1 := o.p1
  clear o hs
  generalize (a.natAbs : Int) = p at *
  have T1 := Lib.hid (fun w => limitErr_any n d in0 id0 w)
  have T2 := Lib.hid (fun w => limitErr_any m k im0 ik0 w)
  clear in0 id0 im0 ik0
  go_enter Try.func76, Try.ntmps76
  go_wp2
  have hS : Below w.heap.size w (((w.alloc (.cells #[.int .i64 a, .int .i64 b] 96)).alloc (.cells #[.int .i64 n, .int .i64 d] 98)).alloc (.cells #[.int .i64 m, .int .i64 k] 98)) := (by repeat (first | exact Below.refl _ _ | refine Below.drew ?_ | refine below_drewN ?_ _ | refine Below.setCell ?_ (by first | omega | (simp; done) | (simp; omega)) _ | refine Below.alloc ?_ (by first | omega | (simp; done) | (simp; omega)) _))
  go_region_held3 (fun w' => w'.cell? ⟨w.heap.size, 0, none⟩ = some (.int .i64 a) ∧ w'.cell? ⟨w.heap.size, 1, none⟩ = some (.int .i64 b) ∧ w'.cell? ⟨w.heap.size + 1, 0, none⟩ = some (.int .i64 n) ∧ w'.cell? ⟨w.heap.size + 1, 1, none⟩ = some (.int .i64 d) ∧ w'.cell? ⟨w.heap.size + 1 + 1, 0, none⟩ = some (.int .i64 m) ∧ w'.cell? ⟨w.heap.size + 1 + 1, 1, none⟩ = some (.int .i64 k) ∧ Below w.heap.size w w') ((go_split_ands; (repeat' apply And.intro) <;> first | (with_reducible assumption) | exact cell_later (by assumption) (by assumption) | exact frozen_after (by assumption) (by assumption) (by assumption) | exact below_then (by assumption) (by assumption) | exact below_alloc_top (by assumption) _ | exact cell_alloc_later (by assumption) _ | exact frozen_alloc_later (by assumption) (by assumption) _ | exact Below.drew (by assumption) | (simp [go_sem, World.cell?_alloc_past, *]; done)))
    (first
      | (go_at_call 130; (with_reducible refine (T1.out _).mono ?_); rintro e w' ⟨rfl, hb⟩)
      | (go_at_call 130; (with_reducible refine (T2.out _).mono ?_); rintro e w' ⟨rfl, hb⟩)
      | (go_at_call 105; refine (firstOf_any _ [stE n d, stE m k] _ (by simp) (by first | exact cells_drew _ _ (by simp) _ _ | exact cells_new _ _ (by simp) _ _)).mono ?_; rintro e w' ⟨rfl, rfl⟩))
  go_split_ands
  rw [HE.out]
  go_wp2_with fail
  refine (HC.out _).mono ?_
  rintro e wc ⟨rfl, hbc⟩
  have HBc : Hid (Below w.heap.size w wc) := Lib.hid (below_then (by first | (with_reducible assumption) | (with_reducible exact below_alloc_top (by assumption) _) | (with_reducible exact Below.drew (by assumption)) | (with_reducible exact Below.drew (below_alloc_top (by assumption) _))) hbc)
  have qc0 : wc.cell? ⟨w.heap.size, 0, none⟩ = some (.int .i64 a) := cell_later hbc (by first | (with_reducible assumption) | (simp [go_sem, World.cell?_alloc_past, *]; done))
  have qc1 : wc.cell? ⟨w.heap.size, 1, none⟩ = some (.int .i64 b) := cell_later hbc (by first | (with_reducible assumption) | (simp [go_sem, World.cell?_alloc_past, *]; done))
  have qc2 : wc.cell? ⟨w.heap.size + 1, 0, none⟩ = some (.int .i64 n) := cell_later hbc (by first | (with_reducible assumption) | (simp [go_sem, World.cell?_alloc_past, *]; done))
  have qc3 : wc.cell? ⟨w.heap.size + 1, 1, none⟩ = some (.int .i64 d) := cell_later hbc (by first | (with_reducible assumption) | (simp [go_sem, World.cell?_alloc_past, *]; done))
  have qc4 : wc.cell? ⟨w.heap.size + 1 + 1, 0, none⟩ = some (.int .i64 m) := cell_later hbc (by first | (with_reducible assumption) | (simp [go_sem, World.cell?_alloc_past, *]; done))
  have qc5 : wc.cell? ⟨w.heap.size + 1 + 1, 1, none⟩ = some (.int .i64 k) := cell_later hbc (by first | (with_reducible assumption) | (simp [go_sem, World.cell?_alloc_past, *]; done))
  clear hbc
  go_wp2_with (go_at_call 132; (with_reducible refine (HZ.out _).mono ?_); rintro e w' ⟨rfl, rfl⟩)
  go_ret2
  exact ⟨by first | rfl | (simp [*]; done), HBc.out⟩
set_option maxRecDepth 100000 in
set_option maxHeartbeats 1000000 in
theorem rsw_z_yn (a b n d m k : Int) (in0 : I64 n) (id0 : I64 d) (im0 : I64 m) (ik0 : I64 k) (o : SwOk (a.natAbs : Int) b n d m k) (he : fst [stE n d, stE m k] = 0) (hs : sg (n * k) (m * d) = 0) (c1 : n * b ≤ a.natAbs * d) (c2 : ¬ a.natAbs * k ≤ m * b) (w : World) :
    Calls Try.prog 76 #[.agg #[.int .i64 a, .int .i64 b], .agg #[.int .i64 n, .int .i64 d], .agg #[.int .i64 m, .int .i64 k]] w fun e w' => e = .returned (.tuple #[.bool false, .int .i64 0]) ∧ Below w.heap.size w w' := by
  have HE := Lib.hid he; clear he
  obtain ⟨⟨f1, f2⟩, ⟨f3, f4⟩, ⟨f5, f6⟩, ⟨f7, f8⟩, ⟨f9, f10⟩, ⟨f11, f12⟩⟩ := sw_f o
  have HZ := Lib.hid (fun w => sizeZ_any a w (by have := o.p1; omega) (by have := o.p1; omega))
  have HC := Lib.hid (fun w => cmp_any n d m k w f1 f2 f3 f4)
  rw [hs] at HC
  have hp0 := o.p0; have hp1 := o.p1
  clear o hs
  generalize (a.natAbs : Int) = p at *
  have T1 := Lib.hid (fun w => limitErr_any n d in0 id0 w)
  have T2 := Lib.hid (fun w => limitErr_any m k im0 ik0 w)
  clear in0 id0 im0 ik0
  go_enter Try.func76, Try.ntmps76
  go_wp2
  have hS : Below w.heap.size w (((w.alloc (.cells #[.int .i64 a, .int .i64 b] 96)).alloc (.cells #[.int .i64 n, .int .i64 d] 98)).alloc (.cells #[.int .i64 m, .int .i64 k] 98)) := (by repeat (first | exact Below.refl _ _ | refine Below.drew ?_ | refine below_drewN ?_ _ | refine Below.setCell ?_ (by first | omega | (simp; done) | (simp; omega)) _ | refine Below.alloc ?_ (by first | omega | (simp; done) | (simp; omega)) _))
  go_region_held3 (fun w' => w'.cell? ⟨w.heap.size, 0, none⟩ = some (.int .i64 a) ∧ w'.cell? ⟨w.heap.size, 1, none⟩ = some (.int .i64 b) ∧ w'.cell? ⟨w.heap.size + 1, 0, none⟩ = some (.int .i64 n) ∧ w'.cell? ⟨w.heap.size + 1, 1, none⟩ = some (.int .i64 d) ∧ w'.cell? ⟨w.heap.size + 1 + 1, 0, none⟩ = some (.int .i64 m) ∧ w'.cell? ⟨w.heap.size + 1 + 1, 1, none⟩ = some (.int .i64 k) ∧ Below w.heap.size w w') ((go_split_ands; (repeat' apply And.intro) <;> first | (with_reducible assumption) | exact cell_later (by assumption) (by assumption) | exact frozen_after (by assumption) (by assumption) (by assumption) | exact below_then (by assumption) (by assumption) | exact below_alloc_top (by assumption) _ | exact cell_alloc_later (by assumption) _ | exact frozen_alloc_later (by assumption) (by assumption) _ | exact Below.drew (by assumption) | (simp [go_sem, World.cell?_alloc_past, *]; done)))
    (first
      | (go_at_call 130; (with_reducible refine (T1.out _).mono ?_); rintro e w' ⟨rfl, hb⟩)
      | (go_at_call 130; (with_reducible refine (T2.out _).mono ?_); rintro e w' ⟨rfl, hb⟩)
      | (go_at_call 105; refine (firstOf_any _ [stE n d, stE m k] _ (by simp) (by first | exact cells_drew _ _ (by simp) _ _ | exact cells_new _ _ (by simp) _ _)).mono ?_; rintro e w' ⟨rfl, rfl⟩))
  go_split_ands
  rw [HE.out]
  go_wp2_with fail
  refine (HC.out _).mono ?_
  rintro e wc ⟨rfl, hbc⟩
  have HBc : Hid (Below w.heap.size w wc) := Lib.hid (below_then (by first | (with_reducible assumption) | (with_reducible exact below_alloc_top (by assumption) _) | (with_reducible exact Below.drew (by assumption)) | (with_reducible exact Below.drew (below_alloc_top (by assumption) _))) hbc)
  have qc0 : wc.cell? ⟨w.heap.size, 0, none⟩ = some (.int .i64 a) := cell_later hbc (by first | (with_reducible assumption) | (simp [go_sem, World.cell?_alloc_past, *]; done))
  have qc1 : wc.cell? ⟨w.heap.size, 1, none⟩ = some (.int .i64 b) := cell_later hbc (by first | (with_reducible assumption) | (simp [go_sem, World.cell?_alloc_past, *]; done))
  have qc2 : wc.cell? ⟨w.heap.size + 1, 0, none⟩ = some (.int .i64 n) := cell_later hbc (by first | (with_reducible assumption) | (simp [go_sem, World.cell?_alloc_past, *]; done))
  have qc3 : wc.cell? ⟨w.heap.size + 1, 1, none⟩ = some (.int .i64 d) := cell_later hbc (by first | (with_reducible assumption) | (simp [go_sem, World.cell?_alloc_past, *]; done))
  have qc4 : wc.cell? ⟨w.heap.size + 1 + 1, 0, none⟩ = some (.int .i64 m) := cell_later hbc (by first | (with_reducible assumption) | (simp [go_sem, World.cell?_alloc_past, *]; done))
  have qc5 : wc.cell? ⟨w.heap.size + 1 + 1, 1, none⟩ = some (.int .i64 k) := cell_later hbc (by first | (with_reducible assumption) | (simp [go_sem, World.cell?_alloc_past, *]; done))
  clear hbc
  go_wp2_with (go_at_call 132; (with_reducible refine (HZ.out _).mono ?_); rintro e w' ⟨rfl, rfl⟩)
  go_ret2
  exact ⟨by first | rfl | (simp [*]; done), HBc.out⟩
set_option maxRecDepth 100000 in
set_option maxHeartbeats 1000000 in
theorem rsw_z_yy (a b n d m k : Int) (in0 : I64 n) (id0 : I64 d) (im0 : I64 m) (ik0 : I64 k) (o : SwOk (a.natAbs : Int) b n d m k) (he : fst [stE n d, stE m k] = 0) (hs : sg (n * k) (m * d) = 0) (c1 : n * b ≤ a.natAbs * d) (c2 : a.natAbs * k ≤ m * b) (w : World) :
    Calls Try.prog 76 #[.agg #[.int .i64 a, .int .i64 b], .agg #[.int .i64 n, .int .i64 d], .agg #[.int .i64 m, .int .i64 k]] w fun e w' => e = .returned (.tuple #[.bool true, .int .i64 0]) ∧ Below w.heap.size w w' := by
  have HE := Lib.hid he; clear he
  obtain ⟨⟨f1, f2⟩, ⟨f3, f4⟩, ⟨f5, f6⟩, ⟨f7, f8⟩, ⟨f9, f10⟩, ⟨f11, f12⟩⟩ := sw_f o
  have HZ := Lib.hid (fun w => sizeZ_any a w (by have := o.p1; omega) (by have := o.p1; omega))
  have HC := Lib.hid (fun w => cmp_any n d m k w f1 f2 f3 f4)
  rw [hs] at HC
  have hp0 := o.p0; have hp1 := o.p1
  clear o hs
  generalize (a.natAbs : Int) = p at *
  have T1 := Lib.hid (fun w => limitErr_any n d in0 id0 w)
  have T2 := Lib.hid (fun w => limitErr_any m k im0 ik0 w)
  clear in0 id0 im0 ik0
  go_enter Try.func76, Try.ntmps76
  go_wp2
  have hS : Below w.heap.size w (((w.alloc (.cells #[.int .i64 a, .int .i64 b] 96)).alloc (.cells #[.int .i64 n, .int .i64 d] 98)).alloc (.cells #[.int .i64 m, .int .i64 k] 98)) := (by repeat (first | exact Below.refl _ _ | refine Below.drew ?_ | refine below_drewN ?_ _ | refine Below.setCell ?_ (by first | omega | (simp; done) | (simp; omega)) _ | refine Below.alloc ?_ (by first | omega | (simp; done) | (simp; omega)) _))
  go_region_held3 (fun w' => w'.cell? ⟨w.heap.size, 0, none⟩ = some (.int .i64 a) ∧ w'.cell? ⟨w.heap.size, 1, none⟩ = some (.int .i64 b) ∧ w'.cell? ⟨w.heap.size + 1, 0, none⟩ = some (.int .i64 n) ∧ w'.cell? ⟨w.heap.size + 1, 1, none⟩ = some (.int .i64 d) ∧ w'.cell? ⟨w.heap.size + 1 + 1, 0, none⟩ = some (.int .i64 m) ∧ w'.cell? ⟨w.heap.size + 1 + 1, 1, none⟩ = some (.int .i64 k) ∧ Below w.heap.size w w') ((go_split_ands; (repeat' apply And.intro) <;> first | (with_reducible assumption) | exact cell_later (by assumption) (by assumption) | exact frozen_after (by assumption) (by assumption) (by assumption) | exact below_then (by assumption) (by assumption) | exact below_alloc_top (by assumption) _ | exact cell_alloc_later (by assumption) _ | exact frozen_alloc_later (by assumption) (by assumption) _ | exact Below.drew (by assumption) | (simp [go_sem, World.cell?_alloc_past, *]; done)))
    (first
      | (go_at_call 130; (with_reducible refine (T1.out _).mono ?_); rintro e w' ⟨rfl, hb⟩)
      | (go_at_call 130; (with_reducible refine (T2.out _).mono ?_); rintro e w' ⟨rfl, hb⟩)
      | (go_at_call 105; refine (firstOf_any _ [stE n d, stE m k] _ (by simp) (by first | exact cells_drew _ _ (by simp) _ _ | exact cells_new _ _ (by simp) _ _)).mono ?_; rintro e w' ⟨rfl, rfl⟩))
  go_split_ands
  rw [HE.out]
  go_wp2_with fail
  refine (HC.out _).mono ?_
  rintro e wc ⟨rfl, hbc⟩
  have HBc : Hid (Below w.heap.size w wc) := Lib.hid (below_then (by first | (with_reducible assumption) | (with_reducible exact below_alloc_top (by assumption) _) | (with_reducible exact Below.drew (by assumption)) | (with_reducible exact Below.drew (below_alloc_top (by assumption) _))) hbc)
  have qc0 : wc.cell? ⟨w.heap.size, 0, none⟩ = some (.int .i64 a) := cell_later hbc (by first | (with_reducible assumption) | (simp [go_sem, World.cell?_alloc_past, *]; done))
  have qc1 : wc.cell? ⟨w.heap.size, 1, none⟩ = some (.int .i64 b) := cell_later hbc (by first | (with_reducible assumption) | (simp [go_sem, World.cell?_alloc_past, *]; done))
  have qc2 : wc.cell? ⟨w.heap.size + 1, 0, none⟩ = some (.int .i64 n) := cell_later hbc (by first | (with_reducible assumption) | (simp [go_sem, World.cell?_alloc_past, *]; done))
  have qc3 : wc.cell? ⟨w.heap.size + 1, 1, none⟩ = some (.int .i64 d) := cell_later hbc (by first | (with_reducible assumption) | (simp [go_sem, World.cell?_alloc_past, *]; done))
  have qc4 : wc.cell? ⟨w.heap.size + 1 + 1, 0, none⟩ = some (.int .i64 m) := cell_later hbc (by first | (with_reducible assumption) | (simp [go_sem, World.cell?_alloc_past, *]; done))
  have qc5 : wc.cell? ⟨w.heap.size + 1 + 1, 1, none⟩ = some (.int .i64 k) := cell_later hbc (by first | (with_reducible assumption) | (simp [go_sem, World.cell?_alloc_past, *]; done))
  clear hbc
  go_wp2_with (go_at_call 132; (with_reducible refine (HZ.out _).mono ?_); rintro e w' ⟨rfl, rfl⟩)
  go_ret2
  exact ⟨by first | rfl | (simp [*]; done), HBc.out⟩
end Go.Proofs.Ytdicndakelgoeaa
