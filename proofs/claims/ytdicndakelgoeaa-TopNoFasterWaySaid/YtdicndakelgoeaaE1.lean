/- directions behind the plane: the program -/
import Derived.Test.YtdicndakelgoeaaB5
namespace Go.Proofs.Ytdicndakelgoeaa
open Go.RowKit RayM
set_option linter.unusedSimpArgs false
set_option linter.unusedVariables false

def dirE (a b : Int) : Int := fst [unl (inB a (-1000) 1000) 2, unl (inB b 1 1000) 2]
def bhN (a v : Int) : Int := a * a * v * v
def bhD (a b u : Int) : Int := (a * a + b * b) * u * u
structure AnOk (a b u v : Int) : Prop where
  a0 : -1000 ≤ a
  a1 : a ≤ 1000
  b0 : 1 ≤ b
  b1 : b ≤ 1000
  u0 : 500 ≤ u
  u1 : u ≤ 10000
  v0 : 500 ≤ v
  v1 : v ≤ 10000
structure AnF (a b u v : Int) : Prop where
  f1 : 0 ≤ a * a ∧ a * a ≤ 1000000
  f2 : 1 ≤ b * b ∧ b * b ≤ 1000000
  f3 : 0 ≤ a * a * v ∧ a * a * v ≤ 10000000000
  f4 : 0 ≤ a * a * v * v ∧ a * a * v * v ≤ 100000000000000
  f5 : 1 ≤ (a * a + b * b) * u ∧ (a * a + b * b) * u ≤ 20000000000
  f6 : 1 ≤ (a * a + b * b) * u * u ∧ (a * a + b * b) * u * u ≤ 200000000000000
  f7 : 1 ≤ u * u ∧ u * u ≤ 100000000
theorem mul_in (x y l m p q : Int) (hl : 0 ≤ l) (hp : 0 ≤ p) (h1 : l ≤ x) (h2 : x ≤ m) (h3 : p ≤ y) (h4 : y ≤ q) : l * p ≤ x * y ∧ x * y ≤ m * q :=
  ⟨mul_le l p x y hl hp h1 h3, mul_le x y m q (by omega) (by omega) h2 h4⟩
theorem an_f {a b u v : Int} (o : AnOk a b u v) : AnF a b u v := by
  obtain ⟨a0, a1, b0, b1, u0, u1, v0, v1⟩ := o
  have f1 : 0 ≤ a * a ∧ a * a ≤ 1000000 := by
    by_cases h : 0 ≤ a
    · have := mul_in a a 0 1000 0 1000 (by omega) (by omega) h a1 h a1; omega
    · have := mul_in (-a) (-a) 0 1000 0 1000 (by omega) (by omega) (by omega) (by omega) (by omega) (by omega)
      rw [Int.neg_mul_neg] at this; omega
  have f2 : 1 ≤ b * b ∧ b * b ≤ 1000000 := by
    have := mul_in b b 1 1000 1 1000 (by omega) (by omega) b0 b1 b0 b1; omega
  have f7 : 1 ≤ u * u ∧ u * u ≤ 100000000 := by
    have := mul_in u u 1 10000 1 10000 (by omega) (by omega) (by omega) u1 (by omega) u1; omega
  generalize hp : a * a = p at *
  generalize hq : b * b = q at *
  have f3 : 0 ≤ p * v ∧ p * v ≤ 10000000000 := by
    have := mul_in p v 0 1000000 0 10000 (by omega) (by omega) f1.1 f1.2 (by omega) v1; omega
  have f4 : 0 ≤ p * v * v ∧ p * v * v ≤ 100000000000000 := by
    have := mul_in (p * v) v 0 10000000000 0 10000 (by omega) (by omega) f3.1 f3.2 (by omega) v1; omega
  have f5 : 1 ≤ (p + q) * u ∧ (p + q) * u ≤ 20000000000 := by
    have := mul_in (p + q) u 1 2000000 1 10000 (by omega) (by omega) (by omega) (by omega) (by omega) u1; omega
  have f6 : 1 ≤ (p + q) * u * u ∧ (p + q) * u * u ≤ 200000000000000 := by
    have := mul_in ((p + q) * u) u 1 20000000000 1 10000 (by omega) (by omega) f5.1 f5.2 (by omega) u1; omega
  subst hp hq
  exact ⟨f1, f2, f3, f4, f5, f6, f7⟩

set_option maxRecDepth 100000 in
set_option maxHeartbeats 1000000 in
theorem directionError_any (a b : Int) (w : World) :
    Calls Try.prog 124 #[.agg #[.int .i64 a, .int .i64 b]] w fun e w' => e = .returned (.int .i64 (dirE a b)) ∧ Below w.heap.size w w' := by
  go_enter Try.func124, Try.ntmps124
  go_wp2
  go_region_held3 (fun w' => w'.cell? ⟨w.heap.size, 0, none⟩ = some (.int .i64 a) ∧ w'.cell? ⟨w.heap.size, 1, none⟩ = some (.int .i64 b)) (simp [go_sem, World.cell?_alloc_past])
    (first
      | (go_at_call 106; refine (isWithin_any _ _ _ _).mono ?_; rintro e w' ⟨rfl, rfl⟩)
      | (go_at_call 122; refine (unless_any _ _ _).mono ?_; rintro e w' ⟨rfl, rfl⟩)
      | (go_at_call 93; refine (firstError_any _ [unl (inB a (-1000) 1000) 2, unl (inB b 1 1000) 2] _ (by simp) (cells_drew _ _ (by simp) _ _)).mono ?_; rintro e w' ⟨rfl, rfl⟩))
  go_wp2
  go_ret
  exact ⟨rfl, (((Below.refl _ _).alloc (Nat.le_refl _) _).alloc (by simp) _).drew⟩
set_option maxRecDepth 100000 in
set_option maxHeartbeats 1000000 in
theorem behind_any (a b u v : Int) (w : World) (o : AnOk a b u v) :
    Calls Try.prog 125 #[.agg #[.int .i64 a, .int .i64 b], .int .i64 u, .int .i64 v] w fun e w' => e = .returned (.tuple #[.int .i64 (bhN a v), .int .i64 (bhD a b u)]) ∧ Below w.heap.size w w' := by
  have f := an_f o
  obtain ⟨⟨f1, f2⟩, ⟨f3, f4⟩, ⟨f5, f6⟩, ⟨f7, f8⟩, ⟨f9, f10⟩, ⟨f11, f12⟩, _⟩ := f
  have hn : bhN a v = a * a * v * v := rfl
  have hd : bhD a b u = (a * a + b * b) * u * u := rfl
  have HN := Lib.hid hn; have HD := Lib.hid hd; clear hn hd o
  go_enter Try.func125, Try.ntmps125
  go_wp2
  go_quiet (fail)
  go_wp2
  go_ret2
  exact ⟨by rw [HN.out, HD.out]; rfl, (by repeat (first | exact Below.refl _ _ | refine Below.drew ?_ | refine below_drewN ?_ _ | refine Below.setCell ?_ (by first | omega | (simp; done) | (simp; omega)) _ | refine Below.alloc ?_ (by first | omega | (simp; done) | (simp; omega)) _))⟩

def paE (a b u v : Int) : Int := fst [dirE a b, unl (inB u 500 10000) 2, unl (inB v 500 10000) 2]
theorem paE_ok (a b u v : Int) (h : paE a b u v = 0) : AnOk a b u v := by
  unfold paE at h
  rw [fst_zero] at h
  simp only [List.mem_cons, List.not_mem_nil, or_false, forall_eq_or_imp, forall_eq, unl_inB _ _ _ _ (show (2 : Int) ≠ 0 by decide)] at h
  obtain ⟨h1, ⟨p, q⟩, ⟨r, s⟩⟩ := h
  unfold dirE at h1
  rw [fst_zero] at h1
  simp only [List.mem_cons, List.not_mem_nil, or_false, forall_eq_or_imp, forall_eq, unl_inB _ _ _ _ (show (2 : Int) ≠ 0 by decide)] at h1
  obtain ⟨⟨a0, a1⟩, ⟨b0, b1⟩⟩ := h1
  exact ⟨a0, a1, b0, b1, p, q, r, s⟩
set_option maxRecDepth 100000 in
set_option maxHeartbeats 1000000 in
theorem passes_ok (a b u v : Int) (w : World) (h : paE a b u v = 0) :
    Calls Try.prog 68 #[.agg #[.int .i64 a, .int .i64 b], .int .i64 u, .int .i64 v] w fun e w' => e = .returned (.tuple #[.bool (decide (bhN a v ≤ bhD a b u)), .int .i64 0]) ∧ Below w.heap.size w w' := by
  have HB := Lib.hid (fun w => behind_any a b u v w (paE_ok a b u v h))
  have HF : Hid (fst [dirE a b, unl (inB u 500 10000) 2, unl (inB v 500 10000) 2] = 0) := h
  clear h
  generalize bhN a v = n at *
  generalize bhD a b u = d at *
  go_enter Try.func68, Try.ntmps68
  go_wp2_with fail
  refine (directionError_any a b _).mono ?_
  rintro e w1 ⟨rfl, hb1⟩
  have qw10 : w1.cell? ⟨w.heap.size, 0, none⟩ = some (.int .i64 a) := cell_later hb1 (by simp [go_sem])
  have qw11 : w1.cell? ⟨w.heap.size, 1, none⟩ = some (.int .i64 b) := cell_later hb1 (by simp [go_sem])
  have HB1 : Hid (Below w.heap.size w w1) := below_after (by repeat (first | exact Below.refl _ _ | refine Below.drew ?_ | refine below_drewN ?_ _ | refine Below.setCell ?_ (by first | omega | (simp; done) | (simp; omega)) _ | refine Below.alloc ?_ (by first | omega | (simp; done) | (simp; omega)) _)) hb1 (by simp)
  have zz := World.block_lt_of_cell? _ _ qw10
  dsimp only at zz
  clear hb1
  go_wp2_with (first
    | (go_at_call 96; refine (speedError_any _ _).mono ?_; rintro e w' ⟨rfl, rfl⟩)
    | fail)
  refine (firstError_any _ [dirE a b, unl (inB u 500 10000) 2, unl (inB v 500 10000) 2] _ (by simp) (by first | exact cells_drew _ _ (by simp) _ _ | exact cells_new _ _ (by simp) _ _)).mono ?_
  rintro e w' ⟨rfl, rfl⟩
  rw [HF.out]
  go_wp2_with fail
  refine (HB.out _).mono ?_
  rintro e w2 ⟨rfl, hb2⟩
  have HB2 : Hid (Below w.heap.size w w2) := below_then (below_alloc_top HB1.out _) hb2
  clear hb2
  by_cases hk : n ≤ d
  · go_wp2
    go_ret2
    exact ⟨by simp [hk], HB2.out⟩
  · go_wp2
    go_ret2
    exact ⟨by simp [hk], HB2.out⟩
set_option maxRecDepth 100000 in
set_option maxHeartbeats 1000000 in
theorem passes_bad (a b u v : Int) (w : World) (h : paE a b u v ≠ 0) :
    Calls Try.prog 68 #[.agg #[.int .i64 a, .int .i64 b], .int .i64 u, .int .i64 v] w fun e w' => e = .returned (.tuple #[.bool false, .int .i64 (paE a b u v)]) ∧ Below w.heap.size w w' := by
  have h2 : (paE a b u v != 0) = true := by simpa using h
  have he : fst [dirE a b, unl (inB u 500 10000) 2, unl (inB v 500 10000) 2] = paE a b u v := rfl
  have HE := Lib.hid he; clear he h
  go_enter Try.func68, Try.ntmps68
  go_wp2_with fail
  refine (directionError_any a b _).mono ?_
  rintro e w1 ⟨rfl, hb1⟩
  have HB1 : Hid (Below w.heap.size w w1) := below_after (by repeat (first | exact Below.refl _ _ | refine Below.drew ?_ | refine below_drewN ?_ _ | refine Below.setCell ?_ (by first | omega | (simp; done) | (simp; omega)) _ | refine Below.alloc ?_ (by first | omega | (simp; done) | (simp; omega)) _)) hb1 (by simp)
  clear hb1
  go_wp2_with (first
    | (go_at_call 96; refine (speedError_any _ _).mono ?_; rintro e w' ⟨rfl, rfl⟩)
    | fail)
  refine (firstError_any _ [dirE a b, unl (inB u 500 10000) 2, unl (inB v 500 10000) 2] _ (by simp) (by first | exact cells_drew _ _ (by simp) _ _ | exact cells_new _ _ (by simp) _ _)).mono ?_
  rintro e w' ⟨rfl, rfl⟩
  rw [HE.out]
  go_wp2
  go_ret2
  exact ⟨rfl, below_alloc_top HB1.out _⟩
set_option maxRecDepth 100000 in
set_option maxHeartbeats 1000000 in
theorem behindSq_bad (a b u v : Int) (pb : Bool) (pe r : Int) (hr : r ≠ 0) (he : fst [pe, unl pb 12] = r) (w : World) (hp : ∀ w, Calls Try.prog 68 #[.agg #[.int .i64 a, .int .i64 b], .int .i64 u, .int .i64 v] w fun e w' => e = .returned (.tuple #[.bool pb, .int .i64 pe]) ∧ Below w.heap.size w w') :
    Calls Try.prog 69 #[.agg #[.int .i64 a, .int .i64 b], .int .i64 u, .int .i64 v] w fun e w' => e = .returned (.tuple #[.agg #[.int .i64 0, .int .i64 0], .int .i64 r]) ∧ Below w.heap.size w w' := by
  have h2 : (r != 0) = true := by simpa using hr
  have HE := Lib.hid he; have HP := Lib.hid hp; clear he hp hr
  go_enter Try.func69, Try.ntmps69
  go_wp2_with fail
  refine (HP.out _).mono ?_
  rintro e w1 ⟨rfl, hb1⟩
  have qw10 : w1.cell? ⟨w.heap.size, 0, none⟩ = some (.int .i64 a) := cell_later hb1 (by simp [go_sem])
  have qw11 : w1.cell? ⟨w.heap.size, 1, none⟩ = some (.int .i64 b) := cell_later hb1 (by simp [go_sem])
  have qw12 : w1.cell? ⟨w.heap.size + 1, 0, none⟩ = some (.int .i64 0) := cell_later hb1 (by simp [go_sem])
  have qw13 : w1.cell? ⟨w.heap.size + 1, 1, none⟩ = some (.int .i64 0) := cell_later hb1 (by simp [go_sem])
  have qw1f0 : w1.frozen? ⟨w.heap.size + 1, 0, none⟩ = false := frozen_after hb1 (v := .int .i64 0) (by simp [go_sem]) (by simp [go_sem])
  have qw1f1 : w1.frozen? ⟨w.heap.size + 1, 1, none⟩ = false := frozen_after hb1 (v := .int .i64 0) (by simp [go_sem]) (by simp [go_sem])
  have zz1 := World.block_lt_of_cell? _ _ qw10
  have zy1 := World.block_lt_of_cell? _ _ qw12
  dsimp only at zz1 zy1
  have HB1 : Hid (Below w.heap.size w w1) := below_after (by repeat (first | exact Below.refl _ _ | refine Below.drew ?_ | refine below_drewN ?_ _ | refine Below.setCell ?_ (by first | omega | (simp; done) | (simp; omega)) _ | refine Below.alloc ?_ (by first | omega | (simp; done) | (simp; omega)) _)) hb1 (by simp; omega)
  clear hb1
  go_wp2_with (first
    | (go_at_call 122; refine (unless_any _ _ _).mono ?_; rintro e w' ⟨rfl, rfl⟩)
    | fail)
  refine (firstError_any _ [pe, unl pb 12] _ (by simp) (by first | exact cells_drew _ _ (by simp) _ _ | exact cells_new _ _ (by simp) _ _)).mono ?_
  rintro e w' ⟨rfl, rfl⟩
  rw [HE.out]
  go_wp2
  exact bodyPost_ret (v := .tuple #[.agg #[.int .i64 0, .int .i64 0], .int .i64 r]) (by simp [results, Try.results69, go_sem, World.cell?_alloc_past, *]) rfl ⟨rfl, (by (repeat (first | (with_reducible exact HB1.out) | (with_reducible refine Below.setCell ?_ ?_ _) | (with_reducible refine below_alloc_top ?_ _) | (with_reducible refine Below.drew ?_))); all_goals (first | omega | (simp; done) | (simp; omega)))⟩
set_option maxRecDepth 100000 in
set_option maxHeartbeats 1000000 in
theorem behindSq_num (a b u v : Int) (h : paE a b u v = 0) (hk : bhN a v ≤ bhD a b u) (h1 : 1000000000 < (lowN (bhN a v) (bhD a b u))) (w : World) :
    Calls Try.prog 69 #[.agg #[.int .i64 a, .int .i64 b], .int .i64 u, .int .i64 v] w fun e w' => e = .returned (.tuple #[.agg #[.int .i64 0, .int .i64 0], .int .i64 8]) ∧ Below w.heap.size w w' := by
  have o := paE_ok a b u v h
  have HB := Lib.hid (fun w => behind_any a b u v w o)
  have hp := fun w => passes_ok a b u v w h
  rw [decide_eq_true hk] at hp
  have HP := Lib.hid hp
  have nf := an_f o
  have HL := Lib.hid (fun w => lowestTerms_any (bhN a v) (bhD a b u) w nf.f4.1 (by have := nf.f4.2; unfold bhN; omega) nf.f6.1 (by have := nf.f6.2; unfold bhD; omega))
  have he : fst [0, unl true 12] = 0 := by decide
  have HE := Lib.hid he
  clear he hp nf o hk h
  generalize lowN (bhN a v) (bhD a b u) = x at *
  generalize lowD (bhN a v) (bhD a b u) = y at *
  generalize bhN a v = n at *
  generalize bhD a b u = d at *
  go_enter Try.func69, Try.ntmps69
  go_wp2_with fail
  refine (HP.out _).mono ?_
  rintro e w1 ⟨rfl, hb1⟩
  have qw10 : w1.cell? ⟨w.heap.size, 0, none⟩ = some (.int .i64 a) := cell_later hb1 (by simp [go_sem])
  have qw11 : w1.cell? ⟨w.heap.size, 1, none⟩ = some (.int .i64 b) := cell_later hb1 (by simp [go_sem])
  have qw12 : w1.cell? ⟨w.heap.size + 1, 0, none⟩ = some (.int .i64 0) := cell_later hb1 (by simp [go_sem])
  have qw13 : w1.cell? ⟨w.heap.size + 1, 1, none⟩ = some (.int .i64 0) := cell_later hb1 (by simp [go_sem])
  have qw1f0 : w1.frozen? ⟨w.heap.size + 1, 0, none⟩ = false := frozen_after hb1 (v := .int .i64 0) (by simp [go_sem]) (by simp [go_sem])
  have qw1f1 : w1.frozen? ⟨w.heap.size + 1, 1, none⟩ = false := frozen_after hb1 (v := .int .i64 0) (by simp [go_sem]) (by simp [go_sem])
  have zz1 := World.block_lt_of_cell? _ _ qw10
  have zy1 := World.block_lt_of_cell? _ _ qw12
  dsimp only at zz1 zy1
  have HB1 : Hid (Below w.heap.size w w1) := below_after (by repeat (first | exact Below.refl _ _ | refine Below.drew ?_ | refine below_drewN ?_ _ | refine Below.setCell ?_ (by first | omega | (simp; done) | (simp; omega)) _ | refine Below.alloc ?_ (by first | omega | (simp; done) | (simp; omega)) _)) hb1 (by simp; omega)
  clear hb1
  go_wp2_with (first
    | (go_at_call 122; refine (unless_any _ _ _).mono ?_; rintro e w' ⟨rfl, rfl⟩)
    | fail)
  refine (firstError_any _ [0, unl true 12] _ (by simp) (by first | exact cells_drew _ _ (by simp) _ _ | exact cells_new _ _ (by simp) _ _)).mono ?_
  rintro e w' ⟨rfl, rfl⟩
  rw [HE.out]
  go_wp2_with fail
  refine (HB.out _).mono ?_
  rintro e w2 ⟨rfl, hb2⟩
  have qw20 : w2.cell? ⟨w.heap.size, 0, none⟩ = some (.int .i64 a) := cell_later hb2 (by simp [go_sem, World.cell?_alloc_past, World.frozen?_alloc_past, *])
  have qw21 : w2.cell? ⟨w.heap.size, 1, none⟩ = some (.int .i64 b) := cell_later hb2 (by simp [go_sem, World.cell?_alloc_past, World.frozen?_alloc_past, *])
  have qw22 : w2.cell? ⟨w.heap.size + 1, 0, none⟩ = some (.int .i64 0) := cell_later hb2 (by simp [go_sem, World.cell?_alloc_past, World.frozen?_alloc_past, *])
  have qw23 : w2.cell? ⟨w.heap.size + 1, 1, none⟩ = some (.int .i64 0) := cell_later hb2 (by simp [go_sem, World.cell?_alloc_past, World.frozen?_alloc_past, *])
  have qw2f0 : w2.frozen? ⟨w.heap.size + 1, 0, none⟩ = false := frozen_after hb2 (v := .int .i64 0) (by simp [go_sem, World.cell?_alloc_past, World.frozen?_alloc_past, *]) (by simp [go_sem, World.cell?_alloc_past, World.frozen?_alloc_past, *])
  have qw2f1 : w2.frozen? ⟨w.heap.size + 1, 1, none⟩ = false := frozen_after hb2 (v := .int .i64 0) (by simp [go_sem, World.cell?_alloc_past, World.frozen?_alloc_past, *]) (by simp [go_sem, World.cell?_alloc_past, World.frozen?_alloc_past, *])
  have zz2 := World.block_lt_of_cell? _ _ qw20
  have zy2 := World.block_lt_of_cell? _ _ qw22
  dsimp only at zz2 zy2
  have HB2 : Hid (Below w.heap.size w w2) := below_then (below_alloc_top HB1.out _) hb2
  clear hb2
  go_wp2_with fail
  refine (HL.out _).mono ?_
  rintro e w3 ⟨rfl, hb3⟩
  have qw30 : w3.cell? ⟨w.heap.size, 0, none⟩ = some (.int .i64 a) := cell_later hb3 (by simp [go_sem, World.cell?_alloc_past, World.frozen?_alloc_past, *])
  have qw31 : w3.cell? ⟨w.heap.size, 1, none⟩ = some (.int .i64 b) := cell_later hb3 (by simp [go_sem, World.cell?_alloc_past, World.frozen?_alloc_past, *])
  have qw32 : w3.cell? ⟨w.heap.size + 1, 0, none⟩ = some (.int .i64 0) := cell_later hb3 (by simp [go_sem, World.cell?_alloc_past, World.frozen?_alloc_past, *])
  have qw33 : w3.cell? ⟨w.heap.size + 1, 1, none⟩ = some (.int .i64 0) := cell_later hb3 (by simp [go_sem, World.cell?_alloc_past, World.frozen?_alloc_past, *])
  have qw3f0 : w3.frozen? ⟨w.heap.size + 1, 0, none⟩ = false := frozen_after hb3 (v := .int .i64 0) (by simp [go_sem, World.cell?_alloc_past, World.frozen?_alloc_past, *]) (by simp [go_sem, World.cell?_alloc_past, World.frozen?_alloc_past, *])
  have qw3f1 : w3.frozen? ⟨w.heap.size + 1, 1, none⟩ = false := frozen_after hb3 (v := .int .i64 0) (by simp [go_sem, World.cell?_alloc_past, World.frozen?_alloc_past, *]) (by simp [go_sem, World.cell?_alloc_past, World.frozen?_alloc_past, *])
  have zz3 := World.block_lt_of_cell? _ _ qw30
  have zy3 := World.block_lt_of_cell? _ _ qw32
  dsimp only at zz3 zy3
  have HB3 : Hid (Below w.heap.size w w3) := below_then HB2.out hb3
  clear hb3
  go_wp2
  exact bodyPost_ret (v := .tuple #[.agg #[.int .i64 0, .int .i64 0], .int .i64 8]) (by simp [results, Try.results69, go_sem, World.cell?_alloc_past, *]) rfl ⟨rfl, (by (repeat (first | (with_reducible exact HB3.out) | (with_reducible refine Below.setCell ?_ ?_ _) | (with_reducible refine below_alloc_top ?_ _) | (with_reducible refine Below.drew ?_))); all_goals (first | omega | (simp; done) | (simp; omega)))⟩
set_option maxRecDepth 100000 in
set_option maxHeartbeats 1000000 in
theorem behindSq_den (a b u v : Int) (h : paE a b u v = 0) (hk : bhN a v ≤ bhD a b u) (h1 : ¬ 1000000000 < (lowN (bhN a v) (bhD a b u))) (h2 : 1000000000 < (lowD (bhN a v) (bhD a b u))) (w : World) :
    Calls Try.prog 69 #[.agg #[.int .i64 a, .int .i64 b], .int .i64 u, .int .i64 v] w fun e w' => e = .returned (.tuple #[.agg #[.int .i64 0, .int .i64 0], .int .i64 8]) ∧ Below w.heap.size w w' := by
  have o := paE_ok a b u v h
  have HB := Lib.hid (fun w => behind_any a b u v w o)
  have hp := fun w => passes_ok a b u v w h
  rw [decide_eq_true hk] at hp
  have HP := Lib.hid hp
  have nf := an_f o
  have HL := Lib.hid (fun w => lowestTerms_any (bhN a v) (bhD a b u) w nf.f4.1 (by have := nf.f4.2; unfold bhN; omega) nf.f6.1 (by have := nf.f6.2; unfold bhD; omega))
  have he : fst [0, unl true 12] = 0 := by decide
  have HE := Lib.hid he
  clear he hp nf o hk h
  generalize lowN (bhN a v) (bhD a b u) = x at *
  generalize lowD (bhN a v) (bhD a b u) = y at *
  generalize bhN a v = n at *
  generalize bhD a b u = d at *
  go_enter Try.func69, Try.ntmps69
  go_wp2_with fail
  refine (HP.out _).mono ?_
  rintro e w1 ⟨rfl, hb1⟩
  have qw10 : w1.cell? ⟨w.heap.size, 0, none⟩ = some (.int .i64 a) := cell_later hb1 (by simp [go_sem])
  have qw11 : w1.cell? ⟨w.heap.size, 1, none⟩ = some (.int .i64 b) := cell_later hb1 (by simp [go_sem])
  have qw12 : w1.cell? ⟨w.heap.size + 1, 0, none⟩ = some (.int .i64 0) := cell_later hb1 (by simp [go_sem])
  have qw13 : w1.cell? ⟨w.heap.size + 1, 1, none⟩ = some (.int .i64 0) := cell_later hb1 (by simp [go_sem])
  have qw1f0 : w1.frozen? ⟨w.heap.size + 1, 0, none⟩ = false := frozen_after hb1 (v := .int .i64 0) (by simp [go_sem]) (by simp [go_sem])
  have qw1f1 : w1.frozen? ⟨w.heap.size + 1, 1, none⟩ = false := frozen_after hb1 (v := .int .i64 0) (by simp [go_sem]) (by simp [go_sem])
  have zz1 := World.block_lt_of_cell? _ _ qw10
  have zy1 := World.block_lt_of_cell? _ _ qw12
  dsimp only at zz1 zy1
  have HB1 : Hid (Below w.heap.size w w1) := below_after (by repeat (first | exact Below.refl _ _ | refine Below.drew ?_ | refine below_drewN ?_ _ | refine Below.setCell ?_ (by first | omega | (simp; done) | (simp; omega)) _ | refine Below.alloc ?_ (by first | omega | (simp; done) | (simp; omega)) _)) hb1 (by simp; omega)
  clear hb1
  go_wp2_with (first
    | (go_at_call 122; refine (unless_any _ _ _).mono ?_; rintro e w' ⟨rfl, rfl⟩)
    | fail)
  refine (firstError_any _ [0, unl true 12] _ (by simp) (by first | exact cells_drew _ _ (by simp) _ _ | exact cells_new _ _ (by simp) _ _)).mono ?_
  rintro e w' ⟨rfl, rfl⟩
  rw [HE.out]
  go_wp2_with fail
  refine (HB.out _).mono ?_
  rintro e w2 ⟨rfl, hb2⟩
  have qw20 : w2.cell? ⟨w.heap.size, 0, none⟩ = some (.int .i64 a) := cell_later hb2 (by simp [go_sem, World.cell?_alloc_past, World.frozen?_alloc_past, *])
  have qw21 : w2.cell? ⟨w.heap.size, 1, none⟩ = some (.int .i64 b) := cell_later hb2 (by simp [go_sem, World.cell?_alloc_past, World.frozen?_alloc_past, *])
  have qw22 : w2.cell? ⟨w.heap.size + 1, 0, none⟩ = some (.int .i64 0) := cell_later hb2 (by simp [go_sem, World.cell?_alloc_past, World.frozen?_alloc_past, *])
  have qw23 : w2.cell? ⟨w.heap.size + 1, 1, none⟩ = some (.int .i64 0) := cell_later hb2 (by simp [go_sem, World.cell?_alloc_past, World.frozen?_alloc_past, *])
  have qw2f0 : w2.frozen? ⟨w.heap.size + 1, 0, none⟩ = false := frozen_after hb2 (v := .int .i64 0) (by simp [go_sem, World.cell?_alloc_past, World.frozen?_alloc_past, *]) (by simp [go_sem, World.cell?_alloc_past, World.frozen?_alloc_past, *])
  have qw2f1 : w2.frozen? ⟨w.heap.size + 1, 1, none⟩ = false := frozen_after hb2 (v := .int .i64 0) (by simp [go_sem, World.cell?_alloc_past, World.frozen?_alloc_past, *]) (by simp [go_sem, World.cell?_alloc_past, World.frozen?_alloc_past, *])
  have zz2 := World.block_lt_of_cell? _ _ qw20
  have zy2 := World.block_lt_of_cell? _ _ qw22
  dsimp only at zz2 zy2
  have HB2 : Hid (Below w.heap.size w w2) := below_then (below_alloc_top HB1.out _) hb2
  clear hb2
  go_wp2_with fail
  refine (HL.out _).mono ?_
  rintro e w3 ⟨rfl, hb3⟩
  have qw30 : w3.cell? ⟨w.heap.size, 0, none⟩ = some (.int .i64 a) := cell_later hb3 (by simp [go_sem, World.cell?_alloc_past, World.frozen?_alloc_past, *])
  have qw31 : w3.cell? ⟨w.heap.size, 1, none⟩ = some (.int .i64 b) := cell_later hb3 (by simp [go_sem, World.cell?_alloc_past, World.frozen?_alloc_past, *])
  have qw32 : w3.cell? ⟨w.heap.size + 1, 0, none⟩ = some (.int .i64 0) := cell_later hb3 (by simp [go_sem, World.cell?_alloc_past, World.frozen?_alloc_past, *])
  have qw33 : w3.cell? ⟨w.heap.size + 1, 1, none⟩ = some (.int .i64 0) := cell_later hb3 (by simp [go_sem, World.cell?_alloc_past, World.frozen?_alloc_past, *])
  have qw3f0 : w3.frozen? ⟨w.heap.size + 1, 0, none⟩ = false := frozen_after hb3 (v := .int .i64 0) (by simp [go_sem, World.cell?_alloc_past, World.frozen?_alloc_past, *]) (by simp [go_sem, World.cell?_alloc_past, World.frozen?_alloc_past, *])
  have qw3f1 : w3.frozen? ⟨w.heap.size + 1, 1, none⟩ = false := frozen_after hb3 (v := .int .i64 0) (by simp [go_sem, World.cell?_alloc_past, World.frozen?_alloc_past, *]) (by simp [go_sem, World.cell?_alloc_past, World.frozen?_alloc_past, *])
  have zz3 := World.block_lt_of_cell? _ _ qw30
  have zy3 := World.block_lt_of_cell? _ _ qw32
  dsimp only at zz3 zy3
  have HB3 : Hid (Below w.heap.size w w3) := below_then HB2.out hb3
  clear hb3
  go_wp2
  exact bodyPost_ret (v := .tuple #[.agg #[.int .i64 0, .int .i64 0], .int .i64 8]) (by simp [results, Try.results69, go_sem, World.cell?_alloc_past, *]) rfl ⟨rfl, (by (repeat (first | (with_reducible exact HB3.out) | (with_reducible refine Below.setCell ?_ ?_ _) | (with_reducible refine below_alloc_top ?_ _) | (with_reducible refine Below.drew ?_))); all_goals (first | omega | (simp; done) | (simp; omega)))⟩
set_option maxRecDepth 100000 in
set_option maxHeartbeats 1000000 in
theorem behindSq_ok (a b u v : Int) (h : paE a b u v = 0) (hk : bhN a v ≤ bhD a b u) (h1 : ¬ 1000000000 < (lowN (bhN a v) (bhD a b u))) (h2 : ¬ 1000000000 < (lowD (bhN a v) (bhD a b u))) (w : World) :
    Calls Try.prog 69 #[.agg #[.int .i64 a, .int .i64 b], .int .i64 u, .int .i64 v] w fun e w' => e = .returned (.tuple #[.agg #[.int .i64 (lowN (bhN a v) (bhD a b u)), .int .i64 (lowD (bhN a v) (bhD a b u))], .int .i64 0]) ∧ Below w.heap.size w w' := by
  have o := paE_ok a b u v h
  have HB := Lib.hid (fun w => behind_any a b u v w o)
  have hp := fun w => passes_ok a b u v w h
  rw [decide_eq_true hk] at hp
  have HP := Lib.hid hp
  have nf := an_f o
  have HL := Lib.hid (fun w => lowestTerms_any (bhN a v) (bhD a b u) w nf.f4.1 (by have := nf.f4.2; unfold bhN; omega) nf.f6.1 (by have := nf.f6.2; unfold bhD; omega))
  have he : fst [0, unl true 12] = 0 := by decide
  have HE := Lib.hid he
  clear he hp nf o hk h
  generalize lowN (bhN a v) (bhD a b u) = x at *
  generalize lowD (bhN a v) (bhD a b u) = y at *
  generalize bhN a v = n at *
  generalize bhD a b u = d at *
  go_enter Try.func69, Try.ntmps69
  go_wp2_with fail
  refine (HP.out _).mono ?_
  rintro e w1 ⟨rfl, hb1⟩
  have qw10 : w1.cell? ⟨w.heap.size, 0, none⟩ = some (.int .i64 a) := cell_later hb1 (by simp [go_sem])
  have qw11 : w1.cell? ⟨w.heap.size, 1, none⟩ = some (.int .i64 b) := cell_later hb1 (by simp [go_sem])
  have qw12 : w1.cell? ⟨w.heap.size + 1, 0, none⟩ = some (.int .i64 0) := cell_later hb1 (by simp [go_sem])
  have qw13 : w1.cell? ⟨w.heap.size + 1, 1, none⟩ = some (.int .i64 0) := cell_later hb1 (by simp [go_sem])
  have qw1f0 : w1.frozen? ⟨w.heap.size + 1, 0, none⟩ = false := frozen_after hb1 (v := .int .i64 0) (by simp [go_sem]) (by simp [go_sem])
  have qw1f1 : w1.frozen? ⟨w.heap.size + 1, 1, none⟩ = false := frozen_after hb1 (v := .int .i64 0) (by simp [go_sem]) (by simp [go_sem])
  have zz1 := World.block_lt_of_cell? _ _ qw10
  have zy1 := World.block_lt_of_cell? _ _ qw12
  dsimp only at zz1 zy1
  have HB1 : Hid (Below w.heap.size w w1) := below_after (by repeat (first | exact Below.refl _ _ | refine Below.drew ?_ | refine below_drewN ?_ _ | refine Below.setCell ?_ (by first | omega | (simp; done) | (simp; omega)) _ | refine Below.alloc ?_ (by first | omega | (simp; done) | (simp; omega)) _)) hb1 (by simp; omega)
  clear hb1
  go_wp2_with (first
    | (go_at_call 122; refine (unless_any _ _ _).mono ?_; rintro e w' ⟨rfl, rfl⟩)
    | fail)
  refine (firstError_any _ [0, unl true 12] _ (by simp) (by first | exact cells_drew _ _ (by simp) _ _ | exact cells_new _ _ (by simp) _ _)).mono ?_
  rintro e w' ⟨rfl, rfl⟩
  rw [HE.out]
  go_wp2_with fail
  refine (HB.out _).mono ?_
  rintro e w2 ⟨rfl, hb2⟩
  have qw20 : w2.cell? ⟨w.heap.size, 0, none⟩ = some (.int .i64 a) := cell_later hb2 (by simp [go_sem, World.cell?_alloc_past, World.frozen?_alloc_past, *])
  have qw21 : w2.cell? ⟨w.heap.size, 1, none⟩ = some (.int .i64 b) := cell_later hb2 (by simp [go_sem, World.cell?_alloc_past, World.frozen?_alloc_past, *])
  have qw22 : w2.cell? ⟨w.heap.size + 1, 0, none⟩ = some (.int .i64 0) := cell_later hb2 (by simp [go_sem, World.cell?_alloc_past, World.frozen?_alloc_past, *])
  have qw23 : w2.cell? ⟨w.heap.size + 1, 1, none⟩ = some (.int .i64 0) := cell_later hb2 (by simp [go_sem, World.cell?_alloc_past, World.frozen?_alloc_past, *])
  have qw2f0 : w2.frozen? ⟨w.heap.size + 1, 0, none⟩ = false := frozen_after hb2 (v := .int .i64 0) (by simp [go_sem, World.cell?_alloc_past, World.frozen?_alloc_past, *]) (by simp [go_sem, World.cell?_alloc_past, World.frozen?_alloc_past, *])
  have qw2f1 : w2.frozen? ⟨w.heap.size + 1, 1, none⟩ = false := frozen_after hb2 (v := .int .i64 0) (by simp [go_sem, World.cell?_alloc_past, World.frozen?_alloc_past, *]) (by simp [go_sem, World.cell?_alloc_past, World.frozen?_alloc_past, *])
  have zz2 := World.block_lt_of_cell? _ _ qw20
  have zy2 := World.block_lt_of_cell? _ _ qw22
  dsimp only at zz2 zy2
  have HB2 : Hid (Below w.heap.size w w2) := below_then (below_alloc_top HB1.out _) hb2
  clear hb2
  go_wp2_with fail
  refine (HL.out _).mono ?_
  rintro e w3 ⟨rfl, hb3⟩
  have qw30 : w3.cell? ⟨w.heap.size, 0, none⟩ = some (.int .i64 a) := cell_later hb3 (by simp [go_sem, World.cell?_alloc_past, World.frozen?_alloc_past, *])
  have qw31 : w3.cell? ⟨w.heap.size, 1, none⟩ = some (.int .i64 b) := cell_later hb3 (by simp [go_sem, World.cell?_alloc_past, World.frozen?_alloc_past, *])
  have qw32 : w3.cell? ⟨w.heap.size + 1, 0, none⟩ = some (.int .i64 0) := cell_later hb3 (by simp [go_sem, World.cell?_alloc_past, World.frozen?_alloc_past, *])
  have qw33 : w3.cell? ⟨w.heap.size + 1, 1, none⟩ = some (.int .i64 0) := cell_later hb3 (by simp [go_sem, World.cell?_alloc_past, World.frozen?_alloc_past, *])
  have qw3f0 : w3.frozen? ⟨w.heap.size + 1, 0, none⟩ = false := frozen_after hb3 (v := .int .i64 0) (by simp [go_sem, World.cell?_alloc_past, World.frozen?_alloc_past, *]) (by simp [go_sem, World.cell?_alloc_past, World.frozen?_alloc_past, *])
  have qw3f1 : w3.frozen? ⟨w.heap.size + 1, 1, none⟩ = false := frozen_after hb3 (v := .int .i64 0) (by simp [go_sem, World.cell?_alloc_past, World.frozen?_alloc_past, *]) (by simp [go_sem, World.cell?_alloc_past, World.frozen?_alloc_past, *])
  have zz3 := World.block_lt_of_cell? _ _ qw30
  have zy3 := World.block_lt_of_cell? _ _ qw32
  dsimp only at zz3 zy3
  have HB3 : Hid (Below w.heap.size w w3) := below_then HB2.out hb3
  clear hb3
  go_wp2
  exact bodyPost_ret (v := .tuple #[.agg #[.int .i64 x, .int .i64 y], .int .i64 0]) (by simp [results, Try.results69, go_sem, World.cell?_alloc_past, *]) rfl ⟨rfl, (by (repeat (first | (with_reducible exact HB3.out) | (with_reducible refine Below.setCell ?_ ?_ _) | (with_reducible refine below_alloc_top ?_ _) | (with_reducible refine Below.drew ?_))); all_goals (first | omega | (simp; done) | (simp; omega)))⟩
end Go.Proofs.Ytdicndakelgoeaa
