/- how wide the enclosures are -/
import Derived.Test.YtdicndakelgoeaaV15
import Derived.Test.YtdicndakelgoeaaT1r
namespace Go.Proofs.Ytdicndakelgoeaa
open Go.RowKit Go.Shelf RayM
set_option linter.unusedSimpArgs false
set_option linter.unusedVariables false

/-- how wide the enclosures of least times to a place are at most -/
def La.wd (a : La) (f : Sp) : Nat → Int
  | 0 => 0
  | k + 1 => max (a.wd f k) (a.hi f k - a.lo f k)
theorem wd_le (a : La) (f : Sp) : ∀ n i, i < n → a.hi f i - a.lo f i ≤ a.wd f n
  | n + 1, i, h => by
    have := wd_le a f n
    show a.hi f i - a.lo f i ≤ max (a.wd f n) (a.hi f n - a.lo f n)
    rcases Nat.lt_succ_iff_lt_or_eq.1 h with h | h
    · have := this i h; omega
    · subst h; omega
theorem wd_bounds (a : La) (f : Sp) : ∀ n, (∀ i, i < n → a.e f i = 0) → 0 ≤ a.wd f n ∧ a.wd f n ≤ 100000000000000
  | 0, _ => by show (0 : Int) ≤ 0 ∧ (0 : Int) ≤ _; omega
  | n + 1, h => by
    have i1 := wd_bounds a f n (fun i hi => h i (by omega))
    have i2 := lh_bounds a f n (h n (by omega))
    show 0 ≤ max (a.wd f n) (a.hi f n - a.lo f n) ∧ max (a.wd f n) (a.hi f n - a.lo f n) ≤ _
    omega
set_option maxRecDepth 100000 in
set_option maxHeartbeats 1000000 in
theorem widest_any (a : La) (f : Sp) (ad : Addr) (c : Nat) (w : World) (h : SpAt (some ad) a.n a.p w) (hn : a.n ≤ 16) (he : ∀ i, i < a.n → a.e f i = 0) :
    Calls Try.prog 84 #[.agg #[.slice (some ad) a.n c, .int .i64 a.m.wd, .int .i64 a.m.mt, .int .i64 a.m.sk, .int .i64 a.m.th, .int .i64 a.ck], .agg #[.int .i64 f.x, .int .i64 f.z]] w fun e w' => e = .returned (.tuple #[.int .i64 (a.wd f a.n), .bool true]) ∧ Below w.heap.size w w' := by
  have HX := Lib.hid h; clear h
  have RY : Hid (∀ i, i < a.n → ∀ w, Calls Try.prog 49 #[.agg #[.int .i64 a.m.wd, .int .i64 a.m.mt, .int .i64 a.m.sk, .int .i64 a.m.th], .agg #[.int .i64 (a.p i).x, .int .i64 (a.p i).z], .agg #[.int .i64 f.x, .int .i64 f.z]] w fun e w' => e = .returned (.tuple #[.agg #[.int .i64 (a.lo f i), .int .i64 (a.hi f i)], .int .i64 0]) ∧ Below w.heap.size w w') := Lib.hid (fun i h w => leastOf_ok (a.y f i) (wyE_zero_ok _ (he i h)) w)
  have RB := Lib.hid (fun i (h : i < a.n) => lh_bounds a f i (he i h))
  have WB := Lib.hid (fun k (hk : k ≤ a.n) => wd_bounds a f k (fun i hi => he i (by omega)))
  have WS : Hid (∀ k, a.wd f (k + 1) = max (a.wd f k) (a.hi f k - a.lo f k)) := fun k => rfl
  have W0 : Hid (a.wd f 0 = 0) := (rfl : _ = _)
  clear he
  go_enter Try.func84, Try.ntmps84
  go_wp2
  obtain ⟨w1, hw_w1⟩ : ∃ q, q = ((w.alloc (.cells #[.slice (some ad) a.n c, .int .i64 a.m.wd, .int .i64 a.m.mt, .int .i64 a.m.sk, .int .i64 a.m.th, .int .i64 a.ck] 118)).alloc (.cells #[.int .i64 f.x, .int .i64 f.z] 23)) := ⟨_, rfl⟩
  rw [← hw_w1]
  have q10 : w1.cell? ⟨w.heap.size, 0, none⟩ = some (.slice (some ad) a.n c) := by rw [hw_w1]; simp [go_sem]
  have q11 : w1.cell? ⟨w.heap.size, 1, none⟩ = some (.int .i64 a.m.wd) := by rw [hw_w1]; simp [go_sem]
  have q12 : w1.cell? ⟨w.heap.size, 2, none⟩ = some (.int .i64 a.m.mt) := by rw [hw_w1]; simp [go_sem]
  have q13 : w1.cell? ⟨w.heap.size, 3, none⟩ = some (.int .i64 a.m.sk) := by rw [hw_w1]; simp [go_sem]
  have q14 : w1.cell? ⟨w.heap.size, 4, none⟩ = some (.int .i64 a.m.th) := by rw [hw_w1]; simp [go_sem]
  have q15 : w1.cell? ⟨w.heap.size, 5, none⟩ = some (.int .i64 a.ck) := by rw [hw_w1]; simp [go_sem]
  have q16 : w1.cell? ⟨w.heap.size + 1, 0, none⟩ = some (.int .i64 f.x) := by rw [hw_w1]; simp [go_sem]
  have q17 : w1.cell? ⟨w.heap.size + 1, 1, none⟩ = some (.int .i64 f.z) := by rw [hw_w1]; simp [go_sem]
  have H1 : Hid (Below w.heap.size w w1) := Lib.hid (by rw [hw_w1]; exact (by repeat (first | exact Below.refl _ _ | refine Below.drew ?_ | refine below_drewN ?_ _ | refine Below.setCell ?_ (by first | omega | (simp; done) | (simp; omega)) _ | refine Below.alloc ?_ (by first | omega | (simp; done) | (simp; omega)) _)))
  have z1 : w1.heap.size = w.heap.size + 2 := by rw [hw_w1]; simp
  clear hw_w1
  go_loopw [6, 7] (fun s6 s7 wr => ∃ k : Nat, k ≤ a.n ∧ s7 = .int .i64 (k : Int) ∧ s6 = .int .i64 (a.wd f k) ∧ Below w1.heap.size w1 wr) (fun _ s7 _ => a.n - (intOf s7).toNat)
  case atStart => exact ⟨0, Nat.zero_le _, rfl, by rw [W0.out], Below.refl _ _⟩
  case round =>
    obtain ⟨k, hk, rfl, rfl, hb⟩ := hrel
    have r0 : wr.cell? ⟨w.heap.size, 0, none⟩ = some (.slice (some ad) a.n c) := cell_later hb q10
    have r1 : wr.cell? ⟨w.heap.size, 1, none⟩ = some (.int .i64 a.m.wd) := cell_later hb q11
    have r2 : wr.cell? ⟨w.heap.size, 2, none⟩ = some (.int .i64 a.m.mt) := cell_later hb q12
    have r3 : wr.cell? ⟨w.heap.size, 3, none⟩ = some (.int .i64 a.m.sk) := cell_later hb q13
    have r4 : wr.cell? ⟨w.heap.size, 4, none⟩ = some (.int .i64 a.m.th) := cell_later hb q14
    have r5 : wr.cell? ⟨w.heap.size, 5, none⟩ = some (.int .i64 a.ck) := cell_later hb q15
    have r6 : wr.cell? ⟨w.heap.size + 1, 0, none⟩ = some (.int .i64 f.x) := cell_later hb q16
    have r7 : wr.cell? ⟨w.heap.size + 1, 1, none⟩ = some (.int .i64 f.z) := cell_later hb q17
    have sz := hb.size
    have zr0 : w.heap.size < wr.heap.size := by omega
    have zr1 : w.heap.size + 1 < wr.heap.size := by omega
    have HB := Lib.hid hb
    have HW : Hid (Below w.heap.size w wr) := Lib.hid (Below.trans H1.out (hb.mono H1.out.size))
    have wb := WB.out k hk
    by_cases hlt : k < a.n
    · obtain ⟨e0, e1⟩ := (HX.out.later HW.out).at hlt
      have j0 : (0 : Int) ≤ (k : Int) := Int.natCast_nonneg _
      have j1 : (k : Int) < (a.n : Int) := by omega
      have j8 : (k : Int) < 1000 := by omega
      have HL := Lib.hid (RY.out k hlt)
      have rb := RB.out k hlt
      have RB' := Lib.hid rb; have WB' := Lib.hid wb
      clear rb wb hb
      have hS : Below w1.heap.size w1 wr := HB.out
      go_upto_region 5 with fail
      go_cut [8, 9] (fun s8 s9 wx => ∃ P : Nat, s8 = .pointer (some ⟨P, 0, none⟩) ∧ s9 = .int .i64 0 ∧ wx.cell? ⟨P, 0, none⟩ = some (.int .i64 (a.lo f k)) ∧ wx.cell? ⟨P, 1, none⟩ = some (.int .i64 (a.hi f k)) ∧ Below w1.heap.size w1 wx)
      case first =>
        go_region_held3 (fun w' => w'.cell? ⟨w.heap.size, 0, none⟩ = some (.slice (some ad) a.n c) ∧ w'.cell? ⟨w.heap.size, 1, none⟩ = some (.int .i64 a.m.wd) ∧ w'.cell? ⟨w.heap.size, 2, none⟩ = some (.int .i64 a.m.mt) ∧ w'.cell? ⟨w.heap.size, 3, none⟩ = some (.int .i64 a.m.sk) ∧ w'.cell? ⟨w.heap.size, 4, none⟩ = some (.int .i64 a.m.th) ∧ w'.cell? ⟨w.heap.size, 5, none⟩ = some (.int .i64 a.ck) ∧ w'.cell? ⟨w.heap.size + 1, 0, none⟩ = some (.int .i64 f.x) ∧ w'.cell? ⟨w.heap.size + 1, 1, none⟩ = some (.int .i64 f.z) ∧ w'.cell? (ad.add (k * 2)) = some (.int .i64 (a.p k).x) ∧ w'.cell? ⟨(ad.add (k * 2)).block, (ad.add (k * 2)).off + 1, none⟩ = some (.int .i64 (a.p k).z) ∧ Below w1.heap.size w1 w') (((go_split_ands; (repeat' apply And.intro) <;> ((repeat (first | (with_reducible assumption) | (with_reducible exact Below.refl _ _) | (with_reducible refine cell_alloc_later ?_ _) | (with_reducible refine cell_drewA ?_) | (with_reducible refine cellA (by with_reducible assumption) ?_) | (with_reducible refine belowA ?_ (by with_reducible assumption)) | (with_reducible refine below_alloc_top ?_ _) | (with_reducible refine Below.drew ?_) | (with_reducible refine cell_set_old ?_ (by with_reducible assumption)) | (with_reducible refine below_set_old ?_ (by with_reducible assumption)) | (with_reducible refine Below.setCell ?_ (by first | omega | (simp; done) | (simp; omega)) _) | (simp [go_sem, World.cell?_alloc_past, *]; done))); done))))
          (first
            | (go_split_ands; go_at_call 49; (with_reducible refine (HL.out _).mono ?_); rintro e w' ⟨rfl, hb⟩; have hbA : BelA _ w' := hb; obtain ⟨hc', hf'⟩ := bcell hb; have hz' := hb.size; (try simp at hz'); (first | (have tF' := Nat.lt_of_succ_le hz') | (have tF' := Nat.lt_of_lt_of_le tF' hz') | skip); clear hb))
        all_goals
          go_split_ands
          go_wp2_with fail
          go_meet
          exact ⟨_, rfl, rfl, (by first | (with_reducible assumption) | (simp [go_sem, World.cell?_alloc_past, *]; done)), (by first | (with_reducible assumption) | (simp [go_sem, World.cell?_alloc_past, *]; done)), (by first | (with_reducible assumption) | (simp [go_sem, World.cell?_alloc_past, *]; done))⟩
      case rest =>
        obtain ⟨P, rfl, rfl, p0, p1, bel⟩ := hcut
        clear e0 e1 r0 r1 r2 r3 r4 r5 r6 r7 hS
        have HB2 := Lib.hid bel
        clear bel
        obtain ⟨r1_, r2_, r3_⟩ := RB'.out
        obtain ⟨b1_, b2_⟩ := WB'.out
        have d1 : decide (a.hi f k < a.lo f k) = false := by simp; omega
        have n0 : ((0 : Int) != 0) = false := rfl
        go_wp2
        go_roundw
        case rel => exact ⟨k + 1, by omega, by go_num, by rw [WS.out], HB2.out⟩
        case measure => simp [intOf]; omega
    · have hk' : k = a.n := by omega
      have kk : decide ((k : Int) < (a.n : Int)) = false := by simp; omega
      subst hk'
      go_wp2
      go_ret2
      exact ⟨rfl, HW.out⟩
end Go.Proofs.Ytdicndakelgoeaa
