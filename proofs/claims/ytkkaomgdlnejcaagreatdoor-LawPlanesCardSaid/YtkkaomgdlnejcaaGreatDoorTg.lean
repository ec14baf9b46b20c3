/- the reference's law of a direction -/
import Derived.Test.YtkkaomgdlnejcaaGreatDoorTe
namespace Go.Proofs.YtkkaomgdlnejcaaGreatDoor
open Go.RowKit Go.Shelf RayM
set_option linter.unusedSimpArgs false
set_option linter.unusedVariables false
theorem rl_lo9 (l : Nat → Int) (n : Nat) (hn : 0 < n) : rlE l n = loE l n := by
  unfold loE
  by_cases q : 1000000 < mxL l n
  · rw [if_pos q]
    obtain ⟨i, hi, h⟩ := (big_iff l n hn).1 q
    exact rlE_no l n i hi h
  · rw [if_neg q]
    refine rlE_yes l n fun i hi => ?_
    by_cases r : 1000000 < l i
    · exact absurd ((big_iff l n hn).2 ⟨i, hi, r⟩) q
    · omega
theorem rRoundB_any (n b : Int) (w : World) (n0 : -10000000000000000 ≤ n) (n1 : n ≤ 10000000000000000) (b0 : 1 ≤ b) (b1 : b ≤ 100000000000000) :
    Calls Tryz.prog 47 #[.int .i64 n, .int .i64 b] w fun e w' => e = .returned (.int .i64 ((2 * n + b) / (2 * b))) ∧ w = w' := by
  have FL := Lib.hid (fun w => floor_any (2 * n + b) (2 * b) w (by omega) (by omega) (by omega) (by omega))
  generalize (2 * n + b) / (2 * b) = q at *
  go_enter Tryz.func47, Tryz.ntmps47
  go_wp2_with (go_at_call 83; (with_reducible refine (FL.out _).mono ?_); rintro e w' ⟨rfl, rfl⟩)
  go_ret
  exact ⟨rfl, rfl⟩
def La.sx (a : La) (p q : Int) (i : Nat) : Int := (a.p i).x * p + (a.p i).z * q
theorem mnL_scale (f g : Nat → Int) (h : ∀ i, g i = f i * 10000000) : ∀ n, mnL g n = mnL f n * 10000000
  | 0 => h 0
  | n + 1 => by
    have ih := mnL_scale f g h n
    have e1 : mnL g (n + 1) = min (mnL g n) (g n) := rfl
    have e2 : mnL f (n + 1) = min (mnL f n) (f n) := rfl
    rw [e1, e2, ih, h n]
    omega
theorem mnL_mem9 (l : Nat → Int) (n : Nat) (B C : Int) (hn : 0 < n) (h : ∀ i, i < n → B ≤ l i ∧ l i ≤ C) : B ≤ mnL l n ∧ mnL l n ≤ C := by
  obtain ⟨i, hi, e⟩ := mnL_mem l n hn
  rw [e]; exact h i hi
set_option maxRecDepth 100000 in
set_option maxHeartbeats 6000000 in
theorem rPlane_any (a : La) (p q r : Int) (ad : Addr) (c : Nat) (w : World) (hE : a.E = 0) (ht : tuE p q r = 0) (h : SpAt (some ad) a.n a.p w) :
    Calls Tryz.prog 14 #[.agg #[.slice (some ad) a.n c, .int .i64 a.m.wd, .int .i64 a.m.mt, .int .i64 a.m.sk, .int .i64 a.m.th, .int .i64 a.ck], .agg #[.int .i64 p, .int .i64 q, .int .i64 r]] w fun e_ w' => LwP a.ck (a.pl p q r) a.n (a.pnE p q r) w e_ w' := by
  obtain ⟨j0_, ji0, jz0, jz1, jz2⟩ := info_parts infoJ
  have JI0 := Lib.hid ji0; have JZ0 := Lib.hid jz0; have JZ1 := Lib.hid jz1; have JZ2 := Lib.hid jz2
  clear ji0 jz0 jz1 jz2
  have HX := Lib.hid h; clear h
  obtain ⟨⟨n0, n1⟩, _⟩ := (La.E_zero a).1 hE
  have PB := Lib.hid (fun i hi => pm_bounds a p q r hE ht i hi)
  obtain ⟨⟨u0, u1⟩, u2, u3⟩ := pu_bounds a p q r hE ht
  have EE : a.pnE p q r = rlE (a.pl p q r) a.n := by unfold La.pnE; rw [if_pos ((La.pnE1_zero a p q r).2 ⟨hE, ht⟩), rl_lo9 _ _ n0]
  have SX : Hid (∀ i, a.sx p q i = (a.p i).x * p + (a.p i).z * q) := Lib.hid (fun i => rfl)
  have SB : Hid (∀ i, i < a.n → -200000000 ≤ a.sx p q i ∧ a.sx p q i ≤ 200000000) := Lib.hid (fun i hi => by
    obtain ⟨b1, b2⟩ := pm_bounds a p q r hE ht i hi
    unfold La.sx; omega)
  have SL : Hid (-200000000 ≤ mnL (a.sx p q) a.n ∧ mnL (a.sx p q) a.n ≤ 200000000) := Lib.hid (mnL_mem9 _ _ _ _ n0 (fun i hi => SB.out i hi))
  have UJ : Hid (∀ i, a.pl p q r i = (2 * ((a.sx p q i - mnL (a.sx p q) a.n) * 10000000) + a.pu r) / (2 * a.pu r)) := Lib.hid (fun i => by
    have e1 : a.pl p q r i = (2 * (a.pm p q i - mnL (a.pm p q) a.n) + a.pu r) / (2 * a.pu r) := rfl
    have e2 : a.pm p q i = a.sx p q i * 10000000 := rfl
    rw [e1, mnL_scale (a.sx p q) (a.pm p q) (fun i => rfl) a.n, e2]
    congr 2
    omega)
  have PU : Hid (a.pu r = r * a.m.wd * a.ck) := Lib.hid rfl
  have RL := Lib.hid (fun A c w h => rLawOf_any a.ck A a.n c (a.pl p q r) w (by omega) h)
  have RJ := Lib.hid (fun n w h0 h1 => rRoundB_any n (a.pu r) w h0 h1 u2 (by omega))
  rw [EE]
  generalize rlE (a.pl p q r) a.n = E at *
  generalize a.pl p q r = u at *
  generalize a.sx p q = sx at *
  generalize a.pu r = tk at *
  have M0 : Hid (mnL sx 0 = sx 0) := Lib.hid rfl
  have MS : Hid (∀ k, mnL sx (k + 1) = min (mnL sx k) (sx k)) := Lib.hid (fun k => rfl)
  have XS := Lib.hid (fun k => mvs_nx9 sx k)
  have X0 : Hid (mvs sx 0 = []) := (rfl : mvs sx 0 = [])
  have XL := Lib.hid (fun k => mvs_len sx k)
  have YT := Lib.hid (fun k => mvs_nx9 u k)
  have Y0 : Hid (mvs u 0 = []) := (rfl : mvs u 0 = [])
  have YL := Lib.hid (fun k => mvs_len u k)
  clear hE ht EE
  go_enter Tryz.func14, Tryz.ntmps14
  go_wp2_with fail
  obtain ⟨w1, hw_w1⟩ : ∃ q_, q_ = (((w.alloc (.cells #[.slice (some ad) a.n c, .int .i64 a.m.wd, .int .i64 a.m.mt, .int .i64 a.m.sk, .int .i64 a.m.th, .int .i64 a.ck] 26)).alloc (.cells #[.int .i64 p, .int .i64 q, .int .i64 r] 28)).alloc (.cells #[.int .i64 0, .slice none 0 0] 33)) := ⟨_, rfl⟩
  rw [← hw_w1]
  have q10 : w1.cell? ⟨w.heap.size, 0, none⟩ = some (.slice (some ad) a.n c) := by rw [hw_w1]; simp [go_sem]
  have q11 : w1.cell? ⟨w.heap.size, 1, none⟩ = some (.int .i64 a.m.wd) := by rw [hw_w1]; simp [go_sem]
  have q12 : w1.cell? ⟨w.heap.size, 2, none⟩ = some (.int .i64 a.m.mt) := by rw [hw_w1]; simp [go_sem]
  have q13 : w1.cell? ⟨w.heap.size, 3, none⟩ = some (.int .i64 a.m.sk) := by rw [hw_w1]; simp [go_sem]
  have q14 : w1.cell? ⟨w.heap.size, 4, none⟩ = some (.int .i64 a.m.th) := by rw [hw_w1]; simp [go_sem]
  have q15 : w1.cell? ⟨w.heap.size, 5, none⟩ = some (.int .i64 a.ck) := by rw [hw_w1]; simp [go_sem]
  have q16 : w1.cell? ⟨w.heap.size + 1, 0, none⟩ = some (.int .i64 p) := by rw [hw_w1]; simp [go_sem]
  have q17 : w1.cell? ⟨w.heap.size + 1, 1, none⟩ = some (.int .i64 q) := by rw [hw_w1]; simp [go_sem]
  have q18 : w1.cell? ⟨w.heap.size + 1, 2, none⟩ = some (.int .i64 r) := by rw [hw_w1]; simp [go_sem]
  have q19 : w1.cell? ⟨w.heap.size + 1 + 1, 0, none⟩ = some (.int .i64 0) := by rw [hw_w1]; simp [go_sem]
  have q110 : w1.cell? ⟨w.heap.size + 1 + 1, 1, none⟩ = some (.slice none 0 0) := by rw [hw_w1]; simp [go_sem]
  have qf10 : w1.frozen? ⟨w.heap.size + 1 + 1, 0, none⟩ = false := by rw [hw_w1]; simp [go_sem]
  have qf11 : w1.frozen? ⟨w.heap.size + 1 + 1, 1, none⟩ = false := by rw [hw_w1]; simp [go_sem]
  have H1 : Hid (Below w.heap.size w w1) := Lib.hid (by rw [hw_w1]; exact (by repeat (first | exact Below.refl _ _ | refine Below.drew ?_ | refine below_drewN ?_ _ | refine Below.setCell ?_ (by first | omega | (simp; done) | (simp; omega)) _ | refine Below.alloc ?_ (by first | omega | (simp; done) | (simp; omega)) _)))
  have z1 : w1.heap.size = w.heap.size + 3 := by rw [hw_w1]; simp
  clear hw_w1
  have zw1 : w.heap.size + 1 + 1 < w1.heap.size := by omega
  clear z1
  go_wp2_with fail
  go_loopw [6, 7] (fun s6 s7 wr => ∃ (k : Nat) (v : Value), v = s6 ∧ k ≤ a.n ∧ s7 = .int .i64 (k : Int) ∧ wr.ownsRow w1.heap.size 3 1 v k (mvs sx k) ∧ Below w1.heap.size w1 wr) (fun _ s7 _ => a.n - (intOf s7).toNat)
  case atStart => exact ⟨0, _, rfl, Nat.zero_le _, rfl, by rw [X0.out]; exact World.ownsRow_nil _ _ _ _, Below.refl _ _⟩
  case round =>
    obtain ⟨k, v, rfl, hk, rfl, hown, hb⟩ := hrel
    have sz := hb.size
    have HBq := Lib.hid hb
    have HW : Hid (Below w.heap.size w wr) := Lib.hid (below_then H1.out hb)
    have ag := Lib.hid (fun q e => (hown.lt q e).1)
    have AG : Hid (∀ q, v.ownBlock = some q → w1.heap.size ≤ q) := Lib.hid (fun q e => (hown.lt q e).1)
    have r0 : wr.cell? ⟨w.heap.size, 0, none⟩ = some (.slice (some ad) a.n c) := cell_later hb q10
    have r1 : wr.cell? ⟨w.heap.size, 1, none⟩ = some (.int .i64 a.m.wd) := cell_later hb q11
    have r2 : wr.cell? ⟨w.heap.size, 2, none⟩ = some (.int .i64 a.m.mt) := cell_later hb q12
    have r3 : wr.cell? ⟨w.heap.size, 3, none⟩ = some (.int .i64 a.m.sk) := cell_later hb q13
    have r4 : wr.cell? ⟨w.heap.size, 4, none⟩ = some (.int .i64 a.m.th) := cell_later hb q14
    have r5 : wr.cell? ⟨w.heap.size, 5, none⟩ = some (.int .i64 a.ck) := cell_later hb q15
    have r6 : wr.cell? ⟨w.heap.size + 1, 0, none⟩ = some (.int .i64 p) := cell_later hb q16
    have r7 : wr.cell? ⟨w.heap.size + 1, 1, none⟩ = some (.int .i64 q) := cell_later hb q17
    have r8 : wr.cell? ⟨w.heap.size + 1, 2, none⟩ = some (.int .i64 r) := cell_later hb q18
    have r9 : wr.cell? ⟨w.heap.size + 1 + 1, 0, none⟩ = some (.int .i64 0) := cell_later hb q19
    have r10 : wr.cell? ⟨w.heap.size + 1 + 1, 1, none⟩ = some (.slice none 0 0) := cell_later hb q110
    have rf0 : wr.frozen? ⟨w.heap.size + 1 + 1, 0, none⟩ = false := frozen_after hb q19 qf10
    have rf1 : wr.frozen? ⟨w.heap.size + 1 + 1, 1, none⟩ = false := frozen_after hb q110 qf11
    have zr0 := World.block_lt_of_cell? _ _ r0
    dsimp only at zr0
    have zr6 := World.block_lt_of_cell? _ _ r6
    dsimp only at zr6
    have zr9 := World.block_lt_of_cell? _ _ r9
    dsimp only at zr9
    by_cases hlt : k < a.n
    · obtain ⟨c0, c1⟩ := (HX.out.later HW.out).at hlt
      have j0 : (0 : Int) ≤ (k : Int) := Int.natCast_nonneg _
      have j1 : (k : Int) < (a.n : Int) := by omega
      have j8 : (k : Int) < 1000 := by omega
      have zad := World.block_lt_of_cell? _ _ ((HX.out.later H1.out).at hlt).1
      obtain ⟨⟨b0, b1⟩, b2, b3⟩ := PB.out k hlt
      have MK := Lib.hid (SX.out k)
      clear hb
      generalize (a.p k).x = px at *
      generalize (a.p k).z = pz at *
      obtain ⟨dj, hdj⟩ : ∃ dj, dj = px * p + pz * q := ⟨_, rfl⟩
      have DD : Hid (sx k = dj) := Lib.hid (by rw [MK.out, hdj])
      have v1 : IntKind.i64.wrap (px * p) = px * p := IntWalk.i64_in _ (by omega)
      have v2 : IntKind.i64.wrap (pz * q) = pz * q := IntWalk.i64_in _ (by omega)
      have v3 : IntKind.i64.wrap (px * p + pz * q) = dj := by rw [hdj]; exact IntWalk.i64_in _ (by omega)
      have bm6 : (k + 1 : Nat) ≤ maxLen := by unfold maxLen; omega
      have BM6 := Lib.hid bm6; clear bm6
      clear hdj MK r1 r2 r3 r4 r5 r8 r9 r10 rf0 rf1
      go_wp2_with fail
      go_region_held3 (fun w' => w'.cell? ⟨w.heap.size, 0, none⟩ = some (.slice (some ad) a.n c) ∧ w'.cell? ⟨w.heap.size + 1, 0, none⟩ = some (.int .i64 p) ∧ w'.cell? ⟨w.heap.size + 1, 1, none⟩ = some (.int .i64 q) ∧ w'.cell? (ad.add (k * 2)) = some (.int .i64 px) ∧ w'.cell? ⟨(ad.add (k * 2)).block, (ad.add (k * 2)).off + 1, none⟩ = some (.int .i64 pz))
          (first
              | ((go_split_ands; (repeat' apply And.intro) <;> ((repeat (first | (with_reducible assumption) | (with_reducible refine cell_alloc_later ?_ _) | (with_reducible refine cell_drw2 ?_) | (simp [go_sem, World.cell?_alloc_past, *]; done))); done)))
              | (go_split_ands; (repeat' apply And.intro) <;> (refine World.grownBy.cell hgrow6 (by first | (with_reducible assumption) | (with_reducible exact cell_alloc_later (by with_reducible assumption) _)) (fun e => by have q := AG.out _ e.symm; (try dsimp only at q); omega))))
          (first | (refine step_append_lies _ (by rfl) _ _ _ (by rfl) w1.heap.size 3 j0_ _ 1 8 Tryz.underlying31 JI0.out JZ0.out JZ1.out JZ2.out rfl (by omega) v k (mvs sx k) (by rfl) (by first | exact hown.alloc _ | exact (hown.alloc _).drew) ⟨wr.heap.size, 0, none⟩ 1 1 [.int .i64 dj] (by rfl) (by rfl) (World.news_of_block (cs := #[.int .i64 dj]) (t := 3) (fr := (0, 0)) (heap_alloc_new wr _)) (by simp [Value.oneCell']) (by omega) BM6.out (by omega) (by simp; omega) (wr.heap.size + 1) (by simp) ?_; intro g6 cap6 w6 hown6 hgrow6 hat6 hlt6))
      have HO6 := Lib.hid hown6; clear hown6
      have HG6 := Lib.hid hgrow6; clear hgrow6 hat6 hlt6
      go_wp2
      go_roundw
      case rel => exact ⟨k + 1, _, rfl, by omega, by go_num, by rw [XS.out, DD.out]; exact HO6.out, by first | exact (HBq.out.alloc (by omega) _).drew.grown HG6.out (by simp; omega) (fun q e => ag.out q e) | exact (HBq.out.alloc (by omega) _).grown HG6.out (by simp; omega) (fun q e => ag.out q e)⟩
      case measure => simp [intOf]; omega
    · have hk' : k = a.n := by omega
      have kk : decide ((k : Int) < (a.n : Int)) = false := by simp; omega
      subst hk'
      obtain ⟨gt, ct, rfl, hg0, hg1, hR⟩ := own_row hown n0
      have HR := Lib.hid hR
      have c0 := (hR 0 n0).1
      rw [← M0.out] at c0
      obtain ⟨wp, hwp⟩ : ∃ q, q = wr := ⟨_, rfl⟩
      subst hwp
      clear hown hR hb ag AG
      go_wp2_with fail
      go_loopw [8, 9] (fun s8 s9 wr => ∃ k : Nat, k ≤ a.n ∧ s8 = .int .i64 (mnL sx k) ∧ s9 = .int .i64 (k : Int) ∧ wr = wp) (fun _ s9 _ => a.n - (intOf s9).toNat)
      case atStart => exact ⟨0, Nat.zero_le _, rfl, rfl, rfl⟩
      case round =>
        obtain ⟨k, hk, rfl, rfl, rfl⟩ := hrel
        clear c0
        by_cases hlt : k < a.n
        · have e0 := (HR.out k hlt).1
          have j0 : (0 : Int) ≤ (k : Int) := Int.natCast_nonneg _
          have j1 : (k : Int) < (a.n : Int) := by omega
          have j8 : (k : Int) < 1000 := by omega
          have MK := Lib.hid (MS.out k)
          generalize mnL sx k = y at *
          generalize sx k = z at *
          go_wp2
          go_roundw
          case rel => exact ⟨k + 1, by omega, by rw [MK.out], by go_num, by first | trivial | rfl⟩
          case measure => simp [intOf]; omega
        · have hk' : k = a.n := by omega
          have kk2 : decide ((k : Int) < (a.n : Int)) = false := by simp; omega
          subst hk'
          obtain ⟨l0, l1⟩ := SL.out
          generalize mnL sx a.n = lo at *
          obtain ⟨wp, hwp⟩ : ∃ q, q = wr := ⟨_, rfl⟩
          subst hwp
          go_wp2_with fail
          go_loopw [10, 11] (fun s10 s11 wr => ∃ (j : Nat) (v : Value), v = s10 ∧ j ≤ a.n ∧ s11 = .int .i64 (j : Int) ∧ wr.ownsRow wp.heap.size 3 1 v j (mvs u j) ∧ Below wp.heap.size wp wr) (fun _ s11 _ => a.n - (intOf s11).toNat)
          case atStart => exact ⟨0, _, rfl, Nat.zero_le _, rfl, by rw [Y0.out]; exact World.ownsRow_nil _ _ _ _, Below.refl _ _⟩
          case round =>
            obtain ⟨j, v, rfl, hj, rfl, hown, hb⟩ := hrel
            have sz3 := hb.size
            have HBq := Lib.hid hb
            have HWq : Hid (Below w.heap.size w wr) := Lib.hid (below_then HW.out hb)
            have ag := Lib.hid (fun q e => (hown.lt q e).1)
            have AG : Hid (∀ q, v.ownBlock = some q → wp.heap.size ≤ q) := Lib.hid (fun q e => (hown.lt q e).1)
            have s0 : wr.cell? ⟨w.heap.size, 0, none⟩ = some (.slice (some ad) a.n c) := cell_later hb r0
            have s1 : wr.cell? ⟨w.heap.size, 1, none⟩ = some (.int .i64 a.m.wd) := cell_later hb r1
            have s2 : wr.cell? ⟨w.heap.size, 2, none⟩ = some (.int .i64 a.m.mt) := cell_later hb r2
            have s3 : wr.cell? ⟨w.heap.size, 3, none⟩ = some (.int .i64 a.m.sk) := cell_later hb r3
            have s4 : wr.cell? ⟨w.heap.size, 4, none⟩ = some (.int .i64 a.m.th) := cell_later hb r4
            have s5 : wr.cell? ⟨w.heap.size, 5, none⟩ = some (.int .i64 a.ck) := cell_later hb r5
            have s6 : wr.cell? ⟨w.heap.size + 1, 0, none⟩ = some (.int .i64 p) := cell_later hb r6
            have s7 : wr.cell? ⟨w.heap.size + 1, 1, none⟩ = some (.int .i64 q) := cell_later hb r7
            have s8 : wr.cell? ⟨w.heap.size + 1, 2, none⟩ = some (.int .i64 r) := cell_later hb r8
            have s9 : wr.cell? ⟨w.heap.size + 1 + 1, 0, none⟩ = some (.int .i64 0) := cell_later hb r9
            have s10 : wr.cell? ⟨w.heap.size + 1 + 1, 1, none⟩ = some (.slice none 0 0) := cell_later hb r10
            have sf0 : wr.frozen? ⟨w.heap.size + 1 + 1, 0, none⟩ = false := frozen_after hb r9 rf0
            have sf1 : wr.frozen? ⟨w.heap.size + 1 + 1, 1, none⟩ = false := frozen_after hb r10 rf1
            have zs0 := World.block_lt_of_cell? _ _ s0
            dsimp only at zs0
            have zs6 := World.block_lt_of_cell? _ _ s6
            dsimp only at zs6
            have zs9 := World.block_lt_of_cell? _ _ s9
            dsimp only at zs9
            by_cases hlt : j < a.n
            · have e0 := (HR.out.later hb j hlt).1
              have j0 : (0 : Int) ≤ (j : Int) := Int.natCast_nonneg _
              have j1 : (j : Int) < (a.n : Int) := by omega
              have j8 : (j : Int) < 1000 := by omega
              obtain ⟨b0, b1⟩ := SB.out j hlt
              have DJ := Lib.hid (UJ.out j)
              clear hb
              generalize sx j = x at *
              have RK := Lib.hid (fun w => RJ.out ((x - lo) * 10000000) w (by omega) (by omega))
              obtain ⟨dj, hdj⟩ : ∃ dj, dj = u j := ⟨_, rfl⟩
              have DD : Hid (u j = dj) := Lib.hid hdj.symm
              rw [← DJ.out, ← hdj] at RK
              have v1 : IntKind.i64.wrap (x - lo) = x - lo := IntWalk.i64_in _ (by omega)
              have v2 : IntKind.i64.wrap ((x - lo) * 10000000) = (x - lo) * 10000000 := IntWalk.i64_in _ (by omega)
              have v3 : IntKind.i64.wrap (r * a.m.wd) = r * a.m.wd := IntWalk.i64_in _ (by omega)
              have v4 : IntKind.i64.wrap (r * a.m.wd * a.ck) = tk := by rw [← PU.out]; exact IntWalk.i64_in _ (by omega)
              have bm6 : (j + 1 : Nat) ≤ maxLen := by unfold maxLen; omega
              have BM6 := Lib.hid bm6; clear bm6
              clear hdj DJ s0 s2 s3 s4 s6 s7 s9 s10 sf0 sf1
              go_wp2_with fail
              go_region_held3 (fun w' => w'.cell? ⟨w.heap.size, 1, none⟩ = some (.int .i64 a.m.wd) ∧ w'.cell? ⟨w.heap.size, 5, none⟩ = some (.int .i64 a.ck) ∧ w'.cell? ⟨w.heap.size + 1, 2, none⟩ = some (.int .i64 r) ∧ w'.cell? ⟨gt, j, none⟩ = some (.int .i64 x))
                  (first
              | ((go_split_ands; (repeat' apply And.intro) <;> ((repeat (first | (with_reducible assumption) | (with_reducible refine cell_alloc_later ?_ _) | (with_reducible refine cell_drw2 ?_) | (simp [go_sem, World.cell?_alloc_past, *]; done))); done)))
              | (go_split_ands; (repeat' apply And.intro) <;> (refine World.grownBy.cell hgrow6 (by first | (with_reducible assumption) | (with_reducible exact cell_alloc_later (by with_reducible assumption) _)) (fun e => by have q := AG.out _ e.symm; (try dsimp only at q); omega))))
                  (first | (go_at_call 47; (with_reducible refine (RK.out _).mono ?_); rintro e w' ⟨rfl, rfl⟩) | (refine step_append_lies _ (by rfl) _ _ _ (by rfl) wp.heap.size 3 j0_ _ 1 8 Tryz.underlying31 JI0.out JZ0.out JZ1.out JZ2.out rfl (by omega) v j (mvs u j) (by rfl) (by first | exact hown.alloc _ | exact (hown.alloc _).drew) ⟨wr.heap.size, 0, none⟩ 1 1 [.int .i64 dj] (by rfl) (by rfl) (World.news_of_block (cs := #[.int .i64 dj]) (t := 3) (fr := (0, 0)) (heap_alloc_new wr _)) (by simp [Value.oneCell']) (by omega) BM6.out (by omega) (by simp; omega) (wr.heap.size + 1) (by simp) ?_; intro g6 cap6 w6 hown6 hgrow6 hat6 hlt6))
              have HO6 := Lib.hid hown6; clear hown6
              have HG6 := Lib.hid hgrow6; clear hgrow6 hat6 hlt6
              go_wp2
              go_roundw
              case rel => exact ⟨j + 1, _, rfl, by omega, by go_num, by rw [YT.out, DD.out]; exact HO6.out, by first | exact (HBq.out.alloc (by omega) _).drew.grown HG6.out (by simp; omega) (fun q e => ag.out q e) | exact (HBq.out.alloc (by omega) _).grown HG6.out (by simp; omega) (fun q e => ag.out q e)⟩
              case measure => simp [intOf]; omega
            · have hj' : j = a.n := by omega
              have kj : decide ((j : Int) < (a.n : Int)) = false := by simp; omega
              subst hj'
              obtain ⟨gd, cd, rfl, hd0, hd1, hD⟩ := own_row hown n0
              have HD := Lib.hid hD
              clear hown hb hD
              go_wp2_with fail
              refine (RL.out _ _ _ HD.out.at).mono ?_
              rintro e_ w2 ⟨A5, n5, c5, rfl, hgd, hbd, hb2⟩
              have t0 : w2.cell? ⟨w.heap.size, 0, none⟩ = some (.slice (some ad) a.n c) := cell_later hb2 s0
              have t1 : w2.cell? ⟨w.heap.size, 1, none⟩ = some (.int .i64 a.m.wd) := cell_later hb2 s1
              have t2 : w2.cell? ⟨w.heap.size, 2, none⟩ = some (.int .i64 a.m.mt) := cell_later hb2 s2
              have t3 : w2.cell? ⟨w.heap.size, 3, none⟩ = some (.int .i64 a.m.sk) := cell_later hb2 s3
              have t4 : w2.cell? ⟨w.heap.size, 4, none⟩ = some (.int .i64 a.m.th) := cell_later hb2 s4
              have t5 : w2.cell? ⟨w.heap.size, 5, none⟩ = some (.int .i64 a.ck) := cell_later hb2 s5
              have t6 : w2.cell? ⟨w.heap.size + 1, 0, none⟩ = some (.int .i64 p) := cell_later hb2 s6
              have t7 : w2.cell? ⟨w.heap.size + 1, 1, none⟩ = some (.int .i64 q) := cell_later hb2 s7
              have t8 : w2.cell? ⟨w.heap.size + 1, 2, none⟩ = some (.int .i64 r) := cell_later hb2 s8
              have t9 : w2.cell? ⟨w.heap.size + 1 + 1, 0, none⟩ = some (.int .i64 0) := cell_later hb2 s9
              have t10 : w2.cell? ⟨w.heap.size + 1 + 1, 1, none⟩ = some (.slice none 0 0) := cell_later hb2 s10
              have tf0 : w2.frozen? ⟨w.heap.size + 1 + 1, 0, none⟩ = false := frozen_after hb2 s9 sf0
              have tf1 : w2.frozen? ⟨w.heap.size + 1 + 1, 1, none⟩ = false := frozen_after hb2 s10 sf1
              have zt0 := World.block_lt_of_cell? _ _ t0
              dsimp only at zt0
              have zt6 := World.block_lt_of_cell? _ _ t6
              dsimp only at zt6
              have zt9 := World.block_lt_of_cell? _ _ t9
              dsimp only at zt9
              have W2 : Hid (Below w.heap.size w w2) := Lib.hid (below_then HWq.out hb2)
              have R2 := Lib.hid (HD.out.later hb2)
              have zz := hb2.size
              clear hb2
              by_cases hE : E = 0
              · obtain ⟨p1, p2, p3⟩ := hgd hE
                have p3' := p3.symm
                subst p1
                subst p2
                subst p3'
                have HE := Lib.hid hE
                rw [if_pos hE, hE]
                clear hgd hbd hE
                go_wp2
                refine bodyPost_ret (v := .tuple #[.agg #[.int .i64 (a.ck), .slice (some ⟨gd, 0, none⟩) a.n cd], .int .i64 (0)]) (by simp [results, Tryz.results14, go_sem, World.cell?_alloc_past, *]) rfl ?_
                rw [HE.out]
                have qb : Below w.heap.size w ((w2.setCell ⟨w.heap.size + 1 + 1, 0, none⟩ (.int .i64 a.ck)).setCell ⟨w.heap.size + 1 + 1, 1, none⟩ (.slice (some ⟨gd, 0, none⟩) a.n cd)) := (W2.out.setCell (by dsimp only; omega) _).setCell (by dsimp only; omega) _
                exact LwP.good rfl (by omega) (by simp; omega) ((R2.out.set _ _ _ (by omega)).set _ _ _ (by omega)).at qb
              · obtain ⟨rfl, rfl, rfl⟩ := hbd hE
                have HE := Lib.hid hE
                rw [if_neg hE]
                clear hgd hbd hE
                go_wp2
                exact bodyPost_ret (v := .tuple #[.agg #[.int .i64 (0), .slice none 0 0], .int .i64 (E)]) (by simp [results, Tryz.results14, go_sem, World.cell?_alloc_past, *]) rfl (LwP.bad HE.out rfl (by (repeat (first | (with_reducible exact W2.out) | (with_reducible refine Below.setCell ?_ ?_ _) | (with_reducible refine below_alloc_top ?_ _) | (with_reducible refine Below.drew ?_))); all_goals (first | omega | (simp; done) | (simp; omega))))
end Go.Proofs.YtkkaomgdlnejcaaGreatDoor
