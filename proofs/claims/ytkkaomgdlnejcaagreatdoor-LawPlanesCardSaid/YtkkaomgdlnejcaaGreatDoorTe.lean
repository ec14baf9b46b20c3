/- the law of a direction -/
import Derived.Test.YtkkaomgdlnejcaaGreatDoorTk
import Derived.Test.YtkkaomgdlnejcaaGreatDoorTt
import Derived.Test.YtkkaomgdlnejcaaGreatDoorV3
namespace Go.Proofs.YtkkaomgdlnejcaaGreatDoor
open Go.RowKit Go.Shelf RayM
set_option linter.unusedSimpArgs false
set_option linter.unusedVariables false
/-- the moments of a direction, and its law -/
def La.pm (a : La) (p q : Int) (i : Nat) : Int := ((a.p i).x * p + (a.p i).z * q) * 10000000
def La.pu (a : La) (r : Int) : Int := r * a.m.wd * a.ck
def La.pl (a : La) (p q r : Int) : Nat → Int := dly (a.pm p q) a.n (a.pu r)
def La.pnE1 (a : La) (p q r : Int) : Int := fst [a.E, tuE p q r]
def La.pnE (a : La) (p q r : Int) : Int := if a.pnE1 p q r = 0 then loE (a.pl p q r) a.n else a.pnE1 p q r
theorem La.pnE1_zero (a : La) (p q r : Int) : a.pnE1 p q r = 0 ↔ a.E = 0 ∧ tuE p q r = 0 := by
  unfold La.pnE1; simp only [fst]
  by_cases h : a.E = 0
  · by_cases k : tuE p q r = 0 <;> simp [h, k]
  · simp [h]
theorem prod_le (x p B C : Int) (h0 : -B ≤ x) (h1 : x ≤ B) (k0 : -C ≤ p) (k1 : p ≤ C) (hB : 0 ≤ B) : -(B * C) ≤ x * p ∧ x * p ≤ B * C := by
  have h := Int.natAbs_mul x p
  have hx : (x.natAbs : Int) ≤ B := by omega
  have hp : (p.natAbs : Int) ≤ C := by omega
  have hm : ((x.natAbs * p.natAbs : Nat) : Int) ≤ B * C := by
    rw [Int.natCast_mul]
    exact Int.mul_le_mul hx hp (Int.natCast_nonneg _) hB
  rw [← h] at hm
  omega
theorem el_in (f : Sp) (h : elE f = 0) : (-100000 ≤ f.x ∧ f.x ≤ 100000) ∧ (-100000 ≤ f.z ∧ f.z < 0) := by
  unfold elE placeE at h
  have h1 : inB f.x (-100000) 100000 = true := by
    cases q : inB f.x (-100000) 100000
    · rw [q] at h; simp [fst, unl] at h
    · rfl
  have h2 : inB f.z (-100000) 100000 = true := by
    cases q : inB f.z (-100000) 100000
    · rw [h1, q] at h; simp [fst, unl] at h
    · rfl
  have h3 : decide (f.z < 0) = true := by
    cases q : decide (f.z < 0)
    · rw [h1, h2, q] at h; simp [fst, unl] at h
    · rfl
  have k1 : -100000 ≤ f.x ∧ f.x ≤ 100000 := by simpa [inB] using h1
  have k2 : -100000 ≤ f.z ∧ f.z ≤ 100000 := by simpa [inB] using h2
  have k3 : f.z < 0 := by simpa using h3
  omega
/-- what is multiplied stays small -/
theorem pm_bounds (a : La) (p q r : Int) (hE : a.E = 0) (ht : tuE p q r = 0) (i : Nat) (hi : i < a.n) :
    (-100000000 ≤ (a.p i).x * p ∧ (a.p i).x * p ≤ 100000000) ∧ (-100000000 ≤ (a.p i).z * q ∧ (a.p i).z * q ≤ 100000000) := by
  obtain ⟨_, he, _⟩ := (La.E_zero a).1 hE
  obtain ⟨⟨r0, r1⟩, ⟨p0, p1⟩, ⟨q0, q1⟩, _⟩ := tuE_zero p q r ht
  obtain ⟨⟨x0, x1⟩, z0, z1⟩ := el_in _ (he i hi)
  have b1 := prod_le (a.p i).x p 100000 1000 (by omega) (by omega) (by omega) (by omega) (by omega)
  have b2 := prod_le (a.p i).z q 100000 1000 (by omega) (by omega) (by omega) (by omega) (by omega)
  omega
theorem pu_bounds (a : La) (p q r : Int) (hE : a.E = 0) (ht : tuE p q r = 0) : (1 ≤ r * a.m.wd ∧ r * a.m.wd ≤ 10000000) ∧ (1 ≤ a.pu r ∧ a.pu r ≤ 10000000000000) := by
  obtain ⟨_, _, om, k0, k1⟩ := (La.E_zero a).1 hE
  obtain ⟨⟨r0, r1⟩, _⟩ := tuE_zero p q r ht
  have w0 := om.a1
  have w1 := om.a2
  have a1 := Int.mul_pos (show 0 < r by omega) (show 0 < a.m.wd by omega)
  have a2 := mul_le r a.m.wd 1000 10000 (by omega) (by omega) r1 w1
  have a3 := Int.mul_pos a1 (show 0 < a.ck by omega)
  have a4 := mul_le (r * a.m.wd) a.ck 10000000 1000000 (by omega) (by omega) (by omega) k1
  unfold La.pu
  omega
theorem mvs_nx9 (l : Nat → Int) (k : Nat) : mvs l (k + 1) = mvs l k ++ [.int .i64 (l k)] := by simp [mvs, List.range_succ]
theorem upto_mv9 (f : Nat → Int) (n : Nat) : (upto f n).map (Value.int .i64) = mvs f n := by simp [upto, mvs]
/-- the answer of lawOf is a law, or nothing -/
theorem lo_lw (f : Nat → Int) (n : Nat) (ck : Int) (hn : 0 < n) (w : World) (e : Ending) (w' : World) (v : Value) (e1 : e = .returned (.tuple #[.agg #[.int .i64 (loC f n ck), v], .int .i64 (loE f n)])) (ho : w'.ownsRow w.heap.size 3 1 v (loX f n).length ((loX f n).map (Value.int .i64))) (hb : Below w.heap.size w w') : LwP ck f n (loE f n) w e w' := by
  have own_lt : ∀ (A : Option Addr) (m c : Nat), v = .slice A m c → ∀ a, A = some a → w.heap.size ≤ a.block ∧ a.block < w'.heap.size := fun A m c hv a ha => by
    rcases ho.2 with ⟨k, _⟩ | ⟨g, cap, cur, k, hb', hgb, _⟩
    · rw [hv] at k; simp at k; rw [k.1] at ha; cases ha
    · rw [hv] at k; simp at k; rw [k.1] at ha; cases ha; exact ⟨hb', (Array.getElem?_eq_some_iff.1 hgb).1⟩
  by_cases h : 1000000 < mxL f n
  · have q1 : loE f n = 8 := by unfold loE; rw [if_pos h]
    have q2 : loC f n ck = 0 := by unfold loC; rw [if_pos h]
    have q3 : loX f n = [] := by unfold loX; rw [if_pos h]
    rw [q1]
    rw [q1, q2] at e1
    rw [q3] at ho
    obtain ⟨A5, c5, hv, _⟩ := own_form ho
    rw [hv] at e1
    exact ⟨_, A5, _, c5, e1, ⟨by rw [if_neg (by decide)], fun q => absurd q (by decide), fun _ => rfl⟩, fun a ha => (own_lt _ _ _ hv a ha).1, fun a ha => (own_lt _ _ _ hv a ha).2, hb⟩
  · have q1 : loE f n = 0 := by unfold loE; rw [if_neg h]
    have q2 : loC f n ck = ck := by unfold loC; rw [if_neg h]
    have q3 : loX f n = upto f n := by unfold loX; rw [if_neg h]
    have lu : (upto f n).length = n := by simp [upto]
    rw [q1]
    rw [q1, q2] at e1
    rw [q3, upto_mv9, lu] at ho
    obtain ⟨g, c', hv, g0, g1, hR⟩ := own_row ho hn
    rw [hv] at e1
    exact LwP.good e1 g0 g1 hR.at hb
set_option maxRecDepth 100000 in
set_option maxHeartbeats 4000000 in
theorem plane_any (a : La) (p q r : Int) (A : Option Addr) (c : Nat) (w : World) (h : SpAt A a.n a.p w) (hm : a.n ≤ 1000) :
    Calls Tryz.prog 10 #[.agg #[.slice A a.n c, .int .i64 a.m.wd, .int .i64 a.m.mt, .int .i64 a.m.sk, .int .i64 a.m.th, .int .i64 a.ck], .agg #[.int .i64 p, .int .i64 q, .int .i64 r]] w fun e_ w' => LwP a.ck (a.pl p q r) a.n (a.pnE p q r) w e_ w' := by
  obtain ⟨j0_, ji0, jz0, jz1, jz2⟩ := info_parts infoJ
  have JI0 := Lib.hid ji0; have JZ0 := Lib.hid jz0; have JZ1 := Lib.hid jz1; have JZ2 := Lib.hid jz2
  clear ji0 jz0 jz1 jz2
  have HX := Lib.hid h; clear h
  have HE := Lib.hid (fun w h => arrayErr_any a A c w h (by omega))
  have HTN := Lib.hid (fun w => checkTurn_any p q r w)
  have EF : Hid (fst [a.E, tuE p q r] = a.pnE1 p q r) := Lib.hid rfl
  by_cases hz : a.pnE1 p q r = 0
  · obtain ⟨hE, ht⟩ := (La.pnE1_zero a p q r).1 hz
    obtain ⟨⟨n0, n1⟩, _⟩ := (La.E_zero a).1 hE
    have PB := Lib.hid (fun i hi => pm_bounds a p q r hE ht i hi)
    obtain ⟨⟨u0, u1⟩, u2, u3⟩ := pu_bounds a p q r hE ht
    have EE : a.pnE p q r = loE (a.pl p q r) a.n := by unfold La.pnE; rw [if_pos hz]
    have HLO := Lib.hid (fun A0 m0 c0 a1 a2 a3 a4 A1 c1 w hI => (lawOf_any A0 m0 c0 a1 a2 a3 a4 a.ck A1 a.n c1 (a.pm p q) (a.pu r) n0 (by omega) (fun i hi => by
      obtain ⟨b1, b2⟩ := pm_bounds a p q r hE ht i hi
      unfold La.pm; omega) u2 (by omega) w hI).mono (fun e_ w'' ⟨v, e1, ho, hb⟩ => lo_lw (dly (a.pm p q) a.n (a.pu r)) a.n a.ck n0 w e_ w'' v e1 ho hb))
    have PM : Hid (∀ i, a.pm p q i = ((a.p i).x * p + (a.p i).z * q) * 10000000) := Lib.hid (fun i => rfl)
    have PU : Hid (a.pu r = r * a.m.wd * a.ck) := Lib.hid rfl
    have PLD : Hid (a.pl p q r = dly (a.pm p q) a.n (a.pu r)) := Lib.hid rfl
    rw [hz] at EF
    rw [EE, PLD.out]
    generalize dly (a.pm p q) a.n (a.pu r) = f at *
    generalize loE f a.n = E at *
    generalize a.pm p q = ms at *
    generalize a.pu r = tk at *
    generalize tuE p q r = et at *
    generalize a.E = ea at *
    have XS := Lib.hid (fun k => mvs_nx9 ms k)
    have X0 : Hid (mvs ms 0 = []) := (rfl : mvs ms 0 = [])
    have XL := Lib.hid (fun k => mvs_len ms k)
    clear hz hE ht EE
    go_enter Tryz.func10, Tryz.ntmps10
    go_wp2
    have hS : Below w.heap.size w (((w.alloc (.cells #[.slice A a.n c, .int .i64 a.m.wd, .int .i64 a.m.mt, .int .i64 a.m.sk, .int .i64 a.m.th, .int .i64 a.ck] 26)).alloc (.cells #[.int .i64 p, .int .i64 q, .int .i64 r] 28)).alloc (.cells #[.int .i64 0, .slice none 0 0] 33)) := (by repeat (first | exact Below.refl _ _ | refine Below.drew ?_ | refine below_drewN ?_ _ | refine Below.setCell ?_ (by first | omega | (simp; done) | (simp; omega)) _ | refine Below.alloc ?_ (by first | omega | (simp; done) | (simp; omega)) _))
    go_region_held3 (fun w' => w'.cell? ⟨w.heap.size, 0, none⟩ = some (.slice A a.n c) ∧ w'.cell? ⟨w.heap.size, 1, none⟩ = some (.int .i64 a.m.wd) ∧ w'.cell? ⟨w.heap.size, 2, none⟩ = some (.int .i64 a.m.mt) ∧ w'.cell? ⟨w.heap.size, 3, none⟩ = some (.int .i64 a.m.sk) ∧ w'.cell? ⟨w.heap.size, 4, none⟩ = some (.int .i64 a.m.th) ∧ w'.cell? ⟨w.heap.size, 5, none⟩ = some (.int .i64 a.ck) ∧ w'.cell? ⟨w.heap.size + 1, 0, none⟩ = some (.int .i64 p) ∧ w'.cell? ⟨w.heap.size + 1, 1, none⟩ = some (.int .i64 q) ∧ w'.cell? ⟨w.heap.size + 1, 2, none⟩ = some (.int .i64 r) ∧ w'.cell? ⟨w.heap.size + 1 + 1, 0, none⟩ = some (.int .i64 0) ∧ w'.cell? ⟨w.heap.size + 1 + 1, 1, none⟩ = some (.slice none 0 0) ∧ w'.frozen? ⟨w.heap.size + 1 + 1, 0, none⟩ = false ∧ w'.frozen? ⟨w.heap.size + 1 + 1, 1, none⟩ = false ∧ Below w.heap.size w w') (((go_split_ands; (repeat' apply And.intro) <;> first | (with_reducible assumption) | exact cell_later (by assumption) (by assumption) | exact frozen_after (by assumption) (by assumption) (by assumption) | exact below_then (by assumption) (by assumption) | exact below_alloc_top (by assumption) _ | exact cell_alloc_later (by assumption) _ | exact frozen_alloc_later (by assumption) (by assumption) _ | exact Below.drew (by assumption) | (simp [go_sem, World.cell?_alloc_past, *]; done))))
      (first
        | (go_split_ands; go_at_call 43; (with_reducible refine (HE.out _ (HX.out.later (by with_reducible assumption))).mono ?_); rintro e w' ⟨rfl, hb⟩)
        | (go_split_ands; go_at_call 44; (with_reducible refine (HTN.out _).mono ?_); rintro e w' ⟨rfl, hb⟩)
        | (go_at_call 42; refine (firstError_any _ [ea, et] _ (by simp) (by first | exact cells_drew _ _ (by simp) _ _ | exact cells_new _ _ (by simp) _ _)).mono ?_; rw [EF.out]; rintro e w' ⟨rfl, rfl⟩))
    go_split_ands
    generalize hW : w'.alloc (Obj.cells #[.int .i64 ea, .int .i64 et] 34) = W1 at *
    clear hW
    have y0 : W1.cell? ⟨w.heap.size, 0, none⟩ = some (.slice A a.n c)   := by with_reducible assumption
    have y1 : W1.cell? ⟨w.heap.size, 1, none⟩ = some (.int .i64 a.m.wd)   := by with_reducible assumption
    have y2 : W1.cell? ⟨w.heap.size, 2, none⟩ = some (.int .i64 a.m.mt)   := by with_reducible assumption
    have y3 : W1.cell? ⟨w.heap.size, 3, none⟩ = some (.int .i64 a.m.sk)   := by with_reducible assumption
    have y4 : W1.cell? ⟨w.heap.size, 4, none⟩ = some (.int .i64 a.m.th)   := by with_reducible assumption
    have y5 : W1.cell? ⟨w.heap.size, 5, none⟩ = some (.int .i64 a.ck)   := by with_reducible assumption
    have y6 : W1.cell? ⟨w.heap.size + 1, 0, none⟩ = some (.int .i64 p)   := by with_reducible assumption
    have y7 : W1.cell? ⟨w.heap.size + 1, 1, none⟩ = some (.int .i64 q)   := by with_reducible assumption
    have y8 : W1.cell? ⟨w.heap.size + 1, 2, none⟩ = some (.int .i64 r)   := by with_reducible assumption
    have y9 : W1.cell? ⟨w.heap.size + 1 + 1, 0, none⟩ = some (.int .i64 0)   := by with_reducible assumption
    have y10 : W1.cell? ⟨w.heap.size + 1 + 1, 1, none⟩ = some (.slice none 0 0)   := by with_reducible assumption
    have yf0 : W1.frozen? ⟨w.heap.size + 1 + 1, 0, none⟩ = false   := by with_reducible assumption
    have yf1 : W1.frozen? ⟨w.heap.size + 1 + 1, 1, none⟩ = false   := by with_reducible assumption
    have yB0 : Below w.heap.size w W1 := by with_reducible assumption
    have yB := Lib.hid yB0; clear yB0
    have yz0 := World.block_lt_of_cell? _ _ y0
    dsimp only at yz0
    have yz1 := World.block_lt_of_cell? _ _ y6
    dsimp only at yz1
    have yz2 := World.block_lt_of_cell? _ _ y9
    dsimp only at yz2
    clear yz0 yz1 yz2
    have zy0 := World.block_lt_of_cell? _ _ y0
    have zy6 := World.block_lt_of_cell? _ _ y6
    have zy9 := World.block_lt_of_cell? _ _ y9
    dsimp only at zy0 zy6 zy9
    go_wp2_with fail
    go_loopw [7, 9, 23] (fun s7 s9 s23 wr => ∃ (k : Nat) (v u : Value), v = s7 ∧ u = s9 ∧ k ≤ a.n ∧ s23 = .int .i64 (k : Int) ∧ wr.ownsRow W1.heap.size 3 1 v k (mvs ms k) ∧ Below W1.heap.size W1 wr) (fun _ _ s23 _ => a.n - (intOf s23).toNat)
    case atStart => exact ⟨0, _, _, rfl, rfl, Nat.zero_le _, rfl, by rw [X0.out]; exact World.ownsRow_nil _ _ _ _, Below.refl _ _⟩
    case round =>
      obtain ⟨k, v, u, rfl, rfl, hk, rfl, hown, hb⟩ := hrel
      have HB := Lib.hid hb
      have HW : Hid (Below w.heap.size w wr) := Lib.hid (below_then yB.out hb)
      have szr := hb.size
      have r0 : wr.cell? ⟨w.heap.size, 0, none⟩ = some (.slice A a.n c) := cell_later hb y0
      have r1 : wr.cell? ⟨w.heap.size, 1, none⟩ = some (.int .i64 a.m.wd) := cell_later hb y1
      have r2 : wr.cell? ⟨w.heap.size, 2, none⟩ = some (.int .i64 a.m.mt) := cell_later hb y2
      have r3 : wr.cell? ⟨w.heap.size, 3, none⟩ = some (.int .i64 a.m.sk) := cell_later hb y3
      have r4 : wr.cell? ⟨w.heap.size, 4, none⟩ = some (.int .i64 a.m.th) := cell_later hb y4
      have r5 : wr.cell? ⟨w.heap.size, 5, none⟩ = some (.int .i64 a.ck) := cell_later hb y5
      have r6 : wr.cell? ⟨w.heap.size + 1, 0, none⟩ = some (.int .i64 p) := cell_later hb y6
      have r7 : wr.cell? ⟨w.heap.size + 1, 1, none⟩ = some (.int .i64 q) := cell_later hb y7
      have r8 : wr.cell? ⟨w.heap.size + 1, 2, none⟩ = some (.int .i64 r) := cell_later hb y8
      have r9 : wr.cell? ⟨w.heap.size + 1 + 1, 0, none⟩ = some (.int .i64 0) := cell_later hb y9
      have r10 : wr.cell? ⟨w.heap.size + 1 + 1, 1, none⟩ = some (.slice none 0 0) := cell_later hb y10
      have rf0 : wr.frozen? ⟨w.heap.size + 1 + 1, 0, none⟩ = false := frozen_after hb y9 yf0
      have rf1 : wr.frozen? ⟨w.heap.size + 1 + 1, 1, none⟩ = false := frozen_after hb y10 yf1
      have zr0 := World.block_lt_of_cell? _ _ r0
      have zr6 := World.block_lt_of_cell? _ _ r6
      have zr9 := World.block_lt_of_cell? _ _ r9
      dsimp only at zr0 zr6 zr9
      clear hb
      by_cases hlt : k < a.n
      · obtain ⟨ad, rfl⟩ := HX.out.some (by omega)
        obtain ⟨c0, c1⟩ := (HX.out.later HW.out).at hlt
        have j0 : (0 : Int) ≤ (k : Int) := Int.natCast_nonneg _
        have j1 : (k : Int) < (a.n : Int) := by omega
        have j8 : (k : Int) < 1000 := by omega
        obtain ⟨⟨b0, b1⟩, b2, b3⟩ := PB.out k hlt
        have MK := Lib.hid (PM.out k)
        generalize (a.p k).x = px at *
        generalize (a.p k).z = pz at *
        have v1 : IntKind.i64.wrap (px * p) = px * p := IntWalk.i64_in _ (by omega)
        have v2 : IntKind.i64.wrap (pz * q) = pz * q := IntWalk.i64_in _ (by omega)
        have v3 : IntKind.i64.wrap (px * p + pz * q) = px * p + pz * q := IntWalk.i64_in _ (by omega)
        have v4 : IntKind.i64.wrap ((px * p + pz * q) * 10000000) = (px * p + pz * q) * 10000000 := IntWalk.i64_in _ (by omega)
        go_upto_region 8 with fail
        obtain ⟨wF, hw_⟩ : ∃ q, q = wr.alloc (.cells #[.int .i64 px, .int .i64 pz] 45) := ⟨_, rfl⟩
        rw [← hw_]
        have hbF : Below wr.heap.size wr wF := by rw [hw_]; exact (Below.refl _ _).alloc (Nat.le_refl _) _
        have e0 : wF.cell? ⟨wr.heap.size, 0, none⟩ = some (.int .i64 px) := by rw [hw_]; simp [go_sem]
        have e1 : wF.cell? ⟨wr.heap.size, 1, none⟩ = some (.int .i64 pz) := by rw [hw_]; simp [go_sem]
        have szF := hbF.size
        have OF := Lib.hid (own_later hown hbF)
        have HBF := Lib.hid (below_then HB.out hbF)
        have ag := Lib.hid (fun q e => (OF.out.lt q e).1)
        have s0 : wF.cell? ⟨w.heap.size, 0, none⟩ = some (.slice (some ad) a.n c) := cell_later hbF r0
        have s1 : wF.cell? ⟨w.heap.size, 1, none⟩ = some (.int .i64 a.m.wd) := cell_later hbF r1
        have s2 : wF.cell? ⟨w.heap.size, 2, none⟩ = some (.int .i64 a.m.mt) := cell_later hbF r2
        have s3 : wF.cell? ⟨w.heap.size, 3, none⟩ = some (.int .i64 a.m.sk) := cell_later hbF r3
        have s4 : wF.cell? ⟨w.heap.size, 4, none⟩ = some (.int .i64 a.m.th) := cell_later hbF r4
        have s5 : wF.cell? ⟨w.heap.size, 5, none⟩ = some (.int .i64 a.ck) := cell_later hbF r5
        have s6 : wF.cell? ⟨w.heap.size + 1, 0, none⟩ = some (.int .i64 p) := cell_later hbF r6
        have s7 : wF.cell? ⟨w.heap.size + 1, 1, none⟩ = some (.int .i64 q) := cell_later hbF r7
        have s8 : wF.cell? ⟨w.heap.size + 1, 2, none⟩ = some (.int .i64 r) := cell_later hbF r8
        have s9 : wF.cell? ⟨w.heap.size + 1 + 1, 0, none⟩ = some (.int .i64 0) := cell_later hbF r9
        have s10 : wF.cell? ⟨w.heap.size + 1 + 1, 1, none⟩ = some (.slice none 0 0) := cell_later hbF r10
        have sf0 : wF.frozen? ⟨w.heap.size + 1 + 1, 0, none⟩ = false := frozen_after hbF r9 rf0
        have sf1 : wF.frozen? ⟨w.heap.size + 1 + 1, 1, none⟩ = false := frozen_after hbF r10 rf1
        have zs0 := World.block_lt_of_cell? _ _ s0
        have zs6 := World.block_lt_of_cell? _ _ s6
        have zs9 := World.block_lt_of_cell? _ _ s9
        dsimp only at zs0 zs6 zs9
        clear hw_ hbF hown c0 c1 r0 r1 r2 r3 r4 r5 r6 r7 r8 r9 r10 rf0 rf1
        obtain ⟨dj, hdj⟩ : ∃ dj, dj = (px * p + pz * q) * 10000000 := ⟨_, rfl⟩
        have DD : Hid (ms k = dj) := Lib.hid (by rw [MK.out, hdj])
        have v5 : IntKind.i64.wrap ((px * p + pz * q) * 10000000) = dj := by rw [v4, hdj]
        have bm6 : (k + 1 : Nat) ≤ maxLen := by unfold maxLen; omega
        have BM6 := Lib.hid bm6; clear bm6
        have nb6 : ∀ j u, (#[Value.int .i64 dj] : Array Value).toList[j]? = some u → (wF.alloc (.cells #[.int .i64 dj] 3)).cell? ((⟨wF.heap.size, 0, none⟩ : Addr).add j) = some u :=
          World.news_of_block (t := 3) (fr := (0, 0)) (by have h := heap_alloc_new wF (.cells #[.int .i64 dj] 3); simpa using h)
        have NB6 := Lib.hid nb6; clear nb6
        clear MK
        have HD := Lib.hid hdj
        clear v4 hdj
        go_wp2_with (at_builtin; refine wpList_append_lies _ rfl _ _ _ rfl W1.heap.size 3 j0_ _ 1 8 Tryz.underlying31 JI0.out JZ0.out JZ1.out JZ2.out rfl (by omega) v k (mvs ms k) rfl (OF.out.alloc _) ⟨wF.heap.size, 0, none⟩ 1 1 [.int .i64 dj] rfl rfl NB6.out (by simp [Value.oneCell']) (by omega) BM6.out (by omega) (by simp; omega) (wF.heap.size + 1) (by simp) ?_; intro g6 cap6 w6 hown6 hgrow6 hat6 hlt6)
        have HO6 := Lib.hid hown6; clear hown6
        have HG6 := Lib.hid hgrow6; clear hgrow6 hat6 hlt6
        go_roundw
        case rel => exact ⟨k + 1, _, _, rfl, rfl, by omega, by go_num, by rw [XS.out, DD.out]; exact HO6.out, (HBF.out.alloc (by omega) _).grown HG6.out (by simp; omega) (fun q e => ag.out q e)⟩
        case measure => simp [intOf]; omega
      · have hk' : k = a.n := by omega
        have kk : decide ((k : Int) < (a.n : Int)) = false := by simp; omega
        subst hk'
        obtain ⟨A7, c7, rfl, _, I7⟩ := own_ints2 hown
        have I7' := Lib.hid I7
        clear hown I7
        have v1 : IntKind.i64.wrap (r * a.m.wd) = r * a.m.wd := IntWalk.i64_in _ (by omega)
        have v2 : IntKind.i64.wrap (r * a.m.wd * a.ck) = tk := by rw [← PU.out]; exact IntWalk.i64_in _ (by omega)
        go_wp2_with fail
        refine (HLO.out _ _ _ _ _ _ _ _ _ _ I7'.out).mono ?_
        rintro e_ w5 ⟨x5, A5, m5, c5, rfl, lw5, hB5, hL5, hb5⟩
        have szw := HW.out.size
        have sz5 := hb5.size
        have t0 : w5.cell? ⟨w.heap.size, 0, none⟩ = some (.slice A a.n c) := cell_later hb5 r0
        have t1 : w5.cell? ⟨w.heap.size, 1, none⟩ = some (.int .i64 a.m.wd) := cell_later hb5 r1
        have t2 : w5.cell? ⟨w.heap.size, 2, none⟩ = some (.int .i64 a.m.mt) := cell_later hb5 r2
        have t3 : w5.cell? ⟨w.heap.size, 3, none⟩ = some (.int .i64 a.m.sk) := cell_later hb5 r3
        have t4 : w5.cell? ⟨w.heap.size, 4, none⟩ = some (.int .i64 a.m.th) := cell_later hb5 r4
        have t5 : w5.cell? ⟨w.heap.size, 5, none⟩ = some (.int .i64 a.ck) := cell_later hb5 r5
        have t6 : w5.cell? ⟨w.heap.size + 1, 0, none⟩ = some (.int .i64 p) := cell_later hb5 r6
        have t7 : w5.cell? ⟨w.heap.size + 1, 1, none⟩ = some (.int .i64 q) := cell_later hb5 r7
        have t8 : w5.cell? ⟨w.heap.size + 1, 2, none⟩ = some (.int .i64 r) := cell_later hb5 r8
        have t9 : w5.cell? ⟨w.heap.size + 1 + 1, 0, none⟩ = some (.int .i64 0) := cell_later hb5 r9
        have t10 : w5.cell? ⟨w.heap.size + 1 + 1, 1, none⟩ = some (.slice none 0 0) := cell_later hb5 r10
        have tf0 : w5.frozen? ⟨w.heap.size + 1 + 1, 0, none⟩ = false := frozen_after hb5 r9 rf0
        have tf1 : w5.frozen? ⟨w.heap.size + 1 + 1, 1, none⟩ = false := frozen_after hb5 r10 rf1
        have zt9 := World.block_lt_of_cell? _ _ t9
        dsimp only at zt9
        have H5 : Hid (Below w.heap.size w w5) := Lib.hid (below_then HW.out hb5)
        have L5 := Lib.hid lw5; have HB5 := Lib.hid hB5; have HL5 := Lib.hid hL5
        clear hb5 lw5 hB5 hL5
        go_wp2
        refine bodyPost_ret (v := .tuple #[.agg #[.int .i64 x5, .slice A5 m5 c5], .int .i64 E]) (by simp [results, Tryz.results10, go_sem, World.cell?_alloc_past, *]) rfl ?_
        have qb : Below w.heap.size w ((w5.setCell ⟨w.heap.size + 1 + 1, 0, none⟩ (.int .i64 x5)).setCell ⟨w.heap.size + 1 + 1, 1, none⟩ (.slice A5 m5 c5)) := (H5.out.setCell (by dsimp only; omega) _).setCell (by dsimp only; omega) _
        exact ⟨x5, A5, m5, c5, rfl, (L5.out.set _ _ _ (fun a e => by have := HB5.out a e; omega)).set _ _ _ (fun a e => by have := HB5.out a e; omega), fun a e => (by have := HB5.out a e; omega), fun a e => (by have := HL5.out a e; simpa using this), qb⟩
  · have NE : Hid (a.pnE1 p q r ≠ 0) := Lib.hid hz
    have n2 : (a.pnE1 p q r != 0) = true := by simpa using hz
    have EE : a.pnE p q r = a.pnE1 p q r := by unfold La.pnE; rw [if_neg hz]
    rw [EE]
    generalize a.pl p q r = f at *
    generalize a.pnE1 p q r = E3 at *
    generalize tuE p q r = et at *
    generalize a.E = ea at *
    clear hz EE
    go_enter Tryz.func10, Tryz.ntmps10
    go_wp2
    have hS : Below w.heap.size w (((w.alloc (.cells #[.slice A a.n c, .int .i64 a.m.wd, .int .i64 a.m.mt, .int .i64 a.m.sk, .int .i64 a.m.th, .int .i64 a.ck] 26)).alloc (.cells #[.int .i64 p, .int .i64 q, .int .i64 r] 28)).alloc (.cells #[.int .i64 0, .slice none 0 0] 33)) := (by repeat (first | exact Below.refl _ _ | refine Below.drew ?_ | refine below_drewN ?_ _ | refine Below.setCell ?_ (by first | omega | (simp; done) | (simp; omega)) _ | refine Below.alloc ?_ (by first | omega | (simp; done) | (simp; omega)) _))
    go_region_held3 (fun w' => w'.cell? ⟨w.heap.size, 0, none⟩ = some (.slice A a.n c) ∧ w'.cell? ⟨w.heap.size, 1, none⟩ = some (.int .i64 a.m.wd) ∧ w'.cell? ⟨w.heap.size, 2, none⟩ = some (.int .i64 a.m.mt) ∧ w'.cell? ⟨w.heap.size, 3, none⟩ = some (.int .i64 a.m.sk) ∧ w'.cell? ⟨w.heap.size, 4, none⟩ = some (.int .i64 a.m.th) ∧ w'.cell? ⟨w.heap.size, 5, none⟩ = some (.int .i64 a.ck) ∧ w'.cell? ⟨w.heap.size + 1, 0, none⟩ = some (.int .i64 p) ∧ w'.cell? ⟨w.heap.size + 1, 1, none⟩ = some (.int .i64 q) ∧ w'.cell? ⟨w.heap.size + 1, 2, none⟩ = some (.int .i64 r) ∧ w'.cell? ⟨w.heap.size + 1 + 1, 0, none⟩ = some (.int .i64 0) ∧ w'.cell? ⟨w.heap.size + 1 + 1, 1, none⟩ = some (.slice none 0 0) ∧ w'.frozen? ⟨w.heap.size + 1 + 1, 0, none⟩ = false ∧ w'.frozen? ⟨w.heap.size + 1 + 1, 1, none⟩ = false ∧ Below w.heap.size w w') (((go_split_ands; (repeat' apply And.intro) <;> first | (with_reducible assumption) | exact cell_later (by assumption) (by assumption) | exact frozen_after (by assumption) (by assumption) (by assumption) | exact below_then (by assumption) (by assumption) | exact below_alloc_top (by assumption) _ | exact cell_alloc_later (by assumption) _ | exact frozen_alloc_later (by assumption) (by assumption) _ | exact Below.drew (by assumption) | (simp [go_sem, World.cell?_alloc_past, *]; done))))
      (first
        | (go_split_ands; go_at_call 43; (with_reducible refine (HE.out _ (HX.out.later (by with_reducible assumption))).mono ?_); rintro e w' ⟨rfl, hb⟩)
        | (go_split_ands; go_at_call 44; (with_reducible refine (HTN.out _).mono ?_); rintro e w' ⟨rfl, hb⟩)
        | (go_at_call 42; refine (firstError_any _ [ea, et] _ (by simp) (by first | exact cells_drew _ _ (by simp) _ _ | exact cells_new _ _ (by simp) _ _)).mono ?_; rw [EF.out]; rintro e w' ⟨rfl, rfl⟩))
    go_split_ands
    generalize hW : w'.alloc (Obj.cells #[.int .i64 ea, .int .i64 et] 34) = W1 at *
    clear hW
    have y0 : W1.cell? ⟨w.heap.size, 0, none⟩ = some (.slice A a.n c)   := by with_reducible assumption
    have y1 : W1.cell? ⟨w.heap.size, 1, none⟩ = some (.int .i64 a.m.wd)   := by with_reducible assumption
    have y2 : W1.cell? ⟨w.heap.size, 2, none⟩ = some (.int .i64 a.m.mt)   := by with_reducible assumption
    have y3 : W1.cell? ⟨w.heap.size, 3, none⟩ = some (.int .i64 a.m.sk)   := by with_reducible assumption
    have y4 : W1.cell? ⟨w.heap.size, 4, none⟩ = some (.int .i64 a.m.th)   := by with_reducible assumption
    have y5 : W1.cell? ⟨w.heap.size, 5, none⟩ = some (.int .i64 a.ck)   := by with_reducible assumption
    have y6 : W1.cell? ⟨w.heap.size + 1, 0, none⟩ = some (.int .i64 p)   := by with_reducible assumption
    have y7 : W1.cell? ⟨w.heap.size + 1, 1, none⟩ = some (.int .i64 q)   := by with_reducible assumption
    have y8 : W1.cell? ⟨w.heap.size + 1, 2, none⟩ = some (.int .i64 r)   := by with_reducible assumption
    have y9 : W1.cell? ⟨w.heap.size + 1 + 1, 0, none⟩ = some (.int .i64 0)   := by with_reducible assumption
    have y10 : W1.cell? ⟨w.heap.size + 1 + 1, 1, none⟩ = some (.slice none 0 0)   := by with_reducible assumption
    have yf0 : W1.frozen? ⟨w.heap.size + 1 + 1, 0, none⟩ = false   := by with_reducible assumption
    have yf1 : W1.frozen? ⟨w.heap.size + 1 + 1, 1, none⟩ = false   := by with_reducible assumption
    have yB0 : Below w.heap.size w W1 := by with_reducible assumption
    have yB := Lib.hid yB0; clear yB0
    have yz0 := World.block_lt_of_cell? _ _ y0
    dsimp only at yz0
    have yz1 := World.block_lt_of_cell? _ _ y6
    dsimp only at yz1
    have yz2 := World.block_lt_of_cell? _ _ y9
    dsimp only at yz2
    go_wp2
    exact bodyPost_ret (v := .tuple #[.agg #[.int .i64 0, .slice none 0 0], .int .i64 E3]) (by simp [results, Tryz.results10, go_sem, World.cell?_alloc_past, *]) rfl (LwP.bad NE.out rfl (by (repeat (first | (with_reducible exact yB.out) | (with_reducible refine Below.setCell ?_ ?_ _) | (with_reducible refine below_alloc_top ?_ _) | (with_reducible refine Below.drew ?_))); all_goals (first | omega | (simp; done) | (simp; omega))))
end Go.Proofs.YtkkaomgdlnejcaaGreatDoor
