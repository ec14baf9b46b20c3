/- where the walls are met: the program -/
import Derived.Test.YtdicndakelgoeaaB4
import Derived.Test.YtdicndakelgoeaaM3
import Derived.Test.YtdicndakelgoeaaC1
import Derived.Deep.AppendLies
import Derived.OwnWalk
namespace Go.Proofs.Ytdicndakelgoeaa
open Go.RowKit RayM
set_option linter.unusedSimpArgs false
set_option linter.unusedVariables false

theorem infoRange : (Try.prog.info? 26).map (fun i => (i.zero, i.size, i.bytes)) = some (some (.agg #[.int .i64 0, .int .i64 0]), 2, 16) := by kernel_rfl
/-- where the j-th wall is met, rounded down and up -/
def Wy.wl (x : Wy) (j : Nat) : Int := x.cr.k + (x.tx - x.cr.k) * ((j : Int) + 1) * x.m.th / x.m.unf x.tz
def Wy.wh (x : Wy) (j : Nat) : Int := x.cr.k + cdiv ((x.tx - x.cr.k) * ((j : Int) + 1) * x.m.th) (x.m.unf x.tz)
def Wy.walls (x : Wy) (n : Nat) : List Value := (List.range n).flatMap fun j => [.int .i64 (x.wl j), .int .i64 (x.wh j)]
theorem walls_succ (x : Wy) (n : Nat) : x.walls (n + 1) = x.walls n ++ [.int .i64 (x.wl n), .int .i64 (x.wh n)] := by
  unfold Wy.walls; rw [List.range_succ, List.flatMap_append]; simp
theorem walls_len (x : Wy) (n : Nat) : (x.walls n).length = n * 2 := by
  induction n with
  | zero => rfl
  | succ n ih => rw [walls_succ, List.length_append, ih]; simp; omega
theorem walls_get (x : Wy) : ∀ (n i : Nat), i < n → (x.walls n)[i * 2]? = some (.int .i64 (x.wl i)) ∧ (x.walls n)[i * 2 + 1]? = some (.int .i64 (x.wh i))
  | 0, i, h => by omega
  | n + 1, i, h => by
    have l := walls_len x n
    rw [walls_succ]
    by_cases hi : i < n
    · obtain ⟨a, b⟩ := walls_get x n i hi
      rw [List.getElem?_append_left (by omega), List.getElem?_append_left (by omega)]; exact ⟨a, b⟩
    · have : i = n := by omega
      subst this
      rw [List.getElem?_append_right (by omega), List.getElem?_append_right (by omega), l]
      simp
theorem own_mono {w : World} {b b' : Nat} {e : TypeId} {s : Nat} {v : Value} {n : Nat} {xs : List Value} (h : w.ownsRow b e s v n xs) (hb : b' ≤ b) : w.ownsRow b' e s v n xs :=
  ⟨h.1, h.2.imp id fun ⟨g, cap, cur, a, c, r⟩ => ⟨g, cap, cur, a, Nat.le_trans hb c, r⟩⟩
/-- the numbers that stand for a wall -/
structure WlF (x : Wy) (k : Nat) : Prop where
  a0 : -200000 ≤ x.tx - x.cr.k
  a1 : x.tx - x.cr.k ≤ 200000
  b0 : -800000 ≤ (x.tx - x.cr.k) * ((k : Int) + 1)
  b1 : (x.tx - x.cr.k) * ((k : Int) + 1) ≤ 800000
  c0 : -16000000000 ≤ (x.tx - x.cr.k) * ((k : Int) + 1) * x.m.th
  c1 : (x.tx - x.cr.k) * ((k : Int) + 1) * x.m.th ≤ 16000000000
  l0 : -200000 ≤ x.wl k
  l1 : x.wl k ≤ 200000
  h0 : -200000 ≤ x.wh k
  h1 : x.wh k ≤ 200001
theorem mul_bounds (a b m n : Int) (ha : -m ≤ a) (ha' : a ≤ m) (hb : 0 ≤ b) (hb' : b ≤ n) (hm : 0 ≤ m) : -(m * n) ≤ a * b ∧ a * b ≤ m * n := by
  rcases Int.le_total 0 a with h | h
  · have h1 := mul_le a b m n h hb ha' hb'
    have h2 := Int.mul_nonneg h hb
    omega
  · have h1 := mul_le (-a) b m n (by omega) hb (by omega) hb'
    have h2 := Int.mul_nonneg (show 0 ≤ -a by omega) hb
    rw [Int.neg_mul] at h1 h2
    omega
theorem wl_f (x : Wy) (o : x.ok) (k : Nat) (hk : (k : Int) + 1 ≤ x.m.sk) : WlF x k ∧ min x.fx x.tx ≤ x.wl k ∧ x.wl k ≤ max x.fx x.tx ∧ x.wl k ≤ x.wh k ∧ x.wh k ≤ x.wl k + 1 := by
  obtain ⟨u1, u2, u3, u4⟩ := unf_bounds x.m o.m x.tz o.d1 o.d2
  have kb := k_bounds x.cr (cr_ok x o)
  have hlo : x.cr.lo = min x.fx x.tx := rfl
  have hhi : x.cr.hi = max x.fx x.tx := rfl
  rw [hlo, hhi] at kb
  obtain ⟨k1, k2, k3, k4, k5, k6⟩ := kb
  have p1 := o.a1; have p2 := o.a2; have p3 := o.c1; have p4 := o.c2; have s4 := o.m.c2; have t1 := o.m.d1; have t2 := o.m.d2
  have a0 : -200000 ≤ x.tx - x.cr.k := by omega
  have a1 : x.tx - x.cr.k ≤ 200000 := by omega
  have m1 := mul_bounds (x.tx - x.cr.k) ((k : Int) + 1) 200000 4 (by omega) (by omega) (by omega) (by omega) (by omega)
  have m2 := mul_bounds ((x.tx - x.cr.k) * ((k : Int) + 1)) x.m.th 800000 20000 (by omega) (by omega) (by omega) (by omega) (by omega)
  have n0 : 0 ≤ ((k : Int) + 1) * x.m.th := Int.mul_nonneg (by omega) (by omega)
  have n1 : ((k : Int) + 1) * x.m.th ≤ x.m.unf x.tz := by
    have h := Int.mul_le_mul_of_nonneg_right hk (show 0 ≤ x.m.th by omega)
    have h1 := o.d1; have h2 := o.d2
    unfold Mo.unf; split <;> omega
  have wi := wall_in x.cr.k x.tx (((k : Int) + 1) * x.m.th) (x.m.unf x.tz) (min x.fx x.tx) (max x.fx x.tx) k1 k2 (by omega) (by omega) u1 n0 n1
  rw [← Int.mul_assoc] at wi
  obtain ⟨w1, w2, w3, w4⟩ := wi
  have el : x.wl k = x.cr.k + (x.tx - x.cr.k) * ((k : Int) + 1) * x.m.th / x.m.unf x.tz := rfl
  have eh : x.wh k = x.cr.k + cdiv ((x.tx - x.cr.k) * ((k : Int) + 1) * x.m.th) (x.m.unf x.tz) := rfl
  rw [← el] at w1 w2
  exact ⟨⟨a0, a1, by omega, by omega, by omega, by omega, by omega, by omega, by omega, by omega⟩, w1, w2, by omega, by omega⟩
set_option maxRecDepth 100000 in
set_option maxHeartbeats 1000000 in
theorem walls_ok (x : Wy) (o : x.ok) (w : World) :
    Calls Try.prog 51 #[.agg #[.int .i64 x.m.wd, .int .i64 x.m.mt, .int .i64 x.m.sk, .int .i64 x.m.th], .agg #[.int .i64 x.fx, .int .i64 x.fz], .agg #[.int .i64 x.tx, .int .i64 x.tz]] w fun e w' => ∃ v : Value, e = .returned (.tuple #[v, .int .i64 0]) ∧ w'.ownsRow w.heap.size 26 2 v x.m.sk.toNat (x.walls x.m.sk.toNat) ∧ Below w.heap.size w w' := by
  obtain ⟨i0, hi0, hz0, hz1, hz2⟩ := info_parts infoRange
  have HI0 := Lib.hid hi0; have HZ0 := Lib.hid hz0; have HZ1 := Lib.hid hz1; have HZ2 := Lib.hid hz2
  clear hi0 hz0 hz1 hz2
  have UF := Lib.hid (unf_bounds x.m o.m x.tz o.d1 o.d2)
  have KB := Lib.hid (k_bounds x.cr (cr_ok x o))
  have WF := Lib.hid (fun k hk => (wl_f x o k hk).1)
  have WL : Hid (∀ k : Nat, x.wl k = x.cr.k + (x.tx - x.cr.k) * ((k : Int) + 1) * x.m.th / x.m.unf x.tz) := fun _ => rfl
  have WH : Hid (∀ k : Nat, x.wh k = x.cr.k + cdiv ((x.tx - x.cr.k) * ((k : Int) + 1) * x.m.th) (x.m.unf x.tz)) := fun _ => rfl
  have WS : Hid (∀ k : Nat, x.walls (k + 1) = x.walls k ++ [.int .i64 (x.wl k), .int .i64 (x.wh k)]) := fun k => walls_succ x k
  have W0' : Hid (x.walls 0 = []) := (rfl : x.walls 0 = [])
  have sk0 := o.m.c1; have sk4 := o.m.c2
  obtain ⟨sn, hsn⟩ := Int.eq_ofNat_of_zero_le sk0
  have SN : Hid (x.m.sk.toNat = sn) := by show x.m.sk.toNat = sn; omega
  rw [SN.out]
  have HSN := Lib.hid hsn; clear hsn
  have HC := Lib.hid (fun w => crossOf_ok x o w)
  have HO : Hid (∀ w, Calls Try.prog 100 #[.agg #[.int .i64 x.fx, .int .i64 (-x.fz), .int .i64 x.m.wd, .int .i64 x.tx, .int .i64 (x.m.unf x.tz), .int .i64 x.m.mt]] w fun e w' => e = .returned (.agg #[.int .i64 x.fx, .int .i64 (-x.fz), .int .i64 x.tx, .int .i64 (x.m.unf x.tz), .int .i64 x.m.wd, .int .i64 x.m.mt]) ∧ Below w.heap.size w w') := Lib.hid (fun w => crossingOf_any x.cr w)
  have HF : Hid (∀ w, Calls Try.prog 108 #[.agg #[.int .i64 x.fx, .int .i64 (-x.fz), .int .i64 x.tx, .int .i64 (x.m.unf x.tz), .int .i64 x.m.wd, .int .i64 x.m.mt]] w fun e w' => e = .returned (.int .i64 x.cr.k) ∧ Below w.heap.size w w') := Lib.hid (fun w => fastest_any x.cr (cr_ok x o) w)
  clear o
  go_enter Try.func51, Try.ntmps51
  go_wp2_with fail
  refine (HC.out _).mono ?_
  rintro e w1 ⟨rfl, hb1⟩
  have qw10 : w1.cell? ⟨w.heap.size, 2, none⟩ = some (.int .i64 x.m.sk) := cell_later hb1 (by simp [go_sem])
  have qw11 : w1.cell? ⟨w.heap.size, 3, none⟩ = some (.int .i64 x.m.th) := cell_later hb1 (by simp [go_sem])
  have zqw1_0 := World.block_lt_of_cell? _ _ qw10
  dsimp only at zqw1_0
  have H1 : Hid (Below w.heap.size w w1) := Lib.hid (below_after (by repeat (first | exact Below.refl _ _ | refine Below.drew ?_ | refine below_drewN ?_ _ | refine Below.setCell ?_ (by first | omega | (simp; done) | (simp; omega)) _ | refine Below.alloc ?_ (by first | omega | (simp; done) | (simp; omega)) _)) hb1 (by first | omega | (simp; done) | (simp; omega))); clear hb1
  go_wp2_with fail
  refine (HO.out _).mono ?_
  rintro e w2 ⟨rfl, hb2⟩
  have qw20 : w2.cell? ⟨w.heap.size, 2, none⟩ = some (.int .i64 x.m.sk) := cell_later hb2 (by simp [go_sem, World.cell?_alloc_past, World.frozen?_alloc_past, *])
  have qw21 : w2.cell? ⟨w.heap.size, 3, none⟩ = some (.int .i64 x.m.th) := cell_later hb2 (by simp [go_sem, World.cell?_alloc_past, World.frozen?_alloc_past, *])
  have qw22 : w2.cell? ⟨w1.heap.size, 0, none⟩ = some (.int .i64 x.fx) := cell_later hb2 (by simp [go_sem, World.cell?_alloc_past, World.frozen?_alloc_past, *])
  have qw23 : w2.cell? ⟨w1.heap.size, 1, none⟩ = some (.int .i64 (-x.fz)) := cell_later hb2 (by simp [go_sem, World.cell?_alloc_past, World.frozen?_alloc_past, *])
  have qw24 : w2.cell? ⟨w1.heap.size, 2, none⟩ = some (.int .i64 x.m.wd) := cell_later hb2 (by simp [go_sem, World.cell?_alloc_past, World.frozen?_alloc_past, *])
  have qw25 : w2.cell? ⟨w1.heap.size, 3, none⟩ = some (.int .i64 x.tx) := cell_later hb2 (by simp [go_sem, World.cell?_alloc_past, World.frozen?_alloc_past, *])
  have qw26 : w2.cell? ⟨w1.heap.size, 4, none⟩ = some (.int .i64 (x.m.unf x.tz)) := cell_later hb2 (by simp [go_sem, World.cell?_alloc_past, World.frozen?_alloc_past, *])
  have qw27 : w2.cell? ⟨w1.heap.size, 5, none⟩ = some (.int .i64 x.m.mt) := cell_later hb2 (by simp [go_sem, World.cell?_alloc_past, World.frozen?_alloc_past, *])
  have zqw2_0 := World.block_lt_of_cell? _ _ qw20
  dsimp only at zqw2_0
  have zqw2_2 := World.block_lt_of_cell? _ _ qw22
  dsimp only at zqw2_2
  have H2 : Hid (Below w.heap.size w w2) := Lib.hid (below_then (by (repeat (first | (with_reducible exact H1.out) | (with_reducible refine Below.setCell ?_ ?_ _) | (with_reducible refine below_alloc_top ?_ _) | (with_reducible refine Below.drew ?_))); all_goals (first | omega | (simp; done) | (simp; omega))) hb2); clear hb2
  go_wp2_with fail
  refine (HF.out _).mono ?_
  rintro e w3 ⟨rfl, hb3⟩
  have qw30 : w3.cell? ⟨w.heap.size, 2, none⟩ = some (.int .i64 x.m.sk) := cell_later hb3 (by simp [go_sem, World.cell?_alloc_past, World.frozen?_alloc_past, *])
  have qw31 : w3.cell? ⟨w.heap.size, 3, none⟩ = some (.int .i64 x.m.th) := cell_later hb3 (by simp [go_sem, World.cell?_alloc_past, World.frozen?_alloc_past, *])
  have qw32 : w3.cell? ⟨w1.heap.size, 0, none⟩ = some (.int .i64 x.fx) := cell_later hb3 (by simp [go_sem, World.cell?_alloc_past, World.frozen?_alloc_past, *])
  have qw33 : w3.cell? ⟨w1.heap.size, 1, none⟩ = some (.int .i64 (-x.fz)) := cell_later hb3 (by simp [go_sem, World.cell?_alloc_past, World.frozen?_alloc_past, *])
  have qw34 : w3.cell? ⟨w1.heap.size, 2, none⟩ = some (.int .i64 x.m.wd) := cell_later hb3 (by simp [go_sem, World.cell?_alloc_past, World.frozen?_alloc_past, *])
  have qw35 : w3.cell? ⟨w1.heap.size, 3, none⟩ = some (.int .i64 x.tx) := cell_later hb3 (by simp [go_sem, World.cell?_alloc_past, World.frozen?_alloc_past, *])
  have qw36 : w3.cell? ⟨w1.heap.size, 4, none⟩ = some (.int .i64 (x.m.unf x.tz)) := cell_later hb3 (by simp [go_sem, World.cell?_alloc_past, World.frozen?_alloc_past, *])
  have qw37 : w3.cell? ⟨w1.heap.size, 5, none⟩ = some (.int .i64 x.m.mt) := cell_later hb3 (by simp [go_sem, World.cell?_alloc_past, World.frozen?_alloc_past, *])
  have zqw3_0 := World.block_lt_of_cell? _ _ qw30
  dsimp only at zqw3_0
  have zqw3_2 := World.block_lt_of_cell? _ _ qw32
  dsimp only at zqw3_2
  have H3 : Hid (Below w.heap.size w w3) := Lib.hid (below_then (by (repeat (first | (with_reducible exact H2.out) | (with_reducible refine Below.setCell ?_ ?_ _) | (with_reducible refine below_alloc_top ?_ _) | (with_reducible refine Below.drew ?_))); all_goals (first | omega | (simp; done) | (simp; omega))) hb3); clear hb3
  go_wp2
  go_loopw [11, 12] (fun u j wr => ∃ (k : Nat) (v : Value), v = u ∧ k ≤ sn ∧ j = .int .i64 ((k : Int) + 1) ∧ wr.ownsRow w3.heap.size 26 2 v k (x.walls k) ∧ Below w3.heap.size w3 wr) (fun _ j _ => sn + 1 - (intOf j).toNat)
  case atStart => exact ⟨0, _, rfl, Nat.zero_le _, rfl, by rw [W0'.out]; exact World.ownsRow_nil _ _ _ _, Below.refl _ _⟩
  case round =>
    obtain ⟨k, v, rfl, hk, rfl, hown, hb⟩ := hrel
    have r0 : wr.cell? ⟨w.heap.size, 2, none⟩ = some (.int .i64 x.m.sk) := cell_later hb qw30
    have r1 : wr.cell? ⟨w.heap.size, 3, none⟩ = some (.int .i64 x.m.th) := cell_later hb qw31
    have r2 : wr.cell? ⟨w1.heap.size, 3, none⟩ = some (.int .i64 x.tx) := cell_later hb qw35
    have r3 : wr.cell? ⟨w1.heap.size, 4, none⟩ = some (.int .i64 (x.m.unf x.tz)) := cell_later hb qw36
    have z0 := World.block_lt_of_cell? _ _ r2
    dsimp only at z0
    have sz := hb.size
    have ag : v.ownBlock ≠ some w1.heap.size := fun e => by have := (hown.lt _ e).1; omega
    have HB := Lib.hid hb
    have AG := Lib.hid ag
    clear hb ag
    by_cases hlt : k < sn
    · have t1 : (k : Int) + 1 ≤ x.m.sk := by have := HSN.out; omega
      obtain ⟨f0, f1, f2, f3, f4, f5, f6, f7, f8, f9⟩ := WF.out k t1
      obtain ⟨u1, u2, u3, u4⟩ := UF.out
      clear u3 u4
      have HD := Lib.hid (fun w => down_any ((x.tx - x.cr.k) * ((k : Int) + 1) * x.m.th) (x.m.unf x.tz) w (by omega) (by omega) (by omega) (by omega))
      have HU := Lib.hid (fun w => up_any ((x.tx - x.cr.k) * ((k : Int) + 1) * x.m.th) (x.m.unf x.tz) w (by omega) (by omega) (by omega) (by omega))
      have E1 : Hid (IntKind.i64.wrap (x.cr.k + (x.tx - x.cr.k) * ((k : Int) + 1) * x.m.th / x.m.unf x.tz) = x.wl k) := by
        show _ = _
        rw [← WL.out k]; exact IntWalk.i64_in _ (by omega)
      have E2 : Hid (IntKind.i64.wrap (x.cr.k + cdiv ((x.tx - x.cr.k) * ((k : Int) + 1) * x.m.th) (x.m.unf x.tz)) = x.wh k) := by
        show _ = _
        rw [← WH.out k]; exact IntWalk.i64_in _ (by omega)
      have bm : (k + 1 : Nat) ≤ maxLen := by unfold maxLen; omega
      have bb : (k + 1) * 16 ≤ 140737488355328 := by omega
      have BM := Lib.hid bm; have BB := Lib.hid bb
      clear bm bb
      go_wp2_with fail
      have e1 := E1.out; have e2 := E2.out
      go_region_held3 (fun w' => w'.cell? ⟨w1.heap.size, 4, none⟩ = some (.int .i64 (x.m.unf x.tz)))
        (first
          | go_keep
          | (rw [hgrow.cell_far _ (by simp; omega) (Ne.symm AG.out)]; (first | assumption | (simp [go_sem, World.cell?_alloc_past, *]; done))))
        (first
          | (go_at_call 116; refine (HD.out _).mono ?_; rintro e w' ⟨rfl, rfl⟩)
          | (go_at_call 117; refine (HU.out _).mono ?_; rintro e w' ⟨rfl, rfl⟩)
          | (refine step_append_lies _ (by rfl) _ _ _ (by rfl) w3.heap.size 26 i0 _ 2 16 Try.underlying66 HI0.out HZ0.out HZ1.out HZ2.out rfl (by omega) v k (x.walls k) (by rfl) (by first | exact hown.alloc _ | exact (hown.alloc _).drew)
              ⟨wr.heap.size, 0, none⟩ 1 1 [.int .i64 (x.wl k), .int .i64 (x.wh k)] (by rfl) (by rfl) (World.news_of_block (cs := #[.int .i64 (x.wl k), .int .i64 (x.wh k)]) (t := 26) (fr := (0, 0)) (heap_alloc_new wr _)) (by simp [Value.oneCell'])
              (by omega) BM.out BB.out (by simp; omega) (wr.heap.size + 1) (by simp) ?_; intro g cap w5 hown1 hgrow hat hlt5))
      clear e1 e2
      have HO1 := Lib.hid hown1; clear hown1
      have HG := Lib.hid hgrow; clear hgrow
      go_wp2
      go_roundw
      case rel => exact ⟨k + 1, _, rfl, by omega, by go_num, by rw [WS.out]; exact HO1.out, by first | exact (HB.out.alloc sz _).drew.grown HG.out (by simp; omega) (fun q e => (hown.lt _ e).1) | exact (HB.out.alloc sz _).grown HG.out (by simp; omega) (fun q e => (hown.lt _ e).1)⟩
      case measure => simp [intOf]; omega
    · have t1 : x.m.sk < (k : Int) + 1 := by have := HSN.out; omega
      have hks : k = sn := by omega
      have HK := Lib.hid hks
      clear hks
      go_wp2
      go_ret2
      exact ⟨v, rfl, by rw [← HK.out]; exact own_mono hown (H3.out.size), Below.trans H3.out (HB.out.mono H3.out.size)⟩
end Go.Proofs.Ytdicndakelgoeaa
