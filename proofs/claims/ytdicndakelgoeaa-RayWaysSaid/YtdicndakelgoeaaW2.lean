/- where the walls are met: the reference -/
import Derived.Test.YtdicndakelgoeaaW1
import Derived.Test.YtdicndakelgoeaaG2
namespace Go.Proofs.Ytdicndakelgoeaa
open Go.RowKit RayM
set_option linter.unusedSimpArgs false
set_option linter.unusedVariables false
set_option maxRecDepth 100000 in
set_option maxHeartbeats 1000000 in
theorem refWalls_ok (x : Wy) (o : x.ok) (w : World) :
    Calls Try.prog 57 #[.agg #[.int .i64 x.m.wd, .int .i64 x.m.mt, .int .i64 x.m.sk, .int .i64 x.m.th], .agg #[.int .i64 x.fx, .int .i64 x.fz], .agg #[.int .i64 x.tx, .int .i64 x.tz]] w fun e w' => ∃ v : Value, e = .returned (v) ∧ w'.ownsRow w.heap.size 26 2 v x.m.sk.toNat (x.walls x.m.sk.toNat) ∧ Below w.heap.size w w' := by
  obtain ⟨i0, hi0, hz0, hz1, hz2⟩ := info_parts infoRange
  have HI0 := Lib.hid hi0; have HZ0 := Lib.hid hz0; have HZ1 := Lib.hid hz1; have HZ2 := Lib.hid hz2
  clear hi0 hz0 hz1 hz2
  have UF := Lib.hid (unf_bounds x.m o.m x.tz o.d1 o.d2)
  have KB := Lib.hid (k_bounds x.cr (cr_ok x o))
  have WF := Lib.hid (fun k hk => (wl_f x o k hk).1)
  have WL : Hid (∀ k : Nat, x.wl k = x.cr.k + (x.tx - x.cr.k) * ((k : Int) + 1) * x.m.th / x.m.unf x.tz) := fun _ => rfl
  have WH : Hid (∀ k : Nat, x.wh k = x.cr.k + cdiv ((x.tx - x.cr.k) * ((k : Int) + 1) * x.m.th) (x.m.unf x.tz)) := fun _ => rfl
  have WS : Hid (∀ k : Nat, x.walls (k + 1) = x.walls k ++ [.int .i64 (x.wl k), .int .i64 (x.wh k)]) := fun k => walls_succ x k
  have W0' : Hid (x.walls 0 = []) := (rfl : x.walls 0 = [])
  have sk0 := o.m.c1; have sk4 := o.m.c2
  obtain ⟨sn, hsn⟩ := Int.eq_ofNat_of_zero_le sk0
  have SN : Hid (x.m.sk.toNat = sn) := by show x.m.sk.toNat = sn; omega
  rw [SN.out]
  have HSN := Lib.hid hsn; clear hsn
  have HC := Lib.hid (fun w => refCrossOf_any x o w)
  have HK : Hid (∀ w, Calls Try.prog 40 #[.agg #[.int .i64 x.fx, .int .i64 (-x.fz), .int .i64 x.m.wd, .int .i64 x.tx, .int .i64 (x.m.unf x.tz), .int .i64 x.m.mt]] w fun e w' => e = .returned (.int .i64 x.cr.k) ∧ Below w.heap.size w w') := Lib.hid (fun w => refCrossing_any x.cr (cr_ok x o) w)
  clear o
  go_enter Try.func57, Try.ntmps57
  go_wp2_with fail
  refine (HC.out _).mono ?_
  rintro e w1 ⟨rfl, hb1⟩
  have qw10 : w1.cell? ⟨w.heap.size, 2, none⟩ = some (.int .i64 x.m.sk) := cell_later hb1 (by simp [go_sem])
  have qw11 : w1.cell? ⟨w.heap.size, 3, none⟩ = some (.int .i64 x.m.th) := cell_later hb1 (by simp [go_sem])
  have zqw1_0 := World.block_lt_of_cell? _ _ qw10
  dsimp only at zqw1_0
  have H1 : Hid (Below w.heap.size w w1) := Lib.hid (below_after (by repeat (first | exact Below.refl _ _ | refine Below.drew ?_ | refine below_drewN ?_ _ | refine Below.setCell ?_ (by first | omega | (simp; done) | (simp; omega)) _ | refine Below.alloc ?_ (by first | omega | (simp; done) | (simp; omega)) _)) hb1 (by first | omega | (simp; done) | (simp; omega))); clear hb1
  go_wp2_with fail
  refine (HK.out _).mono ?_
  rintro e w2 ⟨rfl, hb2⟩
  have qw20 : w2.cell? ⟨w.heap.size, 2, none⟩ = some (.int .i64 x.m.sk) := cell_later hb2 (by simp [go_sem, World.cell?_alloc_past, World.frozen?_alloc_past, *])
  have qw21 : w2.cell? ⟨w.heap.size, 3, none⟩ = some (.int .i64 x.m.th) := cell_later hb2 (by simp [go_sem, World.cell?_alloc_past, World.frozen?_alloc_past, *])
  have qw22 : w2.cell? ⟨w1.heap.size, 0, none⟩ = some (.int .i64 x.fx) := cell_later hb2 (by simp [go_sem, World.cell?_alloc_past, World.frozen?_alloc_past, *])
  have qw23 : w2.cell? ⟨w1.heap.size, 1, none⟩ = some (.int .i64 (-x.fz)) := cell_later hb2 (by simp [go_sem, World.cell?_alloc_past, World.frozen?_alloc_past, *])
  have qw24 : w2.cell? ⟨w1.heap.size, 2, none⟩ = some (.int .i64 x.m.wd) := cell_later hb2 (by simp [go_sem, World.cell?_alloc_past, World.frozen?_alloc_past, *])
  have qw25 : w2.cell? ⟨w1.heap.size, 3, none⟩ = some (.int .i64 x.tx) := cell_later hb2 (by simp [go_sem, World.cell?_alloc_past, World.frozen?_alloc_past, *])
  have qw26 : w2.cell? ⟨w1.heap.size, 4, none⟩ = some (.int .i64 (x.m.unf x.tz)) := cell_later hb2 (by simp [go_sem, World.cell?_alloc_past, World.frozen?_alloc_past, *])
  have qw27 : w2.cell? ⟨w1.heap.size, 5, none⟩ = some (.int .i64 x.m.mt) := cell_later hb2 (by simp [go_sem, World.cell?_alloc_past, World.frozen?_alloc_past, *])
  have zqw2_0 := World.block_lt_of_cell? _ _ qw20
  dsimp only at zqw2_0
  have zqw2_2 := World.block_lt_of_cell? _ _ qw22
  dsimp only at zqw2_2
  have H2 : Hid (Below w.heap.size w w2) := Lib.hid (below_then (by (repeat (first | (with_reducible exact H1.out) | (with_reducible refine Below.setCell ?_ ?_ _) | (with_reducible refine below_alloc_top ?_ _) | (with_reducible refine Below.drew ?_))); all_goals (first | omega | (simp; done) | (simp; omega))) hb2); clear hb2
  go_wp2
  go_loopw [9, 10] (fun u j wr => ∃ (k : Nat) (v : Value), v = u ∧ k ≤ sn ∧ j = .int .i64 ((k : Int) + 1) ∧ wr.ownsRow w2.heap.size 26 2 v k (x.walls k) ∧ Below w2.heap.size w2 wr) (fun _ j _ => sn + 1 - (intOf j).toNat)
  case atStart => exact ⟨0, _, rfl, Nat.zero_le _, rfl, by rw [W0'.out]; exact World.ownsRow_nil _ _ _ _, Below.refl _ _⟩
  case round =>
    obtain ⟨k, v, rfl, hk, rfl, hown, hb⟩ := hrel
    have r0 : wr.cell? ⟨w.heap.size, 2, none⟩ = some (.int .i64 x.m.sk) := cell_later hb qw20
    have r1 : wr.cell? ⟨w.heap.size, 3, none⟩ = some (.int .i64 x.m.th) := cell_later hb qw21
    have r2 : wr.cell? ⟨w1.heap.size, 3, none⟩ = some (.int .i64 x.tx) := cell_later hb qw25
    have r3 : wr.cell? ⟨w1.heap.size, 4, none⟩ = some (.int .i64 (x.m.unf x.tz)) := cell_later hb qw26
    have z0 := World.block_lt_of_cell? _ _ r2
    dsimp only at z0
    have sz := hb.size
    have ag : v.ownBlock ≠ some w1.heap.size := fun e => by have := (hown.lt _ e).1; omega
    have HB := Lib.hid hb
    have AG := Lib.hid ag
    clear hb ag
    by_cases hlt : k < sn
    · have t1 : (k : Int) + 1 ≤ x.m.sk := by have := HSN.out; omega
      obtain ⟨f0, f1, f2, f3, f4, f5, f6, f7, f8, f9⟩ := WF.out k t1
      obtain ⟨u1, u2, u3, u4⟩ := UF.out
      clear u3 u4
      have HD := Lib.hid (fun w => floor_any ((x.tx - x.cr.k) * ((k : Int) + 1) * x.m.th) (x.m.unf x.tz) w (by omega) (by omega) (by omega) (by omega))
      have HU := Lib.hid (fun w => ceil_any ((x.tx - x.cr.k) * ((k : Int) + 1) * x.m.th) (x.m.unf x.tz) w (by omega) (by omega) (by omega) (by omega))
      have E1 : Hid (IntKind.i64.wrap (x.cr.k + (x.tx - x.cr.k) * ((k : Int) + 1) * x.m.th / x.m.unf x.tz) = x.wl k) := by
        show _ = _
        rw [← WL.out k]; exact IntWalk.i64_in _ (by omega)
      have E2 : Hid (IntKind.i64.wrap (x.cr.k + cdiv ((x.tx - x.cr.k) * ((k : Int) + 1) * x.m.th) (x.m.unf x.tz)) = x.wh k) := by
        show _ = _
        rw [← WH.out k]; exact IntWalk.i64_in _ (by omega)
      have bm : (k + 1 : Nat) ≤ maxLen := by unfold maxLen; omega
      have bb : (k + 1) * 16 ≤ 140737488355328 := by omega
      have BM := Lib.hid bm; have BB := Lib.hid bb
      clear bm bb
      go_wp2_with fail
      have e1 := E1.out; have e2 := E2.out
      go_region_held3 (fun w' => w'.cell? ⟨w1.heap.size, 4, none⟩ = some (.int .i64 (x.m.unf x.tz)))
        (first
          | go_keep
          | (rw [hgrow.cell_far _ (by simp; omega) (Ne.symm AG.out)]; (first | assumption | (simp [go_sem, World.cell?_alloc_past, *]; done))))
        (first
          | (go_at_call 110; refine (HD.out _).mono ?_; rintro e w' ⟨rfl, rfl⟩)
          | (go_at_call 111; refine (HU.out _).mono ?_; rintro e w' ⟨rfl, rfl⟩)
          | (refine step_append_lies _ (by rfl) _ _ _ (by rfl) w2.heap.size 26 i0 _ 2 16 Try.underlying66 HI0.out HZ0.out HZ1.out HZ2.out rfl (by omega) v k (x.walls k) (by rfl) (by first | exact hown.alloc _ | exact (hown.alloc _).drew)
              ⟨wr.heap.size, 0, none⟩ 1 1 [.int .i64 (x.wl k), .int .i64 (x.wh k)] (by rfl) (by rfl) (World.news_of_block (cs := #[.int .i64 (x.wl k), .int .i64 (x.wh k)]) (t := 26) (fr := (0, 0)) (heap_alloc_new wr _)) (by simp [Value.oneCell'])
              (by omega) BM.out BB.out (by simp; omega) (wr.heap.size + 1) (by simp) ?_; intro g cap w5 hown1 hgrow hat hlt5))
      clear e1 e2
      have HO1 := Lib.hid hown1; clear hown1
      have HG := Lib.hid hgrow; clear hgrow
      go_wp2
      go_roundw
      case rel => exact ⟨k + 1, _, rfl, by omega, by go_num, by rw [WS.out]; exact HO1.out, by first | exact (HB.out.alloc sz _).drew.grown HG.out (by simp; omega) (fun q e => (hown.lt _ e).1) | exact (HB.out.alloc sz _).grown HG.out (by simp; omega) (fun q e => (hown.lt _ e).1)⟩
      case measure => simp [intOf]; omega
    · have t1 : x.m.sk < (k : Int) + 1 := by have := HSN.out; omega
      have hks : k = sn := by omega
      have HK := Lib.hid hks
      clear hks
      go_wp2
      go_ret
      exact ⟨v, rfl, by rw [← HK.out]; exact own_mono hown (H2.out.size), Below.trans H2.out (HB.out.mono H2.out.size)⟩
end Go.Proofs.Ytdicndakelgoeaa
