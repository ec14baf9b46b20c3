/- the sum of the program -/
import Derived.Test.YtoieemgdkpnbfaaFm5
import Derived.Test.YtoieemgdkpnbfaaFl9
namespace Go.Proofs.Ytoieemgdkpnbfaa
open Go.RowKit RayM
set_option linter.unusedSimpArgs false
set_option linter.unusedVariables false
/-- the sum of two traces -/
def smT (l m : Nat → Int) (i : Nat) : Int := l i + m i
def adT (l m : Nat → Int) : Nat → Int := if ldS (smT l m) 64 ≤ 2047 then smT l m else fun _ => 0
def adE (l m : Nat → Int) : Int := if ldS (smT l m) 64 ≤ 2047 then 0 else 8
def adS (l m : Nat → Int) (k i : Nat) : Int := if i < k then l i + m i else l i
theorem adS_zero (l m : Nat → Int) : adS l m 0 = l := by funext i; simp [adS]
theorem adS_step (l m : Nat → Int) (k : Nat) (v : Value) (h : v = .float .f32 (fs (l k + m k))) : ∀ i, i < 64 → upd (fv (adS l m k)) k v i = fv (adS l m (k + 1)) i := fun i _ => by
  unfold upd fv adS
  by_cases e : i = k
  · subst e; rw [if_pos rfl, if_pos (by omega), h]
  · rw [if_neg e]
    by_cases e2 : i < k
    · rw [if_pos e2, if_pos (by omega)]
    · rw [if_neg e2, if_neg (by omega)]
theorem adS_all (l m : Nat → Int) : ∀ i, i < 64 → fv (adS l m 64) i = fv (smT l m) i := fun i hi => by unfold fv adS smT; rw [if_pos hi]
theorem smT_few (l m : Nat → Int) (hl : ∀ i, i < 64 → -2047 ≤ l i ∧ l i ≤ 2047) (hm : ∀ i, i < 64 → -2047 ≤ m i ∧ m i ≤ 2047) : Few (smT l m) := fun i hi => by
  have := hl i hi; have := hm i hi; unfold smT; omega
theorem add_run (a b : Int) (ha : a.natAbs < 8192) (hb : b.natAbs < 8192) (w : World) : (binOp .add 24 (.float .f32 (fs a)) (.float .f32 (fs b))).run Try.prog w = .ok (.float .f32 (fs (a + b))) w :=
  run_float_arith w .add _ .f32 _ _ _ (Fl.add_fl Fl.good32 a b (Nat.lt_trans ha (by decide)) (Nat.lt_trans hb (by decide)) (Nat.lt_of_lt_of_le (show (a + b).natAbs < 16384 by omega) (by decide)))
set_option maxRecDepth 100000 in
set_option maxHeartbeats 4000000 in
theorem tAdded_ok (l m : Nat → Int) (w : World) (hl : ∀ i, i < 64 → -2047 ≤ l i ∧ l i ≤ 2047) (hm : ∀ i, i < 64 → -2047 ≤ m i ∧ m i ≤ 2047) :
    Calls Try.prog 14 #[.agg (vls 64 (fv l)).toArray, .agg (vls 64 (fv m)).toArray] w fun e w' => e = .returned (.tuple #[.agg (vls 64 (fv (adT l m))).toArray, .int .i64 (adE l m)]) ∧ Below w.heap.size w w' := by
  have SF := @run_store_float Try.prog
  have HA := Lib.hid (fun w => traceErr_v l (few_in hl) w)
  have HC := Lib.hid (fun w => traceErr_v m (few_in hm) w)
  rw [(ctE_zero l).2 hl] at HA
  rw [(ctE_zero m).2 hm] at HC
  have EF : Hid (fst [0, 0] = 0) := (rfl : fst [0, 0] = 0)
  have LD := Lib.hid (fun w => loudest_any (smT l m) w (smT_few l m hl hm))
  have PL := Lib.hid (fun w => plain_v (smT l m) (smT_few l m hl hm) w)
  have TY : Hid (ldS (smT l m) 64 ≤ 2047 → adT l m = smT l m ∧ adE l m = 0) := Lib.hid (fun h => ⟨by unfold adT; rw [if_pos h], by unfold adE; rw [if_pos h]⟩)
  have TN : Hid (¬ ldS (smT l m) 64 ≤ 2047 → adT l m = (fun _ => 0) ∧ adE l m = 8) := Lib.hid (fun h => ⟨by unfold adT; rw [if_neg h], by unfold adE; rw [if_neg h]⟩)
  generalize adT l m = T0 at *
  generalize adE l m = X0 at *
  generalize ldS (smT l m) 64 = L0 at *
  go_enter Try.func14, Try.ntmps14
  go_wp2_with (first
    | ((with_reducible refine wpList_box_named rfl 26 _ rfl 2 rfl 64 (fv l) rfl ?_); intro w1 N1; have s1 := N1.size; have ca1 := N1.at'; have za1 := N1.free; have b1 : Hid (Below w.heap.size w w1) := Lib.hid N1.below; clear N1)
    | ((with_reducible refine wpList_box_named rfl 26 _ rfl 3 rfl 64 (fv m) rfl ?_); intro w2 N2; have s2 := N2.size; have ca2 := ca1.later N2.below; have za2 := za1.later ca1 N2.below; have cc2 := N2.at'; have zc2 := N2.free; have b2 : Hid (Below w.heap.size w w2) := Lib.hid (below_then b1.out N2.below); clear N2; rw [s1] at s2 cc2 zc2)
    | ((with_reducible refine wpList_alloc_named rfl 26 rfl 4 rfl 64 (fv fun _ => 0) zeroT ?_); intro w3 N3; have s3 := N3.size; have ca3 := ca2.later N3.below; have za3 := za2.later ca2 N3.below; have cc3 := cc2.later N3.below; have zc3 := zc2.later cc2 N3.below; have cr3 := N3.at'; have zr3 := N3.free; have b3 : Hid (Below w.heap.size w w3) := Lib.hid (below_then b2.out N3.below); clear N3; rw [s2] at s3 cr3 zr3))
  have ra := ca3.range
  have rc := cc3.range
  have hu := Try.underlying26
  have hi1 : (Try.prog.info? 26).map (·.size) = some (vls 64 (fv l)).length := by rw [vls_length]; exact infoV
  have hi2 : (Try.prog.info? 26).map (·.size) = some (vls 64 (fv m)).length := by rw [vls_length]; exact infoV
  refine wp_region_held_drew (S := fun w' => w'.rangeAt w.heap.size 0 (vls 64 (fv l)) ∧ w'.rangeAt (w.heap.size + 1) 0 (vls 64 (fv m)) ∧ Below w3.heap.size w3 w') (by kernel_rfl) ⟨range_drew ra, range_drew rc, (Below.refl _ _).drew⟩ (fun hHeld => ?_)
  refine' wpAnyH_take (i := 0) (v := .agg (vls 64 (fv l)).toArray) rfl (by kernel_rfl) (by kernel_rfl) (by kernel_rfl) (fun _ _ _ h => h) (yieldsIf_load_mid (by rfl) _ _ rfl _ _ rfl (vls 64 (fv l)) _ (fun w' h => h.1) hu rfl hi1) hHeld ?_
  try simp only [Act.put, List.setIfInBounds_toArray, List.set_cons_zero, List.set_cons_succ]
  refine' wpAnyH_take (i := 2) (v := .agg (vls 64 (fv m)).toArray) rfl (by kernel_rfl) (by kernel_rfl) (by kernel_rfl) (fun _ _ _ h => h) (yieldsIf_load_mid (by rfl) _ _ rfl _ _ rfl (vls 64 (fv m)) _ (fun w' h => h.2.1) hu rfl hi2) hHeld ?_
  try simp only [Act.put, List.setIfInBounds_toArray, List.set_cons_zero, List.set_cons_succ]
  refine wpAnyH_ready (rs := [1]) (by kernel_rfl) (by simp) ?_
  refine AllReadyH.cons rfl (fun K hK => ?_) AllReadyH.nil
  go_simp
  (go_at_call 51; (with_reducible refine (HA.out _).mono ?_); rintro e w' ⟨rfl, hb⟩)
  refine hK.out _ _ ⟨range_later hHeld.1 hb, range_later hHeld.2.1 hb, below_then hHeld.2.2 hb⟩ (fun hHeld => ?_)
  clear hK K
  try simp only [Act.put, List.setIfInBounds_toArray, List.set_cons_zero, List.set_cons_succ]
  refine wpAnyH_ready (rs := [3]) (by kernel_rfl) (by simp) ?_
  refine AllReadyH.cons rfl (fun K hK => ?_) AllReadyH.nil
  go_simp
  (go_at_call 51; (with_reducible refine (HC.out _).mono ?_); rintro e w' ⟨rfl, hb⟩)
  refine hK.out _ _ ⟨range_later hHeld.1 hb, range_later hHeld.2.1 hb, below_then hHeld.2.2 hb⟩ (fun hHeld => ?_)
  clear hK K
  try simp only [Act.put, List.setIfInBounds_toArray, List.set_cons_zero, List.set_cons_succ]
  refine wpAnyH_ready (rs := [4]) (by kernel_rfl) (by simp) ?_
  refine AllReadyH.cons rfl (fun K hK => ?_) AllReadyH.nil
  go_simp
  refine hK.out _ _ ⟨range_alloc hHeld.1 _, range_alloc hHeld.2.1 _, below_alloc_top hHeld.2.2 _⟩ (fun hHeld => ?_)
  clear hK K
  try simp only [Act.put, List.setIfInBounds_toArray, List.set_cons_zero, List.set_cons_succ]
  refine wpAnyH_ready (rs := [5]) (by kernel_rfl) (by simp) ?_
  refine AllReadyH.cons rfl (fun K hK => ?_) AllReadyH.nil
  go_simp
  (go_at_call 50; refine (firstError_any _ [0, 0] _ (by simp) (by first | exact cells_drew _ _ (by first | rfl | assumption | simp) _ _ | exact cells_new _ _ (by first | rfl | assumption | simp) _ _)).mono ?_; rw [EF.out]; rintro e w' ⟨rfl, rfl⟩)
  refine hK.out _ _ ⟨hHeld.1, hHeld.2.1, hHeld.2.2⟩ (fun hHeld => ?_)
  clear hK K
  try simp only [Act.put, List.setIfInBounds_toArray, List.set_cons_zero, List.set_cons_succ]
  refine wpAnyH_ready (rs := [6]) (by kernel_rfl) (by simp) ?_
  refine AllReadyH.cons rfl (fun K hK => ?_) AllReadyH.nil
  go_simp
  refine hK.out _ _ ⟨hHeld.1, hHeld.2.1, hHeld.2.2⟩ (fun hHeld => ?_)
  clear hK K
  try simp only [Act.put, List.setIfInBounds_toArray, List.set_cons_zero, List.set_cons_succ]
  refine wpAnyH_done (by kernel_rfl) ?_ _
  generalize w'.alloc (Obj.cells #[.int .i64 0, .int .i64 0] 28) = W1 at *
  have hb4 := hHeld.2.2
  have ca4 := ca3.later hb4
  have za4 := za3.later ca3 hb4
  have cc4 := cc3.later hb4
  have cr4 := cr3.later hb4
  have zr4 := zr3.later cr3 hb4
  have b4 : Hid (Below w.heap.size w W1) := Lib.hid (below_then b3.out hb4)
  have lr4 : w.heap.size + 1 + 1 < W1.heap.size := World.block_lt_of_cell? _ _ (cr4 0 (by decide))
  clear hHeld hb4 ra rc hu hi1 hi2 HA HC
  go_wp2_with fail
  rw [← adS_zero l m] at ca4
  go_loopw [18] (fun s18 wr => ∃ k : Nat, k ≤ 64 ∧ s18 = .int .i64 (k : Int) ∧ VAt w.heap.size 64 (fv (adS l m k)) wr ∧ Fz w.heap.size 64 wr ∧ VAt (w.heap.size + 1) 64 (fv m) wr ∧ VAt (w.heap.size + 1 + 1) 64 (fv fun _ => 0) wr ∧ Fz (w.heap.size + 1 + 1) 64 wr ∧ Hid (Below w.heap.size w wr)) (fun s18 _ => 64 - (intOf s18).toNat)
  case atStart => exact ⟨0, by omega, rfl, ca4, za4, cc4, cr4, zr4, b4⟩
  case round =>
    obtain ⟨k, hk, rfl, ak, zk, ck, rk, gk, bk⟩ := hrel
    have j0 : (0 : Int) ≤ (k : Int) := Int.natCast_nonneg _
    by_cases hlt : k < 64
    · have j1 : (k : Int) < 64 := by omega
      have q0 : wr.cell? ⟨w.heap.size, k, none⟩ = some (.float .f32 (fs (l k))) := by have := ak k hlt; unfold fv adS at this; rw [if_neg (by omega)] at this; exact this
      have q1 := zk k hlt
      have q2 : wr.cell? ⟨w.heap.size + 1, k, none⟩ = some (.float .f32 (fs (m k))) := ck k hlt
      have ar := add_run (l k) (m k) (few_in hl k hlt) (few_in hm k hlt)
      have ST := Lib.hid (adS_step l m k _ rfl)
      clear LD PL TY TN
      go_wp2
      go_region
      go_wp2
      go_roundw
      case rel => exact ⟨k + 1, by omega, by go_num, ((ak.set k hlt _).congr ST.out).drew, (zk.set _ _).drew, (ck.other _ _ (by omega) _).drew, (rk.other _ _ (by omega) _).drew, (gk.set _ _).drew, Lib.hid (bk.out.setCell (by dsimp only; omega) _).drew⟩
      case measure => simp [intOf]; omega
      all_goals (refine ⟨⟨k + 1, by omega, by go_num, ((ak.set k hlt _).congr ST.out).drew, (zk.set _ _).drew, (ck.other _ _ (by omega) _).drew, (rk.other _ _ (by omega) _).drew, (gk.set _ _).drew, Lib.hid (bk.out.setCell (by dsimp only; omega) _).drew⟩, ?_⟩; simp [intOf]; omega)
    · obtain rfl : k = 64 := by omega
      have ca50 := ak.congr (adS_all l m)
      have za50 := zk
      have cr50 := rk
      have zr50 := gk
      have b50 := bk
      have lt50 : w.heap.size + 1 + 1 < wr.heap.size := World.block_lt_of_cell? _ _ (cr50 0 (by decide))
      clear ak zk ck rk gk bk ca4 za4 cc4 cr4 zr4 b4
      by_cases hL : L0 ≤ 2047
      · obtain ⟨rfl, rfl⟩ := TY.out hL
        have hL2 : ¬ (2047 < L0) := by omega
        go_wp2_with (first
          | (with_reducible refine wpList_load_at rfl 26 _ rfl _ 64 (fv (smT l m)) rfl ca50 _ Try.underlying26 rfl infoV ?_)
          | (go_at_call 52; (with_reducible refine (LD.out _).mono ?_); rintro e w51 ⟨rfl, hb51⟩; have ca51 := ca50.later hb51; have za51 := za50.later ca50 hb51; have cr51 := cr50.later hb51; have zr51 := zr50.later cr50 hb51; have b51 : Hid (Below w.heap.size w w51) := Lib.hid (below_then b50.out hb51); have s51' := hb51.size; clear hb51)
          | (with_reducible refine wpList_load_at rfl 26 _ rfl _ 64 (fv (smT l m)) rfl ca51 _ Try.underlying26 rfl infoV ?_)
          | (go_at_call 53; (with_reducible refine (PL.out _).mono ?_); rintro e w52 ⟨rfl, hb52⟩; have ca52 := ca51.later hb52; have za52 := za51.later ca51 hb52; have cr52 := cr51.later hb52; have zr52 := zr51.later cr51 hb52; have b52 : Hid (Below w.heap.size w w52) := Lib.hid (below_then b51.out hb52); have s52' := hb52.size; clear hb52)
          | ((with_reducible refine wpList_store_at rfl 26 _ _ rfl _ 64 _ (fv (smT l m)) rfl rfl cr52 zr52 (fv_one _) infoV ?_); intro w53 S53 B53 cr53 zr53 O53 P53; have ca53 := O53 _ _ _ (by omega) ca52; have za53 := P53 _ _ za52; have b53 : Hid (Below w.heap.size w w53) := Lib.hid (B53 _ _ (by omega) b52.out); have s53' := Nat.le_of_eq S53.symm; clear S53 B53 O53 P53))
        refine bodyPost_ret (v := .tuple #[.agg (vls 64 (fv (smT l m))).toArray, .int .i64 0]) ?_ rfl ⟨rfl, b53.out⟩
        have hld := load_var_at 26 _ 64 (fv (smT l m)) cr53 _ Try.underlying26 rfl infoV
        simp [results, Try.results14, asAddr, Act.put, Result.andThen, hld]
      · obtain ⟨rfl, rfl⟩ := TN.out (by omega)
        have hL2 : 2047 < L0 := by omega
        go_wp2_with (first
          | (with_reducible refine wpList_load_at rfl 26 _ rfl _ 64 (fv (smT l m)) rfl ca50 _ Try.underlying26 rfl infoV ?_)
          | (go_at_call 52; (with_reducible refine (LD.out _).mono ?_); rintro e w51 ⟨rfl, hb51⟩; have ca51 := ca50.later hb51; have za51 := za50.later ca50 hb51; have cr51 := cr50.later hb51; have zr51 := zr50.later cr50 hb51; have b51 : Hid (Below w.heap.size w w51) := Lib.hid (below_then b50.out hb51); have s51' := hb51.size; clear hb51)
          | (with_reducible refine wpList_build_zero rfl 26 rfl 64 (fv fun _ => 0) zeroT 24 Try.underlying26 info1 ?_)
          | ((with_reducible refine wpList_store_at rfl 26 _ _ rfl _ 64 _ (fv fun _ => 0) rfl rfl cr51 zr51 (fv_one _) infoV ?_); intro w52 S52 B52 cr52 zr52 O52 P52; have ca52 := O52 _ _ _ (by omega) ca51; have za52 := P52 _ _ za51; have b52 : Hid (Below w.heap.size w w52) := Lib.hid (B52 _ _ (by omega) b51.out); have s52' := Nat.le_of_eq S52.symm; clear S52 B52 O52 P52))
        refine bodyPost_ret (v := .tuple #[.agg (vls 64 (fv fun _ => 0)).toArray, .int .i64 8]) ?_ rfl ⟨rfl, b52.out⟩
        have hld := load_var_at 26 _ 64 (fv fun _ => 0) cr52 _ Try.underlying26 rfl infoV
        simp [results, Try.results14, asAddr, Act.put, Result.andThen, hld]
set_option maxRecDepth 100000 in
set_option maxHeartbeats 4000000 in
theorem tAdded_bad (l m : Nat → Int) (w : World) (hl : Few l) (hm : Few m) (hX : fst [ctE l, ctE m] ≠ 0) :
    Calls Try.prog 14 #[.agg (vls 64 (fv l)).toArray, .agg (vls 64 (fv m)).toArray] w fun e w' => e = .returned (.tuple #[.agg (vls 64 (fv fun _ => 0)).toArray, .int .i64 (fst [ctE l, ctE m])]) ∧ Below w.heap.size w w' := by
  have HA := Lib.hid (fun w => traceErr_v l hl w)
  have HC := Lib.hid (fun w => traceErr_v m hm w)
  generalize ctE l = E1 at *
  generalize ctE m = E2 at *
  generalize hx : fst [E1, E2] = X at *
  have EF := Lib.hid hx; clear hx
  have nz : (X != 0) = true := by simpa using hX
  clear hX
  go_enter Try.func14, Try.ntmps14
  go_wp2_with (first
    | ((with_reducible refine wpList_box_named rfl 26 _ rfl 2 rfl 64 (fv l) rfl ?_); intro w1 N1; have s1 := N1.size; have ca1 := N1.at'; have za1 := N1.free; have b1 : Hid (Below w.heap.size w w1) := Lib.hid N1.below; clear N1)
    | ((with_reducible refine wpList_box_named rfl 26 _ rfl 3 rfl 64 (fv m) rfl ?_); intro w2 N2; have s2 := N2.size; have ca2 := ca1.later N2.below; have za2 := za1.later ca1 N2.below; have cc2 := N2.at'; have zc2 := N2.free; have b2 : Hid (Below w.heap.size w w2) := Lib.hid (below_then b1.out N2.below); clear N2; rw [s1] at s2 cc2 zc2)
    | ((with_reducible refine wpList_alloc_named rfl 26 rfl 4 rfl 64 (fv fun _ => 0) zeroT ?_); intro w3 N3; have s3 := N3.size; have ca3 := ca2.later N3.below; have za3 := za2.later ca2 N3.below; have cc3 := cc2.later N3.below; have zc3 := zc2.later cc2 N3.below; have cr3 := N3.at'; have zr3 := N3.free; have b3 : Hid (Below w.heap.size w w3) := Lib.hid (below_then b2.out N3.below); clear N3; rw [s2] at s3 cr3 zr3))
  have ra := ca3.range
  have rc := cc3.range
  have hu := Try.underlying26
  have hi1 : (Try.prog.info? 26).map (·.size) = some (vls 64 (fv l)).length := by rw [vls_length]; exact infoV
  have hi2 : (Try.prog.info? 26).map (·.size) = some (vls 64 (fv m)).length := by rw [vls_length]; exact infoV
  refine wp_region_held_drew (S := fun w' => w'.rangeAt w.heap.size 0 (vls 64 (fv l)) ∧ w'.rangeAt (w.heap.size + 1) 0 (vls 64 (fv m)) ∧ Below w3.heap.size w3 w') (by kernel_rfl) ⟨range_drew ra, range_drew rc, (Below.refl _ _).drew⟩ (fun hHeld => ?_)
  refine' wpAnyH_take (i := 0) (v := .agg (vls 64 (fv l)).toArray) rfl (by kernel_rfl) (by kernel_rfl) (by kernel_rfl) (fun _ _ _ h => h) (yieldsIf_load_mid (by rfl) _ _ rfl _ _ rfl (vls 64 (fv l)) _ (fun w' h => h.1) hu rfl hi1) hHeld ?_
  try simp only [Act.put, List.setIfInBounds_toArray, List.set_cons_zero, List.set_cons_succ]
  refine' wpAnyH_take (i := 2) (v := .agg (vls 64 (fv m)).toArray) rfl (by kernel_rfl) (by kernel_rfl) (by kernel_rfl) (fun _ _ _ h => h) (yieldsIf_load_mid (by rfl) _ _ rfl _ _ rfl (vls 64 (fv m)) _ (fun w' h => h.2.1) hu rfl hi2) hHeld ?_
  try simp only [Act.put, List.setIfInBounds_toArray, List.set_cons_zero, List.set_cons_succ]
  refine wpAnyH_ready (rs := [1]) (by kernel_rfl) (by simp) ?_
  refine AllReadyH.cons rfl (fun K hK => ?_) AllReadyH.nil
  go_simp
  (go_at_call 51; (with_reducible refine (HA.out _).mono ?_); rintro e w' ⟨rfl, hb⟩)
  refine hK.out _ _ ⟨range_later hHeld.1 hb, range_later hHeld.2.1 hb, below_then hHeld.2.2 hb⟩ (fun hHeld => ?_)
  clear hK K
  try simp only [Act.put, List.setIfInBounds_toArray, List.set_cons_zero, List.set_cons_succ]
  refine wpAnyH_ready (rs := [3]) (by kernel_rfl) (by simp) ?_
  refine AllReadyH.cons rfl (fun K hK => ?_) AllReadyH.nil
  go_simp
  (go_at_call 51; (with_reducible refine (HC.out _).mono ?_); rintro e w' ⟨rfl, hb⟩)
  refine hK.out _ _ ⟨range_later hHeld.1 hb, range_later hHeld.2.1 hb, below_then hHeld.2.2 hb⟩ (fun hHeld => ?_)
  clear hK K
  try simp only [Act.put, List.setIfInBounds_toArray, List.set_cons_zero, List.set_cons_succ]
  refine wpAnyH_ready (rs := [4]) (by kernel_rfl) (by simp) ?_
  refine AllReadyH.cons rfl (fun K hK => ?_) AllReadyH.nil
  go_simp
  refine hK.out _ _ ⟨range_alloc hHeld.1 _, range_alloc hHeld.2.1 _, below_alloc_top hHeld.2.2 _⟩ (fun hHeld => ?_)
  clear hK K
  try simp only [Act.put, List.setIfInBounds_toArray, List.set_cons_zero, List.set_cons_succ]
  refine wpAnyH_ready (rs := [5]) (by kernel_rfl) (by simp) ?_
  refine AllReadyH.cons rfl (fun K hK => ?_) AllReadyH.nil
  go_simp
  (go_at_call 50; refine (firstError_any _ [E1, E2] _ (by simp) (by first | exact cells_drew _ _ (by first | rfl | assumption | simp) _ _ | exact cells_new _ _ (by first | rfl | assumption | simp) _ _)).mono ?_; rw [EF.out]; rintro e w' ⟨rfl, rfl⟩)
  refine hK.out _ _ ⟨hHeld.1, hHeld.2.1, hHeld.2.2⟩ (fun hHeld => ?_)
  clear hK K
  try simp only [Act.put, List.setIfInBounds_toArray, List.set_cons_zero, List.set_cons_succ]
  refine wpAnyH_ready (rs := [6]) (by kernel_rfl) (by simp) ?_
  refine AllReadyH.cons rfl (fun K hK => ?_) AllReadyH.nil
  go_simp
  refine hK.out _ _ ⟨hHeld.1, hHeld.2.1, hHeld.2.2⟩ (fun hHeld => ?_)
  clear hK K
  try simp only [Act.put, List.setIfInBounds_toArray, List.set_cons_zero, List.set_cons_succ]
  refine wpAnyH_done (by kernel_rfl) ?_ _
  generalize w'.alloc (Obj.cells #[.int .i64 E1, .int .i64 E2] 28) = W1 at *
  have hb4 := hHeld.2.2
  have ca4 := ca3.later hb4
  have za4 := za3.later ca3 hb4
  have cc4 := cc3.later hb4
  have cr4 := cr3.later hb4
  have zr4 := zr3.later cr3 hb4
  have b4 : Hid (Below w.heap.size w W1) := Lib.hid (below_then b3.out hb4)
  have lr4 : w.heap.size + 1 + 1 < W1.heap.size := World.block_lt_of_cell? _ _ (cr4 0 (by decide))
  clear hHeld hb4 ra rc hu hi1 hi2 HA HC
  go_wp2_with (first
    | (with_reducible refine wpList_build_zero rfl 26 rfl 64 (fv fun _ => 0) zeroT 24 Try.underlying26 info1 ?_)
    | ((with_reducible refine wpList_store_at rfl 26 _ _ rfl _ 64 _ (fv fun _ => 0) rfl rfl cr4 zr4 (fv_one _) infoV ?_); intro w5 S5 B5 cr5 zr5 O5 P5; have ca5 := O5 _ _ _ (by omega) ca4; have za5 := P5 _ _ za4; have b5 : Hid (Below w.heap.size w w5) := Lib.hid (B5 _ _ (by omega) b4.out); have s5' := Nat.le_of_eq S5.symm; clear S5 B5 O5 P5))
  refine bodyPost_ret (v := .tuple #[.agg (vls 64 (fv fun _ => 0)).toArray, .int .i64 X]) ?_ rfl ⟨rfl, b5.out⟩
  have hld := load_var_at 26 _ 64 (fv fun _ => 0) cr5 _ Try.underlying26 rfl infoV
  simp [results, Try.results14, asAddr, Act.put, Result.andThen, hld]
end Go.Proofs.Ytoieemgdkpnbfaa
