/- the analytic samples of the reference -/
import Derived.Test.YtoieemgdkpnbfaaFlM
namespace Go.Proofs.Ytoieemgdkpnbfaa
open Go.RowKit RayM
set_option linter.unusedSimpArgs false
set_option linter.unusedVariables false
/-- pairs of whole numbers lie at a block -/
def PAt (g : Nat) (l : Nat → Int) (w : World) : Prop := ∀ i, i < 61 → w.cell? ⟨g, i * 2, none⟩ = some (.int .i64 (reA l i)) ∧ w.cell? ⟨g, i * 2 + 1, none⟩ = some (.int .i64 (imA l i))
theorem PAt.later {g : Nat} {l : Nat → Int} {w w' : World} (r : PAt g l w) (hb : Below w.heap.size w w') : PAt g l w' := fun i hi => ⟨cell_later hb (r i hi).1, cell_later hb (r i hi).2⟩
theorem PAt.other {g : Nat} {l : Nat → Int} {w : World} (r : PAt g l w) (b i : Nat) (h : g ≠ b) (v : Value) : PAt g l (w.setCell ⟨b, i, none⟩ v) := fun j hj => ⟨setO (.inl h) (r j hj).1, setO (.inl h) (r j hj).2⟩
theorem PAt.drew {g : Nat} {l : Nat → Int} {w : World} (r : PAt g l w) : PAt g l w.drew := fun i hi => ⟨cell_drew' (r i hi).1, cell_drew' (r i hi).2⟩
theorem own_pairs {w : World} {b : Nat} {e : TypeId} {v : Value} {l : Nat → Int} (q : w.ownsRow b e 2 v 61 (prs l 61)) : ∃ g c, v = .slice (some ⟨g, 0, none⟩) 61 c ∧ g < w.heap.size ∧ PAt g l w := by
  obtain ⟨A, c, e, r⟩ := own_form q
  obtain ⟨g, rfl, _, hl, hc⟩ := r (by omega)
  exact ⟨g, c, e, hl, fun j hj => ⟨hc _ _ (prs_get l 61 j hj).1, hc _ _ (prs_get l 61 j hj).2⟩⟩
theorem few_in {l : Nat → Int} (h : ∀ i, i < 64 → -2047 ≤ l i ∧ l i ≤ 2047) : Few l := fun i hi => by have := h i hi; omega
set_option maxRecDepth 100000 in
set_option maxHeartbeats 4000000 in
theorem rAnalytic_any (l : Nat → Int) (w : World) (hl : ∀ i, i < 64 → -2047 ≤ l i ∧ l i ≤ 2047) :
    Calls Try.prog 27 #[.agg (vls 64 (fv l)).toArray] w fun e w' => e = .returned (.agg (vls 61 (anv l)).toArray) ∧ Below w.heap.size w w' := by
  have SC := @run_store_complex Try.prog
  go_enter Try.func27, Try.ntmps27
  go_wp2_with (first
    | ((with_reducible refine wpList_box_named rfl 26 _ rfl 1 rfl 64 (fv l) rfl ?_); intro w1 N1; have s1 := N1.size; have ct1 := N1.at'; have zt1 := N1.free; have b1 : Hid (Below w.heap.size w w1) := Lib.hid N1.below; clear N1)
    | ((with_reducible refine wpList_alloc_named rfl 49 rfl 2 rfl 61 (zcv) zeroC ?_); intro w2 N2; have s2 := N2.size; have ct2 := ct1.later N2.below; have zt2 := zt1.later ct1 N2.below; have cr2 := N2.at'; have zr2 := N2.free; have b2 : Hid (Below w.heap.size w w2) := Lib.hid (below_then b1.out N2.below); clear N2; rw [s1] at s2 cr2 zr2)
    | (with_reducible refine wpList_load_at rfl 26 _ rfl _ 64 (fv l) rfl ct2 _ Try.underlying26 rfl infoV ?_)
    | (go_at_call 64; (with_reducible refine (rParts_any l _ (few_in hl)).mono ?_); rintro e w3 ⟨v0, rfl, hown0, hb3⟩; have ct3 := ct2.later hb3; have zt3 := zt2.later ct2 hb3; have cr3 := cr2.later hb3; have zr3 := zr2.later cr2 hb3; have b3 : Hid (Below w.heap.size w w3) := Lib.hid (below_then b2.out hb3); have s3' := hb3.size; rw [s2] at s3'; clear hb3)
    | ((with_reducible refine wpList_alloc_named rfl 49 rfl 4 rfl 61 (zcv) zeroC ?_); intro w4 N4; have s4 := N4.size; have ct4 := ct3.later N4.below; have zt4 := zt3.later ct3 N4.below; have cr4 := cr3.later N4.below; have zr4 := zr3.later cr3 N4.below; have co4 := N4.at'; have zo4 := N4.free; have b4 : Hid (Below w.heap.size w w4) := Lib.hid (below_then b3.out N4.below); have BQ := Lib.hid N4.below; clear N4; have s4' := Nat.le_of_eq s4.symm))
  obtain ⟨g, c0, rfl, hg, hp⟩ := own_pairs hown0
  have hp2 : PAt g l w4 := hp.later BQ.out
  have go : g ≠ w3.heap.size := by omega
  have ro : w.heap.size + 1 ≠ w3.heap.size := by omega
  have wo : w.heap.size ≤ w3.heap.size := by omega
  clear hown0 hp
  rw [← anS_zero l] at co4
  go_loopw [5] (fun s5 wr => ∃ k : Nat, k ≤ 61 ∧ s5 = .int .i64 (k : Int) ∧ PAt g l wr ∧ VAt (w.heap.size + 1) 61 zcv wr ∧ Fz (w.heap.size + 1) 61 wr ∧ VAt (w3.heap.size) 61 (anS l k) wr ∧ Fz (w3.heap.size) 61 wr ∧ Hid (Below w.heap.size w wr)) (fun s5 _ => 61 - (intOf s5).toNat)
  case atStart => exact ⟨0, by omega, rfl, hp2, cr4, zr4, co4, zo4, b4⟩
  case round =>
    obtain ⟨k, hk, rfl, pk, ck, rk, ak, gk, bk⟩ := hrel
    have j0 : (0 : Int) ≤ (k : Int) := Int.natCast_nonneg _
    by_cases hlt : k < 61
    · have j1 : (k : Int) < 61 := by omega
      obtain ⟨q0, q1⟩ := pk k hlt
      have y0 := ak k hlt
      have y1 := gk k hlt
      have l0 := hl k (by omega)
      have l1 := hl (k + 1) (by omega)
      have l2 := hl (k + 2) (by omega)
      have l3 := hl (k + 3) (by omega)
      have ra : (reA l k).natAbs < 8192 := by unfold reA; omega
      have ia : (imA l k).natAbs < 8192 := by unfold imA; omega
      have ST := Lib.hid (anS_step l k)
      clear l0 l1 l2 l3
      have SM := Lib.hid (fun w => sample_any (reA l k) (imA l k) w ra ia)
      go_wp2
      go_region_with (go_at_call 49; (with_reducible refine (SM.out _).mono ?_); rintro e w' ⟨rfl, rfl⟩)
      go_wp2
      go_roundw
      case rel => exact ⟨k + 1, by omega, by go_num, (pk.other _ _ go _).drew, (ck.other _ _ ro _).drew, (rk.set _ _).drew, ((ak.set k hlt _).congr (ST.out _ rfl)).drew, (gk.set _ _).drew, Lib.hid (bk.out.setCell (by dsimp only; omega) _).drew⟩
      case measure => simp [intOf]; omega
      all_goals (refine ⟨⟨k + 1, by omega, by go_num, (pk.other _ _ go _).drew, (ck.other _ _ ro _).drew, (rk.set _ _).drew, ((ak.set k hlt _).congr (ST.out _ rfl)).drew, (gk.set _ _).drew, Lib.hid (bk.out.setCell (by dsimp only; omega) _).drew⟩, ?_⟩; simp [intOf]; omega)
    · obtain rfl : k = 61 := by omega
      have cr50 := ck
      have zr50 := rk
      have co50 := ak.congr (anS_all l)
      have zo50 := gk
      have b50 := bk
      have lt50 : w3.heap.size < wr.heap.size := World.block_lt_of_cell? _ _ (co50 0 (by decide))
      clear pk ck rk ak gk bk
      go_wp2_with (first
        | (with_reducible refine wpList_load_at rfl 49 _ rfl _ 61 (anv l) rfl co50 _ Try.underlying49 rfl infoC ?_)
        | ((with_reducible refine wpList_store_at rfl 49 _ _ rfl _ 61 _ (anv l) rfl rfl cr50 zr50 ((fun _ _ => rfl)) infoC ?_); intro w51 S51 B51 cr51 zr51 O51 P51; have co51 := O51 _ _ _ (by omega) co50; have zo51 := P51 _ _ zo50; have b51 : Hid (Below w.heap.size w w51) := Lib.hid (B51 _ _ (by omega) b50.out); have s51' := Nat.le_of_eq S51.symm; clear S51 B51 O51 P51))
      refine bodyPost_ret (v := .agg (vls 61 (anv l)).toArray) ?_ rfl ⟨rfl, b51.out⟩
      have hld := load_var_at 49 _ 61 (anv l) cr51 _ Try.underlying49 rfl infoC
      simp [results, Try.results27, asAddr, Act.put, Result.andThen, hld]
set_option maxRecDepth 100000 in
set_option maxHeartbeats 4000000 in
theorem rEnvelope_any (l : Nat → Int) (w : World) (hl : ∀ i, i < 64 → -2047 ≤ l i ∧ l i ≤ 2047) :
    Calls Try.prog 28 #[.agg (vls 64 (fv l)).toArray] w fun e w' => e = .returned (.agg (vls 61 (sqv l)).toArray) ∧ Below w.heap.size w w' := by
  have SC := @run_store_complex Try.prog
  go_enter Try.func28, Try.ntmps28
  go_wp2_with (first
    | ((with_reducible refine wpList_box_named rfl 26 _ rfl 1 rfl 64 (fv l) rfl ?_); intro w1 N1; have s1 := N1.size; have ct1 := N1.at'; have zt1 := N1.free; have b1 : Hid (Below w.heap.size w w1) := Lib.hid N1.below; clear N1)
    | ((with_reducible refine wpList_alloc_named rfl 52 rfl 2 rfl 61 (ziv) zeroI ?_); intro w2 N2; have s2 := N2.size; have ct2 := ct1.later N2.below; have zt2 := zt1.later ct1 N2.below; have cr2 := N2.at'; have zr2 := N2.free; have b2 : Hid (Below w.heap.size w w2) := Lib.hid (below_then b1.out N2.below); clear N2; rw [s1] at s2 cr2 zr2)
    | (with_reducible refine wpList_load_at rfl 26 _ rfl _ 64 (fv l) rfl ct2 _ Try.underlying26 rfl infoV ?_)
    | (go_at_call 64; (with_reducible refine (rParts_any l _ (few_in hl)).mono ?_); rintro e w3 ⟨v0, rfl, hown0, hb3⟩; have ct3 := ct2.later hb3; have zt3 := zt2.later ct2 hb3; have cr3 := cr2.later hb3; have zr3 := zr2.later cr2 hb3; have b3 : Hid (Below w.heap.size w w3) := Lib.hid (below_then b2.out hb3); have s3' := hb3.size; rw [s2] at s3'; clear hb3)
    | ((with_reducible refine wpList_alloc_named rfl 52 rfl 4 rfl 61 (ziv) zeroI ?_); intro w4 N4; have s4 := N4.size; have ct4 := ct3.later N4.below; have zt4 := zt3.later ct3 N4.below; have cr4 := cr3.later N4.below; have zr4 := zr3.later cr3 N4.below; have co4 := N4.at'; have zo4 := N4.free; have b4 : Hid (Below w.heap.size w w4) := Lib.hid (below_then b3.out N4.below); have BQ := Lib.hid N4.below; clear N4; have s4' := Nat.le_of_eq s4.symm))
  obtain ⟨g, c0, rfl, hg, hp⟩ := own_pairs hown0
  have hp2 : PAt g l w4 := hp.later BQ.out
  have go : g ≠ w3.heap.size := by omega
  have ro : w.heap.size + 1 ≠ w3.heap.size := by omega
  have wo : w.heap.size ≤ w3.heap.size := by omega
  clear hown0 hp
  rw [← sqS_zero l] at co4
  go_loopw [5] (fun s5 wr => ∃ k : Nat, k ≤ 61 ∧ s5 = .int .i64 (k : Int) ∧ PAt g l wr ∧ VAt (w.heap.size + 1) 61 ziv wr ∧ Fz (w.heap.size + 1) 61 wr ∧ VAt (w3.heap.size) 61 (sqS l k) wr ∧ Fz (w3.heap.size) 61 wr ∧ Hid (Below w.heap.size w wr)) (fun s5 _ => 61 - (intOf s5).toNat)
  case atStart => exact ⟨0, by omega, rfl, hp2, cr4, zr4, co4, zo4, b4⟩
  case round =>
    obtain ⟨k, hk, rfl, pk, ck, rk, ak, gk, bk⟩ := hrel
    have j0 : (0 : Int) ≤ (k : Int) := Int.natCast_nonneg _
    by_cases hlt : k < 61
    · have j1 : (k : Int) < 61 := by omega
      obtain ⟨q0, q1⟩ := pk k hlt
      have y0 := ak k hlt
      have y1 := gk k hlt
      have l0 := hl k (by omega)
      have l1 := hl (k + 1) (by omega)
      have l2 := hl (k + 2) (by omega)
      have l3 := hl (k + 3) (by omega)
      have ra : (reA l k).natAbs < 8192 := by unfold reA; omega
      have ia : (imA l k).natAbs < 8192 := by unfold imA; omega
      have ST := Lib.hid (sqS_step l k)
      clear l0 l1 l2 l3
      have pa := sq_in (reA l k) ra
      have pi := sq_in (imA l k) ia
      have w1_ : IntKind.i64.wrap (reA l k * reA l k) = reA l k * reA l k := IntWalk.i64_in _ (by omega)
      have w2_ : IntKind.i64.wrap (imA l k * imA l k) = imA l k * imA l k := IntWalk.i64_in _ (by omega)
      have w3_ : IntKind.i64.wrap (reA l k * reA l k + imA l k * imA l k) = reA l k * reA l k + imA l k * imA l k := IntWalk.i64_in _ (by omega)
      clear pa pi
      go_wp2
      go_region
      go_wp2
      go_roundw
      case rel => exact ⟨k + 1, by omega, by go_num, (pk.other _ _ go _).drew, (ck.other _ _ ro _).drew, (rk.set _ _).drew, ((ak.set k hlt _).congr (ST.out _ rfl)).drew, (gk.set _ _).drew, Lib.hid (bk.out.setCell (by dsimp only; omega) _).drew⟩
      case measure => simp [intOf]; omega
      all_goals (refine ⟨⟨k + 1, by omega, by go_num, (pk.other _ _ go _).drew, (ck.other _ _ ro _).drew, (rk.set _ _).drew, ((ak.set k hlt _).congr (ST.out _ rfl)).drew, (gk.set _ _).drew, Lib.hid (bk.out.setCell (by dsimp only; omega) _).drew⟩, ?_⟩; simp [intOf]; omega)
    · obtain rfl : k = 61 := by omega
      have cr50 := ck
      have zr50 := rk
      have co50 := ak.congr (sqS_all l)
      have zo50 := gk
      have b50 := bk
      have lt50 : w3.heap.size < wr.heap.size := World.block_lt_of_cell? _ _ (co50 0 (by decide))
      clear pk ck rk ak gk bk
      go_wp2_with (first
        | (with_reducible refine wpList_load_at rfl 52 _ rfl _ 61 (sqv l) rfl co50 _ Try.underlying52 rfl infoI ?_)
        | ((with_reducible refine wpList_store_at rfl 52 _ _ rfl _ 61 _ (sqv l) rfl rfl cr50 zr50 ((fun _ _ => rfl)) infoI ?_); intro w51 S51 B51 cr51 zr51 O51 P51; have co51 := O51 _ _ _ (by omega) co50; have zo51 := P51 _ _ zo50; have b51 : Hid (Below w.heap.size w w51) := Lib.hid (B51 _ _ (by omega) b50.out); have s51' := Nat.le_of_eq S51.symm; clear S51 B51 O51 P51))
      refine bodyPost_ret (v := .agg (vls 61 (sqv l)).toArray) ?_ rfl ⟨rfl, b51.out⟩
      have hld := load_var_at 52 _ 61 (sqv l) cr51 _ Try.underlying52 rfl infoI
      simp [results, Try.results28, asAddr, Act.put, Result.andThen, hld]
end Go.Proofs.Ytoieemgdkpnbfaa
