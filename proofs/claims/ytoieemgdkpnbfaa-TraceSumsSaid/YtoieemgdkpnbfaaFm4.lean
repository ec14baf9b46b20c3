/- the sum of the reference -/
import Derived.Test.YtoieemgdkpnbfaaFm6
namespace Go.Proofs.Ytoieemgdkpnbfaa
open Go.RowKit RayM
set_option linter.unusedSimpArgs false
set_option linter.unusedVariables false
theorem setF {w : World} {a p : Addr} {x : Value} (h : w.frozen? a = false) : (w.setCell p x).frozen? a = false := by simp [go_sem, h]
def RowW (g n : Nat) (l : Nat → Int) (w : World) : Prop := ∀ i, i < n → w.cell? ⟨g, i, none⟩ = some (.int .i64 (l i)) ∧ w.frozen? ⟨g, i, none⟩ = false
theorem own_row {w : World} {b : Nat} {e : TypeId} {v : Value} {n : Nat} {l : Nat → Int} (h : w.ownsRow b e 1 v n (mvs l n)) (hn : 0 < n) : ∃ g c, v = .slice (some ⟨g, 0, none⟩) n c ∧ b ≤ g ∧ g < w.heap.size ∧ RowW g n l w := by
  have h2 := h.2
  rcases h2 with ⟨q, q2⟩ | ⟨g, cap, cur, rfl, hb, hgb, r⟩
  · omega
  · refine ⟨g, cap, rfl, hb, (Array.getElem?_eq_some_iff.1 hgb).1, fun i hi => ⟨?_, by simp [World.frozen?, hgb]⟩⟩
    have := h.cells (g := g) rfl i _ (mvs_get l n i hi)
    rwa [add_off] at this
theorem RowW.later {g n : Nat} {l : Nat → Int} {w w' : World} (r : RowW g n l w) (hb : Below w.heap.size w w') : RowW g n l w' := fun i hi => ⟨cell_later hb (r i hi).1, frozen_after hb (r i hi).1 (r i hi).2⟩
theorem RowW.set {g n : Nat} {l : Nat → Int} {w : World} (r : RowW g n l w) (B i : Nat) (u : Value) (h : B ≠ g) : RowW g n l (w.setCell ⟨B, i, none⟩ u) := fun j hj => ⟨setO (.inl (by dsimp only; omega)) (r j hj).1, setF (r j hj).2⟩
theorem RowW.put {g n : Nat} {l l' : Nat → Int} {w : World} (r : RowW g n l w) (i : Nat) (x : Int) (hi : i < n) (e : ∀ j, j < n → l' j = if j = i then x else l j) : RowW g n l' (w.setCell ⟨g, i, none⟩ (.int .i64 x)) := fun j hj => by
  refine ⟨?_, setF (r j hj).2⟩
  rw [e j hj]
  by_cases q : j = i
  · subst q; rw [if_pos rfl]; exact setS (r j hj).1
  · rw [if_neg q]; exact setO (.inr (by dsimp only; omega)) (r j hj).1
theorem RowW.at {g n : Nat} {l : Nat → Int} {w : World} (r : RowW g n l w) : InAt (some ⟨g, 0, none⟩) n l w := fun _ => ⟨_, rfl, fun i hi => by rw [add_off]; exact (r i hi).1⟩
set_option maxRecDepth 100000 in
set_option maxHeartbeats 1000000 in
theorem bSize_any (n : Int) (w : World) (h : n.natAbs < 65536) :
    Calls Try.prog 57 #[.int .i64 n] w fun e w' => e = .returned (.int .i64 (n.natAbs : Int)) ∧ w = w' := by
  have ew : IntKind.i64.wrap (-n) = -n := IntWalk.i64_in _ (by omega)
  generalize hv : (n.natAbs : Int) = v
  by_cases p : n < -n
  · have E : Hid (v = -n) := by show _ = _; omega
    clear h hv
    rw [E.out]
    go_enter Try.func57, Try.ntmps57
    go_wp2
    go_ret
    exact ⟨rfl, rfl⟩
  · have E : Hid (v = n) := by show _ = _; omega
    clear h hv
    rw [E.out]
    go_enter Try.func57, Try.ntmps57
    go_wp2
    go_ret
    exact ⟨rfl, rfl⟩
theorem row_drew {g n : Nat} {l : Nat → Int} {w : World} (r : RowW g n l w) : RowW g n l w.drew := fun i hi => ⟨cell_drew' (r i hi).1, by have := (r i hi).2; simpa [go_sem] using this⟩
theorem trS_same (l : Nat → Int) : (vls 64 (fv (trS l 64))).toArray = (vls 64 (fv l)).toArray := by
  rw [vls_congr (fun i hi => by show fv (trS l 64) i = fv l i; unfold fv trS; rw [if_pos hi])]
set_option maxRecDepth 100000 in
set_option maxHeartbeats 4000000 in
theorem rAdded_ok (l m : Nat → Int) (w : World) (hl : ∀ i, i < 64 → -2047 ≤ l i ∧ l i ≤ 2047) (hm : ∀ i, i < 64 → -2047 ≤ m i ∧ m i ≤ 2047) :
    Calls Try.prog 19 #[.agg (vls 64 (fv l)).toArray, .agg (vls 64 (fv m)).toArray] w fun e w' => e = .returned (.tuple #[.agg (vls 64 (fv (adT l m))).toArray, .int .i64 (adE l m)]) ∧ Below w.heap.size w w' := by
  have HA := Lib.hid (fun w => rInts_any l (few_in hl) w)
  have HC := Lib.hid (fun w => rInts_any m (few_in hm) w)
  have RT := Lib.hid (fun A c w h => rTrace_any A 64 c (smT l m) w (by omega) h)
  rw [trS_same] at RT
  have TY : Hid ((∀ i, i < 64 → ((smT l m i).natAbs : Int) ≤ 2047) → adT l m = smT l m ∧ adE l m = 0) := Lib.hid (fun h => by
    have q := (ldS_le (smT l m) 2047 64).2 ⟨by decide, h⟩
    exact ⟨by unfold adT; rw [if_pos q], by unfold adE; rw [if_pos q]⟩)
  have TN : Hid (∀ i, i < 64 → ¬ ((smT l m i).natAbs : Int) ≤ 2047 → adT l m = (fun _ => 0) ∧ adE l m = 8) := Lib.hid (fun i hi h => by
    have q : ¬ ldS (smT l m) 64 ≤ 2047 := fun q => h (((ldS_le (smT l m) 2047 64).1 q).2 i hi)
    exact ⟨by unfold adT; rw [if_neg q], by unfold adE; rw [if_neg q]⟩)
  generalize adT l m = T0 at *
  generalize adE l m = X0 at *
  go_enter Try.func19, Try.ntmps19
  go_wp2_with (first
    | ((with_reducible refine wpList_box_named rfl 26 _ rfl 2 rfl 64 (fv l) rfl ?_); intro w1 N1; have s1 := N1.size; have ca1 := N1.at'; have za1 := N1.free; have b1 : Hid (Below w.heap.size w w1) := Lib.hid N1.below; clear N1)
    | ((with_reducible refine wpList_box_named rfl 26 _ rfl 3 rfl 64 (fv m) rfl ?_); intro w2 N2; have s2 := N2.size; have ca2 := ca1.later N2.below; have za2 := za1.later ca1 N2.below; have cc2 := N2.at'; have zc2 := N2.free; have b2 : Hid (Below w.heap.size w w2) := Lib.hid (below_then b1.out N2.below); clear N2; rw [s1] at s2 cc2 zc2)
    | ((with_reducible refine wpList_alloc_named rfl 26 rfl 4 rfl 64 (fv fun _ => 0) zeroT ?_); intro w3 N3; have s3 := N3.size; have ca3 := ca2.later N3.below; have za3 := za2.later ca2 N3.below; have cc3 := cc2.later N3.below; have zc3 := zc2.later cc2 N3.below; have cr3 := N3.at'; have zr3 := N3.free; have b3 : Hid (Below w.heap.size w w3) := Lib.hid (below_then b2.out N3.below); clear N3; rw [s2] at s3 cr3 zr3))
  have ra := ca3.range
  have rc := cc3.range
  have hu := Try.underlying26
  have hi1 : (Try.prog.info? 26).map (·.size) = some (vls 64 (fv l)).length := by rw [vls_length]; exact infoV
  have hi2 : (Try.prog.info? 26).map (·.size) = some (vls 64 (fv m)).length := by rw [vls_length]; exact infoV
  refine wp_region_held_drew (S := fun w' => w'.rangeAt w.heap.size 0 (vls 64 (fv l)) ∧ w'.rangeAt (w.heap.size + 1) 0 (vls 64 (fv m)) ∧ Below w3.heap.size w3 w') (by kernel_rfl) ⟨range_drew ra, range_drew rc, (Below.refl _ _).drew⟩ (fun hHeld => ?_)
  refine' wpAnyH_take (i := 0) (v := .agg (vls 64 (fv l)).toArray) rfl (by kernel_rfl) (by kernel_rfl) (by kernel_rfl) (fun _ _ _ h => h) (yieldsIf_load_mid (by rfl) _ _ rfl _ _ rfl (vls 64 (fv l)) _ (fun w' h => h.1) hu rfl hi1) hHeld ?_
  try simp only [Act.put, List.setIfInBounds_toArray, List.set_cons_zero, List.set_cons_succ]
  refine' wpAnyH_take (i := 2) (v := .agg (vls 64 (fv m)).toArray) rfl (by kernel_rfl) (by kernel_rfl) (by kernel_rfl) (fun _ _ _ h => h) (yieldsIf_load_mid (by rfl) _ _ rfl _ _ rfl (vls 64 (fv m)) _ (fun w' h => h.2.1) hu rfl hi2) hHeld ?_
  try simp only [Act.put, List.setIfInBounds_toArray, List.set_cons_zero, List.set_cons_succ]
  refine wpAnyH_ready (rs := [1]) (by kernel_rfl) (by simp) ?_
  refine AllReadyH.cons rfl (fun K hK => ?_) AllReadyH.nil
  go_simp
  (go_at_call 56; (with_reducible refine (HA.out _).mono ?_); rintro e w5 ⟨v1, rfl, hown1, hb5⟩)
  refine hK.out _ _ ⟨range_later hHeld.1 hb5, range_later hHeld.2.1 hb5, below_then hHeld.2.2 hb5⟩ (fun hHeld => ?_)
  clear hK K
  try simp only [Act.put, List.setIfInBounds_toArray, List.set_cons_zero, List.set_cons_succ]
  refine wpAnyH_ready (rs := [3]) (by kernel_rfl) (by simp) ?_
  refine AllReadyH.cons rfl (fun K hK => ?_) AllReadyH.nil
  go_simp
  (go_at_call 56; (with_reducible refine (HC.out _).mono ?_); rintro e w6 ⟨v2, rfl, hown2, hb6⟩)
  refine hK.out _ _ ⟨range_later hHeld.1 hb6, range_later hHeld.2.1 hb6, below_then hHeld.2.2 hb6⟩ (fun hHeld => ?_)
  clear hK K
  try simp only [Act.put, List.setIfInBounds_toArray, List.set_cons_zero, List.set_cons_succ]
  refine wpAnyH_take (i := 4) (v := v1) rfl (by kernel_rfl) (by kernel_rfl) (by kernel_rfl) (fun _ _ _ h => h) (Or.inl ⟨by rfl, ?_⟩) hHeld ?_
  · intro w' hSw; go_simp
  try simp only [Act.put, List.setIfInBounds_toArray, List.set_cons_zero, List.set_cons_succ]
  refine wpAnyH_take (i := 5) (v := v2) rfl (by kernel_rfl) (by kernel_rfl) (by kernel_rfl) (fun _ _ _ h => h) (Or.inl ⟨by rfl, ?_⟩) hHeld ?_
  · intro w' hSw; go_simp
  try simp only [Act.put, List.setIfInBounds_toArray, List.set_cons_zero, List.set_cons_succ]
  refine wpAnyH_done (by kernel_rfl) ?_ _
  obtain ⟨g, c1, rfl, gb, gl, rx⟩ := own_row hown1 (by omega)
  obtain ⟨g2, c2, rfl, gb2, gl2, ry⟩ := own_row hown2 (by omega)
  have rx6 := rx.later hb6
  have hb7 := hHeld.2.2
  have cr6 := cr3.later hb7
  have zr6 := zr3.later cr3 hb7
  have b6 : Hid (Below w.heap.size w w6) := Lib.hid (below_then b3.out hb7)
  have ggne : g2 ≠ g := by omega
  replace gb : w3.heap.size ≤ g := by simpa [go_sem] using gb
  have grne : g ≠ w.heap.size + 1 + 1 := by omega
  have gw : w.heap.size ≤ g := by omega
  clear hHeld hb7 ra rc hu hi1 hi2 HA HC hown1 hown2 rx hb5 hb6
  rw [← adS_zero l m] at rx6
  go_wp2_with fail
  go_loopw [8] (fun s8 wr => ∃ k : Nat, k ≤ 64 ∧ s8 = .int .i64 (k : Int) ∧ RowW g 64 (adS l m k) wr ∧ RowW g2 64 m wr ∧ (∀ i, i < k → ((smT l m i).natAbs : Int) ≤ 2047) ∧ VAt (w.heap.size + 1 + 1) 64 (fv fun _ => 0) wr ∧ Fz (w.heap.size + 1 + 1) 64 wr ∧ Hid (Below w.heap.size w wr)) (fun s8 _ => 64 - (intOf s8).toNat)
  case atStart => exact ⟨0, by omega, rfl, rx6, ry, fun i hi => absurd hi (by omega), cr6, zr6, b6⟩
  case round =>
    obtain ⟨k, hk, rfl, ak, ck, ek, rk, gk, bk⟩ := hrel
    have HE := Lib.hid ek; clear ek
    have j0 : (0 : Int) ≤ (k : Int) := Int.natCast_nonneg _
    by_cases hlt : k < 64
    · have j1 : (k : Int) < 64 := by omega
      have q0 : wr.cell? ⟨g, k, none⟩ = some (.int .i64 (l k)) := by have := (ak k hlt).1; unfold adS at this; rw [if_neg (by omega)] at this; exact this
      have q1 := (ak k hlt).2
      have q2 := (ck k hlt).1
      have l0 := hl k hlt
      have m0 := hm k hlt
      have ew : IntKind.i64.wrap (l k + m k) = l k + m k := IntWalk.i64_in _ (by omega)
      have SZ := Lib.hid (fun w => bSize_any (l k + m k) w (by omega))
      have AP : Hid (∀ j, j < 64 → adS l m (k + 1) j = if j = k then l k + m k else adS l m k j) := Lib.hid (fun j hj => by
        unfold adS
        by_cases e : j = k
        · subst e; rw [if_pos (by omega), if_pos rfl]
        · rw [if_neg e]
          by_cases e2 : j < k
          · rw [if_pos e2, if_pos (by omega)]
          · rw [if_neg e2, if_neg (by omega)])
      have SK : Hid (smT l m k = l k + m k) := (rfl : _ = _)
      clear l0 m0
      go_wp2
      go_region
      obtain ⟨wq, hwq⟩ : ∃ q, q = (wr.setCell ⟨g, k, none⟩ (.int .i64 (l k + m k))).drew := ⟨_, rfl⟩
      rw [← hwq]
      have aq : RowW g 64 (adS l m (k + 1)) wq := by rw [hwq]; exact row_drew (ak.put k _ hlt AP.out)
      have cq : RowW g2 64 m wq := by rw [hwq]; exact row_drew (ck.set g k _ (Ne.symm ggne))
      have rq : VAt (w.heap.size + 1 + 1) 64 (fv fun _ => 0) wq := by rw [hwq]; exact (rk.other _ _ (Ne.symm grne) _).drew
      have gq : Fz (w.heap.size + 1 + 1) 64 wq := by rw [hwq]; exact (gk.set _ _).drew
      have bq : Hid (Below w.heap.size w wq) := by rw [hwq]; exact Lib.hid (bk.out.setCell gw _).drew
      have q4 : wq.cell? ⟨g, k, none⟩ = some (.int .i64 (l k + m k)) := by have := (aq k hlt).1; unfold adS at this; rw [if_pos (by omega)] at this; exact this
      clear ak ck rk gk bk q0 q1 q2 hwq ew AP
      generalize hS : ((l k + m k).natAbs : Int) = S at *
      have HS := Lib.hid hS; clear hS
      have lt50 : w.heap.size + 1 + 1 < wq.heap.size := World.block_lt_of_cell? _ _ (rq 0 (by decide))
      by_cases hs : S ≤ 2047
      · have hs2 : ¬ 2047 < S := by omega
        go_wp2_with (go_at_call 57; (with_reducible refine (SZ.out _).mono ?_); rintro e w' ⟨rfl, rfl⟩)
        go_roundw
        case rel => exact ⟨k + 1, by omega, by go_num, aq, cq, fun i hi => by
          rcases Nat.lt_succ_iff_lt_or_eq.1 hi with h | h
          · exact HE.out i h
          · rw [h, SK.out, HS.out]; omega, rq, gq, bq⟩
        case measure => simp [intOf]; omega
      · have hs2 : 2047 < S := by omega
        obtain ⟨rfl, rfl⟩ := TN.out k hlt (by rw [SK.out, HS.out]; omega)
        have cr50 := rq
        have zr50 := gq
        have b50 := bq
        clear rq gq bq
        go_wp2_with (first
          | (go_at_call 57; (with_reducible refine (SZ.out _).mono ?_); rintro e w' ⟨rfl, rfl⟩)
          | (with_reducible refine wpList_build_zero rfl 26 rfl 64 (fv fun _ => 0) zeroT 24 Try.underlying26 info1 ?_)
          | ((with_reducible refine wpList_store_at rfl 26 _ _ rfl _ 64 _ (fv fun _ => 0) rfl rfl cr50 zr50 (fv_one _) infoV ?_); intro w51 S51 B51 cr51 zr51 O51 P51; have b51 : Hid (Below w.heap.size w w51) := Lib.hid (B51 _ _ (by omega) b50.out); have s51' := Nat.le_of_eq S51.symm; clear S51 B51 O51 P51))
        refine bodyPost_ret (v := .tuple #[.agg (vls 64 (fv fun _ => 0)).toArray, .int .i64 8]) ?_ rfl ⟨rfl, b51.out⟩
        have hld := load_var_at 26 _ 64 (fv fun _ => 0) cr51 _ Try.underlying26 rfl infoV
        simp [results, Try.results19, asAddr, Act.put, Result.andThen, hld]
    · obtain rfl : k = 64 := by omega
      obtain ⟨rfl, rfl⟩ := TY.out HE.out
      have HI : Hid (InAt (some ⟨g, 0, none⟩) 64 (smT l m) wr) := Lib.hid (fun _ => ⟨_, rfl, fun i hi => by
        rw [add_off]
        have := (ak i hi).1
        unfold adS at this
        rw [if_pos hi] at this
        exact this⟩)
      have cr50 := rk
      have zr50 := gk
      have b50 := bk
      have lt50 : w.heap.size + 1 + 1 < wr.heap.size := World.block_lt_of_cell? _ _ (cr50 0 (by decide))
      clear ak ck rk gk bk
      go_wp2_with (first
        | (go_at_call 47; (with_reducible refine (RT.out _ _ _ HI.out).mono ?_); rintro e w51 ⟨rfl, hb51⟩; have cr51 := cr50.later hb51; have zr51 := zr50.later cr50 hb51; have b51 : Hid (Below w.heap.size w w51) := Lib.hid (below_then b50.out hb51); have s51' := hb51.size; clear hb51)
        | ((with_reducible refine wpList_store_at rfl 26 _ _ rfl _ 64 _ (fv (smT l m)) rfl rfl cr51 zr51 (fv_one _) infoV ?_); intro w52 S52 B52 cr52 zr52 O52 P52; have b52 : Hid (Below w.heap.size w w52) := Lib.hid (B52 _ _ (by omega) b51.out); have s52' := Nat.le_of_eq S52.symm; clear S52 B52 O52 P52))
      refine bodyPost_ret (v := .tuple #[.agg (vls 64 (fv (smT l m))).toArray, .int .i64 0]) ?_ rfl ⟨rfl, b52.out⟩
      have hld := load_var_at 26 _ 64 (fv (smT l m)) cr52 _ Try.underlying26 rfl infoV
      simp [results, Try.results19, asAddr, Act.put, Result.andThen, hld]
end Go.Proofs.Ytoieemgdkpnbfaa
