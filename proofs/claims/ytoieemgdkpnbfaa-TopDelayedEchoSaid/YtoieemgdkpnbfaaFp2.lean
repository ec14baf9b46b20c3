/- gains: the program -/
import Derived.Test.YtoieemgdkpnbfaaFp1
import Derived.Test.YtoieemgdkpnbfaaFm3
import Derived.Test.YtoieemgdkpnbfaaFm6
import Derived.Test.YtoieemgdkpnbfaaFlN
import Derived.Test.YtoieemgdkpnbfaaFl8
namespace Go.Proofs.Ytoieemgdkpnbfaa
open Go.RowKit RayM
set_option linter.unusedSimpArgs false
set_option linter.unusedVariables false
/-- a sample times a gain; what is left of it; how many were cut -/
def gnV (F : Nat → Int) (n d : Int) (k : Nat) : Int := (2 * (F k * n) + d) / (2 * d)
def gcV (F : Nat → Int) (n d : Int) (k : Nat) : Int := max (-2047) (min 2047 (gnV F n d k))
def cuS (F : Nat → Int) (n d : Int) : Nat → Int
  | 0 => 0
  | k + 1 => cuS F n d k + if gcV F n d k = gnV F n d k then 0 else 1
theorem cuS_in (F : Nat → Int) (n d : Int) : ∀ k : Nat, 0 ≤ cuS F n d k ∧ cuS F n d k ≤ k
  | 0 => ⟨Int.le_refl _, Int.le_refl _⟩
  | k + 1 => by
    have := cuS_in F n d k
    show 0 ≤ cuS F n d k + _ ∧ cuS F n d k + _ ≤ _
    split <;> omega
/-- the trace as far as it is gained -/
def gpS (F : Nat → Int) (n d : Int) (k i : Nat) : Int := if i < k then gcV F n d i else F i
theorem gpS_zero (F : Nat → Int) (n d : Int) : gpS F n d 0 = F := by funext i; simp [gpS]
theorem gpS_step (F : Nat → Int) (n d : Int) (k : Nat) (v : Value) (h : v = .float .f32 (fs (gcV F n d k))) : ∀ i, i < 64 → upd (fv (gpS F n d k)) k v i = fv (gpS F n d (k + 1)) i := fun i _ => by
  unfold upd fv gpS
  by_cases e : i = k
  · subst e; rw [if_pos rfl, if_pos (by omega), h]
  · rw [if_neg e]
    by_cases e2 : i < k
    · rw [if_pos e2, if_pos (by omega)]
    · rw [if_neg e2, if_neg (by omega)]
theorem gpS_all (F : Nat → Int) (n d : Int) : ∀ i, i < 64 → fv (gpS F n d 64) i = fv (gcV F n d) i := fun i hi => by unfold fv gpS; rw [if_pos hi]
theorem gn_prod (x n : Int) (hx : -2047 ≤ x ∧ x ≤ 2047) (hn : 0 ≤ n ∧ n ≤ 1000) : -4194304 ≤ x * n ∧ x * n ≤ 4194304 := prod_in x n hx (by omega)
set_option maxRecDepth 100000 in
set_option maxHeartbeats 4000000 in
theorem tGained_bad (F : Nat → Int) (n d : Int) (w : World) (hF : Few F) (hn : I64 n) (hd : I64 d) (X : Int) (hX : fst [ctE F, gnE n d] = X) (hX0 : X ≠ 0) :
    Calls Try.prog 21 #[.agg (vls 64 (fv F)).toArray, .agg #[.int .i64 n, .int .i64 d]] w fun e w' => e = .returned (.tuple #[.agg (vls 64 (fv fun _ => 0)).toArray, .int .i64 0, .int .i64 X]) ∧ Below w.heap.size w w' := by
  have nz : (X != 0) = true := by simpa using hX0
  have SF := @run_store_float Try.prog
  have HE := Lib.hid (fun w => traceErr_v F hF w)
  have HG := Lib.hid (fun w => gainError_any n d hn hd w)
  generalize hE1 : ctE F = E1 at *
  generalize hE2 : gnE n d = E2 at *
  have EF : Hid (fst [E1, E2] = X) := by show _ = _; exact hX
  clear hE1 hE2
  go_enter Try.func21, Try.ntmps21
  clear hX hX0
  go_wp2_with (first
    | ((with_reducible refine wpList_box_named rfl 26 _ rfl 2 rfl 64 (fv F) rfl ?_); intro w1 N1; have s1 := N1.size; have ct1 := N1.at'; have zt1 := N1.free; have b1 : Hid (Below w.heap.size w w1) := Lib.hid N1.below; clear N1)
    | ((with_reducible refine wpList_box_lit rfl 41 _ rfl 3 rfl #[.int .i64 n, .int .i64 d] rfl ?_); intro w2 N2; have s2 := N2.size; have ct2 := ct1.later N2.below; have zt2 := zt1.later ct1 N2.below; have cg2 := N2.at'; have zg2 := N2.free; have b2 : Hid (Below w.heap.size w w2) := Lib.hid (below_then b1.out N2.below); clear N2; rw [s1] at s2 cg2 zg2; have yg0_2 : w2.cell? ⟨w.heap.size + 1, 0, none⟩ = some (.int .i64 n) := cg2 0 (by simp); have xg0_2 : w2.frozen? ⟨w.heap.size + 1, 0, none⟩ = false := zg2 0 (by simp); have yg1_2 : w2.cell? ⟨w.heap.size + 1, 1, none⟩ = some (.int .i64 d) := cg2 1 (by simp); have xg1_2 : w2.frozen? ⟨w.heap.size + 1, 1, none⟩ = false := zg2 1 (by simp))
    | ((with_reducible refine wpList_alloc_named rfl 26 rfl 4 rfl 64 (fv fun _ => 0) zeroT ?_); intro w3 N3; have s3 := N3.size; have ct3 := ct2.later N3.below; have zt3 := zt2.later ct2 N3.below; have cg3 := cg2.later N3.below; have zg3 := zg2.later cg2 N3.below; have cr3 := N3.at'; have zr3 := N3.free; have b3 : Hid (Below w.heap.size w w3) := Lib.hid (below_then b2.out N3.below); clear N3; rw [s2] at s3 cr3 zr3; clear yg0_2 xg0_2 yg1_2 xg1_2; have yg0_3 : w3.cell? ⟨w.heap.size + 1, 0, none⟩ = some (.int .i64 n) := cg3 0 (by simp); have xg0_3 : w3.frozen? ⟨w.heap.size + 1, 0, none⟩ = false := zg3 0 (by simp); have yg1_3 : w3.cell? ⟨w.heap.size + 1, 1, none⟩ = some (.int .i64 d) := cg3 1 (by simp); have xg1_3 : w3.frozen? ⟨w.heap.size + 1, 1, none⟩ = false := zg3 1 (by simp)))
  refine wp_region_held_drew (S := fun w' => VAt (w.heap.size) 64 (fv F) w' ∧ Fz (w.heap.size) 64 w' ∧ w'.cell? ⟨w.heap.size + 1, 0, none⟩ = some (.int .i64 n) ∧ w'.cell? ⟨w.heap.size + 1, 1, none⟩ = some (.int .i64 d) ∧ VAt (w.heap.size + 1 + 1) 64 (fv fun _ => 0) w' ∧ Fz (w.heap.size + 1 + 1) 64 w' ∧ Hid (Below w.heap.size w w')) (by kernel_rfl) ⟨ct3.drew, zt3.drew, cell_drew' yg0_3, cell_drew' yg1_3, cr3.drew, zr3.drew, Lib.hid b3.out.drew⟩ (fun hHeld => ?_)
  refine' takeH (i := 0) (d := 13) (v := .agg (vls 64 (fv F)).toArray) rfl rfl (by kernel_rfl) (by kernel_rfl) (by kernel_rfl) (fun _ _ _ h => h) (yieldsIf_load_mid (by first | kernel_rfl | rfl) _ _ rfl _ _ rfl (vls 64 (fv F)) _ (fun w' h => h.1.range) Try.underlying26 rfl (by rw [vls_length]; exact infoV)) hHeld ?_
  try simp only [Act.put, List.setIfInBounds_toArray, List.set_cons_zero, List.set_cons_succ]
  refine takeH (i := 2) (d := 15) (v := .agg #[.int .i64 n, .int .i64 d]) rfl rfl (by kernel_rfl) (by kernel_rfl) (by kernel_rfl) (fun _ _ _ h => h) (Or.inl ⟨by first | kernel_rfl | rfl, ?_⟩) hHeld ?_
  · intro w' hSw; obtain ⟨_, _, q0, q1, _⟩ := hSw; go_simp
  try simp only [Act.put, List.setIfInBounds_toArray, List.set_cons_zero, List.set_cons_succ]
  refine wpAnyH_ready (rs := [1]) (by kernel_rfl) (by simp) ?_
  refine AllReadyH.cons rfl (fun K hK => ?_) AllReadyH.nil
  go_simp
  (go_at_call 51; (with_reducible refine (HE.out _).mono ?_); rintro e w' ⟨rfl, hb⟩)
  refine hK.out _ _ ⟨hHeld.1.later hb, hHeld.2.1.later hHeld.1 hb, cell_later hb hHeld.2.2.1, cell_later hb hHeld.2.2.2.1, hHeld.2.2.2.2.1.later hb, hHeld.2.2.2.2.2.1.later hHeld.2.2.2.2.1 hb, Lib.hid (below_then hHeld.2.2.2.2.2.2.out hb)⟩ (fun hHeld => ?_)
  clear hK K
  try simp only [Act.put, List.setIfInBounds_toArray, List.set_cons_zero, List.set_cons_succ]
  refine wpAnyH_ready (rs := [3]) (by kernel_rfl) (by simp) ?_
  refine AllReadyH.cons rfl (fun K hK => ?_) AllReadyH.nil
  go_simp
  (go_at_call 59; (with_reducible refine (HG.out _).mono ?_); rintro e w' ⟨rfl, hb⟩)
  refine hK.out _ _ ⟨hHeld.1.later hb, hHeld.2.1.later hHeld.1 hb, cell_later hb hHeld.2.2.1, cell_later hb hHeld.2.2.2.1, hHeld.2.2.2.2.1.later hb, hHeld.2.2.2.2.2.1.later hHeld.2.2.2.2.1 hb, Lib.hid (below_then hHeld.2.2.2.2.2.2.out hb)⟩ (fun hHeld => ?_)
  clear hK K
  try simp only [Act.put, List.setIfInBounds_toArray, List.set_cons_zero, List.set_cons_succ]
  refine wpAnyH_ready (rs := [4]) (by kernel_rfl) (by simp) ?_
  refine AllReadyH.cons rfl (fun K hK => ?_) AllReadyH.nil
  go_simp
  refine hK.out _ _ ⟨hHeld.1.alloc _, hHeld.2.1.alloc hHeld.1 _, cell_alloc_later hHeld.2.2.1 _, cell_alloc_later hHeld.2.2.2.1 _, hHeld.2.2.2.2.1.alloc _, hHeld.2.2.2.2.2.1.alloc hHeld.2.2.2.2.1 _, Lib.hid (below_alloc_top hHeld.2.2.2.2.2.2.out _)⟩ (fun hHeld => ?_)
  clear hK K
  try simp only [Act.put, List.setIfInBounds_toArray, List.set_cons_zero, List.set_cons_succ]
  refine wpAnyH_ready (rs := [5]) (by kernel_rfl) (by simp) ?_
  refine AllReadyH.cons rfl (fun K hK => ?_) AllReadyH.nil
  go_simp
  (go_at_call 50; refine (firstError_any _ [E1, E2] _ (by simp) (by first | exact cells_drew _ _ (by first | rfl | assumption | simp) _ _ | exact cells_new _ _ (by first | rfl | assumption | simp) _ _)).mono ?_; rw [EF.out]; rintro e w' ⟨rfl, rfl⟩)
  refine hK.out _ _ ⟨hHeld.1, hHeld.2.1, hHeld.2.2.1, hHeld.2.2.2.1, hHeld.2.2.2.2.1, hHeld.2.2.2.2.2.1, hHeld.2.2.2.2.2.2⟩ (fun hHeld => ?_)
  clear hK K
  try simp only [Act.put, List.setIfInBounds_toArray, List.set_cons_zero, List.set_cons_succ]
  refine wpAnyH_ready (rs := [6]) (by kernel_rfl) (by simp) ?_
  refine AllReadyH.cons rfl (fun K hK => ?_) AllReadyH.nil
  go_simp
  refine hK.out _ _ ⟨hHeld.1, hHeld.2.1, hHeld.2.2.1, hHeld.2.2.2.1, hHeld.2.2.2.2.1, hHeld.2.2.2.2.2.1, hHeld.2.2.2.2.2.2⟩ (fun hHeld => ?_)
  clear hK K
  try simp only [Act.put, List.setIfInBounds_toArray, List.set_cons_zero, List.set_cons_succ]
  refine wpAnyH_done (by kernel_rfl) ?_ _
  obtain ⟨ct9, zt9, yg0, yg1, cr9, zr9, b9⟩ := hHeld
  try clear ct1
  try clear zt1
  try clear b1
  try clear ct2
  try clear zt2
  try clear cg2
  try clear zg2
  try clear b2
  try clear ct3
  try clear zt3
  try clear cg3
  try clear zg3
  try clear cr3
  try clear zr3
  try clear b3
  go_wp2_with (first
    | (with_reducible refine wpList_build_zero rfl 26 rfl 64 (fv fun _ => 0) zeroT 24 Try.underlying26 info1 ?_)
    | ((with_reducible refine wpList_store_at rfl 26 _ _ rfl _ 64 _ (fv fun _ => 0) rfl rfl cr9 zr9 (fv_one _) infoV ?_); intro w10 S10 B10 cr10 zr10 O10 P10; have b10 : Hid (Below w.heap.size w w10) := Lib.hid (B10 _ _ (by omega) b9.out); clear S10 B10 O10 P10))
  refine bodyPost_ret (v := .tuple #[.agg (vls 64 (fv fun _ => 0)).toArray, .int .i64 0, .int .i64 X]) ?_ rfl ⟨rfl, b10.out⟩
  have hld := load_var_at 26 _ 64 (fv fun _ => 0) cr10 _ Try.underlying26 rfl infoV
  simp [results, Try.results21, asAddr, Act.put, Result.andThen, hld]
set_option maxRecDepth 100000 in
set_option maxHeartbeats 6000000 in
theorem tGained_ok (F : Nat → Int) (n d : Int) (w : World) (hl : ∀ i, i < 64 → -2047 ≤ F i ∧ F i ≤ 2047) (hn : I64 n) (hd : I64 d) (hg : gnE n d = 0) :
    Calls Try.prog 21 #[.agg (vls 64 (fv F)).toArray, .agg #[.int .i64 n, .int .i64 d]] w fun e w' => e = .returned (.tuple #[.agg (vls 64 (fv (gcV F n d))).toArray, .int .i64 (cuS F n d 64), .int .i64 0]) ∧ Below w.heap.size w w' := by
  have hF := few_in hl
  have HL := Lib.hid hl
  obtain ⟨gn0, gn1, gd0, gd1⟩ := gnE_zero n d hg
  have hc := (ctE_zero F).2 hl
  have SF := @run_store_float Try.prog
  have HE := Lib.hid (fun w => traceErr_v F hF w)
  have HG := Lib.hid (fun w => gainError_any n d hn hd w)
  generalize hE1 : ctE F = E1 at *
  clear hn hd hF hl
  generalize hE2 : gnE n d = E2 at *
  have EF : Hid (fst [E1, E2] = 0) := by show _ = _; rw [hc, hg]; rfl
  clear hE1 hE2
  go_enter Try.func21, Try.ntmps21
  clear hc hg
  go_wp2_with (first
    | ((with_reducible refine wpList_box_named rfl 26 _ rfl 2 rfl 64 (fv F) rfl ?_); intro w1 N1; have s1 := N1.size; have ct1 := N1.at'; have zt1 := N1.free; have b1 : Hid (Below w.heap.size w w1) := Lib.hid N1.below; clear N1)
    | ((with_reducible refine wpList_box_lit rfl 41 _ rfl 3 rfl #[.int .i64 n, .int .i64 d] rfl ?_); intro w2 N2; have s2 := N2.size; have ct2 := ct1.later N2.below; have zt2 := zt1.later ct1 N2.below; have cg2 := N2.at'; have zg2 := N2.free; have b2 : Hid (Below w.heap.size w w2) := Lib.hid (below_then b1.out N2.below); clear N2; rw [s1] at s2 cg2 zg2; have yg0_2 : w2.cell? ⟨w.heap.size + 1, 0, none⟩ = some (.int .i64 n) := cg2 0 (by simp); have xg0_2 : w2.frozen? ⟨w.heap.size + 1, 0, none⟩ = false := zg2 0 (by simp); have yg1_2 : w2.cell? ⟨w.heap.size + 1, 1, none⟩ = some (.int .i64 d) := cg2 1 (by simp); have xg1_2 : w2.frozen? ⟨w.heap.size + 1, 1, none⟩ = false := zg2 1 (by simp))
    | ((with_reducible refine wpList_alloc_named rfl 26 rfl 4 rfl 64 (fv fun _ => 0) zeroT ?_); intro w3 N3; have s3 := N3.size; have ct3 := ct2.later N3.below; have zt3 := zt2.later ct2 N3.below; have cg3 := cg2.later N3.below; have zg3 := zg2.later cg2 N3.below; have cr3 := N3.at'; have zr3 := N3.free; have b3 : Hid (Below w.heap.size w w3) := Lib.hid (below_then b2.out N3.below); clear N3; rw [s2] at s3 cr3 zr3; clear yg0_2 xg0_2 yg1_2 xg1_2; have yg0_3 : w3.cell? ⟨w.heap.size + 1, 0, none⟩ = some (.int .i64 n) := cg3 0 (by simp); have xg0_3 : w3.frozen? ⟨w.heap.size + 1, 0, none⟩ = false := zg3 0 (by simp); have yg1_3 : w3.cell? ⟨w.heap.size + 1, 1, none⟩ = some (.int .i64 d) := cg3 1 (by simp); have xg1_3 : w3.frozen? ⟨w.heap.size + 1, 1, none⟩ = false := zg3 1 (by simp)))
  refine wp_region_held_drew (S := fun w' => VAt (w.heap.size) 64 (fv F) w' ∧ Fz (w.heap.size) 64 w' ∧ w'.cell? ⟨w.heap.size + 1, 0, none⟩ = some (.int .i64 n) ∧ w'.cell? ⟨w.heap.size + 1, 1, none⟩ = some (.int .i64 d) ∧ VAt (w.heap.size + 1 + 1) 64 (fv fun _ => 0) w' ∧ Fz (w.heap.size + 1 + 1) 64 w' ∧ Hid (Below w.heap.size w w')) (by kernel_rfl) ⟨ct3.drew, zt3.drew, cell_drew' yg0_3, cell_drew' yg1_3, cr3.drew, zr3.drew, Lib.hid b3.out.drew⟩ (fun hHeld => ?_)
  refine' takeH (i := 0) (d := 13) (v := .agg (vls 64 (fv F)).toArray) rfl rfl (by kernel_rfl) (by kernel_rfl) (by kernel_rfl) (fun _ _ _ h => h) (yieldsIf_load_mid (by first | kernel_rfl | rfl) _ _ rfl _ _ rfl (vls 64 (fv F)) _ (fun w' h => h.1.range) Try.underlying26 rfl (by rw [vls_length]; exact infoV)) hHeld ?_
  try simp only [Act.put, List.setIfInBounds_toArray, List.set_cons_zero, List.set_cons_succ]
  refine takeH (i := 2) (d := 15) (v := .agg #[.int .i64 n, .int .i64 d]) rfl rfl (by kernel_rfl) (by kernel_rfl) (by kernel_rfl) (fun _ _ _ h => h) (Or.inl ⟨by first | kernel_rfl | rfl, ?_⟩) hHeld ?_
  · intro w' hSw; obtain ⟨_, _, q0, q1, _⟩ := hSw; go_simp
  try simp only [Act.put, List.setIfInBounds_toArray, List.set_cons_zero, List.set_cons_succ]
  refine wpAnyH_ready (rs := [1]) (by kernel_rfl) (by simp) ?_
  refine AllReadyH.cons rfl (fun K hK => ?_) AllReadyH.nil
  go_simp
  (go_at_call 51; (with_reducible refine (HE.out _).mono ?_); rintro e w' ⟨rfl, hb⟩)
  refine hK.out _ _ ⟨hHeld.1.later hb, hHeld.2.1.later hHeld.1 hb, cell_later hb hHeld.2.2.1, cell_later hb hHeld.2.2.2.1, hHeld.2.2.2.2.1.later hb, hHeld.2.2.2.2.2.1.later hHeld.2.2.2.2.1 hb, Lib.hid (below_then hHeld.2.2.2.2.2.2.out hb)⟩ (fun hHeld => ?_)
  clear hK K
  try simp only [Act.put, List.setIfInBounds_toArray, List.set_cons_zero, List.set_cons_succ]
  refine wpAnyH_ready (rs := [3]) (by kernel_rfl) (by simp) ?_
  refine AllReadyH.cons rfl (fun K hK => ?_) AllReadyH.nil
  go_simp
  (go_at_call 59; (with_reducible refine (HG.out _).mono ?_); rintro e w' ⟨rfl, hb⟩)
  refine hK.out _ _ ⟨hHeld.1.later hb, hHeld.2.1.later hHeld.1 hb, cell_later hb hHeld.2.2.1, cell_later hb hHeld.2.2.2.1, hHeld.2.2.2.2.1.later hb, hHeld.2.2.2.2.2.1.later hHeld.2.2.2.2.1 hb, Lib.hid (below_then hHeld.2.2.2.2.2.2.out hb)⟩ (fun hHeld => ?_)
  clear hK K
  try simp only [Act.put, List.setIfInBounds_toArray, List.set_cons_zero, List.set_cons_succ]
  refine wpAnyH_ready (rs := [4]) (by kernel_rfl) (by simp) ?_
  refine AllReadyH.cons rfl (fun K hK => ?_) AllReadyH.nil
  go_simp
  refine hK.out _ _ ⟨hHeld.1.alloc _, hHeld.2.1.alloc hHeld.1 _, cell_alloc_later hHeld.2.2.1 _, cell_alloc_later hHeld.2.2.2.1 _, hHeld.2.2.2.2.1.alloc _, hHeld.2.2.2.2.2.1.alloc hHeld.2.2.2.2.1 _, Lib.hid (below_alloc_top hHeld.2.2.2.2.2.2.out _)⟩ (fun hHeld => ?_)
  clear hK K
  try simp only [Act.put, List.setIfInBounds_toArray, List.set_cons_zero, List.set_cons_succ]
  refine wpAnyH_ready (rs := [5]) (by kernel_rfl) (by simp) ?_
  refine AllReadyH.cons rfl (fun K hK => ?_) AllReadyH.nil
  go_simp
  (go_at_call 50; refine (firstError_any _ [E1, E2] _ (by simp) (by first | exact cells_drew _ _ (by first | rfl | assumption | simp) _ _ | exact cells_new _ _ (by first | rfl | assumption | simp) _ _)).mono ?_; rw [EF.out]; rintro e w' ⟨rfl, rfl⟩)
  refine hK.out _ _ ⟨hHeld.1, hHeld.2.1, hHeld.2.2.1, hHeld.2.2.2.1, hHeld.2.2.2.2.1, hHeld.2.2.2.2.2.1, hHeld.2.2.2.2.2.2⟩ (fun hHeld => ?_)
  clear hK K
  try simp only [Act.put, List.setIfInBounds_toArray, List.set_cons_zero, List.set_cons_succ]
  refine wpAnyH_ready (rs := [6]) (by kernel_rfl) (by simp) ?_
  refine AllReadyH.cons rfl (fun K hK => ?_) AllReadyH.nil
  go_simp
  refine hK.out _ _ ⟨hHeld.1, hHeld.2.1, hHeld.2.2.1, hHeld.2.2.2.1, hHeld.2.2.2.2.1, hHeld.2.2.2.2.2.1, hHeld.2.2.2.2.2.2⟩ (fun hHeld => ?_)
  clear hK K
  try simp only [Act.put, List.setIfInBounds_toArray, List.set_cons_zero, List.set_cons_succ]
  refine wpAnyH_done (by kernel_rfl) ?_ _
  obtain ⟨ct9, zt9, yg0, yg1, cr9, zr9, b9⟩ := hHeld
  try clear ct1
  try clear zt1
  try clear b1
  try clear ct2
  try clear zt2
  try clear cg2
  try clear zg2
  try clear b2
  try clear ct3
  try clear zt3
  try clear cg3
  try clear zg3
  try clear cr3
  try clear zr3
  try clear b3
  have h1 : (0 : Int) < n + 1 := by omega
  have k1 : w.heap.size ≠ w.heap.size + 1 := by omega
  have k2 : w.heap.size ≠ w.heap.size + 1 + 1 := by omega
  have k3 : w.heap.size ≤ w.heap.size := by omega
  go_wp2_with (with_reducible refine wpList_load_at rfl 26 _ rfl _ 64 (fv F) rfl ct9 _ Try.underlying26 rfl infoV ?_)
  have ct9' := ct9
  rw [← gpS_zero F n d] at ct9'
  go_loopw [8, 24] (fun s8 s24 wr => ∃ k : Nat, k ≤ 64 ∧ s24 = .int .i64 (k : Int) ∧ s8 = .int .i64 (cuS F n d k) ∧ VAt (w.heap.size) 64 (fv (gpS F n d k)) wr ∧ Fz (w.heap.size) 64 wr ∧ wr.cell? ⟨w.heap.size + 1, 0, none⟩ = some (.int .i64 n) ∧ wr.cell? ⟨w.heap.size + 1, 1, none⟩ = some (.int .i64 d) ∧ VAt (w.heap.size + 1 + 1) 64 (fv fun _ => 0) wr ∧ Fz (w.heap.size + 1 + 1) 64 wr ∧ Hid (Below w.heap.size w wr)) (fun _ s24 _ => 64 - (intOf s24).toNat)
  case atStart => exact ⟨0, by omega, rfl, rfl, ct9', zt9, yg0, yg1, cr9, zr9, b9⟩
  case round =>
    clear ct9' ct9 zt9 yg0 yg1 cr9 zr9 b9
    obtain ⟨k, hk, rfl, rfl, tk, zk, g0, g1, rk, fk, bk⟩ := hrel
    have j0 : (0 : Int) ≤ (k : Int) := Int.natCast_nonneg _
    by_cases hlt : k < 64
    · have j1 : (k : Int) < 64 := by omega
      have J1 : (k : Int) < ((64 : Nat) : Int) := by omega
      have q0 := tk k hlt
      have q1 := zk k hlt
      have hx := HL.out k hlt
      have ti := toInt_run (F k) (by omega)
      have pb := gn_prod (F k) n hx ⟨gn0, gn1⟩
      have e1 : IntKind.i64.wrap (F k * n) = F k * n := IntWalk.i64_in _ (by omega)
      have NE := Lib.hid (fun w => nearest_any (F k * n) d w (by omega) (by omega) gd0 (by omega))
      have cb := cuS_in F n d k
      have CS : Hid (cuS F n d (k + 1) = cuS F n d k + if gcV F n d k = gnV F n d k then 0 else 1) := (rfl : _ = _)
      have GV : Hid (gcV F n d k = max (-2047) (min 2047 (gnV F n d k))) := (rfl : _ = _)
      have GN : Hid ((2 * (F k * n) + d) / (2 * d) = gnV F n d k) := (rfl : _ = _)
      have ST := Lib.hid (gpS_step F n d k)
      rw [GN.out] at NE
      generalize gnV F n d k = v at *
      generalize gcV F n d k = c at *
      generalize cuS F n d k = u at *
      clear pb hx GN
      by_cases p1 : v < -2047
      · have hcv : c = -2047 := by rw [GV.out]; omega
        have CS2 : Hid (cuS F n d (k + 1) = u + 1) := by show _ = _; rw [CS.out, hcv, if_neg (by omega)]
        have hcv2 := Lib.hid hcv; clear hcv GV CS
        go_wp2_with (first | (with_reducible refine wpList_index_any rfl 26 _ _ rfl 64 (fv F) (k : Int) rfl rfl 24 Try.underlying26 _ Try.underlying24 rfl info1 j0 J1 (.float .f32 (fs (F k))) (fv_at F k) ?_) | (go_at_call 60; (with_reducible refine (NE.out _).mono ?_); rintro e w' ⟨rfl, rfl⟩))
        go_roundw
        case rel => exact ⟨k + 1, by omega, by go_num, by rw [CS2.out], (tk.set k hlt _).congr (ST.out _ (by rw [hcv2.out]; rfl)), zk.set _ _, setO (.inl (Ne.symm k1)) g0, setO (.inl (Ne.symm k1)) g1, rk.other _ _ (Ne.symm k2) _, fk.set _ _, Lib.hid (bk.out.setCell (by dsimp only; omega) _)⟩
        case measure => simp [intOf]; omega
      · by_cases p2 : 2047 < v
        · have hcv : c = 2047 := by rw [GV.out]; omega
          have CS2 : Hid (cuS F n d (k + 1) = u + 1) := by show _ = _; rw [CS.out, hcv, if_neg (by omega)]
          have hcv2 := Lib.hid hcv; clear hcv GV CS
          go_wp2_with (first | (with_reducible refine wpList_index_any rfl 26 _ _ rfl 64 (fv F) (k : Int) rfl rfl 24 Try.underlying26 _ Try.underlying24 rfl info1 j0 J1 (.float .f32 (fs (F k))) (fv_at F k) ?_) | (go_at_call 60; (with_reducible refine (NE.out _).mono ?_); rintro e w' ⟨rfl, rfl⟩))
          go_roundw
          case rel => exact ⟨k + 1, by omega, by go_num, by rw [CS2.out], (tk.set k hlt _).congr (ST.out _ (by rw [hcv2.out]; rfl)), zk.set _ _, setO (.inl (Ne.symm k1)) g0, setO (.inl (Ne.symm k1)) g1, rk.other _ _ (Ne.symm k2) _, fk.set _ _, Lib.hid (bk.out.setCell (by dsimp only; omega) _)⟩
          case measure => simp [intOf]; omega
        · by_cases p3 : -2047 < v
          · have hcv : c = v := by rw [GV.out]; omega
            have CS2 : Hid (cuS F n d (k + 1) = u) := by show _ = _; rw [CS.out, hcv, if_pos rfl, Int.add_zero]
            have hcv2 := Lib.hid hcv; clear hcv GV CS
            go_wp2_with (first | (with_reducible refine wpList_index_any rfl 26 _ _ rfl 64 (fv F) (k : Int) rfl rfl 24 Try.underlying26 _ Try.underlying24 rfl info1 j0 J1 (.float .f32 (fs (F k))) (fv_at F k) ?_) | (go_at_call 60; (with_reducible refine (NE.out _).mono ?_); rintro e w' ⟨rfl, rfl⟩))
            go_roundw
            case rel => exact ⟨k + 1, by omega, by go_num, by rw [CS2.out], (tk.set k hlt _).congr (ST.out _ (by rw [hcv2.out]; rfl)), zk.set _ _, setO (.inl (Ne.symm k1)) g0, setO (.inl (Ne.symm k1)) g1, rk.other _ _ (Ne.symm k2) _, fk.set _ _, Lib.hid (bk.out.setCell (by dsimp only; omega) _)⟩
            case measure => simp [intOf]; omega
          · obtain rfl : v = -2047 := by omega
            have hcv : c = -2047 := by rw [GV.out]; omega
            have CS2 : Hid (cuS F n d (k + 1) = u) := by show _ = _; rw [CS.out, hcv, if_pos rfl, Int.add_zero]
            have hcv2 := Lib.hid hcv; clear hcv GV CS
            go_wp2_with (first | (with_reducible refine wpList_index_any rfl 26 _ _ rfl 64 (fv F) (k : Int) rfl rfl 24 Try.underlying26 _ Try.underlying24 rfl info1 j0 J1 (.float .f32 (fs (F k))) (fv_at F k) ?_) | (go_at_call 60; (with_reducible refine (NE.out _).mono ?_); rintro e w' ⟨rfl, rfl⟩))
            go_roundw
            case rel => exact ⟨k + 1, by omega, by go_num, by rw [CS2.out], (tk.set k hlt _).congr (ST.out _ (by rw [hcv2.out]; rfl)), zk.set _ _, setO (.inl (Ne.symm k1)) g0, setO (.inl (Ne.symm k1)) g1, rk.other _ _ (Ne.symm k2) _, fk.set _ _, Lib.hid (bk.out.setCell (by dsimp only; omega) _)⟩
            case measure => simp [intOf]; omega
    · obtain rfl : k = 64 := by omega
      have ta := tk.congr (gpS_all F n d)
      go_wp2_with (first
        | (with_reducible refine wpList_load_at rfl 26 _ rfl _ 64 (fv (gcV F n d)) rfl ta _ Try.underlying26 rfl infoV ?_)
        | ((with_reducible refine wpList_store_at rfl 26 _ _ rfl _ 64 _ (fv (gcV F n d)) rfl rfl rk fk (fv_one _) infoV ?_); intro w10 S10 B10 cr10 zr10 O10 P10; have b10 : Hid (Below w.heap.size w w10) := Lib.hid (B10 _ _ (by omega) bk.out); clear S10 B10 O10 P10))
      refine bodyPost_ret (v := .tuple #[.agg (vls 64 (fv (gcV F n d))).toArray, .int .i64 (cuS F n d 64), .int .i64 0]) ?_ rfl ⟨rfl, b10.out⟩
      have hld := load_var_at 26 _ 64 (fv (gcV F n d)) cr10 _ Try.underlying26 rfl infoV
      simp [results, Try.results21, asAddr, Act.put, Result.andThen, hld]
end Go.Proofs.Ytoieemgdkpnbfaa
