/- traces that are the same -/
import Derived.Test.YtoieemgdkpnbfaaFlJ
import Derived.Test.YtoieemgdkpnbfaaFl12
namespace Go.Proofs.Ytoieemgdkpnbfaa
open Go.RowKit RayM
set_option linter.unusedSimpArgs false
set_option linter.unusedVariables false
theorem cb32 (b : Nat) (w : World) : (callFunc 80 #[.float .f32 b]).run Try.prog w = .ok (.value (.int .u32 b)) w := by
  rw [run_callFunc_extern (e := Extern.MathFloatBits.float32bits) Try.func80 (by kernel_rfl) (by kernel_rfl) (by kernel_rfl) (by kernel_rfl)]
  rfl
set_option maxRecDepth 100000 in
set_option maxHeartbeats 1000000 in
theorem sameFloats_any (a d n ca cd : Nat) (x : Nat → Int) (w : World) (hn : n ≤ 1000) (ha : VAt a n (fv x) w) (hd : VAt d n (fv x) w) :
    Calls Try.prog 58 #[.slice (some ⟨a, 0, none⟩) n ca, .slice (some ⟨d, 0, none⟩) n cd] w fun e w' => e = .returned (.bool true) ∧ Below w.heap.size w w' := by
  have HA := Lib.hid ha; have HD := Lib.hid hd
  clear ha hd
  go_enter Try.func58, Try.ntmps58
  go_wp2
  go_loopw [5] (fun s5 wr => ∃ k : Nat, k ≤ n ∧ s5 = .int .i64 (k : Int) ∧ Hid (Below w.heap.size w wr)) (fun s5 _ => n - (intOf s5).toNat)
  case atStart => exact ⟨0, by omega, rfl, Lib.hid (Below.refl _ _)⟩
  case round =>
    obtain ⟨k, hk, rfl, bk⟩ := hrel
    have j0 : (0 : Int) ≤ (k : Int) := Int.natCast_nonneg _
    by_cases hlt : k < n
    · have j1 : (k : Int) < (n : Int) := by omega
      have q0 : wr.cell? ⟨a, k, none⟩ = some (.float .f32 (fs (x k))) := cell_later bk.out (HA.out k hlt)
      have q1 : wr.cell? ⟨d, k, none⟩ = some (.float .f32 (fs (x k))) := cell_later bk.out (HD.out k hlt)
      have cb := cb32 (fs (x k))
      go_wp2
      go_quiet (fail)
      generalize hwq : World.drewN wr _ = wq
      have hbq : Below wr.heap.size wr wq := by rw [← hwq]; exact below_drewN (Below.refl _ _) _
      have bq : Hid (Below w.heap.size w wq) := Lib.hid (below_then bk.out hbq)
      clear hbq
      go_wp2
      go_roundw
      case rel => exact ⟨k + 1, by omega, by go_num, bq⟩
      case measure => simp [intOf]; omega
    · obtain rfl : k = n := by omega
      have j1 : ¬ (k : Int) < (k : Int) := by omega
      go_wp2
      go_ret
      exact ⟨rfl, bk.out⟩
set_option maxRecDepth 100000 in
set_option maxHeartbeats 1000000 in
theorem sameTrace_any (l : Nat → Int) (w : World) :
    Calls Try.prog 20 #[.agg (vls 64 (fv l)).toArray, .agg (vls 64 (fv l)).toArray] w fun e w' => e = .returned (.bool true) ∧ Below w.heap.size w w' := by
  go_enter Try.func20, Try.ntmps20
  go_wp2_with (first
    | ((with_reducible refine wpList_box_named rfl 26 _ rfl 2 rfl 64 (fv l) rfl ?_); intro w1 N1; have s1 := N1.size; have ca1 := N1.at'; have za1 := N1.free; have b1 : Hid (Below w.heap.size w w1) := Lib.hid N1.below; clear N1)
    | ((with_reducible refine wpList_box_named rfl 26 _ rfl 3 rfl 64 (fv l) rfl ?_); intro w2 N2; have s2 := N2.size; have ca2 := ca1.later N2.below; have za2 := za1.later ca1 N2.below; have cd2 := N2.at'; have zd2 := N2.free; have b2 : Hid (Below w.heap.size w w2) := Lib.hid (below_then b1.out N2.below); clear N2; rw [s1] at s2 cd2 zd2))
  have bb := b2.out
  have ra := ca2.range
  have rd := cd2.range
  go_region_held3 (fun w' => w'.rangeAt w.heap.size 0 (vls 64 (fv l)) ∧ w'.rangeAt (w.heap.size + 1) 0 (vls 64 (fv l)) ∧ Below w.heap.size w w') (((go_split_ands; (repeat' apply And.intro) <;> first | (with_reducible assumption) | (with_reducible exact (Below.refl _ _).drew) | exact range_drew (by with_reducible assumption) | exact range_alloc (by with_reducible assumption) _ | exact range_later (by with_reducible assumption) (by with_reducible assumption) | exact cell_alloc_later (by with_reducible assumption) _ | exact cell_drew' (by with_reducible assumption) | exact cell_drew' (cell_alloc_later (by with_reducible assumption) _) | exact cell_later (by with_reducible assumption) (by with_reducible assumption) | exact below_then (by with_reducible assumption) (by with_reducible assumption) | exact below_alloc_top (by with_reducible assumption) _ | exact Below.drew (by with_reducible assumption) | exact Below.drew (below_alloc_top (by with_reducible assumption) _))))
    (first
      | (go_split_ands; go_at_call 58; (with_reducible refine (sameFloats_any _ _ 64 _ _ l _ (by decide) (VAt.of_range (by with_reducible assumption)) (VAt.of_range (by with_reducible assumption))).mono ?_); rintro e w' ⟨rfl, hb⟩))
  go_split_ands
  have BB : Below w.heap.size w w' := by with_reducible assumption
  go_wp2
  go_ret
  exact ⟨rfl, BB⟩
end Go.Proofs.Ytoieemgdkpnbfaa
