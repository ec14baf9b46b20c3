/- the analytic samples of the reference, in whole numbers -/
import Derived.Test.YtoieemgdkpnbfaaFlJ
namespace Go.Proofs.Ytoieemgdkpnbfaa
open Go.RowKit RayM
set_option linter.unusedSimpArgs false
set_option linter.unusedVariables false
theorem sample_any (a c : Int) (w : World) (ha : a.natAbs < 8192) (hc : c.natAbs < 8192) :
    Calls Try.prog 49 #[.int .i64 a, .int .i64 c] w fun e w' => e = .returned (.complex .f32 (fs a) (fs c)) ∧ w' = w := by
  have FO := fo_fs
  have a0 : a < 10000 := by omega
  have a1 : -10000 < a := by omega
  have c0 : c < 10000 := by omega
  have c1 : -10000 < c := by omega
  go_enter Try.func49, Try.ntmps49
  go_wp2
  go_ret
  exact ⟨rfl, rfl⟩
def reA (l : Nat → Int) (k : Nat) : Int := l k - l (k + 2)
def imA (l : Nat → Int) (k : Nat) : Int := l (k + 1) - l (k + 3)
def prs (l : Nat → Int) (k : Nat) : List Value := (List.range k).flatMap fun i => [.int .i64 (reA l i), .int .i64 (imA l i)]
theorem prs_succ (l : Nat → Int) (n : Nat) : prs l (n + 1) = prs l n ++ [.int .i64 (l n - l (n + 2)), .int .i64 (l (n + 1) - l (n + 3))] := by
  unfold prs; rw [List.range_succ, List.flatMap_append]; simp [reA, imA]
theorem prs_len (l : Nat → Int) (n : Nat) : (prs l n).length = n * 2 := by
  induction n with
  | zero => rfl
  | succ n ih => rw [prs_succ, List.length_append, ih]; simp; omega
theorem prs_get (l : Nat → Int) : ∀ (n i : Nat), i < n → (prs l n)[i * 2]? = some (.int .i64 (reA l i)) ∧ (prs l n)[i * 2 + 1]? = some (.int .i64 (imA l i))
  | 0, i, h => by omega
  | n + 1, i, h => by
    have ln := prs_len l n
    rw [prs_succ]
    by_cases hi : i < n
    · obtain ⟨a, b⟩ := prs_get l n i hi
      rw [List.getElem?_append_left (by omega), List.getElem?_append_left (by omega)]; exact ⟨a, b⟩
    · have : i = n := by omega
      subst this
      rw [List.getElem?_append_right (by omega), List.getElem?_append_right (by omega), ln]
      simp [reA, imA]
theorem info2 : (Try.prog.info? 108).map (fun i => (i.zero, i.size, i.bytes)) = some (some (.agg #[.int .i64 0, .int .i64 0]), 2, 16) := by kernel_rfl
set_option maxRecDepth 100000 in
set_option maxHeartbeats 4000000 in
theorem rParts_any (l : Nat → Int) (w : World) (hl : Few l) :
    Calls Try.prog 64 #[.agg (vls 64 (fv l)).toArray] w fun e w' => ∃ v : Value, e = .returned v ∧ w'.ownsRow w.heap.size 108 2 v 61 (prs l 61) ∧ Below w.heap.size w w' := by
  obtain ⟨j0_, ji0, jz0, jz1, jz2⟩ := info_parts info2
  have JI0 := Lib.hid ji0; have JZ0 := Lib.hid jz0; have JZ1 := Lib.hid jz1; have JZ2 := Lib.hid jz2
  clear ji0 jz0 jz1 jz2
  go_enter Try.func64, Try.ntmps64
  go_wp2_with (first
    | ((with_reducible refine wpList_box_named rfl 26 _ rfl 1 rfl 64 (fv l) rfl ?_); intro w1 N1; have s1 := N1.size; have ct1 := N1.at'; have zt1 := N1.free; have b1 : Hid (Below w.heap.size w w1) := Lib.hid N1.below; clear N1)
    | (with_reducible refine wpList_load_at rfl 26 _ rfl _ 64 (fv l) rfl ct1 _ Try.underlying26 rfl infoV ?_)
    | (go_at_call 56; (with_reducible refine (rInts_any l hl _).mono ?_); rintro e w2 ⟨v0, rfl, hown0, hb0⟩))
  have b2 : Hid (Below w.heap.size w w2) := Lib.hid (below_then b1.out hb0)
  obtain ⟨A0, c0, rfl, hh⟩ := own_form hown0
  obtain ⟨g, rfl, hg0, hg1, hg⟩ := hh (by omega)
  have XC : Hid (∀ i, i < 64 → w2.cell? ⟨g, i, none⟩ = some (.int .i64 (l i))) := Lib.hid (fun i hi => hg i _ (mvs_get l 64 i hi))
  clear hg hh hown0 hb0 hg0
  go_loopw [4, 5] (fun s4 s5 wr => ∃ (k : Nat) (v : Value), v = s4 ∧ k ≤ 61 ∧ s5 = .int .i64 (k : Int) ∧ wr.ownsRow w2.heap.size 108 2 v k (prs l k) ∧ Below w2.heap.size w2 wr) (fun _ s5 _ => 61 - (intOf s5).toNat)
  case atStart => exact ⟨0, _, rfl, Nat.zero_le _, rfl, World.ownsRow_nil _ _ _ _, Below.refl _ _⟩
  case round =>
    obtain ⟨k, v, rfl, hk, rfl, hown, hb⟩ := hrel
    have j0 : (0 : Int) ≤ (k : Int) := Int.natCast_nonneg _
    have sz := hb.size
    have HB := Lib.hid hb
    by_cases hlt : k < 61
    · have j1 : (k : Int) < 61 := by omega
      have bm : (k + 1 : Nat) ≤ maxLen := by unfold maxLen; omega
      have bb : (k + 1) * 16 ≤ 140737488355328 := by omega
      have BM := Lib.hid bm; have BB := Lib.hid bb
      clear bm bb
      have q0 : wr.cell? ⟨g, k, none⟩ = some (.int .i64 (l k)) := cell_later hb (XC.out k (by omega))
      have q1 : wr.cell? ⟨g, k + 1, none⟩ = some (.int .i64 (l (k + 1))) := cell_later hb (XC.out (k + 1) (by omega))
      have q2 : wr.cell? ⟨g, k + 2, none⟩ = some (.int .i64 (l (k + 2))) := cell_later hb (XC.out (k + 2) (by omega))
      have q3 : wr.cell? ⟨g, k + 3, none⟩ = some (.int .i64 (l (k + 3))) := cell_later hb (XC.out (k + 3) (by omega))
      have l0 := hl k (by omega)
      have l1 := hl (k + 1) (by omega)
      have l2 := hl (k + 2) (by omega)
      have l3 := hl (k + 3) (by omega)
      have e1 : IntKind.i64.wrap ((k : Int) + 1) = k + 1 := IntWalk.i64_in _ (by omega)
      have e2 : IntKind.i64.wrap ((k : Int) + 2) = k + 2 := IntWalk.i64_in _ (by omega)
      have e3 : IntKind.i64.wrap ((k : Int) + 3) = k + 3 := IntWalk.i64_in _ (by omega)
      have e4 : IntKind.i64.wrap (l k - l (k + 2)) = l k - l (k + 2) := IntWalk.i64_in _ (by omega)
      have e5 : IntKind.i64.wrap (l (k + 1) - l (k + 3)) = l (k + 1) - l (k + 3) := IntWalk.i64_in _ (by omega)
      have AG : Hid (v.ownBlock ≠ some g) := Lib.hid (fun e => by have := (hown.lt _ e).1; omega)
      have AH := Lib.hid (fun q e => (hown.lt q e).1)
      have gl : g < wr.heap.size := by omega
      have PS := Lib.hid (prs_succ l k)
      have i0 : (k : Int) < 64 := by omega
      have i1 : (k : Int) + 1 < 64 := by omega
      have i2 : (k : Int) + 2 < 64 := by omega
      have i3 : (k : Int) + 3 < 64 := by omega
      have m1 : 0 ≤ (k : Int) + 1 := by omega
      have m2 : 0 ≤ (k : Int) + 2 := by omega
      have m3 : 0 ≤ (k : Int) + 3 := by omega
      have t1 : ((k : Int) + 1).toNat = k + 1 := by omega
      have t2 : ((k : Int) + 2).toNat = k + 2 := by omega
      have t3 : ((k : Int) + 3).toNat = k + 3 := by omega
      clear hb l0 l1 l2 l3
      go_wp2_with fail
      go_region_held3 (fun w' => w'.cell? ⟨g, k, none⟩ = some (.int .i64 (l k)) ∧ w'.cell? ⟨g, k + 1, none⟩ = some (.int .i64 (l (k + 1))) ∧ w'.cell? ⟨g, k + 2, none⟩ = some (.int .i64 (l (k + 2))) ∧ w'.cell? ⟨g, k + 3, none⟩ = some (.int .i64 (l (k + 3))))
        (first
          | go_keep
          | (go_split_ands; (repeat' apply And.intro) <;> (rw [hgrow.cell_far _ (by simp; omega) (Ne.symm AG.out)]; (first | assumption | (simp [go_sem, World.cell?_alloc_past, *]; done)))))
        ((refine step_append_lies _ (by rfl) _ _ _ (by rfl) w2.heap.size 108 j0_ _ 2 16 Try.underlying106 JI0.out JZ0.out JZ1.out JZ2.out rfl (by omega) v k (prs l k) (by rfl) (by first | exact hown.alloc _ | exact (hown.alloc _).drew)
              ⟨wr.heap.size, 0, none⟩ 1 1 [.int .i64 (l k - l (k + 2)), .int .i64 (l (k + 1) - l (k + 3))] (by rfl) (by rfl) (World.news_of_block (cs := #[.int .i64 (l k - l (k + 2)), .int .i64 (l (k + 1) - l (k + 3))]) (t := 108) (fr := (0, 0)) (heap_alloc_new wr _)) (by simp [Value.oneCell'])
              (by omega) BM.out BB.out (by simp; omega) (wr.heap.size + 1) (by simp) ?_; intro gg cap w5 hown1 hgrow hat hlt5))
      have HO1 := Lib.hid hown1; clear hown1
      have HG := Lib.hid hgrow; clear hgrow
      go_wp2
      go_roundw
      case rel => exact ⟨k + 1, _, rfl, by omega, by go_num, by rw [PS.out]; exact HO1.out, by first | exact (HB.out.alloc sz _).drew.grown HG.out (by simp; omega) (fun q e => AH.out q e) | exact (HB.out.alloc sz _).grown HG.out (by simp; omega) (fun q e => AH.out q e)⟩
      case measure => simp [intOf]; omega
    · obtain rfl : k = 61 := by omega
      go_wp2
      go_ret
      exact ⟨_, rfl, own_base hown b2.out.size, Below.trans b2.out (hb.mono b2.out.size)⟩
end Go.Proofs.Ytoieemgdkpnbfaa
