/- the shift of the reference -/
import Derived.Test.YtoieemgdkpnbfaaFlS
namespace Go.Proofs.Ytoieemgdkpnbfaa
open Go.RowKit RayM
set_option linter.unusedSimpArgs false
set_option linter.unusedVariables false
/-- a shifted trace -/
def shT (l : Nat → Int) (s : Int) (i : Nat) : Int := if 0 ≤ (i : Int) - s ∧ (i : Int) - s ≤ 63 then l ((i : Int) - s).toNat else 0
set_option maxRecDepth 100000 in
set_option maxHeartbeats 1000000 in
theorem rShifted_any (l : Nat → Int) (s : Int) (w : World) (hl : Few l) (s0 : -64 ≤ s) (s1 : s ≤ 64) :
    Calls Try.prog 18 #[.agg (vls 64 (fv l)).toArray, .int .i64 s] w fun e w' => e = .returned (.agg (vls 64 (fv (trS (shT l s) 64))).toArray) ∧ Below w.heap.size w w' := by
  obtain ⟨j0_, ji0, jz0, jz1, jz2⟩ := info_parts infoJ
  have JI0 := Lib.hid ji0; have JZ0 := Lib.hid jz0; have JZ1 := Lib.hid jz1; have JZ2 := Lib.hid jz2
  clear ji0 jz0 jz1 jz2
  have RT := Lib.hid (fun A c w h => rTrace_any A 64 c (shT l s) w (by omega) h)
  go_enter Try.func18, Try.ntmps18
  go_wp2_with (first
    | ((with_reducible refine wpList_box_named rfl 26 _ rfl 2 rfl 64 (fv l) rfl ?_); intro w1 N1; have s1 := N1.size; have ct1 := N1.at'; have zt1 := N1.free; have b1 : Hid (Below w.heap.size w w1) := Lib.hid N1.below; clear N1)
    | ((with_reducible refine wpList_alloc_named rfl 26 rfl 4 rfl 64 (fv fun _ => 0) zeroT ?_); intro w2 N2; have s2 := N2.size; have ct2 := ct1.later N2.below; have zt2 := zt1.later ct1 N2.below; have cr2 := N2.at'; have zr2 := N2.free; have b2 : Hid (Below w.heap.size w w2) := Lib.hid (below_then b1.out N2.below); clear N2; rw [s1] at s2 cr2 zr2)
    | (with_reducible refine wpList_load_at rfl 26 _ rfl _ 64 (fv l) rfl ct2 _ Try.underlying26 rfl infoV ?_)
    | (go_at_call 56; (with_reducible refine (rInts_any l hl _).mono ?_); rintro e w3 ⟨v0, rfl, hown0, hb0⟩))
  have b3 : Hid (Below w.heap.size w w3) := Lib.hid (below_then b2.out hb0)
  have cr3 := cr2.later hb0
  have zr3 := zr2.later cr2 hb0
  have sz3 := hb0.size
  obtain ⟨A0, c0, rfl, hh⟩ := own_form hown0
  obtain ⟨g, rfl, hg0, hg1, hg⟩ := hh (by omega)
  have XC : Hid (∀ i, i < 64 → w3.cell? ⟨g, i, none⟩ = some (.int .i64 (l i))) := Lib.hid (fun i hi => hg i _ (mvs_get l 64 i hi))
  clear hg hh hown0 hb0
  go_loopw [6, 7] (fun s6 s7 wr => ∃ (k : Nat) (v : Value), v = s6 ∧ k ≤ 64 ∧ s7 = .int .i64 (k : Int) ∧ wr.ownsRow w3.heap.size 3 1 v k (mvs (shT l s) k) ∧ Below w3.heap.size w3 wr) (fun _ s7 _ => 64 - (intOf s7).toNat)
  case atStart => exact ⟨0, _, rfl, Nat.zero_le _, rfl, World.ownsRow_nil _ _ _ _, Below.refl _ _⟩
  case round =>
    obtain ⟨k, v, rfl, hk, rfl, hown, hb⟩ := hrel
    have j0 : (0 : Int) ≤ (k : Int) := Int.natCast_nonneg _
    have sz := hb.size
    have HB' := Lib.hid hb
    by_cases hlt : k < 64
    · have bm : (k + 1 : Nat) ≤ maxLen := by unfold maxLen; omega
      have BM := Lib.hid bm; clear bm
      have j1 : (k : Int) < 64 := by omega
      by_cases hi : 0 ≤ (k : Int) - s ∧ (k : Int) - s ≤ 63
      · have HB := Lib.hid (fun w => gb_true ((k : Int) - s) 0 63 hi w)
        obtain ⟨i, he⟩ : ∃ i : Nat, (k : Int) - s = (i : Int) := ⟨((k : Int) - s).toNat, by omega⟩
        have i6 : i < 64 := by omega
        have E : Hid (shT l s k = l i) := by show _ = _; unfold shT; rw [if_pos hi, he]; rfl
        have q0 : wr.cell? ⟨g, i, none⟩ = some (.int .i64 (l i)) := cell_later hb (XC.out i i6)
        rw [he] at HB hi
        have i0 : (0 : Int) ≤ (i : Int) := hi.1
        have i1 : (i : Int) < 64 := by omega
        have ew : IntKind.i64.wrap ((k : Int) - s) = (i : Int) := by rw [he]; exact IntWalk.i64_in _ (by omega)
        have nb : ∀ j u, (#[.int .i64 (l i)] : Array Value).toList[j]? = some u → (wr.alloc (.cells #[.int .i64 (l i)] 3)).cell? ((⟨wr.heap.size, 0, none⟩ : Addr).add j) = some u :=
          World.news_of_block (t := 3) (fr := (0, 0)) (by have h := heap_alloc_new wr (.cells #[.int .i64 (l i)] 3); simpa using h)
        have NB := Lib.hid nb; clear nb
        have AG := Lib.hid (fun q e => (hown.lt q e).1)
        clear hb
        go_wp2_with (first | (go_at_call 17; (with_reducible refine (HB.out _).mono ?_); rintro e w' ⟨rfl, rfl⟩) | (at_builtin; refine wpList_append_lies _ rfl _ _ _ rfl w3.heap.size 3 j0_ _ 1 8 Try.underlying22 JI0.out JZ0.out JZ1.out JZ2.out rfl (by omega) v k (mvs (shT l s) k) rfl (hown.alloc _) ⟨wr.heap.size, 0, none⟩ 1 1 [.int .i64 (l i)] rfl rfl NB.out (by simp [Value.oneCell']) (by omega) BM.out (by omega) (by simp; omega) (wr.heap.size + 1) (by simp) ?_; intro g6 cap6 w6 hown6 hgrow6 hat6 hlt6))
        have HO6 := Lib.hid hown6; clear hown6
        have HG6 := Lib.hid hgrow6; clear hgrow6 hat6 hlt6
        go_roundw
        case rel => exact ⟨k + 1, _, rfl, by omega, by go_num, by rw [mvs_succ, E.out]; exact HO6.out, (HB'.out.alloc (by omega) _).grown HG6.out (by simp; omega) (fun q e => AG.out q e)⟩
        case measure => simp [intOf]; omega
      · have HB := Lib.hid (fun w => gb_false ((k : Int) - s) 0 63 hi w)
        have E : Hid (shT l s k = 0) := by show _ = _; unfold shT; rw [if_neg hi]
        have nb : ∀ j u, (#[.int .i64 (0)] : Array Value).toList[j]? = some u → (wr.alloc (.cells #[.int .i64 (0)] 3)).cell? ((⟨wr.heap.size, 0, none⟩ : Addr).add j) = some u :=
          World.news_of_block (t := 3) (fr := (0, 0)) (by have h := heap_alloc_new wr (.cells #[.int .i64 (0)] 3); simpa using h)
        have NB := Lib.hid nb; clear nb
        have AG := Lib.hid (fun q e => (hown.lt q e).1)
        clear hb
        go_wp2_with (first | (go_at_call 17; (with_reducible refine (HB.out _).mono ?_); rintro e w' ⟨rfl, rfl⟩) | (at_builtin; refine wpList_append_lies _ rfl _ _ _ rfl w3.heap.size 3 j0_ _ 1 8 Try.underlying22 JI0.out JZ0.out JZ1.out JZ2.out rfl (by omega) v k (mvs (shT l s) k) rfl (hown.alloc _) ⟨wr.heap.size, 0, none⟩ 1 1 [.int .i64 (0)] rfl rfl NB.out (by simp [Value.oneCell']) (by omega) BM.out (by omega) (by simp; omega) (wr.heap.size + 1) (by simp) ?_; intro g6 cap6 w6 hown6 hgrow6 hat6 hlt6))
        have HO6 := Lib.hid hown6; clear hown6
        have HG6 := Lib.hid hgrow6; clear hgrow6 hat6 hlt6
        go_roundw
        case rel => exact ⟨k + 1, _, rfl, by omega, by go_num, by rw [mvs_succ, E.out]; exact HO6.out, (HB'.out.alloc (by omega) _).grown HG6.out (by simp; omega) (fun q e => AG.out q e)⟩
        case measure => simp [intOf]; omega
    · obtain rfl : k = 64 := by omega
      obtain ⟨A', c', rfl, hI⟩ := own_ints (fun i hi => mvs_get (shT l s) 64 i hi) hown
      have HI := Lib.hid hI
      have cr20 := cr3.later hb
      have zr20 := zr3.later cr3 hb
      have b20 : Hid (Below w.heap.size w wr) := Lib.hid (Below.trans b3.out (hb.mono b3.out.size))
      have lt20 : w.heap.size + 1 < wr.heap.size := by omega
      clear hb hown
      go_wp2_with (first
        | (go_at_call 47; (with_reducible refine (RT.out _ _ _ HI.out).mono ?_); rintro e w21 ⟨rfl, hb21⟩; have cr21 := cr20.later hb21; have zr21 := zr20.later cr20 hb21; have b21 : Hid (Below w.heap.size w w21) := Lib.hid (below_then b20.out hb21); have s21' := hb21.size; clear hb21)
        | ((with_reducible refine wpList_store_at rfl 26 _ _ rfl _ 64 _ (fv (trS (shT l s) 64)) rfl rfl cr21 zr21 (fv_one _) infoV ?_); intro w22 S22 B22 cr22 zr22 O22 P22; have b22 : Hid (Below w.heap.size w w22) := Lib.hid (B22 _ _ (by omega) b21.out); have s22' := Nat.le_of_eq S22.symm; clear S22 B22 O22 P22))
      refine bodyPost_ret (v := .agg (vls 64 (fv (trS (shT l s) 64))).toArray) ?_ rfl ⟨rfl, b22.out⟩
      have hld := load_var_at 26 _ 64 (fv (trS (shT l s) 64)) cr22 _ Try.underlying26 rfl infoV
      simp [results, Try.results18, asAddr, Act.put, Result.andThen, hld]
end Go.Proofs.Ytoieemgdkpnbfaa
