/- made, Ints -/
import Derived.Test.YtoieemgdkpnbfaaFlI
namespace Go.Proofs.Ytoieemgdkpnbfaa
open Go.RowKit RayM
set_option linter.unusedSimpArgs false
set_option linter.unusedVariables false
/-- what made keeps of a number -/
def clm (l : Nat → Int) (i : Nat) : Int := max (-4000) (min 4000 (l i))
theorem clm_in (l : Nat → Int) (i : Nat) : (clm l i).natAbs < 8192 := by unfold clm; omega
theorem trS_few (l : Nat → Int) (n : Nat) (h : ∀ i, (l i).natAbs < 8192) : Few (trS l n) := fun i _ => by
  unfold trS
  by_cases e : i < n
  · rw [if_pos e]; exact h i
  · rw [if_neg e]; decide
set_option maxRecDepth 100000 in
set_option maxHeartbeats 1000000 in
theorem made_any (A : Option Addr) (n c : Nat) (l : Nat → Int) (w : World) (hm : n ≤ 64) (h : InAt A n l w) :
    Calls Try.prog 13 #[.slice A n c] w fun e w' => e = .returned (.agg (vls 64 (fv (trS (clm l) n))).toArray) ∧ Below w.heap.size w w' := by
  obtain ⟨j0_, ji0, jz0, jz1, jz2⟩ := info_parts infoJ
  have JI0 := Lib.hid ji0; have JZ0 := Lib.hid jz0; have JZ1 := Lib.hid jz1; have JZ2 := Lib.hid jz2
  clear ji0 jz0 jz1 jz2
  have HX := Lib.hid h; clear h
  have RT := Lib.hid (fun A c w h => rTrace_any A n c (clm l) w hm h)
  go_enter Try.func13, Try.ntmps13
  go_wp2_with (first
    | ((with_reducible refine wpList_alloc_named rfl 26 rfl 2 rfl 64 (fv fun _ => 0) zeroT ?_); intro w1 N1; have s1 := N1.size; have cr1 := N1.at'; have zr1 := N1.free; have b1 : Hid (Below w.heap.size w w1) := Lib.hid N1.below; clear N1))
  go_loopw [3, 4] (fun s3 s4 wr => ∃ (k : Nat) (v : Value), v = s3 ∧ k ≤ n ∧ s4 = .int .i64 (k : Int) ∧ wr.ownsRow w1.heap.size 3 1 v k (mvs (clm l) k) ∧ Below w1.heap.size w1 wr) (fun _ s4 _ => n - (intOf s4).toNat)
  case atStart => exact ⟨0, _, rfl, Nat.zero_le _, rfl, World.ownsRow_nil _ _ _ _, Below.refl _ _⟩
  case round =>
    obtain ⟨k, v, rfl, hk, rfl, hown, hb⟩ := hrel
    have j0 : (0 : Int) ≤ (k : Int) := Int.natCast_nonneg _
    have sz := hb.size
    have HB := Lib.hid hb
    by_cases hlt : k < n
    · have bm : (k + 1 : Nat) ≤ maxLen := by unfold maxLen; omega
      have BM := Lib.hid bm; clear bm
      have j1 : (k : Int) < (n : Int) := by omega
      have HW : Hid (Below w.heap.size w wr) := Lib.hid (Below.trans b1.out (hb.mono b1.out.size))
      obtain ⟨a, rfl⟩ := HX.out.some (by omega)
      have q2 := (HX.out.later HW.out).at hlt
      have CC : Hid (∀ x, max (-4000) (min 4000 (l k)) = x → clm l k = x) := fun x h => h
      by_cases p1 : l k < 4000
      · by_cases p2 : -4000 < l k
        · have E : Hid (clm l k = l k) := CC.out _ (by omega)
          have nb : ∀ j u, (#[.int .i64 (l k)] : Array Value).toList[j]? = some u → (wr.alloc (.cells #[.int .i64 (l k)] 3)).cell? ((⟨wr.heap.size, 0, none⟩ : Addr).add j) = some u :=
            World.news_of_block (t := 3) (fr := (0, 0)) (by have h := heap_alloc_new wr (.cells #[.int .i64 (l k)] 3); simpa using h)
          have NB := Lib.hid nb; clear nb
          have AG := Lib.hid (fun q e => (hown.lt q e).1)
          clear hb
          go_wp2_with (at_builtin; refine wpList_append_lies _ rfl _ _ _ rfl w1.heap.size 3 j0_ _ 1 8 Try.underlying22 JI0.out JZ0.out JZ1.out JZ2.out rfl (by omega) v k (mvs (clm l) k) rfl (hown.alloc _) ⟨wr.heap.size, 0, none⟩ 1 1 [.int .i64 (l k)] rfl rfl NB.out (by simp [Value.oneCell']) (by omega) BM.out (by omega) (by simp; omega) (wr.heap.size + 1) (by simp) ?_; intro g6 cap6 w6 hown6 hgrow6 hat6 hlt6)
          have HO6 := Lib.hid hown6; clear hown6
          have HG6 := Lib.hid hgrow6; clear hgrow6 hat6 hlt6
          go_roundw
          case rel => exact ⟨k + 1, _, rfl, by omega, by go_num, by rw [mvs_succ, E.out]; exact HO6.out, (HB.out.alloc (by omega) _).grown HG6.out (by simp; omega) (fun q e => AG.out q e)⟩
          case measure => simp [intOf]; omega
        · have E : Hid (clm l k = -4000) := CC.out _ (by omega)
          have nb : ∀ j u, (#[.int .i64 (-4000)] : Array Value).toList[j]? = some u → (wr.alloc (.cells #[.int .i64 (-4000)] 3)).cell? ((⟨wr.heap.size, 0, none⟩ : Addr).add j) = some u :=
            World.news_of_block (t := 3) (fr := (0, 0)) (by have h := heap_alloc_new wr (.cells #[.int .i64 (-4000)] 3); simpa using h)
          have NB := Lib.hid nb; clear nb
          have AG := Lib.hid (fun q e => (hown.lt q e).1)
          clear hb
          go_wp2_with (at_builtin; refine wpList_append_lies _ rfl _ _ _ rfl w1.heap.size 3 j0_ _ 1 8 Try.underlying22 JI0.out JZ0.out JZ1.out JZ2.out rfl (by omega) v k (mvs (clm l) k) rfl (hown.alloc _) ⟨wr.heap.size, 0, none⟩ 1 1 [.int .i64 (-4000)] rfl rfl NB.out (by simp [Value.oneCell']) (by omega) BM.out (by omega) (by simp; omega) (wr.heap.size + 1) (by simp) ?_; intro g6 cap6 w6 hown6 hgrow6 hat6 hlt6)
          have HO6 := Lib.hid hown6; clear hown6
          have HG6 := Lib.hid hgrow6; clear hgrow6 hat6 hlt6
          go_roundw
          case rel => exact ⟨k + 1, _, rfl, by omega, by go_num, by rw [mvs_succ, E.out]; exact HO6.out, (HB.out.alloc (by omega) _).grown HG6.out (by simp; omega) (fun q e => AG.out q e)⟩
          case measure => simp [intOf]; omega
      · have E : Hid (clm l k = 4000) := CC.out _ (by omega)
        have nb : ∀ j u, (#[.int .i64 (4000)] : Array Value).toList[j]? = some u → (wr.alloc (.cells #[.int .i64 (4000)] 3)).cell? ((⟨wr.heap.size, 0, none⟩ : Addr).add j) = some u :=
          World.news_of_block (t := 3) (fr := (0, 0)) (by have h := heap_alloc_new wr (.cells #[.int .i64 (4000)] 3); simpa using h)
        have NB := Lib.hid nb; clear nb
        have AG := Lib.hid (fun q e => (hown.lt q e).1)
        clear hb
        go_wp2_with (at_builtin; refine wpList_append_lies _ rfl _ _ _ rfl w1.heap.size 3 j0_ _ 1 8 Try.underlying22 JI0.out JZ0.out JZ1.out JZ2.out rfl (by omega) v k (mvs (clm l) k) rfl (hown.alloc _) ⟨wr.heap.size, 0, none⟩ 1 1 [.int .i64 (4000)] rfl rfl NB.out (by simp [Value.oneCell']) (by omega) BM.out (by omega) (by simp; omega) (wr.heap.size + 1) (by simp) ?_; intro g6 cap6 w6 hown6 hgrow6 hat6 hlt6)
        have HO6 := Lib.hid hown6; clear hown6
        have HG6 := Lib.hid hgrow6; clear hgrow6 hat6 hlt6
        go_roundw
        case rel => exact ⟨k + 1, _, rfl, by omega, by go_num, by rw [mvs_succ, E.out]; exact HO6.out, (HB.out.alloc (by omega) _).grown HG6.out (by simp; omega) (fun q e => AG.out q e)⟩
        case measure => simp [intOf]; omega
    · obtain rfl : k = n := by omega
      have j2 : ¬ (k : Int) < (k : Int) := by omega
      obtain ⟨A', c', rfl, hI⟩ := own_ints (fun i hi => mvs_get (clm l) k i hi) hown
      have HI := Lib.hid hI
      have cr20 := cr1.later hb
      have zr20 := zr1.later cr1 hb
      have b20 : Hid (Below w.heap.size w wr) := Lib.hid (Below.trans b1.out (hb.mono b1.out.size))
      have lt20 : w.heap.size < wr.heap.size := by omega
      clear hb hown
      go_wp2_with (first
        | (go_at_call 47; (with_reducible refine (RT.out _ _ _ HI.out).mono ?_); rintro e w21 ⟨rfl, hb21⟩; have cr21 := cr20.later hb21; have zr21 := zr20.later cr20 hb21; have b21 : Hid (Below w.heap.size w w21) := Lib.hid (below_then b20.out hb21); have s21' := hb21.size; clear hb21)
        | ((with_reducible refine wpList_store_at rfl 26 _ _ rfl _ 64 _ (fv (trS (clm l) k)) rfl rfl cr21 zr21 (fv_one _) infoV ?_); intro w22 S22 B22 cr22 zr22 O22 P22; have b22 : Hid (Below w.heap.size w w22) := Lib.hid (B22 _ _ (by omega) b21.out); have s22' := Nat.le_of_eq S22.symm; clear S22 B22 O22 P22))
      refine bodyPost_ret (v := .agg (vls 64 (fv (trS (clm l) k))).toArray) ?_ rfl ⟨rfl, b22.out⟩
      have hld := load_var_at 26 _ 64 (fv (trS (clm l) k)) cr22 _ Try.underlying26 rfl infoV
      simp [results, Try.results13, asAddr, Act.put, Result.andThen, hld]
set_option maxRecDepth 100000 in
set_option maxHeartbeats 1000000 in
theorem rInts_any (l : Nat → Int) (hl : Few l) (w : World) :
    Calls Try.prog 56 #[.agg (vls 64 (fv l)).toArray] w fun e w' => ∃ v : Value, e = .returned v ∧ w'.ownsRow w.heap.size 3 1 v 64 (mvs l 64) ∧ Below w.heap.size w w' := by
  obtain ⟨j0_, ji0, jz0, jz1, jz2⟩ := info_parts infoJ
  have JI0 := Lib.hid ji0; have JZ0 := Lib.hid jz0; have JZ1 := Lib.hid jz1; have JZ2 := Lib.hid jz2
  clear ji0 jz0 jz1 jz2
  go_enter Try.func56, Try.ntmps56
  go_wp2_with (first
    | ((with_reducible refine wpList_box_named rfl 26 _ rfl 1 rfl 64 (fv l) rfl ?_); intro w1 N1; have s1 := N1.size; have ct1 := N1.at'; have zt1 := N1.free; have b1 : Hid (Below w.heap.size w w1) := Lib.hid N1.below; clear N1))
  go_loopw [3, 4] (fun s3 s4 wr => ∃ (k : Nat) (v : Value), v = s3 ∧ k ≤ 64 ∧ s4 = .int .i64 (k : Int) ∧ wr.ownsRow w1.heap.size 3 1 v k (mvs l k) ∧ Below w1.heap.size w1 wr) (fun _ s4 _ => 64 - (intOf s4).toNat)
  case atStart => exact ⟨0, _, rfl, Nat.zero_le _, rfl, World.ownsRow_nil _ _ _ _, Below.refl _ _⟩
  case round =>
    obtain ⟨k, v, rfl, hk, rfl, hown, hb⟩ := hrel
    have j0 : (0 : Int) ≤ (k : Int) := Int.natCast_nonneg _
    have sz := hb.size
    have HB := Lib.hid hb
    by_cases hlt : k < 64
    · have bm : (k + 1 : Nat) ≤ maxLen := by unfold maxLen; omega
      have BM := Lib.hid bm; clear bm
      have j1 : (k : Int) < 64 := by omega
      have q2 : wr.cell? ⟨w.heap.size, k, none⟩ = some (.float .f32 (fs (l k))) := ct1.later hb k hlt
      have ti := toInt_run (l k) (Nat.lt_trans (hl k hlt) (by decide))
      have nb : ∀ j u, (#[.int .i64 (l k)] : Array Value).toList[j]? = some u → (wr.alloc (.cells #[.int .i64 (l k)] 3)).cell? ((⟨wr.heap.size, 0, none⟩ : Addr).add j) = some u :=
        World.news_of_block (t := 3) (fr := (0, 0)) (by have h := heap_alloc_new wr (.cells #[.int .i64 (l k)] 3); simpa using h)
      have NB := Lib.hid nb; clear nb
      have AG := Lib.hid (fun q e => (hown.lt q e).1)
      clear hb
      go_wp2_with (at_builtin; refine wpList_append_lies _ rfl _ _ _ rfl w1.heap.size 3 j0_ _ 1 8 Try.underlying22 JI0.out JZ0.out JZ1.out JZ2.out rfl (by omega) v k (mvs l k) rfl (hown.alloc _) ⟨wr.heap.size, 0, none⟩ 1 1 [.int .i64 (l k)] rfl rfl NB.out (by simp [Value.oneCell']) (by omega) BM.out (by omega) (by simp; omega) (wr.heap.size + 1) (by simp) ?_; intro g6 cap6 w6 hown6 hgrow6 hat6 hlt6)
      have HO6 := Lib.hid hown6; clear hown6
      have HG6 := Lib.hid hgrow6; clear hgrow6 hat6 hlt6
      go_roundw
      case rel => exact ⟨k + 1, _, rfl, by omega, by go_num, by rw [mvs_succ]; exact HO6.out, (HB.out.alloc (by omega) _).grown HG6.out (by simp; omega) (fun q e => AG.out q e)⟩
      case measure => simp [intOf]; omega
    · obtain rfl : k = 64 := by omega
      go_wp2
      go_ret
      exact ⟨_, rfl, own_base hown (by omega), Below.trans b1.out (hb.mono b1.out.size)⟩
end Go.Proofs.Ytoieemgdkpnbfaa
