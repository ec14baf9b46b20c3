/- gains, whatever came in -/
import Derived.Test.YtoieemgdkpnbfaaFp4
import Derived.Test.YtoieemgdkpnbfaaFlK
namespace Go.Proofs.Ytoieemgdkpnbfaa
open Go.RowKit RayM
set_option linter.unusedSimpArgs false
set_option linter.unusedVariables false
theorem fst_a (a b : Int) (h : a ≠ 0) : fst [a, b] = a := by unfold fst; rw [if_neg h]
theorem fst_b (b : Int) (h : b ≠ 0) : fst [0, b] = b := by unfold fst; rw [if_pos rfl]; unfold fst; rw [if_neg h]
theorem gn_one (F : Nat → Int) (k : Nat) : gnV F 1 1 k = F k := by
  show (2 * (F k * 1) + 1) / (2 * 1) = F k
  rw [Int.mul_one]; omega
theorem gc_one (F : Nat → Int) (hl : ∀ i, i < 64 → -2047 ≤ F i ∧ F i ≤ 2047) (k : Nat) (hk : k < 64) : gcV F 1 1 k = F k := by
  unfold gcV
  rw [gn_one]
  have := hl k hk
  omega
theorem cu_one (F : Nat → Int) (hl : ∀ i, i < 64 → -2047 ≤ F i ∧ F i ≤ 2047) : ∀ k, k ≤ 64 → cuS F 1 1 k = 0
  | 0, _ => rfl
  | k + 1, h => by
    show cuS F 1 1 k + (if gcV F 1 1 k = gnV F 1 1 k then 0 else 1) = 0
    rw [cu_one F hl k (by omega), gc_one F hl k (by omega), gn_one, if_pos rfl]; rfl
theorem i64_one : I64 1 := ⟨by decide, by decide⟩
theorem gnE_one : gnE 1 1 = 0 := by decide +kernel
theorem g_one (F : Nat → Int) (hl : ∀ i, i < 64 → -2047 ≤ F i ∧ F i ≤ 2047) (w : World) :
    Calls Try.prog 21 #[.agg (vls 64 (fv F)).toArray, .agg #[.int .i64 1, .int .i64 1]] w fun e w' => e = .returned (.tuple #[.agg (vls 64 (fv F)).toArray, .int .i64 0, .int .i64 0]) ∧ Below w.heap.size w w' := by
  have := tGained_ok F 1 1 w hl i64_one i64_one gnE_one
  rw [cu_one F hl 64 (Nat.le_refl _), show (vls 64 (fv (gcV F 1 1))) = vls 64 (fv F) from vls_congr (fun i hi => by unfold fv; rw [gc_one F hl i hi])] at this
  exact this
theorem tg_any (A : Option Addr) (m c : Nat) (l : Nat → Int) (n d : Int) (w : World) (hn : I64 n) (hd : I64 d) (h : InAt A m l w) :
    Calls Try.prog 4 #[.slice A m c, .agg #[.int .i64 n, .int .i64 d]] w fun e w' => e = .returned (.bool true) ∧ Below w.heap.size w w' := by
  by_cases hm : m ≤ 64
  · have fa : Few (trS (clm l) m) := trS_few _ _ (clm_in l)
    have MA := Lib.hid (fun w h => made_any A m c l w hm h)
    generalize trS (clm l) m = F at *
    have CA := Lib.hid (fun w => rCheckTrace_any F w fa)
    by_cases ha : ctE F = 0
    · have la := (ctE_zero F).1 ha
      rw [ha] at CA
      have G2 := Lib.hid (fun w => g_one F la w)
      have GE := Lib.hid (fun w => gainErr_any n d hn hd w)
      by_cases hg : gnE n d = 0
      · rw [hg] at GE
        obtain ⟨n0, n1, d0, d1⟩ := gnE_zero n d hg
        have RG := Lib.hid (fun w => rGained_any F n d w la n0 n1 d0 d1)
        simp only [trS_same] at RG
        exact tg_C A m c l F n d _ w hm h _ _ MA (Lib.hid (fun w => tGained_ok F n d w la hn hd hg)) CA G2 GE RG
      · have hX : fst [ctE F, gnE n d] = gnE n d := by rw [ha]; exact fst_b _ hg
        exact tg_B A m c l F n d _ w hm h (gnE n d) hg MA (Lib.hid (fun w => tGained_bad F n d w fa hn hd _ hX hg)) CA G2 GE
    · have hX : fst [ctE F, gnE n d] = ctE F := fst_a _ _ ha
      have hY : fst [ctE F, gnE 1 1] = ctE F := fst_a _ _ ha
      exact tg_A A m c l F n d _ w hm h (ctE F) ha MA (Lib.hid (fun w => tGained_bad F n d w fa hn hd _ hX ha)) CA (Lib.hid (fun w => tGained_bad F 1 1 w fa i64_one i64_one _ hY ha))
  · exact tg_long A m c n d w hm
end Go.Proofs.Ytoieemgdkpnbfaa
