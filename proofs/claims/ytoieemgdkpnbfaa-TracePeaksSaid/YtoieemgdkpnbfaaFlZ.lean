/- the peaks, whatever came in -/
import Derived.Test.YtoieemgdkpnbfaaFlY
import Derived.Test.YtoieemgdkpnbfaaFlK
namespace Go.Proofs.Ytoieemgdkpnbfaa
open Go.RowKit RayM
set_option linter.unusedSimpArgs false
set_option linter.unusedVariables false
set_option maxRecDepth 100000 in
set_option maxHeartbeats 1000000 in
theorem tp_any (A : Option Addr) (n c : Nat) (l : Nat → Int) (f t q : Int) (w : World) (h : InAt A n l w) :
    Calls Try.prog 8 #[.slice A n c, .agg #[.int .i64 f, .int .i64 t], .int .i64 q] w fun e w' => e = .returned (.bool true) ∧ Below w.heap.size w w' := by
  by_cases hm : n ≤ 64
  · have few : Few (trS (clm l) n) := trS_few _ _ (clm_in l)
    have MD := Lib.hid (fun w h => made_any A n c l w hm h)
    generalize trS (clm l) n = F at *
    have CK := Lib.hid (fun w => rCheckTrace_any F w few)
    have GE := Lib.hid (fun w => rGateErr_any f t w)
    have PK := Lib.hid (fun w => peakIn_any F f t few w)
    by_cases hc : ctE F = 0
    · rw [hc] at CK
      by_cases hg : gaE f t = 0
      · rw [hg] at GE
        have hl := (ctE_zero F).1 hc
        have hp : pkE F f t = 0 := by unfold pkE; rw [hc, hg]; rfl
        rw [hp] at PK
        simp only [if_true] at PK
        obtain ⟨f0, ft, t1⟩ := (gaE_zero f t).1 hg
        obtain ⟨N, rfl⟩ : ∃ N : Nat, f = (N : Int) := ⟨f.toNat, by omega⟩
        obtain ⟨m, hm2⟩ : ∃ m : Nat, t = ((N + m : Nat) : Int) := ⟨(t - N).toNat, by omega⟩
        subst hm2
        have hP : pkP F (N : Int) ((N + m : Nat) : Int) = pk (sqA F) N (m + 1) := by unfold pkP; congr 1; omega
        rw [hP] at PK
        have RP := Lib.hid (fun w => rPeakIn_any F N m w hl (by omega))
        have RF := Lib.hid (fun w => rFirstAbove_any F N (N + m) q w hl (by omega) (by omega))
        by_cases hq : q < 0
        · simp only [if_pos hq] at RF
          have hX : fst [ctE F, gaE (N : Int) ((N + m : Nat) : Int), unl (decide (0 ≤ q)) 2] = 2 := by rw [hc, hg, decide_eq_false (by omega)]; rfl
          have FA := Lib.hid (fun w => tFirstAbove_bad F (N : Int) ((N + m : Nat) : Int) q w few (by rw [hX]; decide))
          rw [hX] at FA
          exact tp_ok A n c l F _ _ q w hm h _ _ _ _ _ MD PK FA CK GE RF RP
        · simp only [if_neg hq] at RF
          rcases fnd_cases (sqA F) q (N + m + 1 - N) N with ⟨j, hj, r⟩ | r
          · have FA := Lib.hid (fun w => tFirstAbove_yes F N (N + m) q w hl (by omega) (by omega) (by omega) j r (by omega))
            rw [r] at RF
            exact tp_ok A n c l F _ _ q w hm h _ _ _ _ _ MD PK FA CK GE RF RP
          · have FA := Lib.hid (fun w => tFirstAbove_no F N (N + m) q w hl (by omega) (by omega) (by omega) r)
            rw [r] at RF
            exact tp_ok A n c l F _ _ q w hm h _ _ _ _ _ MD PK FA CK GE RF RP
      · have hX : fst [ctE F, gaE f t, unl (decide (0 ≤ q)) 2] = gaE f t := by rw [hc]; unfold fst; rw [if_pos rfl]; unfold fst; rw [if_neg hg]
        have hp : pkE F f t = gaE f t := by unfold pkE; rw [hc]; unfold fst; rw [if_pos rfl]; unfold fst; rw [if_neg hg]
        have FA := Lib.hid (fun w => tFirstAbove_bad F f t q w few (by rw [hX]; exact hg))
        rw [hX] at FA
        rw [hp] at PK
        simp only [if_neg hg] at PK
        exact tp_bad2 A n c l F f t q w hm h (gaE f t) _ hg MD PK FA CK GE
    · have hX : fst [ctE F, gaE f t, unl (decide (0 ≤ q)) 2] = ctE F := by unfold fst; rw [if_neg hc]
      have hp : pkE F f t = ctE F := by unfold pkE fst; rw [if_neg hc]
      have FA := Lib.hid (fun w => tFirstAbove_bad F f t q w few (by rw [hX]; exact hc))
      rw [hX] at FA
      rw [hp] at PK
      simp only [if_neg hc] at PK
      exact tp_bad1 A n c l F f t q w hm h (ctE F) _ hc MD PK FA CK
  · exact tp_long A n c f t q w hm
end Go.Proofs.Ytoieemgdkpnbfaa
