/- the analytic samples, whatever came in -/
import Derived.Test.YtoieemgdkpnbfaaFlO
import Derived.Test.YtoieemgdkpnbfaaFn2
namespace Go.Proofs.Ytoieemgdkpnbfaa
open Go.RowKit RayM
set_option linter.unusedSimpArgs false
set_option linter.unusedVariables false
theorem an_any (A : Option Addr) (n c : Nat) (l : Nat → Int) (w : World) (h : InAt A n l w) :
    Calls Try.prog 5 #[.slice A n c] w fun e w' => e = .returned (.bool true) ∧ Below w.heap.size w w' := by
  by_cases hn : n ≤ 64
  · have fa : Few (trS (clm l) n) := trS_few _ _ (clm_in l)
    have MA := Lib.hid (fun w h => made_any A n c l w hn h)
    generalize trS (clm l) n = F at *
    have CA := Lib.hid (fun w => rCheckTrace_any F w fa)
    have AN := Lib.hid (fun w => analytic_any F fa w)
    have EV := Lib.hid (fun w => envelope_any F fa w)
    by_cases ha : ctE F = 0
    · have la := (ctE_zero F).1 ha
      rw [ha] at CA AN EV
      simp only [if_true] at AN EV
      exact an_ok' A n c l F _ w hn h MA AN EV CA (Lib.hid (fun w => rAnalytic_any F w la)) (Lib.hid (fun w => rEnvelope_any F w la)) (Lib.hid (fun i hi => ⟨by have := (re_in F la i hi).1; omega, by have := (re_in F la i hi).2; omega⟩))
    · simp only [if_neg ha] at AN EV
      exact an_bad A n c l F _ w hn h MA (ctE F) ha AN EV CA
  · exact an_long A n c w hn
end Go.Proofs.Ytoieemgdkpnbfaa
