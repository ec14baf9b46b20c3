/- the sums, whatever came in -/
import Derived.Test.YtoieemgdkpnbfaaFm7
import Derived.Test.YtoieemgdkpnbfaaFlK
namespace Go.Proofs.Ytoieemgdkpnbfaa
open Go.RowKit RayM
set_option linter.unusedSimpArgs false
set_option linter.unusedVariables false
theorem fst_l (a b : Int) (h : a ≠ 0) : fst [a, b] = a := by unfold fst; rw [if_neg h]
theorem fst_r (b : Int) (h : b ≠ 0) : fst [0, b] = b := by unfold fst; rw [if_pos rfl]; unfold fst; rw [if_neg h]
theorem ts_any (A B : Option Addr) (n c m d : Nat) (l k : Nat → Int) (s : Int) (w : World) (h : InAt A n l w) (h2 : InAt B m k w) :
    Calls Try.prog 3 #[.slice A n c, .slice B m d, .int .i64 s] w fun e w' => e = .returned (.bool true) ∧ Below w.heap.size w w' := by
  by_cases hn : n ≤ 64
  · by_cases hm : m ≤ 64
    · have fa : Few (trS (clm l) n) := trS_few _ _ (clm_in l)
      have fb : Few (trS (clm k) m) := trS_few _ _ (clm_in k)
      have MA := Lib.hid (fun w h => made_any A n c l w hn h)
      have MB := Lib.hid (fun w h => made_any B m d k w hm h)
      generalize trS (clm l) n = F at *
      generalize trS (clm k) m = G at *
      have CA := Lib.hid (fun w => rCheckTrace_any F w fa)
      have CB := Lib.hid (fun w => rCheckTrace_any G w fb)
      by_cases ha : ctE F = 0
      · have la := (ctE_zero F).1 ha
        rw [ha] at CA
        by_cases hr : -64 ≤ s ∧ s ≤ 64
        · have WI := Lib.hid (fun w => gb_true s (-64) 64 hr w)
          have SH := Lib.hid (fun w => tShifted_ok F s w fa ha hr.1 hr.2)
          have RS := Lib.hid (fun w => rShifted_any F s w fa hr.1 hr.2)
          by_cases hb : ctE G = 0
          · have lb := (ctE_zero G).1 hb
            rw [hb] at CB
            have AD := Lib.hid (fun w => tAdded_ok F G w la lb)
            have RA := Lib.hid (fun w => rAdded_ok F G w la lb)
            exact ts_C2 A B n c m d l k F G _ _ s _ 0 0 _ _ w hn hm h h2 MA MB AD SH CA CB WI RS RA
          · have hX : fst [ctE F, ctE G] = ctE G := by rw [ha]; exact fst_r _ hb
            have AD := Lib.hid (fun w => tAdded_bad F G w fa fb (by rw [hX]; exact hb))
            rw [hX] at AD
            exact ts_C1 A B n c m d l k F G (fun _ => 0) _ s 0 0 (ctE G) _ _ w hn hm h h2 hb MA MB AD SH CA CB WI RS
        · have WI := Lib.hid (fun w => gb_false s (-64) 64 hr w)
          have hX2 : fst [ctE F, unl (inB s (-64) 64) 2] = 2 := by rw [ha, unl_f _ _ _ hr]; rfl
          have SH := Lib.hid (fun w => tShifted_bad F s w fa (by rw [hX2]; decide))
          rw [hX2] at SH
          by_cases hb : ctE G = 0
          · have lb := (ctE_zero G).1 hb
            rw [hb] at CB
            have AD := Lib.hid (fun w => tAdded_ok F G w la lb)
            have RA := Lib.hid (fun w => rAdded_ok F G w la lb)
            exact ts_B2 A B n c m d l k F G _ (fun _ => 0) s _ 0 0 _ _ w hn hm h h2 MA MB AD SH CA CB WI RA
          · have hX : fst [ctE F, ctE G] = ctE G := by rw [ha]; exact fst_r _ hb
            have AD := Lib.hid (fun w => tAdded_bad F G w fa fb (by rw [hX]; exact hb))
            rw [hX] at AD
            exact ts_B1 A B n c m d l k F G (fun _ => 0) (fun _ => 0) s 0 0 (ctE G) _ _ w hn hm h h2 hb MA MB AD SH CA CB WI
      · have hX : fst [ctE F, ctE G] = ctE F := fst_l _ _ ha
        have hX2 : fst [ctE F, unl (inB s (-64) 64) 2] = ctE F := fst_l _ _ ha
        have AD := Lib.hid (fun w => tAdded_bad F G w fa fb (by rw [hX]; exact ha))
        rw [hX] at AD
        have SH := Lib.hid (fun w => tShifted_bad F s w fa (by rw [hX2]; exact ha))
        rw [hX2] at SH
        exact ts_A A B n c m d l k F G (fun _ => 0) (fun _ => 0) s 0 (ctE F) 0 _ _ w hn hm h h2 ha _ MA MB AD SH CA CB
    · exact ts_long2 A B n c m d s w hn hm
  · exact ts_long1 A B n c m d s w hn
end Go.Proofs.Ytoieemgdkpnbfaa
