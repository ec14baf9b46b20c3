/- samples that are added and moved, whatever came in -/
import Derived.Test.YtoieemgdkpnbfaaFn1
import Derived.Test.YtoieemgdkpnbfaaFm6
import Derived.Test.YtoieemgdkpnbfaaFm5
namespace Go.Proofs.Ytoieemgdkpnbfaa
open Go.RowKit RayM
set_option linter.unusedSimpArgs false
set_option linter.unusedVariables false
theorem re_sum (F G : Nat → Int) (i : Nat) : reA (smT F G) i = reA F i + reA G i := by unfold reA smT; omega
theorem im_sum (F G : Nat → Int) (i : Nat) : imA (smT F G) i = imA F i + imA G i := by unfold imA smT; omega
theorem shT_at (F : Nat → Int) (s : Int) (i j : Nat) (hi : i < 64) (h : (i : Int) = s + j) (hj : j < 64) : trS (shT F s) 64 i = F j := by
  unfold trS shT
  rw [if_pos hi, if_pos (by omega)]
  congr 1
  omega
theorem re_sh (F : Nat → Int) (s : Int) (s0 : 0 ≤ s) (i j : Nat) (hi : i < 61) (h : (i : Int) = s + j) : reA (trS (shT F s) 64) i = reA F j ∧ imA (trS (shT F s) 64) i = imA F j := by
  unfold reA imA
  rw [shT_at F s i j (by omega) h (by omega), shT_at F s (i + 1) (j + 1) (by omega) (by omega) (by omega), shT_at F s (i + 2) (j + 2) (by omega) (by omega) (by omega), shT_at F s (i + 3) (j + 3) (by omega) (by omega) (by omega)]
  exact ⟨rfl, rfl⟩
theorem shT_in (F : Nat → Int) (s : Int) (hl : ∀ i, i < 64 → -2047 ≤ F i ∧ F i ≤ 2047) : ∀ i, i < 64 → -2047 ≤ trS (shT F s) 64 i ∧ trS (shT F s) 64 i ≤ 2047 := fun i hi => by
  unfold trS shT
  rw [if_pos hi]
  split
  · exact hl _ (by omega)
  · omega
theorem re_in (F : Nat → Int) (hl : ∀ i, i < 64 → -2047 ≤ F i ∧ F i ≤ 2047) (i : Nat) (hi : i < 61) : (reA F i).natAbs < 4096 ∧ (imA F i).natAbs < 4096 := by
  have a := hl i (by omega)
  have b := hl (i + 1) (by omega)
  have c := hl (i + 2) (by omega)
  have d := hl (i + 3) (by omega)
  unfold reA imA
  omega
theorem an_ok (F : Nat → Int) (hl : ∀ i, i < 64 → -2047 ≤ F i ∧ F i ≤ 2047) (w : World) :
    Calls Try.prog 25 #[.agg (vls 64 (fv F)).toArray] w fun e w' => e = .returned (.tuple #[.agg (vls 61 (anv F)).toArray, .int .i64 0]) ∧ Below w.heap.size w w' := by
  have := analytic_any F (few_in hl) w
  rw [(ctE_zero F).2 hl] at this
  simpa only [if_true] using this
theorem fst_two (a b : Int) (h : ¬ (a = 0 ∧ b = 0)) : fst [a, b] ≠ 0 := by
  unfold fst
  by_cases ha : a = 0
  · rw [if_pos ha]; unfold fst; rw [if_neg (fun hb => h ⟨ha, hb⟩)]; exact fun hb => h ⟨ha, hb⟩
  · rw [if_neg ha]; exact ha
theorem aa_any (A B : Option Addr) (n c m d : Nat) (l k : Nat → Int) (s : Int) (w : World) (h : InAt A n l w) (h2 : InAt B m k w) :
    Calls Try.prog 6 #[.slice A n c, .slice B m d, .int .i64 s] w fun e w' => e = .returned (.bool true) ∧ Below w.heap.size w w' := by
  by_cases hn : n ≤ 64
  · by_cases hm : m ≤ 64
    · by_cases hs : 0 ≤ s ∧ s ≤ 60
      · have fa : Few (trS (clm l) n) := trS_few _ _ (clm_in l)
        have fb : Few (trS (clm k) m) := trS_few _ _ (clm_in k)
        have MA := Lib.hid (fun w h => made_any A n c l w hn h)
        have MB := Lib.hid (fun w h => made_any B m d k w hm h)
        generalize trS (clm l) n = F at *
        generalize trS (clm k) m = G at *
        have WI := Lib.hid (fun w => bw_true s 0 60 hs w)
        by_cases hab : ctE F = 0 ∧ ctE G = 0
        · have la := (ctE_zero F).1 hab.1
          have lb := (ctE_zero G).1 hab.2
          have AD := Lib.hid (fun w => tAdded_ok F G w la lb)
          by_cases hL : ldS (smT F G) 64 ≤ 2047
          · have e1 : adT F G = smT F G := by unfold adT; rw [if_pos hL]
            have e2 : adE F G = 0 := by unfold adE; rw [if_pos hL]
            rw [e1, e2] at AD
            have lS : ∀ i, i < 64 → -2047 ≤ smT F G i ∧ smT F G i ≤ 2047 := fun i hi => by
              have := ((ldS_le (smT F G) 2047 64).1 hL).2 i hi
              omega
            exact aa_ok A B n c m d l k F G (smT F G) (trS (shT F s) 64) s w hn hm h h2 MA MB WI AD (Lib.hid (fun w => an_ok F la w)) (Lib.hid (fun w => an_ok G lb w)) (Lib.hid (fun w => an_ok _ lS w)) (Lib.hid (fun w => an_ok _ (shT_in F s la) w)) (Lib.hid (fun w => tShifted_ok F s w fa hab.1 (by omega) (by omega))) hs.1 hs.2
              (Lib.hid (fun i _ => ⟨re_sum F G i, im_sum F G i⟩)) (Lib.hid (fun i j hi hj => re_sh F s hs.1 i j hi hj))
              (Lib.hid (fun i hi => ⟨(re_in F la i hi).1, (re_in F la i hi).2, (re_in G lb i hi).1, (re_in G lb i hi).2⟩))
          · have e2 : adE F G = 8 := by unfold adE; rw [if_neg hL]
            rw [e2] at AD
            exact aa_bad A B n c m d l k F G _ F s w hn hm h h2 8 (by decide) MA MB WI AD
        · have hX := fst_two _ _ hab
          have AD := Lib.hid (fun w => tAdded_bad F G w fa fb hX)
          exact aa_bad A B n c m d l k F G _ F s w hn hm h h2 _ hX MA MB WI AD
      · exact aa_out A B n c m d s w hn hm hs
    · exact aa_long2 A B n c m d s w hn hm
  · exact aa_long1 A B n c m d s w hn
end Go.Proofs.Ytoieemgdkpnbfaa
