/- lags, whatever came in -/
import Derived.Test.YtoieemgdkpnbfaaFo3
import Derived.Test.YtoieemgdkpnbfaaFlK
import Derived.Test.YtoieemgdkpnbfaaFn2
namespace Go.Proofs.Ytoieemgdkpnbfaa
open Go.RowKit RayM
set_option linter.unusedSimpArgs false
set_option linter.unusedVariables false
theorem lg_zero' (s : Int → Int) (M : Nat) (h : ∀ lag : Int, -(M : Int) ≤ lag → lag ≤ M → s lag = 0) : ∀ n, n ≤ M → (lg s n).1 = 0 ∧ (lg s n).2 = 0
  | 0, _ => ⟨rfl, h 0 (by omega) (by omega)⟩
  | n + 1, hn => by
    have ih := lg_zero' s M h n (by omega)
    have one : ∀ (p : Int × Int) (lag : Int), -(M : Int) ≤ lag → lag ≤ M → p.1 = 0 ∧ p.2 = 0 → (lgU s p lag).1 = 0 ∧ (lgU s p lag).2 = 0 := fun p lag h1 h2 hp => by
      unfold lgU
      rw [if_neg (by rw [h lag h1 h2, hp.2]; omega)]
      exact hp
    exact one _ _ (by omega) (by omega) (one _ _ (by omega) (by omega) ih)
theorem cr_zero (x y : Nat → Int) (lag : Int) (hx : ∀ i, i < 64 → x i = 0) : ∀ t, t ≤ 64 → cr x y lag t = 0
  | 0, _ => rfl
  | t + 1, h => by
    by_cases hh : 0 ≤ (t : Int) + lag ∧ (t : Int) + lag ≤ 63
    · rw [cr_yes x y lag t hh, cr_zero x y lag hx t (by omega), hx t (by omega)]; omega
    · rw [cr_no x y lag t hh]; exact cr_zero x y lag hx t (by omega)
theorem sh_at (F : Nat → Int) (M q : Nat) (hq : q < 64) : trS (shT F (M : Int)) 64 q = hb F M q := by
  unfold trS shT hb
  rw [if_pos hq]
  by_cases h : M ≤ q
  · rw [if_pos (by omega), if_pos h]; congr 1; omega
  · rw [if_neg (by omega), if_neg h]
theorem cr_self (F : Nat → Int) (M : Nat) (hl : ∀ i, i < 64 → F i ≠ 0 → (i : Int) + M < 64) : ∀ t, t ≤ 64 → cr F (trS (shT F (M : Int)) 64) M t = sqs F t
  | 0, _ => rfl
  | t + 1, h => by
    show _ = sqs F t + F t * F t
    by_cases hh : 0 ≤ (t : Int) + M ∧ (t : Int) + M ≤ 63
    · rw [cr_yes _ _ _ _ hh, cr_self F M hl t (by omega), sh_at F M _ (by omega)]
      have e : hb F M ((t : Int) + M).toNat = F t := by unfold hb; rw [if_pos (by omega)]; congr 1; omega
      rw [e]
    · rw [cr_no _ _ _ _ hh, cr_self F M hl t (by omega)]
      by_cases hz : F t = 0
      · rw [hz]; omega
      · have := hl t (by omega) hz; omega
theorem cr_other (F : Nat → Int) (M k : Nat) (lag : Int) (hk : (k : Int) = M - lag) (h0 : lag < M) (hl : ∀ i, i < 64 → F i ≠ 0 → (i : Int) + M < 64) : ∀ t, t ≤ 64 → cr F (trS (shT F (M : Int)) 64) lag t = pr F k t
  | 0, _ => rfl
  | t + 1, h => by
    show _ = pr F k t + F t * hb F k t
    by_cases hh : 0 ≤ (t : Int) + lag ∧ (t : Int) + lag ≤ 63
    · rw [cr_yes _ _ _ _ hh, cr_other F M k lag hk h0 hl t (by omega), sh_at F M _ (by omega)]
      have e : hb F M ((t : Int) + lag).toNat = hb F k t := by
        unfold hb
        by_cases q : k ≤ t
        · rw [if_pos (by omega), if_pos q]; congr 1; omega
        · rw [if_neg (by omega), if_neg q]
      rw [e]
    · rw [cr_no _ _ _ _ hh, cr_other F M k lag hk h0 hl t (by omega)]
      by_cases hz : F t = 0
      · rw [hz]; omega
      · have := hl t (by omega) hz
        have e : hb F k t = 0 := by unfold hb; rw [if_neg (by omega)]
        rw [e]; omega
theorem smB_false (F : Nat → Int) : ∀ n, smB F n = false → ∀ i, i < n → F i = 0
  | 0, _, i, hi => by omega
  | n + 1, h, i, hi => by
    have h2 : (smB F n || decide (F n ≠ 0)) = false := h
    simp at h2
    by_cases e : i = n
    · subst e; exact h2.2
    · exact smB_false F n h2.1 i (by omega)
theorem smB_true (F : Nat → Int) : ∀ n, smB F n = true → ∃ i, i < n ∧ F i ≠ 0
  | 0, h => Bool.noConfusion (show false = true from h)
  | n + 1, h => by
    have h2 : (smB F n || decide (F n ≠ 0)) = true := h
    simp at h2
    rcases h2 with h2 | h2
    · obtain ⟨i, hi, e⟩ := smB_true F n h2; exact ⟨i, by omega, e⟩
    · exact ⟨n, by omega, h2⟩
theorem lag_self (F : Nat → Int) (M : Nat) (hM : M ≤ 32) (hl : ∀ i : Nat, i < 64 → F i ≠ 0 → (i : Int) + M < 64) :
    (smB F 64 = false → (lg (lk F (trS (shT F (M : Int)) 64)) M).1 = 0) ∧ (smB F 64 = true → (lg (lk F (trS (shT F (M : Int)) 64)) M).1 = M) := by
  constructor
  · intro h
    have hz := smB_false F 64 h
    exact (lg_zero' _ M (fun lag h1 h2 => by rw [← cr_lk _ _ _ (by omega) (by omega)]; exact cr_zero _ _ _ hz 64 (Nat.le_refl _)) M (Nat.le_refl _)).1
  · intro h
    obtain ⟨i, hi, hF⟩ := smB_true F 64 h
    refine lg_last _ M (fun lag h1 h2 => ?_)
    obtain ⟨k, hk⟩ : ∃ k : Nat, (k : Int) = M - lag := ⟨(M - lag).toNat, by omega⟩
    rw [← cr_lk _ _ _ (by omega) (by omega), ← cr_lk _ _ _ (by omega) (by omega), cr_self F M hl 64 (Nat.le_refl _), cr_other F M k lag hk h2 hl 64 (Nat.le_refl _)]
    exact pr_lt F k 64 (by omega) i hi hF
theorem lgE_of (F G : Nat → Int) (s : Int) (x y : Int) (hx : ctE F = x) (hy : ctE G = y) : lgE F G s = fst [x, y, unl (inB s 0 32) 2] := by unfold lgE; rw [hx, hy]
theorem tl_any (A B : Option Addr) (n c m d : Nat) (l k : Nat → Int) (s : Int) (w : World) (h : InAt A n l w) (h2 : InAt B m k w) :
    Calls Try.prog 9 #[.slice A n c, .slice B m d, .int .i64 s] w fun e w' => e = .returned (.bool true) ∧ Below w.heap.size w w' := by
  by_cases hn : n ≤ 64
  · by_cases hm : m ≤ 64
    · have fa : Few (trS (clm l) n) := trS_few _ _ (clm_in l)
      have fb : Few (trS (clm k) m) := trS_few _ _ (clm_in k)
      have MA := Lib.hid (fun w h => made_any A n c l w hn h)
      have MB := Lib.hid (fun w h => made_any B m d k w hm h)
      generalize trS (clm l) n = F at *
      generalize trS (clm k) m = G at *
      have CA := Lib.hid (fun w => rCheckTrace_any F w fa)
      have CB := Lib.hid (fun w => rCheckTrace_any G w fb)
      have LO := Lib.hid (fun w => lagOf_any F G s w fa fb)
      by_cases ha : ctE F = 0
      · have la := (ctE_zero F).1 ha
        rw [ha] at CA
        by_cases hb' : ctE G = 0
        · have lb := (ctE_zero G).1 hb'
          rw [hb'] at CB
          have eE := lgE_of F G s 0 0 ha hb'
          by_cases hs : 0 ≤ s ∧ s ≤ 32
          · have WI := Lib.hid (fun w => bw_true s 0 32 hs w)
            have e0 : lgE F G s = 0 := by rw [eE, unl_t _ _ _ hs]; rfl
            obtain ⟨M, rfl⟩ : ∃ M : Nat, s = (M : Int) := ⟨s.toNat, by omega⟩
            have hM : M ≤ 32 := by omega
            have eR : lgR F G (M : Int) = (lg (lk F G) M).1 := by unfold lgR; rw [if_pos e0]; rfl
            rw [e0, eR] at LO
            have lT := shT_in F (M : Int) la
            have cT : ctE (trS (shT F (M : Int)) 64) = 0 := (ctE_zero _).2 lT
            have e2 : lgE F (trS (shT F (M : Int)) 64) (M : Int) = 0 := by rw [lgE_of F _ _ 0 0 ha cT, unl_t _ _ _ hs]; rfl
            have eR2 : lgR F (trS (shT F (M : Int)) 64) (M : Int) = (lg (lk F (trS (shT F (M : Int)) 64)) M).1 := by unfold lgR; rw [if_pos e2]; rfl
            have L2 := Lib.hid (fun w => lagOf_any F (trS (shT F (M : Int)) 64) (M : Int) w fa (few_in lT))
            rw [e2, eR2] at L2
            exact tl_ok A B n c m d l k F G (M : Int) _ _ w hn hm h h2 MA MB _ _ _ LO CA CB WI (Lib.hid (fun w => rLagOf_any F G M w la lb hM)) (Lib.hid (fun w => tShifted_ok F (M : Int) w fa ha (by omega) (by omega))) L2 (by omega) (by omega) fa (Lib.hid (fun hl => lag_self F M hM hl))
          · have WI := Lib.hid (fun w => bw_false s 0 32 hs w)
            have e0 : lgE F G s = 2 := by rw [eE, unl_f _ _ _ hs]; rfl
            have eR : lgR F G s = 0 := by unfold lgR; rw [if_neg (by rw [e0]; decide)]
            rw [e0, eR] at LO
            exact tl_badC A B n c m d l k F G s _ _ w hn hm h h2 MA MB LO CA CB WI
        · have e0 : lgE F G s = ctE G := by rw [lgE_of F G s 0 _ ha rfl]; unfold fst; rw [if_pos rfl]; unfold fst; rw [if_neg hb']
          have eR : lgR F G s = 0 := by unfold lgR; rw [if_neg (by rw [e0]; exact hb')]
          rw [e0, eR] at LO
          by_cases hs : 0 ≤ s ∧ s ≤ 32
          · exact tl_badB A B n c m d l k F G s _ _ w hn hm h h2 MA MB _ hb' LO CA CB (Lib.hid (fun w => bw_true s 0 32 hs w))
          · exact tl_badB' A B n c m d l k F G s _ _ w hn hm h h2 MA MB _ hb' LO CA CB (Lib.hid (fun w => bw_false s 0 32 hs w))
      · have e0 : lgE F G s = ctE F := by unfold lgE fst; rw [if_neg ha]
        have eR : lgR F G s = 0 := by unfold lgR; rw [if_neg (by rw [e0]; exact ha)]
        rw [e0, eR] at LO
        by_cases hs : 0 ≤ s ∧ s ≤ 32
        · exact tl_badA A B n c m d l k F G s _ _ w hn hm h h2 MA MB _ _ ha LO CA CB (Lib.hid (fun w => bw_true s 0 32 hs w))
        · exact tl_badA' A B n c m d l k F G s _ _ w hn hm h h2 MA MB _ _ ha LO CA CB (Lib.hid (fun w => bw_false s 0 32 hs w))
    · exact tl_long2 A B n c m d s w hn hm
  · exact tl_long1 A B n c m d s w hn
end Go.Proofs.Ytoieemgdkpnbfaa
