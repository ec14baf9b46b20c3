/- an echo that comes later and is stronger, whatever came in -/
import Derived.Test.YtoieemgdkpnbfaaFq3
import Derived.Test.YtoieemgdkpnbfaaFo4
import Derived.Test.YtoieemgdkpnbfaaFp5
import Derived.Test.YtoieemgdkpnbfaaFn2
namespace Go.Proofs.Ytoieemgdkpnbfaa
open Go.RowKit RayM
set_option linter.unusedSimpArgs false
set_option linter.unusedVariables false
theorem ten (g : Int) (h : 1 ≤ g ∧ g ≤ 10) : g = 1 ∨ g = 2 ∨ g = 3 ∨ g = 4 ∨ g = 5 ∨ g = 6 ∨ g = 7 ∨ g = 8 ∨ g = 9 ∨ g = 10 := by omega
theorem ten_gn (g : Int) (h : 1 ≤ g ∧ g ≤ 10) : gnE g 1 = 0 := by
  rcases ten g h with rfl | rfl | rfl | rfl | rfl | rfl | rfl | rfl | rfl | rfl <;> decide +kernel
theorem ten_prod (g x : Int) (h : 1 ≤ g ∧ g ≤ 10) (hx : -200 ≤ x ∧ x ≤ 200) : -2000 ≤ g * x ∧ g * x ≤ 2000 := by
  rcases ten g h with rfl | rfl | rfl | rfl | rfl | rfl | rfl | rfl | rfl | rfl <;> omega
theorem gn_ten (T : Nat → Int) (g : Int) (k : Nat) : gnV T g 1 k = g * T k := by
  show (2 * (T k * g) + 1) / (2 * 1) = g * T k
  rw [Int.mul_comm (T k) g]; omega
theorem gc_ten (T : Nat → Int) (g : Int) (h : 1 ≤ g ∧ g ≤ 10) (hT : ∀ i, -200 ≤ T i ∧ T i ≤ 200) (k : Nat) : gcV T g 1 k = g * T k := by
  unfold gcV
  rw [gn_ten]
  have := ten_prod g (T k) h (hT k)
  omega
theorem cu_ten (T : Nat → Int) (g : Int) (h : 1 ≤ g ∧ g ≤ 10) (hT : ∀ i, -200 ≤ T i ∧ T i ≤ 200) : ∀ k, cuS T g 1 k = 0
  | 0 => rfl
  | k + 1 => by
    show cuS T g 1 k + (if gcV T g 1 k = gnV T g 1 k then 0 else 1) = 0
    rw [cu_ten T g h hT k, gc_ten T g h hT k, gn_ten, if_pos rfl]; rfl
theorem sq_le (x : Int) (h : -400 ≤ x ∧ x ≤ 400) : x * x ≤ 160000 := by
  have := Int.mul_nonneg (show 0 ≤ 400 - x by omega) (show 0 ≤ 400 + x by omega)
  rw [Int.sub_mul, Int.mul_add, Int.mul_add, Int.mul_comm x 400] at this
  omega
theorem i64_ten (g : Int) (h : 1 ≤ g ∧ g ≤ 10) : I64 g := ⟨by omega, by omega⟩
theorem td_contract (l : Nat → Int) (n s : Nat) (g : Int) (hn : n ≤ 20) (hs : s ≤ 20) (hg : 1 ≤ g ∧ g ≤ 10) (hl : ∀ i, i < n → -200 ≤ l i ∧ l i ≤ 200) :
    TdC (eT l n) (gcV (eT l n) g 1) (trS (shT (gcV (eT l n) g 1) (s : Int)) 64) g s (pk (sqA (eT l n)) 0 31).1 (pk (sqA (eT l n)) 0 31).2 (smB l n) := by
  have hT := eT_in l n hl
  have hF : ∀ i, i < 3 → eT l n i = 0 := fun i hi => eT_front l n i hi
  have h23 : ∀ i, 23 ≤ i → eT l n i = 0 := fun i hi => eT_back l n i (by omega)
  have some : smB l n = true → ∃ i, eT l n i ≠ 0 := fun h => by
    obtain ⟨i, hi, hne⟩ := smB_true l n h
    exact ⟨i + 3, by rw [eT_mid l n i hi]; exact hne⟩
  generalize eT l n = T at *
  have hG := gc_ten T g hg hT
  have cz := cu_ten T g hg hT 64
  have lT : ∀ i, i < 64 → -2047 ≤ T i ∧ T i ≤ 2047 := fun i _ => by have := hT i; omega
  have lG : ∀ i, i < 64 → -2047 ≤ gcV T g 1 i ∧ gcV T g 1 i ≤ 2047 := fun i _ => by rw [hG]; have := ten_prod g (T i) hg (hT i); omega
  have ga := tGained_ok T g 1
  generalize gcV T g 1 = G at *
  have lS := shT_in G (s : Int) lG
  have hS : ∀ i, i < 64 → trS (shT G (s : Int)) 64 i = g * hb T s i := fun i hi => by
    rw [sh_at G s i hi]
    unfold hb
    by_cases q : s ≤ i
    · rw [if_pos q, if_pos q, hG]
    · rw [if_neg q, if_neg q]; omega
  have sh := fun w => tShifted_ok G (s : Int) w (few_in lG) ((ctE_zero G).2 lG) (by omega) (by omega)
  generalize trS (shT G (s : Int)) 64 = S at *
  have cT : ctE T = 0 := (ctE_zero T).2 lT
  have cS : ctE S = 0 := (ctE_zero S).2 lS
  have bd : ∀ k : Nat, 0 ≤ sqA T k ∧ sqA T k ≤ 1000000 := fun k => by
    refine ⟨sqA_nn T k, ?_⟩
    rw [sqA_eq]
    have a := hT k; have b := hT (k + 1); have c := hT (k + 2); have d := hT (k + 3)
    have p := sq_le (T k - T (k + 2)) (by omega)
    have q := sq_le (T (k + 1) - T (k + 3)) (by omega)
    omega
  obtain ⟨sp1, sp2, _, _⟩ := pk_spec (sqA T) 31
  have g1 : gaE 0 30 = 0 := (gaE_zero 0 30).2 ⟨by decide, by decide, by decide⟩
  have g2 : gaE 0 60 = 0 := (gaE_zero 0 60).2 ⟨by decide, by decide, by decide⟩
  have e1 : pkE T 0 30 = 0 := by unfold pkE; rw [cT, g1]; rfl
  have e2 : pkE S 0 60 = 0 := by unfold pkE; rw [cS, g2]; rfl
  refine ⟨fun w => ?_, sh, fun w => ?_, fun w => ?_, fun w => ?_, fun h w => ?_, fun h w => ?_, fun k hk => sq_later T S g s hS k hk, fun k _ => bd k, ?_⟩
  · have := ga w lT (i64_ten g hg) (i64_ten 1 (by decide)) (ten_gn g hg)
    rw [cz] at this
    exact this
  · have := envelope_any T (few_in lT) w
    rw [cT] at this
    simpa only [if_true] using this
  · have := envelope_any S (few_in lS) w
    rw [cS] at this
    simpa only [if_true] using this
  · have := peakIn_any T 0 30 (few_in lT) w
    rw [e1] at this
    simp only [if_true] at this
    exact this
  · obtain ⟨i0, h0⟩ := some h
    have pe := (peak_echo T S g s hs hg.1 hF h23 hS i0 h0).1
    have := peakIn_any S 0 60 (few_in lS) w
    rw [e2, show pkP S 0 60 = pk (sqA S) 0 61 from rfl, pe] at this
    simp only [if_true, Int.natCast_add] at this
    exact this
  · obtain ⟨i0, h0⟩ := some h
    have le := lag_echo T S g s hs hg.1 h23 hS i0 h0
    have e3 : lgE T S 25 = 0 := by rw [lgE_of T S 25 0 0 cT cS]; rfl
    have e4 : lgR T S 25 = (s : Int) := by unfold lgR; rw [if_pos e3]; exact le
    have := lagOf_any T S 25 w (few_in lT) (few_in lS)
    rw [e3, e4] at this
    exact this
  · rw [sp2]
    have := bd (pk (sqA T) 0 31).1
    exact ⟨this.1, this.2, by omega⟩
theorem td_any (A : Option Addr) (n c : Nat) (l : Nat → Int) (s g : Int) (w : World) (h : InAt A n l w) :
    Calls Try.prog 11 #[.slice A n c, .int .i64 s, .int .i64 g] w fun e w' => e = .returned (.bool true) ∧ Below w.heap.size w w' := by
  by_cases hn : n ≤ 20
  · by_cases hs : 0 ≤ s ∧ s ≤ 20
    · by_cases hg : 1 ≤ g ∧ g ≤ 10
      · obtain ⟨B, rfl⟩ : ∃ B : Nat, s = (B : Int) := ⟨s.toNat, by omega⟩
        exact td_in A n c l _ _ _ B _ g _ w hn (by omega) hg h (Lib.hid (fun _ A c w h => rTrace_any A (n + 3) c (echoX l) w (by omega) h)) (Lib.hid (fun hl => td_contract l n B g hn (by omega) hg hl))
      · exact td_out2 A n c s g w hn hs hg
    · exact td_out1 A n c s g w hn hs
  · exact td_long A n c s g w hn
end Go.Proofs.Ytoieemgdkpnbfaa
