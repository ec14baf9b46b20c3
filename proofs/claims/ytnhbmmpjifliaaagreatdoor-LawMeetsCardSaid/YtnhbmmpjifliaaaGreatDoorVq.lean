/- maths of LawMeets -/
import Derived.Test.YtnhbmmpjifliaaaGreatDoorV15
import Derived.Test.YtnhbmmpjifliaaaGreatDoorVk
namespace Go.Proofs.YtnhbmmpjifliaaaGreatDoor
open Go.RowKit Go.Shelf RayM
set_option linter.unusedSimpArgs false
set_option linter.unusedVariables false
/-- the law of a focus -/
def La.fd (a : La) (f : Sp) : Dl := ⟨a.ck, a.dl f, a.n⟩
theorem sdL_all (t : Nat → Int) (n : Nat) (h : ∀ i, i < n → t i ≠ -1) : sdL t n = List.range n := by
  unfold sdL
  refine List.filter_eq_self.2 fun i hi => ?_
  have := h i (by simpa using hi)
  simpa using this
theorem FLE_parts (a : La) (f : Sp) (h : a.FLE f = 0) : a.E = 0 ∧ a.fe f = 0 ∧ a.FLC f = a.ck ∧ a.FLX f = upto (a.dl f) a.n ∧ (∀ i, i < a.n → 0 ≤ a.dl f i ∧ a.dl f i ≤ 1000000) ∧ (a.fd f).E = 0 := by
  have hE : a.E = 0 := by
    unfold La.FLE at h
    by_cases q : a.E = 0
    · exact q
    · rw [if_neg q] at h; exact h
  have hF : a.FE f = 0 := by unfold La.FLE at h; rw [if_pos hE] at h; exact h
  have hf : a.fe f = 0 := by
    unfold La.FE at hF
    by_cases q : a.fe f = 0
    · exact q
    · rw [if_neg q] at hF; exact hF
  have hl : loE (a.dl f) a.n = 0 := by unfold La.FE at hF; rw [if_pos hf] at hF; exact hF
  have hs : ¬ 1000000 < mxL (a.dl f) a.n := fun q => by unfold loE at hl; rw [if_pos q] at hl; omega
  obtain ⟨⟨n0, n1⟩, _, _, k0, k1⟩ := (La.E_zero a).1 hE
  have hb : ∀ i, i < a.n → 0 ≤ a.dl f i ∧ a.dl f i ≤ 1000000 := fun i hi => by
    have m := mxL_le (a.dl f) a.n i hi
    refine ⟨?_, by omega⟩
    have mn := mnL_le (a.mo f) a.n i hi
    show 0 ≤ (2 * (a.mo f i - mnL (a.mo f) a.n) + a.ck) / (2 * a.ck)
    exact Int.ediv_nonneg (by omega) (by omega)
  refine ⟨hE, hf, ?_, ?_, hb, ?_⟩
  · unfold La.FLC La.FC loC; rw [if_pos hE, if_pos hf, if_neg hs]
  · unfold La.FLX La.FX loX; rw [if_pos hE, if_pos hf, if_neg hs]
  · refine (Dl.E_zero _).2 ⟨⟨k0, k1⟩, ⟨n0, n1⟩, fun i hi => ?_⟩
    have := hb i hi
    show -1 ≤ a.dl f i ∧ a.dl f i ≤ 1000000
    omega
theorem FLX_bad (a : La) (f : Sp) (h : a.FLE f ≠ 0) : a.FLX f = [] := by
  unfold La.FLX
  by_cases q : a.E = 0
  · rw [if_pos q]
    unfold La.FX
    by_cases q2 : a.fe f = 0
    · rw [if_pos q2]
      unfold loX
      by_cases q3 : 1000000 < mxL (a.dl f) a.n
      · rw [if_pos q3]
      · exfalso; apply h; unfold La.FLE La.FE loE; rw [if_pos q, if_pos q2, if_neg q3]
    · rw [if_neg q2]
  · rw [if_neg q]
/-- the widest enclosure of the first elements, and whether one of them is not delayed -/
def La.mw (a : La) (f : Sp) : Nat → Int
  | 0 => 0
  | k + 1 => max (a.mw f k) (a.hi f k - a.lo f k)
def stB (l : Nat → Int) : Nat → Bool
  | 0 => false
  | k + 1 => stB l k || (l k == 0)
theorem mw_le (a : La) (f : Sp) : ∀ n i, i < n → a.hi f i - a.lo f i ≤ a.mw f n
  | n + 1, i, h => by
    have e : a.mw f (n + 1) = max (a.mw f n) (a.hi f n - a.lo f n) := rfl
    by_cases q : i = n
    · subst q; omega
    · have := mw_le a f n i (by omega); omega
theorem mw_nn (a : La) (f : Sp) : ∀ n, 0 ≤ a.mw f n
  | 0 => Int.le_refl 0
  | n + 1 => by
    have e : a.mw f (n + 1) = max (a.mw f n) (a.hi f n - a.lo f n) := rfl
    have := mw_nn a f n; omega
theorem mw_top (a : La) (f : Sp) (n : Nat) (h : ∀ i, i < n → a.hi f i - a.lo f i ≤ 200000000000000) : a.mw f n ≤ 200000000000000 := by
  induction n with
  | zero => show (0 : Int) ≤ _; omega
  | succ n ih =>
    have e : a.mw f (n + 1) = max (a.mw f n) (a.hi f n - a.lo f n) := rfl
    have := ih (fun i hi => h i (by omega)); have := h n (by omega); omega
theorem stB_of (l : Nat → Int) : ∀ n i, i < n → l i = 0 → stB l n = true
  | n + 1, i, h, e => by
    show (stB l n || (l n == 0)) = true
    by_cases q : i = n
    · subst q; rw [e]; simp
    · rw [stB_of l n i (by omega) e]; rfl
theorem focus_still (a : La) (f : Sp) (h : a.FLE f = 0) : stB (a.dl f) a.n = true := by
  obtain ⟨hE, _⟩ := FLE_parts a f h
  obtain ⟨⟨n0, n1⟩, _, _, k0, k1⟩ := (La.E_zero a).1 hE
  obtain ⟨i, hi, e⟩ := mnL_mem (a.mo f) a.n n0
  refine stB_of _ _ i hi ?_
  show (2 * (a.mo f i - mnL (a.mo f) a.n) + a.ck) / (2 * a.ck) = 0
  rw [e]
  have : 2 * (a.mo f i - a.mo f i) + a.ck = a.ck := by omega
  rw [this]
  exact Int.ediv_eq_zero_of_lt (by omega) (by omega)
theorem focus_sd (a : La) (f : Sp) (h : a.FLE f = 0) : sdL (a.fd f).t a.n = List.range a.n := sdL_all _ _ (fun i hi => by have := (FLE_parts a f h).2.2.2.2.1 i hi; show a.dl f i ≠ -1; omega)
theorem focus_meets (a : La) (f : Sp) (h : a.FLE f = 0) : a.SE (a.fd f) f = 0 ∧ 0 ≤ a.SLo (a.fd f) f ∧ a.SLo (a.fd f) f ≤ a.SHi (a.fd f) f ∧ a.SHi (a.fd f) f ≤ a.ck + 2 * a.mw f a.n ∧ 0 ≤ a.mw f a.n ∧ a.mw f a.n ≤ 200000000000000 := by
  obtain ⟨hE, hf, _, _, hd, hde⟩ := FLE_parts a f h
  obtain ⟨⟨n0, n1⟩, _, _, k0, k1⟩ := (La.E_zero a).1 hE
  obtain ⟨⟨l0, l1⟩, _, tb⟩ := (Dl.E_zero _).1 hde
  have hp : paE a (a.fd f) = 0 := (paE_zero _ _).2 ⟨hE, hde, rfl⟩
  have hsd := focus_sd a f h
  have hsm : a.sm (a.fd f) = a.n := by unfold La.sm; rw [hsd]; simp
  have hs : a.SE (a.fd f) f = 0 := SE_of a _ f hp hf (by omega)
  obtain ⟨_, _, hmm, _, e1, e2⟩ := SE_parts a (a.fd f) f hs
  rw [hsm] at e1 e2 hmm
  have lh := fun i (hi : i < a.n) => lh_bounds a f i ((ffE_zero _ _).1 hf i hi)
  have near : ∀ j, j < a.n → 2 * sdY a f (a.fd f) j ≤ -2 * (mnL (a.mo f) a.n) + a.mw f a.n + 1 + a.ck ∧ -2 * (mnL (a.mo f) a.n) - a.mw f a.n - a.ck + 1 ≤ 2 * sdX a f (a.fd f) j ∧ sdX a f (a.fd f) j ≤ sdY a f (a.fd f) j := by
    intro j hj
    have gj : (sdL (a.fd f).t a.n).getD j 0 = j := by rw [hsd]; simp [hj]
    have r := round_near (a.mo f j - mnL (a.mo f) a.n) a.ck (by omega)
    have ed : a.dl f j = (2 * (a.mo f j - mnL (a.mo f) a.n) + a.ck) / (2 * a.ck) := rfl
    rw [← ed] at r
    have em : a.mo f j = -((a.lo f j + a.hi f j) / 2) := rfl
    have w1 := mw_le a f a.n j hj
    have b := lh j hj
    unfold sdX sdY arL arH
    rw [gj]
    show 2 * (a.hi f j + a.dl f j * a.ck) ≤ _ ∧ _ ≤ 2 * (a.lo f j + a.dl f j * a.ck) ∧ a.lo f j + a.dl f j * a.ck ≤ a.hi f j + a.dl f j * a.ck
    omega
  obtain ⟨j1, h1, q1⟩ := mxL_mem (sdY a f (a.fd f)) _ hmm
  obtain ⟨j2, h2, q2⟩ := mxL_mem (sdX a f (a.fd f)) _ hmm
  obtain ⟨j3, h3, q3⟩ := mnL_mem (sdX a f (a.fd f)) _ hmm
  obtain ⟨j4, h4, q4⟩ := mnL_mem (sdY a f (a.fd f)) _ hmm
  have x1 := near j1 h1; have x2 := near j2 h2; have x3 := near j3 h3; have x4 := near j4 h4
  have m1 := mxL_le (sdY a f (a.fd f)) a.n j2 h2
  have m2 := mnL_le (sdX a f (a.fd f)) a.n j4 h4
  have m3 := mxL_le (sdY a f (a.fd f)) a.n j3 h3
  have mn := mw_nn a f a.n
  have mt := mw_top a f a.n (fun i hi => by have := lh i hi; omega)
  refine ⟨hs, ?_, ?_, ?_, mn, mt⟩
  · rw [e1]; omega
  · rw [e1, e2]; omega
  · rw [e2]; omega
/-- the law of a focus without one element -/
def La.fw (a : La) (f : Sp) (k : Int) : Dl := ⟨a.ck, woC (a.dl f) (fun _ => k) 1, a.n⟩
theorem fw_t (a : La) (f : Sp) (k : Nat) (i : Nat) : (a.fw f k).t i = if i = k then -1 else a.dl f i := by
  show woC _ _ 1 i = _
  unfold woC hasB
  by_cases q : i = k
  · subst q; simp
  · have : ((k : Int) == (i : Int)) = false := by simp; omega
    simp [q, this]
theorem fw_wo (a : La) (f : Sp) (k : Nat) (h : a.FLE f = 0) (hk : k < a.n) : woE (a.fd f) (fun _ => (k : Int)) 1 = 0 := by
  unfold woE
  rw [if_pos (FLE_parts a f h).2.2.2.2.2, ffE_zero]
  intro j hj
  obtain rfl : j = 0 := by omega
  exact (wcE_zero _ _ _).2 ⟨⟨by omega, by show (k : Int) < (a.n : Int); omega⟩, .inl rfl⟩
theorem fewer_meets (a : La) (f : Sp) (k : Nat) (h : a.FLE f = 0) (hk : k < a.n) (hn : 2 ≤ a.n) : a.SE (a.fw f k) f = 0 ∧ a.SHi (a.fw f k) f ≤ a.SHi (a.fd f) f := by
  obtain ⟨hE, hf, _, _, hd, hde⟩ := FLE_parts a f h
  obtain ⟨⟨n0, n1⟩, _, _, k0, k1⟩ := (La.E_zero a).1 hE
  have hwe : (a.fw f k).E = 0 := (Dl.E_zero _).2 ⟨⟨k0, k1⟩, ⟨n0, n1⟩, fun i hi => by
    rw [fw_t]
    have := hd i hi
    by_cases q : i = k
    · rw [if_pos q]; omega
    · rw [if_neg q]; omega⟩
  have hp : paE a (a.fw f k) = 0 := (paE_zero _ _).2 ⟨hE, hwe, rfl⟩
  have hm : 0 < a.sm (a.fw f k) := by
    obtain ⟨i, hi, hik⟩ : ∃ i, i < a.n ∧ i ≠ k := by
      by_cases q : k = 0
      · exact ⟨1, by omega, by omega⟩
      · exact ⟨0, by omega, by omega⟩
    have : i ∈ sdL (a.fw f k).t a.n := (sdL_mem _ _ _).2 ⟨hi, by rw [fw_t, if_neg hik]; have := hd i hi; omega⟩
    unfold La.sm
    exact List.length_pos_of_mem this
  have hs := SE_of a (a.fw f k) f hp hf hm
  refine ⟨hs, ?_⟩
  obtain ⟨_, _, _, _, _, e2⟩ := SE_parts a (a.fw f k) f hs
  obtain ⟨hs', _⟩ := focus_meets a f h
  obtain ⟨_, _, hmm, _, _, e2'⟩ := SE_parts a (a.fd f) f hs'
  have hsd := focus_sd a f h
  have hsm : a.sm (a.fd f) = a.n := by unfold La.sm; rw [hsd]; simp
  rw [hsm] at e2' hmm
  have key : ∀ j, j < a.sm (a.fw f k) → ∃ i, i < a.n ∧ sdX a f (a.fw f k) j = sdX a f (a.fd f) i ∧ sdY a f (a.fw f k) j = sdY a f (a.fd f) i := by
    intro j hj
    obtain ⟨i, _, hi, ht, q⟩ := sdF_get (a.fw f k).t a.n j hj
    have g1 : (sdL (a.fw f k).t a.n).getD j 0 = i := by rw [List.getD_eq_getElem?_getD, q]; rfl
    have g2 : (sdL (a.fd f).t a.n).getD i 0 = i := by rw [hsd]; simp [hi]
    have e : (a.fw f k).t i = a.dl f i := by
      have := fw_t a f k i
      by_cases r : i = k
      · rw [if_pos r] at this; exact absurd this ht
      · rw [if_neg r] at this; exact this
    refine ⟨i, hi, ?_, ?_⟩
    · unfold sdX arL; rw [g1, g2, e]; rfl
    · unfold sdY arH; rw [g1, g2, e]; rfl
  obtain ⟨j1, h1, q1⟩ := mxL_mem (sdY a f (a.fw f k)) _ hm
  obtain ⟨j3, h3, q3⟩ := mnL_mem (sdX a f (a.fw f k)) _ hm
  obtain ⟨i1, u1, _, v1⟩ := key j1 h1
  obtain ⟨i3, u3, v3, _⟩ := key j3 h3
  have m1 := mxL_le (sdY a f (a.fd f)) a.n i1 u1
  have m3 := mnL_le (sdX a f (a.fd f)) a.n i3 u3
  rw [e2, e2']
  omega
end Go.Proofs.YtnhbmmpjifliaaaGreatDoor
