/- mirrored laws: numbers -/
import Derived.Test.YtdicndakelgoeaaV16
import Derived.Test.YtdicndakelgoeaaD3
namespace Go.Proofs.Ytdicndakelgoeaa
open Go.RowKit Go.Shelf RayM
set_option linter.unusedSimpArgs false
set_option linter.unusedVariables false

def Sp.mir (p : Sp) : Sp := ⟨-p.x, p.z⟩
def La.mir (a : La) : La := ⟨fun i => (a.p i).mir, a.n, a.m, a.ck⟩
/-- the law of a focus -/
def La.fd (a : La) (f : Sp) : Dl := ⟨a.ck, a.dl f, a.n⟩
theorem inB_neg (x B : Int) : inB (-x) (-B) B = inB x (-B) B := by
  rw [Bool.eq_iff_iff, inB_iff, inB_iff]; omega
theorem placeE_neg (x z : Int) : placeE (-x) z = placeE x z := by unfold placeE; rw [inB_neg]
theorem mir_E (a : La) (h : a.E = 0) : a.mir.E = 0 := by
  obtain ⟨h1, h2, h3⟩ := (La.E_zero a).1 h
  refine (La.E_zero _).2 ⟨h1, fun i hi => ?_, h3⟩
  have := h2 i hi
  unfold elE at this ⊢
  show fst [placeE (-(a.p i).x) (a.p i).z, _] = 0
  rw [placeE_neg]; exact this
theorem mir_y (a : La) (f : Sp) (i : Nat) : (a.mir.y f.mir i).cr = (a.y f i).cr.mirror := rfl
theorem mir_e (a : La) (f : Sp) (i : Nat) (h : a.e f i = 0) : a.mir.e f.mir i = 0 := by
  unfold La.e at h ⊢
  unfold wyE waE at h ⊢
  show fst [moE a.m, fst [placeE (-(a.p i).x) (a.p i).z, placeE (-f.x) f.z, _, _]] = 0
  rw [placeE_neg, placeE_neg]; exact h
theorem mir_meets (a : La) (f : Sp) (i : Nat) (h : a.e f i = 0) : a.mir.lo f.mir i ≤ a.hi f i ∧ a.lo f i ≤ a.mir.hi f.mir i := by
  have m := mirror_meets (a.y f i).cr (cr_ok _ (wyE_zero_ok _ h))
  unfold La.lo La.hi
  rw [mir_y]
  omega
theorem sdL_all (t : Nat → Int) (n : Nat) (h : ∀ i, i < n → t i ≠ -1) : sdL t n = List.range n := by
  unfold sdL
  refine List.filter_eq_self.2 fun i hi => ?_
  have := h i (by simpa using hi)
  simpa using this
theorem FLE_parts (a : La) (f : Sp) (h : a.FLE f = 0) : a.E = 0 ∧ a.fe f = 0 ∧ a.FLC f = a.ck ∧ a.FLX f = upto (a.dl f) a.n ∧ (∀ i, i < a.n → 0 ≤ a.dl f i ∧ a.dl f i ≤ 1000000) ∧ (a.fd f).E = 0 := by
  have hE : a.E = 0 := by
    unfold La.FLE at h
    by_cases q : a.E = 0
    · exact q
    · rw [if_neg q] at h; exact h
  have hF : a.FE f = 0 := by unfold La.FLE at h; rw [if_pos hE] at h; exact h
  have hf : a.fe f = 0 := by
    unfold La.FE at hF
    by_cases q : a.fe f = 0
    · exact q
    · rw [if_neg q] at hF; exact hF
  have hl : loE (a.dl f) a.n = 0 := by unfold La.FE at hF; rw [if_pos hf] at hF; exact hF
  have hs : ¬ 1000000 < mxL (a.dl f) a.n := fun q => by unfold loE at hl; rw [if_pos q] at hl; omega
  obtain ⟨⟨n0, n1⟩, _, _, k0, k1⟩ := (La.E_zero a).1 hE
  have hb : ∀ i, i < a.n → 0 ≤ a.dl f i ∧ a.dl f i ≤ 1000000 := fun i hi => by
    have m := mxL_le (a.dl f) a.n i hi
    refine ⟨?_, by omega⟩
    have mn := mnL_le (a.mo f) a.n i hi
    show 0 ≤ (2 * (a.mo f i - mnL (a.mo f) a.n) + a.ck) / (2 * a.ck)
    exact Int.ediv_nonneg (by omega) (by omega)
  refine ⟨hE, hf, ?_, ?_, hb, ?_⟩
  · unfold La.FLC La.FC loC; rw [if_pos hE, if_pos hf, if_neg hs]
  · unfold La.FLX La.FX loX; rw [if_pos hE, if_pos hf, if_neg hs]
  · refine (Dl.E_zero _).2 ⟨⟨k0, k1⟩, ⟨n0, n1⟩, fun i hi => ?_⟩
    have := hb i hi
    show -1 ≤ a.dl f i ∧ a.dl f i ≤ 1000000
    omega
theorem FLX_bad (a : La) (f : Sp) (h : a.FLE f ≠ 0) : a.FLX f = [] := by
  unfold La.FLX
  by_cases q : a.E = 0
  · rw [if_pos q]
    unfold La.FX
    by_cases q2 : a.fe f = 0
    · rw [if_pos q2]
      unfold loX
      by_cases q3 : 1000000 < mxL (a.dl f) a.n
      · rw [if_pos q3]
      · exfalso; apply h; unfold La.FLE La.FE loE; rw [if_pos q, if_pos q2, if_neg q3]
    · rw [if_neg q2]
  · rw [if_neg q]
/-- a law of a focus, sent by some array of as many elements whose enclosures meet -/
theorem focus_spread (a b : La) (f g : Sp) (h : a.FLE f = 0) (hb : b.E = 0) (hn : b.n = a.n) (hg : b.fe g = 0) (hm : ∀ i, i < a.n → b.lo g i ≤ a.hi f i ∧ a.lo f i ≤ b.hi g i) :
    b.SE (a.fd f) g = 0 ∧ b.SHi (a.fd f) g ≤ a.ck + 2 * b.wd g a.n + a.wd f a.n ∧ -1000000000000000 ≤ b.SHi (a.fd f) g ∧ b.SHi (a.fd f) g ≤ 1000000000000000 := by
  obtain ⟨hE, hf, _, _, hd, hde⟩ := FLE_parts a f h
  obtain ⟨⟨n0, n1⟩, _, _, k0, k1⟩ := (La.E_zero a).1 hE
  obtain ⟨⟨l0, l1⟩, _, tb⟩ := (Dl.E_zero _).1 hde
  have hp : paE b (a.fd f) = 0 := (paE_zero _ _).2 ⟨hb, hde, hn⟩
  have hsd : sdL (a.fd f).t b.n = List.range a.n := by
    rw [hn]; exact sdL_all _ _ (fun i hi => by have := hd i hi; show a.dl f i ≠ -1; omega)
  have hsm : b.sm (a.fd f) = a.n := by unfold La.sm; rw [hsd]; simp
  have hs : b.SE (a.fd f) g = 0 := SE_of b _ g hp hg (by omega)
  obtain ⟨_, _, hmm, _, _, e2⟩ := SE_parts b (a.fd f) g hs
  rw [hsm] at e2 hmm
  have near : ∀ j, j < a.n → 2 * sdY b g (a.fd f) j ≤ 2 * (-(mnL (a.mo f) a.n)) + 2 * b.wd g a.n + a.wd f a.n + 1 + a.ck ∧ 2 * (-(mnL (a.mo f) a.n)) - 2 * b.wd g a.n - a.wd f a.n - a.ck + 1 ≤ 2 * sdX b g (a.fd f) j := by
    intro j hj
    have gj : (sdL (a.fd f).t b.n).getD j 0 = j := by rw [hsd]; simp [hj]
    have r := round_near (a.mo f j - mnL (a.mo f) a.n) a.ck (by omega)
    have ed : a.dl f j = (2 * (a.mo f j - mnL (a.mo f) a.n) + a.ck) / (2 * a.ck) := rfl
    rw [← ed] at r
    have em : a.mo f j = -((a.lo f j + a.hi f j) / 2) := rfl
    have w1 := wd_le a f a.n j hj
    have w2 := wd_le b g a.n j hj
    obtain ⟨m1, m2⟩ := hm j hj
    unfold sdX sdY arL arH
    rw [gj]
    show 2 * (b.hi g j + a.dl f j * a.ck) ≤ _ ∧ _ ≤ 2 * (b.lo g j + a.dl f j * a.ck)
    omega
  have hx := fun j (hj : j < a.n) => xy_bounds b (a.fd f) g hg l0 l1 (fun i hi => tb i (by show i < a.n; omega)) j (by rw [hsd]; simpa using hj)
  obtain ⟨j1, h1, q1⟩ := mxL_mem (sdY b g (a.fd f)) _ hmm
  obtain ⟨j3, h3, q3⟩ := mnL_mem (sdX b g (a.fd f)) _ hmm
  have x1 := near j1 h1; have x3 := near j3 h3
  have b1 := hx j1 h1; have b3 := hx j3 h3
  rw [e2]
  refine ⟨hs, ?_⟩
  omega
theorem fe_all (a : La) (f : Sp) : a.fe f = 0 ↔ ∀ i, i < a.n → a.e f i = 0 := ffE_zero _ _
theorem mirrored (a : La) (f : Sp) (h : a.FLE f = 0) : a.mir.SE (a.fd f) f.mir = 0 ∧ a.mir.SHi (a.fd f) f.mir ≤ a.ck + 2 * (a.wd f a.n + a.mir.wd f.mir a.n) ∧ -1000000000000000 ≤ a.mir.SHi (a.fd f) f.mir ∧ a.mir.SHi (a.fd f) f.mir ≤ 1000000000000000 ∧ (0 ≤ a.wd f a.n ∧ a.wd f a.n ≤ 100000000000000) ∧ (0 ≤ a.mir.wd f.mir a.n ∧ a.mir.wd f.mir a.n ≤ 100000000000000) ∧ 1 ≤ a.ck ∧ a.ck ≤ 1000000 := by
  obtain ⟨hE, hf, _⟩ := FLE_parts a f h
  obtain ⟨⟨n0, n1⟩, _, _, k0, k1⟩ := (La.E_zero a).1 hE
  have he := (fe_all a f).1 hf
  have he' : ∀ i, i < a.n → a.mir.e f.mir i = 0 := fun i hi => mir_e a f i (he i hi)
  have q := focus_spread a a.mir f f.mir h (mir_E a hE) rfl ((fe_all _ _).2 he') (fun i hi => mir_meets a f i (he i hi))
  have w1 := wd_bounds a f a.n he
  have w2 := wd_bounds a.mir f.mir a.n he'
  omega
end Go.Proofs.Ytdicndakelgoeaa
