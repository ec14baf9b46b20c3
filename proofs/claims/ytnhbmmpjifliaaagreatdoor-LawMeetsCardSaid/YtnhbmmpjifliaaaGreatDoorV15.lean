/- a coarser clock: numbers -/
import Derived.Test.YtnhbmmpjifliaaaGreatDoorV14
namespace Go.Proofs.YtnhbmmpjifliaaaGreatDoor
open Go.RowKit Go.Shelf RayM
set_option linter.unusedSimpArgs false
set_option linter.unusedVariables false

/-- the law with another clock -/
def rcD (d : Dl) (clock : Int) : Dl := ⟨clock, chT d.t (rcF d clock), d.n⟩
theorem round_near (x c : Int) (hc : 0 < c) : 2 * ((2 * x + c) / (2 * c) * c) ≤ 2 * x + c ∧ 2 * x - c < 2 * ((2 * x + c) / (2 * c) * c) := by
  have h1 := Int.mul_ediv_self_le (x := 2 * x + c) (k := 2 * c) (by omega)
  have h2 := Int.lt_mul_ediv_self_add (x := 2 * x + c) (k := 2 * c) (by omega)
  generalize (2 * x + c) / (2 * c) = q at *
  have e : 2 * c * q = 2 * (q * c) := by rw [Int.mul_assoc, Int.mul_comm c q]
  omega
theorem SE_parts (a : La) (d : Dl) (f : Sp) (h : a.SE d f = 0) : paE a d = 0 ∧ a.fe f = 0 ∧ 0 < a.sm d ∧ a.spE d f = 0 ∧ a.SLo d f = max (mxL (sdX a f d) (a.sm d) - mnL (sdY a f d) (a.sm d)) 0 ∧ a.SHi d f = mxL (sdY a f d) (a.sm d) - mnL (sdX a f d) (a.sm d) := by
  have hp : paE a d = 0 := by
    unfold La.SE at h
    by_cases q : paE a d = 0
    · exact q
    · rw [if_neg q] at h; exact h
  have hs : a.spE d f = 0 := by unfold La.SE at h; rw [if_pos hp] at h; exact h
  have hf : a.fe f = 0 := by
    unfold La.spE at hs
    by_cases q : a.fe f = 0
    · exact q
    · rw [if_neg q] at hs; exact hs
  have hm : 0 < a.sm d := by
    unfold La.spE at hs
    rw [if_pos hf] at hs
    by_cases q : a.sm d = 0
    · rw [if_pos q] at hs; omega
    · omega
  refine ⟨hp, hf, hm, hs, ?_, ?_⟩
  · unfold La.SLo La.spLo; rw [if_pos hp, if_pos hs]
  · unfold La.SHi La.spHi; rw [if_pos hp, if_pos hs]
theorem SE_of (a : La) (d : Dl) (f : Sp) (hp : paE a d = 0) (hf : a.fe f = 0) (hm : 0 < a.sm d) : a.SE d f = 0 := by
  unfold La.SE; rw [if_pos hp]
  unfold La.spE; rw [if_pos hf, if_neg (by omega)]
theorem sdL_congr (t u : Nat → Int) (n : Nat) (h : ∀ i, i < n → (t i = -1 ↔ u i = -1)) : sdL t n = sdL u n := by
  unfold sdL
  refine List.filter_congr fun i hi => ?_
  have := h i (by simpa using hi)
  by_cases q : t i = -1
  · have q2 := this.1 q; rw [show (t i != -1) = false by simp [q], show (u i != -1) = false by simp [q2]]
  · have q2 : u i ≠ -1 := fun k => q (this.2 k)
    rw [show (t i != -1) = true by simpa using q, show (u i != -1) = true by simpa using q2]
theorem rc_parts (d : Dl) (clock : Int) (h : rcE d clock = 0) : d.E = 0 ∧ (1 ≤ clock ∧ clock ≤ 1000000) ∧ (∀ i, i < d.n → d.t i ≠ -1 → 0 ≤ rcF d clock i ∧ rcF d clock i ≤ 1000000) := by
  have h1 : rcE1 d clock = 0 := by
    unfold rcE at h
    by_cases q : rcE1 d clock = 0
    · exact q
    · rw [if_neg q] at h; exact h
  obtain ⟨hd, c0, c1⟩ := (rcE1_zero d clock).1 h1
  obtain ⟨⟨k0, k1⟩, _, tb⟩ := (Dl.E_zero d).1 hd
  refine ⟨hd, ⟨c0, c1⟩, fun i hi ht => ?_⟩
  have hc : chE d.t (rcF d clock) d.n = 0 := by unfold rcE at h; rw [if_pos h1] at h; exact h
  constructor
  · have t0 : 0 ≤ d.t i := by have := (tb i hi).1; omega
    have m0 := Int.mul_nonneg t0 (show 0 ≤ d.ck by omega)
    exact Int.ediv_nonneg (by omega) (by omega)
  · unfold chE at hc
    have : ¬ 1000000 < rcF d clock i := fun q => by
      rw [if_pos ((chB_iff _ _ _).2 ⟨i, hi, ht, q⟩)] at hc
      omega
    omega
theorem rcD_ok (d : Dl) (clock : Int) (h : rcE d clock = 0) : (rcD d clock).E = 0 ∧ sdL (rcD d clock).t d.n = sdL d.t d.n := by
  obtain ⟨hd, ⟨c0, c1⟩, hf⟩ := rc_parts d clock h
  obtain ⟨_, ⟨n0, n1⟩, tb⟩ := (Dl.E_zero d).1 hd
  have key : ∀ i, (rcD d clock).t i = if d.t i = -1 then d.t i else rcF d clock i := fun i => rfl
  constructor
  · refine (Dl.E_zero _).2 ⟨⟨c0, c1⟩, ⟨n0, n1⟩, fun i hi => ?_⟩
    rw [key]
    by_cases q : d.t i = -1
    · rw [if_pos q]; omega
    · rw [if_neg q]; have := hf i hi q; omega
  · refine sdL_congr _ _ _ fun i hi => ?_
    rw [key]
    by_cases q : d.t i = -1
    · rw [if_pos q]
    · rw [if_neg q]; have := hf i hi q; omega
theorem recast_spread (a : La) (d : Dl) (clock : Int) (f : Sp) (hs : a.SE d f = 0) (hr : rcE d clock = 0) :
    a.SE (rcD d clock) f = 0 ∧ a.SHi (rcD d clock) f ≤ a.SHi d f + clock ∧ a.SHi d f ≤ a.SHi (rcD d clock) f + clock ∧ (-1000000000000000 ≤ a.SHi d f ∧ a.SHi d f ≤ 1000000000000000) ∧ -1000000000000000 ≤ a.SHi (rcD d clock) f ∧ a.SHi (rcD d clock) f ≤ 1000000000000000 ∧ 1 ≤ clock ∧ clock ≤ 1000000 := by
  obtain ⟨hp, hf, hm, _, _, e2⟩ := SE_parts a d f hs
  obtain ⟨ha, hd, hn⟩ := (paE_zero a d).1 hp
  obtain ⟨_, ⟨c0, c1⟩, hF⟩ := rc_parts d clock hr
  obtain ⟨hme, hsd⟩ := rcD_ok d clock hr
  obtain ⟨⟨k0, k1⟩, _, tb⟩ := (Dl.E_zero d).1 hd
  obtain ⟨⟨l0, l1⟩, _, tb'⟩ := (Dl.E_zero _).1 hme
  have hp' : paE a (rcD d clock) = 0 := (paE_zero _ _).2 ⟨ha, hme, hn⟩
  have hsm : a.sm (rcD d clock) = a.sm d := by unfold La.sm; rw [hn, hsd]
  have hs' : a.SE (rcD d clock) f = 0 := SE_of a _ f hp' hf (by rw [hsm]; exact hm)
  obtain ⟨_, _, _, _, _, e2'⟩ := SE_parts a (rcD d clock) f hs'
  rw [hsm] at e2'
  have near : ∀ j, j < a.sm d → 2 * sdX a f (rcD d clock) j ≤ 2 * sdX a f d j + clock ∧ 2 * sdX a f d j - clock < 2 * sdX a f (rcD d clock) j ∧ 2 * sdY a f (rcD d clock) j ≤ 2 * sdY a f d j + clock ∧ 2 * sdY a f d j - clock < 2 * sdY a f (rcD d clock) j := by
    intro j hj
    obtain ⟨i, _, hi, ht, q⟩ := sdF_get d.t a.n j hj
    have g1 : (sdL d.t a.n).getD j 0 = i := by rw [List.getD_eq_getElem?_getD, q]; rfl
    have g2 : (sdL (rcD d clock).t a.n).getD j 0 = i := by
      have : sdL (rcD d clock).t a.n = sdL d.t a.n := by rw [hn]; exact hsd
      rw [this]; exact g1
    have key : (rcD d clock).t i = rcF d clock i := by show (if d.t i = -1 then d.t i else rcF d clock i) = _; rw [if_neg ht]
    have r := round_near (d.t i * d.ck) clock (by omega)
    have er : rcF d clock i = (2 * (d.t i * d.ck) + clock) / (2 * clock) := rfl
    rw [← er] at r
    unfold sdX sdY arL arH
    rw [g1, g2, key]
    show 2 * (_ + rcF d clock i * clock) ≤ _ ∧ _ < 2 * (_ + rcF d clock i * clock) ∧ 2 * (_ + rcF d clock i * clock) ≤ _ ∧ _ < 2 * (_ + rcF d clock i * clock)
    omega
  have hx := fun j (hj : j < a.sm d) => xy_bounds a d f hf k0 k1 (fun i hi => tb i (by omega)) j hj
  have hx' := fun j (hj : j < a.sm d) => xy_bounds a (rcD d clock) f hf l0 l1 (fun i hi => tb' i (by show i < d.n; omega)) j (by show j < a.sm (rcD d clock); rw [hsm]; exact hj)
  obtain ⟨j1, h1, q1⟩ := mxL_mem (sdY a f d) _ hm
  obtain ⟨j2, h2, q2⟩ := mxL_mem (sdY a f (rcD d clock)) _ hm
  obtain ⟨j3, h3, q3⟩ := mnL_mem (sdX a f d) _ hm
  obtain ⟨j4, h4, q4⟩ := mnL_mem (sdX a f (rcD d clock)) _ hm
  have m1 := mxL_le (sdY a f (rcD d clock)) _ j1 h1
  have m2 := mxL_le (sdY a f d) _ j2 h2
  have m3 := mnL_le (sdX a f (rcD d clock)) _ j3 h3
  have m4 := mnL_le (sdX a f d) _ j4 h4
  have n1 := near j1 h1; have n2 := near j2 h2; have n3 := near j3 h3; have n4 := near j4 h4
  have b1 := hx j1 h1; have b3 := hx j3 h3
  have b2 := hx' j2 h2; have b4 := hx' j4 h4
  rw [e2, e2']
  refine ⟨hs', ?_⟩
  omega
end Go.Proofs.YtnhbmmpjifliaaaGreatDoor
