/- maths of LawShifts -/
import Derived.Test.YtnhbmmpjifliaaaGreatDoorV15
import Derived.Test.YtnhbmmpjifliaaaGreatDoorVb
namespace Go.Proofs.YtnhbmmpjifliaaaGreatDoor
open Go.RowKit Go.Shelf RayM
set_option linter.unusedSimpArgs false
set_option linter.unusedVariables false
theorem mxL_shift (l m : Nat → Int) (c : Int) (n : Nat) (hn : 0 < n) (h : ∀ j, j < n → m j = l j + c) : mxL m n = mxL l n + c := by
  obtain ⟨i, hi, ei⟩ := mxL_mem m n hn
  obtain ⟨j, hj, ej⟩ := mxL_mem l n hn
  have a1 := mxL_le m n j hj
  have a2 := mxL_le l n i hi
  have a3 := h i hi; have a4 := h j hj
  omega
theorem mnL_shift (l m : Nat → Int) (c : Int) (n : Nat) (hn : 0 < n) (h : ∀ j, j < n → m j = l j + c) : mnL m n = mnL l n + c := by
  obtain ⟨i, hi, ei⟩ := mnL_mem m n hn
  obtain ⟨j, hj, ej⟩ := mnL_mem l n hn
  have a1 := mnL_le m n j hj
  have a2 := mnL_le l n i hi
  have a3 := h i hi; have a4 := h j hj
  omega
/-- delays that are all shifted alike have the same spread -/
theorem shift_spread (a : La) (d d' : Dl) (f : Sp) (s : Int) (hs : a.SE d f = 0) (hk : d'.ck = d.ck) (hn' : d'.n = d.n) (hE : d'.E = 0)
    (ht : ∀ i, i < d.n → (d.t i = -1 → d'.t i = -1) ∧ (d.t i ≠ -1 → d'.t i = d.t i + s ∧ d'.t i ≠ -1)) :
    a.SE d' f = 0 ∧ a.SLo d' f = a.SLo d f ∧ a.SHi d' f = a.SHi d f := by
  obtain ⟨hp, hf, hm, _, e1, e2⟩ := SE_parts a d f hs
  obtain ⟨ha, hd, hn⟩ := (paE_zero a d).1 hp
  have hsd : sdL d'.t a.n = sdL d.t a.n := sdL_congr _ _ _ fun i hi => by
    have := ht i (by omega)
    constructor
    · intro q; by_cases r : d.t i = -1
      · exact r
      · exact absurd q (this.2 r).2
    · exact this.1
  have hp' : paE a d' = 0 := (paE_zero _ _).2 ⟨ha, hE, by omega⟩
  have hsm : a.sm d' = a.sm d := by unfold La.sm; rw [hsd]
  have hs' : a.SE d' f = 0 := SE_of a _ f hp' hf (by rw [hsm]; exact hm)
  obtain ⟨_, _, _, _, e1', e2'⟩ := SE_parts a d' f hs'
  rw [hsm] at e1' e2'
  have key : ∀ j, j < a.sm d → sdX a f d' j = sdX a f d j + s * d.ck ∧ sdY a f d' j = sdY a f d j + s * d.ck := by
    intro j hj
    obtain ⟨i, _, hi, hti, q⟩ := sdF_get d.t a.n j hj
    have g1 : (sdL d.t a.n).getD j 0 = i := by rw [List.getD_eq_getElem?_getD, q]; rfl
    have g2 := (ht i (by omega)).2 hti
    unfold sdX sdY arL arH
    rw [hsd, g1, g2.1, hk, Int.add_mul]
    omega
  have x1 := mxL_shift _ _ _ _ hm (fun j hj => (key j hj).1)
  have x2 := mnL_shift _ _ _ _ hm (fun j hj => (key j hj).1)
  have y1 := mxL_shift _ _ _ _ hm (fun j hj => (key j hj).2)
  have y2 := mnL_shift _ _ _ _ hm (fun j hj => (key j hj).2)
  refine ⟨hs', ?_, ?_⟩ <;> omega
/-- the law of one shift for all, the sum with it, and a law less its least delay -/
def smD (d : Dl) (x : Int) : Dl := ⟨d.ck, fun _ => x, d.n⟩
def adD (d : Dl) (x : Int) : Dl := ⟨d.ck, chT d.t (adF d.t (fun _ => x)), d.n⟩
def noD (d : Dl) : Dl := ⟨d.ck, chT d.t (noF d), d.n⟩
theorem smD_E (d : Dl) (x : Int) (hd : d.E = 0) (x0 : 0 ≤ x) (x1 : x ≤ 100000) : (smD d x).E = 0 := by
  obtain ⟨k, n, _⟩ := (Dl.E_zero d).1 hd
  exact (Dl.E_zero _).2 ⟨k, n, fun i _ => by show -1 ≤ x ∧ x ≤ 1000000; omega⟩
theorem chE_two (t f : Nat → Int) (n : Nat) : chE t f n = 0 ∨ chE t f n = 8 := by
  unfold chE; by_cases q : chB t f n = true
  · rw [if_pos q]; exact .inr rfl
  · rw [if_neg q]; exact .inl rfl
theorem chE_le (t f : Nat → Int) (n : Nat) (h : chE t f n = 0) (i : Nat) (hi : i < n) (ht : t i ≠ -1) : f i ≤ 1000000 := by
  by_cases q : 1000000 < f i
  · unfold chE at h
    rw [if_pos ((chB_iff t f n).2 ⟨i, hi, ht, q⟩)] at h
    omega
  · omega
theorem sm_suE (d : Dl) (x : Int) (hd : d.E = 0) (x0 : 0 ≤ x) (x1 : x ≤ 100000) : suE d (smD d x) = 0 ∨ suE d (smD d x) = 8 := by
  have h1 : suE1 d (smD d x) = 0 := (suE1_zero _ _).2 ⟨hd, smD_E d x hd x0 x1, rfl, rfl⟩
  unfold suE; rw [if_pos h1]
  exact chE_two _ _ _
theorem adD_spread (a : La) (d : Dl) (f : Sp) (x : Int) (hs : a.SE d f = 0) (x0 : 0 ≤ x) (x1 : x ≤ 100000) (h : suE d (smD d x) = 0) :
    a.SE (adD d x) f = 0 ∧ a.SLo (adD d x) f = a.SLo d f ∧ a.SHi (adD d x) f = a.SHi d f := by
  have hd : d.E = 0 := ((paE_zero a d).1 (SE_parts a d f hs).1).2.1
  have h1 : suE1 d (smD d x) = 0 := (suE1_zero _ _).2 ⟨hd, smD_E d x hd x0 x1, rfl, rfl⟩
  have hc : chE d.t (adF d.t (fun _ => x)) d.n = 0 := by unfold suE at h; rw [if_pos h1] at h; exact h
  obtain ⟨k, n, tb⟩ := (Dl.E_zero d).1 hd
  have fx : ∀ i, adF d.t (fun _ => x) i = d.t i + x := fun i => by show (if x = -1 then _ else _) = _; rw [if_neg (by omega)]
  have key : ∀ i, i < d.n → (d.t i = -1 → (adD d x).t i = -1) ∧ (d.t i ≠ -1 → (adD d x).t i = d.t i + x ∧ (adD d x).t i ≠ -1) := by
    intro i hi
    have := tb i hi
    constructor
    · intro q; show chT _ _ i = _; unfold chT; rw [if_pos q, q]
    · intro q
      have e : (adD d x).t i = d.t i + x := by show chT _ _ i = _; unfold chT; rw [if_neg q, fx]
      exact ⟨e, by rw [e]; omega⟩
  refine shift_spread a d (adD d x) f x hs rfl rfl ?_ key
  refine (Dl.E_zero _).2 ⟨k, n, fun i hi => ?_⟩
  have hi' : i < d.n := hi
  by_cases q : d.t i = -1
  · rw [(key i hi').1 q]; omega
  · have e := ((key i hi').2 q).1
    have := chE_le _ _ _ hc i hi' q
    rw [fx] at this
    have := tb i hi'
    rw [e]; omega
theorem no_zero (a : La) (d : Dl) (f : Sp) (hs : a.SE d f = 0) : d.E = 0 ∧ noM d ≠ 0 ∧ noE d = 0 := by
  obtain ⟨hp, _, hm, _⟩ := SE_parts a d f hs
  obtain ⟨_, hd, hn⟩ := (paE_zero a d).1 hp
  have h2 : noM d ≠ 0 := by unfold La.sm at hm; unfold noM; rw [← hn]; omega
  exact ⟨hd, h2, by unfold noE; rw [if_pos hd, if_neg h2]⟩
theorem noD_t (d : Dl) (hd : d.E = 0) (hm : noM d ≠ 0) (i : Nat) (hi : i < d.n) : (d.t i = -1 → (noD d).t i = -1) ∧ (d.t i ≠ -1 → (noD d).t i = d.t i + -noL d ∧ (noD d).t i ≠ -1 ∧ 0 ≤ (noD d).t i ∧ (noD d).t i ≤ 1000000) := by
  constructor
  · intro q; show chT _ _ i = _; unfold chT; rw [if_pos q, q]
  · intro q
    have e : (noD d).t i = noF d i := by show chT _ _ i = _; unfold chT; rw [if_neg q]
    have b := noF_bounds d hd hm i hi q
    have e2 : noF d i = d.t i - noL d := rfl
    refine ⟨?_, ?_, ?_, ?_⟩ <;> omega
theorem noD_E (d : Dl) (hd : d.E = 0) (hm : noM d ≠ 0) : (noD d).E = 0 := by
  obtain ⟨k, n, tb⟩ := (Dl.E_zero d).1 hd
  refine (Dl.E_zero _).2 ⟨k, n, fun i hi => ?_⟩
  have hi' : i < d.n := hi
  by_cases q : d.t i = -1
  · rw [(noD_t d hd hm i hi').1 q]; omega
  · have := (noD_t d hd hm i hi').2 q; omega
theorem noD_spread (a : La) (d : Dl) (f : Sp) (hs : a.SE d f = 0) : a.SE (noD d) f = 0 ∧ a.SLo (noD d) f = a.SLo d f ∧ a.SHi (noD d) f = a.SHi d f := by
  obtain ⟨hd, hm, _⟩ := no_zero a d f hs
  exact shift_spread a d (noD d) f (-noL d) hs rfl rfl (noD_E d hd hm) (fun i hi => ⟨(noD_t d hd hm i hi).1, fun q => ⟨((noD_t d hd hm i hi).2 q).1, ((noD_t d hd hm i hi).2 q).2.1⟩⟩)
theorem noD_sd (d : Dl) (hd : d.E = 0) (hm : noM d ≠ 0) : sdL (noD d).t d.n = sdL d.t d.n := sdL_congr _ _ _ fun i hi => by
  have := noD_t d hd hm i hi
  constructor
  · intro q; by_cases r : d.t i = -1
    · exact r
    · exact absurd q (this.2 r).2.1
  · exact this.1
/-- less its least delay once more, a law stays -/
theorem noD_again (d : Dl) (hd : d.E = 0) (hm : noM d ≠ 0) : noE (noD d) = 0 ∧ ∀ i, i < d.n → (noD (noD d)).t i = (noD d).t i := by
  have hE := noD_E d hd hm
  have hsd := noD_sd d hd hm
  have hM : noM (noD d) = noM d := by unfold noM; show (sdL (noD d).t d.n).length = _; rw [hsd]
  have hL : noL (noD d) = 0 := by
    have key : ∀ j, j < noM d → noX (noD d) j = noX d j + -noL d := by
      intro j hj
      obtain ⟨i, _, hi, ht, q⟩ := sdF_get d.t d.n j hj
      have g1 : (sdL d.t d.n).getD j 0 = i := by rw [List.getD_eq_getElem?_getD, q]; rfl
      unfold noX
      show (noD d).t ((sdL (noD d).t d.n).getD j 0) = _
      rw [hsd, g1, ((noD_t d hd hm i hi).2 ht).1]
    have := mnL_shift (noX d) (noX (noD d)) (-noL d) (noM d) (by omega) key
    unfold noL; rw [hM, this]; unfold noL; omega
  refine ⟨by unfold noE; rw [if_pos hE, if_neg (by rw [hM]; exact hm)], fun i hi => ?_⟩
  show chT _ _ i = _
  unfold chT
  by_cases q : (noD d).t i = -1
  · rw [if_pos q]
  · rw [if_neg q]; show (noD d).t i - noL (noD d) = _; rw [hL]; omega
end Go.Proofs.YtnhbmmpjifliaaaGreatDoor
