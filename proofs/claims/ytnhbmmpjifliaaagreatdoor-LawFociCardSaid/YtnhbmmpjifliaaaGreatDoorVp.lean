/- LawFoci: the walk -/
import Derived.Test.YtnhbmmpjifliaaaGreatDoorVo
import Derived.Test.YtnhbmmpjifliaaaGreatDoorU2
namespace Go.Proofs.YtnhbmmpjifliaaaGreatDoor
open Go.RowKit Go.Shelf RayM
set_option linter.unusedSimpArgs false
set_option linter.unusedVariables false

theorem cut2_ {A B : Prop} (h : A) (f : A → B) : B := f h
/-- what an opaque call leaves: what lay lies -/
def BelA (w w' : World) : Prop := Below w.heap.size w w'
theorem cellA {w w' : World} {a : Addr} {v : Value} (h : BelA w w') (hc : w.cell? a = some v) : w'.cell? a = some v := cell_later h hc
theorem frozenA {w w' : World} {a : Addr} {v : Value} (h : BelA w w') (hc : w.cell? a = some v) (hf : w.frozen? a = false) : w'.frozen? a = false := frozen_after h hc hf
theorem belowA {w0 w w' : World} (h : Below w0.heap.size w0 w) (hb : BelA w w') : Below w0.heap.size w0 w' := below_then h hb
theorem SpAt.laterA {A : Option Addr} {n : Nat} {p : Nat → Sp} {w w' : World} (hb : BelA w w') (r : SpAt A n p w) : SpAt A n p w' := r.later hb
theorem InAt.laterA {A : Option Addr} {n : Nat} {p : Nat → Int} {w w' : World} (hb : BelA w w') (r : InAt A n p w) : InAt A n p w' := r.later hb
theorem SpAt.alloc {A : Option Addr} {n : Nat} {p : Nat → Sp} {w : World} (r : SpAt A n p w) (o : Obj) : SpAt A n p (w.alloc o) := r.later ((Below.refl _ _).alloc (Nat.le_refl _) _)
theorem InAt.alloc {A : Option Addr} {n : Nat} {p : Nat → Int} {w : World} (r : InAt A n p w) (o : Obj) : InAt A n p (w.alloc o) := r.later ((Below.refl _ _).alloc (Nat.le_refl _) _)
theorem SpAt.drew {A : Option Addr} {n : Nat} {p : Nat → Sp} {w : World} (r : SpAt A n p w) : SpAt A n p w.drew := r
theorem InAt.drew {A : Option Addr} {n : Nat} {p : Nat → Int} {w : World} (r : InAt A n p w) : InAt A n p w.drew := r
theorem cell_drewA {w : World} {a : Addr} {v : Value} (h : w.cell? a = some v) : w.drew.cell? a = some v := h
theorem frozen_drewA {w : World} {a : Addr} (h : w.frozen? a = false) : w.drew.frozen? a = false := h
theorem cell_set_old {w wk : World} {a : Addr} {v u x : Value} {i : Nat} (h : w.cell? a = some v) (hk : wk.cell? a = some u) : (w.setCell ⟨wk.heap.size, i, none⟩ x).cell? a = some v := by
  have := World.block_lt_of_cell? _ _ hk
  rw [World.cell?_setCell_other w _ a x (fun e => by rw [← e] at this; exact Nat.lt_irrefl _ this)]; exact h
theorem below_set_old {w0 w wk : World} {x : Value} {i : Nat} (h : Below w0.heap.size w0 w) (hk : Below w0.heap.size w0 wk) : Below w0.heap.size w0 (w.setCell ⟨wk.heap.size, i, none⟩ x) := Below.setCell h hk.size _
set_option maxRecDepth 100000 in
set_option maxHeartbeats 1000000 in
theorem few_any (n : Int) (w : World) :
    Calls Tryz.prog 25 #[.int .i64 n] w fun e w' => e = .returned (.bool (decide (n ≤ 18))) ∧ w = w' := by
  go_enter Tryz.func25, Tryz.ntmps25
  go_wp2
  go_ret
  exact ⟨rfl, rfl⟩
set_option maxRecDepth 100000 in
set_option maxHeartbeats 1000000 in
theorem same_eq (ck : Int) (n : Nat) (A : Option Addr) (c : Nat) (B : Option Addr) (d : Nat) (l m : Nat → Int) (w : World) (hn : n ≤ 1000) (he : ∀ i, i < n → l i = m i) (h : InAt A n l w) (k : InAt B n m w) :
    Calls Tryz.prog 31 #[.agg #[.int .i64 ck, .slice A n c], .agg #[.int .i64 ck, .slice B n d]] w fun e w' => e = .returned (.bool true) ∧ Below w.heap.size w w' := by
  have HA := Lib.hid h; have HB := Lib.hid k
  clear h k
  have HI : Hid (∀ w, InAt A n l w → InAt B n m w → Calls Tryz.prog 77 #[.slice A n c, .slice B n d] w fun e w' => e = .returned (.bool true) ∧ Below w.heap.size w w') := Lib.hid (fun w h k => by have := ints_any A n c l B n d m w hn (by omega) h k; rw [(eqB_iff l n m n).2 ⟨rfl, he⟩] at this; exact this)
  go_enter Tryz.func31, Tryz.ntmps31
  go_wp2_with (go_at_call 77; (with_reducible refine (HI.out _ (HA.out.later (by repeat (first | exact Below.refl _ _ | refine Below.alloc ?_ (by first | omega | (simp; done) | (simp; omega)) _))) (HB.out.later (by repeat (first | exact Below.refl _ _ | refine Below.alloc ?_ (by first | omega | (simp; done) | (simp; omega)) _)))).mono ?_); rintro e w1 ⟨rfl, hb1⟩; have H1 := Lib.hid (Below.trans (by repeat (first | exact Below.refl _ _ | refine Below.alloc ?_ (by first | omega | (simp; done) | (simp; omega)) _)) (hb1.mono (by simp; omega)) : Below w.heap.size w w1); clear hb1)
  go_ret
  exact ⟨rfl, H1.out⟩
/-- what a call left of a law: the law, or nothing -/
def Lw (ck : Int) (l : Nat → Int) (n : Nat) (E x : Int) (A : Option Addr) (m c : Nat) (W : World) : Prop :=
  x = (if E = 0 then ck else 0) ∧ (E = 0 → m = n ∧ InAt A n l W) ∧ (E ≠ 0 → m = 0)
theorem Lw.later {ck : Int} {l : Nat → Int} {n : Nat} {E x : Int} {A : Option Addr} {m c : Nat} {W W' : World} (r : Lw ck l n E x A m c W) (hb : Below W.heap.size W W') : Lw ck l n E x A m c W' := ⟨r.1, fun q => ⟨(r.2.1 q).1, (r.2.1 q).2.later hb⟩, r.2.2⟩
theorem Lw.alloc {ck : Int} {l : Nat → Int} {n : Nat} {E x : Int} {A : Option Addr} {m c : Nat} {W : World} (r : Lw ck l n E x A m c W) (o : Obj) : Lw ck l n E x A m c (W.alloc o) := r.later ((Below.refl _ _).alloc (Nat.le_refl _) _)
theorem Lw.drew {ck : Int} {l : Nat → Int} {n : Nat} {E x : Int} {A : Option Addr} {m c : Nat} {W : World} (r : Lw ck l n E x A m c W) : Lw ck l n E x A m c W.drew := r
theorem Lw.set {ck : Int} {l : Nat → Int} {n : Nat} {E x : Int} {A : Option Addr} {m c : Nat} {W : World} (r : Lw ck l n E x A m c W) (B i : Nat) (u : Value) (h : ∀ a, A = some a → a.block ≠ B) : Lw ck l n E x A m c (W.setCell ⟨B, i, none⟩ u) := ⟨r.1, fun q => ⟨(r.2.1 q).1, (r.2.1 q).2.set B i u h⟩, r.2.2⟩
theorem Lw.none (ck : Int) (l : Nat → Int) (n : Nat) (E : Int) (W : World) (h : E ≠ 0) : Lw ck l n E 0 none 0 0 W := ⟨by rw [if_neg h], fun q => absurd q h, fun _ => rfl⟩
theorem same_lw {ck : Int} {l : Nat → Int} {n : Nat} {E x x' : Int} {A A' : Option Addr} {m m' c c' : Nat} {W : World} (r : Lw ck l n E x A m c W) (r' : Lw ck l n E x' A' m' c' W) (hn : n ≤ 1000) :
    Calls Tryz.prog 31 #[.agg #[.int .i64 x, .slice A m c], .agg #[.int .i64 x', .slice A' m' c']] W fun e w' => e = .returned (.bool true) ∧ Below W.heap.size W w' := by
  obtain ⟨r1, r2, r3⟩ := r
  obtain ⟨s1, s2, s3⟩ := r'
  subst r1 s1
  by_cases q : E = 0
  · obtain ⟨rfl, i1⟩ := r2 q
    obtain ⟨rfl, i2⟩ := s2 q
    exact same_eq _ _ _ _ _ _ _ _ W hn (fun _ _ => rfl) i1 i2
  · have r4 := r3 q
    have s4 := s3 q
    subst r4
    subst s4
    exact same_eq _ 0 _ _ _ _ l l W (by omega) (fun i hi => absurd hi (Nat.not_lt_zero i)) (InAt.zero _ _ _) (InAt.zero _ _ _)
theorem upto_mv (f : Nat → Int) (n : Nat) : (upto f n).map (Value.int .i64) = mvs f n := by simp [upto, mvs]
theorem FLE_good (a : La) (f : Sp) (h : a.FLE f = 0) : a.FLC f = a.ck ∧ a.FLX f = upto (a.dl f) a.n ∧ 0 < a.n := by
  have hE : a.E = 0 := by
    unfold La.FLE at h
    by_cases q : a.E = 0
    · exact q
    · rw [if_neg q] at h; exact h
  have hF : a.FE f = 0 := by unfold La.FLE at h; rw [if_pos hE] at h; exact h
  have hf : a.fe f = 0 := by
    unfold La.FE at hF
    by_cases q : a.fe f = 0
    · exact q
    · rw [if_neg q] at hF; exact hF
  have hl : loE (a.dl f) a.n = 0 := by unfold La.FE at hF; rw [if_pos hf] at hF; exact hF
  have hs : ¬ 1000000 < mxL (a.dl f) a.n := fun q => by unfold loE at hl; rw [if_pos q] at hl; omega
  refine ⟨?_, ?_, ((La.E_zero a).1 hE).1.1⟩
  · unfold La.FLC La.FC loC; rw [if_pos hE, if_pos hf, if_neg hs]
  · unfold La.FLX La.FX loX; rw [if_pos hE, if_pos hf, if_neg hs]
theorem FLE_bad (a : La) (f : Sp) (h : a.FLE f ≠ 0) : a.FLC f = 0 ∧ a.FLX f = [] := by
  unfold La.FLE La.FE at h
  unfold La.FLC La.FC La.FLX La.FX
  by_cases q : a.E = 0
  · rw [if_pos q] at h
    rw [if_pos q, if_pos q]
    by_cases r : a.fe f = 0
    · rw [if_pos r] at h
      rw [if_pos r, if_pos r]
      unfold loE at h
      unfold loC loX
      by_cases s : 1000000 < mxL (a.dl f) a.n
      · rw [if_pos s, if_pos s]; exact ⟨rfl, rfl⟩
      · rw [if_neg s] at h; exact absurd rfl h
    · rw [if_neg r, if_neg r]; exact ⟨rfl, rfl⟩
  · rw [if_neg q, if_neg q]; exact ⟨rfl, rfl⟩
theorem FLE_E (a : La) (f : Sp) (h : a.E ≠ 0) : a.FLE f = a.E := by unfold La.FLE; rw [if_neg h]
theorem FLE_fe (a : La) (f : Sp) (h : a.E = 0) (k : a.fe f ≠ 0) : a.FLE f = a.fe f := by unfold La.FLE La.FE; rw [if_pos h, if_neg k]
set_option maxRecDepth 100000 in
set_option maxHeartbeats 4000000 in
theorem foci_any (a : La) (f : Sp) (A : Option Addr) (c : Nat) (w : World) (hL : Laid w) (AWK : Hid (∀ w, Laid w → Calls Tryz.prog 11 #[] w fun e w' => e = .returned (.bool true) ∧ Below w.heap.size w w')) (hA : A = none → a.n = 0 ∧ c = 0) (h : SpAt A a.n a.p w) :
    Calls Tryz.prog 10 #[.agg #[.slice A a.n c, .int .i64 a.m.wd, .int .i64 a.m.mt, .int .i64 a.m.sk, .int .i64 a.m.th, .int .i64 a.ck], .agg #[.int .i64 f.x, .int .i64 f.z]] w fun e w' => e = .returned (.bool true) ∧ Below w.heap.size w w' := by
  have HX := Lib.hid h; clear h
  have LH := Lib.hid hL; clear hL
  by_cases h1 : a.n ≤ 18
  · have FA : Hid (decide ((a.n : Int) ≤ 18) = true) := Lib.hid (by simp; omega)
    have HCA : Hid (∀ w', SpAt A a.n a.p w' → Calls Tryz.prog 27 #[.agg #[.slice A a.n c, .int .i64 a.m.wd, .int .i64 a.m.mt, .int .i64 a.m.sk, .int .i64 a.m.th, .int .i64 a.ck]] w' fun e w'' => ∃ A1 c1, e = .returned (.agg #[.slice A1 a.n c1, .int .i64 a.m.wd, .int .i64 a.m.mt, .int .i64 a.m.sk, .int .i64 a.m.th, .int .i64 a.ck]) ∧ SpAt A1 a.n a.p w'' ∧ Below w'.heap.size w' w'') := Lib.hid (fun w' h => (copyArray_any a A c w' (by omega) hA h).mono (fun e w'' ⟨v, e1, ho, hb⟩ => by
      obtain ⟨A1, c1, rfl, _, hs⟩ := own_spots ho
      exact ⟨A1, c1, e1, hs, hb⟩))
    have HFO : Hid (∀ A1 c1 w', SpAt A1 a.n a.p w' → Calls Tryz.prog 32 #[.agg #[.slice A1 a.n c1, .int .i64 a.m.wd, .int .i64 a.m.mt, .int .i64 a.m.sk, .int .i64 a.m.th, .int .i64 a.ck], .agg #[.int .i64 f.x, .int .i64 f.z]] w' fun e_ w'' => ∃ (x : Int) (A3 : Option Addr) (m3 c3 : Nat), e_ = .returned (.tuple #[.agg #[.int .i64 x, .slice A3 m3 c3], .int .i64 (a.FLE f)]) ∧ Lw a.ck (a.dl f) a.n (a.FLE f) x A3 m3 c3 w'' ∧ (∀ a, A3 = some a → w'.heap.size ≤ a.block) ∧ (∀ a, A3 = some a → a.block < w''.heap.size) ∧ Below w'.heap.size w' w'') := Lib.hid (fun A1 c1 w' h => (focus_any a f A1 c1 w' h (by omega)).mono (fun e_ w'' ⟨v, e1, ho, hb⟩ => by
      obtain ⟨A5, c5, rfl, hr⟩ := own_form ho
      refine ⟨a.FLC f, A5, _, c5, e1, ⟨?_, fun q => ?_, fun q => by rw [(FLE_bad a f q).2]; rfl⟩, fun a5 q => ?_, fun a5 q => ?_, hb⟩
      · by_cases q : a.FLE f = 0
        · rw [if_pos q]; exact (FLE_good a f q).1
        · rw [if_neg q]; exact (FLE_bad a f q).1
      · obtain ⟨_, q4, n0⟩ := FLE_good a f q
        rw [q4] at ho ⊢
        have lu : (upto (a.dl f) a.n).length = a.n := by simp [upto]
        rw [upto_mv, lu] at ho
        obtain ⟨g, c', e3, _, _, hR⟩ := own_row ho n0
        simp at e3
        refine ⟨lu, ?_⟩
        rw [e3.1]; exact hR.at
      · rcases ho.2 with ⟨k, _⟩ | ⟨g, cap, cur, k, hb', hgb, _⟩
        · simp at k; rw [k.1] at q; cases q
        · simp at k; rw [k.1] at q; cases q; exact hb'
      · rcases ho.2 with ⟨k, _⟩ | ⟨g, cap, cur, k, hb', hgb, _⟩
        · simp at k; rw [k.1] at q; cases q
        · simp at k; rw [k.1] at q; cases q; exact (Array.getElem?_eq_some_iff.1 hgb).1))
    have HAE := Lib.hid (fun w h => wArrayErr_any a A c w h (by omega))
    have HPE : Hid (a.E = 0 → ∀ w', Calls Tryz.prog 46 #[.agg #[.slice A a.n c, .int .i64 a.m.wd, .int .i64 a.m.mt, .int .i64 a.m.sk, .int .i64 a.m.th, .int .i64 a.ck], .agg #[.int .i64 f.x, .int .i64 f.z]] w' fun e_ w'' => e_ = .returned (.int .i64 (a.fe f)) ∧ Below w'.heap.size w' w'') := Lib.hid (fun q w' => by
      have := rPlace_any a f A c w' ((La.E_zero a).1 q).2.2.1
      rwa [← fe_place a f q] at this)
    have HRF : Hid (a.E = 0 → a.fe f = 0 → ∀ w', SpAt A a.n a.p w' → Calls Tryz.prog 51 #[.agg #[.slice A a.n c, .int .i64 a.m.wd, .int .i64 a.m.mt, .int .i64 a.m.sk, .int .i64 a.m.th, .int .i64 a.ck], .agg #[.int .i64 f.x, .int .i64 f.z]] w' fun e_ w'' => ∃ (x : Int) (A3 : Option Addr) (m3 c3 : Nat), e_ = .returned (.tuple #[.agg #[.int .i64 x, .slice A3 m3 c3], .int .i64 (a.FLE f)]) ∧ Lw a.ck (a.dl f) a.n (a.FLE f) x A3 m3 c3 w'' ∧ (∀ a, A3 = some a → w'.heap.size ≤ a.block) ∧ (∀ a, A3 = some a → a.block < w''.heap.size) ∧ Below w'.heap.size w' w'') := Lib.hid (fun q r w' h => by
      obtain ⟨ad, rfl⟩ := h.some ((La.E_zero a).1 q).1.1
      exact (rFocus_any a f ad c w' q r h).mono (fun e_ w'' hh => by
        obtain ⟨A5, m5, c5, e1, hg, hbad, hB, hL, hb⟩ := hh
        exact ⟨_, A5, m5, c5, e1, ⟨rfl, hg, fun q => (hbad q).2.1⟩, hB, hL, hb⟩))
    have HSM : Hid (∀ x A3 m3 c3 x' A' m' c' w', Lw a.ck (a.dl f) a.n (a.FLE f) x A3 m3 c3 w' → Lw a.ck (a.dl f) a.n (a.FLE f) x' A' m' c' w' → Calls Tryz.prog 31 #[.agg #[.int .i64 x, .slice A3 m3 c3], .agg #[.int .i64 x', .slice A' m' c']] w' fun e w'' => e = .returned (.bool true) ∧ Below w'.heap.size w' w'') := Lib.hid (fun x A3 m3 c3 x' A' m' c' w' h k => same_lw h k (by omega))
    have PA : Hid (a.E ≠ 0 → a.FLE f = a.E) := Lib.hid (fun q => FLE_E a f q)
    have PF : Hid (a.E = 0 → a.fe f ≠ 0 → a.FLE f = a.fe f) := Lib.hid (fun q r => FLE_fe a f q r)
    generalize a.dl f = u at *
    generalize a.FLE f = E5 at *
    generalize a.fe f = ef at *
    generalize a.E = ea at *
    clear hA
    go_enter Tryz.func10, Tryz.ntmps10
    go_wp2_with fail
    refine (AWK.out _ (LH.out.later (by repeat (first | exact Below.refl _ _ | refine Below.drew ?_ | refine below_drewN ?_ _ | refine Below.setCell ?_ (by first | omega | (simp; done) | (simp; omega)) _ | refine Below.alloc ?_ (by first | omega | (simp; done) | (simp; omega)) _)))).mono ?_
    rintro e w1 ⟨rfl, hb1⟩
    have qw10 : w1.cell? ⟨w.heap.size, 0, none⟩ = some (.slice A a.n c) := cell_later hb1 (by simp [go_sem])
    have qw11 : w1.cell? ⟨w.heap.size, 1, none⟩ = some (.int .i64 a.m.wd) := cell_later hb1 (by simp [go_sem])
    have qw12 : w1.cell? ⟨w.heap.size, 2, none⟩ = some (.int .i64 a.m.mt) := cell_later hb1 (by simp [go_sem])
    have qw13 : w1.cell? ⟨w.heap.size, 3, none⟩ = some (.int .i64 a.m.sk) := cell_later hb1 (by simp [go_sem])
    have qw14 : w1.cell? ⟨w.heap.size, 4, none⟩ = some (.int .i64 a.m.th) := cell_later hb1 (by simp [go_sem])
    have qw15 : w1.cell? ⟨w.heap.size, 5, none⟩ = some (.int .i64 a.ck) := cell_later hb1 (by simp [go_sem])
    have qw16 : w1.cell? ⟨w.heap.size + 1, 0, none⟩ = some (.int .i64 f.x) := cell_later hb1 (by simp [go_sem])
    have qw17 : w1.cell? ⟨w.heap.size + 1, 1, none⟩ = some (.int .i64 f.z) := cell_later hb1 (by simp [go_sem])
    have zqw1_0 := World.block_lt_of_cell? _ _ qw10
    dsimp only at zqw1_0
    have zqw1_6 := World.block_lt_of_cell? _ _ qw16
    dsimp only at zqw1_6
    have H1 : Hid (Below w.heap.size w w1) := Lib.hid (below_after (by repeat (first | exact Below.refl _ _ | refine Below.drew ?_ | refine below_drewN ?_ _ | refine Below.setCell ?_ (by first | omega | (simp; done) | (simp; omega)) _ | refine Below.alloc ?_ (by first | omega | (simp; done) | (simp; omega)) _)) hb1 (by first | omega | (simp; done) | (simp; omega))); clear hb1
    have R1_0 := Lib.hid (HX.out.later H1.out)
    go_upto_region 5 with (go_at_call 25; (with_reducible refine (few_any _ _).mono ?_); (first | rw [FA.out]); rintro e w' ⟨rfl, rfl⟩)
    have hS : Below w1.heap.size w1 w1 := Below.refl _ _
    go_cut [5, 6] (fun s5 s6 wx => ∃ (Q : Nat) (x' : Int) (A3 : Option Addr) (m3 c3 : Nat), s5 = .pointer (some ⟨Q, 0, none⟩) ∧ s6 = .int .i64 E5 ∧ wx.cell? ⟨Q, 0, none⟩ = some (.int .i64 x') ∧ wx.cell? ⟨Q, 1, none⟩ = some (.slice A3 m3 c3) ∧ Lw a.ck u a.n E5 x' A3 m3 c3 wx ∧ Below w1.heap.size w1 wx)
    case first =>
      as_aux_lemma =>
        go_region_held3 (fun w' => w'.cell? ⟨w.heap.size, 0, none⟩ = some (.slice A a.n c) ∧ w'.cell? ⟨w.heap.size, 1, none⟩ = some (.int .i64 a.m.wd) ∧ w'.cell? ⟨w.heap.size, 2, none⟩ = some (.int .i64 a.m.mt) ∧ w'.cell? ⟨w.heap.size, 3, none⟩ = some (.int .i64 a.m.sk) ∧ w'.cell? ⟨w.heap.size, 4, none⟩ = some (.int .i64 a.m.th) ∧ w'.cell? ⟨w.heap.size, 5, none⟩ = some (.int .i64 a.ck) ∧ w'.cell? ⟨w.heap.size + 1, 0, none⟩ = some (.int .i64 f.x) ∧ w'.cell? ⟨w.heap.size + 1, 1, none⟩ = some (.int .i64 f.z) ∧ Below w1.heap.size w1 w') (((go_split_ands; (repeat' apply And.intro) <;> ((repeat (first | (with_reducible assumption) | (with_reducible exact Below.refl _ _) | (with_reducible refine cell_alloc_later ?_ _) | (with_reducible refine cell_drewA ?_) | (with_reducible refine cellA (by with_reducible assumption) ?_) | (with_reducible refine belowA ?_ (by with_reducible assumption)) | (with_reducible refine below_alloc_top ?_ _) | (with_reducible refine Below.drew ?_) | (with_reducible refine cell_set_old ?_ (by with_reducible assumption)) | (with_reducible refine below_set_old ?_ (by with_reducible assumption)) | (with_reducible refine Below.setCell ?_ (by first | omega | (simp; done) | (simp; omega)) _) | (simp [go_sem, World.cell?_alloc_past, *]; done))); done))))
          (first
            | (go_split_ands; go_at_call 27; (with_reducible refine (HCA.out _ (R1_0.out.later (by with_reducible assumption))).mono ?_); rintro e w' ⟨A1, c1, rfl, hs, hb⟩; have hbA : BelA _ w' := hb; obtain ⟨hc', hf'⟩ := bcell hb; have hz' := hb.size; (try simp at hz'); (first | (have tF' := Nat.lt_of_succ_le hz') | (have tF' := Nat.lt_of_lt_of_le tF' hz') | skip); clear hb)
            | (go_split_ands; go_at_call 32; (with_reducible refine (HFO.out _ _ _ (by repeat (first | (with_reducible assumption) | (with_reducible refine SpAt.laterA (by with_reducible assumption) ?_) | (with_reducible refine SpAt.alloc ?_ _) | (with_reducible refine SpAt.drew ?_)))).mono ?_); rintro e w' ⟨x3, A3, m3, c3, rfl, hg3, hB3, hL3, hb⟩; have hbA : BelA _ w' := hb; obtain ⟨hc', hf'⟩ := bcell hb; have hz' := hb.size; (try simp at hz'); (first | (have tF' := Nat.lt_of_succ_le hz') | (have tF' := Nat.lt_of_lt_of_le tF' hz') | skip); clear hb))
        all_goals
          go_split_ands
          go_wp2_with fail
          go_meet
          exact ⟨_, x3, A3, m3, c3, rfl, rfl, (by first | (with_reducible assumption) | (simp [go_sem, World.cell?_alloc_past, *]; done)), (by first | (with_reducible assumption) | (simp [go_sem, World.cell?_alloc_past, *]; done)), (by repeat (first | (with_reducible assumption) | (with_reducible refine Lw.alloc ?_ _) | (with_reducible refine Lw.drew ?_) | (refine Lw.set ?_ _ _ _ (fun a e => by have q1 := hB3 a e; have q2 := hL3 a e; (try simp at q1); omega)))), (by first | (with_reducible assumption) | (simp [go_sem, World.cell?_alloc_past, *]; done))⟩
    case rest =>
      obtain ⟨Q, x3, A3, m3, c3, rfl, rfl, q0, q1, lw3, bel⟩ := hcut
      clear hS
      obtain ⟨wA, hw_⟩ : ∃ q, q = wc := ⟨_, rfl⟩
      subst hw_
      have k2_0 := cell_later bel qw10
      have k2_1 := cell_later bel qw11
      have k2_2 := cell_later bel qw12
      have k2_3 := cell_later bel qw13
      have k2_4 := cell_later bel qw14
      have k2_5 := cell_later bel qw15
      have k2_6 := cell_later bel qw16
      have k2_7 := cell_later bel qw17
      have R2_0 := Lib.hid (R1_0.out.later bel)
      have B2 : Hid (Below w.heap.size w wA) := Lib.hid (below_then H1.out bel)
      clear qw10 qw11 qw12 qw13 qw14 qw15 qw16 qw17 R1_0 H1
      have z2_0 := World.block_lt_of_cell? _ _ k2_0
      (try dsimp only at z2_0)
      have z2_6 := World.block_lt_of_cell? _ _ k2_6
      (try dsimp only at z2_6)
      clear bel
      have L3 := Lib.hid lw3
      clear lw3
      go_wp2_with fail
      refine (HAE.out _ R2_0.out).mono ?_
      rintro e_ wB ⟨rfl, hb⟩
      have k3_0 := cell_later hb k2_0
      have k3_1 := cell_later hb k2_1
      have k3_2 := cell_later hb k2_2
      have k3_3 := cell_later hb k2_3
      have k3_4 := cell_later hb k2_4
      have k3_5 := cell_later hb k2_5
      have k3_6 := cell_later hb k2_6
      have k3_7 := cell_later hb k2_7
      have k3_8 := cell_later hb q0
      have k3_9 := cell_later hb q1
      have R3_0 := Lib.hid (R2_0.out.later hb)
      have R3_1 := Lib.hid (L3.out.later hb)
      have B3 : Hid (Below w.heap.size w wB) := Lib.hid (below_then B2.out hb)
      clear k2_0 k2_1 k2_2 k2_3 k2_4 k2_5 k2_6 k2_7 q0 q1 R2_0 L3 B2
      have z3_0 := World.block_lt_of_cell? _ _ k3_0
      (try dsimp only at z3_0)
      have z3_6 := World.block_lt_of_cell? _ _ k3_6
      (try dsimp only at z3_6)
      have z3_8 := World.block_lt_of_cell? _ _ k3_8
      (try dsimp only at z3_8)
      clear hb
      by_cases hE : ea = 0
      · have HRF' := Lib.hid (HRF.out hE)
        have HPE' := Lib.hid (HPE.out hE)
        have PF' := Lib.hid (PF.out hE)
        subst hE
        clear HRF HPE PA PF HFO
        go_wp2_with fail
        refine (HPE'.out _).mono ?_
        rintro e_ wC ⟨rfl, hb⟩
        have k4_0 := cell_later hb k3_0
        have k4_1 := cell_later hb k3_1
        have k4_2 := cell_later hb k3_2
        have k4_3 := cell_later hb k3_3
        have k4_4 := cell_later hb k3_4
        have k4_5 := cell_later hb k3_5
        have k4_6 := cell_later hb k3_6
        have k4_7 := cell_later hb k3_7
        have k4_8 := cell_later hb k3_8
        have k4_9 := cell_later hb k3_9
        have R4_0 := Lib.hid (R3_0.out.later hb)
        have R4_1 := Lib.hid (R3_1.out.later hb)
        have B4 : Hid (Below w.heap.size w wC) := Lib.hid (below_then B3.out hb)
        clear k3_0 k3_1 k3_2 k3_3 k3_4 k3_5 k3_6 k3_7 k3_8 k3_9 R3_0 R3_1 B3
        have z4_0 := World.block_lt_of_cell? _ _ k4_0
        (try dsimp only at z4_0)
        have z4_6 := World.block_lt_of_cell? _ _ k4_6
        (try dsimp only at z4_6)
        have z4_8 := World.block_lt_of_cell? _ _ k4_8
        (try dsimp only at z4_8)
        clear hb
        by_cases hG : ef = 0
        · have HRG := Lib.hid (HRF'.out hG)
          subst hG
          clear HRF' HPE' PF'
          go_wp2_with fail
          obtain ⟨wZa, hz_⟩ : ∃ q, q = wC.alloc (.cells #[.int .i64 0, .slice none 0 0] 62) := ⟨_, rfl⟩
          rw [← hz_]
          have hb0 : Below wC.heap.size wC wZa := by rw [hz_]; exact (Below.refl _ _).alloc (Nat.le_refl _) _
          have y0 : wZa.cell? ⟨wC.heap.size, 0, none⟩ = some (.int .i64 0) := by rw [hz_]; simp [go_sem]
          have yf0 : wZa.frozen? ⟨wC.heap.size, 0, none⟩ = false := by rw [hz_]; simp [go_sem]
          have y1 : wZa.cell? ⟨wC.heap.size, 1, none⟩ = some (.slice none 0 0) := by rw [hz_]; simp [go_sem]
          have yf1 : wZa.frozen? ⟨wC.heap.size, 1, none⟩ = false := by rw [hz_]; simp [go_sem]
          have yz : wC.heap.size < wZa.heap.size := by rw [hz_]; simp
          clear hz_
          refine (HRG.out _ (R4_0.out.later hb0)).mono ?_
          rintro e_ wNa ⟨xl, Al, ml, cl, rfl, lw_, hB_, hL_, hb⟩
          have yn0 := cell_later hb y0
          have yg0 := frozen_after hb y0 yf0
          have yn1 := cell_later hb y1
          have yg1 := frozen_after hb y1 yf1
          have yz2 := hb.size
          go_upto_region 12 with fail
          obtain ⟨wF, hw_⟩ : ∃ q, q = (wNa.setCell ⟨wC.heap.size, 0, none⟩ (.int .i64 xl)).setCell ⟨wC.heap.size, 1, none⟩ (.slice Al ml cl) := ⟨_, rfl⟩
          rw [← hw_]
          have hM : Below wC.heap.size wC wF := by rw [hw_]; exact ((Below.trans hb0 (hb.mono (by omega))).setCell (Nat.le_refl _) _).setCell (Nat.le_refl _) _
          have pa0 : wF.cell? ⟨wC.heap.size, 0, none⟩ = some (.int .i64 xl) := by rw [hw_]; exact setO (.inr (by dsimp only; omega)) (setS yn0)
          have pa1 : wF.cell? ⟨wC.heap.size, 1, none⟩ = some (.slice Al ml cl) := by rw [hw_]; exact setS (setO (.inr (by dsimp only; omega)) yn1)
          have LL := Lib.hid (show Lw _ _ _ _ _ _ _ _ wF by rw [hw_]; exact ((lw_.set _ _ _ (fun a e => by have := hB_ a e; omega)).set _ _ _ (fun a e => by have := hB_ a e; omega)))
          clear y0 y1 yf0 yf1 yn0 yn1 yg0 yg1 hb hb0 lw_ hB_ hL_ hw_ yz yz2
          have k5_0 := cell_later hM k4_0
          have k5_1 := cell_later hM k4_1
          have k5_2 := cell_later hM k4_2
          have k5_3 := cell_later hM k4_3
          have k5_4 := cell_later hM k4_4
          have k5_5 := cell_later hM k4_5
          have k5_6 := cell_later hM k4_6
          have k5_7 := cell_later hM k4_7
          have k5_8 := cell_later hM k4_8
          have k5_9 := cell_later hM k4_9
          have R5_0 := Lib.hid (R4_0.out.later hM)
          have R5_1 := Lib.hid (R4_1.out.later hM)
          have B5 : Hid (Below w.heap.size w wF) := Lib.hid (below_then B4.out hM)
          clear k4_0 k4_1 k4_2 k4_3 k4_4 k4_5 k4_6 k4_7 k4_8 k4_9 R4_0 R4_1 B4
          have z5_0 := World.block_lt_of_cell? _ _ k5_0
          (try dsimp only at z5_0)
          have z5_6 := World.block_lt_of_cell? _ _ k5_6
          (try dsimp only at z5_6)
          have z5_8 := World.block_lt_of_cell? _ _ k5_8
          (try dsimp only at z5_8)
          clear hM
          go_wp2_with fail
          refine (HSM.out _ _ _ _ _ _ _ _ _ R5_1.out LL.out).mono ?_
          rintro e_ wG ⟨rfl, hb⟩
          have k6_0 := cell_later hb k5_0
          have k6_1 := cell_later hb k5_1
          have k6_2 := cell_later hb k5_2
          have k6_3 := cell_later hb k5_3
          have k6_4 := cell_later hb k5_4
          have k6_5 := cell_later hb k5_5
          have k6_6 := cell_later hb k5_6
          have k6_7 := cell_later hb k5_7
          have k6_8 := cell_later hb k5_8
          have k6_9 := cell_later hb k5_9
          have k6_10 := cell_later hb pa0
          have k6_11 := cell_later hb pa1
          have R6_0 := Lib.hid (R5_0.out.later hb)
          have R6_1 := Lib.hid (R5_1.out.later hb)
          have R6_2 := Lib.hid (LL.out.later hb)
          have B6 : Hid (Below w.heap.size w wG) := Lib.hid (below_then B5.out hb)
          clear k5_0 k5_1 k5_2 k5_3 k5_4 k5_5 k5_6 k5_7 k5_8 k5_9 pa0 pa1 R5_0 R5_1 LL B5
          have z6_0 := World.block_lt_of_cell? _ _ k6_0
          (try dsimp only at z6_0)
          have z6_6 := World.block_lt_of_cell? _ _ k6_6
          (try dsimp only at z6_6)
          have z6_8 := World.block_lt_of_cell? _ _ k6_8
          (try dsimp only at z6_8)
          have z6_10 := World.block_lt_of_cell? _ _ k6_10
          (try dsimp only at z6_10)
          clear hb
          go_wp2
          go_ret
          exact ⟨by simp, B6.out⟩
        · have e5 := (PF'.out hG).symm
          subst e5
          have hne := hG
          have n1 : (ef == 0) = false := by simpa using hG
          have n2 : (ef != 0) = true := by simpa using hG
          clear HRF' HPE' PF' hG
          go_wp2_with fail
          obtain ⟨wF, hw_⟩ : ∃ q, q = wC.alloc (.cells #[.int .i64 0, .slice none 0 0] 62) := ⟨_, rfl⟩
          rw [← hw_]
          have hb : Below wC.heap.size wC wF := by rw [hw_]; exact (Below.refl _ _).alloc (Nat.le_refl _) _
          have n5_0 : wF.cell? ⟨wC.heap.size, 0, none⟩ = some (.int .i64 0) := by rw [hw_]; simp [go_sem]
          have n5_1 : wF.cell? ⟨wC.heap.size, 1, none⟩ = some (.slice none 0 0) := by rw [hw_]; simp [go_sem]
          have k5_0 := cell_later hb k4_0
          have k5_1 := cell_later hb k4_1
          have k5_2 := cell_later hb k4_2
          have k5_3 := cell_later hb k4_3
          have k5_4 := cell_later hb k4_4
          have k5_5 := cell_later hb k4_5
          have k5_6 := cell_later hb k4_6
          have k5_7 := cell_later hb k4_7
          have k5_8 := cell_later hb k4_8
          have k5_9 := cell_later hb k4_9
          have R5_0 := Lib.hid (R4_0.out.later hb)
          have R5_1 := Lib.hid (R4_1.out.later hb)
          have B5 : Hid (Below w.heap.size w wF) := Lib.hid (below_then B4.out hb)
          clear k4_0 k4_1 k4_2 k4_3 k4_4 k4_5 k4_6 k4_7 k4_8 k4_9 R4_0 R4_1 B4
          have z5_0 := World.block_lt_of_cell? _ _ k5_0
          (try dsimp only at z5_0)
          have z5_6 := World.block_lt_of_cell? _ _ k5_6
          (try dsimp only at z5_6)
          have z5_8 := World.block_lt_of_cell? _ _ k5_8
          (try dsimp only at z5_8)
          have zn5 : wC.heap.size < wF.heap.size := by rw [hw_]; simp
          clear hb hw_
          have Lz := Lib.hid (Lw.none a.ck u a.n ef wF hne)
          refine (HSM.out _ _ _ _ _ _ _ _ _ R5_1.out Lz.out).mono ?_
          rintro e_ wG ⟨rfl, hb⟩
          have k6_0 := cell_later hb k5_0
          have k6_1 := cell_later hb k5_1
          have k6_2 := cell_later hb k5_2
          have k6_3 := cell_later hb k5_3
          have k6_4 := cell_later hb k5_4
          have k6_5 := cell_later hb k5_5
          have k6_6 := cell_later hb k5_6
          have k6_7 := cell_later hb k5_7
          have k6_8 := cell_later hb k5_8
          have k6_9 := cell_later hb k5_9
          have k6_10 := cell_later hb n5_0
          have k6_11 := cell_later hb n5_1
          have R6_0 := Lib.hid (R5_0.out.later hb)
          have R6_1 := Lib.hid (R5_1.out.later hb)
          have R6_2 := Lib.hid (Lz.out.later hb)
          have B6 : Hid (Below w.heap.size w wG) := Lib.hid (below_then B5.out hb)
          clear k5_0 k5_1 k5_2 k5_3 k5_4 k5_5 k5_6 k5_7 k5_8 k5_9 n5_0 n5_1 R5_0 R5_1 Lz B5
          have z6_0 := World.block_lt_of_cell? _ _ k6_0
          (try dsimp only at z6_0)
          have z6_6 := World.block_lt_of_cell? _ _ k6_6
          (try dsimp only at z6_6)
          have z6_8 := World.block_lt_of_cell? _ _ k6_8
          (try dsimp only at z6_8)
          have z6_10 := World.block_lt_of_cell? _ _ k6_10
          (try dsimp only at z6_10)
          clear hb
          go_wp2
          go_ret
          exact ⟨by simp, B6.out⟩
      · have e5 := (PA.out hE).symm
        subst e5
        have hne := hE
        have n1 : (ea == 0) = false := by simpa using hE
        have n2 : (ea != 0) = true := by simpa using hE
        clear HRF HPE PA PF HFO hE
        go_wp2_with fail
        obtain ⟨wF, hw_⟩ : ∃ q, q = wB.alloc (.cells #[.int .i64 0, .slice none 0 0] 62) := ⟨_, rfl⟩
        rw [← hw_]
        have hb : Below wB.heap.size wB wF := by rw [hw_]; exact (Below.refl _ _).alloc (Nat.le_refl _) _
        have n4_0 : wF.cell? ⟨wB.heap.size, 0, none⟩ = some (.int .i64 0) := by rw [hw_]; simp [go_sem]
        have n4_1 : wF.cell? ⟨wB.heap.size, 1, none⟩ = some (.slice none 0 0) := by rw [hw_]; simp [go_sem]
        have k4_0 := cell_later hb k3_0
        have k4_1 := cell_later hb k3_1
        have k4_2 := cell_later hb k3_2
        have k4_3 := cell_later hb k3_3
        have k4_4 := cell_later hb k3_4
        have k4_5 := cell_later hb k3_5
        have k4_6 := cell_later hb k3_6
        have k4_7 := cell_later hb k3_7
        have k4_8 := cell_later hb k3_8
        have k4_9 := cell_later hb k3_9
        have R4_0 := Lib.hid (R3_0.out.later hb)
        have R4_1 := Lib.hid (R3_1.out.later hb)
        have B4 : Hid (Below w.heap.size w wF) := Lib.hid (below_then B3.out hb)
        clear k3_0 k3_1 k3_2 k3_3 k3_4 k3_5 k3_6 k3_7 k3_8 k3_9 R3_0 R3_1 B3
        have z4_0 := World.block_lt_of_cell? _ _ k4_0
        (try dsimp only at z4_0)
        have z4_6 := World.block_lt_of_cell? _ _ k4_6
        (try dsimp only at z4_6)
        have z4_8 := World.block_lt_of_cell? _ _ k4_8
        (try dsimp only at z4_8)
        have zn4 : wB.heap.size < wF.heap.size := by rw [hw_]; simp
        clear hb hw_
        have Lz := Lib.hid (Lw.none a.ck u a.n ea wF hne)
        refine (HSM.out _ _ _ _ _ _ _ _ _ R4_1.out Lz.out).mono ?_
        rintro e_ wG ⟨rfl, hb⟩
        have k5_0 := cell_later hb k4_0
        have k5_1 := cell_later hb k4_1
        have k5_2 := cell_later hb k4_2
        have k5_3 := cell_later hb k4_3
        have k5_4 := cell_later hb k4_4
        have k5_5 := cell_later hb k4_5
        have k5_6 := cell_later hb k4_6
        have k5_7 := cell_later hb k4_7
        have k5_8 := cell_later hb k4_8
        have k5_9 := cell_later hb k4_9
        have k5_10 := cell_later hb n4_0
        have k5_11 := cell_later hb n4_1
        have R5_0 := Lib.hid (R4_0.out.later hb)
        have R5_1 := Lib.hid (R4_1.out.later hb)
        have R5_2 := Lib.hid (Lz.out.later hb)
        have B5 : Hid (Below w.heap.size w wG) := Lib.hid (below_then B4.out hb)
        clear k4_0 k4_1 k4_2 k4_3 k4_4 k4_5 k4_6 k4_7 k4_8 k4_9 n4_0 n4_1 R4_0 R4_1 Lz B4
        have z5_0 := World.block_lt_of_cell? _ _ k5_0
        (try dsimp only at z5_0)
        have z5_6 := World.block_lt_of_cell? _ _ k5_6
        (try dsimp only at z5_6)
        have z5_8 := World.block_lt_of_cell? _ _ k5_8
        (try dsimp only at z5_8)
        have z5_10 := World.block_lt_of_cell? _ _ k5_10
        (try dsimp only at z5_10)
        clear hb
        go_wp2
        go_ret
        exact ⟨by simp, B5.out⟩
  · have FA : Hid (decide ((a.n : Int) ≤ 18) = false) := Lib.hid (by simp; omega)
    clear h1 hA
    go_enter Tryz.func10, Tryz.ntmps10
    go_wp2_with fail
    refine (AWK.out _ (LH.out.later (by repeat (first | exact Below.refl _ _ | refine Below.drew ?_ | refine below_drewN ?_ _ | refine Below.setCell ?_ (by first | omega | (simp; done) | (simp; omega)) _ | refine Below.alloc ?_ (by first | omega | (simp; done) | (simp; omega)) _)))).mono ?_
    rintro e w1 ⟨rfl, hb1⟩
    have qw10 : w1.cell? ⟨w.heap.size, 0, none⟩ = some (.slice A a.n c) := cell_later hb1 (by simp [go_sem])
    have qw11 : w1.cell? ⟨w.heap.size, 1, none⟩ = some (.int .i64 a.m.wd) := cell_later hb1 (by simp [go_sem])
    have qw12 : w1.cell? ⟨w.heap.size, 2, none⟩ = some (.int .i64 a.m.mt) := cell_later hb1 (by simp [go_sem])
    have qw13 : w1.cell? ⟨w.heap.size, 3, none⟩ = some (.int .i64 a.m.sk) := cell_later hb1 (by simp [go_sem])
    have qw14 : w1.cell? ⟨w.heap.size, 4, none⟩ = some (.int .i64 a.m.th) := cell_later hb1 (by simp [go_sem])
    have qw15 : w1.cell? ⟨w.heap.size, 5, none⟩ = some (.int .i64 a.ck) := cell_later hb1 (by simp [go_sem])
    have qw16 : w1.cell? ⟨w.heap.size + 1, 0, none⟩ = some (.int .i64 f.x) := cell_later hb1 (by simp [go_sem])
    have qw17 : w1.cell? ⟨w.heap.size + 1, 1, none⟩ = some (.int .i64 f.z) := cell_later hb1 (by simp [go_sem])
    have zqw1_0 := World.block_lt_of_cell? _ _ qw10
    dsimp only at zqw1_0
    have zqw1_6 := World.block_lt_of_cell? _ _ qw16
    dsimp only at zqw1_6
    have H1 : Hid (Below w.heap.size w w1) := Lib.hid (below_after (by repeat (first | exact Below.refl _ _ | refine Below.drew ?_ | refine below_drewN ?_ _ | refine Below.setCell ?_ (by first | omega | (simp; done) | (simp; omega)) _ | refine Below.alloc ?_ (by first | omega | (simp; done) | (simp; omega)) _)) hb1 (by first | omega | (simp; done) | (simp; omega))); clear hb1
    go_wp2_with (go_at_call 25; (with_reducible refine (few_any _ _).mono ?_); (first | rw [FA.out]); rintro e w' ⟨rfl, rfl⟩)
    go_ret
    exact ⟨rfl, H1.out⟩
end Go.Proofs.YtnhbmmpjifliaaaGreatDoor
