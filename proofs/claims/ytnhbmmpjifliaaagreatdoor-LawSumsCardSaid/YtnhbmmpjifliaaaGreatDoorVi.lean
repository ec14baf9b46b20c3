/- LawSums: the walk -/
import Derived.Test.YtnhbmmpjifliaaaGreatDoorVh
import Derived.Test.YtnhbmmpjifliaaaGreatDoorV9
import Derived.Test.YtnhbmmpjifliaaaGreatDoorU2
import Derived.Test.YtnhbmmpjifliaaaGreatDoorVx
namespace Go.Proofs.YtnhbmmpjifliaaaGreatDoor
open Go.RowKit Go.Shelf RayM
set_option linter.unusedSimpArgs false
set_option linter.unusedVariables false

theorem cut2_ {A B : Prop} (h : A) (f : A → B) : B := f h
/-- what an opaque call leaves: what lay lies -/
def BelA (w w' : World) : Prop := Below w.heap.size w w'
theorem cellA {w w' : World} {a : Addr} {v : Value} (h : BelA w w') (hc : w.cell? a = some v) : w'.cell? a = some v := cell_later h hc
theorem frozenA {w w' : World} {a : Addr} {v : Value} (h : BelA w w') (hc : w.cell? a = some v) (hf : w.frozen? a = false) : w'.frozen? a = false := frozen_after h hc hf
theorem belowA {w0 w w' : World} (h : Below w0.heap.size w0 w) (hb : BelA w w') : Below w0.heap.size w0 w' := below_then h hb
theorem SpAt.laterA {A : Option Addr} {n : Nat} {p : Nat → Sp} {w w' : World} (hb : BelA w w') (r : SpAt A n p w) : SpAt A n p w' := r.later hb
theorem InAt.laterA {A : Option Addr} {n : Nat} {p : Nat → Int} {w w' : World} (hb : BelA w w') (r : InAt A n p w) : InAt A n p w' := r.later hb
theorem SpAt.alloc {A : Option Addr} {n : Nat} {p : Nat → Sp} {w : World} (r : SpAt A n p w) (o : Obj) : SpAt A n p (w.alloc o) := r.later ((Below.refl _ _).alloc (Nat.le_refl _) _)
theorem InAt.alloc {A : Option Addr} {n : Nat} {p : Nat → Int} {w : World} (r : InAt A n p w) (o : Obj) : InAt A n p (w.alloc o) := r.later ((Below.refl _ _).alloc (Nat.le_refl _) _)
theorem SpAt.drew {A : Option Addr} {n : Nat} {p : Nat → Sp} {w : World} (r : SpAt A n p w) : SpAt A n p w.drew := r
theorem InAt.drew {A : Option Addr} {n : Nat} {p : Nat → Int} {w : World} (r : InAt A n p w) : InAt A n p w.drew := r
theorem cell_drewA {w : World} {a : Addr} {v : Value} (h : w.cell? a = some v) : w.drew.cell? a = some v := h
theorem frozen_drewA {w : World} {a : Addr} (h : w.frozen? a = false) : w.drew.frozen? a = false := h
theorem cell_set_old {w wk : World} {a : Addr} {v u x : Value} {i : Nat} (h : w.cell? a = some v) (hk : wk.cell? a = some u) : (w.setCell ⟨wk.heap.size, i, none⟩ x).cell? a = some v := by
  have := World.block_lt_of_cell? _ _ hk
  rw [World.cell?_setCell_other w _ a x (fun e => by rw [← e] at this; exact Nat.lt_irrefl _ this)]; exact h
theorem below_set_old {w0 w wk : World} {x : Value} {i : Nat} (h : Below w0.heap.size w0 w) (hk : Below w0.heap.size w0 wk) : Below w0.heap.size w0 (w.setCell ⟨wk.heap.size, i, none⟩ x) := Below.setCell h hk.size _
set_option maxRecDepth 100000 in
set_option maxHeartbeats 1000000 in
theorem same_eq (ck : Int) (n : Nat) (A : Option Addr) (c : Nat) (B : Option Addr) (d : Nat) (l m : Nat → Int) (w : World) (hn : n ≤ 1000) (he : ∀ i, i < n → l i = m i) (h : InAt A n l w) (k : InAt B n m w) :
    Calls Tryz.prog 31 #[.agg #[.int .i64 ck, .slice A n c], .agg #[.int .i64 ck, .slice B n d]] w fun e w' => e = .returned (.bool true) ∧ Below w.heap.size w w' := by
  have HA := Lib.hid h; have HB := Lib.hid k
  clear h k
  have HI : Hid (∀ w, InAt A n l w → InAt B n m w → Calls Tryz.prog 77 #[.slice A n c, .slice B n d] w fun e w' => e = .returned (.bool true) ∧ Below w.heap.size w w') := Lib.hid (fun w h k => by have := ints_any A n c l B n d m w hn (by omega) h k; rw [(eqB_iff l n m n).2 ⟨rfl, he⟩] at this; exact this)
  go_enter Tryz.func31, Tryz.ntmps31
  go_wp2_with (go_at_call 77; (with_reducible refine (HI.out _ (HA.out.later (by repeat (first | exact Below.refl _ _ | refine Below.alloc ?_ (by first | omega | (simp; done) | (simp; omega)) _))) (HB.out.later (by repeat (first | exact Below.refl _ _ | refine Below.alloc ?_ (by first | omega | (simp; done) | (simp; omega)) _)))).mono ?_); rintro e w1 ⟨rfl, hb1⟩; have H1 := Lib.hid (Below.trans (by repeat (first | exact Below.refl _ _ | refine Below.alloc ?_ (by first | omega | (simp; done) | (simp; omega)) _)) (hb1.mono (by simp; omega)) : Below w.heap.size w w1); clear hb1)
  go_ret
  exact ⟨rfl, H1.out⟩
/-- what a call left of a law: the law, or nothing -/
def Lw (ck : Int) (l : Nat → Int) (n : Nat) (E x : Int) (A : Option Addr) (m c : Nat) (W : World) : Prop :=
  x = (if E = 0 then ck else 0) ∧ (E = 0 → m = n ∧ InAt A n l W) ∧ (E ≠ 0 → A = none ∧ m = 0 ∧ c = 0)
theorem Lw.later {ck : Int} {l : Nat → Int} {n : Nat} {E x : Int} {A : Option Addr} {m c : Nat} {W W' : World} (r : Lw ck l n E x A m c W) (hb : Below W.heap.size W W') : Lw ck l n E x A m c W' := ⟨r.1, fun q => ⟨(r.2.1 q).1, (r.2.1 q).2.later hb⟩, r.2.2⟩
theorem Lw.alloc {ck : Int} {l : Nat → Int} {n : Nat} {E x : Int} {A : Option Addr} {m c : Nat} {W : World} (r : Lw ck l n E x A m c W) (o : Obj) : Lw ck l n E x A m c (W.alloc o) := r.later ((Below.refl _ _).alloc (Nat.le_refl _) _)
theorem Lw.drew {ck : Int} {l : Nat → Int} {n : Nat} {E x : Int} {A : Option Addr} {m c : Nat} {W : World} (r : Lw ck l n E x A m c W) : Lw ck l n E x A m c W.drew := r
theorem Lw.set {ck : Int} {l : Nat → Int} {n : Nat} {E x : Int} {A : Option Addr} {m c : Nat} {W : World} (r : Lw ck l n E x A m c W) (B i : Nat) (u : Value) (h : ∀ a, A = some a → a.block ≠ B) : Lw ck l n E x A m c (W.setCell ⟨B, i, none⟩ u) := ⟨r.1, fun q => ⟨(r.2.1 q).1, (r.2.1 q).2.set B i u h⟩, r.2.2⟩
theorem Lw.none (ck : Int) (l : Nat → Int) (n : Nat) (E : Int) (W : World) (h : E ≠ 0) : Lw ck l n E 0 none 0 0 W := ⟨by rw [if_neg h], fun q => absurd q h, fun _ => ⟨rfl, rfl, rfl⟩⟩
theorem ch_lw {ck : Int} {t f : Nat → Int} {n : Nat} {E : Int} {w : World} {e : Ending} {w' : World} (h : chPost ck t f n E w e w') (hn : E = 0 → 0 < n) :
    ∃ (x : Int) (A : Option Addr) (m c : Nat), e = .returned (.tuple #[.agg #[.int .i64 x, .slice A m c], .int .i64 E]) ∧ Lw ck (chT t f) n E x A m c w' ∧ (∀ a, A = some a → w.heap.size ≤ a.block) ∧ (∀ a, A = some a → a.block < w'.heap.size) ∧ Below w.heap.size w w' := by
  obtain ⟨A, m, c, e1, hg, hbad, hb⟩ := h
  refine ⟨_, A, m, c, e1, ⟨rfl, fun q => ⟨(hg q).1, (hg q).2.2.2⟩, hbad⟩, fun a ha => ?_, fun a ha => ?_, hb⟩
  · by_cases q : E = 0
    · exact (hg q).2.2.1 a ha
    · rw [(hbad q).1] at ha; cases ha
  · by_cases q : E = 0
    · obtain ⟨q1, q2, q3, q4⟩ := hg q
      subst ha
      have hh := World.block_lt_of_cell? _ _ (q4.at (hn q))
      have e0 : a.add 0 = a := by unfold Addr.add; rfl
      rwa [e0] at hh
    · rw [(hbad q).1] at ha; cases ha
theorem same_lw {ck : Int} {l l' : Nat → Int} {n : Nat} {E x x' : Int} {A A' : Option Addr} {m m' c c' : Nat} {W : World} (r : Lw ck l n E x A m c W) (r' : Lw ck l' n E x' A' m' c' W) (hl : E = 0 → ∀ i, i < n → l i = l' i) (hn : n ≤ 1000) :
    Calls Tryz.prog 31 #[.agg #[.int .i64 x, .slice A m c], .agg #[.int .i64 x', .slice A' m' c']] W fun e w' => e = .returned (.bool true) ∧ Below W.heap.size W w' := by
  obtain ⟨r1, r2, r3⟩ := r
  obtain ⟨s1, s2, s3⟩ := r'
  subst r1 s1
  by_cases q : E = 0
  · obtain ⟨rfl, i1⟩ := r2 q
    obtain ⟨rfl, i2⟩ := s2 q
    exact same_eq _ _ _ _ _ _ _ _ W hn (hl q) i1 i2
  · obtain ⟨rfl, rfl, rfl⟩ := r3 q
    obtain ⟨rfl, rfl, rfl⟩ := s3 q
    exact same_eq _ 0 _ _ _ _ l l' W (by omega) (fun i hi => absurd hi (Nat.not_lt_zero i)) (InAt.zero _ _ _) (InAt.zero _ _ _)
theorem suE_pos (d g : Dl) (h : suE d g = 0) : d.E = 0 ∧ g.E = 0 ∧ d.ck = g.ck ∧ d.n = g.n := by
  unfold suE at h
  by_cases q : suE1 d g = 0
  · exact (suE1_zero d g).1 q
  · rw [if_neg q] at h; exact absurd h q
theorem suE_d (d g : Dl) (h : d.E ≠ 0) : suE d g = d.E := by
  have e : suE1 d g = d.E := by unfold suE1; simp [fst, h]
  unfold suE; rw [e, if_neg h]
theorem suE_g (d g : Dl) (hd : d.E = 0) (h : g.E ≠ 0) : suE d g = g.E := by
  have e : suE1 d g = g.E := by unfold suE1; rw [hd]; simp [fst, h]
  unfold suE; rw [e, if_neg h]
theorem su_turn (d g : Dl) (h : suE d g = 0) : suE g d = 0 ∧ ∀ i, i < d.n → chT d.t (adF d.t g.t) i = chT g.t (adF g.t d.t) i := by
  obtain ⟨hd, hg, hk, hn⟩ := suE_pos d g h
  have e : ∀ i, chT d.t (adF d.t g.t) i = chT g.t (adF g.t d.t) i := fun i => by
    unfold chT adF
    by_cases q : d.t i = -1
    · by_cases r : g.t i = -1
      · rw [if_pos q, if_pos r, q, r]
      · rw [if_pos q, if_neg r, if_pos q, q]
    · by_cases r : g.t i = -1
      · rw [if_neg q, if_pos r, if_pos r, r]
      · rw [if_neg q, if_neg r, if_neg r, if_neg q]; omega
  refine ⟨?_, fun i _ => e i⟩
  rw [suE_eq d g hd hg hk hn] at h
  rw [suE_eq g d hg hd hk.symm hn.symm, ← hn, ← h]
  congr 1
  exact (funext e).symm
set_option maxRecDepth 100000 in
set_option maxHeartbeats 6000000 in
theorem sums_any (d g : Dl) (A : Option Addr) (c : Nat) (B : Option Addr) (e : Nat) (w : World) (hL : Laid w) (AWK : Hid (∀ w, Laid w → Calls Tryz.prog 11 #[] w fun e w' => e = .returned (.bool true) ∧ Below w.heap.size w w')) (hA : A = none → d.n = 0 ∧ c = 0) (hB : B = none → g.n = 0 ∧ e = 0) (h : InAt A d.n d.t w) (k : InAt B g.n g.t w) :
    Calls Tryz.prog 7 #[.agg #[.int .i64 d.ck, .slice A d.n c], .agg #[.int .i64 g.ck, .slice B g.n e]] w fun e w' => e = .returned (.bool true) ∧ Below w.heap.size w w' := by
  have HX := Lib.hid h; clear h
  have HT := Lib.hid k; clear k
  have LH := Lib.hid hL; clear hL
  by_cases h1 : d.n ≤ 18
  · have FA : Hid (decide ((d.n : Int) ≤ 18) = true) := Lib.hid (by simp; omega)
    by_cases h2 : g.n ≤ 18
    · have FD : Hid (decide ((g.n : Int) ≤ 18) = true) := Lib.hid (by simp; omega)
      have HCA : Hid (∀ w', InAt A d.n d.t w' → Calls Tryz.prog 28 #[.agg #[.int .i64 d.ck, .slice A d.n c]] w' fun e_ w'' => ∃ A1 c1, e_ = .returned (.agg #[.int .i64 d.ck, .slice A1 d.n c1]) ∧ InAt A1 d.n d.t w'' ∧ Below w'.heap.size w' w'') := Lib.hid (fun w' h => (copyLaw_any d A c w' (by omega) hA h).mono (fun e w'' ⟨v, e1, ho, hb⟩ => by
        obtain ⟨A1, c1, rfl, hz, hs⟩ := own_ints2 ho
        exact ⟨A1, c1, e1, hs, hb⟩))
      have HCB : Hid (∀ w', InAt B g.n g.t w' → Calls Tryz.prog 28 #[.agg #[.int .i64 g.ck, .slice B g.n e]] w' fun e_ w'' => ∃ A1 c1, e_ = .returned (.agg #[.int .i64 g.ck, .slice A1 g.n c1]) ∧ InAt A1 g.n g.t w'' ∧ Below w'.heap.size w' w'') := Lib.hid (fun w' h => (copyLaw_any g B e w' (by omega) hB h).mono (fun e w'' ⟨v, e1, ho, hb⟩ => by
        obtain ⟨A1, c1, rfl, hz, hs⟩ := own_ints2 ho
        exact ⟨A1, c1, e1, hs, hb⟩))
      have HAD : Hid (∀ A1 c1 B1 e1 w', InAt A1 d.n d.t w' → InAt B1 g.n g.t w' → Calls Tryz.prog 29 #[.agg #[.int .i64 d.ck, .slice A1 d.n c1], .agg #[.int .i64 g.ck, .slice B1 g.n e1]] w' fun e_ w'' => ∃ (x : Int) (A3 : Option Addr) (m3 c3 : Nat), e_ = .returned (.tuple #[.agg #[.int .i64 x, .slice A3 m3 c3], .int .i64 (suE d g)]) ∧ Lw d.ck (chT d.t (adF d.t g.t)) d.n (suE d g) x A3 m3 c3 w'' ∧ (∀ a, A3 = some a → w'.heap.size ≤ a.block) ∧ (∀ a, A3 = some a → a.block < w''.heap.size) ∧ Below w'.heap.size w' w'') := Lib.hid (fun A1 c1 B1 e1 w' h k => (added_any d g A1 c1 B1 e1 w' h k (by omega) (by omega)).mono (fun e_ w'' hh => ch_lw hh (fun q => ((Dl.E_zero d).1 (suE_pos d g q).1).2.1.1)))
      have HAE : Hid (suE d g = 0 → ∀ A1 c1 B1 e1 w', InAt A1 g.n g.t w' → InAt B1 d.n d.t w' → Calls Tryz.prog 29 #[.agg #[.int .i64 g.ck, .slice A1 g.n c1], .agg #[.int .i64 d.ck, .slice B1 d.n e1]] w' fun e_ w'' => ∃ (x : Int) (A3 : Option Addr) (m3 c3 : Nat), e_ = .returned (.tuple #[.agg #[.int .i64 x, .slice A3 m3 c3], .int .i64 0]) ∧ Lw d.ck (chT g.t (adF g.t d.t)) d.n 0 x A3 m3 c3 w'' ∧ (∀ a, A3 = some a → w'.heap.size ≤ a.block) ∧ (∀ a, A3 = some a → a.block < w''.heap.size) ∧ Below w'.heap.size w' w'') := Lib.hid (fun q0 A1 c1 B1 e1 w' h k => by
        obtain ⟨q1, q2⟩ := su_turn d g q0
        obtain ⟨hd, hg, hk, hn⟩ := suE_pos d g q0
        refine (added_any g d A1 c1 B1 e1 w' h k (by omega) (by omega)).mono (fun e_ w'' hh => ?_)
        rw [q1] at hh
        have := ch_lw hh (fun _ => ((Dl.E_zero g).1 hg).2.1.1)
        rw [← hk, ← hn] at this
        exact this)
      have HNO : Hid (∀ A1 c1 w', InAt A1 d.n d.t w' → Calls Tryz.prog 30 #[.agg #[.int .i64 d.ck, .slice A1 d.n c1]] w' fun e_ w'' => ∃ (x : Int) (A3 : Option Addr) (m3 c3 : Nat), e_ = .returned (.tuple #[.agg #[.int .i64 x, .slice A3 m3 c3], .int .i64 (noE d)]) ∧ Lw d.ck (chT d.t (noF d)) d.n (noE d) x A3 m3 c3 w'' ∧ (∀ a, A3 = some a → w'.heap.size ≤ a.block) ∧ (∀ a, A3 = some a → a.block < w''.heap.size) ∧ Below w'.heap.size w' w'') := Lib.hid (fun A1 c1 w' h => (normalised_any d A1 c1 w' h (by omega)).mono (fun e_ w'' hh => ch_lw hh (fun q => by
        unfold noE at q
        by_cases r : d.E = 0
        · exact ((Dl.E_zero d).1 r).2.1.1
        · rw [if_neg r] at q; exact absurd q r)))
      have HLA := Lib.hid (fun w h => wLawErr_any d A c w h (by omega))
      have HLB := Lib.hid (fun w h => wLawErr_any g B e w h (by omega))
      have HRN : Hid (d.E = 0 → ∀ w', InAt A d.n d.t w' → Calls Tryz.prog 37 #[.agg #[.int .i64 d.ck, .slice A d.n c]] w' fun e_ w'' => ∃ (x : Int) (A3 : Option Addr) (m3 c3 : Nat), e_ = .returned (.tuple #[.agg #[.int .i64 x, .slice A3 m3 c3], .int .i64 (noE d)]) ∧ Lw d.ck (chT d.t (noF d)) d.n (noE d) x A3 m3 c3 w'' ∧ (∀ a, A3 = some a → w'.heap.size ≤ a.block) ∧ (∀ a, A3 = some a → a.block < w''.heap.size) ∧ Below w'.heap.size w' w'') := Lib.hid (fun q w' h => by
        have n0 := ((Dl.E_zero d).1 q).2.1.1
        obtain ⟨ad, rfl⟩ := h.some n0
        exact (rNormalised_any d ad c w' q h).mono (fun e_ w'' hh => ch_lw hh (fun _ => n0)))
      have HRA : Hid (d.E = 0 → g.E = 0 → ∀ w', InAt A d.n d.t w' → InAt B g.n g.t w' → Calls Tryz.prog 38 #[.agg #[.int .i64 d.ck, .slice A d.n c], .agg #[.int .i64 g.ck, .slice B g.n e]] w' fun e_ w'' => ∃ (x : Int) (A3 : Option Addr) (m3 c3 : Nat), e_ = .returned (.tuple #[.agg #[.int .i64 x, .slice A3 m3 c3], .int .i64 (suE d g)]) ∧ Lw d.ck (chT d.t (adF d.t g.t)) d.n (suE d g) x A3 m3 c3 w'' ∧ (∀ a, A3 = some a → w'.heap.size ≤ a.block) ∧ (∀ a, A3 = some a → a.block < w''.heap.size) ∧ Below w'.heap.size w' w'') := Lib.hid (fun q r w' h k => by
        have n0 := ((Dl.E_zero d).1 q).2.1.1
        have n1 := ((Dl.E_zero g).1 r).2.1.1
        obtain ⟨ad, rfl⟩ := h.some n0
        obtain ⟨bd, rfl⟩ := k.some n1
        exact (rAdded_any d g ad c bd e w' q r h k).mono (fun e_ w'' hh => ch_lw hh (fun _ => n0)))
      have HSU : Hid (∀ x A3 m3 c3 x' A' m' c' w', Lw d.ck (chT d.t (adF d.t g.t)) d.n (suE d g) x A3 m3 c3 w' → Lw d.ck (chT d.t (adF d.t g.t)) d.n (suE d g) x' A' m' c' w' → Calls Tryz.prog 31 #[.agg #[.int .i64 x, .slice A3 m3 c3], .agg #[.int .i64 x', .slice A' m' c']] w' fun e w'' => e = .returned (.bool true) ∧ Below w'.heap.size w' w'') := Lib.hid (fun x A3 m3 c3 x' A' m' c' w' h k => same_lw h k (fun _ _ _ => rfl) (by omega))
      have HSN : Hid (∀ x A3 m3 c3 x' A' m' c' w', Lw d.ck (chT d.t (noF d)) d.n (noE d) x A3 m3 c3 w' → Lw d.ck (chT d.t (noF d)) d.n (noE d) x' A' m' c' w' → Calls Tryz.prog 31 #[.agg #[.int .i64 x, .slice A3 m3 c3], .agg #[.int .i64 x', .slice A' m' c']] w' fun e w'' => e = .returned (.bool true) ∧ Below w'.heap.size w' w'') := Lib.hid (fun x A3 m3 c3 x' A' m' c' w' h k => same_lw h k (fun _ _ _ => rfl) (by omega))
      have HST : Hid (suE d g = 0 → ∀ x A3 m3 c3 x' A' m' c' w', Lw d.ck (chT d.t (adF d.t g.t)) d.n 0 x A3 m3 c3 w' → Lw d.ck (chT g.t (adF g.t d.t)) d.n 0 x' A' m' c' w' → Calls Tryz.prog 31 #[.agg #[.int .i64 x, .slice A3 m3 c3], .agg #[.int .i64 x', .slice A' m' c']] w' fun e w'' => e = .returned (.bool true) ∧ Below w'.heap.size w' w'') := Lib.hid (fun q x A3 m3 c3 x' A' m' c' w' h k => same_lw h k (fun _ i hi => (su_turn d g q).2 i hi) (by omega))
      have PD : Hid (d.E ≠ 0 → suE d g = d.E) := Lib.hid (fun q => suE_d d g q)
      have PG : Hid (d.E = 0 → g.E ≠ 0 → suE d g = g.E) := Lib.hid (fun q r => suE_g d g q r)
      have PN : Hid (d.E ≠ 0 → noE d = d.E) := Lib.hid (fun q => by unfold noE; rw [if_neg q])
      generalize chT d.t (adF d.t g.t) = u at *
      generalize chT g.t (adF g.t d.t) = u2 at *
      generalize chT d.t (noF d) = v at *
      generalize suE d g = E5 at *
      generalize noE d = En at *
      generalize d.E = ed at *
      generalize g.E = eg at *
      clear hA hB
      go_enter Tryz.func7, Tryz.ntmps7
      go_wp2_with fail
      refine (AWK.out _ (LH.out.later (by repeat (first | exact Below.refl _ _ | refine Below.drew ?_ | refine below_drewN ?_ _ | refine Below.setCell ?_ (by first | omega | (simp; done) | (simp; omega)) _ | refine Below.alloc ?_ (by first | omega | (simp; done) | (simp; omega)) _)))).mono ?_
      rintro e w1 ⟨rfl, hb1⟩
      have qw10 : w1.cell? ⟨w.heap.size, 0, none⟩ = some (.int .i64 d.ck) := cell_later hb1 (by simp [go_sem])
      have qw11 : w1.cell? ⟨w.heap.size, 1, none⟩ = some (.slice A d.n c) := cell_later hb1 (by simp [go_sem])
      have qw12 : w1.cell? ⟨w.heap.size + 1, 0, none⟩ = some (.int .i64 g.ck) := cell_later hb1 (by simp [go_sem])
      have qw13 : w1.cell? ⟨w.heap.size + 1, 1, none⟩ = some (.slice B g.n e) := cell_later hb1 (by simp [go_sem])
      have zqw1_0 := World.block_lt_of_cell? _ _ qw10
      dsimp only at zqw1_0
      have zqw1_2 := World.block_lt_of_cell? _ _ qw12
      dsimp only at zqw1_2
      have H1 : Hid (Below w.heap.size w w1) := Lib.hid (below_after (by repeat (first | exact Below.refl _ _ | refine Below.drew ?_ | refine below_drewN ?_ _ | refine Below.setCell ?_ (by first | omega | (simp; done) | (simp; omega)) _ | refine Below.alloc ?_ (by first | omega | (simp; done) | (simp; omega)) _)) hb1 (by first | omega | (simp; done) | (simp; omega))); clear hb1
      have R1_0 := Lib.hid (HX.out.later H1.out)
      have R1_1 := Lib.hid (HT.out.later H1.out)
      go_upto_region 5 with (go_at_call 25; (with_reducible refine (few_any _ _).mono ?_); (first | rw [FA.out] | rw [FD.out]); rintro e w' ⟨rfl, rfl⟩)
      have hS : Below w1.heap.size w1 w1 := Below.refl _ _
      go_cut [5, 6] (fun s5 s6 wx => ∃ (Q : Nat) (x' : Int) (A3 : Option Addr) (m3 c3 : Nat), s5 = .pointer (some ⟨Q, 0, none⟩) ∧ s6 = .int .i64 E5 ∧ wx.cell? ⟨Q, 0, none⟩ = some (.int .i64 x') ∧ wx.cell? ⟨Q, 1, none⟩ = some (.slice A3 m3 c3) ∧ Lw d.ck u d.n E5 x' A3 m3 c3 wx ∧ Below w1.heap.size w1 wx)
      case first =>
        go_region_held3 (fun w' => w'.cell? ⟨w.heap.size, 0, none⟩ = some (.int .i64 d.ck) ∧ w'.cell? ⟨w.heap.size, 1, none⟩ = some (.slice A d.n c) ∧ w'.cell? ⟨w.heap.size + 1, 0, none⟩ = some (.int .i64 g.ck) ∧ w'.cell? ⟨w.heap.size + 1, 1, none⟩ = some (.slice B g.n e) ∧ Below w1.heap.size w1 w') (((go_split_ands; (repeat' apply And.intro) <;> ((repeat (first | (with_reducible assumption) | (with_reducible exact Below.refl _ _) | (with_reducible refine cell_alloc_later ?_ _) | (with_reducible refine cell_drewA ?_) | (with_reducible refine cellA (by with_reducible assumption) ?_) | (with_reducible refine belowA ?_ (by with_reducible assumption)) | (with_reducible refine below_alloc_top ?_ _) | (with_reducible refine Below.drew ?_) | (with_reducible refine cell_set_old ?_ (by with_reducible assumption)) | (with_reducible refine below_set_old ?_ (by with_reducible assumption)) | (with_reducible refine Below.setCell ?_ (by first | omega | (simp; done) | (simp; omega)) _) | (simp [go_sem, World.cell?_alloc_past, *]; done))); done))))
          (first
            | (go_split_ands; go_at_call 28; (with_reducible refine (HCA.out _ (R1_0.out.later (by with_reducible assumption))).mono ?_); rintro e w' ⟨A1, c1, rfl, hs, hb⟩; have hbA : BelA _ w' := hb; obtain ⟨hc', hf'⟩ := bcell hb; have hz' := hb.size; (try simp at hz'); (first | (have tF' := Nat.lt_of_succ_le hz') | (have tF' := Nat.lt_of_lt_of_le tF' hz') | skip); clear hb)
            | (go_split_ands; go_at_call 28; (with_reducible refine (HCB.out _ (R1_1.out.later (by with_reducible assumption))).mono ?_); rintro e w' ⟨A2, c2, rfl, hi, hb⟩; have hbA : BelA _ w' := hb; obtain ⟨hc', hf'⟩ := bcell hb; have hz' := hb.size; (try simp at hz'); (first | (have tF' := Nat.lt_of_succ_le hz') | (have tF' := Nat.lt_of_lt_of_le tF' hz') | skip); clear hb)
            | (go_split_ands; go_at_call 29; (with_reducible refine (HAD.out _ _ _ _ _ (by repeat (first | (with_reducible assumption) | (with_reducible refine InAt.laterA (by with_reducible assumption) ?_) | (with_reducible refine InAt.alloc ?_ _) | (with_reducible refine InAt.drew ?_))) (by repeat (first | (with_reducible assumption) | (with_reducible refine InAt.laterA (by with_reducible assumption) ?_) | (with_reducible refine InAt.alloc ?_ _) | (with_reducible refine InAt.drew ?_)))).mono ?_); rintro e w' ⟨x3, A3, m3, c3, rfl, hg3, hB3, hL3, hb⟩; have hbA : BelA _ w' := hb; obtain ⟨hc', hf'⟩ := bcell hb; have hz' := hb.size; (try simp at hz'); (first | (have tF' := Nat.lt_of_succ_le hz') | (have tF' := Nat.lt_of_lt_of_le tF' hz') | skip); clear hb))
        all_goals
          go_split_ands
          go_wp2_with fail
          go_meet
          exact ⟨_, x3, A3, m3, c3, rfl, rfl, (by first | (with_reducible assumption) | (simp [go_sem, World.cell?_alloc_past, *]; done)), (by first | (with_reducible assumption) | (simp [go_sem, World.cell?_alloc_past, *]; done)), (by repeat (first | (with_reducible assumption) | (with_reducible refine Lw.alloc ?_ _) | (with_reducible refine Lw.drew ?_) | (refine Lw.set ?_ _ _ _ (fun a e => by have q1 := hB3 a e; have q2 := hL3 a e; (try simp at q1); omega)))), (by first | (with_reducible assumption) | (simp [go_sem, World.cell?_alloc_past, *]; done))⟩
      case rest =>
        obtain ⟨Q, x3, A3, m3, c3, rfl, rfl, q0, q1, lw3, bel⟩ := hcut
        clear hS
        obtain ⟨wA, hw_⟩ : ∃ q, q = wc := ⟨_, rfl⟩
        subst hw_
        have k2_0 := cell_later bel qw10
        have k2_1 := cell_later bel qw11
        have k2_2 := cell_later bel qw12
        have k2_3 := cell_later bel qw13
        have R2_0 := Lib.hid (R1_0.out.later bel)
        have R2_1 := Lib.hid (R1_1.out.later bel)
        have B2 : Hid (Below w.heap.size w wA) := Lib.hid (below_then H1.out bel)
        clear qw10 qw11 qw12 qw13 R1_0 R1_1 H1
        have z2_0 := World.block_lt_of_cell? _ _ k2_0
        dsimp only at z2_0
        have z2_2 := World.block_lt_of_cell? _ _ k2_2
        dsimp only at z2_2
        clear bel
        have L3 := Lib.hid lw3
        clear lw3
        go_wp2_with fail
        refine (HCA.out _ R2_0.out).mono ?_
        rintro e_ wB ⟨A4, c4, rfl, i4, hb⟩
        have k3_0 := cell_later hb k2_0
        have k3_1 := cell_later hb k2_1
        have k3_2 := cell_later hb k2_2
        have k3_3 := cell_later hb k2_3
        have k3_4 := cell_later hb q0
        have k3_5 := cell_later hb q1
        have R3_0 := Lib.hid (R2_0.out.later hb)
        have R3_1 := Lib.hid (R2_1.out.later hb)
        have R3_2 := Lib.hid (L3.out.later hb)
        have B3 : Hid (Below w.heap.size w wB) := Lib.hid (below_then B2.out hb)
        clear k2_0 k2_1 k2_2 k2_3 q0 q1 R2_0 R2_1 L3 B2
        have z3_0 := World.block_lt_of_cell? _ _ k3_0
        dsimp only at z3_0
        have z3_2 := World.block_lt_of_cell? _ _ k3_2
        dsimp only at z3_2
        have z3_4 := World.block_lt_of_cell? _ _ k3_4
        dsimp only at z3_4
        clear hb
        go_wp2_with fail
        refine (HNO.out _ _ _ i4).mono ?_
        rintro e_ wC ⟨x5, A5, m5, c5, rfl, lw5, hB5, hL5, hb⟩
        have k4_0 := cell_later hb k3_0
        have k4_1 := cell_later hb k3_1
        have k4_2 := cell_later hb k3_2
        have k4_3 := cell_later hb k3_3
        have k4_4 := cell_later hb k3_4
        have k4_5 := cell_later hb k3_5
        have R4_0 := Lib.hid (R3_0.out.later hb)
        have R4_1 := Lib.hid (R3_1.out.later hb)
        have R4_2 := Lib.hid (R3_2.out.later hb)
        have B4 : Hid (Below w.heap.size w wC) := Lib.hid (below_then B3.out hb)
        clear k3_0 k3_1 k3_2 k3_3 k3_4 k3_5 R3_0 R3_1 R3_2 B3
        have z4_0 := World.block_lt_of_cell? _ _ k4_0
        dsimp only at z4_0
        have z4_2 := World.block_lt_of_cell? _ _ k4_2
        dsimp only at z4_2
        have z4_4 := World.block_lt_of_cell? _ _ k4_4
        dsimp only at z4_4
        clear hb
        have L5 := Lib.hid lw5
        clear i4 lw5 hB5 hL5
        go_upto_region 7 with fail
        obtain ⟨wD, hw_⟩ : ∃ q, q = wC.alloc (.cells #[.int .i64 x5, .slice A5 m5 c5] 62) := ⟨_, rfl⟩
        rw [← hw_]
        have hb : Below wC.heap.size wC wD := by rw [hw_]; exact (Below.refl _ _).alloc (Nat.le_refl _) _
        have n5_0 : wD.cell? ⟨wC.heap.size, 0, none⟩ = some (.int .i64 x5) := by rw [hw_]; simp [go_sem]
        have n5_1 : wD.cell? ⟨wC.heap.size, 1, none⟩ = some (.slice A5 m5 c5) := by rw [hw_]; simp [go_sem]
        have k5_0 := cell_later hb k4_0
        have k5_1 := cell_later hb k4_1
        have k5_2 := cell_later hb k4_2
        have k5_3 := cell_later hb k4_3
        have k5_4 := cell_later hb k4_4
        have k5_5 := cell_later hb k4_5
        have R5_0 := Lib.hid (R4_0.out.later hb)
        have R5_1 := Lib.hid (R4_1.out.later hb)
        have R5_2 := Lib.hid (R4_2.out.later hb)
        have R5_3 := Lib.hid (L5.out.later hb)
        have B5 : Hid (Below w.heap.size w wD) := Lib.hid (below_then B4.out hb)
        clear k4_0 k4_1 k4_2 k4_3 k4_4 k4_5 R4_0 R4_1 R4_2 L5 B4
        have z5_0 := World.block_lt_of_cell? _ _ k5_0
        dsimp only at z5_0
        have z5_2 := World.block_lt_of_cell? _ _ k5_2
        dsimp only at z5_2
        have z5_4 := World.block_lt_of_cell? _ _ k5_4
        dsimp only at z5_4
        have zn5 : wC.heap.size < wD.heap.size := by rw [hw_]; simp
        clear hb hw_
        have hS : Below wD.heap.size wD wD := Below.refl _ _
        go_cut [9, 10] (fun s9 s10 wx => s9 = .int .i64 ed ∧ s10 = .int .i64 eg ∧ Below wD.heap.size wD wx)
        case first =>
          go_region_held3 (fun w' => w'.cell? ⟨w.heap.size, 0, none⟩ = some (.int .i64 d.ck) ∧ w'.cell? ⟨w.heap.size, 1, none⟩ = some (.slice A d.n c) ∧ w'.cell? ⟨w.heap.size + 1, 0, none⟩ = some (.int .i64 g.ck) ∧ w'.cell? ⟨w.heap.size + 1, 1, none⟩ = some (.slice B g.n e) ∧ Below wD.heap.size wD w') (((go_split_ands; (repeat' apply And.intro) <;> ((repeat (first | (with_reducible assumption) | (with_reducible exact Below.refl _ _) | (with_reducible refine cell_alloc_later ?_ _) | (with_reducible refine cell_drewA ?_) | (with_reducible refine cellA (by with_reducible assumption) ?_) | (with_reducible refine belowA ?_ (by with_reducible assumption)) | (with_reducible refine below_alloc_top ?_ _) | (with_reducible refine Below.drew ?_) | (with_reducible refine cell_set_old ?_ (by with_reducible assumption)) | (with_reducible refine below_set_old ?_ (by with_reducible assumption)) | (with_reducible refine Below.setCell ?_ (by first | omega | (simp; done) | (simp; omega)) _) | (simp [go_sem, World.cell?_alloc_past, *]; done))); done))))
            (first
              | (go_split_ands; go_at_call 36; (with_reducible refine (HLA.out _ (R5_0.out.later (by with_reducible assumption))).mono ?_); rintro e w' ⟨rfl, hb⟩; have hbA : BelA _ w' := hb; obtain ⟨hc', hf'⟩ := bcell hb; have hz' := hb.size; (try simp at hz'); (first | (have tF' := Nat.lt_of_succ_le hz') | (have tF' := Nat.lt_of_lt_of_le tF' hz') | skip); clear hb)
              | (go_split_ands; go_at_call 36; (with_reducible refine (HLB.out _ (R5_1.out.later (by with_reducible assumption))).mono ?_); rintro e w' ⟨rfl, hb⟩; have hbA : BelA _ w' := hb; obtain ⟨hc', hf'⟩ := bcell hb; have hz' := hb.size; (try simp at hz'); (first | (have tF' := Nat.lt_of_succ_le hz') | (have tF' := Nat.lt_of_lt_of_le tF' hz') | skip); clear hb))
          all_goals
            go_split_ands
            go_wp2_with fail
            go_meet
            exact ⟨rfl, rfl, (by first | (with_reducible assumption) | (simp [go_sem, World.cell?_alloc_past, *]; done))⟩
        case rest =>
          obtain ⟨rfl, rfl, bel⟩ := hcut
          clear hS
          obtain ⟨wE, hw_⟩ : ∃ q, q = wc := ⟨_, rfl⟩
          subst hw_
          have k6_0 := cell_later bel k5_0
          have k6_1 := cell_later bel k5_1
          have k6_2 := cell_later bel k5_2
          have k6_3 := cell_later bel k5_3
          have k6_4 := cell_later bel k5_4
          have k6_5 := cell_later bel k5_5
          have k6_6 := cell_later bel n5_0
          have k6_7 := cell_later bel n5_1
          have R6_0 := Lib.hid (R5_0.out.later bel)
          have R6_1 := Lib.hid (R5_1.out.later bel)
          have R6_2 := Lib.hid (R5_2.out.later bel)
          have R6_3 := Lib.hid (R5_3.out.later bel)
          have B6 : Hid (Below w.heap.size w wE) := Lib.hid (below_then B5.out bel)
          clear k5_0 k5_1 k5_2 k5_3 k5_4 k5_5 n5_0 n5_1 R5_0 R5_1 R5_2 R5_3 B5
          have z6_0 := World.block_lt_of_cell? _ _ k6_0
          dsimp only at z6_0
          have z6_2 := World.block_lt_of_cell? _ _ k6_2
          dsimp only at z6_2
          have z6_4 := World.block_lt_of_cell? _ _ k6_4
          dsimp only at z6_4
          have z6_6 := World.block_lt_of_cell? _ _ k6_6
          dsimp only at z6_6
          clear bel
          by_cases hE : ed = 0
          · have HRN' := Lib.hid (HRN.out hE)
            have HRA' := Lib.hid (HRA.out hE)
            have PG' := Lib.hid (PG.out hE)
            subst hE
            clear HRN HRA PD PG PN HAD HNO
            go_wp2_with fail
            obtain ⟨wZa, hz_⟩ : ∃ q, q = wE.alloc (.cells #[.int .i64 0, .slice none 0 0] 62) := ⟨_, rfl⟩
            rw [← hz_]
            have hb0 : Below wE.heap.size wE wZa := by rw [hz_]; exact (Below.refl _ _).alloc (Nat.le_refl _) _
            have y0 : wZa.cell? ⟨wE.heap.size, 0, none⟩ = some (.int .i64 0) := by rw [hz_]; simp [go_sem]
            have yf0 : wZa.frozen? ⟨wE.heap.size, 0, none⟩ = false := by rw [hz_]; simp [go_sem]
            have y1 : wZa.cell? ⟨wE.heap.size, 1, none⟩ = some (.slice none 0 0) := by rw [hz_]; simp [go_sem]
            have yf1 : wZa.frozen? ⟨wE.heap.size, 1, none⟩ = false := by rw [hz_]; simp [go_sem]
            have yz : wE.heap.size < wZa.heap.size := by rw [hz_]; simp
            clear hz_
            refine (HRN'.out _ (R6_0.out.later hb0)).mono ?_
            rintro e_ wNa ⟨xl, Al, ml, cl, rfl, lw_, hB_, hL_, hb⟩
            have yn0 := cell_later hb y0
            have yg0 := frozen_after hb y0 yf0
            have yn1 := cell_later hb y1
            have yg1 := frozen_after hb y1 yf1
            have yz2 := hb.size
            go_upto_region 12 with fail
            obtain ⟨wF, hw_⟩ : ∃ q, q = (wNa.setCell ⟨wE.heap.size, 0, none⟩ (.int .i64 xl)).setCell ⟨wE.heap.size, 1, none⟩ (.slice Al ml cl) := ⟨_, rfl⟩
            rw [← hw_]
            have hM : Below wE.heap.size wE wF := by rw [hw_]; exact ((Below.trans hb0 (hb.mono (by omega))).setCell (Nat.le_refl _) _).setCell (Nat.le_refl _) _
            have pa0 : wF.cell? ⟨wE.heap.size, 0, none⟩ = some (.int .i64 xl) := by rw [hw_]; exact setO (.inr (by dsimp only; omega)) (setS yn0)
            have pa1 : wF.cell? ⟨wE.heap.size, 1, none⟩ = some (.slice Al ml cl) := by rw [hw_]; exact setS (setO (.inr (by dsimp only; omega)) yn1)
            have LL := Lib.hid (show Lw _ _ _ _ _ _ _ _ wF by rw [hw_]; exact ((lw_.set _ _ _ (fun a e => by have := hB_ a e; omega)).set _ _ _ (fun a e => by have := hB_ a e; omega)))
            clear y0 y1 yf0 yf1 yn0 yn1 yg0 yg1 hb hb0 lw_ hB_ hL_ hw_ yz yz2
            have k7_0 := cell_later hM k6_0
            have k7_1 := cell_later hM k6_1
            have k7_2 := cell_later hM k6_2
            have k7_3 := cell_later hM k6_3
            have k7_4 := cell_later hM k6_4
            have k7_5 := cell_later hM k6_5
            have k7_6 := cell_later hM k6_6
            have k7_7 := cell_later hM k6_7
            have R7_0 := Lib.hid (R6_0.out.later hM)
            have R7_1 := Lib.hid (R6_1.out.later hM)
            have R7_2 := Lib.hid (R6_2.out.later hM)
            have R7_3 := Lib.hid (R6_3.out.later hM)
            have B7 : Hid (Below w.heap.size w wF) := Lib.hid (below_then B6.out hM)
            clear k6_0 k6_1 k6_2 k6_3 k6_4 k6_5 k6_6 k6_7 R6_0 R6_1 R6_2 R6_3 B6
            have z7_0 := World.block_lt_of_cell? _ _ k7_0
            dsimp only at z7_0
            have z7_2 := World.block_lt_of_cell? _ _ k7_2
            dsimp only at z7_2
            have z7_4 := World.block_lt_of_cell? _ _ k7_4
            dsimp only at z7_4
            have z7_6 := World.block_lt_of_cell? _ _ k7_6
            dsimp only at z7_6
            clear hM
            go_wp2_with fail
            refine (HSN.out _ _ _ _ _ _ _ _ _ R7_3.out LL.out).mono ?_
            rintro e_ wG ⟨rfl, hb⟩
            have k8_0 := cell_later hb k7_0
            have k8_1 := cell_later hb k7_1
            have k8_2 := cell_later hb k7_2
            have k8_3 := cell_later hb k7_3
            have k8_4 := cell_later hb k7_4
            have k8_5 := cell_later hb k7_5
            have k8_6 := cell_later hb k7_6
            have k8_7 := cell_later hb k7_7
            have k8_8 := cell_later hb pa0
            have k8_9 := cell_later hb pa1
            have R8_0 := Lib.hid (R7_0.out.later hb)
            have R8_1 := Lib.hid (R7_1.out.later hb)
            have R8_2 := Lib.hid (R7_2.out.later hb)
            have R8_3 := Lib.hid (R7_3.out.later hb)
            have R8_4 := Lib.hid (LL.out.later hb)
            have B8 : Hid (Below w.heap.size w wG) := Lib.hid (below_then B7.out hb)
            clear k7_0 k7_1 k7_2 k7_3 k7_4 k7_5 k7_6 k7_7 pa0 pa1 R7_0 R7_1 R7_2 R7_3 LL B7
            have z8_0 := World.block_lt_of_cell? _ _ k8_0
            dsimp only at z8_0
            have z8_2 := World.block_lt_of_cell? _ _ k8_2
            dsimp only at z8_2
            have z8_4 := World.block_lt_of_cell? _ _ k8_4
            dsimp only at z8_4
            have z8_6 := World.block_lt_of_cell? _ _ k8_6
            dsimp only at z8_6
            have z8_8 := World.block_lt_of_cell? _ _ k8_8
            dsimp only at z8_8
            clear hb
            by_cases hG : eg = 0
            · have HRB := Lib.hid (HRA'.out hG)
              subst hG
              clear HRA' PG' HRN'
              go_wp2_with fail
              obtain ⟨wZb, hz_⟩ : ∃ q, q = wG.alloc (.cells #[.int .i64 0, .slice none 0 0] 62) := ⟨_, rfl⟩
              rw [← hz_]
              have hb0 : Below wG.heap.size wG wZb := by rw [hz_]; exact (Below.refl _ _).alloc (Nat.le_refl _) _
              have y0 : wZb.cell? ⟨wG.heap.size, 0, none⟩ = some (.int .i64 0) := by rw [hz_]; simp [go_sem]
              have yf0 : wZb.frozen? ⟨wG.heap.size, 0, none⟩ = false := by rw [hz_]; simp [go_sem]
              have y1 : wZb.cell? ⟨wG.heap.size, 1, none⟩ = some (.slice none 0 0) := by rw [hz_]; simp [go_sem]
              have yf1 : wZb.frozen? ⟨wG.heap.size, 1, none⟩ = false := by rw [hz_]; simp [go_sem]
              have yz : wG.heap.size < wZb.heap.size := by rw [hz_]; simp
              clear hz_
              refine (HRB.out _ (R8_0.out.later hb0) (R8_1.out.later hb0)).mono ?_
              rintro e_ wNb ⟨xw, Aw, mw, cw, rfl, lw_, hB_, hL_, hb⟩
              have yn0 := cell_later hb y0
              have yg0 := frozen_after hb y0 yf0
              have yn1 := cell_later hb y1
              have yg1 := frozen_after hb y1 yf1
              have yz2 := hb.size
              go_upto_region 19 with fail
              obtain ⟨wH, hw_⟩ : ∃ q, q = (wNb.setCell ⟨wG.heap.size, 0, none⟩ (.int .i64 xw)).setCell ⟨wG.heap.size, 1, none⟩ (.slice Aw mw cw) := ⟨_, rfl⟩
              rw [← hw_]
              have hM : Below wG.heap.size wG wH := by rw [hw_]; exact ((Below.trans hb0 (hb.mono (by omega))).setCell (Nat.le_refl _) _).setCell (Nat.le_refl _) _
              have pb0 : wH.cell? ⟨wG.heap.size, 0, none⟩ = some (.int .i64 xw) := by rw [hw_]; exact setO (.inr (by dsimp only; omega)) (setS yn0)
              have pb1 : wH.cell? ⟨wG.heap.size, 1, none⟩ = some (.slice Aw mw cw) := by rw [hw_]; exact setS (setO (.inr (by dsimp only; omega)) yn1)
              have LX := Lib.hid (show Lw _ _ _ _ _ _ _ _ wH by rw [hw_]; exact ((lw_.set _ _ _ (fun a e => by have := hB_ a e; omega)).set _ _ _ (fun a e => by have := hB_ a e; omega)))
              clear y0 y1 yf0 yf1 yn0 yn1 yg0 yg1 hb hb0 lw_ hB_ hL_ hw_ yz yz2
              have k9_0 := cell_later hM k8_0
              have k9_1 := cell_later hM k8_1
              have k9_2 := cell_later hM k8_2
              have k9_3 := cell_later hM k8_3
              have k9_4 := cell_later hM k8_4
              have k9_5 := cell_later hM k8_5
              have k9_6 := cell_later hM k8_6
              have k9_7 := cell_later hM k8_7
              have k9_8 := cell_later hM k8_8
              have k9_9 := cell_later hM k8_9
              have R9_0 := Lib.hid (R8_0.out.later hM)
              have R9_1 := Lib.hid (R8_1.out.later hM)
              have R9_2 := Lib.hid (R8_2.out.later hM)
              have R9_3 := Lib.hid (R8_3.out.later hM)
              have R9_4 := Lib.hid (R8_4.out.later hM)
              have B9 : Hid (Below w.heap.size w wH) := Lib.hid (below_then B8.out hM)
              clear k8_0 k8_1 k8_2 k8_3 k8_4 k8_5 k8_6 k8_7 k8_8 k8_9 R8_0 R8_1 R8_2 R8_3 R8_4 B8
              have z9_0 := World.block_lt_of_cell? _ _ k9_0
              dsimp only at z9_0
              have z9_2 := World.block_lt_of_cell? _ _ k9_2
              dsimp only at z9_2
              have z9_4 := World.block_lt_of_cell? _ _ k9_4
              dsimp only at z9_4
              have z9_6 := World.block_lt_of_cell? _ _ k9_6
              dsimp only at z9_6
              have z9_8 := World.block_lt_of_cell? _ _ k9_8
              dsimp only at z9_8
              clear hM
              go_wp2_with fail
              refine (HSU.out _ _ _ _ _ _ _ _ _ R9_2.out LX.out).mono ?_
              rintro e_ wI ⟨rfl, hb⟩
              have k10_0 := cell_later hb k9_0
              have k10_1 := cell_later hb k9_1
              have k10_2 := cell_later hb k9_2
              have k10_3 := cell_later hb k9_3
              have k10_4 := cell_later hb k9_4
              have k10_5 := cell_later hb k9_5
              have k10_6 := cell_later hb k9_6
              have k10_7 := cell_later hb k9_7
              have k10_8 := cell_later hb k9_8
              have k10_9 := cell_later hb k9_9
              have k10_10 := cell_later hb pb0
              have k10_11 := cell_later hb pb1
              have R10_0 := Lib.hid (R9_0.out.later hb)
              have R10_1 := Lib.hid (R9_1.out.later hb)
              have R10_2 := Lib.hid (R9_2.out.later hb)
              have R10_3 := Lib.hid (R9_3.out.later hb)
              have R10_4 := Lib.hid (R9_4.out.later hb)
              have R10_5 := Lib.hid (LX.out.later hb)
              have B10 : Hid (Below w.heap.size w wI) := Lib.hid (below_then B9.out hb)
              clear k9_0 k9_1 k9_2 k9_3 k9_4 k9_5 k9_6 k9_7 k9_8 k9_9 pb0 pb1 R9_0 R9_1 R9_2 R9_3 R9_4 LX B9
              have z10_0 := World.block_lt_of_cell? _ _ k10_0
              dsimp only at z10_0
              have z10_2 := World.block_lt_of_cell? _ _ k10_2
              dsimp only at z10_2
              have z10_4 := World.block_lt_of_cell? _ _ k10_4
              dsimp only at z10_4
              have z10_6 := World.block_lt_of_cell? _ _ k10_6
              dsimp only at z10_6
              have z10_8 := World.block_lt_of_cell? _ _ k10_8
              dsimp only at z10_8
              have z10_10 := World.block_lt_of_cell? _ _ k10_10
              dsimp only at z10_10
              clear hb
              by_cases h5 : E5 = 0
              · have HAE' := Lib.hid (HAE.out h5)
                have HST' := Lib.hid (HST.out h5)
                subst h5
                clear HAE HST
                go_upto_region 23 with fail
                have hS : Below wI.heap.size wI wI := Below.refl _ _
                go_cut [14, 15] (fun s14 s15 wx => ∃ (Q2 : Nat) (x' : Int) (A3' : Option Addr) (m3' c3' : Nat), s14 = .pointer (some ⟨Q2, 0, none⟩) ∧ s15 = .int .i64 0 ∧ wx.cell? ⟨Q2, 0, none⟩ = some (.int .i64 x') ∧ wx.cell? ⟨Q2, 1, none⟩ = some (.slice A3' m3' c3') ∧ Lw d.ck u2 d.n 0 x' A3' m3' c3' wx ∧ Below wI.heap.size wI wx)
                case first =>
                  go_region_held3 (fun w' => w'.cell? ⟨w.heap.size, 0, none⟩ = some (.int .i64 d.ck) ∧ w'.cell? ⟨w.heap.size, 1, none⟩ = some (.slice A d.n c) ∧ w'.cell? ⟨w.heap.size + 1, 0, none⟩ = some (.int .i64 g.ck) ∧ w'.cell? ⟨w.heap.size + 1, 1, none⟩ = some (.slice B g.n e) ∧ Below wI.heap.size wI w') (((go_split_ands; (repeat' apply And.intro) <;> ((repeat (first | (with_reducible assumption) | (with_reducible exact Below.refl _ _) | (with_reducible refine cell_alloc_later ?_ _) | (with_reducible refine cell_drewA ?_) | (with_reducible refine cellA (by with_reducible assumption) ?_) | (with_reducible refine belowA ?_ (by with_reducible assumption)) | (with_reducible refine below_alloc_top ?_ _) | (with_reducible refine Below.drew ?_) | (with_reducible refine cell_set_old ?_ (by with_reducible assumption)) | (with_reducible refine below_set_old ?_ (by with_reducible assumption)) | (with_reducible refine Below.setCell ?_ (by first | omega | (simp; done) | (simp; omega)) _) | (simp [go_sem, World.cell?_alloc_past, *]; done))); done))))
                    (first
                      | (go_split_ands; go_at_call 28; (with_reducible refine (HCA.out _ (R10_0.out.later (by with_reducible assumption))).mono ?_); rintro e w' ⟨A1, c1, rfl, hs, hb⟩; have hbA : BelA _ w' := hb; obtain ⟨hc', hf'⟩ := bcell hb; have hz' := hb.size; (try simp at hz'); (first | (have tF' := Nat.lt_of_succ_le hz') | (have tF' := Nat.lt_of_lt_of_le tF' hz') | skip); clear hb)
                      | (go_split_ands; go_at_call 28; (with_reducible refine (HCB.out _ (R10_1.out.later (by with_reducible assumption))).mono ?_); rintro e w' ⟨A2, c2, rfl, hi, hb⟩; have hbA : BelA _ w' := hb; obtain ⟨hc', hf'⟩ := bcell hb; have hz' := hb.size; (try simp at hz'); (first | (have tF' := Nat.lt_of_succ_le hz') | (have tF' := Nat.lt_of_lt_of_le tF' hz') | skip); clear hb)
                      | (go_split_ands; go_at_call 29; (with_reducible refine (HAE'.out _ _ _ _ _ (by repeat (first | (with_reducible assumption) | (with_reducible refine InAt.laterA (by with_reducible assumption) ?_) | (with_reducible refine InAt.alloc ?_ _) | (with_reducible refine InAt.drew ?_))) (by repeat (first | (with_reducible assumption) | (with_reducible refine InAt.laterA (by with_reducible assumption) ?_) | (with_reducible refine InAt.alloc ?_ _) | (with_reducible refine InAt.drew ?_)))).mono ?_); rintro e w' ⟨x6, A6, m6, c6, rfl, hg3, hB3, hL3, hb⟩; have hbA : BelA _ w' := hb; obtain ⟨hc', hf'⟩ := bcell hb; have hz' := hb.size; (try simp at hz'); (first | (have tF' := Nat.lt_of_succ_le hz') | (have tF' := Nat.lt_of_lt_of_le tF' hz') | skip); clear hb))
                  all_goals
                    go_split_ands
                    go_wp2_with fail
                    go_meet
                    exact ⟨_, x6, A6, m6, c6, rfl, rfl, (by first | (with_reducible assumption) | (simp [go_sem, World.cell?_alloc_past, *]; done)), (by first | (with_reducible assumption) | (simp [go_sem, World.cell?_alloc_past, *]; done)), (by repeat (first | (with_reducible assumption) | (with_reducible refine Lw.alloc ?_ _) | (with_reducible refine Lw.drew ?_) | (refine Lw.set ?_ _ _ _ (fun a e => by have q1 := hB3 a e; have q2 := hL3 a e; (try simp at q1); omega)))), (by first | (with_reducible assumption) | (simp [go_sem, World.cell?_alloc_past, *]; done))⟩
                case rest =>
                  obtain ⟨Q2, x6, A6, m6, c6, rfl, rfl, qq0, qq1, lw6, bel⟩ := hcut
                  clear hS
                  obtain ⟨wJ, hw_⟩ : ∃ q, q = wc := ⟨_, rfl⟩
                  subst hw_
                  have k11_0 := cell_later bel k10_0
                  have k11_1 := cell_later bel k10_1
                  have k11_2 := cell_later bel k10_2
                  have k11_3 := cell_later bel k10_3
                  have k11_4 := cell_later bel k10_4
                  have k11_5 := cell_later bel k10_5
                  have k11_6 := cell_later bel k10_6
                  have k11_7 := cell_later bel k10_7
                  have k11_8 := cell_later bel k10_8
                  have k11_9 := cell_later bel k10_9
                  have k11_10 := cell_later bel k10_10
                  have k11_11 := cell_later bel k10_11
                  have R11_0 := Lib.hid (R10_0.out.later bel)
                  have R11_1 := Lib.hid (R10_1.out.later bel)
                  have R11_2 := Lib.hid (R10_2.out.later bel)
                  have R11_3 := Lib.hid (R10_3.out.later bel)
                  have R11_4 := Lib.hid (R10_4.out.later bel)
                  have R11_5 := Lib.hid (R10_5.out.later bel)
                  have B11 : Hid (Below w.heap.size w wJ) := Lib.hid (below_then B10.out bel)
                  clear k10_0 k10_1 k10_2 k10_3 k10_4 k10_5 k10_6 k10_7 k10_8 k10_9 k10_10 k10_11 R10_0 R10_1 R10_2 R10_3 R10_4 R10_5 B10
                  have z11_0 := World.block_lt_of_cell? _ _ k11_0
                  dsimp only at z11_0
                  have z11_2 := World.block_lt_of_cell? _ _ k11_2
                  dsimp only at z11_2
                  have z11_4 := World.block_lt_of_cell? _ _ k11_4
                  dsimp only at z11_4
                  have z11_6 := World.block_lt_of_cell? _ _ k11_6
                  dsimp only at z11_6
                  have z11_8 := World.block_lt_of_cell? _ _ k11_8
                  dsimp only at z11_8
                  have z11_10 := World.block_lt_of_cell? _ _ k11_10
                  dsimp only at z11_10
                  clear bel
                  have L6 := Lib.hid lw6
                  clear lw6
                  go_wp2_with fail
                  refine (HST'.out _ _ _ _ _ _ _ _ _ R11_2.out L6.out).mono ?_
                  rintro e_ wK ⟨rfl, hb⟩
                  have k12_0 := cell_later hb k11_0
                  have k12_1 := cell_later hb k11_1
                  have k12_2 := cell_later hb k11_2
                  have k12_3 := cell_later hb k11_3
                  have k12_4 := cell_later hb k11_4
                  have k12_5 := cell_later hb k11_5
                  have k12_6 := cell_later hb k11_6
                  have k12_7 := cell_later hb k11_7
                  have k12_8 := cell_later hb k11_8
                  have k12_9 := cell_later hb k11_9
                  have k12_10 := cell_later hb k11_10
                  have k12_11 := cell_later hb k11_11
                  have k12_12 := cell_later hb qq0
                  have k12_13 := cell_later hb qq1
                  have R12_0 := Lib.hid (R11_0.out.later hb)
                  have R12_1 := Lib.hid (R11_1.out.later hb)
                  have R12_2 := Lib.hid (R11_2.out.later hb)
                  have R12_3 := Lib.hid (R11_3.out.later hb)
                  have R12_4 := Lib.hid (R11_4.out.later hb)
                  have R12_5 := Lib.hid (R11_5.out.later hb)
                  have B12 : Hid (Below w.heap.size w wK) := Lib.hid (below_then B11.out hb)
                  clear k11_0 k11_1 k11_2 k11_3 k11_4 k11_5 k11_6 k11_7 k11_8 k11_9 k11_10 k11_11 qq0 qq1 R11_0 R11_1 R11_2 R11_3 R11_4 R11_5 B11
                  have z12_0 := World.block_lt_of_cell? _ _ k12_0
                  dsimp only at z12_0
                  have z12_2 := World.block_lt_of_cell? _ _ k12_2
                  dsimp only at z12_2
                  have z12_4 := World.block_lt_of_cell? _ _ k12_4
                  dsimp only at z12_4
                  have z12_6 := World.block_lt_of_cell? _ _ k12_6
                  dsimp only at z12_6
                  have z12_8 := World.block_lt_of_cell? _ _ k12_8
                  dsimp only at z12_8
                  have z12_10 := World.block_lt_of_cell? _ _ k12_10
                  dsimp only at z12_10
                  have z12_12 := World.block_lt_of_cell? _ _ k12_12
                  dsimp only at z12_12
                  clear hb
                  go_wp2
                  go_ret
                  exact ⟨by simp, B12.out⟩
              · have n1 : (E5 != 0) = true := by simpa using h5
                clear HAE HST h5
                go_wp2
                go_ret
                exact ⟨by simp, B10.out⟩
            · have e5 := (PG'.out hG).symm
              subst e5
              have hne := hG
              have n1 : (eg == 0) = false := by simpa using hG
              have n2 : (eg != 0) = true := by simpa using hG
              clear HRN' HRA' PG' HAE HST hG
              go_wp2_with fail
              obtain ⟨wH, hw_⟩ : ∃ q, q = wG.alloc (.cells #[.int .i64 0, .slice none 0 0] 62) := ⟨_, rfl⟩
              rw [← hw_]
              have hb : Below wG.heap.size wG wH := by rw [hw_]; exact (Below.refl _ _).alloc (Nat.le_refl _) _
              have n9_0 : wH.cell? ⟨wG.heap.size, 0, none⟩ = some (.int .i64 0) := by rw [hw_]; simp [go_sem]
              have n9_1 : wH.cell? ⟨wG.heap.size, 1, none⟩ = some (.slice none 0 0) := by rw [hw_]; simp [go_sem]
              have k9_0 := cell_later hb k8_0
              have k9_1 := cell_later hb k8_1
              have k9_2 := cell_later hb k8_2
              have k9_3 := cell_later hb k8_3
              have k9_4 := cell_later hb k8_4
              have k9_5 := cell_later hb k8_5
              have k9_6 := cell_later hb k8_6
              have k9_7 := cell_later hb k8_7
              have k9_8 := cell_later hb k8_8
              have k9_9 := cell_later hb k8_9
              have R9_0 := Lib.hid (R8_0.out.later hb)
              have R9_1 := Lib.hid (R8_1.out.later hb)
              have R9_2 := Lib.hid (R8_2.out.later hb)
              have R9_3 := Lib.hid (R8_3.out.later hb)
              have R9_4 := Lib.hid (R8_4.out.later hb)
              have B9 : Hid (Below w.heap.size w wH) := Lib.hid (below_then B8.out hb)
              clear k8_0 k8_1 k8_2 k8_3 k8_4 k8_5 k8_6 k8_7 k8_8 k8_9 R8_0 R8_1 R8_2 R8_3 R8_4 B8
              have z9_0 := World.block_lt_of_cell? _ _ k9_0
              dsimp only at z9_0
              have z9_2 := World.block_lt_of_cell? _ _ k9_2
              dsimp only at z9_2
              have z9_4 := World.block_lt_of_cell? _ _ k9_4
              dsimp only at z9_4
              have z9_6 := World.block_lt_of_cell? _ _ k9_6
              dsimp only at z9_6
              have z9_8 := World.block_lt_of_cell? _ _ k9_8
              dsimp only at z9_8
              have zn9 : wG.heap.size < wH.heap.size := by rw [hw_]; simp
              clear hb hw_
              have Lx := Lib.hid (Lw.none d.ck u d.n eg wH hne)
              refine (HSU.out _ _ _ _ _ _ _ _ _ R9_2.out Lx.out).mono ?_
              rintro e_ wI ⟨rfl, hb⟩
              have k10_0 := cell_later hb k9_0
              have k10_1 := cell_later hb k9_1
              have k10_2 := cell_later hb k9_2
              have k10_3 := cell_later hb k9_3
              have k10_4 := cell_later hb k9_4
              have k10_5 := cell_later hb k9_5
              have k10_6 := cell_later hb k9_6
              have k10_7 := cell_later hb k9_7
              have k10_8 := cell_later hb k9_8
              have k10_9 := cell_later hb k9_9
              have k10_10 := cell_later hb n9_0
              have k10_11 := cell_later hb n9_1
              have R10_0 := Lib.hid (R9_0.out.later hb)
              have R10_1 := Lib.hid (R9_1.out.later hb)
              have R10_2 := Lib.hid (R9_2.out.later hb)
              have R10_3 := Lib.hid (R9_3.out.later hb)
              have R10_4 := Lib.hid (R9_4.out.later hb)
              have R10_5 := Lib.hid (Lx.out.later hb)
              have B10 : Hid (Below w.heap.size w wI) := Lib.hid (below_then B9.out hb)
              clear k9_0 k9_1 k9_2 k9_3 k9_4 k9_5 k9_6 k9_7 k9_8 k9_9 n9_0 n9_1 R9_0 R9_1 R9_2 R9_3 R9_4 Lx B9
              have z10_0 := World.block_lt_of_cell? _ _ k10_0
              dsimp only at z10_0
              have z10_2 := World.block_lt_of_cell? _ _ k10_2
              dsimp only at z10_2
              have z10_4 := World.block_lt_of_cell? _ _ k10_4
              dsimp only at z10_4
              have z10_6 := World.block_lt_of_cell? _ _ k10_6
              dsimp only at z10_6
              have z10_8 := World.block_lt_of_cell? _ _ k10_8
              dsimp only at z10_8
              have z10_10 := World.block_lt_of_cell? _ _ k10_10
              dsimp only at z10_10
              clear hb
              go_wp2
              go_ret
              exact ⟨by simp, B10.out⟩
          · have e5 := (PD.out hE).symm
            have e6 := (PN.out hE).symm
            subst e5
            subst e6
            have hne := hE
            have n1 : (ed == 0) = false := by simpa using hE
            have n2 : (ed != 0) = true := by simpa using hE
            clear HRN HRA HAE HST PD PG PN HAD HNO hE
            go_wp2_with fail
            obtain ⟨wF, hw_⟩ : ∃ q, q = wE.alloc (.cells #[.int .i64 0, .slice none 0 0] 62) := ⟨_, rfl⟩
            rw [← hw_]
            have hb : Below wE.heap.size wE wF := by rw [hw_]; exact (Below.refl _ _).alloc (Nat.le_refl _) _
            have n7_0 : wF.cell? ⟨wE.heap.size, 0, none⟩ = some (.int .i64 0) := by rw [hw_]; simp [go_sem]
            have n7_1 : wF.cell? ⟨wE.heap.size, 1, none⟩ = some (.slice none 0 0) := by rw [hw_]; simp [go_sem]
            have k7_0 := cell_later hb k6_0
            have k7_1 := cell_later hb k6_1
            have k7_2 := cell_later hb k6_2
            have k7_3 := cell_later hb k6_3
            have k7_4 := cell_later hb k6_4
            have k7_5 := cell_later hb k6_5
            have k7_6 := cell_later hb k6_6
            have k7_7 := cell_later hb k6_7
            have R7_0 := Lib.hid (R6_0.out.later hb)
            have R7_1 := Lib.hid (R6_1.out.later hb)
            have R7_2 := Lib.hid (R6_2.out.later hb)
            have R7_3 := Lib.hid (R6_3.out.later hb)
            have B7 : Hid (Below w.heap.size w wF) := Lib.hid (below_then B6.out hb)
            clear k6_0 k6_1 k6_2 k6_3 k6_4 k6_5 k6_6 k6_7 R6_0 R6_1 R6_2 R6_3 B6
            have z7_0 := World.block_lt_of_cell? _ _ k7_0
            dsimp only at z7_0
            have z7_2 := World.block_lt_of_cell? _ _ k7_2
            dsimp only at z7_2
            have z7_4 := World.block_lt_of_cell? _ _ k7_4
            dsimp only at z7_4
            have z7_6 := World.block_lt_of_cell? _ _ k7_6
            dsimp only at z7_6
            have zn7 : wE.heap.size < wF.heap.size := by rw [hw_]; simp
            clear hb hw_
            have Lz := Lib.hid (Lw.none d.ck v d.n ed wF hne)
            refine (HSN.out _ _ _ _ _ _ _ _ _ R7_3.out Lz.out).mono ?_
            rintro e_ wG ⟨rfl, hb⟩
            have k8_0 := cell_later hb k7_0
            have k8_1 := cell_later hb k7_1
            have k8_2 := cell_later hb k7_2
            have k8_3 := cell_later hb k7_3
            have k8_4 := cell_later hb k7_4
            have k8_5 := cell_later hb k7_5
            have k8_6 := cell_later hb k7_6
            have k8_7 := cell_later hb k7_7
            have k8_8 := cell_later hb n7_0
            have k8_9 := cell_later hb n7_1
            have R8_0 := Lib.hid (R7_0.out.later hb)
            have R8_1 := Lib.hid (R7_1.out.later hb)
            have R8_2 := Lib.hid (R7_2.out.later hb)
            have R8_3 := Lib.hid (R7_3.out.later hb)
            have R8_4 := Lib.hid (Lz.out.later hb)
            have B8 : Hid (Below w.heap.size w wG) := Lib.hid (below_then B7.out hb)
            clear k7_0 k7_1 k7_2 k7_3 k7_4 k7_5 k7_6 k7_7 n7_0 n7_1 R7_0 R7_1 R7_2 R7_3 Lz B7
            have z8_0 := World.block_lt_of_cell? _ _ k8_0
            dsimp only at z8_0
            have z8_2 := World.block_lt_of_cell? _ _ k8_2
            dsimp only at z8_2
            have z8_4 := World.block_lt_of_cell? _ _ k8_4
            dsimp only at z8_4
            have z8_6 := World.block_lt_of_cell? _ _ k8_6
            dsimp only at z8_6
            have z8_8 := World.block_lt_of_cell? _ _ k8_8
            dsimp only at z8_8
            clear hb
            go_wp2_with fail
            obtain ⟨wH, hw_⟩ : ∃ q, q = wG.alloc (.cells #[.int .i64 0, .slice none 0 0] 62) := ⟨_, rfl⟩
            rw [← hw_]
            have hb : Below wG.heap.size wG wH := by rw [hw_]; exact (Below.refl _ _).alloc (Nat.le_refl _) _
            have n9_0 : wH.cell? ⟨wG.heap.size, 0, none⟩ = some (.int .i64 0) := by rw [hw_]; simp [go_sem]
            have n9_1 : wH.cell? ⟨wG.heap.size, 1, none⟩ = some (.slice none 0 0) := by rw [hw_]; simp [go_sem]
            have k9_0 := cell_later hb k8_0
            have k9_1 := cell_later hb k8_1
            have k9_2 := cell_later hb k8_2
            have k9_3 := cell_later hb k8_3
            have k9_4 := cell_later hb k8_4
            have k9_5 := cell_later hb k8_5
            have k9_6 := cell_later hb k8_6
            have k9_7 := cell_later hb k8_7
            have k9_8 := cell_later hb k8_8
            have k9_9 := cell_later hb k8_9
            have R9_0 := Lib.hid (R8_0.out.later hb)
            have R9_1 := Lib.hid (R8_1.out.later hb)
            have R9_2 := Lib.hid (R8_2.out.later hb)
            have R9_3 := Lib.hid (R8_3.out.later hb)
            have R9_4 := Lib.hid (R8_4.out.later hb)
            have B9 : Hid (Below w.heap.size w wH) := Lib.hid (below_then B8.out hb)
            clear k8_0 k8_1 k8_2 k8_3 k8_4 k8_5 k8_6 k8_7 k8_8 k8_9 R8_0 R8_1 R8_2 R8_3 R8_4 B8
            have z9_0 := World.block_lt_of_cell? _ _ k9_0
            dsimp only at z9_0
            have z9_2 := World.block_lt_of_cell? _ _ k9_2
            dsimp only at z9_2
            have z9_4 := World.block_lt_of_cell? _ _ k9_4
            dsimp only at z9_4
            have z9_6 := World.block_lt_of_cell? _ _ k9_6
            dsimp only at z9_6
            have z9_8 := World.block_lt_of_cell? _ _ k9_8
            dsimp only at z9_8
            have zn9 : wG.heap.size < wH.heap.size := by rw [hw_]; simp
            clear hb hw_
            have Lx := Lib.hid (Lw.none d.ck u d.n ed wH hne)
            refine (HSU.out _ _ _ _ _ _ _ _ _ R9_2.out Lx.out).mono ?_
            rintro e_ wI ⟨rfl, hb⟩
            have k10_0 := cell_later hb k9_0
            have k10_1 := cell_later hb k9_1
            have k10_2 := cell_later hb k9_2
            have k10_3 := cell_later hb k9_3
            have k10_4 := cell_later hb k9_4
            have k10_5 := cell_later hb k9_5
            have k10_6 := cell_later hb k9_6
            have k10_7 := cell_later hb k9_7
            have k10_8 := cell_later hb k9_8
            have k10_9 := cell_later hb k9_9
            have k10_10 := cell_later hb n9_0
            have k10_11 := cell_later hb n9_1
            have R10_0 := Lib.hid (R9_0.out.later hb)
            have R10_1 := Lib.hid (R9_1.out.later hb)
            have R10_2 := Lib.hid (R9_2.out.later hb)
            have R10_3 := Lib.hid (R9_3.out.later hb)
            have R10_4 := Lib.hid (R9_4.out.later hb)
            have R10_5 := Lib.hid (Lx.out.later hb)
            have B10 : Hid (Below w.heap.size w wI) := Lib.hid (below_then B9.out hb)
            clear k9_0 k9_1 k9_2 k9_3 k9_4 k9_5 k9_6 k9_7 k9_8 k9_9 n9_0 n9_1 R9_0 R9_1 R9_2 R9_3 R9_4 Lx B9
            have z10_0 := World.block_lt_of_cell? _ _ k10_0
            dsimp only at z10_0
            have z10_2 := World.block_lt_of_cell? _ _ k10_2
            dsimp only at z10_2
            have z10_4 := World.block_lt_of_cell? _ _ k10_4
            dsimp only at z10_4
            have z10_6 := World.block_lt_of_cell? _ _ k10_6
            dsimp only at z10_6
            have z10_8 := World.block_lt_of_cell? _ _ k10_8
            dsimp only at z10_8
            have z10_10 := World.block_lt_of_cell? _ _ k10_10
            dsimp only at z10_10
            clear hb
            go_wp2
            go_ret
            exact ⟨by simp, B10.out⟩
    · have FD : Hid (decide ((g.n : Int) ≤ 18) = false) := Lib.hid (by simp; omega)
      clear h1 h2 hA hB
      go_enter Tryz.func7, Tryz.ntmps7
      go_wp2_with fail
      refine (AWK.out _ (LH.out.later (by repeat (first | exact Below.refl _ _ | refine Below.drew ?_ | refine below_drewN ?_ _ | refine Below.setCell ?_ (by first | omega | (simp; done) | (simp; omega)) _ | refine Below.alloc ?_ (by first | omega | (simp; done) | (simp; omega)) _)))).mono ?_
      rintro e w1 ⟨rfl, hb1⟩
      have qw10 : w1.cell? ⟨w.heap.size, 0, none⟩ = some (.int .i64 d.ck) := cell_later hb1 (by simp [go_sem])
      have qw11 : w1.cell? ⟨w.heap.size, 1, none⟩ = some (.slice A d.n c) := cell_later hb1 (by simp [go_sem])
      have qw12 : w1.cell? ⟨w.heap.size + 1, 0, none⟩ = some (.int .i64 g.ck) := cell_later hb1 (by simp [go_sem])
      have qw13 : w1.cell? ⟨w.heap.size + 1, 1, none⟩ = some (.slice B g.n e) := cell_later hb1 (by simp [go_sem])
      have zqw1_0 := World.block_lt_of_cell? _ _ qw10
      dsimp only at zqw1_0
      have zqw1_2 := World.block_lt_of_cell? _ _ qw12
      dsimp only at zqw1_2
      have H1 : Hid (Below w.heap.size w w1) := Lib.hid (below_after (by repeat (first | exact Below.refl _ _ | refine Below.drew ?_ | refine below_drewN ?_ _ | refine Below.setCell ?_ (by first | omega | (simp; done) | (simp; omega)) _ | refine Below.alloc ?_ (by first | omega | (simp; done) | (simp; omega)) _)) hb1 (by first | omega | (simp; done) | (simp; omega))); clear hb1
      go_wp2_with (go_at_call 25; (with_reducible refine (few_any _ _).mono ?_); (first | rw [FA.out] | rw [FD.out]); rintro e w' ⟨rfl, rfl⟩)
      go_ret
      exact ⟨rfl, H1.out⟩
  · have FA : Hid (decide ((d.n : Int) ≤ 18) = false) := Lib.hid (by simp; omega)
    clear h1 hA hB
    go_enter Tryz.func7, Tryz.ntmps7
    go_wp2_with fail
    refine (AWK.out _ (LH.out.later (by repeat (first | exact Below.refl _ _ | refine Below.drew ?_ | refine below_drewN ?_ _ | refine Below.setCell ?_ (by first | omega | (simp; done) | (simp; omega)) _ | refine Below.alloc ?_ (by first | omega | (simp; done) | (simp; omega)) _)))).mono ?_
    rintro e w1 ⟨rfl, hb1⟩
    have qw10 : w1.cell? ⟨w.heap.size, 0, none⟩ = some (.int .i64 d.ck) := cell_later hb1 (by simp [go_sem])
    have qw11 : w1.cell? ⟨w.heap.size, 1, none⟩ = some (.slice A d.n c) := cell_later hb1 (by simp [go_sem])
    have qw12 : w1.cell? ⟨w.heap.size + 1, 0, none⟩ = some (.int .i64 g.ck) := cell_later hb1 (by simp [go_sem])
    have qw13 : w1.cell? ⟨w.heap.size + 1, 1, none⟩ = some (.slice B g.n e) := cell_later hb1 (by simp [go_sem])
    have zqw1_0 := World.block_lt_of_cell? _ _ qw10
    dsimp only at zqw1_0
    have zqw1_2 := World.block_lt_of_cell? _ _ qw12
    dsimp only at zqw1_2
    have H1 : Hid (Below w.heap.size w w1) := Lib.hid (below_after (by repeat (first | exact Below.refl _ _ | refine Below.drew ?_ | refine below_drewN ?_ _ | refine Below.setCell ?_ (by first | omega | (simp; done) | (simp; omega)) _ | refine Below.alloc ?_ (by first | omega | (simp; done) | (simp; omega)) _)) hb1 (by first | omega | (simp; done) | (simp; omega))); clear hb1
    go_wp2_with (go_at_call 25; (with_reducible refine (few_any _ _).mono ?_); (first | rw [FA.out]); rintro e w' ⟨rfl, rfl⟩)
    go_ret
    exact ⟨rfl, H1.out⟩
end Go.Proofs.YtnhbmmpjifliaaaGreatDoor
