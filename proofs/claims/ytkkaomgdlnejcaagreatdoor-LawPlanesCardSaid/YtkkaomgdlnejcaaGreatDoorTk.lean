/- what a call left of a law -/
import Derived.Test.YtkkaomgdlnejcaaGreatDoorTj
import Derived.Test.YtkkaomgdlnejcaaGreatDoorV9
import Derived.Test.YtkkaomgdlnejcaaGreatDoorV14
namespace Go.Proofs.YtkkaomgdlnejcaaGreatDoor
open Go.RowKit Go.Shelf RayM
set_option linter.unusedSimpArgs false
set_option linter.unusedVariables false
set_option maxRecDepth 100000 in
set_option maxHeartbeats 1000000 in
theorem same_eq (ck : Int) (n : Nat) (A : Option Addr) (c : Nat) (B : Option Addr) (d : Nat) (l m : Nat → Int) (w : World) (hn : n ≤ 1000) (he : ∀ i, i < n → l i = m i) (h : InAt A n l w) (k : InAt B n m w) :
    Calls Tryz.prog 15 #[.agg #[.int .i64 ck, .slice A n c], .agg #[.int .i64 ck, .slice B n d]] w fun e w' => e = .returned (.bool true) ∧ Below w.heap.size w w' := by
  have HA := Lib.hid h; have HB := Lib.hid k
  clear h k
  have HI : Hid (∀ w, InAt A n l w → InAt B n m w → Calls Tryz.prog 33 #[.slice A n c, .slice B n d] w fun e w' => e = .returned (.bool true) ∧ Below w.heap.size w w') := Lib.hid (fun w h k => by have := ints_any A n c l B n d m w hn (by omega) h k; rw [(eqB_iff l n m n).2 ⟨rfl, he⟩] at this; exact this)
  go_enter Tryz.func15, Tryz.ntmps15
  go_wp2_with (go_at_call 33; (with_reducible refine (HI.out _ (HA.out.later (by repeat (first | exact Below.refl _ _ | refine Below.alloc ?_ (by first | omega | (simp; done) | (simp; omega)) _))) (HB.out.later (by repeat (first | exact Below.refl _ _ | refine Below.alloc ?_ (by first | omega | (simp; done) | (simp; omega)) _)))).mono ?_); rintro e w1 ⟨rfl, hb1⟩; have H1 := Lib.hid (Below.trans (by repeat (first | exact Below.refl _ _ | refine Below.alloc ?_ (by first | omega | (simp; done) | (simp; omega)) _)) (hb1.mono (by simp; omega)) : Below w.heap.size w w1); clear hb1)
  go_ret
  exact ⟨rfl, H1.out⟩
/-- what a call left of a law: the law, or nothing -/
def Lw (ck : Int) (l : Nat → Int) (n : Nat) (E x : Int) (A : Option Addr) (m c : Nat) (W : World) : Prop :=
  x = (if E = 0 then ck else 0) ∧ (E = 0 → m = n ∧ InAt A n l W) ∧ (E ≠ 0 → m = 0)
theorem Lw.later {ck : Int} {l : Nat → Int} {n : Nat} {E x : Int} {A : Option Addr} {m c : Nat} {W W' : World} (r : Lw ck l n E x A m c W) (hb : Below W.heap.size W W') : Lw ck l n E x A m c W' := ⟨r.1, fun q => ⟨(r.2.1 q).1, (r.2.1 q).2.later hb⟩, r.2.2⟩
theorem Lw.alloc {ck : Int} {l : Nat → Int} {n : Nat} {E x : Int} {A : Option Addr} {m c : Nat} {W : World} (r : Lw ck l n E x A m c W) (o : Obj) : Lw ck l n E x A m c (W.alloc o) := r.later ((Below.refl _ _).alloc (Nat.le_refl _) _)
theorem Lw.drew {ck : Int} {l : Nat → Int} {n : Nat} {E x : Int} {A : Option Addr} {m c : Nat} {W : World} (r : Lw ck l n E x A m c W) : Lw ck l n E x A m c W.drew := r
theorem Lw.set {ck : Int} {l : Nat → Int} {n : Nat} {E x : Int} {A : Option Addr} {m c : Nat} {W : World} (r : Lw ck l n E x A m c W) (B i : Nat) (u : Value) (h : ∀ a, A = some a → a.block ≠ B) : Lw ck l n E x A m c (W.setCell ⟨B, i, none⟩ u) := ⟨r.1, fun q => ⟨(r.2.1 q).1, (r.2.1 q).2.set B i u h⟩, r.2.2⟩
theorem Lw.none (ck : Int) (l : Nat → Int) (n : Nat) (E : Int) (W : World) (h : E ≠ 0) : Lw ck l n E 0 none 0 0 W := ⟨by rw [if_neg h], fun q => absurd q h, fun _ => rfl⟩
/-- a call's answer is a law, or nothing -/
def LwP (ck : Int) (l : Nat → Int) (n : Nat) (E : Int) (w : World) (e : Ending) (w' : World) : Prop :=
  ∃ (x : Int) (A : Option Addr) (m c : Nat), e = .returned (.tuple #[.agg #[.int .i64 x, .slice A m c], .int .i64 E]) ∧ Lw ck l n E x A m c w' ∧ (∀ a, A = some a → w.heap.size ≤ a.block) ∧ (∀ a, A = some a → a.block < w'.heap.size) ∧ Below w.heap.size w w'
theorem LwP.bad {ck : Int} {l : Nat → Int} {n : Nat} {E : Int} {w : World} {e : Ending} {w' : World} (h : E ≠ 0) (he : e = .returned (.tuple #[.agg #[.int .i64 0, .slice none 0 0], .int .i64 E])) (hb : Below w.heap.size w w') : LwP ck l n E w e w' :=
  ⟨0, none, 0, 0, he, Lw.none _ _ _ _ _ h, fun a e => (by cases e), fun a e => (by cases e), hb⟩
theorem LwP.good {ck : Int} {l : Nat → Int} {n g c : Nat} {w : World} {e : Ending} {w' : World} (he : e = .returned (.tuple #[.agg #[.int .i64 ck, .slice (some ⟨g, 0, none⟩) n c], .int .i64 0])) (h0 : w.heap.size ≤ g) (h1 : g < w'.heap.size) (hi : InAt (some ⟨g, 0, none⟩) n l w') (hb : Below w.heap.size w w') : LwP ck l n 0 w e w' :=
  ⟨ck, some ⟨g, 0, none⟩, n, c, he, ⟨by rw [if_pos rfl], fun _ => ⟨rfl, hi⟩, fun q => absurd rfl q⟩, fun a e => (by cases e; exact h0), fun a e => (by cases e; exact h1), hb⟩
theorem ch_lw {ck : Int} {t f : Nat → Int} {n : Nat} {E : Int} {w : World} {e : Ending} {w' : World} (h : chPost ck t f n E w e w') (hn : E = 0 → 0 < n) : LwP ck (chT t f) n E w e w' := by
  obtain ⟨A, m, c, e1, hg, hbad, hb⟩ := h
  refine ⟨_, A, m, c, e1, ⟨rfl, fun q => ⟨(hg q).1, (hg q).2.2.2⟩, fun q => (hbad q).2.1⟩, fun a ha => ?_, fun a ha => ?_, hb⟩
  · by_cases q : E = 0
    · exact (hg q).2.2.1 a ha
    · rw [(hbad q).1] at ha; cases ha
  · by_cases q : E = 0
    · obtain ⟨q1, q2, q3, q4⟩ := hg q
      subst ha
      have hh := World.block_lt_of_cell? _ _ (q4.at (hn q))
      have e0 : a.add 0 = a := by unfold Addr.add; rfl
      rwa [e0] at hh
    · rw [(hbad q).1] at ha; cases ha
theorem same_lw {ck : Int} {l : Nat → Int} {n : Nat} {E x x' : Int} {A A' : Option Addr} {m m' c c' : Nat} {W : World} (r : Lw ck l n E x A m c W) (r' : Lw ck l n E x' A' m' c' W) (hn : n ≤ 1000) :
    Calls Tryz.prog 15 #[.agg #[.int .i64 x, .slice A m c], .agg #[.int .i64 x', .slice A' m' c']] W fun e w' => e = .returned (.bool true) ∧ Below W.heap.size W w' := by
  obtain ⟨r1, r2, r3⟩ := r
  obtain ⟨s1, s2, s3⟩ := r'
  subst r1 s1
  by_cases q : E = 0
  · obtain ⟨rfl, i1⟩ := r2 q
    obtain ⟨rfl, i2⟩ := s2 q
    exact same_eq _ _ _ _ _ _ _ _ W hn (fun _ _ => rfl) i1 i2
  · have r4 := r3 q
    have s4 := s3 q
    subst r4
    subst s4
    exact same_eq _ 0 _ _ _ _ l l W (by omega) (fun i hi => absurd hi (Nat.not_lt_zero i)) (InAt.zero _ _ _) (InAt.zero _ _ _)
theorem ch_rl (t f : Nat → Int) (n : Nat) : chE t f n = rlE (chT t f) n := by
  by_cases q : chB t f n = true
  · obtain ⟨i, hi, ht, hb⟩ := (chB_iff _ _ _).1 q
    rw [rlE_no _ _ i hi (by unfold chT; rw [if_neg ht]; exact hb)]
    unfold chE; rw [if_pos q]
  · rw [rlE_yes _ _ (fun i hi => ?_)]
    · unfold chE; rw [if_neg q]
    · unfold chT
      by_cases ht : t i = -1
      · rw [if_pos ht]; omega
      · rw [if_neg ht]
        by_cases hb : 1000000 < f i
        · exact absurd ((chB_iff _ _ _).2 ⟨i, hi, ht, hb⟩) q
        · omega
end Go.Proofs.YtkkaomgdlnejcaaGreatDoor
