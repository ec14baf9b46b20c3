/- what a call left of a law -/
import Derived.Test.YtnckfbejgkdhhaaGreatDoorV9
import Derived.Test.YtnckfbejgkdhhaaGreatDoorV11
namespace Go.Proofs.YtnckfbejgkdhhaaGreatDoor
open Go.RowKit Go.Shelf RayM
set_option linter.unusedSimpArgs false
set_option linter.unusedVariables false
set_option maxRecDepth 100000 in
set_option maxHeartbeats 1000000 in
theorem same_eq (ck : Int) (n : Nat) (A : Option Addr) (c : Nat) (B : Option Addr) (d : Nat) (l m : Nat → Int) (w : World) (hn : n ≤ 1000) (he : ∀ i, i < n → l i = m i) (h : InAt A n l w) (k : InAt B n m w) :
    Calls Tryz.prog 11 #[.agg #[.int .i64 ck, .slice A n c], .agg #[.int .i64 ck, .slice B n d]] w fun e w' => e = .returned (.bool true) ∧ Below w.heap.size w w' := by
  have HA := Lib.hid h; have HB := Lib.hid k
  clear h k
  have HI : Hid (∀ w, InAt A n l w → InAt B n m w → Calls Tryz.prog 29 #[.slice A n c, .slice B n d] w fun e w' => e = .returned (.bool true) ∧ Below w.heap.size w w') := Lib.hid (fun w h k => by have := ints_any A n c l B n d m w hn (by omega) h k; rw [(eqB_iff l n m n).2 ⟨rfl, he⟩] at this; exact this)
  go_enter Tryz.func11, Tryz.ntmps11
  go_wp2_with (go_at_call 29; (with_reducible refine (HI.out _ (HA.out.later (by repeat (first | exact Below.refl _ _ | refine Below.alloc ?_ (by first | omega | (simp; done) | (simp; omega)) _))) (HB.out.later (by repeat (first | exact Below.refl _ _ | refine Below.alloc ?_ (by first | omega | (simp; done) | (simp; omega)) _)))).mono ?_); rintro e w1 ⟨rfl, hb1⟩; have H1 := Lib.hid (Below.trans (by repeat (first | exact Below.refl _ _ | refine Below.alloc ?_ (by first | omega | (simp; done) | (simp; omega)) _)) (hb1.mono (by simp; omega)) : Below w.heap.size w w1); clear hb1)
  go_ret
  exact ⟨rfl, H1.out⟩
theorem InAt.set {A : Option Addr} {n : Nat} {l : Nat → Int} {w : World} (r : InAt A n l w) (B i : Nat) (u : Value) (h : ∀ a, A = .some a → a.block ≠ B) : InAt A n l (w.setCell ⟨B, i, none⟩ u) := fun hn => by
  obtain ⟨a, e, hc⟩ := r hn
  exact ⟨a, e, fun j hj => setO (.inl (by have := h a e; unfold Addr.add; split <;> exact this)) (hc j hj)⟩
/-- what a call left of a law: the law, or nothing -/
def Lw (ck : Int) (l : Nat → Int) (n : Nat) (E x : Int) (A : Option Addr) (m c : Nat) (W : World) : Prop :=
  x = (if E = 0 then ck else 0) ∧ (E = 0 → m = n ∧ InAt A n l W) ∧ (E ≠ 0 → A = none ∧ m = 0 ∧ c = 0)
theorem Lw.later {ck : Int} {l : Nat → Int} {n : Nat} {E x : Int} {A : Option Addr} {m c : Nat} {W W' : World} (r : Lw ck l n E x A m c W) (hb : Below W.heap.size W W') : Lw ck l n E x A m c W' := ⟨r.1, fun q => ⟨(r.2.1 q).1, (r.2.1 q).2.later hb⟩, r.2.2⟩
theorem Lw.alloc {ck : Int} {l : Nat → Int} {n : Nat} {E x : Int} {A : Option Addr} {m c : Nat} {W : World} (r : Lw ck l n E x A m c W) (o : Obj) : Lw ck l n E x A m c (W.alloc o) := r.later ((Below.refl _ _).alloc (Nat.le_refl _) _)
theorem Lw.drew {ck : Int} {l : Nat → Int} {n : Nat} {E x : Int} {A : Option Addr} {m c : Nat} {W : World} (r : Lw ck l n E x A m c W) : Lw ck l n E x A m c W.drew := r
theorem Lw.set {ck : Int} {l : Nat → Int} {n : Nat} {E x : Int} {A : Option Addr} {m c : Nat} {W : World} (r : Lw ck l n E x A m c W) (B i : Nat) (u : Value) (h : ∀ a, A = some a → a.block ≠ B) : Lw ck l n E x A m c (W.setCell ⟨B, i, none⟩ u) := ⟨r.1, fun q => ⟨(r.2.1 q).1, (r.2.1 q).2.set B i u h⟩, r.2.2⟩
theorem Lw.none (ck : Int) (l : Nat → Int) (n : Nat) (E : Int) (W : World) (h : E ≠ 0) : Lw ck l n E 0 none 0 0 W := ⟨by rw [if_neg h], fun q => absurd q h, fun _ => ⟨rfl, rfl, rfl⟩⟩
/-- a call's answer is a law, or nothing -/
def LwP (ck : Int) (l : Nat → Int) (n : Nat) (E : Int) (w : World) (e : Ending) (w' : World) : Prop :=
  ∃ (x : Int) (A : Option Addr) (m c : Nat), e = .returned (.tuple #[.agg #[.int .i64 x, .slice A m c], .int .i64 E]) ∧ Lw ck l n E x A m c w' ∧ (∀ a, A = some a → w.heap.size ≤ a.block) ∧ (∀ a, A = some a → a.block < w'.heap.size) ∧ Below w.heap.size w w'
theorem LwP.bad {ck : Int} {l : Nat → Int} {n : Nat} {E : Int} {w : World} {e : Ending} {w' : World} (h : E ≠ 0) (he : e = .returned (.tuple #[.agg #[.int .i64 0, .slice none 0 0], .int .i64 E])) (hb : Below w.heap.size w w') : LwP ck l n E w e w' :=
  ⟨0, none, 0, 0, he, Lw.none _ _ _ _ _ h, fun a e => (by cases e), fun a e => (by cases e), hb⟩
theorem LwP.good {ck : Int} {l : Nat → Int} {n g c : Nat} {w : World} {e : Ending} {w' : World} (he : e = .returned (.tuple #[.agg #[.int .i64 ck, .slice (some ⟨g, 0, none⟩) n c], .int .i64 0])) (h0 : w.heap.size ≤ g) (h1 : g < w'.heap.size) (hi : InAt (some ⟨g, 0, none⟩) n l w') (hb : Below w.heap.size w w') : LwP ck l n 0 w e w' :=
  ⟨ck, some ⟨g, 0, none⟩, n, c, he, ⟨by rw [if_pos rfl], fun _ => ⟨rfl, hi⟩, fun q => absurd rfl q⟩, fun a e => (by cases e; exact h0), fun a e => (by cases e; exact h1), hb⟩
theorem same_lw {ck : Int} {l l' : Nat → Int} {n : Nat} {E x x' : Int} {A A' : Option Addr} {m m' c c' : Nat} {W : World} (r : Lw ck l n E x A m c W) (r' : Lw ck l' n E x' A' m' c' W) (hl : E = 0 → ∀ i, i < n → l i = l' i) (hn : n ≤ 1000) :
    Calls Tryz.prog 11 #[.agg #[.int .i64 x, .slice A m c], .agg #[.int .i64 x', .slice A' m' c']] W fun e w' => e = .returned (.bool true) ∧ Below W.heap.size W w' := by
  obtain ⟨r1, r2, r3⟩ := r
  obtain ⟨s1, s2, s3⟩ := r'
  subst r1 s1
  by_cases q : E = 0
  · obtain ⟨rfl, i1⟩ := r2 q
    obtain ⟨rfl, i2⟩ := s2 q
    exact same_eq _ _ _ _ _ _ _ _ W hn (hl q) i1 i2
  · obtain ⟨rfl, rfl, rfl⟩ := r3 q
    obtain ⟨rfl, rfl, rfl⟩ := s3 q
    exact same_eq _ 0 _ _ _ _ l l' W (by omega) (fun i hi => absurd hi (Nat.not_lt_zero i)) (InAt.zero _ _ _) (InAt.zero _ _ _)
end Go.Proofs.YtnckfbejgkdhhaaGreatDoor
