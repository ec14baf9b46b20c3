/- Recast -/
import Derived.Test.YtnhbmmpjifliaaaGreatDoorV13
namespace Go.Proofs.YtnhbmmpjifliaaaGreatDoor
open Go.RowKit Go.Shelf RayM
set_option linter.unusedSimpArgs false
set_option linter.unusedVariables false

/-- a delay in ticks of another clock -/
def rcF (d : Dl) (clock : Int) (i : Nat) : Int := (2 * (d.t i * d.ck) + clock) / (2 * clock)
def rcE1 (d : Dl) (clock : Int) : Int := fst [d.E, unl (inB clock 1 1000000) 2]
def rcE (d : Dl) (clock : Int) : Int := if rcE1 d clock = 0 then chE d.t (rcF d clock) d.n else rcE1 d clock
theorem rcE1_zero (d : Dl) (clock : Int) : rcE1 d clock = 0 ↔ d.E = 0 ∧ 1 ≤ clock ∧ clock ≤ 1000000 := by
  unfold rcE1
  rw [fst_zero]
  simp only [List.mem_cons, List.not_mem_nil, or_false, forall_eq_or_imp, forall_eq, unl_inB _ _ _ _ (show (2 : Int) ≠ 0 by decide)]
theorem chPost.bad {ck : Int} {t f : Nat → Int} {n : Nat} {E : Int} {w : World} {e : Ending} {w' : World} (h : E ≠ 0) (he : e = .returned (.tuple #[.agg #[.int .i64 0, .slice none 0 0], .int .i64 E])) (hb : Below w.heap.size w w') : chPost ck t f n E w e w' :=
  ⟨none, 0, 0, by rw [if_neg h]; exact he, fun q => absurd q h, fun _ => ⟨rfl, rfl, rfl⟩, hb⟩
theorem chPost.good {ck : Int} {t f : Nat → Int} {n : Nat} {w : World} {e : Ending} {w' : World} {A : Option Addr} {c : Nat} (he : e = .returned (.tuple #[.agg #[.int .i64 ck, .slice A n c], .int .i64 0])) (hA : A ≠ none) (hB : ∀ a, A = some a → w.heap.size ≤ a.block) (hi : InAt A n (chT t f) w') (hb : Below w.heap.size w w') : chPost ck t f n 0 w e w' :=
  ⟨A, n, c, by rw [if_pos rfl]; exact he, fun _ => ⟨rfl, hA, hB, hi⟩, fun q => absurd rfl q, hb⟩
theorem InAt.set' {A : Option Addr} {n : Nat} {l : Nat → Int} {w w0 : World} (r : InAt A n l w) (B i : Nat) (u : Value) (h : InAt A n l w0) (hB : w0.heap.size ≤ B) : InAt A n l (w.setCell ⟨B, i, none⟩ u) := fun hn => by
  obtain ⟨a, e, hc⟩ := r hn
  obtain ⟨a', e', hc'⟩ := h hn
  obtain rfl : a = a' := by rw [e] at e'; cases e'; rfl
  refine ⟨a, e, fun j hj => setO (.inl ?_) (hc j hj)⟩
  have := World.block_lt_of_cell? _ _ (hc' j hj)
  dsimp only; omega
end Go.Proofs.YtnhbmmpjifliaaaGreatDoor
