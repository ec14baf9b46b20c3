/- laws with changed ticks -/
import Derived.Test.YtnhbmmpjifliaaaGreatDoorV12
import Derived.StillTailTactics
namespace Go.Proofs.YtnhbmmpjifliaaaGreatDoor
open Go.RowKit Go.Shelf RayM
set_option linter.unusedSimpArgs false
set_option linter.unusedVariables false

theorem InAt.set {A : Option Addr} {n : Nat} {l : Nat → Int} {w : World} (r : InAt A n l w) (B i : Nat) (u : Value) (h : ∀ a, A = .some a → a.block ≠ B) : InAt A n l (w.setCell ⟨B, i, none⟩ u) := fun hn => by
  obtain ⟨a, e, hc⟩ := r hn
  exact ⟨a, e, fun j hj => setO (.inl (by have := h a e; unfold Addr.add; split <;> exact this)) (hc j hj)⟩
/-- a row of our own: its cells, and that they may be written -/
def RowW (g n : Nat) (l : Nat → Int) (w : World) : Prop := ∀ i, i < n → w.cell? ⟨g, i, none⟩ = some (.int .i64 (l i)) ∧ w.frozen? ⟨g, i, none⟩ = false
theorem own_row {w : World} {b : Nat} {e : TypeId} {v : Value} {n : Nat} {l : Nat → Int} (h : w.ownsRow b e 1 v n (mvs l n)) (hn : 0 < n) : ∃ g c, v = .slice (some ⟨g, 0, none⟩) n c ∧ b ≤ g ∧ g < w.heap.size ∧ RowW g n l w := by
  have h2 := h.2
  rcases h2 with ⟨q, q2⟩ | ⟨g, cap, cur, rfl, hb, hgb, r⟩
  · omega
  · refine ⟨g, cap, rfl, hb, (Array.getElem?_eq_some_iff.1 hgb).1, fun i hi => ⟨?_, by simp [World.frozen?, hgb]⟩⟩
    have := h.cells (g := g) rfl i _ (mvs_get l n i hi)
    rwa [add_off] at this
theorem RowW.later {g n : Nat} {l : Nat → Int} {w w' : World} (r : RowW g n l w) (hb : Below w.heap.size w w') : RowW g n l w' := fun i hi => ⟨cell_later hb (r i hi).1, frozen_after hb (r i hi).1 (r i hi).2⟩
theorem RowW.set {g n : Nat} {l : Nat → Int} {w : World} (r : RowW g n l w) (B i : Nat) (u : Value) (h : B ≠ g) : RowW g n l (w.setCell ⟨B, i, none⟩ u) := fun j hj => ⟨setO (.inl (by dsimp only; omega)) (r j hj).1, setF (r j hj).2⟩
theorem RowW.put {g n : Nat} {l l' : Nat → Int} {w : World} (r : RowW g n l w) (i : Nat) (x : Int) (hi : i < n) (e : ∀ j, j < n → l' j = if j = i then x else l j) : RowW g n l' (w.setCell ⟨g, i, none⟩ (.int .i64 x)) := fun j hj => by
  refine ⟨?_, setF (r j hj).2⟩
  rw [e j hj]
  by_cases q : j = i
  · subst q; rw [if_pos rfl]; exact setS (r j hj).1
  · rw [if_neg q]; exact setO (.inr (by dsimp only; omega)) (r j hj).1
theorem RowW.at {g n : Nat} {l : Nat → Int} {w : World} (r : RowW g n l w) : InAt (some ⟨g, 0, none⟩) n l w := fun _ => ⟨_, rfl, fun i hi => by rw [add_off]; exact (r i hi).1⟩
/-- the ticks when k of those that send are changed -/
def cur (t f : Nat → Int) (n k x : Nat) : Int := if x ∈ (sdL t n).take k then f x else t x
theorem sdL_nodup (t : Nat → Int) (n : Nat) : (sdL t n).Nodup := List.Pairwise.filter _ (List.nodup_range : (List.range n).Nodup)
theorem cur_zero (t f : Nat → Int) (n x : Nat) : cur t f n 0 x = t x := by simp [cur]
theorem cur_at (t f : Nat → Int) (n k i : Nat) (h : (sdL t n)[k]? = some i) : cur t f n k i = t i := by
  unfold cur
  rw [if_neg]
  intro q
  obtain ⟨j, hj, e⟩ := List.mem_take_iff_getElem.1 q
  obtain ⟨h1, h2⟩ := List.getElem?_eq_some_iff.1 h
  have hj1 : j < k := by omega
  exact absurd ((List.getElem_inj (sdL_nodup t n)).1 (e.trans h2.symm)) (by omega)
theorem cur_next (t f : Nat → Int) (n k i x : Nat) (h : (sdL t n)[k]? = some i) : cur t f n (k + 1) x = if x = i then f i else cur t f n k x := by
  have e : (sdL t n).take (k + 1) = (sdL t n).take k ++ [i] := by rw [List.take_add_one, h]; rfl
  unfold cur
  rw [e]
  by_cases q : x = i
  · subst q; simp
  · simp [q]
theorem cur_end (t f : Nat → Int) (n x : Nat) (hx : x < n) : cur t f n (sdL t n).length x = if t x = -1 then t x else f x := by
  unfold cur
  rw [List.take_length]
  by_cases q : t x = -1
  · rw [if_pos q, if_neg (fun k => ((sdL_mem t n x).1 k).2 q)]
  · rw [if_neg q, if_pos ((sdL_mem t n x).2 ⟨hx, q⟩)]
/-- the error of changed ticks, and what they are -/
def chB (t f : Nat → Int) (n : Nat) : Bool := (sdL t n).any fun i => decide (1000000 < f i)
def chE (t f : Nat → Int) (n : Nat) : Int := if chB t f n then 8 else 0
def chT (t f : Nat → Int) (x : Nat) : Int := if t x = -1 then t x else f x
theorem chB_iff (t f : Nat → Int) (n : Nat) : chB t f n = true ↔ ∃ i, i < n ∧ t i ≠ -1 ∧ 1000000 < f i := by
  simp [chB, sdL_mem, and_assoc]
theorem chE_big (t f : Nat → Int) (n k i : Nat) (h : (sdL t n)[k]? = some i) (hi : i < n) (ht : t i ≠ -1) (hb : 1000000 < f i) : chE t f n = 8 := by
  unfold chE; rw [if_pos ((chB_iff t f n).2 ⟨i, hi, ht, hb⟩)]
theorem chE_small (t f : Nat → Int) (n : Nat) (h : ∀ k i : Nat, (sdL t n)[k]? = some i → f i ≤ 1000000) : chE t f n = 0 := by
  unfold chE
  rw [if_neg]
  intro q
  obtain ⟨i, hi, ht, hb⟩ := (chB_iff t f n).1 q
  obtain ⟨k, hk, e⟩ := List.getElem_of_mem ((sdL_mem t n i).2 ⟨hi, ht⟩)
  have := h k i (by rw [List.getElem?_eq_getElem hk, e])
  omega
/-- what 'changed' returns -/
def chPost (ck : Int) (t f : Nat → Int) (n : Nat) (E : Int) (w : World) (e : Ending) (w' : World) : Prop :=
  ∃ (A : Option Addr) (n' c' : Nat), e = .returned (.tuple #[.agg #[.int .i64 (if E = 0 then ck else 0), .slice A n' c'], .int .i64 E]) ∧ (E = 0 → n' = n ∧ A ≠ none ∧ (∀ a, A = some a → w.heap.size ≤ a.block) ∧ InAt A n (chT t f) w') ∧ (E ≠ 0 → A = none ∧ n' = 0 ∧ c' = 0) ∧ Below w.heap.size w w'
end Go.Proofs.YtnhbmmpjifliaaaGreatDoor
