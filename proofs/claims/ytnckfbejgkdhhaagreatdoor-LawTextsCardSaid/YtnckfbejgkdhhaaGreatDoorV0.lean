/- slices of numbers and places; the least and the greatest one -/
import Derived.Test.YtnckfbejgkdhhaaGreatDoorB1
namespace Go.Proofs.YtnckfbejgkdhhaaGreatDoor
open Go.RowKit RayM
set_option linter.unusedSimpArgs false
set_option linter.unusedVariables false

/-- a place -/
structure Sp where
  x : Int
  z : Int
/-- a slice of whole numbers lies somewhere -/
def InAt (A : Option Addr) (n : Nat) (l : Nat → Int) (w : World) : Prop := 0 < n → ∃ a, A = some a ∧ ∀ i, i < n → w.cell? (a.add i) = some (.int .i64 (l i))
/-- a slice of places lies somewhere -/
def SpAt (A : Option Addr) (n : Nat) (p : Nat → Sp) (w : World) : Prop := 0 < n → ∃ a, A = some a ∧ ∀ i, i < n → w.cell? (a.add (i * 2)) = some (.int .i64 (p i).x) ∧ w.cell? (a.add (i * 2 + 1)) = some (.int .i64 (p i).z)
theorem InAt.later {A : Option Addr} {n : Nat} {l : Nat → Int} {w w' : World} (r : InAt A n l w) (hb : Below w.heap.size w w') : InAt A n l w' := fun hn => by
  obtain ⟨g, e, hc⟩ := r hn
  exact ⟨g, e, fun i hi => cell_later hb (hc i hi)⟩
theorem SpAt.later {A : Option Addr} {n : Nat} {p : Nat → Sp} {w w' : World} (r : SpAt A n p w) (hb : Below w.heap.size w w') : SpAt A n p w' := fun hn => by
  obtain ⟨g, e, hc⟩ := r hn
  exact ⟨g, e, fun i hi => ⟨cell_later hb (hc i hi).1, cell_later hb (hc i hi).2⟩⟩
theorem SpAt.at {a : Addr} {n : Nat} {p : Nat → Sp} {w : World} {k : Nat} (r : SpAt (some a) n p w) (h : k < n) : w.cell? (a.add (k * 2)) = some (.int .i64 (p k).x) ∧ w.cell? ⟨(a.add (k * 2)).block, (a.add (k * 2)).off + 1, none⟩ = some (.int .i64 (p k).z) := by
  obtain ⟨a', e, hc⟩ := r (by omega)
  obtain rfl : a = a' := by simpa using e
  have hadd : ∀ (b : Addr), (⟨b.block, b.off + 1, none⟩ : Addr) = b.add 1 := fun b => by unfold Addr.add; rfl
  have hh : (a.add (k * 2)).add 1 = a.add (k * 2 + 1) := by
    unfold Addr.add
    by_cases hi : k * 2 = 0 <;> simp [hi, Nat.add_assoc]
  rw [hadd, hh]
  exact hc k h
theorem InAt.at {a : Addr} {n : Nat} {l : Nat → Int} {w : World} {k : Nat} (r : InAt (some a) n l w) (h : k < n) : w.cell? (a.add k) = some (.int .i64 (l k)) := by
  obtain ⟨a', e, hc⟩ := r (by omega)
  obtain rfl : a = a' := by simpa using e
  exact hc k h
theorem InAt.some {A : Option Addr} {n : Nat} {l : Nat → Int} {w : World} (r : InAt A n l w) (h : 0 < n) : ∃ a, A = some a := by
  obtain ⟨a, e, _⟩ := r h
  exact ⟨a, e⟩
theorem SpAt.some {A : Option Addr} {n : Nat} {l : Nat → Sp} {w : World} (r : SpAt A n l w) (h : 0 < n) : ∃ a, A = some a := by
  obtain ⟨a, e, _⟩ := r h
  exact ⟨a, e⟩
theorem InAt.zero (A : Option Addr) (l : Nat → Int) (w : World) : InAt A 0 l w := fun h => absurd h (by omega)
theorem SpAt.zero (A : Option Addr) (l : Nat → Sp) (w : World) : SpAt A 0 l w := fun h => absurd h (by omega)
/-- what a slice of our own owns lies there -/
theorem own_form {w : World} {b : Nat} {e : TypeId} {s : Nat} {v : Value} {n : Nat} {xs : List Value} (h : w.ownsRow b e s v n xs) :
    ∃ A c, v = .slice A n c ∧ (0 < n → ∃ g, A = .some ⟨g, 0, none⟩ ∧ b ≤ g ∧ g < w.heap.size ∧ ∀ j u, xs[j]? = .some u → w.cell? ⟨g, j, none⟩ = .some u) := by
  rcases h.2 with ⟨rfl, rfl⟩ | ⟨g, cap, cur, rfl, hb, hgb, r⟩
  · exact ⟨none, 0, rfl, fun h => absurd h (by omega)⟩
  · refine ⟨_, cap, rfl, fun _ => ⟨g, rfl, hb, (Array.getElem?_eq_some_iff.1 hgb).1, fun j u hu => ?_⟩⟩
    have := h.cells (g := g) rfl j u hu
    have hadd : (⟨g, 0, none⟩ : Addr).add j = ⟨g, j, none⟩ := by unfold Addr.add; split <;> simp_all
    rwa [hadd] at this
theorem own_later {w w' : World} {b : Nat} {e : TypeId} {s : Nat} {v : Value} {n : Nat} {xs : List Value} (h : w.ownsRow b e s v n xs) (hb : Below w.heap.size w w') : w'.ownsRow b e s v n xs := by
  refine ⟨h.1, ?_⟩
  rcases h.2 with hn | ⟨g, cap, cur, a, c, hh, r⟩
  · exact .inl hn
  · exact .inr ⟨g, cap, cur, a, c, (hb.block g (Array.getElem?_eq_some_iff.1 hh).1).trans hh, r⟩
theorem own_base {w : World} {b b' : Nat} {e : TypeId} {s : Nat} {v : Value} {n : Nat} {xs : List Value} (h : w.ownsRow b e s v n xs) (hb : b' ≤ b) : w.ownsRow b' e s v n xs :=
  ⟨h.1, h.2.imp id fun ⟨g, cap, cur, a, c, r⟩ => ⟨g, cap, cur, a, Nat.le_trans hb c, r⟩⟩
theorem add_off (g j : Nat) : (⟨g, 0, none⟩ : Addr).add j = ⟨g, j, none⟩ := by unfold Addr.add; split <;> simp_all
theorem own_ints {w : World} {b : Nat} {e : TypeId} {v : Value} {n : Nat} {xs : List Value} {l : Nat → Int} (hl : ∀ i, i < n → xs[i]? = .some (.int .i64 (l i))) (h : w.ownsRow b e 1 v n xs) : ∃ A c, v = .slice A n c ∧ InAt A n l w := by
  obtain ⟨A, c, e, r⟩ := own_form h
  refine ⟨A, c, e, fun hn => ?_⟩
  obtain ⟨g, e', _, _, hc⟩ := r hn
  exact ⟨_, e', fun i hi => by rw [add_off]; exact hc _ _ (hl i hi)⟩
/-- the least and the greatest of some numbers -/
def mnL (l : Nat → Int) : Nat → Int
  | 0 => l 0
  | k + 1 => min (mnL l k) (l k)
def mxL (l : Nat → Int) : Nat → Int
  | 0 => l 0
  | k + 1 => max (mxL l k) (l k)
theorem mnL_le (l : Nat → Int) : ∀ n i, i < n → mnL l n ≤ l i
  | n + 1, i, h => by
    have := mnL_le l n
    show min (mnL l n) (l n) ≤ l i
    rcases Nat.lt_succ_iff_lt_or_eq.1 h with h | h
    · have := this i h; omega
    · subst h; omega
theorem mxL_le (l : Nat → Int) : ∀ n i, i < n → l i ≤ mxL l n
  | n + 1, i, h => by
    have := mxL_le l n
    show l i ≤ max (mxL l n) (l n)
    rcases Nat.lt_succ_iff_lt_or_eq.1 h with h | h
    · have := this i h; omega
    · subst h; omega
theorem mnL_mem (l : Nat → Int) : ∀ n, 0 < n → ∃ i, i < n ∧ mnL l n = l i
  | 0, h => absurd h (by omega)
  | n + 1, _ => by
    show ∃ i, i < n + 1 ∧ min (mnL l n) (l n) = l i
    by_cases h : mnL l n ≤ l n
    · cases n with
      | zero => exact ⟨0, by omega, by show min (l 0) (l 0) = l 0; omega⟩
      | succ m =>
        obtain ⟨i, hi, e⟩ := mnL_mem l (m + 1) (by omega)
        exact ⟨i, by omega, by omega⟩
    · exact ⟨n, by omega, by omega⟩
theorem mxL_mem (l : Nat → Int) : ∀ n, 0 < n → ∃ i, i < n ∧ mxL l n = l i
  | 0, h => absurd h (by omega)
  | n + 1, _ => by
    show ∃ i, i < n + 1 ∧ max (mxL l n) (l n) = l i
    by_cases h : l n ≤ mxL l n
    · cases n with
      | zero => exact ⟨0, by omega, by show max (l 0) (l 0) = l 0; omega⟩
      | succ m =>
        obtain ⟨i, hi, e⟩ := mxL_mem l (m + 1) (by omega)
        exact ⟨i, by omega, by omega⟩
    · exact ⟨n, by omega, by omega⟩
theorem mnL_congr {l m : Nat → Int} : ∀ n, 0 < n → (∀ i, i < n → l i = m i) → mnL l n = mnL m n
  | 0, h, _ => absurd h (by omega)
  | n + 1, _, e => by
    show min (mnL l n) (l n) = min (mnL m n) (m n)
    rw [e n (by omega)]
    cases n with
    | zero => show min (l 0) _ = min (m 0) _; rw [e 0 (by omega)]
    | succ k => rw [mnL_congr (k + 1) (by omega) (fun i hi => e i (by omega))]
theorem mxL_congr {l m : Nat → Int} : ∀ n, 0 < n → (∀ i, i < n → l i = m i) → mxL l n = mxL m n
  | 0, h, _ => absurd h (by omega)
  | n + 1, _, e => by
    show max (mxL l n) (l n) = max (mxL m n) (m n)
    rw [e n (by omega)]
    cases n with
    | zero => show max (l 0) _ = max (m 0) _; rw [e 0 (by omega)]
    | succ k => rw [mxL_congr (k + 1) (by omega) (fun i hi => e i (by omega))]
set_option maxRecDepth 100000 in
set_option maxHeartbeats 1000000 in
theorem min_any (A : Option Addr) (n c : Nat) (l : Nat → Int) (w : World) (hn : 0 < n) (hm : n ≤ 1000) (h : InAt A n l w) :
    Calls Tryz.prog 92 #[.slice A n c] w fun e w' => e = .returned (.int .i64 (mnL l n)) ∧ w = w' := by
  obtain ⟨a, rfl⟩ := h.some hn
  have c0 := h.at hn
  have HX := Lib.hid h; clear h
  rw [show a.add 0 = a by unfold Addr.add; rfl] at c0
  have ML : Hid (∀ k, mnL l (k + 1) = min (mnL l k) (l k)) := fun k => rfl
  have M1 : Hid (mnL l 1 = l 0) := (by show min (l 0) (l 0) = l 0; omega : mnL l 1 = l 0)
  have n0 : (0 : Int) < (n : Int) := by omega
  have n1 : (1 : Int) ≤ (n : Int) := by omega
  go_enter Tryz.func92, Tryz.ntmps92
  go_wp2
  go_loopw [3, 4] (fun s1 s2 wr => ∃ k : Nat, 1 ≤ k ∧ k ≤ n ∧ s2 = .int .i64 (k : Int) ∧ s1 = .int .i64 (mnL l k) ∧ wr = w) (fun _ s2 _ => n - (intOf s2).toNat)
  case atStart => exact ⟨1, by omega, by omega, rfl, by rw [M1.out], rfl⟩
  case round =>
    obtain ⟨k, hk1, hk, rfl, rfl, rfl⟩ := hrel
    by_cases hlt : k < n
    · have ck := HX.out.at hlt
      have j0 : (0 : Int) ≤ (k : Int) := Int.natCast_nonneg _
      have j1 : (k : Int) < (n : Int) := by omega
      go_wp2
      go_roundw
      case rel => exact ⟨k + 1, by omega, by omega, by go_num, by rw [ML.out], by first | rfl | trivial⟩
      case measure => simp [intOf]; omega
    · obtain rfl : k = n := by omega
      go_wp2
      go_ret
      exact ⟨rfl, rfl⟩
set_option maxRecDepth 100000 in
set_option maxHeartbeats 1000000 in
theorem nearest_any (a b : Int) (w : World) (a0 : -1000000000000000000 ≤ a) (a1 : a ≤ 1000000000000000000) (b0 : 1 ≤ b) (b1 : b ≤ 1000000000000000000) :
    Calls Tryz.prog 93 #[.int .i64 a, .int .i64 b] w fun e w' => e = .returned (.int .i64 ((2 * a + b) / (2 * b))) ∧ w = w' := by
  go_enter Tryz.func93, Tryz.ntmps93
  go_wp2_with (go_at_call 53; refine (down_any _ _ _ (by omega) (by omega) (by omega) (by omega)).mono ?_; rintro e w' ⟨rfl, rfl⟩)
  go_ret
  exact ⟨rfl, rfl⟩
end Go.Proofs.YtnckfbejgkdhhaaGreatDoor
