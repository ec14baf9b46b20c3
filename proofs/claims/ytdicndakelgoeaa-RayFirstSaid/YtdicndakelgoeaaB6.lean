/- several modes: words, and the program ahead of its loops -/
import Derived.Test.YtdicndakelgoeaaB4
import Derived.Test.YtdicndakelgoeaaD3
import Derived.Deep.AppendLies
import Derived.OwnWalk
namespace Go.Proofs.Ytdicndakelgoeaa
open Go.RowKit RayM
set_option linter.unusedSimpArgs false
set_option linter.unusedVariables false

theorem infoInt : (Try.prog.info? 3).map (fun i => (i.zero, i.size, i.bytes)) = some (some (.int .i64 0), 1, 8) := by kernel_rfl
def firstFrom (g : Nat → Int) : Nat → Nat → Int
  | _, 0 => 0
  | i, m + 1 => if g i = 0 then firstFrom g (i + 1) m else g i
/-- modes, and a way of all of them -/
structure Mb where
  ms : Nat → Mo
  n : Nat
  fx : Int
  fz : Int
  tx : Int
  tz : Int
def Mb.y (x : Mb) (i : Nat) : Wy := ⟨x.ms i, x.fx, x.fz, x.tx, x.tz⟩
def Mb.g (x : Mb) (i : Nat) : Int := wyE (x.y i)
def Mb.lo (x : Mb) (i : Nat) : Int := (x.y i).cr.lLo
def Mb.hi (x : Mb) (i : Nat) : Int := (x.y i).cr.lHi
/-- the error of the modes -/
def Mb.E (x : Mb) : Int := firstFrom x.g 0 x.n
/-- the least of the greatest ends -/
def Mb.mn (x : Mb) : Nat → Int
  | 0 => x.hi 0
  | k + 1 => min (x.mn k) (x.hi k)
/-- those that may be first -/
def Mb.fl (x : Mb) (k : Nat) : List Nat := (List.range k).filter fun i => decide (x.lo i ≤ x.mn x.n)
def Mb.fv (x : Mb) (k : Nat) : List Value := (x.fl k).map fun (i : Nat) => Value.int .i64 (i : Int)
def Mb.tl (x : Mb) (k : Nat) : List Value := (List.range k).flatMap fun i => [.int .i64 (x.lo i), .int .i64 (x.hi i)]
theorem tl_succ (x : Mb) (n : Nat) : x.tl (n + 1) = x.tl n ++ [.int .i64 (x.lo n), .int .i64 (x.hi n)] := by
  unfold Mb.tl; rw [List.range_succ, List.flatMap_append]; simp
theorem tl_len (x : Mb) (n : Nat) : (x.tl n).length = n * 2 := by
  induction n with
  | zero => rfl
  | succ n ih => rw [tl_succ, List.length_append, ih]; simp; omega
theorem tl_get (x : Mb) : ∀ (n i : Nat), i < n → (x.tl n)[i * 2]? = some (.int .i64 (x.lo i)) ∧ (x.tl n)[i * 2 + 1]? = some (.int .i64 (x.hi i))
  | 0, i, h => by omega
  | n + 1, i, h => by
    have l := tl_len x n
    rw [tl_succ]
    by_cases hi : i < n
    · obtain ⟨a, b⟩ := tl_get x n i hi
      rw [List.getElem?_append_left (by omega), List.getElem?_append_left (by omega)]; exact ⟨a, b⟩
    · have : i = n := by omega
      subst this
      rw [List.getElem?_append_right (by omega), List.getElem?_append_right (by omega), l]
      simp
theorem fv_yes (x : Mb) (k : Nat) (h : x.lo k ≤ x.mn x.n) : x.fv (k + 1) = x.fv k ++ [.int .i64 (k : Int)] := by
  unfold Mb.fv Mb.fl; rw [List.range_succ, List.filter_append]; simp [h]
theorem fv_no (x : Mb) (k : Nat) (h : ¬ x.lo k ≤ x.mn x.n) : x.fv (k + 1) = x.fv k := by
  unfold Mb.fv Mb.fl; rw [List.range_succ, List.filter_append]; simp [h]
theorem fv_len (x : Mb) (k : Nat) : (x.fv k).length ≤ k := by
  unfold Mb.fv Mb.fl; rw [List.length_map]
  have := List.length_filter_le (fun i => decide (x.lo i ≤ x.mn x.n)) (List.range k)
  simpa using this
theorem first_step (g : Nat → Int) (k n : Nat) (h : k < n) : firstFrom g k (n - k) = if g k = 0 then firstFrom g (k + 1) (n - (k + 1)) else g k := by
  rw [show n - k = (n - (k + 1)) + 1 by omega]; rfl
/-- what is returned -/
def Mb.L (x : Mb) : List Value := if x.E = 0 then x.fv x.n else []
/-- the modes lie at an address -/
def MoAt (x : Mb) (a : Addr) (w : World) : Prop := ∀ i, i < x.n → w.cell? (a.add (i * 4)) = some (.int .i64 (x.ms i).wd) ∧ w.cell? (a.add (i * 4 + 1)) = some (.int .i64 (x.ms i).mt) ∧ w.cell? (a.add (i * 4 + 2)) = some (.int .i64 (x.ms i).sk) ∧ w.cell? (a.add (i * 4 + 3)) = some (.int .i64 (x.ms i).th)
theorem MoAt.later {x : Mb} {a : Addr} {w w' : World} (r : MoAt x a w) (hb : Below w.heap.size w w') : MoAt x a w' := fun i hi => by
  obtain ⟨h1, h2, h3, h4⟩ := r i hi
  exact ⟨cell_later hb h1, cell_later hb h2, cell_later hb h3, cell_later hb h4⟩
theorem add_of_add_ (a : Addr) (i j : Nat) : (a.add i).add j = a.add (i + j) := by
  unfold Addr.add
  by_cases hi : i = 0 <;> by_cases hj : j = 0 <;> simp [hi, hj, Nat.add_assoc]
theorem own_below {w w' : World} {b : Nat} {e : TypeId} {s : Nat} {v : Value} {n : Nat} {xs : List Value} (h : w.ownsRow b e s v n xs) (hb : Below w.heap.size w w') : w'.ownsRow b e s v n xs := by
  refine ⟨h.1, ?_⟩
  rcases h.2 with hn | ⟨g, cap, cur, a, c, hh, r⟩
  · exact .inl hn
  · have lt : g < w.heap.size := by
      rcases Nat.lt_or_ge g w.heap.size with q | q
      · exact q
      · rw [Array.getElem?_eq_none q] at hh; cases hh
    exact .inr ⟨g, cap, cur, a, c, (hb.block g lt).trans hh, r⟩
theorem add_form (a : Addr) (n : Nat) (h : n ≠ 0) : a.add n = ⟨a.block, a.off + n, none⟩ := by unfold Addr.add; rw [if_neg h]
theorem MoAt.cells {x : Mb} {a : Addr} {w : World} (r : MoAt x a w) {k : Nat} (h : k < x.n) : w.cell? (a.add (k * 4)) = some (.int .i64 (x.ms k).wd) ∧ w.cell? ⟨(a.add (k * 4)).block, (a.add (k * 4)).off + 1, none⟩ = some (.int .i64 (x.ms k).mt) ∧ w.cell? ⟨(a.add (k * 4)).block, (a.add (k * 4)).off + 2, none⟩ = some (.int .i64 (x.ms k).sk) ∧ w.cell? ⟨(a.add (k * 4)).block, (a.add (k * 4)).off + 3, none⟩ = some (.int .i64 (x.ms k).th) := by
  rw [← add_form (a.add (k * 4)) 1 (by decide), ← add_form (a.add (k * 4)) 2 (by decide), ← add_form (a.add (k * 4)) 3 (by decide), add_of_add_, add_of_add_, add_of_add_]; exact r k h
set_option maxRecDepth 100000 in
set_option maxHeartbeats 1000000 in
theorem count_any (n : Int) (w : World) : Calls Try.prog 121 #[.int .i64 n, .int .i64 8] w fun e w' => e = .returned (.int .i64 (fst [unl (decide (0 < n)) 10, unl (decide (n ≤ 8)) 8])) ∧ Below w.heap.size w w' := by
  by_cases h1 : 0 < n
  · rw [decide_eq_true h1]
    by_cases h2 : n ≤ 8
    · rw [decide_eq_true h2]
      go_enter Try.func121, Try.ntmps121
      go_wp2_with (first
        | (go_at_call 122; (with_reducible refine (unless_any _ _ _).mono ?_); rintro e w' ⟨rfl, rfl⟩)
        | (go_at_call 93; refine (firstError_any _ [unl true 10, unl true 8] _ (by simp) (by first | exact cells_drew _ _ (by simp) _ _ | exact cells_new _ _ (by simp) _ _)).mono ?_; rintro e w' ⟨rfl, rfl⟩))
      go_ret
      exact ⟨rfl, (by repeat (first | exact Below.refl _ _ | refine Below.drew ?_ | refine below_drewN ?_ _ | refine Below.setCell ?_ (by first | omega | (simp; done) | (simp; omega)) _ | refine Below.alloc ?_ (by first | omega | (simp; done) | (simp; omega)) _))⟩
    · rw [decide_eq_false h2]
      have h2' : 8 < n := by omega
      have d2 : decide (n ≤ 8) = false := by simp; omega
      clear h2
      go_enter Try.func121, Try.ntmps121
      go_wp2_with (first
        | (go_at_call 122; (with_reducible refine (unless_any _ _ _).mono ?_); rintro e w' ⟨rfl, rfl⟩)
        | (go_at_call 93; refine (firstError_any _ [unl true 10, unl false 8] _ (by simp) (by first | exact cells_drew _ _ (by simp) _ _ | exact cells_new _ _ (by simp) _ _)).mono ?_; rintro e w' ⟨rfl, rfl⟩))
      go_ret
      exact ⟨rfl, (by repeat (first | exact Below.refl _ _ | refine Below.drew ?_ | refine below_drewN ?_ _ | refine Below.setCell ?_ (by first | omega | (simp; done) | (simp; omega)) _ | refine Below.alloc ?_ (by first | omega | (simp; done) | (simp; omega)) _))⟩
  · rw [decide_eq_false h1]
    by_cases h2 : n ≤ 8
    · rw [decide_eq_true h2]
      go_enter Try.func121, Try.ntmps121
      go_wp2_with (first
        | (go_at_call 122; (with_reducible refine (unless_any _ _ _).mono ?_); rintro e w' ⟨rfl, rfl⟩)
        | (go_at_call 93; refine (firstError_any _ [unl false 10, unl true 8] _ (by simp) (by first | exact cells_drew _ _ (by simp) _ _ | exact cells_new _ _ (by simp) _ _)).mono ?_; rintro e w' ⟨rfl, rfl⟩))
      go_ret
      exact ⟨rfl, (by repeat (first | exact Below.refl _ _ | refine Below.drew ?_ | refine below_drewN ?_ _ | refine Below.setCell ?_ (by first | omega | (simp; done) | (simp; omega)) _ | refine Below.alloc ?_ (by first | omega | (simp; done) | (simp; omega)) _))⟩
    · exact absurd (show n ≤ 8 by omega) h2
set_option maxRecDepth 100000 in
set_option maxHeartbeats 1000000 in
theorem mb_count (A : Option Addr) (n c : Nat) (fx fz tx tz : Int) (h : n = 0 ∨ 8 < n) (w : World) :
    Calls Try.prog 64 #[.slice A n c, .agg #[.int .i64 fx, .int .i64 fz], .agg #[.int .i64 tx, .int .i64 tz]] w fun e w' => e = .returned (.tuple #[.slice none 0 0, .int .i64 (if n = 0 then 10 else 8)]) ∧ Below w.heap.size w w' := by
  have hv : fst [unl (decide (0 < (n : Int))) 10, unl (decide ((n : Int) ≤ 8)) 8] = if n = 0 then 10 else 8 := by
    rcases h with h | h
    · subst h; rfl
    · rw [decide_eq_true (show 0 < (n : Int) by omega), decide_eq_false (show ¬ (n : Int) ≤ 8 by omega), if_neg (by omega)]; rfl
  have hn : (if n = 0 then (10 : Int) else 8) ≠ 0 := by split <;> decide
  have HC := Lib.hid (fun w => count_any (n : Int) w)
  rw [hv] at HC
  generalize (if n = 0 then (10 : Int) else 8) = r at *
  have n1 : (r != 0) = true := by simpa using hn
  clear hv hn h
  go_enter Try.func64, Try.ntmps64
  go_wp2_with fail
  refine (HC.out _).mono ?_
  rintro e w1 ⟨rfl, hb1⟩

  have H1 : Hid (Below w.heap.size w w1) := Lib.hid (below_after (by repeat (first | exact Below.refl _ _ | refine Below.drew ?_ | refine below_drewN ?_ _ | refine Below.setCell ?_ (by first | omega | (simp; done) | (simp; omega)) _ | refine Below.alloc ?_ (by first | omega | (simp; done) | (simp; omega)) _)) hb1 (by first | omega | (simp; done) | (simp; omega))); clear hb1
  go_wp2
  go_ret2
  exact ⟨rfl, H1.out⟩
end Go.Proofs.Ytdicndakelgoeaa
