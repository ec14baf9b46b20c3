/- copies of arrays and laws; lists of numbers; the example -/
import Derived.Test.YtnckfbejgkdhhaaGreatDoorV7
import Derived.Test.YtnckfbejgkdhhaaGreatDoorV8
namespace Go.Proofs.YtnckfbejgkdhhaaGreatDoor
open Go.RowKit Go.Shelf RayM
set_option linter.unusedSimpArgs false
set_option linter.unusedVariables false
set_option maxRecDepth 100000 in
set_option maxHeartbeats 1000000 in
theorem copyLaw_any (d : Dl) (A : Option Addr) (c : Nat) (w : World) (hm : d.n ≤ 1000) (hA : A = none → d.n = 0 ∧ c = 0) (h : InAt A d.n d.t w) :
    Calls Tryz.prog 7 #[.agg #[.int .i64 d.ck, .slice A d.n c]] w fun e w' => ∃ v : Value, e = .returned (.agg #[.int .i64 d.ck, v]) ∧ w'.ownsRow w.heap.size 3 1 v d.n (mvs d.t d.n) ∧ Below w.heap.size w w' := by
  have HX := Lib.hid h
  have HC := Lib.hid (fun w h => copyInts_any A d.n c d.t w hm hA h); clear h hA
  go_enter Tryz.func7, Tryz.ntmps7
  go_wp2_with fail
  refine (HC.out _ (HX.out.later (by repeat (first | exact Below.refl _ _ | refine Below.drew ?_ | refine below_drewN ?_ _ | refine Below.setCell ?_ (by first | omega | (simp; done) | (simp; omega)) _ | refine Below.alloc ?_ (by first | omega | (simp; done) | (simp; omega)) _)))).mono ?_
  rintro e w1 ⟨v5, rfl, hown5, hb1⟩
  have qw10 : w1.cell? ⟨w.heap.size, 0, none⟩ = some (.int .i64 d.ck) := cell_later hb1 (by simp [go_sem])
  have qw11 : w1.cell? ⟨w.heap.size, 1, none⟩ = some (.slice A d.n c) := cell_later hb1 (by simp [go_sem])
  have qw12 : w1.cell? ⟨w.heap.size + 1, 0, none⟩ = some (.int .i64 0) := cell_later hb1 (by simp [go_sem])
  have qw13 : w1.cell? ⟨w.heap.size + 1, 1, none⟩ = some (.slice none 0 0) := cell_later hb1 (by simp [go_sem])
  have qw1f0 : w1.frozen? ⟨w.heap.size, 1, none⟩ = false := frozen_after hb1 (v := .slice A d.n c) (by simp [go_sem]) (by simp [go_sem])
  have qw1f1 : w1.frozen? ⟨w.heap.size + 1, 0, none⟩ = false := frozen_after hb1 (v := .int .i64 0) (by simp [go_sem]) (by simp [go_sem])
  have qw1f2 : w1.frozen? ⟨w.heap.size + 1, 1, none⟩ = false := frozen_after hb1 (v := .slice none 0 0) (by simp [go_sem]) (by simp [go_sem])
  have zqw1_0 := World.block_lt_of_cell? _ _ qw10
  dsimp only at zqw1_0
  have zqw1_2 := World.block_lt_of_cell? _ _ qw12
  dsimp only at zqw1_2
  have zz := hb1.size
  simp at zz
  have HO5 := Lib.hid (own_base hown5 (show w.heap.size + 2 ≤ _ by simp))
  have H1 : Hid (Below w.heap.size w w1) := Lib.hid (below_after (by repeat (first | exact Below.refl _ _ | refine Below.drew ?_ | refine below_drewN ?_ _ | refine Below.setCell ?_ (by first | omega | (simp; done) | (simp; omega)) _ | refine Below.alloc ?_ (by first | omega | (simp; done) | (simp; omega)) _)) hb1 (by first | omega | (simp; done) | (simp; omega))); clear hb1
  obtain ⟨A5, c5, rfl, _⟩ := own_form hown5
  clear hown5
  go_wp2
  exact bodyPost_ret (v := .agg #[.int .i64 d.ck, .slice A5 d.n c5]) (by simp [results, Tryz.results7, go_sem, World.cell?_alloc_past, *]) rfl ⟨.slice A5 d.n c5, rfl, own_base (by repeat (first | (with_reducible exact HO5.out) | (refine own_set ?_ _ _ _ (by first | omega | (simp; omega))))) (show w.heap.size ≤ w.heap.size + 2 by omega), (by (repeat (first | (with_reducible exact H1.out) | (with_reducible refine Below.setCell ?_ ?_ _) | (with_reducible refine below_alloc_top ?_ _) | (with_reducible refine Below.drew ?_))); all_goals (first | omega | (simp; done) | (simp; omega)))⟩

def hasB (l : Nat → Int) (n : Nat) (x : Int) : Bool := (List.range n).any fun i => l i == x
theorem hasB_iff (l : Nat → Int) (n : Nat) (x : Int) : hasB l n x = true ↔ ∃ i, i < n ∧ l i = x := by simp [hasB]
theorem hasB_not (l : Nat → Int) (n : Nat) (x : Int) (h : ∀ i, i < n → l i ≠ x) : hasB l n x = false := by
  rw [Bool.eq_false_iff]; intro k
  obtain ⟨i, hi, e⟩ := (hasB_iff l n x).1 k
  exact h i hi e
def eqB (l : Nat → Int) (n : Nat) (m : Nat → Int) (k : Nat) : Bool := decide (n = k) && (List.range n).all fun i => l i == m i
theorem eqB_iff (l : Nat → Int) (n : Nat) (m : Nat → Int) (k : Nat) : eqB l n m k = true ↔ n = k ∧ ∀ i, i < n → l i = m i := by simp [eqB]
theorem eqB_not (l : Nat → Int) (n : Nat) (m : Nat → Int) (k : Nat) (h : ¬ (n = k ∧ ∀ i, i < n → l i = m i)) : eqB l n m k = false := by
  rw [Bool.eq_false_iff]; intro q
  exact h ((eqB_iff l n m k).1 q)
set_option maxRecDepth 100000 in
set_option maxHeartbeats 1000000 in
theorem ints_any (A : Option Addr) (n c : Nat) (l : Nat → Int) (B : Option Addr) (k d : Nat) (m : Nat → Int) (w : World) (hm : n ≤ 1000) (hk : k ≤ 9223372036854775807) (h : InAt A n l w) (g : InAt B k m w) :
    Calls Tryz.prog 29 #[.slice A n c, .slice B k d] w fun e w' => e = .returned (.bool (eqB l n m k)) ∧ Below w.heap.size w w' := by
  have HX := Lib.hid h; clear h
  have HY := Lib.hid g; clear g
  by_cases hnk : n = k
  · subst hnk
    have n0 : ((n : Int) != (n : Int)) = false := by simp
    have HR := Lib.hid (fun (h : ∀ i, i < n → l i = m i) => (eqB_iff l n m n).2 ⟨rfl, h⟩)
    have HN := Lib.hid (fun i (hi : i < n) (h : l i ≠ m i) => eqB_not l n m n (fun q => h (q.2 i hi)))
    generalize eqB l n m n = r at *
    go_enter Tryz.func29, Tryz.ntmps29
    go_wp2
    go_loopw [5] (fun s5 wr => ∃ k : Nat, k ≤ n ∧ s5 = .int .i64 (k : Int) ∧ (∀ i, i < k → l i = m i) ∧ ∃ q, wr = w.drewN q) (fun s5 _ => n - (intOf s5).toNat)
    case atStart => exact ⟨0, Nat.zero_le _, rfl, fun i hi => absurd hi (Nat.not_lt_zero i), 0, rfl⟩
    case round =>
      obtain ⟨k, hk, rfl, hZ, q, rfl⟩ := hrel
      have HZ := Lib.hid hZ; clear hZ
      by_cases hlt : k < n
      · obtain ⟨ad, rfl⟩ := HX.out.some (by omega)
        obtain ⟨bd, rfl⟩ := HY.out.some (by omega)
        have e0 := HX.out.at hlt
        have f0 := HY.out.at hlt
        have j0 : (0 : Int) ≤ (k : Int) := Int.natCast_nonneg _
        have j1 : (k : Int) < (n : Int) := by omega
        have j8 : (k : Int) < 1000 := by omega
        by_cases hg : l k = m k
        · have n1 : (l k != m k) = false := by simp [hg]
          have HG := Lib.hid hg
          clear hg
          go_wp2_with fail
          go_quiet (fail)
          go_wp2
          go_roundw
          case rel => exact ⟨k + 1, by omega, by go_num, fun i hi => by rcases Nat.lt_succ_iff_lt_or_eq.1 hi with h | h; exact HZ.out i h; rw [h]; exact HG.out, _, rfl⟩
          case measure => simp [intOf]; omega
        · have n1 : (l k != m k) = true := by simpa using hg
          have R := HN.out k hlt hg
          clear hg
          go_wp2_with fail
          go_quiet (fail)
          go_wp2
          go_ret
          exact ⟨by rw [R]; rfl, below_drewN (below_drewN (Below.refl _ _) _) _⟩
      · have hk' : k = n := by omega
        have kk : decide ((k : Int) < (n : Int)) = false := by simp; omega
        have R := HR.out (by rw [← hk']; exact HZ.out)
        clear hk'
        go_wp2
        go_ret
        exact ⟨by rw [R]; rfl, below_drewN (Below.refl _ _) _⟩
  · have n0 : ((n : Int) != (k : Int)) = true := by simp; omega
    rw [eqB_not l n m k (fun q => hnk q.1)]
    clear hnk
    go_enter Tryz.func29, Tryz.ntmps29
    go_wp2
    go_ret
    exact ⟨rfl, Below.refl _ _⟩

/-- the array of the examples -/
def two : La := ⟨fun i => if i = 0 then ⟨0, -300⟩ else ⟨0, -600⟩, 2, ⟨2500, 5000, 0, 1000⟩, 1000⟩
def twoF : Sp := ⟨0, 400⟩
theorem two_E : two.FLE twoF = 0 ∧ two.FLC twoF = 1000 ∧ two.FLX twoF = [1200, 0] := by decide +kernel
set_option maxRecDepth 100000 in
set_option maxHeartbeats 1000000 in
theorem two_any (w : World) :
    Calls Tryz.prog 14 #[] w fun e w' => ∃ A c, e = .returned (.agg #[.slice A 2 c, .int .i64 2500, .int .i64 5000, .int .i64 0, .int .i64 1000, .int .i64 1000]) ∧ SpAt A 2 two.p w' ∧ Below w.heap.size w w' := by
  go_enter Tryz.func14, Tryz.ntmps14
  go_wp2
  exact bodyPost_ret (v := .agg #[.slice (some ⟨w.heap.size + 1, 0, none⟩) 2 2, .int .i64 2500, .int .i64 5000, .int .i64 0, .int .i64 1000, .int .i64 1000]) (by simp [results, Tryz.results14, go_sem, World.cell?_alloc_past]) rfl ⟨some ⟨w.heap.size + 1, 0, none⟩, 2, rfl, (fun _ => ⟨_, rfl, fun i hi => by
    have : i = 0 ∨ i = 1 := by omega
    rcases this with rfl | rfl <;> (rw [add_off, add_off]; exact ⟨by simp [go_sem, two, World.cell?_alloc_past], by simp [go_sem, two, World.cell?_alloc_past]⟩)⟩), (by repeat (first | exact Below.refl _ _ | refine Below.drew ?_ | refine below_drewN ?_ _ | refine Below.setCell ?_ (by first | omega | (simp; done) | (simp; omega)) _ | refine Below.alloc ?_ (by first | omega | (simp; done) | (simp; omega)) _))⟩
end Go.Proofs.YtnckfbejgkdhhaaGreatDoor
