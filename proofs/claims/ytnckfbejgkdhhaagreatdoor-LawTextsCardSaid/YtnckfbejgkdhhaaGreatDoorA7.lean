/- the search for the crossing of least time -/
import Derived.Test.YtnckfbejgkdhhaaGreatDoorA6
namespace Go.Proofs.YtnckfbejgkdhhaaGreatDoor
open Go.RowKit RayM
set_option linter.unusedSimpArgs false
set_option linter.unusedVariables false

/-- the cells of a crossing in memory -/
def CrAt (c : Cr) (b : Nat) (w : World) : Prop := w.cell? ⟨b, 0, none⟩ = some (.int .i64 c.x1) ∧ w.cell? ⟨b, 1, none⟩ = some (.int .i64 c.h1) ∧ w.cell? ⟨b, 2, none⟩ = some (.int .i64 c.x2) ∧ w.cell? ⟨b, 3, none⟩ = some (.int .i64 c.h2) ∧ w.cell? ⟨b, 4, none⟩ = some (.int .i64 c.v1) ∧ w.cell? ⟨b, 5, none⟩ = some (.int .i64 c.v2)
theorem CrAt.later {c : Cr} {b : Nat} {w w1 : World} (h : CrAt c b w) (hb : Below w.heap.size w w1) : CrAt c b w1 :=
  ⟨cell_later hb h.1, cell_later hb h.2.1, cell_later hb h.2.2.1, cell_later hb h.2.2.2.1, cell_later hb h.2.2.2.2.1, cell_later hb h.2.2.2.2.2⟩

set_option maxRecDepth 100000 in
set_option maxHeartbeats 1000000 in
theorem closure_any (c : Cr) (o : c.ok) (i first : Int) (bc bf : Nat) (w : World) (hc : CrAt c bc w) (hf : w.cell? ⟨bf, 0, none⟩ = some (.int .i64 first)) (f0 : -100000 ≤ first) (f1 : first ≤ 100000) (i0 : 0 ≤ i) (i1 : first + i + 1 ≤ 100000) :
    Calls Tryz.prog 125 #[.int .i64 i, .pointer (some ⟨bc, 0, none⟩), .pointer (some ⟨bf, 0, none⟩)] w fun e w' => e = .returned (.bool (decide (0 < c.slope (first + i + 1)))) ∧ Below w.heap.size w w' := by
  obtain ⟨q0, q1, q2, q3, q4, q5⟩ := hc
  go_enter Tryz.func125, Tryz.ntmps125
  go_wp2_with (go_at_call 126; refine (slope_any c o _ _ (by omega) (by omega)).mono ?_; rintro e w1 ⟨rfl, hb⟩)
  go_ret
  exact ⟨rfl, hb⟩

set_option maxRecDepth 100000 in
set_option maxHeartbeats 1000000 in
theorem search_any (c : Cr) (o : c.ok) (n : Nat) (bc bf : Nat) (w : World) (hc : CrAt c bc w) (hf : w.cell? ⟨bf, 0, none⟩ = some (.int .i64 c.lo)) (hn : c.lo + n = c.hi) :
    Calls Tryz.prog 124 #[.int .i64 n, .func (.func 125) #[] #[.pointer (some ⟨bc, 0, none⟩), .pointer (some ⟨bf, 0, none⟩)]] w fun e w' => e = .returned (.int .i64 (c.k - c.lo)) ∧ Below w.heap.size w w' := by
  have hk := k_is c o
  have l0 : -100000 ≤ c.lo := by have := o.a1; have := o.b1; unfold Cr.lo; omega
  have l1 : c.lo ≤ 100000 := by have := o.a2; have := o.b2; unfold Cr.lo; omega
  have l2 : c.hi ≤ 100000 := by have := o.a2; have := o.b2; unfold Cr.hi; omega
  have l3 : (n : Int) ≤ 200000 := by omega
  have HK := Lib.hid hk
  have HN := Lib.hid hn
  have HF := Lib.hid hf
  have HC := Lib.hid hc
  clear hk hn hf hc
  go_enter Tryz.func124, Tryz.ntmps124
  go_wp2
  go_loopw [5, 6] (fun s5 s6 wr => ∃ lo hi : Nat, s5 = .int .i64 lo ∧ s6 = .int .i64 hi ∧ lo ≤ hi ∧ hi ≤ n ∧ Below w.heap.size w wr ∧ Hid ((∀ t : Nat, t < lo → c.slope (c.lo + t + 1) ≤ 0) ∧ (∀ t : Nat, hi ≤ t → t < n → 0 < c.slope (c.lo + t + 1)))) (fun s5 s6 _ => (intOf s6 - intOf s5).toNat)
  case atStart => exact ⟨0, n, rfl, rfl, Nat.zero_le _, Nat.le_refl _, Below.refl _ _, ⟨fun t h => by omega, fun t h1 h2 => by omega⟩⟩
  case round =>
    obtain ⟨lo, hi, rfl, rfl, h1, h2, hb, I⟩ := hrel
    by_cases hlt : lo < hi
    · have cl := closure_any c o (((lo : Int) + hi) / 2) c.lo bc bf wr (HC.out.later hb) (cell_later hb HF.out) l0 l1 (by omega) (by have := HN.out; omega)
      have em : (((lo + hi) / 2 : Nat) : Int) = ((lo : Int) + hi) / 2 := by omega
      by_cases hp : 0 < c.slope (c.lo + ((lo : Int) + hi) / 2 + 1)
      · rw [decide_eq_true hp] at cl
        have J : Hid ((∀ t : Nat, t < lo → c.slope (c.lo + t + 1) ≤ 0) ∧ (∀ t : Nat, (lo + hi) / 2 ≤ t → t < n → 0 < c.slope (c.lo + t + 1))) :=
          ⟨I.out.1, fun t t1 t2 => slope_mono c o _ _ (by omega) (by omega) (by have := HN.out; omega) hp⟩
        have CL := Lib.hid cl; have EM := Lib.hid em; clear cl hp em
        go_wp2_with fail
        refine CL.out.mono ?_
        rintro e w1 ⟨rfl, hb1⟩
        go_wp2
        go_roundw
        case rel => exact ⟨lo, (lo + hi) / 2, rfl, by rw [EM.out], by omega, by omega, below_then hb hb1, J⟩
        case measure => simp [intOf]; omega
      · rw [decide_eq_false hp] at cl
        have J : Hid ((∀ t : Nat, t < (lo + hi) / 2 + 1 → c.slope (c.lo + t + 1) ≤ 0) ∧ (∀ t : Nat, hi ≤ t → t < n → 0 < c.slope (c.lo + t + 1))) :=
          ⟨fun t t1 => by
            by_cases hq : 0 < c.slope (c.lo + t + 1)
            · exact absurd (slope_mono c o (c.lo + t + 1) (c.lo + ((lo : Int) + hi) / 2 + 1) (by omega) (by omega) (by have := HN.out; omega) hq) hp
            · omega, I.out.2⟩
        have CL := Lib.hid cl; have EM := Lib.hid em; clear cl hp em
        go_wp2_with fail
        refine CL.out.mono ?_
        rintro e w1 ⟨rfl, hb1⟩
        go_wp2
        go_roundw
        case rel => exact ⟨(lo + hi) / 2 + 1, hi, by rw [Int.natCast_add, EM.out]; rfl, rfl, by omega, by omega, below_then hb hb1, J⟩
        case measure => simp [intOf]; omega
    · have e1 : hi = lo := by omega
      subst e1
      have ek : c.k = c.lo + hi := by
        refine HK.out.unique ⟨by omega, by have := HN.out; omega, fun t t1 t2 => ?_, fun t t1 t2 => ?_⟩
        · by_cases h0 : t = c.lo
          · subst h0; exact slope_lo c o
          · have := I.out.1 (t - c.lo - 1).toNat (by omega)
            rw [show c.lo + ((t - c.lo - 1).toNat : Int) + 1 = t by omega] at this
            exact this
        · have := I.out.2 (t - c.lo - 1).toNat (by omega) (by have := HN.out; omega)
          rw [show c.lo + ((t - c.lo - 1).toNat : Int) + 1 = t by omega] at this
          exact this
      have EK : Hid (c.k - c.lo = hi) := by show c.k - c.lo = hi; omega
      clear ek
      go_wp2
      go_ret
      exact ⟨by rw [EK.out]; rfl, hb⟩
end Go.Proofs.YtnckfbejgkdhhaaGreatDoor
