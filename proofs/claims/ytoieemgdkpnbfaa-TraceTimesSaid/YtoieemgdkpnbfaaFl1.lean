/- first contracts of a program of traces -/
import Derived.Test.YtoieemgdkpnbfaaFl0
import Derived.Test.YtoieemgdkpnbfaaRows
import Derived.Test.YtoieemgdkpnbfaaMath
import Derived.WalkKit
import Derived.WalkSpells
import Derived.WalkLawsBesides
import Derived.Lib.Hide
import Derived.StillTailTactics
import Derived.Deep.QuietTactic
import Derived.BigQuiet
import Derived.Deep.RegionHeld3
import Derived.Deep.MidRow
import Derived.RowKit3
import Derived.Lib.Small
namespace Go.Proofs.Ytoieemgdkpnbfaa
open Go.RowKit RayM
set_option linter.unusedSimpArgs false
set_option linter.unusedVariables false
def inB (n l m : Int) : Bool := decide (l ≤ n) && decide (n ≤ m)
def unl (b : Bool) (e : Int) : Int := if b then 0 else e
set_option maxHeartbeats 400000 in
theorem unless_any (b : Bool) (n : Int) (w : World) :
    Calls Try.prog 67 #[.bool b, .int .i64 n] w fun e w' => e = .returned (.int .i64 (unl b n)) ∧ w = w' := by
  cases b
  · go_enter Try.func67, Try.ntmps67
    go_wp2
    go_ret
    exact ⟨rfl, rfl⟩
  · go_enter Try.func67, Try.ntmps67
    go_wp2
    go_ret
    exact ⟨rfl, rfl⟩
set_option maxHeartbeats 400000 in
theorem isWithin_any (n l m : Int) (w : World) :
    Calls Try.prog 54 #[.int .i64 n, .int .i64 l, .int .i64 m] w fun e w' => e = .returned (.int .i64 (unl (inB n l m) 2)) ∧ w = w' := by
  by_cases h1 : l ≤ n
  · by_cases h2 : n ≤ m
    · have hd : inB n l m = true := by simp [inB, h1, h2]
      rw [hd]; clear hd
      go_enter Try.func54, Try.ntmps54
      go_wp2_with (go_at_call 67; refine (unless_any _ _ _).mono ?_; rintro e w' ⟨rfl, rfl⟩)
      go_ret
      exact ⟨rfl, rfl⟩
    · have hd : inB n l m = false := by simp [inB, h1]; omega
      rw [hd]; clear hd
      go_enter Try.func54, Try.ntmps54
      go_wp2_with (go_at_call 67; refine (unless_any _ _ _).mono ?_; rintro e w' ⟨rfl, rfl⟩)
      go_ret
      exact ⟨rfl, rfl⟩
  · have hd : inB n l m = false := by simp [inB]; omega
    rw [hd]; clear hd
    go_enter Try.func54, Try.ntmps54
    go_wp2_with (go_at_call 67; refine (unless_any _ _ _).mono ?_; rintro e w' ⟨rfl, rfl⟩)
    go_ret
    exact ⟨rfl, rfl⟩
/-- the first error of some -/
def fst : List Int → Int
  | [] => 0
  | x :: l => if x = 0 then fst l else x
theorem fst_drop (l : List Int) (k : Nat) (hk : k < l.length) : fst (l.drop k) = if l.getD k 0 = 0 then fst (l.drop (k + 1)) else l.getD k 0 := by
  rw [List.drop_eq_getElem_cons hk, fst]; simp [List.getElem?_eq_getElem hk]
set_option maxHeartbeats 400000 in
theorem firstError_any (b : Nat) (l : List Int) (w : World) (hl : l.length ≤ 20)
    (hc : ∀ i, i < l.length → w.cell? ⟨b, i, none⟩ = some (.int .i64 (l.getD i 0))) :
    Calls Try.prog 50 #[.slice (some ⟨b, 0, none⟩) l.length l.length] w fun e w' => e = .returned (.int .i64 (fst l)) ∧ w = w' := by
  go_enter Try.func50, Try.ntmps50
  go_wp2
  go_loop [7] (fun i => ∃ k : Nat, k ≤ l.length ∧ i = .int .i64 k ∧ fst (l.drop k) = fst l) (fun i => l.length - (intOf i).toNat)
  case atStart => exact ⟨0, Nat.zero_le _, rfl, by simp⟩
  case round =>
    obtain ⟨k, hk, rfl, hf⟩ := hrel
    by_cases hlt : k < l.length
    · have hcell := hc k hlt
      have hd := fst_drop l k hlt
      rw [hf] at hd
      have HD : Hid (fst l = if l.getD k 0 = 0 then fst (l.drop (k + 1)) else l.getD k 0) := hd
      clear hd hf hc
      generalize l.getD k 0 = x at *
      by_cases hx : x = 0
      · subst hx
        go_wp2
        go_round
        case rel => exact ⟨k + 1, by omega, by go_num, by rw [HD.out]; simp⟩
        case measure => simp [intOf]; omega
      · have hx' : (x != 0) = true := by simpa using hx
        go_wp2
        go_ret
        exact ⟨by rw [HD.out, if_neg hx]; rfl, rfl⟩
    · have he : k = l.length := by omega
      have HF := Lib.hid hf
      clear hf
      go_wp2
      go_ret
      exact ⟨by rw [← HF.out, he]; simp [fst], rfl⟩
/-- the numbers of a list literal, in its own new block -/
theorem cells_new (W : World) (b : Nat) (hb : W.heap.size = b) (l : List Int) (t : TypeId) (i : Nat) (hi : i < l.length) :
    (W.alloc (.cells (l.map (Value.int .i64)).toArray t)).cell? ⟨b, i, none⟩ = some (.int .i64 (l.getD i 0)) := by
  subst hb
  rw [World.cell?_alloc_at _ _ _ _ (by simp)]
  simp [List.getElem?_eq_getElem hi]
theorem cells_drew (W : World) (b : Nat) (hb : W.heap.size = b) (l : List Int) (t : TypeId) (i : Nat) (hi : i < l.length) :
    (W.alloc (.cells (l.map (Value.int .i64)).toArray t)).drew.cell? ⟨b, i, none⟩ = some (.int .i64 (l.getD i 0)) := cells_new W b hb l t i hi
/-- divideDown -/
theorem down_any (a b : Int) (w : World) (ha : -4611686018427387904 ≤ a) (ha' : a < 4611686018427387904) (hb : 1 ≤ b) (hb' : b < 4611686018427387904) :
    Calls Try.prog 74 #[.int .i64 a, .int .i64 b] w fun e w' => e = .returned (.int .i64 (a / b)) ∧ w = w' := by
  by_cases h : 0 ≤ a
  · have r0 := Int.emod_nonneg a (show b ≠ 0 by omega)
    have r2 : ¬ a % b < 0 := by omega
    go_enter Try.func74, Try.ntmps74
    go_wp2
    go_ret
    exact ⟨rfl, rfl⟩
  · have hf := floor_neg a b (by omega) (by omega)
    have HF := Lib.hid hf; clear hf
    have q1 : a.tdiv b ≤ 0 := by rw [(neg_parts a b (by omega) (by omega)).1]; have := Int.ediv_nonneg (show 0 ≤ -a by omega) (show 0 ≤ b by omega); omega
    have q2 : a ≤ a.tdiv b := by
      rw [(neg_parts a b (by omega) (by omega)).1]
      have := Int.ediv_le_self b (show 0 ≤ -a by omega); omega
    by_cases h2 : a.tmod b < 0
    · have h3 : decide (a.tmod b < 0) = true := by simpa using h2
      go_enter Try.func74, Try.ntmps74
      go_wp2
      go_ret
      exact ⟨by rw [HF.out, if_pos h2]; rfl, rfl⟩
    · have h3 : decide (a.tmod b < 0) = false := by simpa using h2
      go_enter Try.func74, Try.ntmps74
      go_wp2
      go_ret
      exact ⟨by rw [HF.out, if_neg (by omega)]; rfl, rfl⟩
/-- divideUp -/
theorem up_any (a b : Int) (w : World) (ha : -4611686018427387904 ≤ a) (ha' : a < 4611686018427387904) (hb : 1 ≤ b) (hb' : b < 4611686018427387904) :
    Calls Try.prog 73 #[.int .i64 a, .int .i64 b] w fun e w' => e = .returned (.int .i64 (cdiv a b)) ∧ w = w' := by
  by_cases h : 0 ≤ a
  · have hf := cdiv_nonneg a b (by omega) h
    have HF := Lib.hid hf; clear hf
    have r0 := Int.emod_nonneg a (show b ≠ 0 by omega)
    have q1 : a / b ≤ a := Int.ediv_le_self b h
    have q2 : 0 ≤ a / b := Int.ediv_nonneg h (by omega)
    by_cases h2 : 0 < a % b
    · have h3 : decide (0 < a % b) = true := by simpa using h2
      go_enter Try.func73, Try.ntmps73
      go_wp2
      go_ret
      exact ⟨by rw [HF.out, if_pos h2]; rfl, rfl⟩
    · have h3 : decide (0 < a % b) = false := by simpa using h2
      go_enter Try.func73, Try.ntmps73
      go_wp2
      go_ret
      exact ⟨by rw [HF.out, if_neg (by omega)]; rfl, rfl⟩
  · obtain ⟨hf, h2⟩ := cdiv_neg a b (by omega) (by omega)
    have HF := Lib.hid hf; clear hf
    have q1 : a.tdiv b ≤ 0 := by rw [(neg_parts a b (by omega) (by omega)).1]; have := Int.ediv_nonneg (show 0 ≤ -a by omega) (show 0 ≤ b by omega); omega
    have q2 : a ≤ a.tdiv b := by
      rw [(neg_parts a b (by omega) (by omega)).1]
      have := Int.ediv_le_self b (show 0 ≤ -a by omega); omega
    have h3 : decide (0 < a.tmod b) = false := by simpa using h2
    go_enter Try.func73, Try.ntmps73
    go_wp2
    go_ret
    exact ⟨by rw [HF.out]; rfl, rfl⟩
set_option maxHeartbeats 400000 in
/-- the reference's Floor, and Ceil -/
theorem floor_any (a b : Int) (w : World) (ha : -4611686018427387904 ≤ a) (ha' : a < 4611686018427387904) (hb : 1 ≤ b) (hb' : b < 4611686018427387904) :
    Calls Try.prog 76 #[.int .i64 a, .int .i64 b] w fun e w' => e = .returned (.int .i64 (a / b)) ∧ w = w' := by
  by_cases h : 0 ≤ a
  · have r0 := Int.emod_nonneg a (show b ≠ 0 by omega)
    have r2 : ¬ a % b < 0 := by omega
    go_enter Try.func76, Try.ntmps76
    go_wp2
    go_ret
    exact ⟨rfl, rfl⟩
  · have hf := floor_neg a b (by omega) (by omega)
    have HF := Lib.hid hf; clear hf
    have q1 : a.tdiv b ≤ 0 := by rw [(neg_parts a b (by omega) (by omega)).1]; have := Int.ediv_nonneg (show 0 ≤ -a by omega) (show 0 ≤ b by omega); omega
    have q2 : a ≤ a.tdiv b := by
      rw [(neg_parts a b (by omega) (by omega)).1]
      have := Int.ediv_le_self b (show 0 ≤ -a by omega); omega
    by_cases h2 : a.tmod b < 0
    · have h3 : decide (a.tmod b < 0) = true := by simpa using h2
      go_enter Try.func76, Try.ntmps76
      go_wp2
      go_ret
      exact ⟨by rw [HF.out, if_pos h2]; rfl, rfl⟩
    · have h3 : decide (a.tmod b < 0) = false := by simpa using h2
      go_enter Try.func76, Try.ntmps76
      go_wp2
      go_ret
      exact ⟨by rw [HF.out, if_neg (by omega)]; rfl, rfl⟩
theorem abs_div (a b : Int) (hb : 1 ≤ b) : -(a.natAbs : Int) ≤ a / b ∧ a / b ≤ a.natAbs := by
  have s := div_spec a b (by omega)
  constructor
  · by_cases h2 : -(a.natAbs : Int) ≤ a / b
    · exact h2
    · exfalso
      have := mul_le (-(a / b + 1)) 1 (-(a / b + 1)) b (by omega) (by omega) (by omega) hb
      rw [Int.neg_mul, Int.neg_mul, Int.add_mul, Int.add_mul] at this
      omega
  · by_cases h : a / b ≤ 0
    · omega
    · have := mul_le (a / b) 1 (a / b) b (by omega) (by omega) (by omega) hb
      omega
set_option maxHeartbeats 400000 in
theorem ceil_any (a b : Int) (w : World) (ha : -2305843009213693952 ≤ a) (ha' : a < 2305843009213693952) (hb : 1 ≤ b) (hb' : b < 4611686018427387904) :
    Calls Try.prog 75 #[.int .i64 a, .int .i64 b] w fun e w' => e = .returned (.int .i64 (cdiv a b)) ∧ w = w' := by
  have hf : cdiv a b = -((-a) / b) := rfl
  have HF := Lib.hid hf; clear hf
  have k := abs_div (-a) b hb
  go_enter Try.func75, Try.ntmps75
  go_wp2_with (go_at_call 76; refine (floor_any _ _ _ (by omega) (by omega) (by omega) (by omega)).mono ?_; rintro e w' ⟨rfl, rfl⟩)
  go_ret
  exact ⟨by rw [HF.out]; rfl, rfl⟩
set_option maxRecDepth 100000 in
set_option maxHeartbeats 1000000 in
theorem nearest_any (a b : Int) (w : World) (a0 : -1000000000000000000 ≤ a) (a1 : a ≤ 1000000000000000000) (b0 : 1 ≤ b) (b1 : b ≤ 1000000000000000000) :
    Calls Try.prog 60 #[.int .i64 a, .int .i64 b] w fun e w' => e = .returned (.int .i64 ((2 * a + b) / (2 * b))) ∧ w = w' := by
  go_enter Try.func60, Try.ntmps60
  go_wp2_with (go_at_call 74; refine (down_any _ _ _ (by omega) (by omega) (by omega) (by omega)).mono ?_; rintro e w' ⟨rfl, rfl⟩)
  go_ret
  exact ⟨rfl, rfl⟩
theorem inB_iff (n l m : Int) : inB n l m = true ↔ l ≤ n ∧ n ≤ m := by simp [inB]
theorem unl_inB (n l m e : Int) (he : e ≠ 0) : unl (inB n l m) e = 0 ↔ l ≤ n ∧ n ≤ m := by
  rw [← inB_iff]; unfold unl; cases inB n l m <;> simp [he]
theorem fst_zero : ∀ l : List Int, fst l = 0 ↔ ∀ x ∈ l, x = 0
  | [] => by simp [fst]
  | x :: l => by
    have ih := fst_zero l
    unfold fst
    by_cases h : x = 0
    · rw [if_pos h, ih]; simp [h]
    · rw [if_neg h]; simp [h]
theorem frozen_after {W w1 : World} {a : Addr} {v : Value} (hb : Below W.heap.size W w1) (h : W.cell? a = some v) (hf : W.frozen? a = false) : w1.frozen? a = false := (hb.frozen (World.block_lt_of_cell? _ _ h)).trans hf
theorem below_after {B : Nat} {W w0 w1 : World} (h0 : Below B W w0) (hb : Below w0.heap.size w0 w1) : B ≤ w0.heap.size → Below B W w1 := fun h => h0.trans (hb.mono h)
theorem below_then {W w0 w1 : World} (h0 : Below W.heap.size W w0) (hb : Below w0.heap.size w0 w1) : Below W.heap.size W w1 := h0.trans (hb.mono h0.size)

theorem below_alloc_top {w w0 : World} (h : Below w.heap.size w w0) (o : Obj) : Below w.heap.size w (w0.alloc o) := h.alloc h.size o
theorem cell_alloc_later {w : World} {a : Addr} {v : Value} (h : w.cell? a = some v) (o : Obj) : (w.alloc o).cell? a = some v := by
  rw [World.cell?_alloc_lt _ _ _ (World.block_lt_of_cell? _ _ h)]; exact h
theorem frozen_alloc_later {w : World} {a : Addr} {v : Value} (h : w.cell? a = some v) (hf : w.frozen? a = false) (o : Obj) : (w.alloc o).frozen? a = false := by
  exact frozen_after ((Below.refl _ _).alloc (Nat.le_refl _) o) h hf
theorem setS {w : World} {p : Addr} {u v : Value} (h : w.cell? p = some u) : (w.setCell p v).cell? p = some v := by simp [go_sem, h]
theorem setS' {w : World} {p : Addr} {v : Value} (h : ∃ u, w.cell? p = some u) : (w.setCell p v).cell? p = some v := by
  obtain ⟨u, h⟩ := h
  exact setS h
theorem setO {w : World} {a p : Addr} {v x : Value} (hne : a.block ≠ p.block ∨ a.off ≠ p.off) (h : w.cell? a = some v) : (w.setCell p x).cell? a = some v := by
  rw [World.cell?_setCell_other w _ a x (fun e => by subst e; rcases hne with h | h <;> exact h rfl)]; exact h
/-- what a slice of our own owns lies there -/
theorem own_form {w : World} {b : Nat} {e : TypeId} {s : Nat} {v : Value} {n : Nat} {xs : List Value} (h : w.ownsRow b e s v n xs) :
    ∃ A c, v = .slice A n c ∧ (0 < n → ∃ g, A = .some ⟨g, 0, none⟩ ∧ b ≤ g ∧ g < w.heap.size ∧ ∀ j u, xs[j]? = .some u → w.cell? ⟨g, j, none⟩ = .some u) := by
  rcases h.2 with ⟨rfl, rfl⟩ | ⟨g, cap, cur, rfl, hb, hgb, r⟩
  · exact ⟨none, 0, rfl, fun h => absurd h (by omega)⟩
  · refine ⟨_, cap, rfl, fun _ => ⟨g, rfl, hb, (Array.getElem?_eq_some_iff.1 hgb).1, fun j u hu => ?_⟩⟩
    have := h.cells (g := g) rfl j u hu
    have hadd : (⟨g, 0, none⟩ : Addr).add j = ⟨g, j, none⟩ := by unfold Addr.add; split <;> simp_all
    rwa [hadd] at this
theorem own_later {w w' : World} {b : Nat} {e : TypeId} {s : Nat} {v : Value} {n : Nat} {xs : List Value} (h : w.ownsRow b e s v n xs) (hb : Below w.heap.size w w') : w'.ownsRow b e s v n xs := by
  refine ⟨h.1, ?_⟩
  rcases h.2 with hn | ⟨g, cap, cur, a, c, hh, r⟩
  · exact .inl hn
  · exact .inr ⟨g, cap, cur, a, c, (hb.block g (Array.getElem?_eq_some_iff.1 hh).1).trans hh, r⟩
theorem own_base {w : World} {b b' : Nat} {e : TypeId} {s : Nat} {v : Value} {n : Nat} {xs : List Value} (h : w.ownsRow b e s v n xs) (hb : b' ≤ b) : w.ownsRow b' e s v n xs :=
  ⟨h.1, h.2.imp id fun ⟨g, cap, cur, a, c, r⟩ => ⟨g, cap, cur, a, Nat.le_trans hb c, r⟩⟩
theorem add_off (g j : Nat) : (⟨g, 0, none⟩ : Addr).add j = ⟨g, j, none⟩ := by unfold Addr.add; split <;> simp_all
end Go.Proofs.Ytoieemgdkpnbfaa
