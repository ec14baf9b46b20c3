/- first contracts -/
import Derived.Test.YtnckfbejgkdhhaaGreatDoorRows
import Derived.WalkKit
import Derived.WalkSpells
import Derived.WalkLawsBesides
import Derived.Lib.Hide
import Derived.StillTailTactics
import Derived.Deep.QuietTactic
import Derived.BigQuiet
import Derived.Deep.RegionHeld3
import Derived.RowKit3
namespace Go.Proofs.YtnckfbejgkdhhaaGreatDoor
open Go.RowKit
set_option linter.unusedSimpArgs false
set_option linter.unusedVariables false

def inB (n l m : Int) : Bool := decide (l ≤ n) && decide (n ≤ m)
def unl (b : Bool) (e : Int) : Int := if b then 0 else e

set_option maxHeartbeats 400000 in
theorem unless_any (b : Bool) (n : Int) (w : World) :
    Calls Tryz.prog 23 #[.bool b, .int .i64 n] w fun e w' => e = .returned (.int .i64 (unl b n)) ∧ w = w' := by
  cases b
  · go_enter Tryz.func23, Tryz.ntmps23
    go_wp2
    go_ret
    exact ⟨rfl, rfl⟩
  · go_enter Tryz.func23, Tryz.ntmps23
    go_wp2
    go_ret
    exact ⟨rfl, rfl⟩

set_option maxHeartbeats 400000 in
theorem isWithin_any (n l m : Int) (w : World) :
    Calls Tryz.prog 34 #[.int .i64 n, .int .i64 l, .int .i64 m] w fun e w' => e = .returned (.int .i64 (unl (inB n l m) 2)) ∧ w = w' := by
  by_cases h1 : l ≤ n
  · by_cases h2 : n ≤ m
    · have hd : inB n l m = true := by simp [inB, h1, h2]
      rw [hd]; clear hd
      go_enter Tryz.func34, Tryz.ntmps34
      go_wp2_with (go_at_call 23; refine (unless_any _ _ _).mono ?_; rintro e w' ⟨rfl, rfl⟩)
      go_ret
      exact ⟨rfl, rfl⟩
    · have hd : inB n l m = false := by simp [inB, h1]; omega
      rw [hd]; clear hd
      go_enter Tryz.func34, Tryz.ntmps34
      go_wp2_with (go_at_call 23; refine (unless_any _ _ _).mono ?_; rintro e w' ⟨rfl, rfl⟩)
      go_ret
      exact ⟨rfl, rfl⟩
  · have hd : inB n l m = false := by simp [inB]; omega
    rw [hd]; clear hd
    go_enter Tryz.func34, Tryz.ntmps34
    go_wp2_with (go_at_call 23; refine (unless_any _ _ _).mono ?_; rintro e w' ⟨rfl, rfl⟩)
    go_ret
    exact ⟨rfl, rfl⟩

set_option maxHeartbeats 400000 in
theorem speedError_any (v : Int) (w : World) :
    Calls Tryz.prog 52 #[.int .i64 v] w fun e w' => e = .returned (.int .i64 (unl (inB v 500 10000) 2)) ∧ w = w' := by
  go_enter Tryz.func52, Tryz.ntmps52
  go_wp2_with (first | (go_at_call 34; refine (isWithin_any _ _ _ _).mono ?_; rintro e w' ⟨rfl, rfl⟩) | (go_at_call 23; refine (unless_any _ _ _).mono ?_; rintro e w' ⟨rfl, rfl⟩))
  go_ret
  exact ⟨rfl, rfl⟩

/-- the first error of some -/
def fst : List Int → Int
  | [] => 0
  | x :: l => if x = 0 then fst l else x

theorem fst_drop (l : List Int) (k : Nat) (hk : k < l.length) : fst (l.drop k) = if l.getD k 0 = 0 then fst (l.drop (k + 1)) else l.getD k 0 := by
  rw [List.drop_eq_getElem_cons hk, fst]; simp [List.getElem?_eq_getElem hk]

set_option maxHeartbeats 400000 in
theorem firstError_any (b : Nat) (l : List Int) (w : World) (hl : l.length ≤ 20)
    (hc : ∀ i, i < l.length → w.cell? ⟨b, i, none⟩ = some (.int .i64 (l.getD i 0))) :
    Calls Tryz.prog 22 #[.slice (some ⟨b, 0, none⟩) l.length l.length] w fun e w' => e = .returned (.int .i64 (fst l)) ∧ w = w' := by
  go_enter Tryz.func22, Tryz.ntmps22
  go_wp2
  go_loop [7] (fun i => ∃ k : Nat, k ≤ l.length ∧ i = .int .i64 k ∧ fst (l.drop k) = fst l) (fun i => l.length - (intOf i).toNat)
  case atStart => exact ⟨0, Nat.zero_le _, rfl, by simp⟩
  case round =>
    obtain ⟨k, hk, rfl, hf⟩ := hrel
    by_cases hlt : k < l.length
    · have hcell := hc k hlt
      have hd := fst_drop l k hlt
      rw [hf] at hd
      have HD : Hid (fst l = if l.getD k 0 = 0 then fst (l.drop (k + 1)) else l.getD k 0) := hd
      clear hd hf hc
      generalize l.getD k 0 = x at *
      by_cases hx : x = 0
      · subst hx
        go_wp2
        go_round
        case rel => exact ⟨k + 1, by omega, by go_num, by rw [HD.out]; simp⟩
        case measure => simp [intOf]; omega
      · have hx' : (x != 0) = true := by simpa using hx
        go_wp2
        go_ret
        exact ⟨by rw [HD.out, if_neg hx]; rfl, rfl⟩
    · have he : k = l.length := by omega
      have HF := Lib.hid hf
      clear hf
      go_wp2
      go_ret
      exact ⟨by rw [← HF.out, he]; simp [fst], rfl⟩

/-- the numbers of a list literal, in its own new block -/
theorem cells_new (W : World) (b : Nat) (hb : W.heap.size = b) (l : List Int) (t : TypeId) (i : Nat) (hi : i < l.length) :
    (W.alloc (.cells (l.map (Value.int .i64)).toArray t)).cell? ⟨b, i, none⟩ = some (.int .i64 (l.getD i 0)) := by
  subst hb
  rw [World.cell?_alloc_at _ _ _ _ (by simp)]
  simp [List.getElem?_eq_getElem hi]
theorem cells_drew (W : World) (b : Nat) (hb : W.heap.size = b) (l : List Int) (t : TypeId) (i : Nat) (hi : i < l.length) :
    (W.alloc (.cells (l.map (Value.int .i64)).toArray t)).drew.cell? ⟨b, i, none⟩ = some (.int .i64 (l.getD i 0)) := cells_new W b hb l t i hi

/-- the error of a place -/
def placeE (x z : Int) : Int := fst [unl (inB x (-100000) 100000) 2, unl (inB z (-100000) 100000) 2]

set_option maxHeartbeats 1000000 in
theorem placeError_any (x z : Int) (w : World) :
    Calls Tryz.prog 86 #[.agg #[.int .i64 x, .int .i64 z]] w fun e w' => e = .returned (.int .i64 (placeE x z)) ∧ Below w.heap.size w w' := by
  go_enter Tryz.func86, Tryz.ntmps86
  go_wp2
  go_region_held3 (fun w' => w'.cell? ⟨w.heap.size, 0, none⟩ = some (.int .i64 x) ∧ w'.cell? ⟨w.heap.size, 1, none⟩ = some (.int .i64 z)) (simp [go_sem, World.cell?_alloc_past])
    (first
      | (go_at_call 34; refine (isWithin_any _ _ _ _).mono ?_; rintro e w' ⟨rfl, rfl⟩)
      | (go_at_call 23; refine (unless_any _ _ _).mono ?_; rintro e w' ⟨rfl, rfl⟩)
      | (go_at_call 22; refine (firstError_any _ [unl (inB x (-100000) 100000) 2, unl (inB z (-100000) 100000) 2] _ (by simp) (cells_drew _ _ (by simp) _ _)).mono ?_; rintro e w' ⟨rfl, rfl⟩))
  go_wp2
  go_ret
  exact ⟨rfl, (((Below.refl _ _).alloc (Nat.le_refl _) _).alloc (by simp) _).drew⟩
end Go.Proofs.YtnckfbejgkdhhaaGreatDoor
