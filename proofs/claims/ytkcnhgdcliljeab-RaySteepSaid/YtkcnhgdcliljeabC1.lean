/- the reference: errors -/
import Derived.Test.YtkcnhgdcliljeabB5
namespace Go.Proofs.Ytkcnhgdcliljeab
open Go.RowKit RayM
set_option linter.unusedSimpArgs false
set_option linter.unusedVariables false

set_option maxRecDepth 100000 in
set_option maxHeartbeats 1000000 in
theorem within_any (n l m : Int) (w : World) :
    Calls Try.prog 12 #[.int .i64 n, .int .i64 l, .int .i64 m] w fun e w' => e = .returned (.bool (inB n l m)) ∧ w = w' := by
  by_cases h1 : l ≤ n
  · by_cases h2 : n ≤ m
    · go_enter Try.func12, Try.ntmps12
      go_wp2
      go_ret
      exact ⟨by simp [inB, h1, h2], rfl⟩
    · go_enter Try.func12, Try.ntmps12
      go_wp2
      go_ret
      exact ⟨by simp [inB, h1]; omega, rfl⟩
  · go_enter Try.func12, Try.ntmps12
    go_wp2
    go_ret
    exact ⟨by simp [inB]; omega, rfl⟩
set_option maxRecDepth 100000 in
set_option maxHeartbeats 1000000 in
theorem firstOf_any (b : Nat) (l : List Int) (w : World) (hl : l.length ≤ 20)
    (hc : ∀ i, i < l.length → w.cell? ⟨b, i, none⟩ = some (.int .i64 (l.getD i 0))) :
    Calls Try.prog 33 #[.slice (some ⟨b, 0, none⟩) l.length l.length] w fun e w' => e = .returned (.int .i64 (fst l)) ∧ w = w' := by
  go_enter Try.func33, Try.ntmps33
  go_wp2
  go_loop [3] (fun i => ∃ k : Nat, k ≤ l.length ∧ i = .int .i64 k ∧ fst (l.drop k) = fst l) (fun i => l.length - (intOf i).toNat)
  case atStart => exact ⟨0, Nat.zero_le _, rfl, by simp⟩
  case round =>
    obtain ⟨k, hk, rfl, hf⟩ := hrel
    by_cases hlt : k < l.length
    · have hcell := hc k hlt
      have hd := fst_drop l k hlt
      rw [hf] at hd
      have HD : Hid (fst l = if l.getD k 0 = 0 then fst (l.drop (k + 1)) else l.getD k 0) := hd
      clear hd hf hc
      generalize l.getD k 0 = x at *
      by_cases hx : x = 0
      · subst hx
        go_wp2
        go_round
        case rel => exact ⟨k + 1, by omega, by go_num, by rw [HD.out]; simp⟩
        case measure => simp [intOf]; omega
      · have hx' : (x != 0) = true := by simpa using hx
        go_wp2
        go_ret
        exact ⟨by rw [HD.out, if_neg hx]; rfl, rfl⟩
    · have he : k = l.length := by omega
      have HF := Lib.hid hf
      clear hf
      go_wp2
      go_ret
      exact ⟨by rw [← HF.out, he]; simp [fst], rfl⟩
theorem fst_two_more (a b : Int) (l : List Int) (h : fst [a, b] ≠ 0) : fst (a :: b :: l) = fst [a, b] := by
  simp only [fst] at *
  split
  · split
    · simp_all
    · rfl
  · rfl
theorem fst_two_zero (a b : Int) (l : List Int) (h : fst [a, b] = 0) : fst (a :: b :: l) = fst l := by
  simp only [fst] at *
  by_cases ha : a = 0
  · by_cases hb : b = 0
    · simp [ha, hb]
    · simp_all
  · simp_all
/-- Unfolded -/
def unE (m : Mo) (z : Int) : Int := fst [moE m, unl (dpB z m.th) 22]
end Go.Proofs.Ytkcnhgdcliljeab
