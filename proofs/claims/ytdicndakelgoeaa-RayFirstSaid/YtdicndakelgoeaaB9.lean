/- MayBeFirst: both, whatever the number of modes -/
import Derived.Test.YtdicndakelgoeaaB7
import Derived.Test.YtdicndakelgoeaaB8
namespace Go.Proofs.Ytdicndakelgoeaa
open Go.RowKit RayM
set_option linter.unusedSimpArgs false
set_option linter.unusedVariables false
set_option maxRecDepth 100000 in
set_option maxHeartbeats 1000000 in
theorem ints_same (A A' : Option Addr) (n c c' : Nat) (l : Nat → Int) (w : World) (hn : n ≤ 1000)
    (h1 : 0 < n → ∃ g, A = some ⟨g, 0, none⟩ ∧ ∀ i, i < n → w.cell? ⟨g, i, none⟩ = some (.int .i64 (l i)))
    (h2 : 0 < n → ∃ g, A' = some ⟨g, 0, none⟩ ∧ ∀ i, i < n → w.cell? ⟨g, i, none⟩ = some (.int .i64 (l i))) :
    Calls Try.prog 66 #[.slice A n c, .slice A' n c'] w fun e w' => e = .returned (.bool true) ∧ Below w.heap.size w w' := by
  have G1 := Lib.hid h1; have G2 := Lib.hid h2
  clear h1 h2
  go_enter Try.func66, Try.ntmps66
  go_wp2
  go_loopw [5] (fun i wr => ∃ k : Nat, k ≤ n ∧ i = .int .i64 (k : Int) ∧ ∃ m, wr = w.drewN m) (fun i _ => n - (intOf i).toNat)
  case atStart => exact ⟨0, Nat.zero_le _, rfl, 0, rfl⟩
  case round =>
    obtain ⟨k, hk, rfl, m, rfl⟩ := hrel
    by_cases hlt : k < n
    · obtain ⟨g, rfl, hc⟩ := G1.out (by omega)
      obtain ⟨g', rfl, hc'⟩ := G2.out (by omega)
      have c1 := hc k hlt
      have c2 := hc' k hlt
      clear hc hc'
      have j0 : (0 : Int) ≤ (k : Int) := Int.natCast_nonneg _
      have j1 : (k : Int) < (n : Int) := by omega
      go_wp2_with fail
      go_quiet (fail)
      go_wp2
      go_roundw
      case rel => exact ⟨k + 1, by omega, by go_num, _, rfl⟩
      case measure => simp [intOf]; omega
    · go_wp2
      go_ret
      exact ⟨rfl, below_drewN (Below.refl _ _) _⟩
theorem infoMode : (Try.prog.info? 54).map (fun i => (i.zero, i.size, i.bytes)) = some (some (.agg #[.int .i64 0, .int .i64 0, .int .i64 0, .int .i64 0]), 4, 32) := by kernel_rfl
def Mb.mc (x : Mb) (k : Nat) : List Value := (List.range k).flatMap fun i => [.int .i64 (x.ms i).wd, .int .i64 (x.ms i).mt, .int .i64 (x.ms i).sk, .int .i64 (x.ms i).th]
theorem mc_succ (x : Mb) (n : Nat) : x.mc (n + 1) = x.mc n ++ [.int .i64 (x.ms n).wd, .int .i64 (x.ms n).mt, .int .i64 (x.ms n).sk, .int .i64 (x.ms n).th] := by
  unfold Mb.mc; rw [List.range_succ, List.flatMap_append]; simp
theorem mc_len (x : Mb) (n : Nat) : (x.mc n).length = n * 4 := by
  induction n with
  | zero => rfl
  | succ n ih => rw [mc_succ, List.length_append, ih]; simp; omega
theorem mc_get (x : Mb) : ∀ (n i : Nat), i < n → (x.mc n)[i * 4]? = some (.int .i64 (x.ms i).wd) ∧ (x.mc n)[i * 4 + 1]? = some (.int .i64 (x.ms i).mt) ∧ (x.mc n)[i * 4 + 2]? = some (.int .i64 (x.ms i).sk) ∧ (x.mc n)[i * 4 + 3]? = some (.int .i64 (x.ms i).th)
  | 0, i, h => by omega
  | n + 1, i, h => by
    have l := mc_len x n
    rw [mc_succ]
    by_cases hi : i < n
    · obtain ⟨a, b, c, d⟩ := mc_get x n i hi
      rw [List.getElem?_append_left (by omega), List.getElem?_append_left (by omega), List.getElem?_append_left (by omega), List.getElem?_append_left (by omega)]; exact ⟨a, b, c, d⟩
    · have : i = n := by omega
      subst this
      rw [List.getElem?_append_right (by omega), List.getElem?_append_right (by omega), List.getElem?_append_right (by omega), List.getElem?_append_right (by omega), l]
      simp
theorem mc_one (x : Mb) (k : Nat) : ∀ u ∈ x.mc k, u.oneCell' = true := by
  intro u hu
  unfold Mb.mc at hu
  simp only [List.mem_flatMap, List.mem_cons, List.not_mem_nil, or_false] at hu
  obtain ⟨i, _, h | h | h | h⟩ := hu <;> (subst h; rfl)
/-- each cell of the list is one of a mode's numbers -/
theorem mc_at (x : Mb) (n : Nat) (a : Addr) (w : World) (hx : MoAt x a w) (hn : n ≤ x.n) (j : Nat) (u : Value) (h : (x.mc n)[j]? = some u) : w.cell? (a.add j) = some u := by
  have hl : j < n * 4 := by
    have := (List.getElem?_eq_some_iff.1 h).1
    rwa [mc_len] at this
  obtain ⟨g1, g2, g3, g4⟩ := mc_get x n (j / 4) (by omega)
  obtain ⟨e1, e2, e3, e4⟩ := hx (j / 4) (by omega)
  have hj : j = j / 4 * 4 ∨ j = j / 4 * 4 + 1 ∨ j = j / 4 * 4 + 2 ∨ j = j / 4 * 4 + 3 := by omega
  rcases hj with q | q | q | q
  · rw [q] at h ⊢; rw [g1] at h; rw [e1]; exact h
  · rw [q] at h ⊢; rw [g2] at h; rw [e2]; exact h
  · rw [q] at h ⊢; rw [g3] at h; rw [e3]; exact h
  · rw [q] at h ⊢; rw [g4] at h; rw [e4]; exact h
/-- the error and the list, whatever the number of modes -/
def Mb.EE (x : Mb) : Int := if x.n = 0 then 10 else if 8 < x.n then 8 else x.E
def Mb.LL (x : Mb) : List Value := if x.n = 0 then [] else if 8 < x.n then [] else x.L
theorem EE_short (x : Mb) (h : x.n = 0 ∨ 8 < x.n) : x.EE = (if x.n = 0 then 10 else 8) ∧ x.LL = [] := by
  unfold Mb.EE Mb.LL
  rcases h with h | h
  · rw [if_pos h, if_pos h, if_pos h]; exact ⟨rfl, rfl⟩
  · rw [if_neg (by omega), if_pos h, if_neg (by omega), if_neg (by omega), if_pos h]; exact ⟨rfl, rfl⟩
theorem EE_long (x : Mb) (h : ¬ (x.n = 0 ∨ 8 < x.n)) : x.EE = x.E ∧ x.LL = x.L := by
  unfold Mb.EE Mb.LL
  rw [if_neg (by omega), if_neg (by omega), if_neg (by omega), if_neg (by omega)]; exact ⟨rfl, rfl⟩
theorem fl_some (x : Mb) (k : Nat) (hk : 0 < k) (hx : x.n = k) (h : ∀ i, i < k → x.lo i ≤ x.hi i) : 0 < (x.fv k).length := by
  have at_ : ∀ m, m ≤ k → ∃ i, i < k ∧ x.mn m = x.hi i := by
    intro m
    induction m with
    | zero => exact fun _ => ⟨0, hk, rfl⟩
    | succ m ih =>
      intro hm
      obtain ⟨i, hi, e⟩ := ih (by omega)
      have em : x.mn (m + 1) = min (x.mn m) (x.hi m) := rfl
      rcases Int.le_total (x.mn m) (x.hi m) with q | q
      · exact ⟨i, hi, by rw [em, Int.min_eq_left q, e]⟩
      · exact ⟨m, by omega, by rw [em, Int.min_eq_right q]⟩
  obtain ⟨i, hi, e⟩ := at_ k (Nat.le_refl _)
  have hm : i ∈ x.fl k := by
    unfold Mb.fl
    rw [List.mem_filter]
    exact ⟨List.mem_range.2 hi, by rw [hx, e]; exact decide_eq_true (h i hi)⟩
  unfold Mb.fv; rw [List.length_map]
  exact List.length_pos_of_mem hm
theorem E_zero (x : Mb) (h : x.E = 0) : ∀ i, i < x.n → x.g i = 0 := by
  have go : ∀ m k, k + m = x.n → firstFrom x.g k m = 0 → ∀ i, k ≤ i → i < x.n → x.g i = 0 := by
    intro m
    induction m with
    | zero => intro k hk _ i h1 h2; omega
    | succ m ih =>
      intro k hk hf i h1 h2
      have e : firstFrom x.g k (m + 1) = if x.g k = 0 then firstFrom x.g (k + 1) m else x.g k := rfl
      rw [e] at hf
      by_cases hg : x.g k = 0
      · rw [if_pos hg] at hf
        by_cases hi : i = k
        · rw [hi]; exact hg
        · exact ih (k + 1) (by omega) hf i (by omega) h2
      · rw [if_neg hg] at hf; exact absurd hf hg
  exact fun i hi => go x.n 0 (by omega) h i (Nat.zero_le _) hi
theorem LL_some (x : Mb) (h : x.EE = 0) : 0 < x.LL.length := by
  by_cases hs : x.n = 0 ∨ 8 < x.n
  · rw [(EE_short x hs).1] at h; split at h <;> omega
  · rw [(EE_long x hs).1] at h
    rw [(EE_long x hs).2]
    unfold Mb.L; rw [if_pos h]
    refine fl_some x x.n (by omega) rfl fun i hi => ?_
    have o := (wyE_ok (x.y i)).1 (E_zero x h i hi)
    exact lLo_lHi _ (cr_ok _ o)
theorem LL_len (x : Mb) : x.LL.length ≤ 8 := by
  by_cases hs : x.n = 0 ∨ 8 < x.n
  · rw [(EE_short x hs).2]; simp
  · rw [(EE_long x hs).2]
    unfold Mb.L; split
    · have := fv_len x x.n; omega
    · simp
/-- the whole numbers that the list holds -/
theorem LL_int (x : Mb) : ∃ l : Nat → Int, ∀ i, i < x.LL.length → x.LL[i]? = some (.int .i64 (l i)) := by
  by_cases hs : x.n = 0 ∨ 8 < x.n
  · rw [(EE_short x hs).2]; exact ⟨fun _ => 0, fun i hi => absurd hi (Nat.not_lt_zero i)⟩
  · rw [(EE_long x hs).2]
    unfold Mb.L; split
    · refine ⟨fun i => ((x.fl x.n).getD i 0 : Nat), fun i hi => ?_⟩
      unfold Mb.fv at hi ⊢
      rw [List.length_map] at hi
      rw [List.getElem?_map, List.getElem?_eq_getElem hi]
      simp [List.getElem?_eq_getElem hi]
    · exact ⟨fun _ => 0, fun i hi => absurd hi (Nat.not_lt_zero i)⟩
theorem mb_any (x : Mb) (v : Value) (b : Nat) (w : World) (h : w.ownsRow b 54 4 v x.n (x.mc x.n)) :
    Calls Try.prog 64 #[v, .agg #[.int .i64 x.fx, .int .i64 x.fz], .agg #[.int .i64 x.tx, .int .i64 x.tz]] w fun e w' => ∃ r : Value, e = .returned (.tuple #[r, .int .i64 x.EE]) ∧ w'.ownsRow w.heap.size 3 1 r x.LL.length x.LL ∧ Below w.heap.size w w' := by
  obtain ⟨A, c, rfl, hA⟩ := row_form h
  by_cases hs : x.n = 0 ∨ 8 < x.n
  · obtain ⟨e1, e2⟩ := EE_short x hs
    rw [e1, e2]
    exact (mb_count A x.n c x.fx x.fz x.tx x.tz hs w).mono fun e w' ⟨he, hb⟩ => ⟨_, he, World.ownsRow_nil _ _ _ _, hb⟩
  · obtain ⟨e1, e2⟩ := EE_long x hs
    rw [e1, e2]
    obtain ⟨g, rfl, _, hc⟩ := hA (by omega)
    have ad : ∀ j, (⟨g, 0, none⟩ : Addr).add j = ⟨g, j, none⟩ := fun j => by unfold Addr.add; split <;> simp_all
    refine mb_loops x ⟨g, 0, none⟩ c w (by omega) (by omega) fun i hi => ?_
    obtain ⟨g1, g2, g3, g4⟩ := mc_get x x.n i hi
    rw [ad, ad, ad, ad]
    exact ⟨hc _ _ g1, hc _ _ g2, hc _ _ g3, hc _ _ g4⟩
theorem rmb_any (x : Mb) (A : Option Addr) (c : Nat) (w : World) (h : 0 < x.n → ∃ a, A = some a ∧ MoAt x a w) :
    Calls Try.prog 65 #[.slice A x.n c, .agg #[.int .i64 x.fx, .int .i64 x.fz], .agg #[.int .i64 x.tx, .int .i64 x.tz]] w fun e w' => ∃ r : Value, e = .returned (.tuple #[r, .int .i64 x.EE]) ∧ w'.ownsRow w.heap.size 3 1 r x.LL.length x.LL ∧ Below w.heap.size w w' := by
  by_cases hs : x.n = 0 ∨ 8 < x.n
  · obtain ⟨e1, e2⟩ := EE_short x hs
    rw [e1, e2]
    exact (rmb_short A x.n c x.fx x.fz x.tx x.tz hs w).mono fun e w' ⟨he, hb⟩ => ⟨_, he, World.ownsRow_nil _ _ _ _, hb⟩
  · obtain ⟨e1, e2⟩ := EE_long x hs
    rw [e1, e2]
    obtain ⟨a, rfl, hx⟩ := h (by omega)
    exact rmb_loops x a c w (by omega) (by omega) hx
end Go.Proofs.Ytdicndakelgoeaa
