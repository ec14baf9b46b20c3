/- copies of slices -/
import Derived.Test.YtnckfbejgkdhhaaGreatDoorV6
import Derived.Laws.AppendOwnNone
import Derived.Laws.AppendOwn
namespace Go.Proofs.YtnckfbejgkdhhaaGreatDoor
open Go.RowKit Go.Shelf RayM
set_option linter.unusedSimpArgs false
set_option linter.unusedVariables false

theorem infoSp : (Tryz.prog.info? 45).map (fun i => (i.zero, i.size, i.bytes)) = some (some (.agg #[.int .i64 0, .int .i64 0]), 2, 16) := by kernel_rfl
def svs (p : Nat → Sp) (k : Nat) : List Value := (List.range k).flatMap fun i => [.int .i64 (p i).x, .int .i64 (p i).z]
theorem svs_succ (p : Nat → Sp) (n : Nat) : svs p (n + 1) = svs p n ++ [.int .i64 (p n).x, .int .i64 (p n).z] := by
  unfold svs; rw [List.range_succ, List.flatMap_append]; simp
theorem svs_len (p : Nat → Sp) (n : Nat) : (svs p n).length = n * 2 := by
  induction n with
  | zero => rfl
  | succ n ih => rw [svs_succ, List.length_append, ih]; simp; omega
theorem svs_get (p : Nat → Sp) : ∀ (n i : Nat), i < n → (svs p n)[i * 2]? = some (.int .i64 (p i).x) ∧ (svs p n)[i * 2 + 1]? = some (.int .i64 (p i).z)
  | 0, i, h => by omega
  | n + 1, i, h => by
    have l := svs_len p n
    rw [svs_succ]
    by_cases hi : i < n
    · obtain ⟨a, b⟩ := svs_get p n i hi
      rw [List.getElem?_append_left (by omega), List.getElem?_append_left (by omega)]; exact ⟨a, b⟩
    · have : i = n := by omega
      subst this
      rw [List.getElem?_append_right (by omega), List.getElem?_append_right (by omega), l]
      simp
theorem svs_one (p : Nat → Sp) (k : Nat) : ∀ u ∈ svs p k, u.oneCell' = true := by
  intro u hu
  unfold svs at hu
  simp only [List.mem_flatMap, List.mem_cons, List.not_mem_nil, or_false] at hu
  obtain ⟨i, _, h | h⟩ := hu <;> (subst h; rfl)
theorem mvs_one (l : Nat → Int) (k : Nat) : ∀ u ∈ mvs l k, u.oneCell' = true := by
  intro u hu
  unfold mvs at hu
  simp only [List.mem_map] at hu
  obtain ⟨i, _, h⟩ := hu
  subst h; rfl
theorem svs_at (p : Nat → Sp) (n : Nat) (a : Addr) (w : World) (hx : SpAt (some a) n p w) (j : Nat) (u : Value) (h : (svs p n)[j]? = some u) : w.cell? (a.add j) = some u := by
  have hl : j < n * 2 := by
    have := (List.getElem?_eq_some_iff.1 h).1
    rwa [svs_len] at this
  obtain ⟨g1, g2⟩ := svs_get p n (j / 2) (by omega)
  obtain ⟨a', e, hc⟩ := hx (by omega)
  obtain rfl : a = a' := by simpa using e
  obtain ⟨e1, e2⟩ := hc (j / 2) (by omega)
  have hj : j = j / 2 * 2 ∨ j = j / 2 * 2 + 1 := by omega
  rcases hj with q | q
  · rw [q] at h ⊢; rw [g1] at h; rw [e1]; exact h
  · rw [q] at h ⊢; rw [g2] at h; rw [e2]; exact h
theorem mvs_at (l : Nat → Int) (n : Nat) (a : Addr) (w : World) (hx : InAt (some a) n l w) (j : Nat) (u : Value) (h : (mvs l n)[j]? = some u) : w.cell? (a.add j) = some u := by
  have hl : j < n := by
    have := (List.getElem?_eq_some_iff.1 h).1
    rwa [mvs_len] at this
  rw [mvs_get l n j hl] at h
  rw [hx.at hl]; exact h
theorem own_spots {w : World} {b : Nat} {e : TypeId} {v : Value} {n : Nat} {p : Nat → Sp} (h : w.ownsRow b e 2 v n (svs p n)) : ∃ A c, v = .slice A n c ∧ (A = none → n = 0 ∧ c = 0) ∧ SpAt A n p w := by
  have h2 := h.2
  obtain ⟨A, c, e, r⟩ := own_form h
  refine ⟨A, c, e, fun hA => ?_, fun hn => ?_⟩
  · subst hA e
    rcases h2 with ⟨q, q2⟩ | ⟨g, cap, cur, q, _⟩
    · simp at q; exact ⟨q.1, q.2⟩
    · simp at q
  · obtain ⟨g, e', _, _, hc⟩ := r hn
    refine ⟨_, e', fun i hi => ?_⟩
    rw [add_off, add_off]
    exact ⟨hc _ _ (svs_get p n i hi).1, hc _ _ (svs_get p n i hi).2⟩
theorem own_ints2 {w : World} {b : Nat} {e : TypeId} {v : Value} {n : Nat} {l : Nat → Int} (h : w.ownsRow b e 1 v n (mvs l n)) : ∃ A c, v = .slice A n c ∧ (A = none → n = 0 ∧ c = 0) ∧ InAt A n l w := by
  have h2 := h.2
  obtain ⟨A, c, e, r⟩ := own_ints (fun i hi => mvs_get l n i hi) h
  refine ⟨A, c, e, fun hA => ?_, r⟩
  subst hA e
  rcases h2 with ⟨q, q2⟩ | ⟨g, cap, cur, q, _⟩
  · simp at q; exact ⟨q.1, q.2⟩
  · simp at q
set_option maxRecDepth 100000 in
set_option maxHeartbeats 1000000 in
theorem copyInts_any (A : Option Addr) (n c : Nat) (l : Nat → Int) (w : World) (hm : n ≤ 1000) (hA : A = none → n = 0 ∧ c = 0) (h : InAt A n l w) :
    Calls Tryz.prog 19 #[.slice A n c] w fun e w' => ∃ v : Value, e = .returned v ∧ w'.ownsRow w.heap.size 3 1 v n (mvs l n) ∧ Below w.heap.size w w' := by
  obtain ⟨j0_, ji0, jz0, jz1, jz2⟩ := info_parts infoJ
  have JI0 := Lib.hid ji0; have JZ0 := Lib.hid jz0; have JZ1 := Lib.hid jz1; have JZ2 := Lib.hid jz2
  clear ji0 jz0 jz1 jz2
  have mb : (n : Nat) ≤ maxLen := by unfold maxLen; omega
  have MB := Lib.hid mb; clear mb
  cases A with
  | none =>
    obtain ⟨rfl, rfl⟩ := hA rfl
    clear hA h
    go_enter Tryz.func19, Tryz.ntmps19
    go_wp2_with (at_builtin; refine wpList_append_own_none rfl _ _ _ rfl w.heap.size 3 j0_ 1 Tryz.underlying22 JI0.out (.slice (some ⟨w.heap.size, 0, none⟩) 0 0) 0 [] rfl (World.ownsRow_made _ #[] 0 (Nat.le_refl _) (by unfold maxLen; omega) rfl) rfl ?_)
    go_ret
    exact ⟨_, rfl, World.ownsRow_made _ #[] 0 (Nat.le_refl _) (by unfold maxLen; omega) rfl, (by repeat (first | exact Below.refl _ _ | refine Below.drew ?_ | refine below_drewN ?_ _ | refine Below.setCell ?_ (by first | omega | (simp; done) | (simp; omega)) _ | refine Below.alloc ?_ (by first | omega | (simp; done) | (simp; omega)) _))⟩
  | some a =>
    have LN : Hid ((mvs l n).length = n * 1) := (by show _ = _; rw [mvs_len, Nat.mul_one])
    have NB := Lib.hid (fun j u (q : (mvs l n)[j]? = some u) => mvs_at l n a (w.alloc (.cells #[] 3)) (h.later ((Below.refl _ _).alloc (Nat.le_refl _) _)) j u q)
    have ON := Lib.hid (mvs_one l n)
    clear hA h
    go_enter Tryz.func19, Tryz.ntmps19
    go_wp2_with (at_builtin; refine wpList_append_own _ rfl _ _ _ rfl w.heap.size 3 j0_ _ 1 8 Tryz.underlying22 JI0.out JZ0.out JZ1.out JZ2.out rfl (by omega) (.slice (some ⟨w.heap.size, 0, none⟩) 0 0) 0 [] rfl (World.ownsRow_made _ #[] 0 (Nat.le_refl _) (by unfold maxLen; omega) rfl) a n c (mvs l n) rfl LN.out NB.out ON.out (by have := MB.out; omega) (by omega) (by simp) ?_; intro v7 w7 hown7 hgrow7 hnil7)
    go_ret
    have hown := hown7
    rw [Nat.zero_add, List.nil_append] at hown
    refine ⟨_, rfl, hown, ?_⟩
    exact Below.grown ((by repeat (first | exact Below.refl _ _ | refine Below.drew ?_ | refine below_drewN ?_ _ | refine Below.setCell ?_ (by first | omega | (simp; done) | (simp; omega)) _ | refine Below.alloc ?_ (by first | omega | (simp; done) | (simp; omega)) _))) hgrow7 (by simp) (fun q e => by simp [Value.ownBlock] at e; omega)
end Go.Proofs.YtnckfbejgkdhhaaGreatDoor
