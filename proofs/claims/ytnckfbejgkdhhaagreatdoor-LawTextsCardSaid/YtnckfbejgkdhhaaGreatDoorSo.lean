/- texts as lists of bytes: pieces, numbers, decimals, the text of a law -/
import Derived.Lib.SplitLaws
import Derived.Lib.Strings
import Derived.Lib.Atoi
import Derived.Lib.ItoaNum
import Derived.Lib.Join
namespace Go.Proofs.YtnckfbejgkdhhaaGreatDoor
set_option linter.unusedSimpArgs false
set_option linter.unusedVariables false
namespace Tb
open Go.Lib

/-- the pieces of a text at a byte -/
def cut (c : UInt8) : List UInt8 → List (List UInt8)
  | [] => [[]]
  | b :: l => if b = c then [] :: cut c l else match cut c l with
    | [] => [[b]]
    | p :: r => (b :: p) :: r

theorem split_cut (c : UInt8) : ∀ s : List UInt8, splitK [c] 0 (s.count c) s = cut c s
  | [] => by simp [splitK, cut]
  | b :: l => by
    have ih := split_cut c l
    by_cases h : b = c
    · subst h
      have hix : index (b :: l) [b] = 0 := by rw [index]; simp [List.isPrefixOf]
      have hc : (b :: l).count b = l.count b + 1 := by simp
      rw [hc]
      unfold splitK
      rw [hix, if_neg (by decide)]
      simp [cut, ih]
    · have hc : (b :: l).count c = l.count c := List.count_cons_of_ne (by simpa using h)
      have hp : ([c] : List UInt8).isPrefixOf (b :: l) = false := by simp [List.isPrefixOf, Ne.symm h]
      have hix : index (b :: l) [c] = if index l [c] == -1 then -1 else index l [c] + 1 := by rw [index, hp]; simp
      rw [hc]
      have e : cut c (b :: l) = match cut c l with
        | [] => [[b]]
        | p :: r => (b :: p) :: r := by simp [cut, h]
      rw [e, ← ih]
      cases hk : l.count c with
      | zero => simp [splitK]
      | succ k =>
        have hge := index_ge l [c]
        have hm : index l [c] ≠ -1 := by
          intro hm
          have := count_miss hm
          rw [count_one] at this
          omega
        obtain ⟨j, hj⟩ : ∃ j : Nat, index l [c] = j := ⟨(index l [c]).toNat, by omega⟩
        have n1 : (index l [c] == -1) = false := by simpa using hm
        have n2 : (index (b :: l) [c] == -1) = false := by rw [hix, n1, hj]; simp; omega
        have e3 : (index (b :: l) [c]).toNat = j + 1 := by rw [hix, n1, hj]; simp
        have e4 : (index l [c]).toNat = j := by rw [hj]; omega
        unfold splitK
        rw [n1, n2, e3, e4]
        simp

theorem cut_ne (c : UInt8) (l : List UInt8) : cut c l ≠ [] := by
  cases l with
  | nil => simp [cut]
  | cons b l =>
    simp only [cut]
    split
    · simp
    · split <;> simp
theorem cut_free (c : UInt8) : ∀ p : List UInt8, c ∉ p → cut c p = [p]
  | [], _ => rfl
  | b :: l, h => by
    have hb : b ≠ c := fun e => h (by simp [e])
    have hl : c ∉ l := fun e => h (by simp [e])
    simp [cut, hb, cut_free c l hl]
theorem cut_app (c : UInt8) (r : List UInt8) : ∀ p : List UInt8, c ∉ p → cut c (p ++ c :: r) = p :: cut c r
  | [], _ => by simp [cut]
  | b :: l, h => by
    have hb : b ≠ c := fun e => h (by simp [e])
    have hl : c ∉ l := fun e => h (by simp [e])
    simp [cut, hb, cut_app c r l hl]
theorem cut_length (c : UInt8) : ∀ l : List UInt8, (cut c l).length = l.count c + 1
  | [] => rfl
  | b :: l => by
    have ih := cut_length c l
    by_cases h : b = c
    · subst h; simp [cut, ih]
    · rw [List.count_cons_of_ne (by simpa using h)]
      simp only [cut, if_neg h]
      cases hq : cut c l with
      | nil => exact absurd hq (cut_ne c l)
      | cons p r => rw [hq] at ih; simpa using ih

/-- a digit; the value of digits -/
def dig (b : UInt8) : Bool := decide (48 ≤ b.toNat) && decide (b.toNat ≤ 57)
def vs (n : Nat) (b : UInt8) : Nat := 10 * n + (b.toNat - 48)
def vf (n : Nat) (l : List UInt8) : Nat := l.foldl vs n
/-- what stands behind the sign -/
def mag (l : List UInt8) : List UInt8 := if l.head? = some 45 then l.tail else l
/-- the number that a text is, of at most so many digits -/
def num (D : Nat) (l : List UInt8) : Option Int :=
  if mag l = [] ∨ D < (mag l).length ∨ ((mag l).head? = some 48 ∧ 1 < l.length) then none
  else if (mag l).all dig then some (if l.head? = some 45 then -(vf 0 (mag l) : Int) else (vf 0 (mag l) : Int)) else none

theorem vf_nil (n : Nat) : vf n [] = n := rfl
theorem vf_cons (n : Nat) (b : UInt8) (r : List UInt8) : vf n (b :: r) = vf (10 * n + (b.toNat - 48)) r := by
  unfold vf; rw [List.foldl_cons]; unfold vs; exact Eq.refl _
theorem vf_one (b : UInt8) : vf 0 [b] = b.toNat - 48 := by rw [vf_cons, vf_nil, Nat.mul_zero, Nat.zero_add]
attribute [irreducible] vf
theorem vf_app (b : UInt8) : ∀ (q : List UInt8) (n : Nat), vf n (q ++ [b]) = 10 * vf n q + (b.toNat - 48)
  | [], n => by rw [List.nil_append, vf_cons, vf_nil, vf_nil]
  | a :: q, n => by rw [List.cons_append, vf_cons, vf_cons]; exact vf_app b q _
theorem vf_ge : ∀ (q : List UInt8) (n : Nat), n ≤ vf n q
  | [], n => by rw [vf_nil]; exact Nat.le_refl n
  | a :: q, n => by have := vf_ge q (10 * n + (a.toNat - 48)); rw [vf_cons]; omega
theorem dec_of (q : List UInt8) : ∀ n, q.all dig = true → decFrom n q = some (vf n q) := by
  induction q with
  | nil => intro n _; rw [vf_nil]; rfl
  | cons a q ih =>
    intro n h
    simp only [List.all_cons, Bool.and_eq_true] at h
    have ha := h.1
    simp only [dig, Bool.and_eq_true, decide_eq_true_eq] at ha
    simp only [decFrom, digitVal, if_pos ha, vf_cons]
    rw [ih _ h.2, Nat.mul_comm]
theorem vf_pos (q : List UInt8) (h : q.all dig = true) (h0 : q ≠ []) (hz : q.head? ≠ some 48) : 1 ≤ vf 0 q := by
  cases q with
  | nil => exact absurd rfl h0
  | cons a q =>
    simp only [List.all_cons, Bool.and_eq_true, dig, decide_eq_true_eq] at h
    have : a.toNat ≠ 48 := fun e => hz (by
      have : a = 48 := UInt8.toNat_inj.1 e
      simp [this])
    have := vf_ge q (10 * 0 + (a.toNat - 48))
    rw [vf_cons]; omega
theorem dig_ofNat (d : Nat) (h : d < 10) : dig (UInt8.ofNat (48 + d)) = true ∧ (UInt8.ofNat (48 + d)).toNat = 48 + d := by
  have : (UInt8.ofNat (48 + d)).toNat = 48 + d := by simp [UInt8.toNat_ofNat']; omega
  exact ⟨by simp [dig, this]; omega, this⟩
theorem dec_vf (q : List UInt8) : q.all dig = true → q ≠ [] → (q.head? = some 48 → q.length = 1) → decDigits (vf 0 q) = q := by
  induction hn : q.length generalizing q with
  | zero => intro _ h0; exact absurd (List.length_eq_zero_iff.1 hn) h0
  | succ n ih =>
    intro h h0 hz
    obtain ⟨p, b, rfl⟩ : ∃ p b, q = p ++ [b] := ⟨q.dropLast, q.getLast h0, (List.dropLast_concat_getLast h0).symm⟩
    have hb : dig b = true := by simp at h; exact h.2
    have hp : p.all dig = true := by simp at h ⊢; exact h.1
    simp only [dig, Bool.and_eq_true, decide_eq_true_eq] at hb
    have eb : UInt8.ofNat (48 + (b.toNat - 48)) = b := by
      rw [show 48 + (b.toNat - 48) = b.toNat by omega]; simp
    rw [vf_app]
    by_cases hp0 : p = []
    · subst hp0
      rw [vf_nil, Nat.mul_zero, Nat.zero_add, decDigits, dif_pos (by omega), eb, List.nil_append]
    · have hl : p.length = n := by simp at hn; exact hn
      have hhead : (p ++ [b]).head? = p.head? := by
        cases p with
        | nil => exact absurd rfl hp0
        | cons _ _ => rfl
      have hz' : p.head? ≠ some 48 := by
        intro e
        have h1 := hz (by rw [hhead]; exact e)
        exact hp0 (List.length_eq_zero_iff.1 (by omega))
      have v1 := vf_pos p hp hp0 hz'
      rw [decDigits, dif_neg (by omega)]
      have e1 : (10 * vf 0 p + (b.toNat - 48)) / 10 = vf 0 p := by omega
      have e2 : (10 * vf 0 p + (b.toNat - 48)) % 10 = b.toNat - 48 := by omega
      rw [e1, e2, eb, ih p hl hp hp0 (fun e => absurd e hz')]

theorem digits_ok (u : Nat) : (decDigits u).all dig = true ∧ decDigits u ≠ [] ∧ vf 0 (decDigits u) = u ∧ ((decDigits u).head? = some 48 → u = 0) ∧ (decDigits u).head? ≠ some 45 := by
  induction u using Nat.strongRecOn with
  | _ u ih =>
    by_cases h : u < 10
    · rw [decDigits, dif_pos h]
      have d := dig_ofNat u h
      refine ⟨by rw [List.all_cons, List.all_nil, d.1]; rfl, by simp, by rw [vf_one, d.2]; omega, ?_, ?_⟩
      · intro e
        simp only [List.head?_cons, Option.some.injEq] at e
        have := congrArg UInt8.toNat e
        rw [d.2] at this
        have : (48 : UInt8).toNat = 48 := rfl
        omega
      · intro e
        simp only [List.head?_cons, Option.some.injEq] at e
        have := congrArg UInt8.toNat e
        rw [d.2] at this
        have : (45 : UInt8).toNat = 45 := rfl
        omega
    · rw [decDigits, dif_neg h]
      obtain ⟨i1, i2, i3, i4, i5⟩ := ih (u / 10) (by omega)
      have d := dig_ofNat (u % 10) (by omega)
      have hh : ∀ b, (decDigits (u / 10) ++ [b]).head? = (decDigits (u / 10)).head? := by
        intro b
        cases hq : decDigits (u / 10) with
        | nil => exact absurd hq i2
        | cons _ _ => rfl
      refine ⟨by rw [List.all_append, i1, List.all_cons, List.all_nil, d.1]; rfl, by simp, ?_, ?_, ?_⟩
      · rw [vf_app, i3, d.2]; omega
      · rw [hh]; intro e; have := i4 e; omega
      · rw [hh]; exact i5
theorem digits_one (u : Nat) (h : (decDigits u).head? = some 48) : (decDigits u).length = 1 := by
  have := (digits_ok u).2.2.2.1 h
  subst this
  simp [decDigits]

theorem mag_neg (r : List UInt8) : mag (45 :: r) = r := rfl
theorem mag_self (l : List UInt8) (h : l.head? ≠ some 45) : mag l = l := by simp [mag, h]
theorem num_bound (q : List UInt8) (h : q.all dig = true) : vf 0 q < 10 ^ q.length := by
  have := decFrom_lt q 0 _ (dec_of q 0 h)
  simpa using this
/-- what a number's text is -/
theorem num_some {D : Nat} {l : List UInt8} {v : Int} (h : num D l = some v) : itoa v = l ∧ (mag l).length ≤ D ∧ v.natAbs < 10 ^ D ∧ l.length ≤ D + 1 ∧ atoi l = some v := by
  unfold num at h
  split at h
  · cases h
  · rename_i hc
    split at h
    · rename_i hd
      have c1 : mag l ≠ [] := fun e => hc (Or.inl e)
      have c2 : (mag l).length ≤ D := by
        apply Nat.le_of_not_lt; exact fun e => hc (Or.inr (Or.inl e))
      have c3 : (mag l).head? = some 48 → l.length ≤ 1 := fun e => Nat.le_of_not_lt fun e' => hc (Or.inr (Or.inr ⟨e, e'⟩))
      have hv := num_bound (mag l) hd
      have hpow : 10 ^ (mag l).length ≤ 10 ^ D := Nat.pow_le_pow_right (by omega) c2
      injection h with h
      by_cases hs : l.head? = some 45
      · cases l with
        | nil => simp at hs
        | cons a r =>
          simp only [List.head?_cons, Option.some.injEq] at hs
          subst hs
          rw [mag_neg] at *
          simp only [List.head?_cons, if_true] at h
          have hz : r.head? ≠ some 48 := fun e => by
            have := c3 e
            have : r.length = 0 := by simp at this; simpa using this
            exact c1 (List.length_eq_zero_iff.1 this)
          have v1 := vf_pos r hd c1 hz
          have hneg : v < 0 := by omega
          have hab : v.natAbs = vf 0 r := by omega
          refine ⟨?_, c2, by omega, by simp; omega, ?_⟩
          · unfold itoa
            rw [if_pos hneg, hab, dec_vf r hd c1 (fun e => absurd e hz)]
          · simp only [atoi, decNat]
            have : r.isEmpty = false := by cases r <;> simp at c1 ⊢
            rw [this]
            simp only [beq_self_eq_true, if_true]
            rw [if_neg (by simp), dec_of r 0 hd]
            simp only [Option.map_some, Option.some.injEq]
            omega
      · rw [mag_self l hs] at *
        rw [if_neg hs] at h
        have hz : l.head? = some 48 → l.length = 1 := fun e => by
          have := c3 e
          have h0 : l.length ≠ 0 := fun e0 => c1 (List.length_eq_zero_iff.1 e0)
          omega
        have hab : v.toNat = vf 0 l := by omega
        refine ⟨?_, c2, by omega, by omega, ?_⟩
        · unfold itoa
          rw [if_neg (by omega), hab, dec_vf l hd c1 hz]
        · cases l with
          | nil => exact absurd rfl c1
          | cons a r =>
            simp only [List.head?_cons, Option.some.injEq] at hs
            have ha : dig a = true := by simp at hd; exact hd.1
            simp only [dig, Bool.and_eq_true, decide_eq_true_eq] at ha
            have a43 : a ≠ 43 := by intro e; subst e; exact absurd ha.1 (by decide)
            have n1 : (a == 45) = false := by simpa using hs
            have n2 : (a == 43) = false := by simpa using a43
            simp only [atoi, n1, n2, decNat]
            rw [if_neg (by simp), if_neg (by simp)]
            simp only [List.isEmpty_cons]
            rw [if_neg (by simp), dec_of _ 0 hd]
            simp only [Option.map_some, Option.some.injEq]
            omega
    · cases h
/-- a number is read back -/
theorem num_itoa (D : Nat) (v : Int) (h : (mag (itoa v)).length ≤ D) : num D (itoa v) = some v := by
  by_cases hv : v < 0
  · have e : itoa v = 45 :: decDigits v.natAbs := by simp [itoa, hv]
    rw [e] at h ⊢
    obtain ⟨i1, i2, i3, i4, i5⟩ := digits_ok v.natAbs
    unfold num
    rw [mag_neg] at *
    rw [if_neg (by
      rintro (e | e | ⟨e, _⟩)
      · exact i2 e
      · omega
      · have := i4 e; omega), if_pos i1]
    simp only [List.head?_cons, if_true, i3, Option.some.injEq]
    omega
  · have e : itoa v = decDigits v.toNat := by simp [itoa, hv]
    rw [e] at h ⊢
    obtain ⟨i1, i2, i3, i4, i5⟩ := digits_ok v.toNat
    rw [mag_self _ i5] at h
    unfold num
    rw [mag_self _ i5]
    rw [if_neg (by
      rintro (e | e | ⟨e, e'⟩)
      · exact i2 e
      · omega
      · have := digits_one _ e; omega), if_pos i1, if_neg i5, i3]
    simp only [Option.some.injEq]
    omega
theorem digits_len : ∀ (k u : Nat), u < 10 ^ (k + 1) → (decDigits u).length ≤ k + 1
  | 0, u, h => by rw [decDigits, dif_pos (by simpa using h)]; simp
  | k + 1, u, h => by
    by_cases hu : u < 10
    · rw [decDigits, dif_pos hu]; simp
    · rw [decDigits, dif_neg hu]
      have := digits_len k (u / 10) (by rw [Nat.pow_succ] at h; omega)
      simp; omega
theorem num_small (v : Int) (h : v.natAbs < 1000000000) : num 9 (itoa v) = some v := by
  apply num_itoa
  by_cases hv : v < 0
  · have e : itoa v = 45 :: decDigits v.natAbs := by simp [itoa, hv]
    rw [e, mag_neg]; exact digits_len 8 _ h
  · have e : itoa v = decDigits v.toNat := by simp [itoa, hv]
    rw [e, mag_self _ (digits_ok _).2.2.2.2]; exact digits_len 8 _ (by omega)
theorem trim_mag (l : List UInt8) : trimPrefix l [45] = mag l := by
  unfold trimPrefix mag
  cases l with
  | nil => rfl
  | cons a r =>
    by_cases h : a = 45
    · subst h; rfl
    · have e : hasPrefix (a :: r) [45] = false := by simp [hasPrefix, List.isPrefixOf, Ne.symm h]
      rw [e, if_neg (by simp), if_neg (by simpa using h)]
theorem itoa_free (v : Int) : (32 : UInt8) ∉ itoa v := by
  intro h
  unfold itoa at h
  have key : ∀ u, (32 : UInt8) ∉ decDigits u := by
    intro u hm
    have := List.all_eq_true.1 (digits_ok u).1 _ hm
    exact absurd this (by decide)
  split at h
  · simp at h; exact key _ h
  · exact key _ h
end Tb
namespace Tb
open Go.Lib

/-- what a word says as a number, and as ticks -/
def nb (l : List UInt8) : Int × Bool := match num 9 l with
  | some n => (n, true)
  | none => (0, false)
def tk (l : List UInt8) : Int × Bool := if l = [45] then (-1, true) else ((nb l).1, (nb l).2 && decide (0 ≤ (nb l).1))
/-- the word of ticks; the words of a law, its text -/
def wd (t : Int) : List UInt8 := if t < 0 then [45] else itoa t
def words (c : Int) (ts : List Int) : List (List UInt8) := itoa c :: ts.map wd
def fmt (c : Int) (ts : List Int) : List UInt8 := join (words c ts) [32]

theorem wd_free (t : Int) : (32 : UInt8) ∉ wd t := by
  unfold wd
  split
  · decide
  · exact itoa_free t
theorem cut_tail (c : UInt8) : ∀ (ws : List (List UInt8)) (x : List UInt8), c ∉ x → (∀ y ∈ ws, c ∉ y) → cut c (x ++ joinTail [c] ws) = x :: ws
  | [], x, h, _ => by rw [show joinTail [c] [] = [] from rfl, List.append_nil]; exact cut_free c x h
  | y :: ws, x, h, hs => by
    have e : joinTail [c] (y :: ws) = c :: (y ++ joinTail [c] ws) := by simp [joinTail]
    rw [e, cut_app c _ x h, cut_tail c ws y (hs y (by simp)) (fun z hz => hs z (by simp [hz]))]
/-- a law's words are found again -/
theorem cut_fmt (c : Int) (ts : List Int) : cut 32 (fmt c ts) = words c ts := by
  unfold fmt words
  rw [join_cons]
  exact cut_tail 32 _ _ (itoa_free c) (by
    intro y hy
    obtain ⟨t, _, rfl⟩ := List.mem_map.1 hy
    exact wd_free t)
theorem nb_itoa (v : Int) (h : v.natAbs < 1000000000) : nb (itoa v) = (v, true) := by
  unfold nb; rw [num_small v h]
theorem itoa_dash (v : Int) (h : 0 ≤ v) : itoa v ≠ [45] := by
  intro e
  have e' : itoa v = decDigits v.toNat := by unfold itoa; rw [if_neg (by omega)]
  rw [e'] at e
  have := (digits_ok v.toNat).2.2.2.2
  rw [e] at this
  exact this rfl
theorem tk_wd (t : Int) (h1 : -1 ≤ t) (h2 : t < 1000000000) : tk (wd t) = (t, true) := by
  unfold wd tk
  by_cases ht : t < 0
  · rw [if_pos ht, if_pos rfl]
    have : t = -1 := by omega
    rw [this]
  · rw [if_neg ht, if_neg (itoa_dash t (by omega)), nb_itoa t (by omega)]
    simp; omega
theorem tks_wd : ∀ (ts : List Int), (∀ t ∈ ts, -1 ≤ t ∧ t < 1000000000) → (ts.map wd).map tk = ts.map fun t => (t, true)
  | [], _ => rfl
  | t :: ts, h => by
    rw [List.map_cons, List.map_cons, List.map_cons, tk_wd t (h t (by simp)).1 (h t (by simp)).2, tks_wd ts (fun x hx => h x (by simp [hx]))]
end Tb
namespace Tb
open Go.Lib

/-- digits ahead of a text -/
def dd (u : Nat) (s : List UInt8) : List UInt8 := if u = 0 then s else decDigits u ++ s
theorem dd_step (u : Nat) (s : List UInt8) (h : u ≠ 0) : dd u s = dd (u / 10) (UInt8.ofNat (48 + u % 10) :: s) := by
  unfold dd
  rw [if_neg h]
  by_cases h1 : u < 10
  · rw [if_pos (by omega), decDigits, dif_pos h1, Nat.mod_eq_of_lt h1]; rfl
  · rw [if_neg (by omega), decDigits, dif_neg h1, List.append_assoc]; rfl
theorem dd_itoa (n : Int) (h : n ≠ 0) : itoa n = (if n < 0 then [45] else []) ++ dd n.natAbs [] := by
  have h0 : n.natAbs ≠ 0 := by omega
  unfold itoa dd
  rw [if_neg h0, List.append_nil]
  by_cases hn : n < 0
  · rw [if_pos hn, if_pos hn]; rfl
  · rw [if_neg hn, if_neg hn, show n.natAbs = n.toNat by omega]; rfl

/-- what holds while a text is cut -/
structure Cutting (c : UInt8) (s : List UInt8) (from' i : Nat) (P : List (List UInt8)) : Prop where
  le : from' ≤ i
  lt : i ≤ s.length
  eq : cut c s = P ++ cut c (s.drop from')
  free : c ∉ (s.drop from').take (i - from')
theorem Cutting.start (c : UInt8) (s : List UInt8) : Cutting c s 0 0 [] := ⟨Nat.le_refl _, Nat.zero_le _, rfl, by simp⟩
theorem take_more (s : List UInt8) (a i : Nat) (b : UInt8) (h : a ≤ i) (hb : s[i]? = some b) : (s.drop a).take (i + 1 - a) = (s.drop a).take (i - a) ++ [b] := by
  rw [show i + 1 - a = (i - a) + 1 by omega, List.take_add_one, List.getElem?_drop, show a + (i - a) = i by omega, hb]; rfl
theorem Cutting.miss {c : UInt8} {s : List UInt8} {a i : Nat} {P : List (List UInt8)} {b : UInt8} (h : Cutting c s a i P) (hb : s[i]? = some b) (hc : b ≠ c) : Cutting c s a (i + 1) P := by
  have hi : i < s.length := by
    rcases Nat.lt_or_ge i s.length with h | h
    · exact h
    · rw [List.getElem?_eq_none h] at hb; cases hb
  refine ⟨Nat.le_succ_of_le h.le, hi, h.eq, ?_⟩
  rw [take_more s a i b h.le hb]
  intro hm
  rcases List.mem_append.1 hm with h' | h'
  · exact h.free h'
  · simp at h'; exact hc h'.symm
theorem Cutting.hit {c : UInt8} {s : List UInt8} {a i : Nat} {P : List (List UInt8)} (h : Cutting c s a i P) (hb : s[i]? = some c) : Cutting c s (i + 1) (i + 1) (P ++ [(s.drop a).take (i - a)]) := by
  have hi : i < s.length := by
    rcases Nat.lt_or_ge i s.length with h | h
    · exact h
    · rw [List.getElem?_eq_none h] at hb; cases hb
  refine ⟨Nat.le_refl _, hi, ?_, by simp⟩
  have e : s.drop a = (s.drop a).take (i - a) ++ c :: s.drop (i + 1) := by
    have hle := h.le
    have h1 := (List.take_append_drop (i - a) (s.drop a)).symm
    rw [List.drop_drop, show a + (i - a) = i by omega] at h1
    have h2 : s.drop i = c :: s.drop (i + 1) := by
      rw [List.drop_eq_getElem_cons hi]
      rw [List.getElem?_eq_getElem hi] at hb
      injection hb with hb
      rw [hb]
    rw [h2] at h1
    exact h1
  rw [h.eq]
  conv => lhs; rw [e]
  rw [cut_app c _ _ h.free]
  simp
theorem Cutting.done {c : UInt8} {s : List UInt8} {a : Nat} {P : List (List UInt8)} (h : Cutting c s a s.length P) : cut c s = P ++ [s.drop a] := by
  have hf := h.free
  rw [List.take_of_length_le (by simp)] at hf
  rw [h.eq, cut_free c _ hf]

/-- what holds while a number is read -/
theorem vf_take (m : List UInt8) (k : Nat) (b : UInt8) (hb : m[k]? = some b) : vf 0 (m.take (k + 1)) = 10 * vf 0 (m.take k) + (b.toNat - 48) := by
  rw [List.take_add_one, hb]; exact vf_app b _ _
theorem all_take (m : List UInt8) (k : Nat) (b : UInt8) (hb : m[k]? = some b) (h : (m.take k).all dig = true) (hd : dig b = true) : (m.take (k + 1)).all dig = true := by
  rw [List.take_add_one, hb, List.all_append, h]; simp [hd]
theorem not_all (m : List UInt8) (k : Nat) (b : UInt8) (hb : m[k]? = some b) (hd : dig b = false) : m.all dig = false := by
  have hm : b ∈ m := List.mem_of_getElem? hb
  cases h : m.all dig
  · rfl
  · rw [List.all_eq_true.1 h b hm] at hd; cases hd
theorem nb_none {l : List UInt8} (h : num 9 l = none) : nb l = (0, false) := by unfold nb; rw [h]
theorem nb_bad {l : List UInt8} (h : mag l = [] ∨ 9 < (mag l).length ∨ ((mag l).head? = some 48 ∧ 1 < l.length)) : nb l = (0, false) := nb_none (by unfold num; rw [if_pos h])
theorem nb_digits {l : List UInt8} (h : (mag l).all dig = false) : nb l = (0, false) := nb_none (by
  unfold num
  split
  · rfl
  · rw [if_neg (by simp [h])])
theorem nb_good {l : List UInt8} (h1 : mag l ≠ []) (h2 : (mag l).length ≤ 9) (h3 : ¬ ((mag l).head? = some 48 ∧ 1 < l.length)) (h : (mag l).all dig = true) : nb l = (if l.head? = some 45 then -(vf 0 (mag l) : Int) else (vf 0 (mag l) : Int), true) := by
  unfold nb num
  rw [if_neg (by
    rintro (e | e | e)
    · exact h1 e
    · omega
    · exact h3 e), if_pos h]
theorem vf_small (m : List UInt8) (k : Nat) (hl : m.length ≤ 9) (h : (m.take k).all dig = true) : vf 0 (m.take k) < 1000000000 := by
  have h1 := num_bound _ h
  have h2 : 10 ^ (m.take k).length ≤ 10 ^ 9 := Nat.pow_le_pow_right (by omega) (by rw [List.length_take]; omega)
  omega
theorem nb_ok {l : List UInt8} {v : Int} (h : nb l = (v, true)) : num 9 l = some v := by
  unfold nb at h
  cases hn : num 9 l with
  | none => rw [hn] at h; simp at h
  | some n => rw [hn] at h; simp at h; rw [h]
/-- a text that strconv reads, and writes so, is a number if it isn't too long -/
theorem nb_back {l : List UInt8} {v : Int} (hi : itoa v = l) (hl : (mag l).length ≤ 9) : nb l = (v, true) := by
  unfold nb
  rw [← hi] at hl ⊢
  rw [num_itoa 9 v hl]
theorem extract_list (s : ByteArray) (a b : Nat) : (s.extract a b).data.toList = (s.data.toList.drop a).take (b - a) := by
  rw [extract_data]
end Tb
end Go.Proofs.YtnckfbejgkdhhaaGreatDoor
