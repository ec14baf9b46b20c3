/- whole numbers as floats: how they are written, read, added, compared and turned into ints again -/
import Derived.Laws.FloatArith
import Derived.Laws.ComplexArith
namespace Go.Proofs.Ytoieemgdkpnbfaa
set_option linter.unusedSimpArgs false
set_option linter.unusedVariables false
namespace Fl
open Ieee

/-- a format with room for whole numbers: what single and double have -/
structure Good (f : Format) : Prop where
  least : f.leastPlace + f.fractionBits ≤ 0
  room : ((-f.leastPlace).toNat + 2) * f.binade ≤ f.infRung
  inf : f.infRung < f.signWeight
theorem good32 : Good single := ⟨by decide, by decide +kernel, by decide +kernel⟩
theorem good64 : Good double := ⟨by decide, by decide +kernel, by decide +kernel⟩

/-- the rung of a whole number above 0 -/
def rung (f : Format) (a : Nat) : Nat := ((a.log2 : Int) - f.fractionBits - f.leastPlace).toNat * f.binade + a * 2 ^ (f.fractionBits - a.log2)

theorem log2_mul_pow (a k : Nat) (h : 0 < a) : (a * 2 ^ k).log2 = a.log2 + k := by
  have e1 := Nat.log2_self_le (n := a) (by omega)
  have e2 := Nat.lt_log2_self (n := a)
  have hp : 0 < 2 ^ k := Nat.pow_pos (by omega)
  have h0 : a * 2 ^ k ≠ 0 := by
    have := Nat.mul_pos h hp
    omega
  refine (Nat.log2_eq_iff h0).2 ⟨?_, ?_⟩
  · rw [Nat.pow_add]; exact Nat.mul_le_mul_right _ e1
  · rw [show a.log2 + k + 1 = (a.log2 + 1) + k by omega, Nat.pow_add]; exact Nat.mul_lt_mul_of_pos_right e2 hp

theorem cut_exact (s : Bool) (n d : Nat) (w : Toward) : w.cut s (n * 2 ^ d) d = n := by
  unfold Toward.cut
  by_cases hn : n = 0
  · subst hn; cases w <;> simp
  · have hl : d ≤ (n * 2 ^ d).log2 + 2 := by rw [log2_mul_pow n d (by omega)]; omega
    have hp : 0 < 2 ^ d := Nat.pow_pos (by omega)
    rw [Nat.min_eq_left hl, Nat.one_shiftLeft]
    dsimp only
    rw [Nat.mul_div_cancel _ hp, Nat.mul_mod_left]
    cases w <;> simp <;> omega

theorem nearest_whole {f : Format} (g : Good f) (s : Bool) (a k : Nat) (h : 0 < a) (hl : a.log2 ≤ f.fractionBits) : f.nearest s (a * 2 ^ k) (-(k : Int)) = f.word s (min (rung f a) f.infRung) := by
  have hp : 0 < 2 ^ k := Nat.pow_pos (by omega)
  have h0 : a * 2 ^ k ≠ 0 := by have := Nat.mul_pos h hp; omega
  have gl := g.least
  unfold Format.nearest
  rw [if_neg h0]
  have hm : max (-(k : Int) + ((a * 2 ^ k).log2 : Nat) - f.fractionBits) f.leastPlace = (a.log2 : Int) - f.fractionBits := by
    rw [log2_mul_pow a k h]; omega
  rw [hm]
  dsimp only
  have hc : Toward.even.cut s ((a * 2 ^ k) <<< (-(k : Int) - ((a.log2 : Int) - f.fractionBits)).toNat) (((a.log2 : Int) - f.fractionBits) - -(k : Int)).toNat = a * 2 ^ (f.fractionBits - a.log2) := by
    rw [Nat.shiftLeft_eq]
    by_cases hk : k ≤ f.fractionBits - a.log2
    · have e1 : (-(k : Int) - ((a.log2 : Int) - f.fractionBits)).toNat = f.fractionBits - a.log2 - k := by omega
      have e2 : (((a.log2 : Int) - f.fractionBits) - -(k : Int)).toNat = 0 := by omega
      rw [e1, e2, Nat.mul_assoc, ← Nat.pow_add, show k + (f.fractionBits - a.log2 - k) = f.fractionBits - a.log2 by omega]
      have := cut_exact s (a * 2 ^ (f.fractionBits - a.log2)) 0 .even
      simpa using this
    · have e1 : (-(k : Int) - ((a.log2 : Int) - f.fractionBits)).toNat = 0 := by omega
      have e2 : (((a.log2 : Int) - f.fractionBits) - -(k : Int)).toNat = k - (f.fractionBits - a.log2) := by omega
      rw [e1, e2, Nat.pow_zero, Nat.mul_one]
      have : a * 2 ^ k = a * 2 ^ (f.fractionBits - a.log2) * 2 ^ (k - (f.fractionBits - a.log2)) := by
        rw [Nat.mul_assoc, ← Nat.pow_add]; congr 2; omega
      rw [this, cut_exact]
  rw [hc]
  rfl

theorem rung_bounds {f : Format} (a : Nat) (h : 0 < a) (hl : a.log2 ≤ f.fractionBits) : f.binade ≤ a * 2 ^ (f.fractionBits - a.log2) ∧ a * 2 ^ (f.fractionBits - a.log2) < 2 * f.binade := by
  have e1 := Nat.log2_self_le (n := a) (by omega)
  have e2 := Nat.lt_log2_self (n := a)
  have hp : 0 < 2 ^ (f.fractionBits - a.log2) := Nat.pow_pos (by omega)
  unfold Format.binade
  constructor
  · calc 2 ^ f.fractionBits = 2 ^ a.log2 * 2 ^ (f.fractionBits - a.log2) := by rw [← Nat.pow_add]; congr 1; omega
      _ ≤ _ := Nat.mul_le_mul_right _ e1
  · calc a * 2 ^ (f.fractionBits - a.log2) < 2 ^ (a.log2 + 1) * 2 ^ (f.fractionBits - a.log2) := Nat.mul_lt_mul_of_pos_right e2 hp
      _ = 2 * 2 ^ f.fractionBits := by rw [← Nat.pow_add, ← Nat.pow_succ']; congr 1; omega

theorem binade_pos (f : Format) : 0 < f.binade := Nat.pow_pos (by omega)

theorem rung_lt {f : Format} (g : Good f) (a : Nat) (h : 0 < a) (hl : a.log2 ≤ f.fractionBits) : rung f a < f.infRung := by
  have b := rung_bounds (f := f) a h hl
  have gl := g.least
  have gr := g.room
  unfold rung
  have e : ((a.log2 : Int) - f.fractionBits - f.leastPlace).toNat ≤ (-f.leastPlace).toNat := by omega
  have m := Nat.mul_le_mul_right f.binade e
  rw [Nat.add_mul] at gr
  omega

/-- the word of a whole number -/
def fl (f : Format) (n : Int) : Nat := f.nearest (decide (n < 0)) n.natAbs 0

theorem read_word {f : Format} (g : Good f) (s : Bool) (r : Nat) (h : r < f.infRung) : f.read (f.word s r) = if r < f.binade then .number s r f.leastPlace else .number s (f.binade + r % f.binade) (f.leastPlace + (r / f.binade - 1 : Nat)) := by
  have gi := g.inf
  have hs : 0 < f.signWeight := by omega
  have e1 : (f.word s r / f.signWeight % 2 == 1) = s := by
    unfold Format.word
    cases s
    · simp [Nat.div_eq_of_lt (show r < f.signWeight by omega)]
    · simp only [if_true]
      rw [Nat.add_div_left _ hs, Nat.div_eq_of_lt (show r < f.signWeight by omega)]; rfl
  have e2 : f.word s r % f.signWeight = r := by
    unfold Format.word
    cases s
    · simp [Nat.mod_eq_of_lt (show r < f.signWeight by omega)]
    · simp only [if_true]
      rw [Nat.add_mod_left, Nat.mod_eq_of_lt (show r < f.signWeight by omega)]
  unfold Format.read
  dsimp only
  rw [e1, e2]
  by_cases h1 : r < f.binade
  · rw [if_pos h1, if_pos h1]
  · rw [if_neg h1, if_neg h1, if_pos h]

theorem read_rung {f : Format} (g : Good f) (s : Bool) (a : Nat) (h : 0 < a) (hl : a.log2 ≤ f.fractionBits) : f.read (f.word s (rung f a)) = .number s (a * 2 ^ (f.fractionBits - a.log2)) (-((f.fractionBits - a.log2 : Nat) : Int)) := by
  have b := rung_bounds (f := f) a h hl
  have gl := g.least
  have bp := binade_pos f
  rw [read_word g s _ (rung_lt g a h hl)]
  have hn : ¬ rung f a < f.binade := by unfold rung; omega
  rw [if_neg hn]
  have hq : rung f a = a * 2 ^ (f.fractionBits - a.log2) - f.binade + f.binade * (((a.log2 : Int) - f.fractionBits - f.leastPlace).toNat + 1) := by
    unfold rung; rw [Nat.mul_add, Nat.mul_one, Nat.mul_comm]; omega
  have e1 : rung f a % f.binade = a * 2 ^ (f.fractionBits - a.log2) - f.binade := by
    rw [hq, Nat.add_mul_mod_self_left, Nat.mod_eq_of_lt (by omega)]
  have e2 : rung f a / f.binade = ((a.log2 : Int) - f.fractionBits - f.leastPlace).toNat + 1 := by
    rw [hq, Nat.add_mul_div_left _ _ bp, Nat.div_eq_of_lt (by omega), Nat.zero_add]
  rw [e1, e2]
  congr 1
  · omega
  · omega

theorem log2_le {a p : Nat} (h : a < 2 ^ (p + 1)) : a.log2 ≤ p := by
  by_cases h0 : a = 0
  · subst h0; simp
  · have := (Nat.log2_lt h0).2 h; omega

/-- HOW A WHOLE NUMBER IS READ. -/
theorem read_fl {f : Format} (g : Good f) (n : Int) (h : n.natAbs < 2 ^ (f.fractionBits + 1)) : ∃ k : Nat, f.read (fl f n) = .number (decide (n < 0)) (n.natAbs * 2 ^ k) (-(k : Int)) := by
  unfold fl
  by_cases h0 : n = 0
  · subst h0
    have gl := g.least
    have gi := g.inf
    have bp := binade_pos f
    have gr := g.room
    refine ⟨(-f.leastPlace).toNat, ?_⟩
    have : 0 < f.infRung := by
      rw [Nat.add_mul] at gr; omega
    simp only [Format.nearest, Int.natAbs_zero, if_true]
    rw [read_word g _ 0 this, if_pos bp]
    simp; omega
  · have hp : 0 < n.natAbs := by omega
    have hl := log2_le h
    refine ⟨f.fractionBits - n.natAbs.log2, ?_⟩
    have := nearest_whole g (decide (n < 0)) n.natAbs 0 hp hl
    simp only [Nat.pow_zero, Nat.mul_one] at this
    rw [show (-((0 : Nat) : Int)) = 0 by rfl] at this
    rw [this, Nat.min_eq_left (Nat.le_of_lt (rung_lt g _ hp hl)), read_rung g _ _ hp hl]

/-- what is written of a number that is whole -/
theorem write_whole {f : Format} (g : Good f) (n : Int) (k : Nat) (s : Bool) (h : n.natAbs < 2 ^ (f.fractionBits + 1)) (hs : s = decide (n < 0)) : f.write (.number s (n.natAbs * 2 ^ k) (-(k : Int))) = fl f n := by
  subst hs
  unfold fl Format.write
  by_cases h0 : n = 0
  · subst h0; simp [Format.nearest]
  · have hp : 0 < n.natAbs := by omega
    have hl := log2_le h
    have := nearest_whole g (decide (n < 0)) n.natAbs 0 hp hl
    simp only [Nat.pow_zero, Nat.mul_one] at this
    rw [show (-((0 : Nat) : Int)) = 0 by rfl] at this
    dsimp only
    rw [this, nearest_whole g _ _ k hp hl]

theorem signed_whole (n : Int) (i k : Nat) : signed (decide (n < 0)) (n.natAbs * 2 ^ i) k = n * (2 : Int) ^ (i + k) := by
  unfold signed
  rw [Nat.shiftLeft_eq, Nat.mul_assoc, ← Nat.pow_add]
  by_cases h : n < 0
  · simp only [h, decide_true, if_true]
    rw [Int.natCast_mul, Int.natCast_pow]
    have : (n.natAbs : Int) = -n := by omega
    rw [this]; simp [Int.neg_mul]
  · simp only [h, decide_false]
    rw [if_neg (by decide), Int.natCast_mul, Int.natCast_pow]
    have : (n.natAbs : Int) = n := by omega
    rw [this]; rfl
theorem signed_neg (n : Int) (i k : Nat) : signed (!decide (n < 0)) (n.natAbs * 2 ^ i) k = -n * (2 : Int) ^ (i + k) := by
  unfold signed
  rw [Nat.shiftLeft_eq, Nat.mul_assoc, ← Nat.pow_add]
  by_cases h : n < 0
  · simp only [h, decide_true, Bool.not_true]
    rw [if_neg (by decide), Int.natCast_mul, Int.natCast_pow]
    have : (n.natAbs : Int) = -n := by omega
    rw [this]; rfl
  · simp only [h, decide_false, Bool.not_false, if_true]
    rw [Int.natCast_mul, Int.natCast_pow]
    have : (n.natAbs : Int) = n := by omega
    rw [this]; simp [Int.neg_mul]
theorem pow2_pos (k : Nat) : (0 : Int) < (2 : Int) ^ k := Int.pow_pos (by decide)

theorem add_fl {f : Format} (g : Good f) (a b : Int) (ha : a.natAbs < 2 ^ (f.fractionBits + 1)) (hb : b.natAbs < 2 ^ (f.fractionBits + 1)) (hs : (a + b).natAbs < 2 ^ (f.fractionBits + 1)) : f.add (fl f a) (fl f b) = some (fl f (a + b)) := by
  obtain ⟨i, ei⟩ := read_fl g a ha
  obtain ⟨j, ej⟩ := read_fl g b hb
  unfold Format.add
  rw [ei, ej]
  simp only [Datum.sum, Option.map_some]
  rw [signed_whole, signed_whole]
  have hbase : min (-(i : Int)) (-(j : Int)) = -((max i j : Nat) : Int) := by omega
  rw [hbase]
  have k1 : i + (-(i : Int) - -((max i j : Nat) : Int)).toNat = max i j := by omega
  have k2 : j + (-(j : Int) - -((max i j : Nat) : Int)).toNat = max i j := by omega
  rw [k1, k2, ← Int.add_mul]
  have pp := pow2_pos (max i j)
  have e1 : ((a + b) * (2 : Int) ^ (max i j)).natAbs = (a + b).natAbs * 2 ^ (max i j) := by
    rw [Int.natAbs_mul, Int.natAbs_pow]; rfl
  rw [e1]
  congr 1
  refine write_whole g (a + b) (max i j) _ hs ?_
  by_cases h0 : a + b = 0
  · rw [h0]; simp
    omega
  · have hne : ¬ ((a + b) * (2 : Int) ^ (max i j) = 0) := by
      intro h
      rcases Int.mul_eq_zero.1 h with h | h
      · exact h0 h
      · omega
    rw [if_neg hne]
    by_cases hn : a + b < 0
    · rw [decide_eq_true hn, decide_eq_true]; exact Int.mul_neg_of_neg_of_pos hn pp
    · rw [decide_eq_false hn, decide_eq_false]
      have := Int.mul_nonneg (show 0 ≤ a + b by omega) (Int.le_of_lt pp)
      omega
theorem sub_fl {f : Format} (g : Good f) (a b : Int) (ha : a.natAbs < 2 ^ (f.fractionBits + 1)) (hb : b.natAbs < 2 ^ (f.fractionBits + 1)) (hs : (a - b).natAbs < 2 ^ (f.fractionBits + 1)) : f.sub (fl f a) (fl f b) = some (fl f (a - b)) := by
  obtain ⟨i, ei⟩ := read_fl g a ha
  obtain ⟨j, ej⟩ := read_fl g b hb
  unfold Format.sub
  rw [ei, ej]
  simp only [Datum.opposite, Datum.sum, Option.map_some]
  rw [signed_whole, signed_neg]
  have hbase : min (-(i : Int)) (-(j : Int)) = -((max i j : Nat) : Int) := by omega
  rw [hbase]
  have k1 : i + (-(i : Int) - -((max i j : Nat) : Int)).toNat = max i j := by omega
  have k2 : j + (-(j : Int) - -((max i j : Nat) : Int)).toNat = max i j := by omega
  rw [k1, k2, ← Int.add_mul, ← Int.sub_eq_add_neg]
  have pp := pow2_pos (max i j)
  have e1 : ((a - b) * (2 : Int) ^ (max i j)).natAbs = (a - b).natAbs * 2 ^ (max i j) := by
    rw [Int.natAbs_mul, Int.natAbs_pow]; rfl
  rw [e1]
  congr 1
  refine write_whole g (a - b) (max i j) _ hs ?_
  by_cases h0 : a - b = 0
  · rw [h0]; simp
    omega
  · have hne : ¬ ((a - b) * (2 : Int) ^ (max i j) = 0) := by
      intro h
      rcases Int.mul_eq_zero.1 h with h | h
      · exact h0 h
      · omega
    rw [if_neg hne]
    by_cases hn : a - b < 0
    · rw [decide_eq_true hn, decide_eq_true]; exact Int.mul_neg_of_neg_of_pos hn pp
    · rw [decide_eq_false hn, decide_eq_false]
      have := Int.mul_nonneg (show 0 ≤ a - b by omega) (Int.le_of_lt pp)
      omega
theorem order_fl {f : Format} (g : Good f) (a b : Int) (ha : a.natAbs < 2 ^ (f.fractionBits + 1)) (hb : b.natAbs < 2 ^ (f.fractionBits + 1)) : f.order (fl f a) (fl f b) = some (compare a b) := by
  obtain ⟨i, ei⟩ := read_fl g a ha
  obtain ⟨j, ej⟩ := read_fl g b hb
  unfold Format.order
  rw [ei, ej]
  simp only [Datum.order]
  rw [signed_whole, signed_whole]
  have hbase : min (-(i : Int)) (-(j : Int)) = -((max i j : Nat) : Int) := by omega
  rw [hbase]
  have k1 : i + (-(i : Int) - -((max i j : Nat) : Int)).toNat = max i j := by omega
  have k2 : j + (-(j : Int) - -((max i j : Nat) : Int)).toNat = max i j := by omega
  rw [k1, k2]
  have pp := pow2_pos (max i j)
  congr 1
  rcases Int.lt_trichotomy a b with h | h | h
  · rw [(Int.compare_eq_lt).2 h, (Int.compare_eq_lt).2 (Int.mul_lt_mul_of_pos_right h pp)]
  · subst h; simp
  · rw [(Int.compare_eq_gt).2 h, (Int.compare_eq_gt).2 (Int.mul_lt_mul_of_pos_right h pp)]
theorem toInt_fl {f : Format} (g : Good f) (a : Int) (ha : a.natAbs < 2 ^ (f.fractionBits + 1)) : (f.read (fl f a)).toInt .zero = some a := by
  obtain ⟨i, ei⟩ := read_fl g a ha
  rw [ei]
  unfold Datum.toInt Datum.integral
  dsimp only
  have e1 : (-(i : Int)).toNat = 0 := by omega
  have e2 : (- -(i : Int)).toNat = i := by omega
  rw [e1, e2, Nat.shiftLeft_zero, cut_exact]
  have := signed_whole a 0 0
  simp only [Nat.pow_zero, Nat.mul_one] at this
  rw [this]; simp
theorem other_fl {f f' : Format} (g : Good f) (g' : Good f') (a : Int) (ha : a.natAbs < 2 ^ (f.fractionBits + 1)) (ha' : a.natAbs < 2 ^ (f'.fractionBits + 1)) : f'.write (f.read (fl f a)) = fl f' a := by
  obtain ⟨i, ei⟩ := read_fl g a ha
  rw [ei, write_whole g' a i _ ha' rfl]
end Fl
end Go.Proofs.Ytoieemgdkpnbfaa
