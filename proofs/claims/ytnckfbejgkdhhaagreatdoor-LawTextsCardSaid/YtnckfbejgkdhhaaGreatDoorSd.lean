/- numbers and ticks of any text -/
import Derived.Test.YtnckfbejgkdhhaaGreatDoorU2
import Derived.Test.YtnckfbejgkdhhaaGreatDoorSo
namespace Go.Proofs.YtnckfbejgkdhhaaGreatDoor
open Go.RowKit RayM
set_option linter.unusedSimpArgs false
set_option linter.unusedVariables false
/-- what a world of the listed variables holds: Laid, and the two errors of strconv -/
structure LaidE (w : World) : Prop where
  laid : Laid w
  syn : ∃ t p, w.var? Tryz.prog "strconv.ErrSyntax" = some #[.iface t p]
  rng : ∃ t p, w.var? Tryz.prog "strconv.ErrRange" = some #[.iface t p]
theorem LaidE.later {w w' : World} (h : LaidE w) (hb : Below w.heap.size w w') : LaidE w' := ⟨h.laid.later hb, by
  obtain ⟨t, p, e⟩ := h.syn
  exact ⟨t, p, var_later hb e⟩, by
  obtain ⟨t, p, e⟩ := h.rng
  exact ⟨t, p, var_later hb e⟩⟩
theorem atoi_ok (s : ByteArray) (n : Int) (hl : s.size ≤ 1000) (h : Lib.atoiAll s.data.toList = .ok n) (w : World) :
    Calls Tryz.prog 58 #[.string s] w fun e w' => e = .returned (.tuple #[.int .i64 n, .nilIface]) ∧ Below w.heap.size w w' :=
  (Tryz.strconv_Atoi_ok s (by omega) n h w).mono fun e w' ⟨he, hw⟩ => ⟨he, by
    rcases hw with rfl | ⟨t, rfl⟩
    · exact Below.refl _ _
    · exact Go.Joins.below_bytesWorld _ w _ t (Nat.le_refl _)⟩
theorem atoi_bad (s : ByteArray) (hl : s.size ≤ 1000) (h : ∀ n, Lib.atoiAll s.data.toList ≠ .ok n) (w : World) (hL : LaidE w) :
    Calls Tryz.prog 58 #[.string s] w fun e w' => ∃ n t p, e = .returned (.tuple #[.int .i64 n, .iface t (.pointer (some p))]) ∧ Below w.heap.size w w' := by
  cases hA : Lib.atoiAll s.data.toList with
  | ok n => exact absurd hA (h n)
  | «syntax» =>
    obtain ⟨t, p, hv⟩ := hL.syn
    exact (Tryz.strconv_Atoi_syntax_var s (by omega) hA t p w hv).mono fun e w' ⟨N, he, _, _, hb⟩ => ⟨_, _, _, he, hb⟩
  | range =>
    obtain ⟨t, p, hv⟩ := hL.rng
    exact (Tryz.strconv_Atoi_range_var s (by omega) hA t p w hv).mono fun e w' ⟨N, he, _, _, hb⟩ => ⟨_, _, _, he, hb⟩
theorem size_data (s : ByteArray) : s.size = s.data.toList.length := (Array.length_toList).symm
theorem bytes_of (s : ByteArray) (l : List UInt8) (h : l = s.data.toList) : (⟨l.toArray⟩ : ByteArray) = s := by
  subst h
  rfl
theorem bytes_ne (s : ByteArray) (l : List UInt8) (h : l ≠ s.data.toList) : ((⟨l.toArray⟩ : ByteArray) = s) = False := by
  apply eq_false
  intro e
  apply h
  rw [← e]
set_option maxRecDepth 100000 in
set_option maxHeartbeats 1000000 in
theorem number_any (s : ByteArray) (w : World) (hE : LaidE w) (hs : s.size ≤ 1000) :
    Calls Tryz.prog 41 #[.string s, .int .i64 9] w fun e w' => e = .returned (.tuple #[.int .i64 (Tb.nb s.data.toList).1, .bool (Tb.nb s.data.toList).2]) ∧ Below w.heap.size w w' := by
  cases hn : Tb.num 9 s.data.toList with
  | some v =>
    obtain ⟨h1, h2, h3, h4, h5⟩ := Tb.num_some hn
    have e : Tb.nb s.data.toList = (v, true) := by unfold Tb.nb; rw [hn]
    rw [e]
    have hsz := size_data s
    exact number_yes s v w hE.laid (by omega) (by omega) (by omega) h5 (bytes_of s _ h1) (by rw [Tb.trim_mag]; exact h2)
  | none =>
    rw [Tb.nb_none hn]
    by_cases hA : ∃ n, Lib.atoiAll s.data.toList = .ok n
    · obtain ⟨n, hA⟩ := hA
      have hb := Lib.atoiAll_bounds hA
      by_cases hi : Lib.itoa n = s.data.toList
      · have hm : ¬ (Tb.mag s.data.toList).length ≤ 9 := by
          intro hl
          have := Tb.nb_back hi hl
          rw [Tb.nb_none hn] at this
          simp at this
        have hi' := bytes_of s _ hi
        have hm' : 9 < (Lib.trimPrefix s.data.toList [45]).length := by rw [Tb.trim_mag]; omega
        have HI := Lib.hid hi'; have HM := Lib.hid hm'
        clear hn hi hm hi' hm'
        go_enter Tryz.func41, Tryz.ntmps41
        go_wp2_with (first
          | (go_at_call 58; (with_reducible refine (atoi_ok s n hs hA _).mono ?_); rintro e w1 ⟨rfl, hb1⟩; have hL1 := hE.laid.later hb1; have b1 : Hid (Below w.heap.size w w1) := Lib.hid hb1)
          | (go_at_call 17; (with_reducible refine (itoa_b n hb.1 hb.2 _ hL1).mono ?_); rintro e w2 ⟨rfl, hb2⟩; have b2 : Hid (Below w.heap.size w w2) := Lib.hid (below_then b1.out hb2); rw [HI.out])
          | (go_at_call 59; (with_reducible refine (Tryz.strings_TrimPrefix s _ _).mono ?_); rintro e w' ⟨rfl, rfl⟩; have hm' := HM.out))
        all_goals (go_ret2; exact ⟨rfl, b2.out⟩)
      · have HI := Lib.hid (bytes_ne s _ hi)
        have q1 : (Lib.itoa n == s.toList) = false := by rw [ByteArray.toList_eq]; simpa using hi
        have q2 : (s.toList == Lib.itoa n) = false := by rw [ByteArray.toList_eq]; simpa using fun e => hi (Eq.symm e)
        have Q1 := Lib.hid q1; have Q2 := Lib.hid q2
        clear hn hi q1 q2
        go_enter Tryz.func41, Tryz.ntmps41
        go_wp2_with (first
          | (go_at_call 58; (with_reducible refine (atoi_ok s n hs hA _).mono ?_); rintro e w1 ⟨rfl, hb1⟩; have hL1 := hE.laid.later hb1; have b1 : Hid (Below w.heap.size w w1) := Lib.hid hb1)
          | (go_at_call 17; (with_reducible refine (itoa_b n hb.1 hb.2 _ hL1).mono ?_); rintro e w2 ⟨rfl, hb2⟩; have b2 : Hid (Below w.heap.size w w2) := Lib.hid (below_then b1.out hb2); have hi' := HI.out; have q1 := Q1.out; have q2 := Q2.out))
        all_goals (go_ret2; exact ⟨rfl, b2.out⟩)
    · have hA' : ∀ n, Lib.atoiAll s.data.toList ≠ .ok n := fun n e => hA ⟨n, e⟩
      clear hA hn
      go_enter Tryz.func41, Tryz.ntmps41
      go_wp2_with (go_at_call 58; (with_reducible refine (atoi_bad s hs hA' _ hE).mono ?_); rintro e w1 ⟨n1, t1, p1, rfl, hb1⟩; have b1 : Hid (Below w.heap.size w w1) := Lib.hid hb1)
      all_goals (go_ret2; exact ⟨rfl, b1.out⟩)
theorem dash_list (s : ByteArray) : (s = ⟨#[45]⟩) = (s.data.toList = [45]) := by
  apply propext
  constructor
  · rintro rfl; rfl
  · intro h; rw [← bytes_of s _ rfl, h]
theorem tk_number (s : ByteArray) (h : s.data.toList ≠ [45]) : Tb.tk s.data.toList = ((Tb.nb s.data.toList).1, (Tb.nb s.data.toList).2 && decide (0 ≤ (Tb.nb s.data.toList).1)) := by
  unfold Tb.tk; rw [if_neg h]
set_option maxRecDepth 100000 in
set_option maxHeartbeats 1000000 in
theorem ticks_any (s : ByteArray) (w : World) (hE : LaidE w) (hs : s.size ≤ 1000) :
    Calls Tryz.prog 42 #[.string s] w fun e w' => e = .returned (.tuple #[.int .i64 (Tb.tk s.data.toList).1, .bool (Tb.tk s.data.toList).2]) ∧ Below w.heap.size w w' := by
  by_cases hd : s.data.toList = [45]
  · have : s = ⟨#[45]⟩ := by rw [dash_list]; exact hd
    rw [this]
    exact ticks_dash w
  · rw [tk_number s hd]
    have hne : (s.toList == [45]) = false := by rw [ByteArray.toList_eq]; simpa using hd
    have HN := Lib.hid (fun w h => number_any s w h hs)
    generalize Tb.nb s.data.toList = r at *
    obtain ⟨v, b⟩ := r
    dsimp only at *
    cases b
    · go_enter Tryz.func42, Tryz.ntmps42
      go_wp2_with (go_at_call 41; (with_reducible refine (HN.out _ hE).mono ?_); rintro e w1 ⟨rfl, hb1⟩; have b1 : Hid (Below w.heap.size w w1) := Lib.hid hb1)
      all_goals (go_ret2; exact ⟨rfl, b1.out⟩)
    · by_cases hv : 0 ≤ v
      · go_enter Tryz.func42, Tryz.ntmps42
        go_wp2_with (go_at_call 41; (with_reducible refine (HN.out _ hE).mono ?_); rintro e w1 ⟨rfl, hb1⟩; have b1 : Hid (Below w.heap.size w w1) := Lib.hid hb1)
        all_goals (go_ret2; exact ⟨by simp [hv], b1.out⟩)
      · go_enter Tryz.func42, Tryz.ntmps42
        go_wp2_with (go_at_call 41; (with_reducible refine (HN.out _ hE).mono ?_); rintro e w1 ⟨rfl, hb1⟩; have b1 : Hid (Below w.heap.size w w1) := Lib.hid hb1)
        all_goals (go_ret2; exact ⟨by simp [hv], b1.out⟩)
end Go.Proofs.YtnckfbejgkdhhaaGreatDoor
