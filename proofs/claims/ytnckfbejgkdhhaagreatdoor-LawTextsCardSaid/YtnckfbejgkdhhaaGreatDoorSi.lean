/- the reference's numbers -/
import Derived.Test.YtnckfbejgkdhhaaGreatDoorA5
import Derived.Test.YtnckfbejgkdhhaaGreatDoorSd
import Derived.Test.YtnckfbejgkdhhaaGreatDoorSg
namespace Go.Proofs.YtnckfbejgkdhhaaGreatDoor
open Go.RowKit RayM
set_option linter.unusedSimpArgs false
set_option linter.unusedVariables false
theorem get_list (s : ByteArray) (i : Nat) (h : i < s.size) : s.data.toList[i]? = some (s[i]'h) := by
  have e : (s[i]'h) = s.data[i]'h := rfl
  rw [e, Array.getElem?_toList, Array.getElem?_eq_getElem h]
theorem mag_one (s : ByteArray) (h : 0 < s.size) (hd : s[0] = 45) : Tb.mag s.data.toList = s.data.toList.drop 1 := by
  have e := get_list s 0 h
  unfold Tb.mag
  rw [List.head?_eq_getElem?, e, hd, if_pos rfl]
  simp
theorem mag_zero (s : ByteArray) (h : 0 < s.size) (hd : ¬ s[0] = 45) : Tb.mag s.data.toList = s.data.toList.drop 0 := by
  have e := get_list s 0 h
  unfold Tb.mag
  rw [List.head?_eq_getElem?, e, if_neg (fun q => hd (Option.some.inj q))]
  rfl

set_option maxRecDepth 100000 in
set_option maxHeartbeats 4000000 in
theorem rNumber_one (s : ByteArray) (w : World) (hs : s.size ≤ 1000) (h0 : 0 < s.size) (hd : s[0] = 45) :
    Calls Tryz.prog 26 #[.string s, .int .i64 9] w fun e w' => e = .returned (.tuple #[.int .i64 (Tb.nb s.data.toList).1, .bool (Tb.nb s.data.toList).2]) ∧ w = w' := by
  have hl := size_data s
  have hm : Tb.mag s.data.toList = s.data.toList.drop 1 := mag_one s h0 hd
  have hml : (Tb.mag s.data.toList).length = s.size - 1 := by have := congrArg List.length hm; rw [List.length_drop] at this; omega
  have hmg : ∀ k (h : 1 + k < s.size), (Tb.mag s.data.toList)[k]? = some (s[1 + k]'h) := fun k h => by
    rw [hm, List.getElem?_drop]
    exact get_list s _ h
  have h45 : ((s[0].toNat : Nat) : Int) = 45 := by rw [hd]; rfl
  have h0' : (0 : Int) < (s.size : Int) := by omega
  have h45b : (((s[0].toNat : Nat) : Int) == 45) = true := by simpa using h45
  by_cases q1 : s.size = 1
  · have hn : Tb.nb s.data.toList = (0, false) := Tb.nb_bad (Or.inl (List.length_eq_zero_iff.1 (by omega)))
    rw [hn]
    clear hmg hml hm hn hl
    go_enter Tryz.func26, Tryz.ntmps26
    go_wp2
    all_goals (go_ret2; exact ⟨rfl, rfl⟩)
  · have q1' : ¬ (s.size : Int) = 1 := by omega
    by_cases q2 : 9 < s.size - 1
    · have hn : Tb.nb s.data.toList = (0, false) := Tb.nb_bad (Or.inr (Or.inl (by omega)))
      rw [hn]
      have q2' : (9 : Int) < (s.size : Int) - 1 := by omega
      clear hmg hml hm hn hl q1
      go_enter Tryz.func26, Tryz.ntmps26
      go_wp2
      all_goals (go_ret2; exact ⟨rfl, rfl⟩)
    · have q2' : ¬ (9 : Int) < (s.size : Int) - 1 := by omega
      have ha : 1 < s.size := by omega
      have hhd := hmg 0 (by omega)
      by_cases q3 : s[1].toNat = 48 ∧ 1 < s.size
      · have hn : Tb.nb s.data.toList = (0, false) := Tb.nb_bad (Or.inr (Or.inr ⟨by rw [List.head?_eq_getElem?, hhd]; exact congrArg some (UInt8.toNat_inj.1 q3.1), by omega⟩))
        rw [hn]
        obtain ⟨q4, q5⟩ := q3
        have q5' : (1 : Int) < (s.size : Int) := by omega
        have q4' : ((s[1].toNat : Nat) : Int) = 48 := by omega
        clear hmg hml hm hn hl q1 hhd
        go_enter Tryz.func26, Tryz.ntmps26
        go_wp2
        all_goals (go_ret2; exact ⟨rfl, rfl⟩)
      · have g3 : ¬ ((Tb.mag s.data.toList).head? = some 48 ∧ 1 < s.data.toList.length) := fun e => q3 ⟨by
          have e1 := e.1
          rw [List.head?_eq_getElem?, hhd] at e1
          have e2 := Option.some.inj e1
          rw [e2]; rfl, by omega⟩
        have hbad := fun h => Tb.nb_digits (l := s.data.toList) h
        have hgood := fun h => Tb.nb_good (l := s.data.toList) (fun e => by rw [e] at hml; simp at hml; omega) (by omega) g3 h
        have hhead : s.data.toList.head? = some s[0] := by rw [List.head?_eq_getElem?]; exact get_list s 0 h0
        rw [hhead, hd] at hgood; simp only [if_true] at hgood
        generalize Tb.mag s.data.toList = m at *
        generalize Tb.nb s.data.toList = nbv at *
        have HB := Lib.hid hbad; have HG := Lib.hid hgood; have HM := Lib.hid hmg; have HL := Lib.hid hml
        have Q3 := Lib.hid q3
        clear hbad hgood hmg hml hm hl g3 hhd hhead q1 q3
        by_cases p1 : s[1].toNat = 48 ∧ False
        · exact absurd p1.2 id
        all_goals
          first
            | (have p1' : (((s[1].toNat : Nat) : Int) == 48) = true := by simp; omega
               have p2' : ¬ (1 : Int) < (s.size : Int) := fun e => Q3.out ⟨p1, by omega⟩)
            | (have p1' : (((s[1].toNat : Nat) : Int) == 48) = false := by
                have : s[1].toNat ≠ 48 := fun e => Q3.out ⟨e, by omega⟩
                simp; omega)
          have q1b : ((s.size : Int) == 1) = false := by simpa using q1'
          go_enter Tryz.func26, Tryz.ntmps26
          go_wp2
          go_loopw [7, 8] (fun s7 s8 wr => ∃ (k : Nat), s7 = .int .i64 (Tb.vf 0 (m.take k) : Int) ∧ s8 = .int .i64 (1 + (k : Int)) ∧ k ≤ m.length ∧ (m.take k).all Tb.dig = true ∧ w = wr) (fun _ s8 _ => s.size - (intOf s8).toNat)
          case atStart => exact ⟨0, by rw [List.take_zero, Tb.vf_nil]; rfl, rfl, Nat.zero_le _, rfl, rfl⟩
          case round =>
            obtain ⟨k, rfl, rfl, hk, hd1, rfl⟩ := hrel
            have hlen := HL.out
            have hvs := Tb.vf_small m k (by omega) hd1
            by_cases hlt : k < m.length
            · have hks : 1 + k < s.size := by omega
              have hmk := HM.out k hks
              have hu := (s[1 + k]'hks).toNat_lt
              by_cases hdg : Tb.dig (s[1 + k]'hks) = true
              · have h48 : 48 ≤ (s[1 + k]'hks).toNat ∧ (s[1 + k]'hks).toNat ≤ 57 := by simpa [Tb.dig] using hdg
                have hvt := Tb.vf_take m k _ hmk
                have hat := Tb.all_take m k _ hmk hd1 hdg
                clear hmk hdg
                go_wp2
                exact ⟨⟨k + 1, by rw [hvt]; congr 1; omega, by first | rfl | (congr 1; omega), by omega, hat, trivial⟩, by first | (simp [intOf]; done) | (simp [intOf]; omega)⟩
              · have hna := HB.out (Tb.not_all m k _ hmk (by simpa using hdg))
                have h48 : ¬ (48 ≤ (s[1 + k]'hks).toNat ∧ (s[1 + k]'hks).toNat ≤ 57) := by simpa [Tb.dig] using hdg
                clear hmk hdg
                subst hna
                go_wp2
                all_goals (go_ret2; exact ⟨rfl, rfl⟩)
            · have hkm : k = m.length := by omega
              subst hkm
              rw [List.take_length] at hd1 hvs ⊢
              have hg := HG.out hd1
              subst hg
              go_wp2
              all_goals (go_ret2; exact ⟨rfl, rfl⟩)

set_option maxRecDepth 100000 in
set_option maxHeartbeats 4000000 in
theorem rNumber_zero (s : ByteArray) (w : World) (hs : s.size ≤ 1000) (h0 : 0 < s.size) (hd : ¬ s[0] = 45) :
    Calls Tryz.prog 26 #[.string s, .int .i64 9] w fun e w' => e = .returned (.tuple #[.int .i64 (Tb.nb s.data.toList).1, .bool (Tb.nb s.data.toList).2]) ∧ w = w' := by
  have hl := size_data s
  have hm : Tb.mag s.data.toList = s.data.toList.drop 0 := mag_zero s h0 hd
  have hml : (Tb.mag s.data.toList).length = s.size - 0 := by have := congrArg List.length hm; rw [List.length_drop] at this; omega
  have hmg : ∀ k (h : k < s.size), (Tb.mag s.data.toList)[k]? = some (s[k]'h) := fun k h => by
    rw [hm, List.drop_zero]
    exact get_list s _ h
  have h45 : ¬ ((s[0].toNat : Nat) : Int) = 45 := fun e => hd (UInt8.toNat_inj.1 (by have e45 : (45 : UInt8).toNat = 45 := rfl; omega))
  have h0' : (0 : Int) < (s.size : Int) := by omega
  have h45b : (((s[0].toNat : Nat) : Int) == 45) = false := by simpa using h45
  by_cases q1 : s.size = 0
  · have hn : Tb.nb s.data.toList = (0, false) := Tb.nb_bad (Or.inl (List.length_eq_zero_iff.1 (by omega)))
    rw [hn]
    omega
    
    
    
  · have q1' : ¬ (s.size : Int) = 0 := by omega
    by_cases q2 : 9 < s.size - 0
    · have hn : Tb.nb s.data.toList = (0, false) := Tb.nb_bad (Or.inr (Or.inl (by omega)))
      rw [hn]
      have q2' : (9 : Int) < (s.size : Int) := by omega
      clear hmg hml hm hn hl q1
      go_enter Tryz.func26, Tryz.ntmps26
      go_wp2
      all_goals (go_ret2; exact ⟨rfl, rfl⟩)
    · have q2' : ¬ (9 : Int) < (s.size : Int) := by omega
      have ha : 0 < s.size := by omega
      have hhd := hmg 0 (by omega)
      by_cases q3 : s[0].toNat = 48 ∧ 1 < s.size
      · have hn : Tb.nb s.data.toList = (0, false) := Tb.nb_bad (Or.inr (Or.inr ⟨by rw [List.head?_eq_getElem?, hhd]; exact congrArg some (UInt8.toNat_inj.1 q3.1), by omega⟩))
        rw [hn]
        obtain ⟨q4, q5⟩ := q3
        have q5' : (1 : Int) < (s.size : Int) := by omega
        have q4' : ((s[0].toNat : Nat) : Int) = 48 := by omega
        clear hmg hml hm hn hl q1 hhd
        go_enter Tryz.func26, Tryz.ntmps26
        go_wp2
        all_goals (go_ret2; exact ⟨rfl, rfl⟩)
      · have g3 : ¬ ((Tb.mag s.data.toList).head? = some 48 ∧ 1 < s.data.toList.length) := fun e => q3 ⟨by
          have e1 := e.1
          rw [List.head?_eq_getElem?, hhd] at e1
          have e2 := Option.some.inj e1
          rw [e2]; rfl, by omega⟩
        have hbad := fun h => Tb.nb_digits (l := s.data.toList) h
        have hgood := fun h => Tb.nb_good (l := s.data.toList) (fun e => by rw [e] at hml; simp at hml; omega) (by omega) g3 h
        have hhead : s.data.toList.head? = some s[0] := by rw [List.head?_eq_getElem?]; exact get_list s 0 h0
        rw [hhead, if_neg (fun e => hd (Option.some.inj e))] at hgood
        generalize Tb.mag s.data.toList = m at *
        generalize Tb.nb s.data.toList = nbv at *
        have HB := Lib.hid hbad; have HG := Lib.hid hgood; have HM := Lib.hid hmg; have HL := Lib.hid hml
        have Q3 := Lib.hid q3
        clear hbad hgood hmg hml hm hl g3 hhd hhead q1 q3
        by_cases p1 : s[0].toNat = 48
        
        all_goals
          first
            | (have p1' : (((s[0].toNat : Nat) : Int) == 48) = true := by simp; omega
               have p2' : ¬ (1 : Int) < (s.size : Int) := fun e => Q3.out ⟨p1, by omega⟩)
            | (have p1' : (((s[0].toNat : Nat) : Int) == 48) = false := by
                have : s[0].toNat ≠ 48 := fun e => p1 e
                simp; omega)
          have q1b : ((s.size : Int) == 0) = false := by simpa using q1'
          go_enter Tryz.func26, Tryz.ntmps26
          go_wp2
          go_loopw [7, 8] (fun s7 s8 wr => ∃ (k : Nat), s7 = .int .i64 (Tb.vf 0 (m.take k) : Int) ∧ s8 = .int .i64 (k : Int) ∧ k ≤ m.length ∧ (m.take k).all Tb.dig = true ∧ w = wr) (fun _ s8 _ => s.size - (intOf s8).toNat)
          case atStart => exact ⟨0, by rw [List.take_zero, Tb.vf_nil]; rfl, rfl, Nat.zero_le _, rfl, rfl⟩
          case round =>
            obtain ⟨k, rfl, rfl, hk, hd1, rfl⟩ := hrel
            have hlen := HL.out
            have hvs := Tb.vf_small m k (by omega) hd1
            by_cases hlt : k < m.length
            · have hks : k < s.size := by omega
              have hmk := HM.out k hks
              have hu := (s[k]'hks).toNat_lt
              by_cases hdg : Tb.dig (s[k]'hks) = true
              · have h48 : 48 ≤ (s[k]'hks).toNat ∧ (s[k]'hks).toNat ≤ 57 := by simpa [Tb.dig] using hdg
                have hvt := Tb.vf_take m k _ hmk
                have hat := Tb.all_take m k _ hmk hd1 hdg
                clear hmk hdg
                go_wp2
                exact ⟨⟨k + 1, by rw [hvt]; congr 1; omega, by first | rfl | (congr 1; omega), by omega, hat, trivial⟩, by first | (simp [intOf]; done) | (simp [intOf]; omega)⟩
              · have hna := HB.out (Tb.not_all m k _ hmk (by simpa using hdg))
                have h48 : ¬ (48 ≤ (s[k]'hks).toNat ∧ (s[k]'hks).toNat ≤ 57) := by simpa [Tb.dig] using hdg
                clear hmk hdg
                subst hna
                go_wp2
                all_goals (go_ret2; exact ⟨rfl, rfl⟩)
            · have hkm : k = m.length := by omega
              subst hkm
              rw [List.take_length] at hd1 hvs ⊢
              have hg := HG.out hd1
              subst hg
              go_wp2
              all_goals (go_ret2; exact ⟨rfl, rfl⟩)

theorem rNumber_any (s : ByteArray) (w : World) (hs : s.size ≤ 1000) :
    Calls Tryz.prog 26 #[.string s, .int .i64 9] w fun e w' => e = .returned (.tuple #[.int .i64 (Tb.nb s.data.toList).1, .bool (Tb.nb s.data.toList).2]) ∧ w = w' := by
  by_cases h0 : 0 < s.size
  · by_cases hd : s[0] = 45
    · exact rNumber_one s w hs h0 hd
    · exact rNumber_zero s w hs h0 hd
  · have he : s.data.toList = [] := List.length_eq_zero_iff.1 (by have := size_data s; omega)
    have : s = ⟨#[]⟩ := by rw [← bytes_of s _ rfl, he]
    subst this
    have hn : Tb.nb (⟨#[]⟩ : ByteArray).data.toList = (0, false) := Tb.nb_bad (Or.inl rfl)
    rw [hn]
    have hx0 : (⟨#[]⟩ : ByteArray).size = 0 := rfl
    go_enter Tryz.func26, Tryz.ntmps26
    go_wp2
    all_goals (go_ret2; exact ⟨rfl, rfl⟩)
end Go.Proofs.YtnckfbejgkdhhaaGreatDoor
