/- an echo that comes later and is stronger: the walk -/
import Derived.Test.YtoieemgdkpnbfaaFq1
import Derived.Test.YtoieemgdkpnbfaaFq2
import Derived.Test.YtoieemgdkpnbfaaFo3
import Derived.Test.YtoieemgdkpnbfaaFp4
import Derived.Test.YtoieemgdkpnbfaaFlJ
import Derived.Deep.DeepCutAuto
namespace Go.Proofs.Ytoieemgdkpnbfaa
open Go.RowKit RayM
set_option linter.unusedSimpArgs false
set_option linter.unusedVariables false
/-- what the program answers for an echo -/
structure TdC (T G S : Nat → Int) (g : Int) (s : Nat) (pA : Nat) (pS : Int) (sm : Bool) : Prop where
  ga : ∀ w, Calls Try.prog 21 #[.agg (vls 64 (fv T)).toArray, .agg #[.int .i64 g, .int .i64 1]] w fun e w' => e = .returned (.tuple #[.agg (vls 64 (fv G)).toArray, .int .i64 0, .int .i64 0]) ∧ Below w.heap.size w w'
  sh : ∀ w, Calls Try.prog 15 #[.agg (vls 64 (fv G)).toArray, .int .i64 (s : Int)] w fun e w' => e = .returned (.tuple #[.agg (vls 64 (fv S)).toArray, .int .i64 0]) ∧ Below w.heap.size w w'
  e1 : ∀ w, Calls Try.prog 26 #[.agg (vls 64 (fv T)).toArray] w fun e w' => e = .returned (.tuple #[.agg (vls 61 (sqv T)).toArray, .int .i64 0]) ∧ Below w.heap.size w w'
  e2 : ∀ w, Calls Try.prog 26 #[.agg (vls 64 (fv S)).toArray] w fun e w' => e = .returned (.tuple #[.agg (vls 61 (sqv S)).toArray, .int .i64 0]) ∧ Below w.heap.size w w'
  p1 : ∀ w, Calls Try.prog 30 #[.agg (vls 64 (fv T)).toArray, .agg #[.int .i64 0, .int .i64 30]] w fun e w' => e = .returned (.tuple #[.agg #[.int .i64 (pA : Int), .int .i64 pS], .int .i64 0]) ∧ Below w.heap.size w w'
  p2 : sm = true → ∀ w, Calls Try.prog 30 #[.agg (vls 64 (fv S)).toArray, .agg #[.int .i64 0, .int .i64 60]] w fun e w' => e = .returned (.tuple #[.agg #[.int .i64 ((pA : Int) + (s : Int)), .int .i64 (g * g * pS)], .int .i64 0]) ∧ Below w.heap.size w w'
  lg : sm = true → ∀ w, Calls Try.prog 35 #[.agg (vls 64 (fv T)).toArray, .agg (vls 64 (fv S)).toArray, .int .i64 25] w fun e w' => e = .returned (.tuple #[.int .i64 (s : Int), .int .i64 0]) ∧ Below w.heap.size w w'
  hq : ∀ k : Nat, k + s < 61 → sqA S (k + s) = g * g * sqA T k
  bd : ∀ k : Nat, k < 61 → 0 ≤ sqA T k ∧ sqA T k ≤ 1000000
  pd : 0 ≤ pS ∧ pS ≤ 1000000 ∧ pA ≤ 60
set_option maxRecDepth 100000 in
set_option maxHeartbeats 1000000 in
theorem td_long (A : Option Addr) (n c : Nat) (s g : Int) (w : World) (hn : ¬ n ≤ 20) :
    Calls Try.prog 11 #[.slice A n c, .int .i64 s, .int .i64 g] w fun e w' => e = .returned (.bool true) ∧ Below w.heap.size w w' := by
  have j2 : (20 : Int) < (n : Int) := by omega
  go_enter Try.func11, Try.ntmps11
  go_wp2_with (first
    | (go_at_call 46; (with_reducible refine (traced_any _).mono ?_); rintro e w1 ⟨rfl, hb1⟩; have b1 : Hid (Below w.heap.size w w1) := Lib.hid hb1; have s1' := hb1.size; clear hb1))
  go_ret
  exact ⟨rfl, b1.out⟩
set_option maxRecDepth 100000 in
set_option maxHeartbeats 1000000 in
theorem td_out1 (A : Option Addr) (n c : Nat) (s g : Int) (w : World) (hn : n ≤ 20) (hs : ¬ (0 ≤ s ∧ s ≤ 20)) :
    Calls Try.prog 11 #[.slice A n c, .int .i64 s, .int .i64 g] w fun e w' => e = .returned (.bool true) ∧ Below w.heap.size w w' := by
  have j2 : (n : Int) ≤ 20 := by omega
  have W1 := Lib.hid (fun w => bw_false s 0 20 hs w)
  clear hs
  go_enter Try.func11, Try.ntmps11
  go_wp2_with (first
    | (go_at_call 46; (with_reducible refine (traced_any _).mono ?_); rintro e w1 ⟨rfl, hb1⟩; have b1 : Hid (Below w.heap.size w w1) := Lib.hid hb1; have s1' := hb1.size; clear hb1)
    | (go_at_call 17; (with_reducible refine (W1.out _).mono ?_); rintro e w' ⟨rfl, rfl⟩))
  go_ret
  exact ⟨rfl, b1.out⟩
set_option maxRecDepth 100000 in
set_option maxHeartbeats 1000000 in
theorem td_out2 (A : Option Addr) (n c : Nat) (s g : Int) (w : World) (hn : n ≤ 20) (hs : 0 ≤ s ∧ s ≤ 20) (hg : ¬ (1 ≤ g ∧ g ≤ 10)) :
    Calls Try.prog 11 #[.slice A n c, .int .i64 s, .int .i64 g] w fun e w' => e = .returned (.bool true) ∧ Below w.heap.size w w' := by
  have j2 : (n : Int) ≤ 20 := by omega
  have W1 := Lib.hid (fun w => bw_true s 0 20 hs w)
  have W2 := Lib.hid (fun w => bw_false g 1 10 hg w)
  clear hs hg
  go_enter Try.func11, Try.ntmps11
  go_wp2_with (first
    | (go_at_call 46; (with_reducible refine (traced_any _).mono ?_); rintro e w1 ⟨rfl, hb1⟩; have b1 : Hid (Below w.heap.size w w1) := Lib.hid hb1; have s1' := hb1.size; clear hb1)
    | (go_at_call 17; (with_reducible refine (W1.out _).mono ?_); rintro e w' ⟨rfl, rfl⟩)
    | (go_at_call 17; (with_reducible refine (W2.out _).mono ?_); rintro e w' ⟨rfl, rfl⟩))
  go_ret
  exact ⟨rfl, b1.out⟩
set_option maxRecDepth 100000 in
set_option maxHeartbeats 8000000 in
theorem td_in (A : Option Addr) (n c : Nat) (l T G S : Nat → Int) (s pA : Nat) (g pS : Int) (w : World) (hn : n ≤ 20) (hs : s ≤ 20) (hg : 1 ≤ g ∧ g ≤ 10) (h : InAt A n l w)
    (RT : Hid ((∀ i, i < n → -200 ≤ l i ∧ l i ≤ 200) → ∀ A c w, InAt A (n + 3) (echoX l) w → Calls Try.prog 47 #[.slice A (n + 3) c] w fun e w' => e = .returned (.agg (vls 64 (fv T)).toArray) ∧ Below w.heap.size w w'))
    (HC : Hid ((∀ i, i < n → -200 ≤ l i ∧ l i ≤ 200) → TdC T G S g s pA pS (smB l n))) :
    Calls Try.prog 11 #[.slice A n c, .int .i64 (s : Int), .int .i64 g] w fun e w' => e = .returned (.bool true) ∧ Below w.heap.size w w' := by
  obtain ⟨j0_, ji0, jz0, jz1, jz2⟩ := info_parts infoJ
  have JI0 := Lib.hid ji0; have JZ0 := Lib.hid jz0; have JZ1 := Lib.hid jz1; have JZ2 := Lib.hid jz2
  clear ji0 jz0 jz1 jz2
  have HX := Lib.hid h; clear h
  have j2 : (n : Int) ≤ 20 := by omega
  have W1 := Lib.hid (fun w => bw_true (s : Int) 0 20 ⟨by omega, by omega⟩ w)
  have W2 := Lib.hid (fun w => bw_true g 1 10 hg w)
  go_enter Try.func11, Try.ntmps11
  go_wp2_with (first
    | (go_at_call 46; (with_reducible refine (traced_any _).mono ?_); rintro e w1 ⟨rfl, hb1⟩; have b1 : Hid (Below w.heap.size w w1) := Lib.hid hb1; have s1' := hb1.size; clear hb1)
    | (go_at_call 17; (with_reducible refine (W1.out _).mono ?_); rintro e w' ⟨rfl, rfl⟩)
    | (go_at_call 17; (with_reducible refine (W2.out _).mono ?_); rintro e w' ⟨rfl, rfl⟩))
  have ownB : (w1.alloc (.cells #[.int .i64 0, .int .i64 0, .int .i64 0] 3)).ownsRow w1.heap.size 3 1 (.slice (some ⟨w1.heap.size, 0, none⟩) 3 3) 3 (mvs (echoX l) 3) :=
    ⟨rfl, .inr ⟨_, 3, _, rfl, Nat.le_refl _, heap_alloc_new _ _, Nat.le_refl _, by decide, rfl, rfl⟩⟩
  have bB : Below w1.heap.size w1 (w1.alloc (.cells #[.int .i64 0, .int .i64 0, .int .i64 0] 3)) := below_new _ _
  have IN1 := Lib.hid (HX.out.later b1.out)
  have lt1 : w.heap.size ≤ w1.heap.size := b1.out.size
  go_loopw [7, 8, 9] (fun s7 s8 s9 wr => ∃ (k : Nat) (v : Value), v = s7 ∧ k ≤ n ∧ s9 = .int .i64 (k : Int) ∧ s8 = .bool (smB l k) ∧ wr.ownsRow w1.heap.size 3 1 v (k + 3) (mvs (echoX l) (k + 3)) ∧ (∀ i, i < k → -200 ≤ l i ∧ l i ≤ 200) ∧ Below w1.heap.size w1 wr) (fun _ _ s9 _ => n - (intOf s9).toNat)
  case atStart => exact ⟨0, _, rfl, by omega, rfl, rfl, ownB, fun i hi => by omega, bB⟩
  case round =>
    clear ownB bB W1 W2
    obtain ⟨k, v, rfl, hk, rfl, rfl, hown, hin, hb⟩ := hrel
    have HIN := Lib.hid hin; clear hin
    have j0 : (0 : Int) ≤ (k : Int) := Int.natCast_nonneg _
    have sz := hb.size
    have HBB := Lib.hid hb
    by_cases hlt : k < n
    · have j3 : (k : Int) < (n : Int) := by omega
      obtain ⟨a, hA⟩ := IN1.out.some (by omega)
      have y0 : wr.cell? (a.add k) = some (.int .i64 (l k)) := by have q := IN1.out; rw [hA] at q; exact cell_later hb (q.at hlt)
      subst hA
      by_cases hr : -200 ≤ l k ∧ l k ≤ 200
      · have W3 := Lib.hid (fun w => bw_true (l k) (-200) 200 hr w)
        have SM : Hid (smB l (k + 1) = (smB l k || decide (l k ≠ 0))) := (rfl : _ = _)
        have HIN2 : Hid (∀ i, i < k + 1 → -200 ≤ l i ∧ l i ≤ 200) := Lib.hid (fun i hi => by
          by_cases e : i = k
          · subst e; exact hr
          · exact HIN.out i (by omega))
        have MV : Hid (mvs (echoX l) (k + 1 + 3) = mvs (echoX l) (k + 3) ++ [.int .i64 (l k)]) := by show _ = _; rw [show k + 1 + 3 = (k + 3) + 1 by omega, mvs_succ, echoX_add]
        have bm : (k + 3 + 1 : Nat) ≤ maxLen := by unfold maxLen; omega
        have BM := Lib.hid bm; clear bm
        have AG := Lib.hid (fun q e => (hown.lt q e).1)
        go_wp2_with (go_at_call 17; (with_reducible refine (W3.out _).mono ?_); rintro e w' ⟨rfl, rfl⟩)
        refine wp_region_held_drew (S := fun w' => w'.cell? (a.add k) = some (.int .i64 (l k))) (by kernel_rfl) (cell_drew' y0) (fun hHeld => ?_)
        clear hHeld y0
        generalize hwd : World.drew wr = wd
        have hbd : Below wr.heap.size wr wd := by rw [← hwd]; exact (Below.refl _ _).drew
        have sd : wd.heap.size = wr.heap.size := by rw [← hwd]; rfl
        have ownd := own_later hown hbd
        have bd := below_then hb hbd
        have sz2 : w1.heap.size ≤ wd.heap.size := bd.size
        have SD := Lib.hid sd; clear sd
        have y0 : wd.cell? (a.add k) = some (.int .i64 (l k)) := cell_later hbd (by have q := IN1.out.at hlt; exact cell_later hb q)
        have Y0 := Lib.hid y0
        clear hown hb hwd
        refine takeH (i := 0) (d := 55) (v := v) rfl rfl (by kernel_rfl) (by kernel_rfl) (by kernel_rfl) (fun _ _ _ h => h) (Or.inl ⟨by first | kernel_rfl | rfl, ?_⟩) Y0.out ?_
        · intro w' hSw; go_simp
        try simp only [Act.put, List.setIfInBounds_toArray, List.set_cons_zero, List.set_cons_succ]
        refine takeH (i := 1) (d := 56) (v := .slice (some a) n c) rfl rfl (by kernel_rfl) (by kernel_rfl) (by kernel_rfl) (fun _ _ _ h => h) (Or.inl ⟨by first | kernel_rfl | rfl, ?_⟩) Y0.out ?_
        · intro w' hSw; go_simp
        try simp only [Act.put, List.setIfInBounds_toArray, List.set_cons_zero, List.set_cons_succ]
        refine takeH (i := 2) (d := 57) (v := .int .i64 (k : Int)) rfl rfl (by kernel_rfl) (by kernel_rfl) (by kernel_rfl) (fun _ _ _ h => h) (Or.inl ⟨by first | kernel_rfl | rfl, ?_⟩) Y0.out ?_
        · intro w' hSw; go_simp
        try simp only [Act.put, List.setIfInBounds_toArray, List.set_cons_zero, List.set_cons_succ]
        refine takeH (i := 3) (d := 58) (v := .pointer (some (a.add k))) rfl rfl (by kernel_rfl) (by kernel_rfl) (by kernel_rfl) (fun _ _ _ h => h) (Or.inl ⟨by first | kernel_rfl | rfl, ?_⟩) Y0.out ?_
        · intro w' hSw; go_simp
        try simp only [Act.put, List.setIfInBounds_toArray, List.set_cons_zero, List.set_cons_succ]
        refine takeH (i := 4) (d := 59) (v := .int .i64 (l k)) rfl rfl (by kernel_rfl) (by kernel_rfl) (by kernel_rfl) (fun _ _ _ h => h) (Or.inl ⟨by first | kernel_rfl | rfl, ?_⟩) Y0.out ?_
        · intro w' hSw; go_simp
        try simp only [Act.put, List.setIfInBounds_toArray, List.set_cons_zero, List.set_cons_succ]
        obtain ⟨sm, hsm⟩ : ∃ sm, sm = smB l k := ⟨_, rfl⟩
        rw [← hsm] at SM
        rw [← hsm]
        clear hsm
        by_cases hz : l k = 0
        · have hd : decide (l k = 0) = true := by simpa using hz
          have nz : (l k != 0) = false := by simpa using hz
          have SM2 : Hid (smB l (k + 1) = sm) := by show _ = _; rw [SM.out, hz]; simp
          clear hz SM
          cases sm
          · refine takeH (i := 7) (d := 62) (v := .bool false) rfl rfl (by kernel_rfl) (by kernel_rfl) (by kernel_rfl) (fun _ _ _ h => h) (Or.inl ⟨by first | kernel_rfl | rfl, ?_⟩) Y0.out ?_
            · intro w' hSw; go_simp
            try simp only [Act.put, List.setIfInBounds_toArray, List.set_cons_zero, List.set_cons_succ]
            refine wpAnyH_ready (rs := [5]) (by kernel_rfl) (by simp) ?_
            refine AllReadyH.cons rfl (fun K hK => ?_) AllReadyH.nil
            go_simp
            refine hK.out _ _ (cell_alloc_later Y0.out _) (fun _ => ?_)
            clear hK K
            try simp only [Act.put, List.setIfInBounds_toArray, List.set_cons_zero, List.set_cons_succ]
            have nb : ∀ j u, (#[.int .i64 (l k)] : Array Value).toList[j]? = some u → (wd.alloc (.cells #[.int .i64 (l k)] 3)).cell? ((⟨wd.heap.size, 0, none⟩ : Addr).add j) = some u := World.news_of_block (t := 3) (fr := (0, 0)) (by have h := heap_alloc_new wd (.cells #[.int .i64 (l k)] 3); simpa using h)
            have NB := Lib.hid nb; clear nb
            refine wpAnyH_ready (rs := [6]) (by kernel_rfl) (by simp) ?_
            refine AllReadyH.cons rfl (fun K hK => ?_) AllReadyH.nil
            refine step_append_lies _ rfl _ _ _ rfl w1.heap.size 3 j0_ _ 1 8 Try.underlying22 JI0.out JZ0.out JZ1.out JZ2.out rfl (by omega) v (k + 3) (mvs (echoX l) (k + 3)) rfl (ownd.alloc _) ⟨wd.heap.size, 0, none⟩ 1 1 [.int .i64 (l k)] rfl rfl NB.out (by simp [Value.oneCell']) (by omega) BM.out (by omega) (by simp; omega) (wd.heap.size + 1) (by simp) ?_
            intro g6 cap6 w6 hown6 hgrow6 hat6 hlt6
            have HO6 := Lib.hid hown6; clear hown6
            have bq : Below w1.heap.size w1 w6 := (bd.alloc (by omega) _).grown hgrow6 (by simp; omega) (fun q e => AG.out q e)
            have y6 : w6.cell? (a.add k) = some (.int .i64 (l k)) := by have q := IN1.out.at hlt; exact cell_later bq q
            refine hK.out _ _ y6 (fun _ => ?_)
            clear hK K hgrow6 hat6 hlt6
            try simp only [Act.put, List.setIfInBounds_toArray, List.set_cons_zero, List.set_cons_succ]
            refine takeH (i := 8) (d := 63) (v := .bool false) rfl rfl (by kernel_rfl) (by kernel_rfl) (by kernel_rfl) (fun _ _ _ h => h) (Or.inl ⟨by first | kernel_rfl | rfl, ?_⟩) y6 ?_
            · intro w' hSw; go_simp
            try simp only [Act.put, List.setIfInBounds_toArray, List.set_cons_zero, List.set_cons_succ]
            refine takeH (i := 9) (d := 64) (v := .slice (some a) n c) rfl rfl (by kernel_rfl) (by kernel_rfl) (by kernel_rfl) (fun _ _ _ h => h) (Or.inl ⟨by first | kernel_rfl | rfl, ?_⟩) y6 ?_
            · intro w' hSw; go_simp
            try simp only [Act.put, List.setIfInBounds_toArray, List.set_cons_zero, List.set_cons_succ]
            refine takeH (i := 10) (d := 65) (v := .int .i64 (k : Int)) rfl rfl (by kernel_rfl) (by kernel_rfl) (by kernel_rfl) (fun _ _ _ h => h) (Or.inl ⟨by first | kernel_rfl | rfl, ?_⟩) y6 ?_
            · intro w' hSw; go_simp
            try simp only [Act.put, List.setIfInBounds_toArray, List.set_cons_zero, List.set_cons_succ]
            refine takeH (i := 11) (d := 66) (v := .pointer (some (a.add k))) rfl rfl (by kernel_rfl) (by kernel_rfl) (by kernel_rfl) (fun _ _ _ h => h) (Or.inl ⟨by first | kernel_rfl | rfl, ?_⟩) y6 ?_
            · intro w' hSw; go_simp
            try simp only [Act.put, List.setIfInBounds_toArray, List.set_cons_zero, List.set_cons_succ]
            refine takeH (i := 12) (d := 67) (v := .int .i64 (l k)) rfl rfl (by kernel_rfl) (by kernel_rfl) (by kernel_rfl) (fun _ _ _ h => h) (Or.inl ⟨by first | kernel_rfl | rfl, ?_⟩) y6 ?_
            · intro w' hSw; go_simp
            try simp only [Act.put, List.setIfInBounds_toArray, List.set_cons_zero, List.set_cons_succ]
            refine takeH (i := 13) (d := 68) (v := .bool false) rfl rfl (by kernel_rfl) (by kernel_rfl) (by kernel_rfl) (fun _ _ _ h => h) (Or.inl ⟨by first | kernel_rfl | rfl, ?_⟩) y6 ?_
            · intro w' hSw; go_simp
            try simp only [Act.put, List.setIfInBounds_toArray, List.set_cons_zero, List.set_cons_succ]
            refine takeH (i := 14) (d := 69) (v := .bool false) rfl rfl (by kernel_rfl) (by kernel_rfl) (by kernel_rfl) (fun _ _ _ h => h) (Or.inl ⟨by first | kernel_rfl | rfl, ?_⟩) y6 ?_
            · intro w' hSw; go_simp
            try simp only [Act.put, List.setIfInBounds_toArray, List.set_cons_zero, List.set_cons_succ]
            refine takeH (i := 15) (d := 7) (v := .slice (some ⟨g6, 0, none⟩) (k + 3 + 1) cap6) rfl rfl (by kernel_rfl) (by kernel_rfl) (by kernel_rfl) (fun _ _ _ h => h) (Or.inl ⟨by first | kernel_rfl | rfl, ?_⟩) y6 ?_
            · intro w' hSw; go_simp
            try simp only [Act.put, List.setIfInBounds_toArray, List.set_cons_zero, List.set_cons_succ]
            refine takeH (i := 16) (d := 8) (v := .bool false) rfl rfl (by kernel_rfl) (by kernel_rfl) (by kernel_rfl) (fun _ _ _ h => h) (Or.inl ⟨by first | kernel_rfl | rfl, ?_⟩) y6 ?_
            · intro w' hSw; go_simp
            try simp only [Act.put, List.setIfInBounds_toArray, List.set_cons_zero, List.set_cons_succ]
            refine wpAnyH_done (by kernel_rfl) ?_ _
            have BQ := Lib.hid bq; clear bq bd ownd y0 y6
            go_wp2
            go_roundw
            case rel => exact ⟨k + 1, _, rfl, by omega, by go_num, by rw [SM2.out], by rw [MV.out]; exact HO6.out, HIN2.out, BQ.out⟩
            case measure => simp [intOf]; omega
          · refine takeH (i := 7) (d := 62) (v := .bool true) rfl rfl (by kernel_rfl) (by kernel_rfl) (by kernel_rfl) (fun _ _ _ h => h) (Or.inl ⟨by first | kernel_rfl | rfl, ?_⟩) Y0.out ?_
            · intro w' hSw; go_simp
            try simp only [Act.put, List.setIfInBounds_toArray, List.set_cons_zero, List.set_cons_succ]
            refine wpAnyH_ready (rs := [5]) (by kernel_rfl) (by simp) ?_
            refine AllReadyH.cons rfl (fun K hK => ?_) AllReadyH.nil
            go_simp
            refine hK.out _ _ (cell_alloc_later Y0.out _) (fun _ => ?_)
            clear hK K
            try simp only [Act.put, List.setIfInBounds_toArray, List.set_cons_zero, List.set_cons_succ]
            have nb : ∀ j u, (#[.int .i64 (l k)] : Array Value).toList[j]? = some u → (wd.alloc (.cells #[.int .i64 (l k)] 3)).cell? ((⟨wd.heap.size, 0, none⟩ : Addr).add j) = some u := World.news_of_block (t := 3) (fr := (0, 0)) (by have h := heap_alloc_new wd (.cells #[.int .i64 (l k)] 3); simpa using h)
            have NB := Lib.hid nb; clear nb
            refine wpAnyH_ready (rs := [6]) (by kernel_rfl) (by simp) ?_
            refine AllReadyH.cons rfl (fun K hK => ?_) AllReadyH.nil
            refine step_append_lies _ rfl _ _ _ rfl w1.heap.size 3 j0_ _ 1 8 Try.underlying22 JI0.out JZ0.out JZ1.out JZ2.out rfl (by omega) v (k + 3) (mvs (echoX l) (k + 3)) rfl (ownd.alloc _) ⟨wd.heap.size, 0, none⟩ 1 1 [.int .i64 (l k)] rfl rfl NB.out (by simp [Value.oneCell']) (by omega) BM.out (by omega) (by simp; omega) (wd.heap.size + 1) (by simp) ?_
            intro g6 cap6 w6 hown6 hgrow6 hat6 hlt6
            have HO6 := Lib.hid hown6; clear hown6
            have bq : Below w1.heap.size w1 w6 := (bd.alloc (by omega) _).grown hgrow6 (by simp; omega) (fun q e => AG.out q e)
            have y6 : w6.cell? (a.add k) = some (.int .i64 (l k)) := by have q := IN1.out.at hlt; exact cell_later bq q
            refine hK.out _ _ y6 (fun _ => ?_)
            clear hK K hgrow6 hat6 hlt6
            try simp only [Act.put, List.setIfInBounds_toArray, List.set_cons_zero, List.set_cons_succ]
            refine takeH (i := 8) (d := 63) (v := .bool true) rfl rfl (by kernel_rfl) (by kernel_rfl) (by kernel_rfl) (fun _ _ _ h => h) (Or.inl ⟨by first | kernel_rfl | rfl, ?_⟩) y6 ?_
            · intro w' hSw; go_simp
            try simp only [Act.put, List.setIfInBounds_toArray, List.set_cons_zero, List.set_cons_succ]
            refine takeH (i := 9) (d := 64) (v := undef) rfl rfl (by kernel_rfl) (by kernel_rfl) (by kernel_rfl) (fun _ _ _ h => h) (Or.inr ⟨by first | kernel_rfl | rfl, rfl⟩) y6 ?_
            try simp only [Act.put, List.setIfInBounds_toArray, List.set_cons_zero, List.set_cons_succ]
            refine takeH (i := 10) (d := 65) (v := undef) rfl rfl (by kernel_rfl) (by kernel_rfl) (by kernel_rfl) (fun _ _ _ h => h) (Or.inr ⟨by first | kernel_rfl | rfl, rfl⟩) y6 ?_
            try simp only [Act.put, List.setIfInBounds_toArray, List.set_cons_zero, List.set_cons_succ]
            refine takeH (i := 11) (d := 66) (v := undef) rfl rfl (by kernel_rfl) (by kernel_rfl) (by kernel_rfl) (fun _ _ _ h => h) (Or.inr ⟨by first | kernel_rfl | rfl, rfl⟩) y6 ?_
            try simp only [Act.put, List.setIfInBounds_toArray, List.set_cons_zero, List.set_cons_succ]
            refine takeH (i := 12) (d := 67) (v := undef) rfl rfl (by kernel_rfl) (by kernel_rfl) (by kernel_rfl) (fun _ _ _ h => h) (Or.inr ⟨by first | kernel_rfl | rfl, rfl⟩) y6 ?_
            try simp only [Act.put, List.setIfInBounds_toArray, List.set_cons_zero, List.set_cons_succ]
            refine takeH (i := 13) (d := 68) (v := undef) rfl rfl (by kernel_rfl) (by kernel_rfl) (by kernel_rfl) (fun _ _ _ h => h) (Or.inr ⟨by first | kernel_rfl | rfl, rfl⟩) y6 ?_
            try simp only [Act.put, List.setIfInBounds_toArray, List.set_cons_zero, List.set_cons_succ]
            refine takeH (i := 14) (d := 69) (v := .bool true) rfl rfl (by kernel_rfl) (by kernel_rfl) (by kernel_rfl) (fun _ _ _ h => h) (Or.inl ⟨by first | kernel_rfl | rfl, ?_⟩) y6 ?_
            · intro w' hSw; go_simp
            try simp only [Act.put, List.setIfInBounds_toArray, List.set_cons_zero, List.set_cons_succ]
            refine takeH (i := 15) (d := 7) (v := .slice (some ⟨g6, 0, none⟩) (k + 3 + 1) cap6) rfl rfl (by kernel_rfl) (by kernel_rfl) (by kernel_rfl) (fun _ _ _ h => h) (Or.inl ⟨by first | kernel_rfl | rfl, ?_⟩) y6 ?_
            · intro w' hSw; go_simp
            try simp only [Act.put, List.setIfInBounds_toArray, List.set_cons_zero, List.set_cons_succ]
            refine takeH (i := 16) (d := 8) (v := .bool true) rfl rfl (by kernel_rfl) (by kernel_rfl) (by kernel_rfl) (fun _ _ _ h => h) (Or.inl ⟨by first | kernel_rfl | rfl, ?_⟩) y6 ?_
            · intro w' hSw; go_simp
            try simp only [Act.put, List.setIfInBounds_toArray, List.set_cons_zero, List.set_cons_succ]
            refine wpAnyH_done (by kernel_rfl) ?_ _
            have BQ := Lib.hid bq; clear bq bd ownd y0 y6
            go_wp2
            go_roundw
            case rel => exact ⟨k + 1, _, rfl, by omega, by go_num, by rw [SM2.out], by rw [MV.out]; exact HO6.out, HIN2.out, BQ.out⟩
            case measure => simp [intOf]; omega
        · have hd : decide (l k = 0) = false := by simpa using hz
          have nz : (l k != 0) = true := by simpa using hz
          have SM2 : Hid (smB l (k + 1) = true) := by show _ = _; rw [SM.out]; simp [hz]
          clear hz SM
          cases sm
          · refine takeH (i := 7) (d := 62) (v := .bool false) rfl rfl (by kernel_rfl) (by kernel_rfl) (by kernel_rfl) (fun _ _ _ h => h) (Or.inl ⟨by first | kernel_rfl | rfl, ?_⟩) Y0.out ?_
            · intro w' hSw; go_simp
            try simp only [Act.put, List.setIfInBounds_toArray, List.set_cons_zero, List.set_cons_succ]
            refine wpAnyH_ready (rs := [5]) (by kernel_rfl) (by simp) ?_
            refine AllReadyH.cons rfl (fun K hK => ?_) AllReadyH.nil
            go_simp
            refine hK.out _ _ (cell_alloc_later Y0.out _) (fun _ => ?_)
            clear hK K
            try simp only [Act.put, List.setIfInBounds_toArray, List.set_cons_zero, List.set_cons_succ]
            have nb : ∀ j u, (#[.int .i64 (l k)] : Array Value).toList[j]? = some u → (wd.alloc (.cells #[.int .i64 (l k)] 3)).cell? ((⟨wd.heap.size, 0, none⟩ : Addr).add j) = some u := World.news_of_block (t := 3) (fr := (0, 0)) (by have h := heap_alloc_new wd (.cells #[.int .i64 (l k)] 3); simpa using h)
            have NB := Lib.hid nb; clear nb
            refine wpAnyH_ready (rs := [6]) (by kernel_rfl) (by simp) ?_
            refine AllReadyH.cons rfl (fun K hK => ?_) AllReadyH.nil
            refine step_append_lies _ rfl _ _ _ rfl w1.heap.size 3 j0_ _ 1 8 Try.underlying22 JI0.out JZ0.out JZ1.out JZ2.out rfl (by omega) v (k + 3) (mvs (echoX l) (k + 3)) rfl (ownd.alloc _) ⟨wd.heap.size, 0, none⟩ 1 1 [.int .i64 (l k)] rfl rfl NB.out (by simp [Value.oneCell']) (by omega) BM.out (by omega) (by simp; omega) (wd.heap.size + 1) (by simp) ?_
            intro g6 cap6 w6 hown6 hgrow6 hat6 hlt6
            have HO6 := Lib.hid hown6; clear hown6
            have bq : Below w1.heap.size w1 w6 := (bd.alloc (by omega) _).grown hgrow6 (by simp; omega) (fun q e => AG.out q e)
            have y6 : w6.cell? (a.add k) = some (.int .i64 (l k)) := by have q := IN1.out.at hlt; exact cell_later bq q
            refine hK.out _ _ y6 (fun _ => ?_)
            clear hK K hgrow6 hat6 hlt6
            try simp only [Act.put, List.setIfInBounds_toArray, List.set_cons_zero, List.set_cons_succ]
            refine takeH (i := 8) (d := 63) (v := .bool false) rfl rfl (by kernel_rfl) (by kernel_rfl) (by kernel_rfl) (fun _ _ _ h => h) (Or.inl ⟨by first | kernel_rfl | rfl, ?_⟩) y6 ?_
            · intro w' hSw; go_simp
            try simp only [Act.put, List.setIfInBounds_toArray, List.set_cons_zero, List.set_cons_succ]
            refine takeH (i := 9) (d := 64) (v := .slice (some a) n c) rfl rfl (by kernel_rfl) (by kernel_rfl) (by kernel_rfl) (fun _ _ _ h => h) (Or.inl ⟨by first | kernel_rfl | rfl, ?_⟩) y6 ?_
            · intro w' hSw; go_simp
            try simp only [Act.put, List.setIfInBounds_toArray, List.set_cons_zero, List.set_cons_succ]
            refine takeH (i := 10) (d := 65) (v := .int .i64 (k : Int)) rfl rfl (by kernel_rfl) (by kernel_rfl) (by kernel_rfl) (fun _ _ _ h => h) (Or.inl ⟨by first | kernel_rfl | rfl, ?_⟩) y6 ?_
            · intro w' hSw; go_simp
            try simp only [Act.put, List.setIfInBounds_toArray, List.set_cons_zero, List.set_cons_succ]
            refine takeH (i := 11) (d := 66) (v := .pointer (some (a.add k))) rfl rfl (by kernel_rfl) (by kernel_rfl) (by kernel_rfl) (fun _ _ _ h => h) (Or.inl ⟨by first | kernel_rfl | rfl, ?_⟩) y6 ?_
            · intro w' hSw; go_simp
            try simp only [Act.put, List.setIfInBounds_toArray, List.set_cons_zero, List.set_cons_succ]
            refine takeH (i := 12) (d := 67) (v := .int .i64 (l k)) rfl rfl (by kernel_rfl) (by kernel_rfl) (by kernel_rfl) (fun _ _ _ h => h) (Or.inl ⟨by first | kernel_rfl | rfl, ?_⟩) y6 ?_
            · intro w' hSw; go_simp
            try simp only [Act.put, List.setIfInBounds_toArray, List.set_cons_zero, List.set_cons_succ]
            refine takeH (i := 13) (d := 68) (v := .bool true) rfl rfl (by kernel_rfl) (by kernel_rfl) (by kernel_rfl) (fun _ _ _ h => h) (Or.inl ⟨by first | kernel_rfl | rfl, ?_⟩) y6 ?_
            · intro w' hSw; go_simp
            try simp only [Act.put, List.setIfInBounds_toArray, List.set_cons_zero, List.set_cons_succ]
            refine takeH (i := 14) (d := 69) (v := .bool true) rfl rfl (by kernel_rfl) (by kernel_rfl) (by kernel_rfl) (fun _ _ _ h => h) (Or.inl ⟨by first | kernel_rfl | rfl, ?_⟩) y6 ?_
            · intro w' hSw; go_simp
            try simp only [Act.put, List.setIfInBounds_toArray, List.set_cons_zero, List.set_cons_succ]
            refine takeH (i := 15) (d := 7) (v := .slice (some ⟨g6, 0, none⟩) (k + 3 + 1) cap6) rfl rfl (by kernel_rfl) (by kernel_rfl) (by kernel_rfl) (fun _ _ _ h => h) (Or.inl ⟨by first | kernel_rfl | rfl, ?_⟩) y6 ?_
            · intro w' hSw; go_simp
            try simp only [Act.put, List.setIfInBounds_toArray, List.set_cons_zero, List.set_cons_succ]
            refine takeH (i := 16) (d := 8) (v := .bool true) rfl rfl (by kernel_rfl) (by kernel_rfl) (by kernel_rfl) (fun _ _ _ h => h) (Or.inl ⟨by first | kernel_rfl | rfl, ?_⟩) y6 ?_
            · intro w' hSw; go_simp
            try simp only [Act.put, List.setIfInBounds_toArray, List.set_cons_zero, List.set_cons_succ]
            refine wpAnyH_done (by kernel_rfl) ?_ _
            have BQ := Lib.hid bq; clear bq bd ownd y0 y6
            go_wp2
            go_roundw
            case rel => exact ⟨k + 1, _, rfl, by omega, by go_num, by rw [SM2.out], by rw [MV.out]; exact HO6.out, HIN2.out, BQ.out⟩
            case measure => simp [intOf]; omega
          · refine takeH (i := 7) (d := 62) (v := .bool true) rfl rfl (by kernel_rfl) (by kernel_rfl) (by kernel_rfl) (fun _ _ _ h => h) (Or.inl ⟨by first | kernel_rfl | rfl, ?_⟩) Y0.out ?_
            · intro w' hSw; go_simp
            try simp only [Act.put, List.setIfInBounds_toArray, List.set_cons_zero, List.set_cons_succ]
            refine wpAnyH_ready (rs := [5]) (by kernel_rfl) (by simp) ?_
            refine AllReadyH.cons rfl (fun K hK => ?_) AllReadyH.nil
            go_simp
            refine hK.out _ _ (cell_alloc_later Y0.out _) (fun _ => ?_)
            clear hK K
            try simp only [Act.put, List.setIfInBounds_toArray, List.set_cons_zero, List.set_cons_succ]
            have nb : ∀ j u, (#[.int .i64 (l k)] : Array Value).toList[j]? = some u → (wd.alloc (.cells #[.int .i64 (l k)] 3)).cell? ((⟨wd.heap.size, 0, none⟩ : Addr).add j) = some u := World.news_of_block (t := 3) (fr := (0, 0)) (by have h := heap_alloc_new wd (.cells #[.int .i64 (l k)] 3); simpa using h)
            have NB := Lib.hid nb; clear nb
            refine wpAnyH_ready (rs := [6]) (by kernel_rfl) (by simp) ?_
            refine AllReadyH.cons rfl (fun K hK => ?_) AllReadyH.nil
            refine step_append_lies _ rfl _ _ _ rfl w1.heap.size 3 j0_ _ 1 8 Try.underlying22 JI0.out JZ0.out JZ1.out JZ2.out rfl (by omega) v (k + 3) (mvs (echoX l) (k + 3)) rfl (ownd.alloc _) ⟨wd.heap.size, 0, none⟩ 1 1 [.int .i64 (l k)] rfl rfl NB.out (by simp [Value.oneCell']) (by omega) BM.out (by omega) (by simp; omega) (wd.heap.size + 1) (by simp) ?_
            intro g6 cap6 w6 hown6 hgrow6 hat6 hlt6
            have HO6 := Lib.hid hown6; clear hown6
            have bq : Below w1.heap.size w1 w6 := (bd.alloc (by omega) _).grown hgrow6 (by simp; omega) (fun q e => AG.out q e)
            have y6 : w6.cell? (a.add k) = some (.int .i64 (l k)) := by have q := IN1.out.at hlt; exact cell_later bq q
            refine hK.out _ _ y6 (fun _ => ?_)
            clear hK K hgrow6 hat6 hlt6
            try simp only [Act.put, List.setIfInBounds_toArray, List.set_cons_zero, List.set_cons_succ]
            refine takeH (i := 8) (d := 63) (v := .bool true) rfl rfl (by kernel_rfl) (by kernel_rfl) (by kernel_rfl) (fun _ _ _ h => h) (Or.inl ⟨by first | kernel_rfl | rfl, ?_⟩) y6 ?_
            · intro w' hSw; go_simp
            try simp only [Act.put, List.setIfInBounds_toArray, List.set_cons_zero, List.set_cons_succ]
            refine takeH (i := 9) (d := 64) (v := undef) rfl rfl (by kernel_rfl) (by kernel_rfl) (by kernel_rfl) (fun _ _ _ h => h) (Or.inr ⟨by first | kernel_rfl | rfl, rfl⟩) y6 ?_
            try simp only [Act.put, List.setIfInBounds_toArray, List.set_cons_zero, List.set_cons_succ]
            refine takeH (i := 10) (d := 65) (v := undef) rfl rfl (by kernel_rfl) (by kernel_rfl) (by kernel_rfl) (fun _ _ _ h => h) (Or.inr ⟨by first | kernel_rfl | rfl, rfl⟩) y6 ?_
            try simp only [Act.put, List.setIfInBounds_toArray, List.set_cons_zero, List.set_cons_succ]
            refine takeH (i := 11) (d := 66) (v := undef) rfl rfl (by kernel_rfl) (by kernel_rfl) (by kernel_rfl) (fun _ _ _ h => h) (Or.inr ⟨by first | kernel_rfl | rfl, rfl⟩) y6 ?_
            try simp only [Act.put, List.setIfInBounds_toArray, List.set_cons_zero, List.set_cons_succ]
            refine takeH (i := 12) (d := 67) (v := undef) rfl rfl (by kernel_rfl) (by kernel_rfl) (by kernel_rfl) (fun _ _ _ h => h) (Or.inr ⟨by first | kernel_rfl | rfl, rfl⟩) y6 ?_
            try simp only [Act.put, List.setIfInBounds_toArray, List.set_cons_zero, List.set_cons_succ]
            refine takeH (i := 13) (d := 68) (v := undef) rfl rfl (by kernel_rfl) (by kernel_rfl) (by kernel_rfl) (fun _ _ _ h => h) (Or.inr ⟨by first | kernel_rfl | rfl, rfl⟩) y6 ?_
            try simp only [Act.put, List.setIfInBounds_toArray, List.set_cons_zero, List.set_cons_succ]
            refine takeH (i := 14) (d := 69) (v := .bool true) rfl rfl (by kernel_rfl) (by kernel_rfl) (by kernel_rfl) (fun _ _ _ h => h) (Or.inl ⟨by first | kernel_rfl | rfl, ?_⟩) y6 ?_
            · intro w' hSw; go_simp
            try simp only [Act.put, List.setIfInBounds_toArray, List.set_cons_zero, List.set_cons_succ]
            refine takeH (i := 15) (d := 7) (v := .slice (some ⟨g6, 0, none⟩) (k + 3 + 1) cap6) rfl rfl (by kernel_rfl) (by kernel_rfl) (by kernel_rfl) (fun _ _ _ h => h) (Or.inl ⟨by first | kernel_rfl | rfl, ?_⟩) y6 ?_
            · intro w' hSw; go_simp
            try simp only [Act.put, List.setIfInBounds_toArray, List.set_cons_zero, List.set_cons_succ]
            refine takeH (i := 16) (d := 8) (v := .bool true) rfl rfl (by kernel_rfl) (by kernel_rfl) (by kernel_rfl) (fun _ _ _ h => h) (Or.inl ⟨by first | kernel_rfl | rfl, ?_⟩) y6 ?_
            · intro w' hSw; go_simp
            try simp only [Act.put, List.setIfInBounds_toArray, List.set_cons_zero, List.set_cons_succ]
            refine wpAnyH_done (by kernel_rfl) ?_ _
            have BQ := Lib.hid bq; clear bq bd ownd y0 y6
            go_wp2
            go_roundw
            case rel => exact ⟨k + 1, _, rfl, by omega, by go_num, by rw [SM2.out], by rw [MV.out]; exact HO6.out, HIN2.out, BQ.out⟩
            case measure => simp [intOf]; omega
      · have W3 := Lib.hid (fun w => bw_false (l k) (-200) 200 hr w)
        go_wp2_with (go_at_call 17; (with_reducible refine (W3.out _).mono ?_); rintro e w' ⟨rfl, rfl⟩)
        go_ret
        exact ⟨rfl, Below.trans b1.out (hb.mono b1.out.size)⟩
    · obtain rfl : k = n := by omega
      have j3 : ¬ (k : Int) < (k : Int) := by omega
      obtain ⟨A', c', rfl, hI⟩ := own_ints (fun i hi => mvs_get (echoX l) (k + 3) i hi) hown
      have HI := Lib.hid hI; clear hI hown
      have RT' := Lib.hid (RT.out HIN.out)
      have HD := HC.out HIN.out
      clear RT HC HIN
      obtain ⟨ga, sh, e1, e2, p1, p2, lg, hq, bd, pd⟩ := HD
      have GA := Lib.hid ga; have SH := Lib.hid sh; have E1 := Lib.hid e1; have E2 := Lib.hid e2; have P1 := Lib.hid p1; have P2 := Lib.hid p2; have LG := Lib.hid lg; have HQ := Lib.hid hq; have BD := Lib.hid bd
      clear ga sh e1 e2 p1 p2 lg hq bd
      have b20 : Hid (Below w.heap.size w wr) := Lib.hid (Below.trans b1.out (hb.mono b1.out.size))
      have lt20 : w.heap.size ≤ wr.heap.size := by omega
      clear hb HBB
      go_wp2_with (first
        | (go_at_call 47; (with_reducible refine (RT'.out _ _ _ HI.out).mono ?_); rintro e w21 ⟨rfl, hb21⟩; have b21 : Hid (Below w.heap.size w w21) := Lib.hid (below_then b20.out hb21); have s21' := hb21.size; clear hb21)
        | ((with_reducible refine wpList_alloc_named rfl 26 rfl 10 rfl 64 (fv fun _ => 0) zeroT ?_); intro w22 N22; have s22 := N22.size; have ct22 := N22.at'; have zt22 := N22.free; have b22 : Hid (Below w.heap.size w w22) := Lib.hid (below_then b21.out N22.below); clear N22; have s22' := Nat.le_of_eq s22.symm; clear s22)
        | ((with_reducible refine wpList_store_at rfl 26 _ _ rfl _ 64 _ (fv T) rfl rfl ct22 zt22 (fv_one _) infoV ?_); intro w23 S23 B23 ct23 zt23 O23 P23; have b23 : Hid (Below w.heap.size w w23) := Lib.hid (B23 _ _ (by omega) b22.out); have s23' := Nat.le_of_eq S23.symm; clear S23 B23 O23 P23))
      try simp only [Act.put, List.setIfInBounds_toArray, List.set_cons_zero, List.set_cons_succ]
      go_cut [11, 12, 13] (fun s11 s12 s13 wx => ∃ X' : Nat, s11 = .pointer (some ⟨X', 0, none⟩) ∧ s12 = .int .i64 0 ∧ s13 = .int .i64 0 ∧ w.heap.size ≤ X' ∧ X' < wx.heap.size ∧ (w21.heap.size) ≠ X' ∧ VAt X' 64 (fv G) wx ∧ VAt (w21.heap.size) 64 (fv T) wx ∧ Hid (Below w.heap.size w wx))
      case first =>
        refine wp_region_held_drew (S := fun w' => VAt (w21.heap.size) 64 (fv T) w') (by kernel_rfl) (ct23.drew) (fun hHeld => ?_)
        clear hHeld
        generalize hwd : World.drew w23 = wd
        have hbd : Below w23.heap.size w23 wd := by rw [← hwd]; exact (Below.refl _ _).drew
        have ct24 := ct23.later hbd
        have b24 : Hid (Below w.heap.size w wd) := Lib.hid (below_then b23.out hbd)
        have s24' := hbd.size
        refine' takeH (i := 0) (d := 73) (v := .agg (vls 64 (fv T)).toArray) rfl rfl (by kernel_rfl) (by kernel_rfl) (by kernel_rfl) (fun _ _ _ h => h) (yieldsIf_load_mid (by first | kernel_rfl | rfl) _ _ rfl _ _ rfl (vls 64 (fv T)) _ (fun w' h => h.range) Try.underlying26 rfl (by rw [vls_length]; exact infoV)) (ct24 : VAt (w21.heap.size) 64 (fv T) wd) ?_
        try simp only [Act.put, List.setIfInBounds_toArray, List.set_cons_zero, List.set_cons_succ]
        refine takeH (i := 1) (d := 74) (v := .int .i64 g) rfl rfl (by kernel_rfl) (by kernel_rfl) (by kernel_rfl) (fun _ _ _ h => h) (Or.inl ⟨by first | kernel_rfl | rfl, ?_⟩) ct24 ?_
        · intro w' hSw; go_simp
        try simp only [Act.put, List.setIfInBounds_toArray, List.set_cons_zero, List.set_cons_succ]
        refine wpAnyH_ready (rs := [2, 8]) (by kernel_rfl) (by simp) ?_
        refine AllReadyH.cons rfl (fun K hK => ?_) ?_
        · go_simp
          (go_at_call 24; (with_reducible refine (whole_any _ _).mono ?_); rintro e wd25 ⟨rfl, hbx⟩)
          have ct25 := ct24.later hbx
          have b25 : Hid (Below w.heap.size w wd25) := Lib.hid (below_then b24.out hbx)
          have s25' := hbx.size
          refine hK.out _ _ ct25 (fun _ => ?_)
          clear hK K
          try simp only [Act.put, List.setIfInBounds_toArray, List.set_cons_zero, List.set_cons_succ]
          refine wpAnyH_ready (rs := [3, 8]) (by kernel_rfl) (by simp) ?_
          refine AllReadyH.cons rfl (fun K hK => ?_) ?_
          · go_simp
            (go_at_call 21; (with_reducible refine (GA.out _).mono ?_); rintro e wd26 ⟨rfl, hbx⟩)
            have ct26 := ct25.later hbx
            have b26 : Hid (Below w.heap.size w wd26) := Lib.hid (below_then b25.out hbx)
            have s26' := hbx.size
            refine hK.out _ _ ct26 (fun _ => ?_)
            clear hK K
            try simp only [Act.put, List.setIfInBounds_toArray, List.set_cons_zero, List.set_cons_succ]
            refine takeH (i := 4) (d := 72) (v := .tuple #[.agg (vls 64 (fv G)).toArray, .int .i64 0, .int .i64 0]) rfl rfl (by kernel_rfl) (by kernel_rfl) (by kernel_rfl) (fun _ _ _ h => h) (Or.inl ⟨by first | kernel_rfl | rfl, ?_⟩) ct26 ?_
            · intro w' hSw; go_simp
            try simp only [Act.put, List.setIfInBounds_toArray, List.set_cons_zero, List.set_cons_succ]
            refine takeH (i := 5) (d := 77) (v := .agg (vls 64 (fv G)).toArray) rfl rfl (by kernel_rfl) (by kernel_rfl) (by kernel_rfl) (fun _ _ _ h => h) (Or.inl ⟨by first | kernel_rfl | rfl, ?_⟩) ct26 ?_
            · intro w' hSw; go_simp
            try simp only [Act.put, List.setIfInBounds_toArray, List.set_cons_zero, List.set_cons_succ]
            refine takeH (i := 6) (d := 78) (v := .int .i64 0) rfl rfl (by kernel_rfl) (by kernel_rfl) (by kernel_rfl) (fun _ _ _ h => h) (Or.inl ⟨by first | kernel_rfl | rfl, ?_⟩) ct26 ?_
            · intro w' hSw; go_simp
            try simp only [Act.put, List.setIfInBounds_toArray, List.set_cons_zero, List.set_cons_succ]
            refine takeH (i := 7) (d := 79) (v := .int .i64 0) rfl rfl (by kernel_rfl) (by kernel_rfl) (by kernel_rfl) (fun _ _ _ h => h) (Or.inl ⟨by first | kernel_rfl | rfl, ?_⟩) ct26 ?_
            · intro w' hSw; go_simp
            try simp only [Act.put, List.setIfInBounds_toArray, List.set_cons_zero, List.set_cons_succ]
            refine wpAnyH_ready (rs := [8]) (by kernel_rfl) (by simp) ?_
            refine ready_alloc rfl (by rfl) 26 rfl 11 rfl 64 (fv fun _ => 0) zeroT (fun wd27 Nx => ?_) ?_
            · have ct27 := ct26.later Nx.below
              have cX27 := Nx.at'
              have zX27 := Nx.free
              have b27 : Hid (Below w.heap.size w wd27) := Lib.hid (below_then b26.out Nx.below)
              have s27' := Nat.le_of_eq Nx.size.symm
              clear Nx
              refine ⟨ct27, ?_⟩
              try simp only [Act.put, List.setIfInBounds_toArray, List.set_cons_zero, List.set_cons_succ]
              have ne1 : w21.heap.size ≠ wd26.heap.size := by omega
              have ge1 : w.heap.size ≤ wd26.heap.size := by omega
              refine wpAnyH_ready (rs := [9]) (by kernel_rfl) (by simp) ?_
              refine ready_store rfl (by rfl) 26 _ _ rfl rfl _ 64 (fv fun _ => 0) (fv G) rfl rfl cX27 zX27 (fv_one _) infoV (fun wA sA bA cA zA oA pA => ⟨oA _ _ _ ne1 ct27, ?_⟩) AllReadyH.nil
              try simp only [Act.put, List.setIfInBounds_toArray, List.set_cons_zero, List.set_cons_succ]
              have caA := oA _ _ _ ne1 ct27
              refine takeH (i := 10) (d := 12) (v := .int .i64 0) rfl rfl (by kernel_rfl) (by kernel_rfl) (by kernel_rfl) (fun _ _ _ h => h) (Or.inl ⟨by first | kernel_rfl | rfl, ?_⟩) caA ?_
              · intro w' hSw; go_simp
              try simp only [Act.put, List.setIfInBounds_toArray, List.set_cons_zero, List.set_cons_succ]
              refine takeH (i := 11) (d := 13) (v := .int .i64 0) rfl rfl (by kernel_rfl) (by kernel_rfl) (by kernel_rfl) (fun _ _ _ h => h) (Or.inl ⟨by first | kernel_rfl | rfl, ?_⟩) caA ?_
              · intro w' hSw; go_simp
              try simp only [Act.put, List.setIfInBounds_toArray, List.set_cons_zero, List.set_cons_succ]
              refine wpAnyH_done (by kernel_rfl) ?_ _
              have BB : Hid (Below w.heap.size w wA) := Lib.hid (bA _ _ ge1 b27.out)
              have ltA : wd26.heap.size < wA.heap.size := World.block_lt_of_cell? _ _ (cA 0 (by decide))
              go_wp2_with fail
              go_meet
              exact ⟨_, rfl, rfl, rfl, ge1, ltA, ne1, cA, caA, BB⟩
            exact AllReadyH.nil
          refine ready_alloc rfl (by rfl) 26 rfl 11 rfl 64 (fv fun _ => 0) zeroT (fun wd26 Nx => ?_) ?_
          · have ct26 := ct25.later Nx.below
            have cX26 := Nx.at'
            have zX26 := Nx.free
            have b26 : Hid (Below w.heap.size w wd26) := Lib.hid (below_then b25.out Nx.below)
            have s26' := Nat.le_of_eq Nx.size.symm
            clear Nx
            refine ⟨ct26, ?_⟩
            try simp only [Act.put, List.setIfInBounds_toArray, List.set_cons_zero, List.set_cons_succ]
            refine wpAnyH_ready (rs := [3]) (by kernel_rfl) (by simp) ?_
            refine AllReadyH.cons rfl (fun K hK => ?_) ?_
            · go_simp
              (go_at_call 21; (with_reducible refine (GA.out _).mono ?_); rintro e wd27 ⟨rfl, hbx⟩)
              have ct27 := ct26.later hbx
              have cX27 := cX26.later hbx
              have zX27 := zX26.later cX26 hbx
              have b27 : Hid (Below w.heap.size w wd27) := Lib.hid (below_then b26.out hbx)
              have s27' := hbx.size
              refine hK.out _ _ ct27 (fun _ => ?_)
              clear hK K
              try simp only [Act.put, List.setIfInBounds_toArray, List.set_cons_zero, List.set_cons_succ]
              refine takeH (i := 4) (d := 72) (v := .tuple #[.agg (vls 64 (fv G)).toArray, .int .i64 0, .int .i64 0]) rfl rfl (by kernel_rfl) (by kernel_rfl) (by kernel_rfl) (fun _ _ _ h => h) (Or.inl ⟨by first | kernel_rfl | rfl, ?_⟩) ct27 ?_
              · intro w' hSw; go_simp
              try simp only [Act.put, List.setIfInBounds_toArray, List.set_cons_zero, List.set_cons_succ]
              refine takeH (i := 5) (d := 77) (v := .agg (vls 64 (fv G)).toArray) rfl rfl (by kernel_rfl) (by kernel_rfl) (by kernel_rfl) (fun _ _ _ h => h) (Or.inl ⟨by first | kernel_rfl | rfl, ?_⟩) ct27 ?_
              · intro w' hSw; go_simp
              try simp only [Act.put, List.setIfInBounds_toArray, List.set_cons_zero, List.set_cons_succ]
              refine takeH (i := 6) (d := 78) (v := .int .i64 0) rfl rfl (by kernel_rfl) (by kernel_rfl) (by kernel_rfl) (fun _ _ _ h => h) (Or.inl ⟨by first | kernel_rfl | rfl, ?_⟩) ct27 ?_
              · intro w' hSw; go_simp
              try simp only [Act.put, List.setIfInBounds_toArray, List.set_cons_zero, List.set_cons_succ]
              refine takeH (i := 7) (d := 79) (v := .int .i64 0) rfl rfl (by kernel_rfl) (by kernel_rfl) (by kernel_rfl) (fun _ _ _ h => h) (Or.inl ⟨by first | kernel_rfl | rfl, ?_⟩) ct27 ?_
              · intro w' hSw; go_simp
              try simp only [Act.put, List.setIfInBounds_toArray, List.set_cons_zero, List.set_cons_succ]
              have ne1 : w21.heap.size ≠ wd25.heap.size := by omega
              have ge1 : w.heap.size ≤ wd25.heap.size := by omega
              refine wpAnyH_ready (rs := [9]) (by kernel_rfl) (by simp) ?_
              refine ready_store rfl (by rfl) 26 _ _ rfl rfl _ 64 (fv fun _ => 0) (fv G) rfl rfl cX27 zX27 (fv_one _) infoV (fun wA sA bA cA zA oA pA => ⟨oA _ _ _ ne1 ct27, ?_⟩) AllReadyH.nil
              try simp only [Act.put, List.setIfInBounds_toArray, List.set_cons_zero, List.set_cons_succ]
              have caA := oA _ _ _ ne1 ct27
              refine takeH (i := 10) (d := 12) (v := .int .i64 0) rfl rfl (by kernel_rfl) (by kernel_rfl) (by kernel_rfl) (fun _ _ _ h => h) (Or.inl ⟨by first | kernel_rfl | rfl, ?_⟩) caA ?_
              · intro w' hSw; go_simp
              try simp only [Act.put, List.setIfInBounds_toArray, List.set_cons_zero, List.set_cons_succ]
              refine takeH (i := 11) (d := 13) (v := .int .i64 0) rfl rfl (by kernel_rfl) (by kernel_rfl) (by kernel_rfl) (fun _ _ _ h => h) (Or.inl ⟨by first | kernel_rfl | rfl, ?_⟩) caA ?_
              · intro w' hSw; go_simp
              try simp only [Act.put, List.setIfInBounds_toArray, List.set_cons_zero, List.set_cons_succ]
              refine wpAnyH_done (by kernel_rfl) ?_ _
              have BB : Hid (Below w.heap.size w wA) := Lib.hid (bA _ _ ge1 b27.out)
              have ltA : wd25.heap.size < wA.heap.size := World.block_lt_of_cell? _ _ (cA 0 (by decide))
              go_wp2_with fail
              go_meet
              exact ⟨_, rfl, rfl, rfl, ge1, ltA, ne1, cA, caA, BB⟩
            exact AllReadyH.nil
          exact AllReadyH.nil
        refine ready_alloc rfl (by rfl) 26 rfl 11 rfl 64 (fv fun _ => 0) zeroT (fun wd25 Nx => ?_) ?_
        · have ct25 := ct24.later Nx.below
          have cX25 := Nx.at'
          have zX25 := Nx.free
          have b25 : Hid (Below w.heap.size w wd25) := Lib.hid (below_then b24.out Nx.below)
          have s25' := Nat.le_of_eq Nx.size.symm
          clear Nx
          refine ⟨ct25, ?_⟩
          try simp only [Act.put, List.setIfInBounds_toArray, List.set_cons_zero, List.set_cons_succ]
          refine wpAnyH_ready (rs := [2]) (by kernel_rfl) (by simp) ?_
          refine AllReadyH.cons rfl (fun K hK => ?_) ?_
          · go_simp
            (go_at_call 24; (with_reducible refine (whole_any _ _).mono ?_); rintro e wd26 ⟨rfl, hbx⟩)
            have ct26 := ct25.later hbx
            have cX26 := cX25.later hbx
            have zX26 := zX25.later cX25 hbx
            have b26 : Hid (Below w.heap.size w wd26) := Lib.hid (below_then b25.out hbx)
            have s26' := hbx.size
            refine hK.out _ _ ct26 (fun _ => ?_)
            clear hK K
            try simp only [Act.put, List.setIfInBounds_toArray, List.set_cons_zero, List.set_cons_succ]
            refine wpAnyH_ready (rs := [3]) (by kernel_rfl) (by simp) ?_
            refine AllReadyH.cons rfl (fun K hK => ?_) ?_
            · go_simp
              (go_at_call 21; (with_reducible refine (GA.out _).mono ?_); rintro e wd27 ⟨rfl, hbx⟩)
              have ct27 := ct26.later hbx
              have cX27 := cX26.later hbx
              have zX27 := zX26.later cX26 hbx
              have b27 : Hid (Below w.heap.size w wd27) := Lib.hid (below_then b26.out hbx)
              have s27' := hbx.size
              refine hK.out _ _ ct27 (fun _ => ?_)
              clear hK K
              try simp only [Act.put, List.setIfInBounds_toArray, List.set_cons_zero, List.set_cons_succ]
              refine takeH (i := 4) (d := 72) (v := .tuple #[.agg (vls 64 (fv G)).toArray, .int .i64 0, .int .i64 0]) rfl rfl (by kernel_rfl) (by kernel_rfl) (by kernel_rfl) (fun _ _ _ h => h) (Or.inl ⟨by first | kernel_rfl | rfl, ?_⟩) ct27 ?_
              · intro w' hSw; go_simp
              try simp only [Act.put, List.setIfInBounds_toArray, List.set_cons_zero, List.set_cons_succ]
              refine takeH (i := 5) (d := 77) (v := .agg (vls 64 (fv G)).toArray) rfl rfl (by kernel_rfl) (by kernel_rfl) (by kernel_rfl) (fun _ _ _ h => h) (Or.inl ⟨by first | kernel_rfl | rfl, ?_⟩) ct27 ?_
              · intro w' hSw; go_simp
              try simp only [Act.put, List.setIfInBounds_toArray, List.set_cons_zero, List.set_cons_succ]
              refine takeH (i := 6) (d := 78) (v := .int .i64 0) rfl rfl (by kernel_rfl) (by kernel_rfl) (by kernel_rfl) (fun _ _ _ h => h) (Or.inl ⟨by first | kernel_rfl | rfl, ?_⟩) ct27 ?_
              · intro w' hSw; go_simp
              try simp only [Act.put, List.setIfInBounds_toArray, List.set_cons_zero, List.set_cons_succ]
              refine takeH (i := 7) (d := 79) (v := .int .i64 0) rfl rfl (by kernel_rfl) (by kernel_rfl) (by kernel_rfl) (fun _ _ _ h => h) (Or.inl ⟨by first | kernel_rfl | rfl, ?_⟩) ct27 ?_
              · intro w' hSw; go_simp
              try simp only [Act.put, List.setIfInBounds_toArray, List.set_cons_zero, List.set_cons_succ]
              have ne1 : w21.heap.size ≠ wd.heap.size := by omega
              have ge1 : w.heap.size ≤ wd.heap.size := by omega
              refine wpAnyH_ready (rs := [9]) (by kernel_rfl) (by simp) ?_
              refine ready_store rfl (by rfl) 26 _ _ rfl rfl _ 64 (fv fun _ => 0) (fv G) rfl rfl cX27 zX27 (fv_one _) infoV (fun wA sA bA cA zA oA pA => ⟨oA _ _ _ ne1 ct27, ?_⟩) AllReadyH.nil
              try simp only [Act.put, List.setIfInBounds_toArray, List.set_cons_zero, List.set_cons_succ]
              have caA := oA _ _ _ ne1 ct27
              refine takeH (i := 10) (d := 12) (v := .int .i64 0) rfl rfl (by kernel_rfl) (by kernel_rfl) (by kernel_rfl) (fun _ _ _ h => h) (Or.inl ⟨by first | kernel_rfl | rfl, ?_⟩) caA ?_
              · intro w' hSw; go_simp
              try simp only [Act.put, List.setIfInBounds_toArray, List.set_cons_zero, List.set_cons_succ]
              refine takeH (i := 11) (d := 13) (v := .int .i64 0) rfl rfl (by kernel_rfl) (by kernel_rfl) (by kernel_rfl) (fun _ _ _ h => h) (Or.inl ⟨by first | kernel_rfl | rfl, ?_⟩) caA ?_
              · intro w' hSw; go_simp
              try simp only [Act.put, List.setIfInBounds_toArray, List.set_cons_zero, List.set_cons_succ]
              refine wpAnyH_done (by kernel_rfl) ?_ _
              have BB : Hid (Below w.heap.size w wA) := Lib.hid (bA _ _ ge1 b27.out)
              have ltA : wd.heap.size < wA.heap.size := World.block_lt_of_cell? _ _ (cA 0 (by decide))
              go_wp2_with fail
              go_meet
              exact ⟨_, rfl, rfl, rfl, ge1, ltA, ne1, cA, caA, BB⟩
            exact AllReadyH.nil
          exact AllReadyH.nil
        exact AllReadyH.nil
      case rest =>
        obtain ⟨X', rfl, rfl, rfl, geX, ltX, neX, cg30, ct30, b30⟩ := hcut
        try clear b21
        try clear ct22
        try clear zt22
        try clear b22
        try clear b23
        have ltT : w21.heap.size < wc.heap.size := World.block_lt_of_cell? _ _ (ct30 0 (by decide))
        have zz0 : w.heap.size ≤ wc.heap.size := b30.out.size
        go_wp2_with (first
          | (with_reducible refine wpList_load_at rfl 26 _ rfl _ 64 (fv G) rfl cg30 _ Try.underlying26 rfl infoV ?_)
          | (go_at_call 15; (with_reducible refine (SH.out _).mono ?_); rintro e w31 ⟨rfl, hb31⟩; have cg31 := cg30.later hb31; have ct31 := ct30.later hb31; have b31 : Hid (Below w.heap.size w w31) := Lib.hid (below_then b30.out hb31); have s31' := hb31.size; clear hb31)
          | ((with_reducible refine wpList_alloc_named rfl 26 rfl 14 rfl 64 (fv fun _ => 0) zeroT ?_); intro w32 N32; have cg32 := cg31.later N32.below; have ct32 := ct31.later N32.below; have cz32 := N32.at'; have zz32 := N32.free; have b32 : Hid (Below w.heap.size w w32) := Lib.hid (below_then b31.out N32.below); have s32' := Nat.le_of_eq N32.size.symm; clear N32)
          | ((with_reducible refine wpList_store_at rfl 26 _ _ rfl _ 64 _ (fv S) rfl rfl cz32 zz32 (fv_one _) infoV ?_); intro w33 S33 B33 cz33 zz33 O33 P33; have cg33 := O33 _ _ _ (by omega) cg32; have ct33 := O33 _ _ _ (by omega) ct32; have b33 : Hid (Below w.heap.size w w33) := Lib.hid (B33 _ _ (by omega) b32.out); have s33' := Nat.le_of_eq S33.symm; clear S33 B33 O33 P33)
          | (with_reducible refine wpList_load_at rfl 26 _ rfl _ 64 (fv T) rfl ct33 _ Try.underlying26 rfl infoV ?_)
          | (go_at_call 26; (with_reducible refine (E1.out _).mono ?_); rintro e w34 ⟨rfl, hb34⟩; have cg34 := cg33.later hb34; have ct34 := ct33.later hb34; have cz34 := cz33.later hb34; have b34 : Hid (Below w.heap.size w w34) := Lib.hid (below_then b33.out hb34); have s34' := hb34.size; clear hb34)
          | ((with_reducible refine wpList_alloc_named rfl 52 rfl 16 rfl 61 (ziv) zeroI ?_); intro w35 N35; have cg35 := cg34.later N35.below; have ct35 := ct34.later N35.below; have cz35 := cz34.later N35.below; have ca35 := N35.at'; have za35 := N35.free; have b35 : Hid (Below w.heap.size w w35) := Lib.hid (below_then b34.out N35.below); have s35' := Nat.le_of_eq N35.size.symm; clear N35)
          | ((with_reducible refine wpList_store_at rfl 52 _ _ rfl _ 61 _ (sqv T) rfl rfl ca35 za35 (fun _ _ => rfl) infoI ?_); intro w36 S36 B36 ca36 za36 O36 P36; have cg36 := O36 _ _ _ (by omega) cg35; have ct36 := O36 _ _ _ (by omega) ct35; have cz36 := O36 _ _ _ (by omega) cz35; have b36 : Hid (Below w.heap.size w w36) := Lib.hid (B36 _ _ (by omega) b35.out); have s36' := Nat.le_of_eq S36.symm; clear S36 B36 O36 P36)
          | (with_reducible refine wpList_load_at rfl 26 _ rfl _ 64 (fv S) rfl cz36 _ Try.underlying26 rfl infoV ?_)
          | (go_at_call 26; (with_reducible refine (E2.out _).mono ?_); rintro e w37 ⟨rfl, hb37⟩; have cg37 := cg36.later hb37; have ct37 := ct36.later hb37; have cz37 := cz36.later hb37; have ca37 := ca36.later hb37; have b37 : Hid (Below w.heap.size w w37) := Lib.hid (below_then b36.out hb37); have s37' := hb37.size; clear hb37)
          | ((with_reducible refine wpList_alloc_named rfl 52 rfl 18 rfl 61 (ziv) zeroI ?_); intro w38 N38; have cg38 := cg37.later N38.below; have ct38 := ct37.later N38.below; have cz38 := cz37.later N38.below; have ca38 := ca37.later N38.below; have ce38 := N38.at'; have ze38 := N38.free; have b38 : Hid (Below w.heap.size w w38) := Lib.hid (below_then b37.out N38.below); have s38' := Nat.le_of_eq N38.size.symm; clear N38)
          | ((with_reducible refine wpList_store_at rfl 52 _ _ rfl _ 61 _ (sqv S) rfl rfl ce38 ze38 (fun _ _ => rfl) infoI ?_); intro w39 S39 B39 ce39 ze39 O39 P39; have cg39 := O39 _ _ _ (by omega) cg38; have ct39 := O39 _ _ _ (by omega) ct38; have cz39 := O39 _ _ _ (by omega) cz38; have ca39 := O39 _ _ _ (by omega) ca38; have b39 : Hid (Below w.heap.size w w39) := Lib.hid (B39 _ _ (by omega) b38.out); have s39' := Nat.le_of_eq S39.symm; clear S39 B39 O39 P39))
        go_loopw [20] (fun s20 wx => ∃ q : Nat, s20 = .int .i64 (q : Int) ∧ q + s ≤ 61 ∧ VAt (w21.heap.size) 64 (fv T) wx ∧ VAt w31.heap.size 64 (fv S) wx ∧ VAt w34.heap.size 61 (sqv T) wx ∧ VAt w37.heap.size 61 (sqv S) wx ∧ Hid (Below w.heap.size w wx)) (fun s20 _ => 61 - (intOf s20).toNat)
        case atStart => exact ⟨0, rfl, by omega, ct39, cz39, ca39, ce39, b39⟩
        case round =>
          try clear cg31
          try clear ct31
          try clear b31
          try clear cg32
          try clear ct32
          try clear cz32
          try clear zz32
          try clear b32
          try clear cg33
          try clear ct33
          try clear b33
          try clear cg34
          try clear ct34
          try clear cz34
          try clear b34
          try clear cg35
          try clear ct35
          try clear cz35
          try clear ca35
          try clear za35
          try clear b35
          try clear cg36
          try clear ct36
          try clear cz36
          try clear b36
          try clear cg37
          try clear ct37
          try clear cz37
          try clear ca37
          try clear b37
          try clear cg38
          try clear ct38
          try clear cz38
          try clear ca38
          try clear ce38
          try clear ze38
          try clear b38
          try clear cg39
          try clear ct39
          try clear cz39
          try clear ca39
          try clear b39
          try clear cz33
          try clear zz33
          try clear ca36
          try clear za36
          try clear ce39
          try clear ze39
          obtain ⟨q, rfl, hq, tk, zk, ak, ek, bk⟩ := hrel
          have q0 : (0 : Int) ≤ (q : Int) := Int.natCast_nonneg _
          have e5 : IntKind.i64.wrap ((q : Int) + (s : Int)) = ((q + s : Nat) : Int) := by rw [IntWalk.i64_in _ (by omega)]; omega
          by_cases hlt : q + s < 61
          · have l1 : ((q + s : Nat) : Int) < 61 := by omega
            have l0 : (0 : Int) ≤ ((q + s : Nat) : Int) := by omega
            have q1 : (q : Int) < 61 := by omega
            have hv := HQ.out q hlt
            have bq := BD.out q (by omega)
            have gg : 1 ≤ g * g ∧ g * g ≤ 100 := by
              obtain ⟨g1, g2⟩ := hg
              have : g = 1 ∨ g = 2 ∨ g = 3 ∨ g = 4 ∨ g = 5 ∨ g = 6 ∨ g = 7 ∨ g = 8 ∨ g = 9 ∨ g = 10 := by omega
              rcases this with rfl | rfl | rfl | rfl | rfl | rfl | rfl | rfl | rfl | rfl <;> decide
            have y1 : wr.cell? ⟨w37.heap.size, q + s, none⟩ = some (.int .i64 (g * g * sqA T q)) := by rw [ek (q + s) hlt]; show some (Value.int .i64 (sqA S (q + s))) = _; rw [hv]
            have y2 : wr.cell? ⟨w34.heap.size, q, none⟩ = some (.int .i64 (sqA T q)) := ak q (by omega)
            have e1 : IntKind.i64.wrap (g * g) = g * g := IntWalk.i64_in _ (by omega)
            have pb : 0 ≤ g * g * sqA T q ∧ g * g * sqA T q ≤ 100000000 := by
              constructor
              · exact Int.mul_nonneg (by omega) bq.1
              · exact Int.le_trans (Int.mul_le_mul_of_nonneg_right gg.2 bq.1) (by omega)
            have e2 : IntKind.i64.wrap (g * g * sqA T q) = g * g * sqA T q := IntWalk.i64_in _ (by omega)
            clear hv bq pb
            generalize sqA T q = u at *
            go_wp2
            go_quiet (fail)
            generalize hwq : World.drewN wr _ = wq
            have hbq : Below wr.heap.size wr wq := by rw [← hwq]; exact below_drewN (Below.refl _ _) _
            go_wp2
            go_roundw
            case rel => exact ⟨q + 1, by go_num, by omega, tk.later hbq, zk.later hbq, ak.later hbq, ek.later hbq, Lib.hid (below_then bk.out hbq)⟩
            case measure => simp [intOf]; omega
          · have l1 : ¬ ((q + s : Nat) : Int) < 61 := by omega
            have ltz : w31.heap.size < wr.heap.size := World.block_lt_of_cell? _ _ (zk 0 (by decide))
            have lt_t : w21.heap.size < wr.heap.size := World.block_lt_of_cell? _ _ (tk 0 (by decide))
            have ct50 := tk
            have cz50 := zk
            have b50 := bk
            have le50 : w.heap.size ≤ wr.heap.size := b50.out.size
            clear tk zk ak ek bk
            obtain ⟨sm, hsm⟩ : ∃ sm, sm = smB l k := ⟨_, rfl⟩
            rw [← hsm] at P2 LG
            rw [← hsm]
            clear hsm
            cases sm
            · go_wp2
              go_ret
              exact ⟨rfl, b50.out⟩
            · have P2' := Lib.hid (P2.out rfl)
              have LG' := Lib.hid (LG.out rfl)
              clear P2 LG
              obtain ⟨pd0, pd1, pd2⟩ := pd
              have pa0 : (0 : Int) ≤ (pA : Int) := Int.natCast_nonneg _
              have gg : 1 ≤ g * g ∧ g * g ≤ 100 := by
                obtain ⟨g1, g2⟩ := hg
                have : g = 1 ∨ g = 2 ∨ g = 3 ∨ g = 4 ∨ g = 5 ∨ g = 6 ∨ g = 7 ∨ g = 8 ∨ g = 9 ∨ g = 10 := by omega
                rcases this with rfl | rfl | rfl | rfl | rfl | rfl | rfl | rfl | rfl | rfl <;> decide
              have pb : 0 ≤ g * g * pS ∧ g * g * pS ≤ 100000000 := by
                constructor
                · exact Int.mul_nonneg (by omega) pd0
                · exact Int.le_trans (Int.mul_le_mul_of_nonneg_right gg.2 pd0) (by omega)
              have e1 : IntKind.i64.wrap (g * g) = g * g := IntWalk.i64_in _ (by omega)
              have e2 : IntKind.i64.wrap (g * g * pS) = g * g * pS := IntWalk.i64_in _ (by omega)
              have e3 : IntKind.i64.wrap ((pA : Int) + (s : Int)) = (pA : Int) + (s : Int) := IntWalk.i64_in _ (by omega)
              clear pb gg
              go_wp2_with (first
                | (with_reducible refine wpList_load_at rfl 26 _ rfl _ 64 (fv T) rfl ct50 _ Try.underlying26 rfl infoV ?_)
                | (go_at_call 30; (with_reducible refine (P1.out _).mono ?_); rintro e w51 ⟨rfl, hb51⟩; have ct51 := ct50.later hb51; have cz51 := cz50.later hb51; have b51 : Hid (Below w.heap.size w w51) := Lib.hid (below_then b50.out hb51); have s51' := hb51.size; clear hb51)
                | ((with_reducible refine wpList_alloc_lit rfl 65 rfl 21 rfl #[.int .i64 0, .int .i64 0] zeroP ?_); intro w52 N52; have s52 := N52.size; have ct52 := ct51.later N52.below; have cz52 := cz51.later N52.below; have cp52 := N52.at'; have zp52 := N52.free; have b52 : Hid (Below w.heap.size w w52) := Lib.hid (below_then b51.out N52.below); clear N52; have s52' := Nat.le_of_eq s52.symm; clear s52; have yp0_52 : w52.cell? ⟨w51.heap.size, 0, none⟩ = some (.int .i64 0) := cp52 0 (by simp); have xp0_52 : w52.frozen? ⟨w51.heap.size, 0, none⟩ = false := zp52 0 (by simp); have yp1_52 : w52.cell? ⟨w51.heap.size, 1, none⟩ = some (.int .i64 0) := cp52 1 (by simp); have xp1_52 : w52.frozen? ⟨w51.heap.size, 1, none⟩ = false := zp52 1 (by simp))
                | ((with_reducible refine wpList_store_lit rfl 65 _ _ rfl _ _ _ #[.int .i64 (pA : Int), .int .i64 pS] rfl rfl cp52 zp52 rfl (oneP _ _ _ rfl) infoP ?_); intro w53 S53 B53 cp53 zp53 O53 P53; have ct53 := O53 _ _ _ (by omega) ct52; have cz53 := O53 _ _ _ (by omega) cz52; have b53 : Hid (Below w.heap.size w w53) := Lib.hid (B53 _ _ (by omega) b52.out); have s53' := Nat.le_of_eq S53.symm; clear yp0_52 xp0_52 yp1_52 xp1_52; have yp0_53 : w53.cell? ⟨w51.heap.size, 0, none⟩ = some (.int .i64 (pA : Int)) := cp53 0 (by simp); have xp0_53 : w53.frozen? ⟨w51.heap.size, 0, none⟩ = false := zp53 0 (by simp); have yp1_53 : w53.cell? ⟨w51.heap.size, 1, none⟩ = some (.int .i64 pS) := cp53 1 (by simp); have xp1_53 : w53.frozen? ⟨w51.heap.size, 1, none⟩ = false := zp53 1 (by simp); clear S53 B53 O53 P53)
                | (with_reducible refine wpList_load_at rfl 26 _ rfl _ 64 (fv S) rfl cz53 _ Try.underlying26 rfl infoV ?_)
                | (go_at_call 30; (with_reducible refine (P2'.out _).mono ?_); rintro e w54 ⟨rfl, hb54⟩; have ct54 := ct53.later hb54; have cz54 := cz53.later hb54; have cp54 := cp53.later hb54; have zp54 := zp53.later cp53 hb54; have b54 : Hid (Below w.heap.size w w54) := Lib.hid (below_then b53.out hb54); have s54' := hb54.size; clear yp0_53 xp0_53 yp1_53 xp1_53; have yp0_54 : w54.cell? ⟨w51.heap.size, 0, none⟩ = some (.int .i64 (pA : Int)) := cp54 0 (by simp); have xp0_54 : w54.frozen? ⟨w51.heap.size, 0, none⟩ = false := zp54 0 (by simp); have yp1_54 : w54.cell? ⟨w51.heap.size, 1, none⟩ = some (.int .i64 pS) := cp54 1 (by simp); have xp1_54 : w54.frozen? ⟨w51.heap.size, 1, none⟩ = false := zp54 1 (by simp); have lp54 := World.block_lt_of_cell? _ _ yp0_54; dsimp only at lp54; clear hb54)
                | ((with_reducible refine wpList_alloc_lit rfl 65 rfl 23 rfl #[.int .i64 0, .int .i64 0] zeroP ?_); intro w55 N55; have s55 := N55.size; have ct55 := ct54.later N55.below; have cz55 := cz54.later N55.below; have cp55 := cp54.later N55.below; have zp55 := zp54.later cp54 N55.below; have cr55 := N55.at'; have zr55 := N55.free; have b55 : Hid (Below w.heap.size w w55) := Lib.hid (below_then b54.out N55.below); clear N55; have s55' := Nat.le_of_eq s55.symm; clear s55; clear yp0_54 xp0_54 yp1_54 xp1_54; have yp0_55 : w55.cell? ⟨w51.heap.size, 0, none⟩ = some (.int .i64 (pA : Int)) := cp55 0 (by simp); have xp0_55 : w55.frozen? ⟨w51.heap.size, 0, none⟩ = false := zp55 0 (by simp); have yp1_55 : w55.cell? ⟨w51.heap.size, 1, none⟩ = some (.int .i64 pS) := cp55 1 (by simp); have xp1_55 : w55.frozen? ⟨w51.heap.size, 1, none⟩ = false := zp55 1 (by simp); have yr0_55 : w55.cell? ⟨w54.heap.size, 0, none⟩ = some (.int .i64 0) := cr55 0 (by simp); have xr0_55 : w55.frozen? ⟨w54.heap.size, 0, none⟩ = false := zr55 0 (by simp); have yr1_55 : w55.cell? ⟨w54.heap.size, 1, none⟩ = some (.int .i64 0) := cr55 1 (by simp); have xr1_55 : w55.frozen? ⟨w54.heap.size, 1, none⟩ = false := zr55 1 (by simp))
                | ((with_reducible refine wpList_store_lit rfl 65 _ _ rfl _ _ _ #[.int .i64 ((pA : Int) + (s : Int)), .int .i64 (g * g * pS)] rfl rfl cr55 zr55 rfl (oneP _ _ _ rfl) infoP ?_); intro w56 S56 B56 cr56 zr56 O56 P56; have ct56 := O56 _ _ _ (by omega) ct55; have cz56 := O56 _ _ _ (by omega) cz55; have cp56 := O56 _ _ _ (by omega) cp55; have zp56 := P56 _ _ zp55; have b56 : Hid (Below w.heap.size w w56) := Lib.hid (B56 _ _ (by omega) b55.out); have s56' := Nat.le_of_eq S56.symm; clear yp0_55 xp0_55 yp1_55 xp1_55; clear yr0_55 xr0_55 yr1_55 xr1_55; have yp0_56 : w56.cell? ⟨w51.heap.size, 0, none⟩ = some (.int .i64 (pA : Int)) := cp56 0 (by simp); have xp0_56 : w56.frozen? ⟨w51.heap.size, 0, none⟩ = false := zp56 0 (by simp); have yp1_56 : w56.cell? ⟨w51.heap.size, 1, none⟩ = some (.int .i64 pS) := cp56 1 (by simp); have xp1_56 : w56.frozen? ⟨w51.heap.size, 1, none⟩ = false := zp56 1 (by simp); have yr0_56 : w56.cell? ⟨w54.heap.size, 0, none⟩ = some (.int .i64 ((pA : Int) + (s : Int))) := cr56 0 (by simp); have xr0_56 : w56.frozen? ⟨w54.heap.size, 0, none⟩ = false := zr56 0 (by simp); have yr1_56 : w56.cell? ⟨w54.heap.size, 1, none⟩ = some (.int .i64 (g * g * pS)) := cr56 1 (by simp); have xr1_56 : w56.frozen? ⟨w54.heap.size, 1, none⟩ = false := zr56 1 (by simp); clear S56 B56 O56 P56)
                | (with_reducible refine wpList_load_at rfl 26 _ rfl _ 64 (fv T) rfl ct56 _ Try.underlying26 rfl infoV ?_)
                | (with_reducible refine wpList_load_at rfl 26 _ rfl _ 64 (fv S) rfl cz56 _ Try.underlying26 rfl infoV ?_)
                | (go_at_call 35; (with_reducible refine (LG'.out _).mono ?_); rintro e w57 ⟨rfl, hb57⟩; have ct57 := ct56.later hb57; have cz57 := cz56.later hb57; have cp57 := cp56.later hb57; have zp57 := zp56.later cp56 hb57; have cr57 := cr56.later hb57; have zr57 := zr56.later cr56 hb57; have b57 : Hid (Below w.heap.size w w57) := Lib.hid (below_then b56.out hb57); have s57' := hb57.size; clear yp0_56 xp0_56 yp1_56 xp1_56; clear yr0_56 xr0_56 yr1_56 xr1_56; have yp0_57 : w57.cell? ⟨w51.heap.size, 0, none⟩ = some (.int .i64 (pA : Int)) := cp57 0 (by simp); have xp0_57 : w57.frozen? ⟨w51.heap.size, 0, none⟩ = false := zp57 0 (by simp); have yp1_57 : w57.cell? ⟨w51.heap.size, 1, none⟩ = some (.int .i64 pS) := cp57 1 (by simp); have xp1_57 : w57.frozen? ⟨w51.heap.size, 1, none⟩ = false := zp57 1 (by simp); have yr0_57 : w57.cell? ⟨w54.heap.size, 0, none⟩ = some (.int .i64 ((pA : Int) + (s : Int))) := cr57 0 (by simp); have xr0_57 : w57.frozen? ⟨w54.heap.size, 0, none⟩ = false := zr57 0 (by simp); have yr1_57 : w57.cell? ⟨w54.heap.size, 1, none⟩ = some (.int .i64 (g * g * pS)) := cr57 1 (by simp); have xr1_57 : w57.frozen? ⟨w54.heap.size, 1, none⟩ = false := zr57 1 (by simp); have lp57 := World.block_lt_of_cell? _ _ yp0_57; dsimp only at lp57; have lr57 := World.block_lt_of_cell? _ _ yr0_57; dsimp only at lr57; clear hb57))
              go_ret
              exact ⟨rfl, b57.out⟩
end Go.Proofs.Ytoieemgdkpnbfaa
