/- MayBeFirst: the program -/
import Derived.Test.YtdicndakelgoeaaB6
import Derived.Test.YtdicndakelgoeaaK1
namespace Go.Proofs.Ytdicndakelgoeaa
open Go.RowKit RayM
set_option linter.unusedSimpArgs false
set_option linter.unusedVariables false
set_option maxRecDepth 100000 in
set_option maxHeartbeats 1000000 in
theorem mb_loops (x : Mb) (a : Addr) (c : Nat) (w : World) (hn : 0 < x.n) (hn8 : x.n ≤ 8) (hx : MoAt x a w) :
    Calls Try.prog 64 #[.slice (some a) x.n c, .agg #[.int .i64 x.fx, .int .i64 x.fz], .agg #[.int .i64 x.tx, .int .i64 x.tz]] w fun e w' => ∃ v : Value, e = .returned (.tuple #[v, .int .i64 x.E]) ∧ w'.ownsRow w.heap.size 3 1 v x.L.length x.L ∧ Below w.heap.size w w' := by
  obtain ⟨i0, hi0, hz0, hz1, hz2⟩ := info_parts infoRange
  have HI0 := Lib.hid hi0; have HZ0 := Lib.hid hz0; have HZ1 := Lib.hid hz1; have HZ2 := Lib.hid hz2
  obtain ⟨j0_, ji0, jz0, jz1, jz2⟩ := info_parts infoInt
  have JI0 := Lib.hid ji0; have JZ0 := Lib.hid jz0; have JZ1 := Lib.hid jz1; have JZ2 := Lib.hid jz2
  clear hi0 hz0 hz1 hz2 ji0 jz0 jz1 jz2
  have HC := Lib.hid (fun w => count_any (x.n : Int) w)
  rw [decide_eq_true (show 0 < (x.n : Int) by omega), decide_eq_true (show (x.n : Int) ≤ 8 by omega)] at HC
  have HC' : Hid (∀ w, Calls Try.prog 121 #[.int .i64 (x.n : Int), .int .i64 8] w fun e w' => e = .returned (.int .i64 0) ∧ Below w.heap.size w w') := HC
  have TS : Hid (∀ k, x.tl (k + 1) = x.tl k ++ [.int .i64 (x.lo k), .int .i64 (x.hi k)]) := fun k => tl_succ x k
  have T0 : Hid (x.tl 0 = []) := (rfl : x.tl 0 = [])
  have FS := Lib.hid (first_step x.g)
  have HXm := Lib.hid hx; clear hx HC
  generalize hEq : x.E = E0 at *
  generalize hLq : x.L = L0 at *
  have EQ := Lib.hid hEq; have LQ := Lib.hid hLq; clear hEq hLq
  go_enter Try.func64, Try.ntmps64
  go_wp2_with fail
  refine (HC'.out _).mono ?_
  rintro e w1 ⟨rfl, hb1⟩
  have qw10 : w1.cell? ⟨w.heap.size, 0, none⟩ = some (.int .i64 x.fx) := cell_later hb1 (by simp [go_sem])
  have qw11 : w1.cell? ⟨w.heap.size, 1, none⟩ = some (.int .i64 x.fz) := cell_later hb1 (by simp [go_sem])
  have qw12 : w1.cell? ⟨w.heap.size + 1, 0, none⟩ = some (.int .i64 x.tx) := cell_later hb1 (by simp [go_sem])
  have qw13 : w1.cell? ⟨w.heap.size + 1, 1, none⟩ = some (.int .i64 x.tz) := cell_later hb1 (by simp [go_sem])
  have zqw1_0 := World.block_lt_of_cell? _ _ qw10
  dsimp only at zqw1_0
  have zqw1_2 := World.block_lt_of_cell? _ _ qw12
  dsimp only at zqw1_2
  have H1 : Hid (Below w.heap.size w w1) := Lib.hid (below_after (by repeat (first | exact Below.refl _ _ | refine Below.drew ?_ | refine below_drewN ?_ _ | refine Below.setCell ?_ (by first | omega | (simp; done) | (simp; omega)) _ | refine Below.alloc ?_ (by first | omega | (simp; done) | (simp; omega)) _)) hb1 (by first | omega | (simp; done) | (simp; omega))); clear hb1
  have HX1 := Lib.hid (HXm.out.later H1.out); clear HXm
  go_wp2
  go_loopw [9, 28] (fun s9 s28 wr => ∃ (k : Nat) (v : Value), v = s9 ∧ k ≤ x.n ∧ s28 = .int .i64 (k : Int) ∧ wr.ownsRow w1.heap.size 26 2 v k (x.tl k) ∧ firstFrom x.g k (x.n - k) = E0 ∧ (∀ i, i < k → x.g i = 0) ∧ Below w1.heap.size w1 wr) (fun _ s28 _ => x.n - (intOf s28).toNat)
  case atStart => exact ⟨0, _, rfl, Nat.zero_le _, rfl, by rw [T0.out]; exact World.ownsRow_nil _ _ _ _, by rw [← EQ.out]; rfl, fun i hi => absurd hi (Nat.not_lt_zero i), Below.refl _ _⟩
  case round =>
    obtain ⟨k, v, rfl, hk, rfl, hown, hE, hZ, hb⟩ := hrel
    have HE := Lib.hid hE; have HZ := Lib.hid hZ; clear hE hZ
    have r0 : wr.cell? ⟨w.heap.size, 0, none⟩ = some (.int .i64 x.fx) := cell_later hb qw10
    have r1 : wr.cell? ⟨w.heap.size, 1, none⟩ = some (.int .i64 x.fz) := cell_later hb qw11
    have r2 : wr.cell? ⟨w.heap.size + 1, 0, none⟩ = some (.int .i64 x.tx) := cell_later hb qw12
    have r3 : wr.cell? ⟨w.heap.size + 1, 1, none⟩ = some (.int .i64 x.tz) := cell_later hb qw13
    have sz := hb.size
    have zr0 : w.heap.size < wr.heap.size := by omega
    have zr1 : w.heap.size + 1 < wr.heap.size := by omega
    have HB := Lib.hid hb
    by_cases hlt : k < x.n
    · obtain ⟨e0, e1, e2, e3⟩ := (HX1.out.later hb).cells hlt
      have j0 : (0 : Int) ≤ (k : Int) := Int.natCast_nonneg _
      have j1 : (k : Int) < (x.n : Int) := by omega
      have j8 : (k : Int) < 8 := by omega
      clear hb
      by_cases hg : x.g k = 0
      · have HL : Hid (∀ w, Calls Try.prog 49 #[.agg #[.int .i64 (x.ms k).wd, .int .i64 (x.ms k).mt, .int .i64 (x.ms k).sk, .int .i64 (x.ms k).th], .agg #[.int .i64 x.fx, .int .i64 x.fz], .agg #[.int .i64 x.tx, .int .i64 x.tz]] w fun e w' => e = .returned (.tuple #[.agg #[.int .i64 (x.lo k), .int .i64 (x.hi k)], .int .i64 0]) ∧ Below w.heap.size w w') := Lib.hid (fun w => leastOf_ok (x.y k) ((wyE_ok _).1 hg) w)
        have HG := Lib.hid hg; clear hg
        go_wp2_with fail
        refine (HL.out _).mono ?_
        rintro e w5 ⟨rfl, hb5⟩
        have zz5 := hb5.size
        simp at zz5
        have hown5 := own_below (hown.alloc _) hb5
        have H5 := Lib.hid (below_then (HB.out.alloc sz _) hb5)
        have ag5 := Lib.hid (fun q e => (hown5.lt q e).1)
        clear hb5
        have sz5 := H5.out.size
        have bm : (k + 1 : Nat) ≤ maxLen := by unfold maxLen; omega
        have BM := Lib.hid bm; clear bm
        have nb : ∀ j u, (#[Value.int .i64 (x.lo k), Value.int .i64 (x.hi k)] : Array Value).toList[j]? = some u → ((w5.alloc (.cells #[.int .i64 (x.lo k), .int .i64 (x.hi k)] 26)).alloc (.cells #[.int .i64 (x.lo k), .int .i64 (x.hi k)] 26)).cell? ((⟨w5.heap.size + 1, 0, none⟩ : Addr).add j) = some u :=
          World.news_of_block (t := 26) (fr := (0, 0)) (by have h := heap_alloc_new (w5.alloc (.cells #[.int .i64 (x.lo k), .int .i64 (x.hi k)] 26)) (.cells #[.int .i64 (x.lo k), .int .i64 (x.hi k)] 26); simpa using h)
        have NB := Lib.hid nb; clear nb
        go_wp2_with (at_builtin; refine wpList_append_lies _ rfl _ _ _ rfl w1.heap.size 26 i0 _ 2 16 Try.underlying66 HI0.out HZ0.out HZ1.out HZ2.out rfl (by omega) v k (x.tl k) rfl ((hown5.alloc _).alloc _) ⟨w5.heap.size + 1, 0, none⟩ 1 1 [.int .i64 (x.lo k), .int .i64 (x.hi k)] rfl rfl NB.out (by simp [Value.oneCell']) (by omega) BM.out (by omega) (by simp; omega) (w5.heap.size + 1 + 1) (by simp) ?_; intro g cap w6 hown6 hgrow6 hat6 hlt6)
        have HO6 := Lib.hid hown6; clear hown6
        have HG6 := Lib.hid hgrow6; clear hgrow6 hat6 hlt6
        go_roundw
        case rel => exact ⟨k + 1, _, rfl, by omega, by go_num, by rw [TS.out]; exact HO6.out, by rw [← HE.out, FS.out k x.n hlt, if_pos HG.out], fun i hi => by rcases Nat.lt_succ_iff_lt_or_eq.1 hi with h | h; exact HZ.out i h; rw [h]; exact HG.out, ((H5.out.alloc (by omega) _).alloc (by simp; omega) _).grown HG6.out (by simp; omega) (fun q e => ag5.out q e)⟩
        case measure => simp [intOf]; omega
      · have HL : Hid (∀ w, Calls Try.prog 49 #[.agg #[.int .i64 (x.ms k).wd, .int .i64 (x.ms k).mt, .int .i64 (x.ms k).sk, .int .i64 (x.ms k).th], .agg #[.int .i64 x.fx, .int .i64 x.fz], .agg #[.int .i64 x.tx, .int .i64 x.tz]] w fun e w' => e = .returned (.tuple #[.agg #[.int .i64 0, .int .i64 0], .int .i64 (x.g k)]) ∧ Below w.heap.size w w') := Lib.hid (fun w => leastOf_bad (x.y k) hg w)
        have n1 : (x.g k != 0) = true := by simpa using hg
        have EE : Hid (E0 = x.g k) := by show _ = _; rw [← HE.out, FS.out k x.n hlt, if_neg hg]
        have LL : Hid (L0 = []) := by show _ = _; rw [← LQ.out]; unfold Mb.L; rw [EQ.out, EE.out, if_neg hg]
        clear hg
        go_wp2_with fail
        refine (HL.out _).mono ?_
        rintro e w5 ⟨rfl, hb5⟩
        have H5 := Lib.hid (below_then (HB.out.alloc sz _) hb5)
        clear hb5
        go_wp2
        go_ret2
        exact ⟨.slice none 0 0, by rw [EE.out]; rfl, by rw [LL.out]; exact World.ownsRow_nil _ _ _ _, Below.trans H1.out ((H5.out.alloc H5.out.size _).mono H1.out.size)⟩
    · obtain ⟨wa, rfl⟩ : ∃ q : World, q = wr := ⟨_, rfl⟩
      have hk' : k = x.n := by omega
      have HK := Lib.hid hk'
      rw [hk'] at hown
      have hE0 : E0 = 0 := by rw [← HE.out, HK.out, Nat.sub_self]; rfl
      have hL0 : L0 = x.fv x.n := by rw [← LQ.out]; unfold Mb.L; rw [EQ.out, if_pos hE0]
      have HE0 := Lib.hid hE0; have HL0 := Lib.hid hL0
      have kk : decide ((k : Int) < (x.n : Int)) = false := by simp; omega
      clear hE0 hL0 hk'
      obtain ⟨A, tc, rfl, hA⟩ := row_form hown
      obtain ⟨g, rfl, hgb, hc⟩ := hA hn
      have TC := Lib.hid (fun i (h : i < x.n) => And.intro (hc _ _ (tl_get x x.n i h).1) (hc _ _ (tl_get x x.n i h).2))
      have h1 := (TC.out 0 hn).2
      rw [show 0 * 2 + 1 = 1 from rfl] at h1
      have HW1 : Hid (Below w.heap.size w wa) := Lib.hid (Below.trans H1.out (hb.mono H1.out.size))
      have M0 : Hid (x.mn 0 = x.hi 0) := (rfl : x.mn 0 = x.hi 0)
      have i0' : (0 : Int) < (x.n : Int) := by omega
      clear hown hA hc hb
      go_wp2
      go_loopw [14, 53] (fun s14 s53 w2 => ∃ k : Nat, k ≤ x.n ∧ s53 = .int .i64 (k : Int) ∧ s14 = .int .i64 (x.mn k) ∧ Below wa.heap.size wa w2) (fun _ s53 _ => x.n - (intOf s53).toNat)
      case atStart => exact ⟨0, Nat.zero_le _, rfl, by rw [M0.out], Below.refl _ _⟩
      case round =>
        obtain ⟨k2, hk2, rfl, rfl, hb2⟩ := hrel
        obtain ⟨w2, rfl⟩ : ∃ q : World, q = wr := ⟨_, rfl⟩
        have HB2 := Lib.hid hb2
        have sz2 := hb2.size
        by_cases hlt2 : k2 < x.n
        · have c1 := cell_later hb2 (TC.out k2 hlt2).1
          have c2 := cell_later hb2 (TC.out k2 hlt2).2
          have j0 : (0 : Int) ≤ (k2 : Int) := Int.natCast_nonneg _
          have j1 : (k2 : Int) < (x.n : Int) := by omega
          have MS : Hid (x.mn (k2 + 1) = min (x.mn k2) (x.hi k2)) := (rfl : x.mn (k2 + 1) = _)
          clear hb2
          go_wp2
          go_roundw
          case rel => exact ⟨k2 + 1, by omega, by go_num, by rw [MS.out], HB2.out.alloc sz2 _⟩
          case measure => simp [intOf]; omega
        · have hk2' : k2 = x.n := by omega
          have HK2 := Lib.hid hk2'
          have kk2 : decide ((k2 : Int) < (x.n : Int)) = false := by simp; omega
          have HW2 : Hid (Below w.heap.size w w2) := Lib.hid (Below.trans HW1.out (hb2.mono HW1.out.size))
          have MN : Hid (x.mn k2 = x.mn x.n) := by show _ = _; rw [HK2.out]
          have TC2 := Lib.hid (fun i (h : i < x.n) => And.intro (cell_later hb2 (TC.out i h).1) (cell_later hb2 (TC.out i h).2))
          have FY := Lib.hid (fun k (h : x.lo k ≤ x.mn x.n) => fv_yes x k h)
          have FN := Lib.hid (fun k (h : x.mn x.n < x.lo k) => fv_no x k (by omega))
          have FL := Lib.hid (fv_len x)
          have F0 : Hid (x.fv 0 = []) := (rfl : x.fv 0 = [])
          clear hk2' hb2
          rw [MN.out] at *
          generalize x.mn x.n = mn at *
          go_wp2
          go_loopw [17, 64] (fun s17 s64 w3 => ∃ (k : Nat) (v3 : Value), v3 = s17 ∧ k ≤ x.n ∧ s64 = .int .i64 (k : Int) ∧ w3.ownsRow w2.heap.size 3 1 v3 (x.fv k).length (x.fv k) ∧ Below w2.heap.size w2 w3) (fun _ s64 _ => x.n - (intOf s64).toNat)
          case atStart => exact ⟨0, _, rfl, Nat.zero_le _, rfl, by rw [F0.out]; exact World.ownsRow_nil _ _ _ _, Below.refl _ _⟩
          case round =>
            obtain ⟨k3, v3, rfl, hk3, rfl, hown3, hb3⟩ := hrel
            obtain ⟨w3, rfl⟩ : ∃ q : World, q = wr := ⟨_, rfl⟩
            have HB3 := Lib.hid hb3
            have sz3 := hb3.size
            by_cases hlt3 : k3 < x.n
            · have c1 := cell_later hb3 (TC2.out k3 hlt3).1
              have c2 := cell_later hb3 (TC2.out k3 hlt3).2
              have j0 : (0 : Int) ≤ (k3 : Int) := Int.natCast_nonneg _
              have j1 : (k3 : Int) < (x.n : Int) := by omega
              have ag3 := Lib.hid (fun q e => (hown3.lt q e).1)
              clear hb3
              by_cases hle : x.lo k3 ≤ mn
              · have fl := FL.out k3
                have bm : ((x.fv k3).length + 1 : Nat) ≤ maxLen := by unfold maxLen; omega
                have BM := Lib.hid bm; clear bm
                have FE := Lib.hid (FY.out k3 hle)
                have nb : ∀ j u, (#[Value.int .i64 (k3 : Int)] : Array Value).toList[j]? = some u → ((w3.alloc (.cells #[.int .i64 (x.lo k3), .int .i64 (x.hi k3)] 26)).alloc (.cells #[.int .i64 (k3 : Int)] 3)).cell? ((⟨w3.heap.size + 1, 0, none⟩ : Addr).add j) = some u :=
                  World.news_of_block (t := 3) (fr := (0, 0)) (by have h := heap_alloc_new (w3.alloc (.cells #[.int .i64 (x.lo k3), .int .i64 (x.hi k3)] 26)) (.cells #[.int .i64 (k3 : Int)] 3); simpa using h)
                have NB := Lib.hid nb; clear nb
                go_wp2_with (at_builtin; refine wpList_append_lies _ rfl _ _ _ rfl w2.heap.size 3 j0_ _ 1 8 Try.underlying89 JI0.out JZ0.out JZ1.out JZ2.out rfl (by omega) v3 (x.fv k3).length (x.fv k3) rfl ((hown3.alloc _).alloc _) ⟨w3.heap.size + 1, 0, none⟩ 1 1 [.int .i64 (k3 : Int)] rfl rfl NB.out (by simp [Value.oneCell']) (by omega) BM.out (by omega) (by simp; omega) (w3.heap.size + 1 + 1) (by simp) ?_; intro g6 cap w6 hown6 hgrow6 hat6 hlt6)
                have HO6 := Lib.hid hown6; clear hown6
                have HG6 := Lib.hid hgrow6; clear hgrow6 hat6 hlt6
                go_roundw
                case rel => exact ⟨k3 + 1, _, rfl, by omega, by go_num, by rw [FE.out, List.length_append]; exact HO6.out, ((HB3.out.alloc (by omega) _).alloc (by simp; omega) _).grown HG6.out (by simp; omega) (fun q e => ag3.out q e)⟩
                case measure => simp [intOf]; omega
              · have hle' : mn < x.lo k3 := by omega
                have d1 : decide (x.lo k3 ≤ mn) = false := by simp; omega
                have FE := Lib.hid (FN.out k3 hle')
                clear hle
                go_wp2
                go_roundw
                case rel => exact ⟨k3 + 1, _, rfl, by omega, by go_num, by rw [FE.out]; exact hown3.alloc _, HB3.out.alloc sz3 _⟩
                case measure => simp [intOf]; omega
            · have hk3' : k3 = x.n := by omega
              have HK3 := Lib.hid hk3'
              have kk3 : decide ((k3 : Int) < (x.n : Int)) = false := by simp; omega
              clear hk3' hb3
              go_wp2
              go_ret2
              exact ⟨v3, by rw [HE0.out]; rfl, by rw [HL0.out, ← HK3.out]; exact own_mono hown3 HW2.out.size, Below.trans HW2.out (HB3.out.mono HW2.out.size)⟩
end Go.Proofs.Ytdicndakelgoeaa
