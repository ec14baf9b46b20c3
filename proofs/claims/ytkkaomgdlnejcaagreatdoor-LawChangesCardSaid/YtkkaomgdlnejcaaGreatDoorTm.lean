/- the reference's Without -/
import Derived.Test.YtkkaomgdlnejcaaGreatDoorTn
namespace Go.Proofs.YtkkaomgdlnejcaaGreatDoor
open Go.RowKit Go.Shelf RayM
set_option linter.unusedSimpArgs false
set_option linter.unusedVariables false
set_option maxRecDepth 100000 in
set_option maxHeartbeats 4000000 in
theorem rWithout_any (d : Dl) (dd : Nat → Int) (nd : Nat) (ad : Addr) (c : Nat) (D : Option Addr) (e : Nat) (w : World) (hE : d.E = 0) (h : InAt (some ad) d.n d.t w) (k : InAt D nd dd w) (hd : nd ≤ 1000) :
    Calls Tryz.prog 30 #[.agg #[.int .i64 d.ck, .slice (some ad) d.n c], .slice D nd e] w fun e_ w' => LwP d.ck (woC d.t dd nd) d.n (woE d dd nd) w e_ w' := by
  have HT := Lib.hid h; clear h
  have HX := Lib.hid k; clear k
  obtain ⟨_, ⟨n0, n1⟩, _⟩ := (Dl.E_zero d).1 hE
  have HK := Lib.hid (fun w h => copyInts_any (some ad) d.n c d.t w (by omega) (fun q => by cases q) h)
  have W0 := Lib.hid (woC_zero d.t dd)
  have WN := Lib.hid (fun k i j h => woC_next d.t dd k i j h)
  have EW : Hid (woE d dd nd = ffE (wcE d.n dd) 0 (nd - 0)) := Lib.hid (by unfold woE; rw [if_pos hE]; rfl)
  have WS : Hid (∀ k, k < nd → ffE (wcE d.n dd) k (nd - k) = if wcE d.n dd k = 0 then ffE (wcE d.n dd) (k + 1) (nd - (k + 1)) else wcE d.n dd k) := Lib.hid (fun k hk => ffE_step _ k nd hk)
  have WE : Hid (ffE (wcE d.n dd) nd (nd - nd) = 0) := Lib.hid (by rw [Nat.sub_self]; rfl)
  have WC : Hid (∀ k, wcE d.n dd k = if 0 ≤ dd k ∧ dd k < d.n then (if k = 0 ∨ dd (k - 1) < dd k then 0 else 9) else 6) := Lib.hid (fun k => by
    unfold wcE thB ascB
    by_cases q : 0 ≤ dd k ∧ dd k < d.n
    · rw [if_pos q]
      by_cases r : k = 0 ∨ dd (k - 1) < dd k
      · rw [if_pos r]; simp [fst, unl, q, r]
      · rw [if_neg r]; simp [fst, unl, q, r]
    · rw [if_neg q]; simp [fst, unl, q])
  generalize woE d dd nd = E at *
  generalize wcE d.n dd = g at *
  clear hE
  go_enter Tryz.func30, Tryz.ntmps30
  go_wp2_with fail
  obtain ⟨w1, hw_w1⟩ : ∃ q, q = ((w.alloc (.cells #[.int .i64 d.ck, .slice (some ad) d.n c] 33)).alloc (.cells #[.int .i64 0, .slice none 0 0] 33)) := ⟨_, rfl⟩
  rw [← hw_w1]
  have q10 : w1.cell? ⟨w.heap.size, 0, none⟩ = some (.int .i64 d.ck) := by rw [hw_w1]; simp [go_sem]
  have q11 : w1.cell? ⟨w.heap.size, 1, none⟩ = some (.slice (some ad) d.n c) := by rw [hw_w1]; simp [go_sem]
  have q12 : w1.cell? ⟨w.heap.size + 1, 0, none⟩ = some (.int .i64 0) := by rw [hw_w1]; simp [go_sem]
  have q13 : w1.cell? ⟨w.heap.size + 1, 1, none⟩ = some (.slice none 0 0) := by rw [hw_w1]; simp [go_sem]
  have qf10 : w1.frozen? ⟨w.heap.size + 1, 0, none⟩ = false := by rw [hw_w1]; simp [go_sem]
  have qf11 : w1.frozen? ⟨w.heap.size + 1, 1, none⟩ = false := by rw [hw_w1]; simp [go_sem]
  have H1 : Hid (Below w.heap.size w w1) := Lib.hid (by rw [hw_w1]; exact (by repeat (first | exact Below.refl _ _ | refine Below.drew ?_ | refine below_drewN ?_ _ | refine Below.setCell ?_ (by first | omega | (simp; done) | (simp; omega)) _ | refine Below.alloc ?_ (by first | omega | (simp; done) | (simp; omega)) _)))
  have z1 : w1.heap.size = w.heap.size + 2 := by rw [hw_w1]; simp
  clear hw_w1
  have zw1 : w.heap.size + 1 < w1.heap.size := by omega
  clear z1
  refine (HK.out _ (HT.out.later H1.out)).mono ?_
  rintro e_ w2 ⟨v2, rfl, hown, hb⟩
  have k2_0 := cell_later hb q10
  have k2_1 := cell_later hb q11
  have k2_2 := cell_later hb q12
  have k2_3 := cell_later hb q13
  have f2_0 := frozen_after hb q12 qf10
  have f2_1 := frozen_after hb q13 qf11
  have B2 : Hid (Below w.heap.size w w2) := Lib.hid (below_then H1.out hb)
  clear q10 q11 q12 q13 qf10 qf11 H1
  have z2_0 := World.block_lt_of_cell? _ _ k2_0
  (try dsimp only at z2_0)
  have z2_2 := World.block_lt_of_cell? _ _ k2_2
  (try dsimp only at z2_2)
  clear hb
  obtain ⟨gt, cg, rfl, hg0, hg1, hR⟩ := own_row hown n0
  have R2 := Lib.hid hR
  have zg : w.heap.size + 1 < gt := by omega
  clear hown hR
  go_wp2_with fail
  go_loopw [7] (fun s7 wr => ∃ k : Nat, k ≤ nd ∧ s7 = .int .i64 (k : Int) ∧ ffE g k (nd - k) = E ∧ RowW gt d.n (woC d.t dd k) wr ∧ wr.cell? ⟨w.heap.size, 0, none⟩ = some (.int .i64 d.ck) ∧ wr.cell? ⟨w.heap.size, 1, none⟩ = some (.slice (some ad) d.n c) ∧ wr.cell? ⟨w.heap.size + 1, 0, none⟩ = some (.int .i64 0) ∧ wr.cell? ⟨w.heap.size + 1, 1, none⟩ = some (.slice none 0 0) ∧ wr.frozen? ⟨w.heap.size + 1, 0, none⟩ = false ∧ wr.frozen? ⟨w.heap.size + 1, 1, none⟩ = false ∧ Below w.heap.size w wr) (fun s7 _ => nd - (intOf s7).toNat)
  case atStart => exact ⟨0, Nat.zero_le _, rfl, EW.out.symm, by rw [W0.out]; exact R2.out, k2_0, k2_1, k2_2, k2_3, f2_0, f2_1, B2.out⟩
  case round =>
    clear R2 k2_0 k2_1 k2_2 k2_3 f2_0 f2_1
    obtain ⟨k, hk, rfl, hff, R3, b0, b1, b2, b3, fb2, fb3, hb⟩ := hrel
    have HB := Lib.hid hb; clear hb
    have zr := HB.out.size
    have zr0 := World.block_lt_of_cell? _ _ b0
    have zr2 := World.block_lt_of_cell? _ _ b2
    dsimp only at zr0 zr2
    by_cases hlt : k < nd
    · obtain ⟨aA, rfl⟩ := HX.out.some (by omega)
      have e0 := (HX.out.later HB.out).at hlt
      have j0 : (0 : Int) ≤ (k : Int) := Int.natCast_nonneg _
      have j1 : (k : Int) < (nd : Int) := by omega
      have j8 : (k : Int) < 1000 := by omega
      have hs := WS.out k hlt
      have hc := WC.out k
      rw [hff] at hs
      have R3' := Lib.hid R3
      clear R3 hff
      by_cases hin : 0 ≤ dd k ∧ dd k < d.n
      · rw [if_pos hin] at hc
        obtain ⟨i, ei⟩ := Int.eq_ofNat_of_zero_le hin.1
        have hi : i < d.n := by omega
        have ci := (R3'.out i hi).1
        have fi := (R3'.out i hi).2
        have i0 : (0 : Int) ≤ (i : Int) := Int.natCast_nonneg _
        have i1 : (i : Int) < (d.n : Int) := by omega
        have EI := Lib.hid ei
        have WI : Hid (inB (dd k) 0 ((d.n : Int) - 1) = true) := Lib.hid (by simp [inB]; omega)
        have c0 : decide ((k : Int) > 0) = decide (0 < k) := by simp
        have HC := Lib.hid hc; have HS := Lib.hid hs
        clear hc hs
        have HW_ := Lib.hid (fun w => within_any (dd k) 0 ((d.n : Int) - 1) w)
        rw [WI.out] at HW_
        rw [ei] at e0 HW_
        clear hin ei
        go_wp2_with (go_at_call 16; (with_reducible refine (HW_.out _).mono ?_); rintro e w' ⟨rfl, rfl⟩)
        by_cases hk0 : k = 0
        · have HC' : Hid (g k = 0) := Lib.hid (by rw [HC.out, if_pos (.inl hk0)])
          have d0 : decide ((k : Int) > 0) = false := by simp; omega
          have d0' : decide ((0 : Int) < (k : Int)) = false := by simp; omega
          have d0'' : decide (0 < k) = false := by simp; omega
          clear c0 hk0
          go_quiet (fail)
          obtain ⟨wq, hwq⟩ : ∃ q, q = wr.drewN nq := ⟨_, rfl⟩
          rw [← hwq]
          have b0 : wq.cell? ⟨w.heap.size, 0, none⟩ = some (.int .i64 d.ck) := by rw [hwq]; exact b0
          have b1 : wq.cell? ⟨w.heap.size, 1, none⟩ = some (.slice (some ad) d.n c) := by rw [hwq]; exact b1
          have b2 : wq.cell? ⟨w.heap.size + 1, 0, none⟩ = some (.int .i64 0) := by rw [hwq]; exact b2
          have b3 : wq.cell? ⟨w.heap.size + 1, 1, none⟩ = some (.slice none 0 0) := by rw [hwq]; exact b3
          have fb2 : wq.frozen? ⟨w.heap.size + 1, 0, none⟩ = false := by rw [hwq]; exact fb2
          have fb3 : wq.frozen? ⟨w.heap.size + 1, 1, none⟩ = false := by rw [hwq]; exact fb3
          have R4 : Hid (RowW gt d.n (woC d.t dd k) wq) := Lib.hid (by rw [hwq]; exact fun i hi => R3'.out i hi)
          have H6 : Hid (Below w.heap.size w wq) := Lib.hid (by rw [hwq]; exact below_drewN HB.out _)
          have e0 : wq.cell? (aA.add k) = some (.int .i64 (i : Int)) := by rw [hwq]; exact e0
          have ci := (R4.out i hi).1
          have fi := (R4.out i hi).2
          have zq := World.block_lt_of_cell? _ _ b0
          have zq2 := World.block_lt_of_cell? _ _ b2
          have zq3 := World.block_lt_of_cell? _ _ ci
          dsimp only at zq zq2 zq3
          clear hwq R3'
          go_upto_region 4 with fail
          generalize hW5 : wq.setCell ⟨gt, i, none⟩ (.int .i64 (-1)) = w5 at *
          have R5 : RowW gt d.n (woC d.t dd (k + 1)) w5 := by rw [← hW5]; exact R4.out.put i _ hi (fun j _ => WN.out k i j EI.out)
          have c0 : w5.cell? ⟨w.heap.size, 0, none⟩ = some (.int .i64 d.ck) := by rw [← hW5]; exact setO (.inl (by dsimp only; omega)) b0
          have c1 : w5.cell? ⟨w.heap.size, 1, none⟩ = some (.slice (some ad) d.n c) := by rw [← hW5]; exact setO (.inl (by dsimp only; omega)) b1
          have c2 : w5.cell? ⟨w.heap.size + 1, 0, none⟩ = some (.int .i64 0) := by rw [← hW5]; exact setO (.inl (by dsimp only; omega)) b2
          have c3 : w5.cell? ⟨w.heap.size + 1, 1, none⟩ = some (.slice none 0 0) := by rw [← hW5]; exact setO (.inl (by dsimp only; omega)) b3
          have fc2 : w5.frozen? ⟨w.heap.size + 1, 0, none⟩ = false := by rw [← hW5]; exact setF fb2
          have fc3 : w5.frozen? ⟨w.heap.size + 1, 1, none⟩ = false := by rw [← hW5]; exact setF fb3
          have H5 : Hid (Below w.heap.size w w5) := Lib.hid (by rw [← hW5]; exact H6.out.setCell (by dsimp only; omega) _)
          have R5' := Lib.hid R5
          have HF5 : Hid (ffE g (k + 1) (nd - (k + 1)) = E) := Lib.hid (by rw [HS.out, HC'.out, if_pos rfl])
          clear hW5 R4 b0 b1 b2 b3 fb2 fb3 ci fi e0 R5
          go_wp2
          go_roundw
          case rel => exact ⟨k + 1, by omega, by go_num, HF5.out, R5'.out, by assumption, by assumption, by assumption, by assumption, by assumption, by assumption, H5.out⟩
          case measure => simp [intOf]; omega
        · have hp : k - 1 < nd := by omega
          have e5 := (HX.out.later HB.out).at hp
          have ek : ((k - 1 : Nat) : Int) = (k : Int) - 1 := by omega
          have d0 : decide ((k : Int) > 0) = true := by simp; omega
          have d0' : decide ((0 : Int) < (k : Int)) = true := by simp; omega
          have d0'' : decide (0 < k) = true := by simp; omega
          have hk9 : 0 < k := by omega
          have q0 : (0 : Int) ≤ (k : Int) - 1 := by omega
          have q1 : (k : Int) - 1 < (nd : Int) := by omega
          have q2 : ((k : Int) - 1).toNat = k - 1 := by omega
          clear c0
          by_cases hlt2 : dd (k - 1) < (i : Int)
          · have HC' : Hid (g k = 0) := Lib.hid (by rw [HC.out, if_pos (.inr (by rw [EI.out]; exact hlt2))])
            have d1 : decide ((i : Int) ≤ dd (k - 1)) = false := by simp; omega
            generalize dd (k - 1) = dp at *
            go_quiet (fail)
            obtain ⟨wq, hwq⟩ : ∃ q, q = wr.drewN nq := ⟨_, rfl⟩
            rw [← hwq]
            have b0 : wq.cell? ⟨w.heap.size, 0, none⟩ = some (.int .i64 d.ck) := by rw [hwq]; exact b0
            have b1 : wq.cell? ⟨w.heap.size, 1, none⟩ = some (.slice (some ad) d.n c) := by rw [hwq]; exact b1
            have b2 : wq.cell? ⟨w.heap.size + 1, 0, none⟩ = some (.int .i64 0) := by rw [hwq]; exact b2
            have b3 : wq.cell? ⟨w.heap.size + 1, 1, none⟩ = some (.slice none 0 0) := by rw [hwq]; exact b3
            have fb2 : wq.frozen? ⟨w.heap.size + 1, 0, none⟩ = false := by rw [hwq]; exact fb2
            have fb3 : wq.frozen? ⟨w.heap.size + 1, 1, none⟩ = false := by rw [hwq]; exact fb3
            have R4 : Hid (RowW gt d.n (woC d.t dd k) wq) := Lib.hid (by rw [hwq]; exact fun i hi => R3'.out i hi)
            have H6 : Hid (Below w.heap.size w wq) := Lib.hid (by rw [hwq]; exact below_drewN HB.out _)
            have e0 : wq.cell? (aA.add k) = some (.int .i64 (i : Int)) := by rw [hwq]; exact e0
            have ci := (R4.out i hi).1
            have fi := (R4.out i hi).2
            have zq := World.block_lt_of_cell? _ _ b0
            have zq2 := World.block_lt_of_cell? _ _ b2
            have zq3 := World.block_lt_of_cell? _ _ ci
            dsimp only at zq zq2 zq3
            clear hwq R3'
            go_upto_region 4 with fail
            generalize hW5 : wq.setCell ⟨gt, i, none⟩ (.int .i64 (-1)) = w5 at *
            have R5 : RowW gt d.n (woC d.t dd (k + 1)) w5 := by rw [← hW5]; exact R4.out.put i _ hi (fun j _ => WN.out k i j EI.out)
            have c0 : w5.cell? ⟨w.heap.size, 0, none⟩ = some (.int .i64 d.ck) := by rw [← hW5]; exact setO (.inl (by dsimp only; omega)) b0
            have c1 : w5.cell? ⟨w.heap.size, 1, none⟩ = some (.slice (some ad) d.n c) := by rw [← hW5]; exact setO (.inl (by dsimp only; omega)) b1
            have c2 : w5.cell? ⟨w.heap.size + 1, 0, none⟩ = some (.int .i64 0) := by rw [← hW5]; exact setO (.inl (by dsimp only; omega)) b2
            have c3 : w5.cell? ⟨w.heap.size + 1, 1, none⟩ = some (.slice none 0 0) := by rw [← hW5]; exact setO (.inl (by dsimp only; omega)) b3
            have fc2 : w5.frozen? ⟨w.heap.size + 1, 0, none⟩ = false := by rw [← hW5]; exact setF fb2
            have fc3 : w5.frozen? ⟨w.heap.size + 1, 1, none⟩ = false := by rw [← hW5]; exact setF fb3
            have H5 : Hid (Below w.heap.size w w5) := Lib.hid (by rw [← hW5]; exact H6.out.setCell (by dsimp only; omega) _)
            have R5' := Lib.hid R5
            have HF5 : Hid (ffE g (k + 1) (nd - (k + 1)) = E) := Lib.hid (by rw [HS.out, HC'.out, if_pos rfl])
            clear hW5 R4 b0 b1 b2 b3 fb2 fb3 ci fi e0 R5
            go_wp2
            go_roundw
            case rel => exact ⟨k + 1, by omega, by go_num, HF5.out, R5'.out, by assumption, by assumption, by assumption, by assumption, by assumption, by assumption, H5.out⟩
            case measure => simp [intOf]; omega
          · have HC' : Hid (g k = 9) := Lib.hid (by rw [HC.out, if_neg (by rw [EI.out]; omega)])
            have d1 : decide ((i : Int) ≤ dd (k - 1)) = true := by simp; omega
            generalize dd (k - 1) = dp at *
            have EE : Hid (E = 9) := Lib.hid (by rw [HS.out, HC'.out]; rfl)
            go_quiet (fail)
            obtain ⟨wq, hwq⟩ : ∃ q, q = wr.drewN nq := ⟨_, rfl⟩
            rw [← hwq]
            have H6 : Hid (Below w.heap.size w wq) := Lib.hid (by rw [hwq]; exact below_drewN HB.out _)
            have b2 : wq.cell? ⟨w.heap.size + 1, 0, none⟩ = some (.int .i64 0) := by rw [hwq]; exact b2
            have b3 : wq.cell? ⟨w.heap.size + 1, 1, none⟩ = some (.slice none 0 0) := by rw [hwq]; exact b3
            have fb2 : wq.frozen? ⟨w.heap.size + 1, 0, none⟩ = false := by rw [hwq]; exact fb2
            have fb3 : wq.frozen? ⟨w.heap.size + 1, 1, none⟩ = false := by rw [hwq]; exact fb3
            clear hwq ci fi e0 e5
            go_wp2
            exact bodyPost_ret (v := .tuple #[.agg #[.int .i64 0, .slice none 0 0], .int .i64 9]) (by simp [results, Tryz.results30, go_sem, World.cell?_alloc_past, *]) rfl (by rw [EE.out]; exact LwP.bad (by decide) rfl (by (repeat (first | (with_reducible exact H6.out) | (with_reducible refine Below.setCell ?_ ?_ _) | (with_reducible refine below_alloc_top ?_ _) | (with_reducible refine Below.drew ?_))); all_goals (first | omega | (simp; done) | (simp; omega))))
      · rw [if_neg hin] at hc
        have EE : Hid (E = 6) := Lib.hid (by rw [hs, hc]; rfl)
        have WI : Hid (inB (dd k) 0 ((d.n : Int) - 1) = false) := Lib.hid (by simp [inB]; omega)
        have HW_ := Lib.hid (fun w => within_any (dd k) 0 ((d.n : Int) - 1) w)
        rw [WI.out] at HW_
        clear hin hs hc
        generalize dd k = dk at *
        go_wp2_with (go_at_call 16; (with_reducible refine (HW_.out _).mono ?_); rintro e w' ⟨rfl, rfl⟩)
        exact bodyPost_ret (v := .tuple #[.agg #[.int .i64 0, .slice none 0 0], .int .i64 6]) (by simp [results, Tryz.results30, go_sem, World.cell?_alloc_past, *]) rfl (by rw [EE.out]; exact LwP.bad (by decide) rfl (by (repeat (first | (with_reducible exact HB.out) | (with_reducible refine Below.setCell ?_ ?_ _) | (with_reducible refine below_alloc_top ?_ _) | (with_reducible refine Below.drew ?_))); all_goals (first | omega | (simp; done) | (simp; omega))))
    · have hk' : k = nd := by omega
      have kk : decide ((k : Int) < (nd : Int)) = false := by simp; omega
      have EE : Hid (E = 0) := Lib.hid (by rw [← hff, hk']; exact WE.out)
      have R7 : Hid (RowW gt d.n (woC d.t dd nd) wr) := Lib.hid (by rw [← hk']; exact R3)
      have zg1 := World.block_lt_of_cell? _ _ (R3 0 n0).1
      dsimp only at zg1
      clear R3 hk' hff
      go_wp2
      exact bodyPost_ret (v := .tuple #[.agg #[.int .i64 d.ck, .slice (some ⟨gt, 0, none⟩) d.n cg], .int .i64 0]) (by simp [results, Tryz.results30, go_sem, World.cell?_alloc_past, *]) rfl (by rw [EE.out]; exact LwP.good rfl (by omega) (by simp; omega) ((R7.out.set _ _ _ (by omega)).set _ _ _ (by omega)).at (by (repeat (first | (with_reducible exact HB.out) | (with_reducible refine Below.setCell ?_ ?_ _) | (with_reducible refine below_alloc_top ?_ _) | (with_reducible refine Below.drew ?_))); all_goals (first | omega | (simp; done) | (simp; omega))))
end Go.Proofs.YtkkaomgdlnejcaaGreatDoor
