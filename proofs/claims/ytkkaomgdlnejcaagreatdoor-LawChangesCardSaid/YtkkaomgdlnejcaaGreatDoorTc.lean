/- Sending, and the reference's Recast -/
import Derived.Test.YtkkaomgdlnejcaaGreatDoorTl
namespace Go.Proofs.YtkkaomgdlnejcaaGreatDoor
open Go.RowKit Go.Shelf RayM
set_option linter.unusedSimpArgs false
set_option linter.unusedVariables false
def snM (d : Dl) : Nat := (sdL d.t d.n).length
/-- what Sending leaves: the numbers, or nothing -/
def snPost (d : Dl) (w : World) (e : Ending) (w' : World) : Prop :=
  ∃ (A : Option Addr) (m c : Nat), e = .returned (.tuple #[.slice A m c, .int .i64 d.E]) ∧ (d.E = 0 → m = snM d ∧ InAt A (snM d) (sdF d.t d.n) w') ∧ (d.E ≠ 0 → m = 0) ∧ Below w.heap.size w w'
set_option maxRecDepth 100000 in
set_option maxHeartbeats 1000000 in
theorem sendingL_any (d : Dl) (B : Option Addr) (e : Nat) (w : World) (h : InAt B d.n d.t w) (hm : d.n ≤ 1000) :
    Calls Tryz.prog 27 #[.agg #[.int .i64 d.ck, .slice B d.n e]] w fun e_ w' => snPost d w e_ w' := by
  have HT := Lib.hid h; clear h
  have HE := Lib.hid (fun w h => lawErr_any d B e w h (by omega))
  have HS : Hid (∀ w', InAt B d.n d.t w' → Calls Tryz.prog 66 #[.agg #[.int .i64 d.ck, .slice B d.n e]] w' fun e_ w'' => ∃ A1 c1, e_ = .returned (.slice A1 (snM d) c1) ∧ InAt A1 (snM d) (sdF d.t d.n) w'' ∧ Below w'.heap.size w' w'') := Lib.hid (fun w' h => (sending_any d.ck B d.n e d.t w' hm h).mono (fun e_ w'' ⟨v, e1, ho, hb⟩ => by
    obtain ⟨A1, c1, rfl, _, hs⟩ := own_ints2 ho
    exact ⟨A1, c1, e1, hs, hb⟩))
  by_cases hE : d.E = 0
  · have HE0 : Hid (d.E = 0) := Lib.hid hE
    rw [hE] at HE
    clear hE
    go_enter Tryz.func27, Tryz.ntmps27
    go_wp2_with fail
    obtain ⟨w1, hw_w1⟩ : ∃ q, q = (w.alloc (.cells #[.int .i64 d.ck, .slice B d.n e] 33)) := ⟨_, rfl⟩
    rw [← hw_w1]
    have q10 : w1.cell? ⟨w.heap.size, 0, none⟩ = some (.int .i64 d.ck) := by rw [hw_w1]; simp [go_sem]
    have q11 : w1.cell? ⟨w.heap.size, 1, none⟩ = some (.slice B d.n e) := by rw [hw_w1]; simp [go_sem]
    have H1 : Hid (Below w.heap.size w w1) := Lib.hid (by rw [hw_w1]; exact (by repeat (first | exact Below.refl _ _ | refine Below.drew ?_ | refine below_drewN ?_ _ | refine Below.setCell ?_ (by first | omega | (simp; done) | (simp; omega)) _ | refine Below.alloc ?_ (by first | omega | (simp; done) | (simp; omega)) _)))
    have z1 : w1.heap.size = w.heap.size + 1 := by rw [hw_w1]; simp
    clear hw_w1
    clear z1
    refine (HE.out _ (HT.out.later H1.out)).mono ?_
    rintro e_ w2 ⟨rfl, hb⟩
    have k2_0 := cell_later hb q10
    have k2_1 := cell_later hb q11
    have B2 : Hid (Below w.heap.size w w2) := Lib.hid (below_then H1.out hb)
    clear q10 q11 H1
    have z2_0 := World.block_lt_of_cell? _ _ k2_0
    (try dsimp only at z2_0)
    clear hb
    go_wp2_with fail
    refine (HS.out _ (HT.out.later B2.out)).mono ?_
    rintro e_ w3 ⟨A1, c1, rfl, is, hb⟩
    have k3_0 := cell_later hb k2_0
    have k3_1 := cell_later hb k2_1
    have B3 : Hid (Below w.heap.size w w3) := Lib.hid (below_then B2.out hb)
    clear k2_0 k2_1 B2
    have z3_0 := World.block_lt_of_cell? _ _ k3_0
    (try dsimp only at z3_0)
    clear hb
    have IS := Lib.hid is
    clear is
    go_wp2
    exact bodyPost_ret (v := .tuple #[.slice A1 (snM d) c1, .int .i64 0]) (by simp [results, Tryz.results27, go_sem, *]) rfl (by
      unfold snPost; rw [HE0.out]; exact ⟨A1, _, c1, rfl, fun _ => ⟨rfl, IS.out⟩, fun q => absurd rfl q, (by (repeat (first | (with_reducible exact B3.out) | (with_reducible refine Below.setCell ?_ ?_ _) | (with_reducible refine below_alloc_top ?_ _) | (with_reducible refine Below.drew ?_))); all_goals (first | omega | (simp; done) | (simp; omega)))⟩)
  · have NE := Lib.hid hE
    have n1 : (d.E != 0) = true := by simpa using hE
    clear hE
    go_enter Tryz.func27, Tryz.ntmps27
    go_wp2_with fail
    obtain ⟨w1, hw_w1⟩ : ∃ q, q = (w.alloc (.cells #[.int .i64 d.ck, .slice B d.n e] 33)) := ⟨_, rfl⟩
    rw [← hw_w1]
    have q10 : w1.cell? ⟨w.heap.size, 0, none⟩ = some (.int .i64 d.ck) := by rw [hw_w1]; simp [go_sem]
    have q11 : w1.cell? ⟨w.heap.size, 1, none⟩ = some (.slice B d.n e) := by rw [hw_w1]; simp [go_sem]
    have H1 : Hid (Below w.heap.size w w1) := Lib.hid (by rw [hw_w1]; exact (by repeat (first | exact Below.refl _ _ | refine Below.drew ?_ | refine below_drewN ?_ _ | refine Below.setCell ?_ (by first | omega | (simp; done) | (simp; omega)) _ | refine Below.alloc ?_ (by first | omega | (simp; done) | (simp; omega)) _)))
    have z1 : w1.heap.size = w.heap.size + 1 := by rw [hw_w1]; simp
    clear hw_w1
    clear z1
    refine (HE.out _ (HT.out.later H1.out)).mono ?_
    rintro e_ w2 ⟨rfl, hb⟩
    have k2_0 := cell_later hb q10
    have k2_1 := cell_later hb q11
    have B2 : Hid (Below w.heap.size w w2) := Lib.hid (below_then H1.out hb)
    clear q10 q11 H1
    have z2_0 := World.block_lt_of_cell? _ _ k2_0
    (try dsimp only at z2_0)
    clear hb
    go_wp2
    exact bodyPost_ret (v := .tuple #[.slice none 0 0, .int .i64 d.E]) (by simp [results, Tryz.results27, go_sem, *]) rfl ⟨none, 0, 0, rfl, fun q => absurd q NE.out, fun _ => rfl, (by (repeat (first | (with_reducible exact B2.out) | (with_reducible refine Below.setCell ?_ ?_ _) | (with_reducible refine below_alloc_top ?_ _) | (with_reducible refine Below.drew ?_))); all_goals (first | omega | (simp; done) | (simp; omega)))⟩
set_option maxRecDepth 100000 in
set_option maxHeartbeats 4000000 in
theorem rRecast_any (d : Dl) (k : Int) (ad : Addr) (c : Nat) (w : World) (hE : d.E = 0) (k0 : 1 ≤ k) (k1 : k ≤ 1000000) (h : InAt (some ad) d.n d.t w) :
    Calls Tryz.prog 32 #[.agg #[.int .i64 d.ck, .slice (some ad) d.n c], .int .i64 k] w fun e_ w' => LwP k (chT d.t (rcF d k)) d.n (rcE d k) w e_ w' := by
  obtain ⟨j0_, ji0, jz0, jz1, jz2⟩ := info_parts infoJ
  have JI0 := Lib.hid ji0; have JZ0 := Lib.hid jz0; have JZ1 := Lib.hid jz1; have JZ2 := Lib.hid jz2
  clear ji0 jz0 jz1 jz2
  have HX := Lib.hid h; clear h
  obtain ⟨⟨q0, q1⟩, ⟨n0, n1⟩, tb⟩ := (Dl.E_zero d).1 hE
  have EF : rcE d k = rlE (chT d.t (rcF d k)) d.n := by
    unfold rcE; rw [if_pos ((rcE1_zero d k).2 ⟨hE, k0, k1⟩), ch_rl]
  have RL := Lib.hid (fun A c w h => rLawOf_any k A d.n c (chT d.t (rcF d k)) w (by omega) h)
  have RJ := Lib.hid (fun i (hi : i < d.n) w => by
    obtain ⟨t0, t1⟩ := tb i hi
    have b := tick_bounds (d.t i) d.ck t0 t1 q0 q1
    exact rRound_any (d.t i * d.ck) k w (by omega) (by omega) k0 k1)
  have TB : Hid (∀ i, i < d.n → (-1 ≤ d.t i ∧ d.t i ≤ 1000000) ∧ (-1000000 ≤ d.t i * d.ck ∧ d.t i * d.ck ≤ 1000000000000)) := Lib.hid (fun i hi => ⟨tb i hi, tick_bounds (d.t i) d.ck (tb i hi).1 (tb i hi).2 q0 q1⟩)
  rw [EF]
  have UJ : Hid (∀ i, chT d.t (rcF d k) i = if d.t i = -1 then -1 else (2 * (d.t i * d.ck) + k) / (2 * k)) := Lib.hid (fun i => by
    unfold chT rcF
    by_cases q : d.t i = -1
    · rw [if_pos q, if_pos q, q]
    · rw [if_neg q, if_neg q])
  generalize rlE (chT d.t (rcF d k)) d.n = E at *
  generalize chT d.t (rcF d k) = u at *
  have YT := Lib.hid (fun k => mvs_succ u k)
  have Y0 : Hid (mvs u 0 = []) := (rfl : mvs u 0 = [])
  have YL := Lib.hid (fun k => mvs_len u k)
  clear hE EF tb
  go_enter Tryz.func32, Tryz.ntmps32
  go_wp2_with fail
  obtain ⟨w1, hw_w1⟩ : ∃ q, q = ((w.alloc (.cells #[.int .i64 d.ck, .slice (some ad) d.n c] 33)).alloc (.cells #[.int .i64 0, .slice none 0 0] 33)) := ⟨_, rfl⟩
  rw [← hw_w1]
  have q10 : w1.cell? ⟨w.heap.size, 0, none⟩ = some (.int .i64 d.ck) := by rw [hw_w1]; simp [go_sem]
  have q11 : w1.cell? ⟨w.heap.size, 1, none⟩ = some (.slice (some ad) d.n c) := by rw [hw_w1]; simp [go_sem]
  have q12 : w1.cell? ⟨w.heap.size + 1, 0, none⟩ = some (.int .i64 0) := by rw [hw_w1]; simp [go_sem]
  have q13 : w1.cell? ⟨w.heap.size + 1, 1, none⟩ = some (.slice none 0 0) := by rw [hw_w1]; simp [go_sem]
  have qf10 : w1.frozen? ⟨w.heap.size + 1, 0, none⟩ = false := by rw [hw_w1]; simp [go_sem]
  have qf11 : w1.frozen? ⟨w.heap.size + 1, 1, none⟩ = false := by rw [hw_w1]; simp [go_sem]
  have H1 : Hid (Below w.heap.size w w1) := Lib.hid (by rw [hw_w1]; exact (by repeat (first | exact Below.refl _ _ | refine Below.drew ?_ | refine below_drewN ?_ _ | refine Below.setCell ?_ (by first | omega | (simp; done) | (simp; omega)) _ | refine Below.alloc ?_ (by first | omega | (simp; done) | (simp; omega)) _)))
  have z1 : w1.heap.size = w.heap.size + 2 := by rw [hw_w1]; simp
  clear hw_w1
  have zw1 : w.heap.size + 1 < w1.heap.size := by omega
  clear z1
  go_wp2_with fail
  go_loopw [6, 7] (fun s6 s7 wr => ∃ (j : Nat) (v : Value), v = s6 ∧ j ≤ d.n ∧ s7 = .int .i64 (j : Int) ∧ wr.ownsRow w1.heap.size 3 1 v j (mvs u j) ∧ Below w1.heap.size w1 wr) (fun _ s7 _ => d.n - (intOf s7).toNat)
  case atStart => exact ⟨0, _, rfl, Nat.zero_le _, rfl, by rw [Y0.out]; exact World.ownsRow_nil _ _ _ _, Below.refl _ _⟩
  case round =>
    obtain ⟨j, v, rfl, hj, rfl, hown, hb⟩ := hrel
    have sz := hb.size
    have HBq := Lib.hid hb
    have HWq : Hid (Below w.heap.size w wr) := Lib.hid (below_then H1.out hb)
    have ag := Lib.hid (fun q e => (hown.lt q e).1)
    have AG : Hid (∀ q, v.ownBlock = some q → w1.heap.size ≤ q) := Lib.hid (fun q e => (hown.lt q e).1)
    have r0 : wr.cell? ⟨w.heap.size, 0, none⟩ = some (.int .i64 d.ck) := cell_later hb q10
    have r1 : wr.cell? ⟨w.heap.size, 1, none⟩ = some (.slice (some ad) d.n c) := cell_later hb q11
    have r2 : wr.cell? ⟨w.heap.size + 1, 0, none⟩ = some (.int .i64 0) := cell_later hb q12
    have r3 : wr.cell? ⟨w.heap.size + 1, 1, none⟩ = some (.slice none 0 0) := cell_later hb q13
    have rf0 : wr.frozen? ⟨w.heap.size + 1, 0, none⟩ = false := frozen_after hb q12 qf10
    have rf1 : wr.frozen? ⟨w.heap.size + 1, 1, none⟩ = false := frozen_after hb q13 qf11
    have zr0 := World.block_lt_of_cell? _ _ r0
    dsimp only at zr0
    have zr2 := World.block_lt_of_cell? _ _ r2
    dsimp only at zr2
    by_cases hlt : j < d.n
    · have e0 := (HX.out.later HWq.out).at hlt
      have j0 : (0 : Int) ≤ (j : Int) := Int.natCast_nonneg _
      have j1 : (j : Int) < (d.n : Int) := by omega
      have j8 : (j : Int) < 1000 := by omega
      have zad := World.block_lt_of_cell? _ _ ((HX.out.later H1.out).at hlt)
      (try dsimp only at zad)
      obtain ⟨⟨b0, b1⟩, b2, b3⟩ := TB.out j hlt
      have RK := Lib.hid (fun w => RJ.out j hlt w)
      have DJ := Lib.hid (UJ.out j)
      have bm6 : (j + 1 : Nat) ≤ maxLen := by unfold maxLen; omega
      have BM6 := Lib.hid bm6; clear bm6
      clear hb
      generalize d.t j = x at *
      by_cases hg : x = -1
      · subst hg
        have DD : Hid (u j = -1) := Lib.hid (by rw [DJ.out, if_pos rfl])
        clear RK DJ b0 b1 b2 b3
        have nb6 : ∀ j u, (#[Value.int .i64 (-1)] : Array Value).toList[j]? = some u → (wr.alloc (.cells #[.int .i64 (-1)] 3)).cell? ((⟨wr.heap.size, 0, none⟩ : Addr).add j) = some u :=
          World.news_of_block (t := 3) (fr := (0, 0)) (by have h := heap_alloc_new wr (.cells #[.int .i64 (-1)] 3); simpa using h)
        have NB6 := Lib.hid nb6; clear nb6
        go_wp2_with (at_builtin; refine wpList_append_lies _ rfl _ _ _ rfl w1.heap.size 3 j0_ _ 1 8 Tryz.underlying31 JI0.out JZ0.out JZ1.out JZ2.out rfl (by omega) v j (mvs u j) rfl (hown.alloc _) ⟨wr.heap.size, 0, none⟩ 1 1 [.int .i64 (-1)] rfl rfl NB6.out (by simp [Value.oneCell']) (by omega) BM6.out (by omega) (by simp; omega) (wr.heap.size + 1) (by simp) ?_; intro g6 cap6 w6 hown6 hgrow6 hat6 hlt6)
        have HO6 := Lib.hid hown6; clear hown6
        have HG6 := Lib.hid hgrow6; clear hgrow6 hat6 hlt6
        go_roundw
        case rel => exact ⟨j + 1, _, rfl, by omega, by go_num, by rw [YT.out, DD.out]; exact HO6.out, by first | exact (HBq.out.alloc (by omega) _).drew.grown HG6.out (by simp; omega) (fun q e => ag.out q e) | exact (HBq.out.alloc (by omega) _).grown HG6.out (by simp; omega) (fun q e => ag.out q e)⟩
        case measure => simp [intOf]; omega
      · obtain ⟨dj, hdj⟩ : ∃ dj, dj = (2 * (x * d.ck) + k) / (2 * k) := ⟨_, rfl⟩
        have DD : Hid (u j = dj) := Lib.hid (by rw [DJ.out, if_neg hg, hdj])
        rw [← hdj] at RK
        have n9 : decide (x < 0) = false := by simp; omega
        have v1 : IntKind.i64.wrap (x * d.ck) = x * d.ck := IntWalk.i64_in _ (by omega)
        clear hdj hg DJ rf0 rf1
        go_wp2_with fail
        go_region_held3 (fun w' => w'.cell? ⟨w.heap.size, 0, none⟩ = some (.int .i64 d.ck) ∧ w'.cell? ⟨w.heap.size, 1, none⟩ = some (.slice (some ad) d.n c) ∧ w'.cell? (ad.add j) = some (.int .i64 x))
            (first
              | ((go_split_ands; (repeat' apply And.intro) <;> ((repeat (first | (with_reducible assumption) | (with_reducible refine cell_alloc_later ?_ _) | (with_reducible refine cell_drw2 ?_) | (simp [go_sem, World.cell?_alloc_past, *]; done))); done)))
              | (go_split_ands; (repeat' apply And.intro) <;> (refine World.grownBy.cell hgrow6 (by first | (with_reducible assumption) | (with_reducible exact cell_alloc_later (by with_reducible assumption) _)) (fun e => by have q := AG.out _ e.symm; (try dsimp only at q); omega))))
            (first | (go_at_call 47; (with_reducible refine (RK.out _).mono ?_); rintro e w' ⟨rfl, rfl⟩) | (refine step_append_lies _ (by rfl) _ _ _ (by rfl) w1.heap.size 3 j0_ _ 1 8 Tryz.underlying31 JI0.out JZ0.out JZ1.out JZ2.out rfl (by omega) v j (mvs u j) (by rfl) (by first | exact hown.alloc _ | exact (hown.alloc _).drew) ⟨wr.heap.size, 0, none⟩ 1 1 [.int .i64 dj] (by rfl) (by rfl) (World.news_of_block (cs := #[.int .i64 dj]) (t := 3) (fr := (0, 0)) (heap_alloc_new wr _)) (by simp [Value.oneCell']) (by omega) BM6.out (by omega) (by simp; omega) (wr.heap.size + 1) (by simp) ?_; intro g6 cap6 w6 hown6 hgrow6 hat6 hlt6))
        have HO6 := Lib.hid hown6; clear hown6
        have HG6 := Lib.hid hgrow6; clear hgrow6 hat6 hlt6
        go_wp2
        go_roundw
        case rel => exact ⟨j + 1, _, rfl, by omega, by go_num, by rw [YT.out, DD.out]; exact HO6.out, by first | exact (HBq.out.alloc (by omega) _).drew.grown HG6.out (by simp; omega) (fun q e => ag.out q e) | exact (HBq.out.alloc (by omega) _).grown HG6.out (by simp; omega) (fun q e => ag.out q e)⟩
        case measure => simp [intOf]; omega
    · have hj' : j = d.n := by omega
      have kj : decide ((j : Int) < (d.n : Int)) = false := by simp; omega
      subst hj'
      obtain ⟨gd, cd, rfl, hd0, hd1, hD⟩ := own_row hown n0
      have HD := Lib.hid hD
      clear hown hb hD
      go_wp2_with fail
      refine (RL.out _ _ _ HD.out.at).mono ?_
      rintro e_ w2 ⟨A5, n5, c5, rfl, hgd, hbd, hb2⟩
      have t0 : w2.cell? ⟨w.heap.size, 0, none⟩ = some (.int .i64 d.ck) := cell_later hb2 r0
      have t1 : w2.cell? ⟨w.heap.size, 1, none⟩ = some (.slice (some ad) d.n c) := cell_later hb2 r1
      have t2 : w2.cell? ⟨w.heap.size + 1, 0, none⟩ = some (.int .i64 0) := cell_later hb2 r2
      have t3 : w2.cell? ⟨w.heap.size + 1, 1, none⟩ = some (.slice none 0 0) := cell_later hb2 r3
      have tf0 : w2.frozen? ⟨w.heap.size + 1, 0, none⟩ = false := frozen_after hb2 r2 rf0
      have tf1 : w2.frozen? ⟨w.heap.size + 1, 1, none⟩ = false := frozen_after hb2 r3 rf1
      have zt0 := World.block_lt_of_cell? _ _ t0
      dsimp only at zt0
      have zt2 := World.block_lt_of_cell? _ _ t2
      dsimp only at zt2
      have W2 : Hid (Below w.heap.size w w2) := Lib.hid (below_then HWq.out hb2)
      have R2 := Lib.hid (HD.out.later hb2)
      have zz := hb2.size
      clear hb2
      by_cases hE : E = 0
      · obtain ⟨p1, p2, p3⟩ := hgd hE
        have p3' := p3.symm
        subst p1
        subst p2
        subst p3'
        have HE := Lib.hid hE
        rw [if_pos hE, hE]
        clear hgd hbd hE
        go_wp2
        refine bodyPost_ret (v := .tuple #[.agg #[.int .i64 (k), .slice (some ⟨gd, 0, none⟩) d.n cd], .int .i64 (0)]) (by simp [results, Tryz.results32, go_sem, World.cell?_alloc_past, *]) rfl ?_
        rw [HE.out]
        have qb : Below w.heap.size w ((w2.setCell ⟨w.heap.size + 1, 0, none⟩ (.int .i64 k)).setCell ⟨w.heap.size + 1, 1, none⟩ (.slice (some ⟨gd, 0, none⟩) d.n cd)) := (W2.out.setCell (by dsimp only; omega) _).setCell (by dsimp only; omega) _
        exact LwP.good rfl (by omega) (by simp; omega) ((R2.out.set _ _ _ (by omega)).set _ _ _ (by omega)).at qb
      · obtain ⟨rfl, rfl, rfl⟩ := hbd hE
        have HE := Lib.hid hE
        rw [if_neg hE]
        clear hgd hbd hE
        go_wp2
        exact bodyPost_ret (v := .tuple #[.agg #[.int .i64 (0), .slice none 0 0], .int .i64 (E)]) (by simp [results, Tryz.results32, go_sem, World.cell?_alloc_past, *]) rfl (LwP.bad HE.out rfl (by (repeat (first | (with_reducible exact W2.out) | (with_reducible refine Below.setCell ?_ ?_ _) | (with_reducible refine below_alloc_top ?_ _) | (with_reducible refine Below.drew ?_))); all_goals (first | omega | (simp; done) | (simp; omega))))
end Go.Proofs.YtkkaomgdlnejcaaGreatDoor
