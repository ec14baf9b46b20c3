/- the reference's sums -/
import Derived.Test.YtnhbmmpjifliaaaGreatDoorVg
namespace Go.Proofs.YtnhbmmpjifliaaaGreatDoor
open Go.RowKit Go.Shelf RayM
set_option linter.unusedSimpArgs false
set_option linter.unusedVariables false
theorem cell_drw {w : World} {a : Addr} {v : Value} (h : w.cell? a = some v) : w.drew.cell? a = some v := h
theorem suE_un (d g : Dl) (hd : d.E = 0) (hg : g.E = 0) (h : d.ck ≠ g.ck) : suE d g = 23 := by
  have e : suE1 d g = 23 := by
    unfold suE1; rw [hd, hg, show (d.ck == g.ck) = false by simpa using h]; rfl
  unfold suE; rw [e]; rfl
theorem suE_ln (d g : Dl) (hd : d.E = 0) (hg : g.E = 0) (h : d.ck = g.ck) (hn : d.n ≠ g.n) : suE d g = 10 := by
  have e : suE1 d g = 10 := by
    unfold suE1; rw [hd, hg, show (d.ck == g.ck) = true by simpa using h, show ((d.n : Int) == (g.n : Int)) = false by simp; omega]; rfl
  unfold suE; rw [e]; rfl
theorem suE_eq (d g : Dl) (hd : d.E = 0) (hg : g.E = 0) (h : d.ck = g.ck) (hn : d.n = g.n) : suE d g = rlE (chT d.t (adF d.t g.t)) d.n := by
  have e : suE1 d g = 0 := (suE1_zero d g).2 ⟨hd, hg, h, hn⟩
  obtain ⟨_, _, tb⟩ := (Dl.E_zero d).1 hd
  unfold suE; rw [if_pos e]
  by_cases q : chB d.t (adF d.t g.t) d.n = true
  · obtain ⟨i, hi, ht, hb⟩ := (chB_iff _ _ _).1 q
    rw [rlE_no _ _ i hi (by unfold chT; rw [if_neg ht]; exact hb)]
    unfold chE; rw [if_pos q]
  · rw [rlE_yes _ _ (fun i hi => ?_)]
    · unfold chE; rw [if_neg q]
    · unfold chT
      by_cases ht : d.t i = -1
      · rw [if_pos ht]; omega
      · rw [if_neg ht]
        by_cases hb : 1000000 < adF d.t g.t i
        · exact absurd ((chB_iff _ _ _).2 ⟨i, hi, ht, hb⟩) q
        · omega
set_option maxRecDepth 100000 in
set_option maxHeartbeats 4000000 in
theorem rAdded_any (d g : Dl) (ad : Addr) (c : Nat) (bd : Addr) (e : Nat) (w : World) (hd : d.E = 0) (hg : g.E = 0) (h : InAt (some ad) d.n d.t w) (k : InAt (some bd) g.n g.t w) :
    Calls Tryz.prog 38 #[.agg #[.int .i64 d.ck, .slice (some ad) d.n c], .agg #[.int .i64 g.ck, .slice (some bd) g.n e]] w fun e w' => chPost d.ck d.t (adF d.t g.t) d.n (suE d g) w e w' := by
  obtain ⟨j0_, ji0, jz0, jz1, jz2⟩ := info_parts infoJ
  have JI0 := Lib.hid ji0; have JZ0 := Lib.hid jz0; have JZ1 := Lib.hid jz1; have JZ2 := Lib.hid jz2
  clear ji0 jz0 jz1 jz2
  have HX := Lib.hid h; clear h
  have HK := Lib.hid k; clear k
  obtain ⟨_, ⟨n0, n1⟩, tb⟩ := (Dl.E_zero d).1 hd
  obtain ⟨_, _, ub⟩ := (Dl.E_zero g).1 hg
  by_cases hck : d.ck = g.ck
  · have c1 : (d.ck != g.ck) = false := by simp [hck]
    by_cases hn : d.n = g.n
    · have c2 : ((d.n : Int) != (g.n : Int)) = false := by simp [hn]
      have TB := Lib.hid tb; have UB := Lib.hid ub; clear tb ub
      obtain ⟨u, hu⟩ : ∃ u, u = chT d.t (adF d.t g.t) := ⟨_, rfl⟩
      have HU := Lib.hid hu
      have SE := suE_eq d g hd hg hck hn
      rw [← hu] at SE
      have CH : Hid (∀ i, u i = if d.t i = -1 then -1 else if g.t i = -1 then -1 else d.t i + g.t i) := Lib.hid (fun i => by
        rw [hu]; unfold chT adF; by_cases q : d.t i = -1
        · rw [if_pos q, if_pos q, q]
        · rw [if_neg q, if_neg q])
      have RL := Lib.hid (fun A c w h => rLawOf_any d.ck A d.n c u w (by omega) h)
      have XS := Lib.hid (fun k => mvs_next u k)
      have X0 : Hid (mvs u 0 = []) := (rfl : mvs u 0 = [])
      have XL := Lib.hid (fun k => mvs_len u k)
      rw [SE]
      generalize rlE u d.n = E at *
      have HD := Lib.hid hd
      have HNN := Lib.hid hn
      have G1 : g.n ≤ 16 := by omega
      clear hu SE hd hg hck hn
      go_enter Tryz.func38, Tryz.ntmps38
      go_wp2
      obtain ⟨w1, hw_w1⟩ : ∃ q, q = (((w.alloc (.cells #[.int .i64 d.ck, .slice (some ad) d.n c] 62)).alloc (.cells #[.int .i64 g.ck, .slice (some bd) g.n e] 62)).alloc (.cells #[.int .i64 0, .slice none 0 0] 62)) := ⟨_, rfl⟩
      rw [← hw_w1]
      have q10 : w1.cell? ⟨w.heap.size, 0, none⟩ = some (.int .i64 d.ck) := by rw [hw_w1]; simp [go_sem]
      have q11 : w1.cell? ⟨w.heap.size, 1, none⟩ = some (.slice (some ad) d.n c) := by rw [hw_w1]; simp [go_sem]
      have q12 : w1.cell? ⟨w.heap.size + 1, 0, none⟩ = some (.int .i64 g.ck) := by rw [hw_w1]; simp [go_sem]
      have q13 : w1.cell? ⟨w.heap.size + 1, 1, none⟩ = some (.slice (some bd) g.n e) := by rw [hw_w1]; simp [go_sem]
      have q14 : w1.cell? ⟨w.heap.size + 1 + 1, 0, none⟩ = some (.int .i64 0) := by rw [hw_w1]; simp [go_sem]
      have q15 : w1.cell? ⟨w.heap.size + 1 + 1, 1, none⟩ = some (.slice none 0 0) := by rw [hw_w1]; simp [go_sem]
      have qf10 : w1.frozen? ⟨w.heap.size + 1 + 1, 0, none⟩ = false := by rw [hw_w1]; simp [go_sem]
      have qf11 : w1.frozen? ⟨w.heap.size + 1 + 1, 1, none⟩ = false := by rw [hw_w1]; simp [go_sem]
      have H1 : Hid (Below w.heap.size w w1) := Lib.hid (by rw [hw_w1]; exact (by repeat (first | exact Below.refl _ _ | refine Below.drew ?_ | refine below_drewN ?_ _ | refine Below.setCell ?_ (by first | omega | (simp; done) | (simp; omega)) _ | refine Below.alloc ?_ (by first | omega | (simp; done) | (simp; omega)) _)))
      have z1 : w1.heap.size = w.heap.size + 3 := by rw [hw_w1]; simp
      clear hw_w1
      go_loopw [6, 7] (fun s6 s7 wr => ∃ (k : Nat) (v : Value), v = s6 ∧ k ≤ d.n ∧ s7 = .int .i64 (k : Int) ∧ wr.ownsRow w1.heap.size 3 1 v k (mvs u k) ∧ Below w1.heap.size w1 wr) (fun _ s7 _ => d.n - (intOf s7).toNat)
      case atStart => exact ⟨0, _, rfl, Nat.zero_le _, rfl, by rw [X0.out]; exact World.ownsRow_nil _ _ _ _, Below.refl _ _⟩
      case round =>
        obtain ⟨k, v, rfl, hk, rfl, hown, hb⟩ := hrel
        have sz := hb.size
        have HB := Lib.hid hb
        have HW : Hid (Below w.heap.size w wr) := Lib.hid (below_then H1.out hb)
        have ag := Lib.hid (fun q e => (hown.lt q e).1)
        have AG : Hid (∀ q, v.ownBlock = some q → w1.heap.size ≤ q) := Lib.hid (fun q e => (hown.lt q e).1)
        have r0 : wr.cell? ⟨w.heap.size, 0, none⟩ = some (.int .i64 d.ck) := cell_later hb q10
        have r1 : wr.cell? ⟨w.heap.size, 1, none⟩ = some (.slice (some ad) d.n c) := cell_later hb q11
        have r2 : wr.cell? ⟨w.heap.size + 1, 0, none⟩ = some (.int .i64 g.ck) := cell_later hb q12
        have r3 : wr.cell? ⟨w.heap.size + 1, 1, none⟩ = some (.slice (some bd) g.n e) := cell_later hb q13
        have r4 : wr.cell? ⟨w.heap.size + 1 + 1, 0, none⟩ = some (.int .i64 0) := cell_later hb q14
        have r5 : wr.cell? ⟨w.heap.size + 1 + 1, 1, none⟩ = some (.slice none 0 0) := cell_later hb q15
        have rf0 : wr.frozen? ⟨w.heap.size + 1 + 1, 0, none⟩ = false := frozen_after hb q14 qf10
        have rf1 : wr.frozen? ⟨w.heap.size + 1 + 1, 1, none⟩ = false := frozen_after hb q15 qf11
        have zr0 := World.block_lt_of_cell? _ _ r0
        dsimp only at zr0
        have zr1 := World.block_lt_of_cell? _ _ r2
        dsimp only at zr1
        have zr2 := World.block_lt_of_cell? _ _ r4
        dsimp only at zr2
        by_cases hlt : k < d.n
        · have e0 := (HX.out.later HW.out).at hlt
          have hlt2 : k < g.n := by have := HNN.out; omega
          have e1 := (HK.out.later HW.out).at hlt2
          have b0 := World.block_lt_of_cell? _ _ ((HX.out.at hlt)); have b1 := World.block_lt_of_cell? _ _ ((HK.out.at hlt2))
          have b2 : (ad.add k).block < w1.heap.size := by omega
          have b3 : (bd.add k).block < w1.heap.size := by omega
          have j0 : (0 : Int) ≤ (k : Int) := Int.natCast_nonneg _
          have j1 : (k : Int) < (d.n : Int) := by omega
          have j2 : (k : Int) < (g.n : Int) := by omega
          have j8 : (k : Int) < 1000 := by omega
          obtain ⟨t0, t1⟩ := TB.out k hlt
          obtain ⟨u0, u1⟩ := UB.out k hlt2
          have CJ := Lib.hid (CH.out k)
          clear hb b0 b1
          generalize d.t k = x at *
          generalize g.t k = y at *
          by_cases hg : x = -1
          · subst hg
            have UJ : Hid (u k = -1) := Lib.hid (by rw [CJ.out, if_pos rfl])
            have bm6 : (k + 1 : Nat) ≤ maxLen := by unfold maxLen; omega
            have BM6 := Lib.hid bm6; clear bm6
            have nb6 : ∀ j u, (#[.int .i64 (-1)] : Array Value).toList[j]? = some u → (wr.alloc (.cells #[.int .i64 (-1)] 3)).cell? ((⟨wr.heap.size, 0, none⟩ : Addr).add j) = some u :=
              World.news_of_block (t := 3) (fr := (0, 0)) (by have h := heap_alloc_new wr (.cells #[.int .i64 (-1)] 3); simpa using h)
            have NB6 := Lib.hid nb6; clear nb6
            go_wp2_with (at_builtin; refine wpList_append_lies _ rfl _ _ _ rfl (w1.heap.size) 3 j0_ _ 1 8 Tryz.underlying60 JI0.out JZ0.out JZ1.out JZ2.out rfl (by omega) v (k) (mvs u k) rfl (hown.alloc _) ⟨wr.heap.size, 0, none⟩ 1 1 [.int .i64 (-1)] rfl rfl NB6.out (by simp [Value.oneCell']) (by omega) BM6.out (by omega) (by simp; omega) (wr.heap.size + 1) (by simp) ?_; intro g6 cap6 w6 hown6 hgrow6 hat6 hlt6)
            have HO6 := Lib.hid hown6; clear hown6
            have HG6 := Lib.hid hgrow6; clear hgrow6 hat6 hlt6
            go_roundw
            case rel => exact ⟨k + 1, _, rfl, by omega, by go_num, by rw [XS.out, UJ.out]; exact HO6.out, (HB.out.alloc (by omega) _).grown HG6.out (by simp; omega) (fun q e => ag.out q e)⟩
            case measure => simp [intOf]; omega
          · have n2 : decide (x < 0) = false := by simp; omega
            by_cases hh : y = -1
            · subst hh
              have UJ : Hid (u k = -1) := Lib.hid (by rw [CJ.out, if_neg hg, if_pos rfl])
              clear hg
              have bm6 : (k + 1 : Nat) ≤ maxLen := by unfold maxLen; omega
              have BM6 := Lib.hid bm6; clear bm6
              have nb6 : ∀ j u, (#[.int .i64 (-1)] : Array Value).toList[j]? = some u → (wr.alloc (.cells #[.int .i64 (-1)] 3)).cell? ((⟨wr.heap.size, 0, none⟩ : Addr).add j) = some u :=
                World.news_of_block (t := 3) (fr := (0, 0)) (by have h := heap_alloc_new wr (.cells #[.int .i64 (-1)] 3); simpa using h)
              have NB6 := Lib.hid nb6; clear nb6
              go_wp2_with (at_builtin; refine wpList_append_lies _ rfl _ _ _ rfl (w1.heap.size) 3 j0_ _ 1 8 Tryz.underlying60 JI0.out JZ0.out JZ1.out JZ2.out rfl (by omega) v (k) (mvs u k) rfl (hown.alloc _) ⟨wr.heap.size, 0, none⟩ 1 1 [.int .i64 (-1)] rfl rfl NB6.out (by simp [Value.oneCell']) (by omega) BM6.out (by omega) (by simp; omega) (wr.heap.size + 1) (by simp) ?_; intro g6 cap6 w6 hown6 hgrow6 hat6 hlt6)
              have HO6 := Lib.hid hown6; clear hown6
              have HG6 := Lib.hid hgrow6; clear hgrow6 hat6 hlt6
              go_roundw
              case rel => exact ⟨k + 1, _, rfl, by omega, by go_num, by rw [XS.out, UJ.out]; exact HO6.out, (HB.out.alloc (by omega) _).grown HG6.out (by simp; omega) (fun q e => ag.out q e)⟩
              case measure => simp [intOf]; omega
            · have UJ : Hid (u k = x + y) := Lib.hid (by rw [CJ.out, if_neg hg, if_neg hh])
              have n3 : decide (y < 0) = false := by simp; omega
              have x0 : 0 ≤ x := by omega
              have y0 : 0 ≤ y := by omega
              have v1 : IntKind.i64.wrap (x + y) = x + y := IntWalk.i64_in _ (by omega)
              have bm6 : (k + 1 : Nat) ≤ maxLen := by unfold maxLen; omega
              have BM6 := Lib.hid bm6; clear bm6
              clear hg hh r0 r2 r4 r5 rf0 rf1
              go_wp2_with fail
              go_region_held3 (fun w' => w'.cell? ⟨w.heap.size, 1, none⟩ = some (.slice (some ad) d.n c) ∧ w'.cell? ⟨w.heap.size + 1, 1, none⟩ = some (.slice (some bd) g.n e) ∧ w'.cell? (ad.add k) = some (.int .i64 x) ∧ w'.cell? (bd.add k) = some (.int .i64 y))
                (first
              | ((go_split_ands; (repeat' apply And.intro) <;> ((repeat (first | (with_reducible assumption) | (with_reducible refine cell_alloc_later ?_ _) | (with_reducible refine cell_drw ?_) | (simp [go_sem, World.cell?_alloc_past, *]; done))); done)))
              | (go_split_ands; (repeat' apply And.intro) <;> (refine World.grownBy.cell hgrow6 (by first | (with_reducible assumption) | (with_reducible exact cell_alloc_later (by with_reducible assumption) _)) (fun e => by have q := AG.out _ e.symm; (try dsimp only at q); omega))))
                ((refine step_append_lies _ (by rfl) _ _ _ (by rfl) w1.heap.size 3 j0_ _ 1 8 Tryz.underlying60 JI0.out JZ0.out JZ1.out JZ2.out rfl (by omega) v k (mvs u k) (by rfl) (by first | exact hown.alloc _ | exact (hown.alloc _).drew) ⟨wr.heap.size, 0, none⟩ 1 1 [.int .i64 (x + y)] (by rfl) (by rfl) (World.news_of_block (cs := #[.int .i64 (x + y)]) (t := 3) (fr := (0, 0)) (heap_alloc_new wr _)) (by simp [Value.oneCell']) (by omega) BM6.out (by omega) (by simp; omega) (wr.heap.size + 1) (by simp) ?_; intro g6 cap6 w6 hown6 hgrow6 hat6 hlt6))
              have HO6 := Lib.hid hown6; clear hown6
              have HG6 := Lib.hid hgrow6; clear hgrow6 hat6 hlt6
              go_wp2
              go_roundw
              case rel => exact ⟨k + 1, _, rfl, by omega, by go_num, by rw [XS.out, UJ.out]; exact HO6.out, by first | exact (HB.out.alloc (by omega) _).drew.grown HG6.out (by simp; omega) (fun q e => ag.out q e) | exact (HB.out.alloc (by omega) _).grown HG6.out (by simp; omega) (fun q e => ag.out q e)⟩
              case measure => simp [intOf]; omega
        · have hk' : k = d.n := by omega
          have kk : decide ((k : Int) < (d.n : Int)) = false := by simp; omega
          subst hk'
          obtain ⟨gb, cg, rfl, hg0, hg1, hR⟩ := own_row hown n0
          have HR := Lib.hid hR
          clear hown hb hR
          go_wp2_with fail
          refine (RL.out _ _ _ HR.out.at).mono ?_
          rintro e_ w2 ⟨A5, n5, c5, rfl, hgd, hbd, hb2⟩
          have s0 : w2.cell? ⟨w.heap.size, 0, none⟩ = some (.int .i64 d.ck) := cell_later hb2 r0
          have s1 : w2.cell? ⟨w.heap.size, 1, none⟩ = some (.slice (some ad) d.n c) := cell_later hb2 r1
          have s2 : w2.cell? ⟨w.heap.size + 1, 0, none⟩ = some (.int .i64 g.ck) := cell_later hb2 r2
          have s3 : w2.cell? ⟨w.heap.size + 1, 1, none⟩ = some (.slice (some bd) g.n e) := cell_later hb2 r3
          have s4 : w2.cell? ⟨w.heap.size + 1 + 1, 0, none⟩ = some (.int .i64 0) := cell_later hb2 r4
          have s5 : w2.cell? ⟨w.heap.size + 1 + 1, 1, none⟩ = some (.slice none 0 0) := cell_later hb2 r5
          have sf0 : w2.frozen? ⟨w.heap.size + 1 + 1, 0, none⟩ = false := frozen_after hb2 r4 rf0
          have sf1 : w2.frozen? ⟨w.heap.size + 1 + 1, 1, none⟩ = false := frozen_after hb2 r5 rf1
          have zs0 := World.block_lt_of_cell? _ _ s0
          dsimp only at zs0
          have zs1 := World.block_lt_of_cell? _ _ s2
          dsimp only at zs1
          have zs2 := World.block_lt_of_cell? _ _ s4
          dsimp only at zs2
          have W2 : Hid (Below w.heap.size w w2) := Lib.hid (below_then HW.out hb2)
          have R2 := Lib.hid (HR.out.later hb2)
          clear hb2
          by_cases hE : E = 0
          · obtain ⟨q1, q2, q3⟩ := hgd hE
            have q3' := q3.symm
            subst q1
            subst q2
            subst q3'
            have HE := Lib.hid hE
            rw [if_pos hE, hE]
            clear hgd hbd hE
            go_wp2
            refine bodyPost_ret (v := .tuple #[.agg #[.int .i64 (d.ck), .slice (some ⟨gb, 0, none⟩) d.n cg], .int .i64 (0)]) (by simp [results, Tryz.results38, go_sem, World.cell?_alloc_past, *]) rfl ?_
            rw [HE.out]
            have qb : Below w.heap.size w ((w2.setCell ⟨w.heap.size + 1 + 1, 0, none⟩ (.int .i64 d.ck)).setCell ⟨w.heap.size + 1 + 1, 1, none⟩ (.slice (some ⟨gb, 0, none⟩) d.n cg)) := (W2.out.setCell (by dsimp only; omega) _).setCell (by dsimp only; omega) _
            have qr := (((R2.out.set (w.heap.size + 1 + 1) 0 (.int .i64 d.ck) (by omega)).set (w.heap.size + 1 + 1) 1 (.slice (some ⟨gb, 0, none⟩) d.n cg) (by omega)).at)
            rw [HU.out] at qr
            exact chPost.good rfl (by simp) (fun a e => by cases e; dsimp only; omega) qr qb
          · obtain ⟨rfl, rfl, rfl⟩ := hbd hE
            have HE := Lib.hid hE
            rw [if_neg hE]
            clear hgd hbd hE
            go_wp2
            exact bodyPost_ret (v := .tuple #[.agg #[.int .i64 (0), .slice none 0 0], .int .i64 (E)]) (by simp [results, Tryz.results38, go_sem, World.cell?_alloc_past, *]) rfl (chPost.bad HE.out rfl (by (repeat (first | (with_reducible exact W2.out) | (with_reducible refine Below.setCell ?_ ?_ _) | (with_reducible refine below_alloc_top ?_ _) | (with_reducible refine Below.drew ?_))); all_goals (first | omega | (simp; done) | (simp; omega))))
    · have c2 : ((d.n : Int) != (g.n : Int)) = true := by simp; omega
      rw [suE_ln d g hd hg hck hn]
      clear hd hg tb ub hn
      go_enter Tryz.func38, Tryz.ntmps38
      go_wp2
      exact bodyPost_ret (v := .tuple #[.agg #[.int .i64 (0), .slice none 0 0], .int .i64 (10)]) (by simp [results, Tryz.results38, go_sem, World.cell?_alloc_past, *]) rfl (chPost.bad (by decide) rfl (by repeat (first | exact Below.refl _ _ | refine Below.drew ?_ | refine below_drewN ?_ _ | refine Below.setCell ?_ (by first | omega | (simp; done) | (simp; omega)) _ | refine Below.alloc ?_ (by first | omega | (simp; done) | (simp; omega)) _)))
  · have c1 : (d.ck != g.ck) = true := by simpa using hck
    rw [suE_un d g hd hg hck]
    clear hd hg tb ub hck
    go_enter Tryz.func38, Tryz.ntmps38
    go_wp2
    exact bodyPost_ret (v := .tuple #[.agg #[.int .i64 (0), .slice none 0 0], .int .i64 (23)]) (by simp [results, Tryz.results38, go_sem, World.cell?_alloc_past, *]) rfl (chPost.bad (by decide) rfl (by repeat (first | exact Below.refl _ _ | refine Below.drew ?_ | refine below_drewN ?_ _ | refine Below.setCell ?_ (by first | omega | (simp; done) | (simp; omega)) _ | refine Below.alloc ?_ (by first | omega | (simp; done) | (simp; omega)) _)))
end Go.Proofs.YtnhbmmpjifliaaaGreatDoor
