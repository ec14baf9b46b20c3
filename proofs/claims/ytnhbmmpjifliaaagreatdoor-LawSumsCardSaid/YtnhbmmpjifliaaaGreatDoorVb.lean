/- laws less their least delay -/
import Derived.Test.YtnhbmmpjifliaaaGreatDoorVa
namespace Go.Proofs.YtnhbmmpjifliaaaGreatDoor
open Go.RowKit Go.Shelf RayM
set_option linter.unusedSimpArgs false
set_option linter.unusedVariables false
set_option maxRecDepth 100000 in
set_option maxHeartbeats 1000000 in
theorem normalised_any (d : Dl) (A : Option Addr) (c : Nat) (w : World) (h : InAt A d.n d.t w) (hm : d.n ≤ 9223372036854775807) :
    Calls Tryz.prog 30 #[.agg #[.int .i64 d.ck, .slice A d.n c]] w fun e w' => chPost d.ck d.t (noF d) d.n (noE d) w e w' := by
  have HX := Lib.hid h; clear h
  have HL := Lib.hid (fun w h => lawErr_any d A c w h hm)
  by_cases hE : d.E = 0
  · obtain ⟨_, ⟨n0, n1⟩, tb⟩ := (Dl.E_zero d).1 hE
    have HS := Lib.hid (fun w h => sending_any d.ck A d.n c d.t w (by omega) h)
    have SG := Lib.hid (fun j hj => noX_in d j hj)
    have SM : noM d ≤ 16 := by have := sdL_len d.t d.n; unfold noM; omega
    have HM : Hid ((sdL d.t d.n).length = noM d) := Lib.hid rfl
    have LO : Hid (mnL (noX d) (noM d) = noL d) := Lib.hid rfl
    have LB := Lib.hid (fun q => noL_bounds d hE q)
    have HC : Hid (noM d ≠ 0 → ∀ ad Bl w, InAt (some ad) d.n d.t w → w.cell? ⟨Bl, 0, none⟩ = some (.int .i64 (noL d)) → Calls Tryz.prog 72 #[.agg #[.int .i64 d.ck, .slice (some ad) d.n c], .func (.func 76) #[] #[.pointer (some ⟨Bl, 0, none⟩)]] w fun e w' => chPost d.ck d.t (noF d) d.n 0 w e w') := Lib.hid (fun q ad Bl w h hl => by
      have := changed_norm d.ck ad d.n c d.t (noF d) Bl w n0 n1 h (fun i hi _ W hb => norm1_any i (d.t i) (noL d) Bl W (cell_later hb hl) (tb i hi).1 (tb i hi).2 (noL_bounds d hE q).1 (noL_bounds d hE q).2)
      rw [no_chE d hE q] at this
      exact this)
    have e1 : noE d = if noM d = 0 then 12 else 0 := by unfold noE; rw [if_pos hE]
    have EQ1 := Lib.hid e1
    rw [hE] at HL
    have HN := Lib.hid n0
    generalize noE d = vE at *
    generalize noM d = m at *
    generalize noX d = X at *
    generalize noL d = lo at *
    generalize noF d = f at *
    have XS := Lib.hid (fun k => mvs_next X k)
    have X0 : Hid (mvs X 0 = []) := (rfl : mvs X 0 = [])
    have XL := Lib.hid (fun k => mvs_len X k)
    clear hE e1 tb
    obtain ⟨ad, hA⟩ := HX.out.some HN.out
    subst hA
    obtain ⟨j0_, ji0, jz0, jz1, jz2⟩ := info_parts infoJ
    have JI0 := Lib.hid ji0; have JZ0 := Lib.hid jz0; have JZ1 := Lib.hid jz1; have JZ2 := Lib.hid jz2
    clear ji0 jz0 jz1 jz2
    go_enter Tryz.func30, Tryz.ntmps30
    go_wp2_with fail
    refine (HL.out _ (HX.out.later (by repeat (first | exact Below.refl _ _ | refine Below.drew ?_ | refine below_drewN ?_ _ | refine Below.setCell ?_ (by first | omega | (simp; done) | (simp; omega)) _ | refine Below.alloc ?_ (by first | omega | (simp; done) | (simp; omega)) _)))).mono ?_
    rintro e w1 ⟨rfl, hb1⟩
    have qw10 : w1.cell? ⟨w.heap.size, 0, none⟩ = some (.int .i64 d.ck) := cell_later hb1 (by simp [go_sem])
    have qw11 : w1.cell? ⟨w.heap.size, 1, none⟩ = some (.slice (some ad) d.n c) := cell_later hb1 (by simp [go_sem])
    have qw12 : w1.cell? ⟨w.heap.size + 1, 0, none⟩ = some (.int .i64 0) := cell_later hb1 (by simp [go_sem])
    have qw13 : w1.cell? ⟨w.heap.size + 1, 1, none⟩ = some (.slice none 0 0) := cell_later hb1 (by simp [go_sem])
    have qw1f0 : w1.frozen? ⟨w.heap.size + 1, 0, none⟩ = false := frozen_after hb1 (v := .int .i64 0) (by simp [go_sem]) (by simp [go_sem])
    have qw1f1 : w1.frozen? ⟨w.heap.size + 1, 1, none⟩ = false := frozen_after hb1 (v := .slice none 0 0) (by simp [go_sem]) (by simp [go_sem])
    have zqw1_0 := World.block_lt_of_cell? _ _ qw10
    dsimp only at zqw1_0
    have zqw1_2 := World.block_lt_of_cell? _ _ qw12
    dsimp only at zqw1_2
    have H1 : Hid (Below w.heap.size w w1) := Lib.hid (below_after (by repeat (first | exact Below.refl _ _ | refine Below.drew ?_ | refine below_drewN ?_ _ | refine Below.setCell ?_ (by first | omega | (simp; done) | (simp; omega)) _ | refine Below.alloc ?_ (by first | omega | (simp; done) | (simp; omega)) _)) hb1 (by first | omega | (simp; done) | (simp; omega))); clear hb1
    go_wp2_with fail
    refine (HS.out _ (HX.out.later H1.out)).mono ?_
    rintro e w2 ⟨v2, rfl, hown2, hb2⟩
    have qw20 : w2.cell? ⟨w.heap.size, 0, none⟩ = some (.int .i64 d.ck) := cell_later hb2 (by simp [go_sem, World.cell?_alloc_past, World.frozen?_alloc_past, *])
    have qw21 : w2.cell? ⟨w.heap.size, 1, none⟩ = some (.slice (some ad) d.n c) := cell_later hb2 (by simp [go_sem, World.cell?_alloc_past, World.frozen?_alloc_past, *])
    have qw22 : w2.cell? ⟨w.heap.size + 1, 0, none⟩ = some (.int .i64 0) := cell_later hb2 (by simp [go_sem, World.cell?_alloc_past, World.frozen?_alloc_past, *])
    have qw23 : w2.cell? ⟨w.heap.size + 1, 1, none⟩ = some (.slice none 0 0) := cell_later hb2 (by simp [go_sem, World.cell?_alloc_past, World.frozen?_alloc_past, *])
    have qw2f0 : w2.frozen? ⟨w.heap.size + 1, 0, none⟩ = false := frozen_after hb2 (v := .int .i64 0) (by simp [go_sem, World.cell?_alloc_past, World.frozen?_alloc_past, *]) (by simp [go_sem, World.cell?_alloc_past, World.frozen?_alloc_past, *])
    have qw2f1 : w2.frozen? ⟨w.heap.size + 1, 1, none⟩ = false := frozen_after hb2 (v := .slice none 0 0) (by simp [go_sem, World.cell?_alloc_past, World.frozen?_alloc_past, *]) (by simp [go_sem, World.cell?_alloc_past, World.frozen?_alloc_past, *])
    have zqw2_0 := World.block_lt_of_cell? _ _ qw20
    dsimp only at zqw2_0
    have zqw2_2 := World.block_lt_of_cell? _ _ qw22
    dsimp only at zqw2_2
    have H2 : Hid (Below w.heap.size w w2) := Lib.hid (below_then (by (repeat (first | (with_reducible exact H1.out) | (with_reducible refine Below.setCell ?_ ?_ _) | (with_reducible refine below_alloc_top ?_ _) | (with_reducible refine Below.drew ?_))); all_goals (first | omega | (simp; done) | (simp; omega))) hb2); clear hb2
    rw [HM.out] at hown2
    obtain ⟨A6, c6, rfl, hz6, I6⟩ := own_ints2 hown2
    have I6' := Lib.hid I6
    have zz2 := H2.out.size
    clear hown2 hz6 I6
    go_wp2_with fail
    go_loopw [5, 18] (fun s5 s18 wr => ∃ (k : Nat) (v : Value), v = s5 ∧ k ≤ m ∧ s18 = .int .i64 (k : Int) ∧ wr.ownsRow w2.heap.size 3 1 v k (mvs X k) ∧ Below w2.heap.size w2 wr) (fun _ s18 _ => m - (intOf s18).toNat)
    case atStart => exact ⟨0, _, rfl, Nat.zero_le _, rfl, by rw [X0.out]; exact World.ownsRow_nil _ _ _ _, Below.refl _ _⟩
    case round =>
      obtain ⟨k, v, rfl, hk, rfl, hown, hb⟩ := hrel
      have sz := hb.size
      have HB := Lib.hid hb
      have HW : Hid (Below w.heap.size w wr) := Lib.hid (Below.trans H2.out (hb.mono H2.out.size))
      have ag := Lib.hid (fun q e => (hown.lt q e).1)
      have r0 : wr.cell? ⟨w.heap.size, 0, none⟩ = some (.int .i64 d.ck) := cell_later hb qw20
      have r1 : wr.cell? ⟨w.heap.size, 1, none⟩ = some (.slice (some ad) d.n c) := cell_later hb qw21
      have r2 : wr.cell? ⟨w.heap.size + 1, 0, none⟩ = some (.int .i64 0) := cell_later hb qw22
      have r3 : wr.cell? ⟨w.heap.size + 1, 1, none⟩ = some (.slice none 0 0) := cell_later hb qw23
      have rf0 : wr.frozen? ⟨w.heap.size + 1, 0, none⟩ = false := frozen_after hb qw22 qw2f0
      have rf1 : wr.frozen? ⟨w.heap.size + 1, 1, none⟩ = false := frozen_after hb qw23 qw2f1
      have zr0 := World.block_lt_of_cell? _ _ r0
      dsimp only at zr0
      have zr1 := World.block_lt_of_cell? _ _ r2
      dsimp only at zr1
      by_cases hlt : k < m
      · obtain ⟨ad6, rfl⟩ := I6'.out.some (by omega)
        obtain ⟨i, ei, hi, _, ex⟩ := SG.out k hlt
        have e0 := (I6'.out.later hb).at hlt
        rw [ei] at e0
        have e1 := (HX.out.later HW.out).at hi
        rw [← ex] at e1
        have j0 : (0 : Int) ≤ (k : Int) := Int.natCast_nonneg _
        have j1 : (k : Int) < (m : Int) := by omega
        have j8 : (k : Int) < 1000 := by omega
        have i0 : (0 : Int) ≤ (i : Int) := Int.natCast_nonneg _
        have i1 : (i : Int) < (d.n : Int) := by omega
        clear hb ei ex
        have bm6 : (k + 1 : Nat) ≤ maxLen := by unfold maxLen; omega
        have BM6 := Lib.hid bm6; clear bm6
        have nb6 : ∀ j u, (#[.int .i64 (X k)] : Array Value).toList[j]? = some u → (wr.alloc (.cells #[.int .i64 (X k)] 3)).cell? ((⟨wr.heap.size, 0, none⟩ : Addr).add j) = some u :=
          World.news_of_block (t := 3) (fr := (0, 0)) (by have h := heap_alloc_new wr (.cells #[.int .i64 (X k)] 3); simpa using h)
        have NB6 := Lib.hid nb6; clear nb6
        go_wp2_with (at_builtin; refine wpList_append_lies _ rfl _ _ _ rfl w2.heap.size 3 j0_ _ 1 8 Tryz.underlying60 JI0.out JZ0.out JZ1.out JZ2.out rfl (by omega) v (k) (mvs X k) rfl (hown.alloc _) ⟨wr.heap.size, 0, none⟩ 1 1 [.int .i64 (X k)] rfl rfl NB6.out (by simp [Value.oneCell']) (by omega) BM6.out (by omega) (by simp; omega) (wr.heap.size + 1) (by simp) ?_; intro g6 cap6 w6 hown6 hgrow6 hat6 hlt6)
        have HO6 := Lib.hid hown6; clear hown6
        have HG6 := Lib.hid hgrow6; clear hgrow6 hat6 hlt6
        go_roundw
        case rel => exact ⟨k + 1, _, rfl, by omega, by go_num, by rw [XS.out]; exact HO6.out, (HB.out.alloc (by omega) _).grown HG6.out (by simp; omega) (fun q e => ag.out q e)⟩
        case measure => simp [intOf]; omega
      · have hk' : k = m := by omega
        have kk : decide ((k : Int) < (m : Int)) = false := by simp; omega
        subst hk'
        obtain ⟨A7, c7, rfl, _, I7⟩ := own_ints2 hown
        clear hown hb
        by_cases h0 : k = 0
        · have b0 : ((k : Int) == 0) = true := by simp; omega
          have q1 := EQ1.out
          rw [if_pos h0] at q1
          have Q1 := Lib.hid q1
          clear h0 q1 I7
          go_wp2
          exact bodyPost_ret (v := .tuple #[.agg #[.int .i64 (0), .slice none 0 0], .int .i64 (12)]) (by simp [results, Tryz.results30, go_sem, World.cell?_alloc_past, *]) rfl (by rw [Q1.out]; exact chPost.bad (by decide) rfl (by (repeat (first | (with_reducible exact HW.out) | (with_reducible refine Below.setCell ?_ ?_ _) | (with_reducible refine below_alloc_top ?_ _) | (with_reducible refine Below.drew ?_))); all_goals (first | omega | (simp; done) | (simp; omega))))
        · have b0 : ((k : Int) == 0) = false := by simp; omega
          have q1 := EQ1.out
          rw [if_neg h0] at q1
          have Q1 := Lib.hid q1
          have HMN := Lib.hid (min_any A7 k c7 X wr (by omega) (by omega) I7)
          rw [LO.out] at HMN
          have HCC := Lib.hid (HC.out h0)
          clear h0 q1 I7 HC
          go_wp2_with (go_at_call 75; (with_reducible refine HMN.out.mono ?_); rintro e w' ⟨rfl, rfl⟩)
          refine (HCC.out ad wr.heap.size _ (HX.out.later (below_alloc_top HW.out _)) (by simp [go_sem])).mono ?_
          rintro e w5 ⟨A5, n5, c5, rfl, hg5, hn5, hb5⟩
          have s2 : w5.cell? ⟨w.heap.size + 1, 0, none⟩ = some (.int .i64 0) := cell_later hb5 (cell_alloc_later r2 _)
          have s3 : w5.cell? ⟨w.heap.size + 1, 1, none⟩ = some (.slice none 0 0) := cell_later hb5 (cell_alloc_later r3 _)
          have sf2 : w5.frozen? ⟨w.heap.size + 1, 0, none⟩ = false := frozen_after hb5 (cell_alloc_later r2 _) (frozen_alloc_later r2 rf0 _)
          have sf3 : w5.frozen? ⟨w.heap.size + 1, 1, none⟩ = false := frozen_after hb5 (cell_alloc_later r3 _) (frozen_alloc_later r3 rf1 _)
          have zz := hb5.size
          simp at zz
          have H5 : Hid (Below w.heap.size w w5) := Lib.hid (below_then (below_alloc_top HW.out _) hb5)
          clear hb5
          obtain ⟨rfl, hA5, hB5, hI5⟩ := hg5 rfl
          have HB5 : Hid (∀ a, A5 = some a → wr.heap.size < a.block) := Lib.hid (fun a e => by have := hB5 a e; simp at this; omega)
          have HI5 := Lib.hid hI5
          have HA5 := Lib.hid hA5
          rw [if_pos rfl]
          clear hg5 hn5 hI5 hA5 hB5
          have q0 : w.heap.size < w5.heap.size := by omega
          have q1 : w.heap.size + 1 < w5.heap.size := by omega
          go_wp2
          refine bodyPost_ret (v := .tuple #[.agg #[.int .i64 (d.ck), .slice A5 d.n c5], .int .i64 (0)]) (by simp [results, Tryz.results30, go_sem, World.cell?_alloc_past, *]) rfl ?_
          have qb : Below w.heap.size w ((w5.setCell ⟨w.heap.size + 1, 0, none⟩ (.int .i64 d.ck)).setCell ⟨w.heap.size + 1, 1, none⟩ (.slice A5 d.n c5)) := (H5.out.setCell (by dsimp only; omega) _).setCell (by dsimp only; omega) _
          rw [Q1.out]
          exact (chPost.good rfl HA5.out (fun a e => by have := HB5.out a e; omega) ((HI5.out.set (w.heap.size + 1) 0 (.int .i64 d.ck) (fun a e => by have := HB5.out a e; omega)).set (w.heap.size + 1) 1 (.slice A5 d.n c5) (fun a e => by have := HB5.out a e; omega)) qb)
  · have e1 : noE d = d.E := by unfold noE; rw [if_neg hE]
    rw [e1]
    have n1 : (d.E != 0) = true := by simpa using hE
    have HZ := Lib.hid hE
    generalize d.E = u0 at *
    clear e1 hE
    go_enter Tryz.func30, Tryz.ntmps30
    go_wp2_with fail
    refine (HL.out _ (HX.out.later (by repeat (first | exact Below.refl _ _ | refine Below.drew ?_ | refine below_drewN ?_ _ | refine Below.setCell ?_ (by first | omega | (simp; done) | (simp; omega)) _ | refine Below.alloc ?_ (by first | omega | (simp; done) | (simp; omega)) _)))).mono ?_
    rintro e w1 ⟨rfl, hb1⟩
    have qw10 : w1.cell? ⟨w.heap.size, 0, none⟩ = some (.int .i64 d.ck) := cell_later hb1 (by simp [go_sem])
    have qw11 : w1.cell? ⟨w.heap.size, 1, none⟩ = some (.slice A d.n c) := cell_later hb1 (by simp [go_sem])
    have qw12 : w1.cell? ⟨w.heap.size + 1, 0, none⟩ = some (.int .i64 0) := cell_later hb1 (by simp [go_sem])
    have qw13 : w1.cell? ⟨w.heap.size + 1, 1, none⟩ = some (.slice none 0 0) := cell_later hb1 (by simp [go_sem])
    have qw1f0 : w1.frozen? ⟨w.heap.size + 1, 0, none⟩ = false := frozen_after hb1 (v := .int .i64 0) (by simp [go_sem]) (by simp [go_sem])
    have qw1f1 : w1.frozen? ⟨w.heap.size + 1, 1, none⟩ = false := frozen_after hb1 (v := .slice none 0 0) (by simp [go_sem]) (by simp [go_sem])
    have zqw1_0 := World.block_lt_of_cell? _ _ qw10
    dsimp only at zqw1_0
    have zqw1_2 := World.block_lt_of_cell? _ _ qw12
    dsimp only at zqw1_2
    have H1 : Hid (Below w.heap.size w w1) := Lib.hid (below_after (by repeat (first | exact Below.refl _ _ | refine Below.drew ?_ | refine below_drewN ?_ _ | refine Below.setCell ?_ (by first | omega | (simp; done) | (simp; omega)) _ | refine Below.alloc ?_ (by first | omega | (simp; done) | (simp; omega)) _)) hb1 (by first | omega | (simp; done) | (simp; omega))); clear hb1
    go_wp2
    exact bodyPost_ret (v := .tuple #[.agg #[.int .i64 (0), .slice none 0 0], .int .i64 (u0)]) (by simp [results, Tryz.results30, go_sem, World.cell?_alloc_past, *]) rfl (chPost.bad HZ.out rfl (by (repeat (first | (with_reducible exact H1.out) | (with_reducible refine Below.setCell ?_ ?_ _) | (with_reducible refine below_alloc_top ?_ _) | (with_reducible refine Below.drew ?_))); all_goals (first | omega | (simp; done) | (simp; omega))))
end Go.Proofs.YtnhbmmpjifliaaaGreatDoor
