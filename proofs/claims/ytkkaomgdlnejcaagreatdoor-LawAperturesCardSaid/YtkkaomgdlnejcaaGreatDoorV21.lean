/- Aperture -/
import Derived.Test.YtkkaomgdlnejcaaGreatDoorV14
import Derived.Test.YtkkaomgdlnejcaaGreatDoorV13
namespace Go.Proofs.YtkkaomgdlnejcaaGreatDoor
open Go.RowKit Go.Shelf RayM
set_option linter.unusedSimpArgs false
set_option linter.unusedVariables false

/-- from where to where elements send -/
def apX (a : La) (d : Dl) (j : Nat) : Int := (a.p ((sdL d.t d.n).getD j 0)).x
def apM (d : Dl) : Nat := (sdL d.t d.n).length
def apE (a : La) (d : Dl) : Int := if paE a d = 0 then (if apM d = 0 then 12 else 0) else paE a d
def apLo (a : La) (d : Dl) : Int := if apE a d = 0 then mnL (apX a d) (apM d) else 0
def apHi (a : La) (d : Dl) : Int := if apE a d = 0 then mxL (apX a d) (apM d) else 0
theorem mvs_next (l : Nat → Int) (k : Nat) : mvs l (k + 1) = mvs l k ++ [.int .i64 (l k)] := by simp [mvs, List.range_succ]
set_option maxRecDepth 100000 in
set_option maxHeartbeats 1000000 in
theorem aperture_any (a : La) (d : Dl) (A : Option Addr) (c : Nat) (B : Option Addr) (e : Nat) (w : World) (h : SpAt A a.n a.p w) (k : InAt B d.n d.t w) (hm : a.n ≤ 9223372036854775807) (km : d.n ≤ 9223372036854775807) :
    Calls Tryz.prog 35 #[.agg #[.slice A a.n c, .int .i64 a.m.wd, .int .i64 a.m.mt, .int .i64 a.m.sk, .int .i64 a.m.th, .int .i64 a.ck], .agg #[.int .i64 d.ck, .slice B d.n e]] w fun e w' => e = .returned (.tuple #[.agg #[.int .i64 (apLo a d), .int .i64 (apHi a d)], .int .i64 (apE a d)]) ∧ Below w.heap.size w w' := by
  have HX := Lib.hid h; clear h
  have HT := Lib.hid k; clear k
  have HP := Lib.hid (fun w h g => pairErr_any a d A c B e w h g hm km)
  by_cases hE : paE a d = 0
  · obtain ⟨qa, qd, qn⟩ := (paE_zero a d).1 hE
    obtain ⟨⟨n0, n1⟩, -⟩ := (La.E_zero a).1 qa
    have HS := Lib.hid (fun w h => sending_any d.ck B d.n e d.t w (by omega) h)
    have SG : Hid (∀ j, j < apM d → ∃ i : Nat, sdF d.t d.n j = i ∧ i < a.n ∧ apX a d j = (a.p i).x) := Lib.hid (fun j hj => by
      obtain ⟨i, e1, h1, _, e2⟩ := sdF_get d.t d.n j hj
      refine ⟨i, e1, by omega, ?_⟩
      show (a.p _).x = _
      rw [List.getD_eq_getElem?_getD, e2]; rfl)
    have SM : apM d ≤ 16 := by have := sdL_len d.t d.n; unfold apM; omega
    have HM : Hid ((sdL d.t d.n).length = apM d) := Lib.hid rfl
    have e1 : apE a d = if apM d = 0 then 12 else 0 := by unfold apE; rw [if_pos hE]
    have e2 : apLo a d = if apM d = 0 then 0 else mnL (apX a d) (apM d) := by
      unfold apLo; rw [e1]
      by_cases q : apM d = 0
      · rw [if_pos q, if_pos q]; rfl
      · rw [if_neg q, if_neg q]; rfl
    have e3 : apHi a d = if apM d = 0 then 0 else mxL (apX a d) (apM d) := by
      unfold apHi; rw [e1]
      by_cases q : apM d = 0
      · rw [if_pos q, if_pos q]; rfl
      · rw [if_neg q, if_neg q]; rfl
    have EQ1 := Lib.hid e1; have EQ2 := Lib.hid e2; have EQ3 := Lib.hid e3
    rw [hE] at HP
    generalize apE a d = vE at *
    generalize apLo a d = vL at *
    generalize apHi a d = vH at *
    generalize apM d = m at *
    generalize apX a d = X at *
    have XS := Lib.hid (fun k => mvs_next X k)
    have X0 : Hid (mvs X 0 = []) := (rfl : mvs X 0 = [])
    have XL := Lib.hid (fun k => mvs_len X k)
    clear hE qa qd e1 e2 e3 qn
    obtain ⟨j0_, ji0, jz0, jz1, jz2⟩ := info_parts infoJ
    have JI0 := Lib.hid ji0; have JZ0 := Lib.hid jz0; have JZ1 := Lib.hid jz1; have JZ2 := Lib.hid jz2
    clear ji0 jz0 jz1 jz2
    go_enter Tryz.func35, Tryz.ntmps35
    go_wp2_with fail
    refine (HP.out _ (HX.out.later (by repeat (first | exact Below.refl _ _ | refine Below.drew ?_ | refine below_drewN ?_ _ | refine Below.setCell ?_ (by first | omega | (simp; done) | (simp; omega)) _ | refine Below.alloc ?_ (by first | omega | (simp; done) | (simp; omega)) _))) (HT.out.later (by repeat (first | exact Below.refl _ _ | refine Below.drew ?_ | refine below_drewN ?_ _ | refine Below.setCell ?_ (by first | omega | (simp; done) | (simp; omega)) _ | refine Below.alloc ?_ (by first | omega | (simp; done) | (simp; omega)) _)))).mono ?_
    rintro e w1 ⟨rfl, hb1⟩
    have qw10 : w1.cell? ⟨w.heap.size, 0, none⟩ = some (.slice A a.n c) := cell_later hb1 (by simp [go_sem])
    have qw11 : w1.cell? ⟨w.heap.size, 1, none⟩ = some (.int .i64 a.m.wd) := cell_later hb1 (by simp [go_sem])
    have qw12 : w1.cell? ⟨w.heap.size, 2, none⟩ = some (.int .i64 a.m.mt) := cell_later hb1 (by simp [go_sem])
    have qw13 : w1.cell? ⟨w.heap.size, 3, none⟩ = some (.int .i64 a.m.sk) := cell_later hb1 (by simp [go_sem])
    have qw14 : w1.cell? ⟨w.heap.size, 4, none⟩ = some (.int .i64 a.m.th) := cell_later hb1 (by simp [go_sem])
    have qw15 : w1.cell? ⟨w.heap.size, 5, none⟩ = some (.int .i64 a.ck) := cell_later hb1 (by simp [go_sem])
    have qw16 : w1.cell? ⟨w.heap.size + 1, 0, none⟩ = some (.int .i64 d.ck) := cell_later hb1 (by simp [go_sem])
    have qw17 : w1.cell? ⟨w.heap.size + 1, 1, none⟩ = some (.slice B d.n e) := cell_later hb1 (by simp [go_sem])
    have qw18 : w1.cell? ⟨w.heap.size + 1 + 1, 0, none⟩ = some (.int .i64 0) := cell_later hb1 (by simp [go_sem])
    have qw19 : w1.cell? ⟨w.heap.size + 1 + 1, 1, none⟩ = some (.int .i64 0) := cell_later hb1 (by simp [go_sem])
    have qw1f0 : w1.frozen? ⟨w.heap.size + 1 + 1, 0, none⟩ = false := frozen_after hb1 (v := .int .i64 0) (by simp [go_sem]) (by simp [go_sem])
    have qw1f1 : w1.frozen? ⟨w.heap.size + 1 + 1, 1, none⟩ = false := frozen_after hb1 (v := .int .i64 0) (by simp [go_sem]) (by simp [go_sem])
    have zqw1_0 := World.block_lt_of_cell? _ _ qw10
    dsimp only at zqw1_0
    have zqw1_6 := World.block_lt_of_cell? _ _ qw16
    dsimp only at zqw1_6
    have zqw1_8 := World.block_lt_of_cell? _ _ qw18
    dsimp only at zqw1_8
    have H1 : Hid (Below w.heap.size w w1) := Lib.hid (below_after (by repeat (first | exact Below.refl _ _ | refine Below.drew ?_ | refine below_drewN ?_ _ | refine Below.setCell ?_ (by first | omega | (simp; done) | (simp; omega)) _ | refine Below.alloc ?_ (by first | omega | (simp; done) | (simp; omega)) _)) hb1 (by first | omega | (simp; done) | (simp; omega))); clear hb1
    go_wp2_with fail
    refine (HS.out _ (HT.out.later H1.out)).mono ?_
    rintro e w2 ⟨v2, rfl, hown2, hb2⟩
    have qw20 : w2.cell? ⟨w.heap.size, 0, none⟩ = some (.slice A a.n c) := cell_later hb2 (by simp [go_sem, World.cell?_alloc_past, World.frozen?_alloc_past, *])
    have qw21 : w2.cell? ⟨w.heap.size, 1, none⟩ = some (.int .i64 a.m.wd) := cell_later hb2 (by simp [go_sem, World.cell?_alloc_past, World.frozen?_alloc_past, *])
    have qw22 : w2.cell? ⟨w.heap.size, 2, none⟩ = some (.int .i64 a.m.mt) := cell_later hb2 (by simp [go_sem, World.cell?_alloc_past, World.frozen?_alloc_past, *])
    have qw23 : w2.cell? ⟨w.heap.size, 3, none⟩ = some (.int .i64 a.m.sk) := cell_later hb2 (by simp [go_sem, World.cell?_alloc_past, World.frozen?_alloc_past, *])
    have qw24 : w2.cell? ⟨w.heap.size, 4, none⟩ = some (.int .i64 a.m.th) := cell_later hb2 (by simp [go_sem, World.cell?_alloc_past, World.frozen?_alloc_past, *])
    have qw25 : w2.cell? ⟨w.heap.size, 5, none⟩ = some (.int .i64 a.ck) := cell_later hb2 (by simp [go_sem, World.cell?_alloc_past, World.frozen?_alloc_past, *])
    have qw26 : w2.cell? ⟨w.heap.size + 1, 0, none⟩ = some (.int .i64 d.ck) := cell_later hb2 (by simp [go_sem, World.cell?_alloc_past, World.frozen?_alloc_past, *])
    have qw27 : w2.cell? ⟨w.heap.size + 1, 1, none⟩ = some (.slice B d.n e) := cell_later hb2 (by simp [go_sem, World.cell?_alloc_past, World.frozen?_alloc_past, *])
    have qw28 : w2.cell? ⟨w.heap.size + 1 + 1, 0, none⟩ = some (.int .i64 0) := cell_later hb2 (by simp [go_sem, World.cell?_alloc_past, World.frozen?_alloc_past, *])
    have qw29 : w2.cell? ⟨w.heap.size + 1 + 1, 1, none⟩ = some (.int .i64 0) := cell_later hb2 (by simp [go_sem, World.cell?_alloc_past, World.frozen?_alloc_past, *])
    have qw2f0 : w2.frozen? ⟨w.heap.size + 1 + 1, 0, none⟩ = false := frozen_after hb2 (v := .int .i64 0) (by simp [go_sem, World.cell?_alloc_past, World.frozen?_alloc_past, *]) (by simp [go_sem, World.cell?_alloc_past, World.frozen?_alloc_past, *])
    have qw2f1 : w2.frozen? ⟨w.heap.size + 1 + 1, 1, none⟩ = false := frozen_after hb2 (v := .int .i64 0) (by simp [go_sem, World.cell?_alloc_past, World.frozen?_alloc_past, *]) (by simp [go_sem, World.cell?_alloc_past, World.frozen?_alloc_past, *])
    have zqw2_0 := World.block_lt_of_cell? _ _ qw20
    dsimp only at zqw2_0
    have zqw2_6 := World.block_lt_of_cell? _ _ qw26
    dsimp only at zqw2_6
    have zqw2_8 := World.block_lt_of_cell? _ _ qw28
    dsimp only at zqw2_8
    have H2 : Hid (Below w.heap.size w w2) := Lib.hid (below_then (by (repeat (first | (with_reducible exact H1.out) | (with_reducible refine Below.setCell ?_ ?_ _) | (with_reducible refine below_alloc_top ?_ _) | (with_reducible refine Below.drew ?_))); all_goals (first | omega | (simp; done) | (simp; omega))) hb2); clear hb2
    rw [HM.out] at hown2
    obtain ⟨A6, c6, rfl, hz6, I6⟩ := own_ints2 hown2
    have I6' := Lib.hid I6
    have zz2 := H2.out.size
    clear hown2 hz6 I6
    go_wp2_with fail
    go_loopw [7, 20] (fun s7 s20 wr => ∃ (k : Nat) (v : Value), v = s7 ∧ k ≤ m ∧ s20 = .int .i64 (k : Int) ∧ wr.ownsRow w2.heap.size 3 1 v k (mvs X k) ∧ Below w2.heap.size w2 wr) (fun _ s20 _ => m - (intOf s20).toNat)
    case atStart => exact ⟨0, _, rfl, Nat.zero_le _, rfl, by rw [X0.out]; exact World.ownsRow_nil _ _ _ _, Below.refl _ _⟩
    case round =>
      obtain ⟨k, v, rfl, hk, rfl, hown, hb⟩ := hrel
      have sz := hb.size
      have HB := Lib.hid hb
      have HW : Hid (Below w.heap.size w wr) := Lib.hid (Below.trans H2.out (hb.mono H2.out.size))
      have ag := Lib.hid (fun q e => (hown.lt q e).1)
      have r0 : wr.cell? ⟨w.heap.size, 0, none⟩ = some (.slice A a.n c) := cell_later hb qw20
      have r1 : wr.cell? ⟨w.heap.size, 1, none⟩ = some (.int .i64 a.m.wd) := cell_later hb qw21
      have r2 : wr.cell? ⟨w.heap.size, 2, none⟩ = some (.int .i64 a.m.mt) := cell_later hb qw22
      have r3 : wr.cell? ⟨w.heap.size, 3, none⟩ = some (.int .i64 a.m.sk) := cell_later hb qw23
      have r4 : wr.cell? ⟨w.heap.size, 4, none⟩ = some (.int .i64 a.m.th) := cell_later hb qw24
      have r5 : wr.cell? ⟨w.heap.size, 5, none⟩ = some (.int .i64 a.ck) := cell_later hb qw25
      have r6 : wr.cell? ⟨w.heap.size + 1, 0, none⟩ = some (.int .i64 d.ck) := cell_later hb qw26
      have r7 : wr.cell? ⟨w.heap.size + 1, 1, none⟩ = some (.slice B d.n e) := cell_later hb qw27
      have r8 : wr.cell? ⟨w.heap.size + 1 + 1, 0, none⟩ = some (.int .i64 0) := cell_later hb qw28
      have r9 : wr.cell? ⟨w.heap.size + 1 + 1, 1, none⟩ = some (.int .i64 0) := cell_later hb qw29
      have rf0 : wr.frozen? ⟨w.heap.size + 1 + 1, 0, none⟩ = false := frozen_after hb qw28 qw2f0
      have rf1 : wr.frozen? ⟨w.heap.size + 1 + 1, 1, none⟩ = false := frozen_after hb qw29 qw2f1
      have zr0 := World.block_lt_of_cell? _ _ r0
      dsimp only at zr0
      have zr1 := World.block_lt_of_cell? _ _ r6
      dsimp only at zr1
      have zr2 := World.block_lt_of_cell? _ _ r8
      dsimp only at zr2
      by_cases hlt : k < m
      · obtain ⟨ad6, rfl⟩ := I6'.out.some (by omega)
        obtain ⟨i, ei, hi, ex⟩ := SG.out k hlt
        have e0 := (I6'.out.later hb).at hlt
        rw [ei] at e0
        obtain ⟨ad, rfl⟩ := HX.out.some (show 0 < a.n by omega)
        have e1 := ((HX.out.later HW.out).at hi).1
        rw [← ex] at e1
        have j0 : (0 : Int) ≤ (k : Int) := Int.natCast_nonneg _
        have j1 : (k : Int) < (m : Int) := by omega
        have j8 : (k : Int) < 1000 := by omega
        have i0 : (0 : Int) ≤ (i : Int) := Int.natCast_nonneg _
        have i1 : (i : Int) < (a.n : Int) := by omega
        clear hb ei ex
        have bm6 : (k + 1 : Nat) ≤ maxLen := by unfold maxLen; omega
        have BM6 := Lib.hid bm6; clear bm6
        have nb6 : ∀ j u, (#[.int .i64 (X k)] : Array Value).toList[j]? = some u → (wr.alloc (.cells #[.int .i64 (X k)] 3)).cell? ((⟨wr.heap.size, 0, none⟩ : Addr).add j) = some u :=
          World.news_of_block (t := 3) (fr := (0, 0)) (by have h := heap_alloc_new wr (.cells #[.int .i64 (X k)] 3); simpa using h)
        have NB6 := Lib.hid nb6; clear nb6
        go_wp2_with (at_builtin; refine wpList_append_lies _ rfl _ _ _ rfl w2.heap.size 3 j0_ _ 1 8 Tryz.underlying31 JI0.out JZ0.out JZ1.out JZ2.out rfl (by omega) v (k) (mvs X k) rfl (hown.alloc _) ⟨wr.heap.size, 0, none⟩ 1 1 [.int .i64 (X k)] rfl rfl NB6.out (by simp [Value.oneCell']) (by omega) BM6.out (by omega) (by simp; omega) (wr.heap.size + 1) (by simp) ?_; intro g6 cap6 w6 hown6 hgrow6 hat6 hlt6)
        have HO6 := Lib.hid hown6; clear hown6
        have HG6 := Lib.hid hgrow6; clear hgrow6 hat6 hlt6
        go_roundw
        case rel => exact ⟨k + 1, _, rfl, by omega, by go_num, by rw [XS.out]; exact HO6.out, (HB.out.alloc (by omega) _).grown HG6.out (by simp; omega) (fun q e => ag.out q e)⟩
        case measure => simp [intOf]; omega
      · have hk' : k = m := by omega
        have kk : decide ((k : Int) < (m : Int)) = false := by simp; omega
        subst hk'
        obtain ⟨A7, c7, rfl, _, I7⟩ := own_ints2 hown
        clear hown hb
        by_cases h0 : k = 0
        · have b0 : ((k : Int) == 0) = true := by simp; omega
          have q1 := EQ1.out; have q2 := EQ2.out; have q3 := EQ3.out
          rw [if_pos h0] at q1 q2 q3
          have Q1 := Lib.hid q1; have Q2 := Lib.hid q2; have Q3 := Lib.hid q3
          clear h0 q1 q2 q3 I7
          go_wp2
          exact bodyPost_ret (v := .tuple #[.agg #[.int .i64 (0), .int .i64 (0)], .int .i64 (12)]) (by simp [results, Tryz.results35, go_sem, World.cell?_alloc_past, *]) rfl ⟨by rw [Q1.out, Q2.out, Q3.out], (by (repeat (first | (with_reducible exact HW.out) | (with_reducible refine Below.setCell ?_ ?_ _) | (with_reducible refine below_alloc_top ?_ _) | (with_reducible refine Below.drew ?_))); all_goals (first | omega | (simp; done) | (simp; omega)))⟩
        · have b0 : ((k : Int) == 0) = false := by simp; omega
          have q1 := EQ1.out; have q2 := EQ2.out; have q3 := EQ3.out
          rw [if_neg h0] at q1 q2 q3
          have Q1 := Lib.hid q1; have Q2 := Lib.hid q2; have Q3 := Lib.hid q3
          clear q1 q2 q3
          have HMN := Lib.hid (min_any A7 k c7 X wr (by omega) (by omega) I7)
          have HMX := Lib.hid (max_any A7 k c7 X wr (by omega) (by omega) I7)
          generalize mnL X k = lo at *
          generalize mxL X k = hi at *
          clear h0 I7
          go_wp2_with (first | (go_at_call 71; (with_reducible refine HMN.out.mono ?_); rintro e w' ⟨rfl, rfl⟩) | (go_at_call 72; (with_reducible refine HMX.out.mono ?_); rintro e w' ⟨rfl, rfl⟩))
          exact bodyPost_ret (v := .tuple #[.agg #[.int .i64 (lo), .int .i64 (hi)], .int .i64 (0)]) (by simp [results, Tryz.results35, go_sem, World.cell?_alloc_past, *]) rfl ⟨by rw [Q1.out, Q2.out, Q3.out], (by (repeat (first | (with_reducible exact HW.out) | (with_reducible refine Below.setCell ?_ ?_ _) | (with_reducible refine below_alloc_top ?_ _) | (with_reducible refine Below.drew ?_))); all_goals (first | omega | (simp; done) | (simp; omega)))⟩
  · have e1 : apE a d = paE a d := by unfold apE; rw [if_neg hE]
    have e2 : apLo a d = 0 := by unfold apLo; rw [e1, if_neg hE]
    have e3 : apHi a d = 0 := by unfold apHi; rw [e1, if_neg hE]
    rw [e1, e2, e3]
    have n1 : (paE a d != 0) = true := by simpa using hE
    generalize paE a d = u0 at *
    clear e1 e2 e3 hE
    go_enter Tryz.func35, Tryz.ntmps35
    go_wp2_with fail
    refine (HP.out _ (HX.out.later (by repeat (first | exact Below.refl _ _ | refine Below.drew ?_ | refine below_drewN ?_ _ | refine Below.setCell ?_ (by first | omega | (simp; done) | (simp; omega)) _ | refine Below.alloc ?_ (by first | omega | (simp; done) | (simp; omega)) _))) (HT.out.later (by repeat (first | exact Below.refl _ _ | refine Below.drew ?_ | refine below_drewN ?_ _ | refine Below.setCell ?_ (by first | omega | (simp; done) | (simp; omega)) _ | refine Below.alloc ?_ (by first | omega | (simp; done) | (simp; omega)) _)))).mono ?_
    rintro e w1 ⟨rfl, hb1⟩
    have qw10 : w1.cell? ⟨w.heap.size, 0, none⟩ = some (.slice A a.n c) := cell_later hb1 (by simp [go_sem])
    have qw11 : w1.cell? ⟨w.heap.size, 1, none⟩ = some (.int .i64 a.m.wd) := cell_later hb1 (by simp [go_sem])
    have qw12 : w1.cell? ⟨w.heap.size, 2, none⟩ = some (.int .i64 a.m.mt) := cell_later hb1 (by simp [go_sem])
    have qw13 : w1.cell? ⟨w.heap.size, 3, none⟩ = some (.int .i64 a.m.sk) := cell_later hb1 (by simp [go_sem])
    have qw14 : w1.cell? ⟨w.heap.size, 4, none⟩ = some (.int .i64 a.m.th) := cell_later hb1 (by simp [go_sem])
    have qw15 : w1.cell? ⟨w.heap.size, 5, none⟩ = some (.int .i64 a.ck) := cell_later hb1 (by simp [go_sem])
    have qw16 : w1.cell? ⟨w.heap.size + 1, 0, none⟩ = some (.int .i64 d.ck) := cell_later hb1 (by simp [go_sem])
    have qw17 : w1.cell? ⟨w.heap.size + 1, 1, none⟩ = some (.slice B d.n e) := cell_later hb1 (by simp [go_sem])
    have qw18 : w1.cell? ⟨w.heap.size + 1 + 1, 0, none⟩ = some (.int .i64 0) := cell_later hb1 (by simp [go_sem])
    have qw19 : w1.cell? ⟨w.heap.size + 1 + 1, 1, none⟩ = some (.int .i64 0) := cell_later hb1 (by simp [go_sem])
    have qw1f0 : w1.frozen? ⟨w.heap.size + 1 + 1, 0, none⟩ = false := frozen_after hb1 (v := .int .i64 0) (by simp [go_sem]) (by simp [go_sem])
    have qw1f1 : w1.frozen? ⟨w.heap.size + 1 + 1, 1, none⟩ = false := frozen_after hb1 (v := .int .i64 0) (by simp [go_sem]) (by simp [go_sem])
    have zqw1_0 := World.block_lt_of_cell? _ _ qw10
    dsimp only at zqw1_0
    have zqw1_6 := World.block_lt_of_cell? _ _ qw16
    dsimp only at zqw1_6
    have zqw1_8 := World.block_lt_of_cell? _ _ qw18
    dsimp only at zqw1_8
    have H1 : Hid (Below w.heap.size w w1) := Lib.hid (below_after (by repeat (first | exact Below.refl _ _ | refine Below.drew ?_ | refine below_drewN ?_ _ | refine Below.setCell ?_ (by first | omega | (simp; done) | (simp; omega)) _ | refine Below.alloc ?_ (by first | omega | (simp; done) | (simp; omega)) _)) hb1 (by first | omega | (simp; done) | (simp; omega))); clear hb1
    go_wp2
    exact bodyPost_ret (v := .tuple #[.agg #[.int .i64 (0), .int .i64 (0)], .int .i64 (u0)]) (by simp [results, Tryz.results35, go_sem, World.cell?_alloc_past, *]) rfl ⟨rfl, (by (repeat (first | (with_reducible exact H1.out) | (with_reducible refine Below.setCell ?_ ?_ _) | (with_reducible refine below_alloc_top ?_ _) | (with_reducible refine Below.drew ?_))); all_goals (first | omega | (simp; done) | (simp; omega)))⟩
end Go.Proofs.YtkkaomgdlnejcaaGreatDoor
