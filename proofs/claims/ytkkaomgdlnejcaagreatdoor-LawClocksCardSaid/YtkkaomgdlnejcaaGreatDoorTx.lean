/- LawClocks: the contracts -/
import Derived.Test.YtkkaomgdlnejcaaGreatDoorVc
import Derived.Test.YtkkaomgdlnejcaaGreatDoorV13
import Derived.BigQuiet
import Derived.Test.YtkkaomgdlnejcaaGreatDoorG2
import Derived.Test.YtkkaomgdlnejcaaGreatDoorV12
import Derived.RangeFuncBox
import Derived.RangeFuncNested
import Derived.RangeFuncBound
import Derived.RangeFuncCalls
import Derived.RangeFuncLeaves
import Derived.Shelf.Abstract
import Derived.Shelf.RegionOpen
import Derived.WalkKit
import Derived.OwnWalkIn
import Derived.TacticsInMore
import Derived.LoopNIn
import Derived.LoopIn
import Derived.Test.YtkkaomgdlnejcaaGreatDoorV3
namespace Go.Proofs.YtkkaomgdlnejcaaGreatDoor
open Go.RowKit Go.Shelf RayM
set_option linter.unusedSimpArgs false
set_option linter.unusedVariables false
theorem cell_drw2 {w : World} {a : Addr} {v : Value} (h : w.cell? a = some v) : w.drew.cell? a = some v := h
/-- what the reference makes of ticks: a law, or nothing -/
def rlE (l : Nat → Int) (n : Nat) : Int := if (∀ i, i < n → l i ≤ 1000000) then 0 else 8
theorem rlE_yes (l : Nat → Int) (n : Nat) (h : ∀ i, i < n → l i ≤ 1000000) : rlE l n = 0 := if_pos h
def rlPost (ck : Int) (A : Option Addr) (n c : Nat) (E : Int) (w : World) (e : Ending) (w' : World) : Prop :=
  ∃ (A' : Option Addr) (n' c' : Nat), e = .returned (.tuple #[.agg #[.int .i64 (if E = 0 then ck else 0), .slice A' n' c'], .int .i64 E]) ∧ (E = 0 → A' = A ∧ n' = n ∧ c' = c) ∧ (E ≠ 0 → A' = none ∧ n' = 0 ∧ c' = 0) ∧ Below w.heap.size w w'
theorem rlPost.good {ck : Int} {A : Option Addr} {n c : Nat} {E : Int} {w : World} {e : Ending} {w' : World} (h : E = 0) (he : e = .returned (.tuple #[.agg #[.int .i64 ck, .slice A n c], .int .i64 0])) (hb : Below w.heap.size w w') : rlPost ck A n c E w e w' := by
  subst h; exact ⟨A, n, c, by rw [if_pos rfl]; exact he, fun _ => ⟨rfl, rfl, rfl⟩, fun q => absurd rfl q, hb⟩
theorem rlPost.bad {ck : Int} {A : Option Addr} {n c : Nat} {E : Int} {w : World} {e : Ending} {w' : World} (h : E = 8) (he : e = .returned (.tuple #[.agg #[.int .i64 0, .slice none 0 0], .int .i64 8])) (hb : Below w.heap.size w w') : rlPost ck A n c E w e w' := by
  subst h; exact ⟨none, 0, 0, by rw [if_neg (by decide)]; exact he, fun q => absurd q (by decide), fun _ => ⟨rfl, rfl, rfl⟩, hb⟩
theorem rlE_no (l : Nat → Int) (n i : Nat) (hi : i < n) (h : 1000000 < l i) : rlE l n = 8 := if_neg (fun q => by have := q i hi; omega)
set_option maxRecDepth 100000 in
set_option maxHeartbeats 1000000 in
theorem rLawOf_any (ck : Int) (A : Option Addr) (n c : Nat) (l : Nat → Int) (w : World) (hm : n ≤ 1000) (h : InAt A n l w) :
    Calls Tryz.prog 48 #[.int .i64 ck, .slice A n c] w fun e w' => rlPost ck A n c (rlE l n) w e w' := by
  have HX := Lib.hid h; clear h
  have RY := Lib.hid (rlE_yes l n); have RN := Lib.hid (fun i a b => rlE_no l n i a b)
  generalize rlE l n = E at *
  go_enter Tryz.func48, Tryz.ntmps48
  go_wp2
  obtain ⟨w1, hw_w1⟩ : ∃ q, q = (w.alloc (.cells #[.int .i64 0, .slice none 0 0] 33)) := ⟨_, rfl⟩
  rw [← hw_w1]
  have q10 : w1.cell? ⟨w.heap.size, 0, none⟩ = some (.int .i64 0) := by rw [hw_w1]; simp [go_sem]
  have q11 : w1.cell? ⟨w.heap.size, 1, none⟩ = some (.slice none 0 0) := by rw [hw_w1]; simp [go_sem]
  have qf10 : w1.frozen? ⟨w.heap.size, 0, none⟩ = false := by rw [hw_w1]; simp [go_sem]
  have qf11 : w1.frozen? ⟨w.heap.size, 1, none⟩ = false := by rw [hw_w1]; simp [go_sem]
  have H1 : Hid (Below w.heap.size w w1) := Lib.hid (by rw [hw_w1]; exact (by repeat (first | exact Below.refl _ _ | refine Below.drew ?_ | refine below_drewN ?_ _ | refine Below.setCell ?_ (by first | omega | (simp; done) | (simp; omega)) _ | refine Below.alloc ?_ (by first | omega | (simp; done) | (simp; omega)) _)))
  have z1 : w1.heap.size = w.heap.size + 1 := by rw [hw_w1]; simp
  clear hw_w1
  go_loopw [6] (fun s6 wr => ∃ k : Nat, k ≤ n ∧ s6 = .int .i64 (k : Int) ∧ (∀ i, i < k → l i ≤ 1000000) ∧ Below w1.heap.size w1 wr) (fun s6 _ => n - (intOf s6).toNat)
  case atStart => exact ⟨0, Nat.zero_le _, rfl, fun i hi => absurd hi (Nat.not_lt_zero i), Below.refl _ _⟩
  case round =>
    obtain ⟨k, hk, rfl, hq, hb⟩ := hrel
    have HQ := Lib.hid hq; clear hq
    have HB := Lib.hid hb
    have HW : Hid (Below w.heap.size w wr) := Lib.hid (below_then H1.out hb)
    have r0 := cell_later hb q10; have r1 := cell_later hb q11
    have f0 := frozen_after hb q10 qf10; have f1 := frozen_after hb q11 qf11
    have zr := World.block_lt_of_cell? _ _ r0
    dsimp only at zr
    by_cases hlt : k < n
    · obtain ⟨ad, rfl⟩ := HX.out.some (by omega)
      have e0 := (HX.out.later HW.out).at hlt
      have j0 : (0 : Int) ≤ (k : Int) := Int.natCast_nonneg _
      have j1 : (k : Int) < (n : Int) := by omega
      have j8 : (k : Int) < 1000 := by omega
      clear hb
      by_cases hg : 1000000 < l k
      · have n1 : decide ((1000000 : Int) < l k) = true := by simpa using hg
        have E8 := Lib.hid (RN.out k hlt hg)
        generalize l k = x at *
        clear hg
        go_wp2
        exact bodyPost_ret (v := .tuple #[.agg #[.int .i64 0, .slice none 0 0], .int .i64 8]) (by simp [results, Tryz.results48, go_sem, World.cell?_alloc_past, *]) rfl (rlPost.bad E8.out rfl (by (repeat (first | (with_reducible exact HW.out) | (with_reducible refine Below.setCell ?_ ?_ _) | (with_reducible refine below_alloc_top ?_ _) | (with_reducible refine Below.drew ?_))); all_goals (first | omega | (simp; done) | (simp; omega))))
      · have n1 : decide ((1000000 : Int) < l k) = false := by simp; omega
        have HG := Lib.hid (show l k ≤ 1000000 by omega)
        obtain ⟨x, hx⟩ : ∃ x, x = l k := ⟨_, rfl⟩
        rw [← hx] at e0 n1
        clear hg hx
        go_wp2
        go_roundw
        case rel => exact ⟨k + 1, by omega, by go_num, fun i hi => by
            rcases Nat.lt_succ_iff_lt_or_eq.1 hi with h | h
            · exact HQ.out i h
            · subst h; exact HG.out, HB.out⟩
        case measure => simp [intOf]; omega
    · have hk' : k = n := by omega
      have kk : decide ((k : Int) < (n : Int)) = false := by simp; omega
      subst hk'
      have E0 := Lib.hid (RY.out HQ.out)
      clear hb
      go_wp2
      exact bodyPost_ret (v := .tuple #[.agg #[.int .i64 ck, .slice A k c], .int .i64 0]) (by simp [results, Tryz.results48, go_sem, World.cell?_alloc_past, *]) rfl (rlPost.good E0.out rfl (by (repeat (first | (with_reducible exact HW.out) | (with_reducible refine Below.setCell ?_ ?_ _) | (with_reducible refine below_alloc_top ?_ _) | (with_reducible refine Below.drew ?_))); all_goals (first | omega | (simp; done) | (simp; omega))))
set_option maxRecDepth 100000 in
set_option maxHeartbeats 1000000 in
theorem rRound_any (n b : Int) (w : World) (n0 : -1000000000000000 ≤ n) (n1 : n ≤ 1000000000000000) (b0 : 1 ≤ b) (b1 : b ≤ 1000000) :
    Calls Tryz.prog 47 #[.int .i64 n, .int .i64 b] w fun e w' => e = .returned (.int .i64 ((2 * n + b) / (2 * b))) ∧ w = w' := by
  have FL := Lib.hid (fun w => floor_any (2 * n + b) (2 * b) w (by omega) (by omega) (by omega) (by omega))
  generalize (2 * n + b) / (2 * b) = q at *
  go_enter Tryz.func47, Tryz.ntmps47
  go_wp2_with (go_at_call 83; (with_reducible refine (FL.out _).mono ?_); rintro e w' ⟨rfl, rfl⟩)
  go_ret
  exact ⟨rfl, rfl⟩
set_option maxRecDepth 100000 in
set_option maxHeartbeats 1000000 in
theorem wArrayErr_any (a : La) (A : Option Addr) (c : Nat) (w : World) (h : SpAt A a.n a.p w) (hm : a.n ≤ 9223372036854775807) :
    Calls Tryz.prog 12 #[.agg #[.slice A a.n c, .int .i64 a.m.wd, .int .i64 a.m.mt, .int .i64 a.m.sk, .int .i64 a.m.th, .int .i64 a.ck]] w fun e w' => e = .returned (.int .i64 a.E) ∧ Below w.heap.size w w' := by
  have HX := Lib.hid h; clear h
  have HL := Lib.hid (fun w h => rCheckArray_any a A c w h hm)
  generalize a.E = u at *
  generalize (a.I : Int) = v at *
  go_enter Tryz.func12, Tryz.ntmps12
  go_wp2_with fail
  refine (HL.out _ (HX.out.later ((Below.refl _ _).alloc (Nat.le_refl _) _))).mono ?_
  rintro e w1 ⟨rfl, hb1⟩

  have H1 : Hid (Below w.heap.size w w1) := Lib.hid (below_after (by repeat (first | exact Below.refl _ _ | refine Below.drew ?_ | refine below_drewN ?_ _ | refine Below.setCell ?_ (by first | omega | (simp; done) | (simp; omega)) _ | refine Below.alloc ?_ (by first | omega | (simp; done) | (simp; omega)) _)) hb1 (by first | omega | (simp; done) | (simp; omega))); clear hb1
  go_wp2
  go_ret
  exact ⟨rfl, H1.out⟩
theorem cut2_ {A B : Prop} (h : A) (f : A → B) : B := f h
/-- what an opaque call leaves: what lay lies -/
def BelA (w w' : World) : Prop := Below w.heap.size w w'
theorem cellA {w w' : World} {a : Addr} {v : Value} (h : BelA w w') (hc : w.cell? a = some v) : w'.cell? a = some v := cell_later h hc
theorem frozenA {w w' : World} {a : Addr} {v : Value} (h : BelA w w') (hc : w.cell? a = some v) (hf : w.frozen? a = false) : w'.frozen? a = false := frozen_after h hc hf
theorem belowA {w0 w w' : World} (h : Below w0.heap.size w0 w) (hb : BelA w w') : Below w0.heap.size w0 w' := below_then h hb
theorem SpAt.laterA {A : Option Addr} {n : Nat} {p : Nat → Sp} {w w' : World} (hb : BelA w w') (r : SpAt A n p w) : SpAt A n p w' := r.later hb
theorem InAt.laterA {A : Option Addr} {n : Nat} {p : Nat → Int} {w w' : World} (hb : BelA w w') (r : InAt A n p w) : InAt A n p w' := r.later hb
theorem SpAt.alloc {A : Option Addr} {n : Nat} {p : Nat → Sp} {w : World} (r : SpAt A n p w) (o : Obj) : SpAt A n p (w.alloc o) := r.later ((Below.refl _ _).alloc (Nat.le_refl _) _)
theorem InAt.alloc {A : Option Addr} {n : Nat} {p : Nat → Int} {w : World} (r : InAt A n p w) (o : Obj) : InAt A n p (w.alloc o) := r.later ((Below.refl _ _).alloc (Nat.le_refl _) _)
theorem SpAt.drew {A : Option Addr} {n : Nat} {p : Nat → Sp} {w : World} (r : SpAt A n p w) : SpAt A n p w.drew := r
theorem InAt.drew {A : Option Addr} {n : Nat} {p : Nat → Int} {w : World} (r : InAt A n p w) : InAt A n p w.drew := r
theorem cell_drewA {w : World} {a : Addr} {v : Value} (h : w.cell? a = some v) : w.drew.cell? a = some v := h
theorem frozen_drewA {w : World} {a : Addr} (h : w.frozen? a = false) : w.drew.frozen? a = false := h
theorem cell_set_old {w wk : World} {a : Addr} {v u x : Value} {i : Nat} (h : w.cell? a = some v) (hk : wk.cell? a = some u) : (w.setCell ⟨wk.heap.size, i, none⟩ x).cell? a = some v := by
  have := World.block_lt_of_cell? _ _ hk
  rw [World.cell?_setCell_other w _ a x (fun e => by rw [← e] at this; exact Nat.lt_irrefl _ this)]; exact h
theorem below_set_old {w0 w wk : World} {x : Value} {i : Nat} (h : Below w0.heap.size w0 w) (hk : Below w0.heap.size w0 wk) : Below w0.heap.size w0 (w.setCell ⟨wk.heap.size, i, none⟩ x) := Below.setCell h hk.size _
set_option maxRecDepth 100000 in
set_option maxHeartbeats 1000000 in
theorem rSending_any (d : Dl) (A : Option Addr) (c : Nat) (w : World) (hm : d.n ≤ 1000) (ht : ∀ i, i < d.n → -1 ≤ d.t i) (h : InAt A d.n d.t w) :
    Calls Tryz.prog 34 #[.agg #[.int .i64 d.ck, .slice A d.n c]] w fun e w' => ∃ v : Value, e = .returned v ∧ w'.ownsRow w.heap.size 3 1 v (sdL d.t d.n).length (mvs (sdF d.t d.n) (sdL d.t d.n).length) ∧ Below w.heap.size w w' := by
  rw [← sdV_mvs, ← sdV_len]
  obtain ⟨j0_, ji0, jz0, jz1, jz2⟩ := info_parts infoJ
  have JI0 := Lib.hid ji0; have JZ0 := Lib.hid jz0; have JZ1 := Lib.hid jz1; have JZ2 := Lib.hid jz2
  clear ji0 jz0 jz1 jz2
  have HX := Lib.hid h; clear h
  have TT := Lib.hid ht; clear ht
  have SY := Lib.hid (fun k h => sdV_yes d.t k h); have SN := Lib.hid (fun k h => sdV_no d.t k h)
  have SL : Hid (∀ k, (sdV d.t k).length ≤ k) := Lib.hid (fun k => by rw [sdV_len]; exact sdL_len d.t k)
  have S0 : Hid (sdV d.t 0 = []) := (rfl : sdV d.t 0 = [])
  go_enter Tryz.func34, Tryz.ntmps34
  go_wp2
  obtain ⟨w1, hw_w1⟩ : ∃ q, q = (w.alloc (.cells #[.int .i64 d.ck, .slice A d.n c] 33)) := ⟨_, rfl⟩
  rw [← hw_w1]
  have q10 : w1.cell? ⟨w.heap.size, 0, none⟩ = some (.int .i64 d.ck) := by rw [hw_w1]; simp [go_sem]
  have q11 : w1.cell? ⟨w.heap.size, 1, none⟩ = some (.slice A d.n c) := by rw [hw_w1]; simp [go_sem]
  have H1 : Hid (Below w.heap.size w w1) := Lib.hid (by rw [hw_w1]; exact (by repeat (first | exact Below.refl _ _ | refine Below.drew ?_ | refine below_drewN ?_ _ | refine Below.setCell ?_ (by first | omega | (simp; done) | (simp; omega)) _ | refine Below.alloc ?_ (by first | omega | (simp; done) | (simp; omega)) _)))
  have z1 : w1.heap.size = w.heap.size + 1 := by rw [hw_w1]; simp
  clear hw_w1
  go_loopw [3, 4] (fun s3 s4 wr => ∃ (k : Nat) (v : Value), v = s3 ∧ k ≤ d.n ∧ s4 = .int .i64 (k : Int) ∧ wr.ownsRow w1.heap.size 3 1 v (sdV d.t k).length (sdV d.t k) ∧ Below w1.heap.size w1 wr) (fun _ s4 _ => d.n - (intOf s4).toNat)
  case atStart => exact ⟨0, _, rfl, Nat.zero_le _, rfl, by rw [S0.out]; exact World.ownsRow_nil _ _ _ _, Below.refl _ _⟩
  case round =>
    obtain ⟨k, v, rfl, hk, rfl, hown, hb⟩ := hrel
    have sz := hb.size
    have HB := Lib.hid hb
    have HW : Hid (Below w.heap.size w wr) := Lib.hid (below_then H1.out hb)
    have r0 := cell_later hb q10; have r1 := cell_later hb q11
    have zr := World.block_lt_of_cell? _ _ r0
    dsimp only at zr
    have ag := Lib.hid (fun q e => (hown.lt q e).1)
    by_cases hlt : k < d.n
    · obtain ⟨ad, rfl⟩ := HX.out.some (by omega)
      have e0 := (HX.out.later HW.out).at hlt
      have j0 : (0 : Int) ≤ (k : Int) := Int.natCast_nonneg _
      have j1 : (k : Int) < (d.n : Int) := by omega
      have j8 : (k : Int) < 1000 := by omega
      have tt := TT.out k hlt
      clear hb
      by_cases hg : d.t k = -1
      · have n1 : decide ((0 : Int) ≤ d.t k) = false := by simp; omega
        have FE := Lib.hid (SN.out k hg)
        clear tt
        generalize d.t k = x at *
        clear hg
        go_wp2
        go_roundw
        case rel => exact ⟨k + 1, _, rfl, by omega, by go_num, by rw [FE.out]; exact hown, HB.out⟩
        case measure => simp [intOf]; omega
      · have n1 : decide ((0 : Int) ≤ d.t k) = true := by simp; omega
        have FE := Lib.hid (SY.out k hg)
        have fl := SL.out k
        clear tt hg
        generalize d.t k = x at *
        have bm6 : ((sdV d.t k).length + 1 : Nat) ≤ maxLen := by unfold maxLen; omega
        have BM6 := Lib.hid bm6; clear bm6
        have nb6 : ∀ j u, (#[.int .i64 (k : Int)] : Array Value).toList[j]? = some u → (wr.alloc (.cells #[.int .i64 (k : Int)] 3)).cell? ((⟨wr.heap.size, 0, none⟩ : Addr).add j) = some u :=
          World.news_of_block (t := 3) (fr := (0, 0)) (by have h := heap_alloc_new wr (.cells #[.int .i64 (k : Int)] 3); simpa using h)
        have NB6 := Lib.hid nb6; clear nb6
        go_wp2_with (at_builtin; refine wpList_append_lies _ rfl _ _ _ rfl (w1.heap.size) 3 j0_ _ 1 8 Tryz.underlying31 JI0.out JZ0.out JZ1.out JZ2.out rfl (by omega) v ((sdV d.t k).length) (sdV d.t k) rfl (hown.alloc _) ⟨wr.heap.size, 0, none⟩ 1 1 [.int .i64 (k : Int)] rfl rfl NB6.out (by simp [Value.oneCell']) (by omega) BM6.out (by omega) (by simp; omega) (wr.heap.size + 1) (by simp) ?_; intro g6 cap6 w6 hown6 hgrow6 hat6 hlt6)
        have HO6 := Lib.hid hown6; clear hown6
        have HG6 := Lib.hid hgrow6; clear hgrow6 hat6 hlt6
        go_roundw
        case rel => exact ⟨k + 1, _, rfl, by omega, by go_num, by rw [FE.out, List.length_append]; exact HO6.out, (HB.out.alloc (by omega) _).grown HG6.out (by simp; omega) (fun q e => ag.out q e)⟩
        case measure => simp [intOf]; omega
    · have hk' : k = d.n := by omega
      have kk : decide ((k : Int) < (d.n : Int)) = false := by simp; omega
      subst hk'
      go_wp2
      go_ret
      exact ⟨_, rfl, own_base hown H1.out.size, HW.out⟩
set_option maxRecDepth 100000 in
set_option maxHeartbeats 1000000 in
theorem refRounded_any (x : Wy) (o : x.ok) (w : World) :
    Calls Tryz.prog 91 #[.agg #[.int .i64 x.m.wd, .int .i64 x.m.mt, .int .i64 x.m.sk, .int .i64 x.m.th], .agg #[.int .i64 x.fx, .int .i64 x.fz], .agg #[.int .i64 x.tx, .int .i64 x.tz]] w fun e w' => e = .returned (.int .i64 ((x.cr.lLo + x.cr.lHi) / 2)) ∧ Below w.heap.size w w' := by
  have lb := l_bounds x.cr (cr_ok x o)
  have HL := Lib.hid (fun w => refLeastTime_any x o w)
  generalize x.cr.lLo = lo at *
  generalize x.cr.lHi = hi at *
  obtain ⟨b1, b2, b3, b4⟩ := lb
  clear o
  go_enter Tryz.func91, Tryz.ntmps91
  go_wp2_with fail
  refine (HL.out _).mono ?_
  rintro e w1 ⟨rfl, hb1⟩

  have H1 : Hid (Below w.heap.size w w1) := Lib.hid (below_after (by repeat (first | exact Below.refl _ _ | refine Below.drew ?_ | refine below_drewN ?_ _ | refine Below.setCell ?_ (by first | omega | (simp; done) | (simp; omega)) _ | refine Below.alloc ?_ (by first | omega | (simp; done) | (simp; omega)) _)) hb1 (by first | omega | (simp; done) | (simp; omega))); clear hb1
  go_wp2_with (go_at_call 83; refine (floor_any _ _ _ (by omega) (by omega) (by omega) (by omega)).mono ?_; rintro e w' ⟨rfl, rfl⟩)
  go_ret
  exact ⟨rfl, (by (repeat (first | (with_reducible exact H1.out) | (with_reducible refine Below.setCell ?_ ?_ _) | (with_reducible refine below_alloc_top ?_ _) | (with_reducible refine Below.drew ?_))); all_goals (first | omega | (simp; done) | (simp; omega)))⟩
/-- the error of a place of an array -/
def plE (a : La) (f : Sp) : Int := if placeE f.x f.z = 0 then unl (inB f.z 1 (a.m.th - 1)) 22 else placeE f.x f.z
set_option maxRecDepth 100000 in
set_option maxHeartbeats 1000000 in
theorem rPlace_any (a : La) (f : Sp) (A : Option Addr) (c : Nat) (w : World) (o : a.m.ok) :
    Calls Tryz.prog 24 #[.agg #[.slice A a.n c, .int .i64 a.m.wd, .int .i64 a.m.mt, .int .i64 a.m.sk, .int .i64 a.m.th, .int .i64 a.ck], .agg #[.int .i64 f.x, .int .i64 f.z]] w fun e w' => e = .returned (.int .i64 (plE a f)) ∧ Below w.heap.size w w' := by
  have d1 := o.d1; have d2 := o.d2
  have HS := Lib.hid (fun w => spotErr_any f.x f.z w)
  unfold plE
  generalize a.m.th = th at *
  generalize f.x = px at *
  generalize f.z = pz at *
  generalize placeE px pz = u at *
  clear o
  by_cases hu : u = 0
  · subst hu
    rw [if_pos rfl]
    cases hi : inB pz 1 (th - 1)
    all_goals
      have HI := Lib.hid hi
      clear hi
      go_enter Tryz.func24, Tryz.ntmps24
      go_wp2_with fail
      refine (HS.out _).mono ?_
      rintro e w1 ⟨rfl, hb1⟩
      have k3 : w1.cell? ⟨w.heap.size, 4, none⟩ = some (.int .i64 th) := cell_later hb1 (by simp [go_sem])
      have k4 : w1.cell? ⟨w.heap.size + 1, 1, none⟩ = some (.int .i64 pz) := cell_later hb1 (by simp [go_sem])
      have H1 : Hid (Below w.heap.size w w1) := Lib.hid (below_after (by repeat (first | exact Below.refl _ _ | refine Below.drew ?_ | refine below_drewN ?_ _ | refine Below.setCell ?_ (by first | omega | (simp; done) | (simp; omega)) _ | refine Below.alloc ?_ (by first | omega | (simp; done) | (simp; omega)) _)) hb1 (by first | omega | (simp; done) | (simp; omega))); clear hb1
      go_wp2_with (go_at_call 16; (with_reducible refine (within_any _ _ _ _).mono ?_); rw [HI.out]; rintro e w' ⟨rfl, rfl⟩)
      go_ret
      exact ⟨rfl, H1.out⟩
  · rw [if_neg hu]
    have n1 : (u != 0) = true := by simpa using hu
    go_enter Tryz.func24, Tryz.ntmps24
    go_wp2_with fail
    refine (HS.out _).mono ?_
    rintro e w1 ⟨rfl, hb1⟩
    have H1 : Hid (Below w.heap.size w w1) := Lib.hid (below_after (by repeat (first | exact Below.refl _ _ | refine Below.drew ?_ | refine below_drewN ?_ _ | refine Below.setCell ?_ (by first | omega | (simp; done) | (simp; omega)) _ | refine Below.alloc ?_ (by first | omega | (simp; done) | (simp; omega)) _)) hb1 (by first | omega | (simp; done) | (simp; omega))); clear hb1
    go_wp2
    go_ret
    exact ⟨rfl, H1.out⟩
theorem fe_place (a : La) (f : Sp) (h : a.E = 0) : a.fe f = plE a f := by
  obtain ⟨⟨n0, n1⟩, he, o, _, _⟩ := (La.E_zero a).1 h
  have key : ∀ i, i < a.n → a.e f i = plE a f := fun i hi => by
    have q := he i hi
    unfold elE at q
    rw [fst_zero] at q
    simp only [List.mem_cons, List.not_mem_nil, or_false, forall_eq_or_imp, forall_eq] at q
    obtain ⟨q1, q2⟩ := q
    have dp : dpB f.z a.m.th = inB f.z 1 (a.m.th - 1) := by
      unfold dpB inB
      congr 1
      all_goals exact decide_eq_decide.2 (by omega)
    show fst [moE a.m, fst [placeE (a.p i).x (a.p i).z, placeE f.x f.z, unl (decide ((a.p i).z < 0)) 15, unl (dpB f.z a.m.th) 22]] = _
    rw [(moE_ok a.m).2 o, q1, q2, dp]
    unfold plE
    by_cases r : placeE f.x f.z = 0
    · rw [if_pos r, r]
      by_cases s : unl (inB f.z 1 (a.m.th - 1)) 22 = 0 <;> simp [fst, s]
    · rw [if_neg r]; simp [fst, r]
  unfold La.fe
  obtain ⟨m, hm⟩ : ∃ m, a.n = m + 1 := ⟨a.n - 1, by omega⟩
  by_cases r : plE a f = 0
  · rw [r, ffE_zero]; exact fun j hj => (key j hj).trans r
  · rw [hm]
    show (if a.e f 0 = 0 then _ else a.e f 0) = _
    rw [key 0 n0, if_neg r]
/-- the latest of the first times -/
def La.mst (a : La) (f : Sp) : Nat → Int
  | 0 => 0
  | k + 1 => max (a.mst f k) (a.rt f k)
theorem mvs_nx (l : Nat → Int) (k : Nat) : mvs l (k + 1) = mvs l k ++ [.int .i64 (l k)] := by simp [mvs, List.range_succ]
theorem mst_bounds (a : La) (f : Sp) (n : Nat) (h : ∀ i, i < n → a.e f i = 0) : 0 ≤ a.mst f n ∧ a.mst f n ≤ 100000000000000 := by
  induction n with
  | zero => show (0 : Int) ≤ 0 ∧ (0 : Int) ≤ _; omega
  | succ n ih =>
    have e : a.mst f (n + 1) = max (a.mst f n) (a.rt f n) := rfl
    have := ih (fun i hi => h i (by omega)); have := rt_bounds a f n (h n (by omega)); omega
theorem mst_neg (a : La) (f : Sp) (n : Nat) (hn : 0 < n) (h : ∀ i, i < n → a.e f i = 0) : a.mst f n = -(mnL (a.mo f) n) := by
  induction n with
  | zero => omega
  | succ n ih =>
    have e : a.mst f (n + 1) = max (a.mst f n) (a.rt f n) := rfl
    have e2 : mnL (a.mo f) (n + 1) = min (mnL (a.mo f) n) (a.mo f n) := rfl
    have e3 : a.mo f n = -(a.rt f n) := rfl
    have b := rt_bounds a f n (h n (by omega))
    by_cases q : n = 0
    · subst q
      have e4 : mnL (a.mo f) 0 = a.mo f 0 := rfl
      have e5 : a.mst f 0 = 0 := rfl
      omega
    · have := ih (by omega) (fun i hi => h i (by omega)); omega
theorem rl_lo (l : Nat → Int) (n : Nat) (hn : 0 < n) : rlE l n = loE l n := by
  unfold loE
  by_cases q : 1000000 < mxL l n
  · rw [if_pos q]
    obtain ⟨i, hi, h⟩ := (big_iff l n hn).1 q
    exact rlE_no l n i hi h
  · rw [if_neg q]
    refine rlE_yes l n fun i hi => ?_
    by_cases r : 1000000 < l i
    · exact absurd ((big_iff l n hn).2 ⟨i, hi, r⟩) q
    · omega
/-- what the reference's law of a focus is: the law, or nothing -/
def foPost (ck : Int) (l : Nat → Int) (n : Nat) (E : Int) (w : World) (e : Ending) (w' : World) : Prop :=
  ∃ (A : Option Addr) (m c : Nat), e = .returned (.tuple #[.agg #[.int .i64 (if E = 0 then ck else 0), .slice A m c], .int .i64 E]) ∧ (E = 0 → m = n ∧ InAt A n l w') ∧ (E ≠ 0 → A = none ∧ m = 0 ∧ c = 0) ∧ (∀ a, A = some a → w.heap.size ≤ a.block) ∧ (∀ a, A = some a → a.block < w'.heap.size) ∧ Below w.heap.size w w'
set_option maxRecDepth 100000 in
set_option maxHeartbeats 4000000 in
theorem rFocus_any (a : La) (f : Sp) (ad : Addr) (c : Nat) (w : World) (hE : a.E = 0) (hf : a.fe f = 0) (h : SpAt (some ad) a.n a.p w) :
    Calls Tryz.prog 62 #[.agg #[.slice (some ad) a.n c, .int .i64 a.m.wd, .int .i64 a.m.mt, .int .i64 a.m.sk, .int .i64 a.m.th, .int .i64 a.ck], .agg #[.int .i64 f.x, .int .i64 f.z]] w fun e w' => foPost a.ck (a.dl f) a.n (a.FLE f) w e w' := by
  obtain ⟨j0_, ji0, jz0, jz1, jz2⟩ := info_parts infoJ
  have JI0 := Lib.hid ji0; have JZ0 := Lib.hid jz0; have JZ1 := Lib.hid jz1; have JZ2 := Lib.hid jz2
  clear ji0 jz0 jz1 jz2
  have HX := Lib.hid h; clear h
  obtain ⟨⟨n0, n1⟩, _, _, ck0, ck1⟩ := (La.E_zero a).1 hE
  have he := (ffE_zero (a.e f) a.n).1 hf
  have HRR : Hid (∀ i, i < a.n → ∀ w, Calls Tryz.prog 91 #[.agg #[.int .i64 a.m.wd, .int .i64 a.m.mt, .int .i64 a.m.sk, .int .i64 a.m.th], .agg #[.int .i64 (a.p i).x, .int .i64 (a.p i).z], .agg #[.int .i64 f.x, .int .i64 f.z]] w fun e w' => e = .returned (.int .i64 (a.rt f i)) ∧ Below w.heap.size w w') := Lib.hid (fun i hi w => refRounded_any (a.y f i) (wyE_zero_ok _ (he i hi)) w)
  have RB := Lib.hid (fun i (hi : i < a.n) => rt_bounds a f i (he i hi))
  have MS0 : Hid (a.mst f 0 = 0) := Lib.hid rfl
  have MS : Hid (∀ k, a.mst f (k + 1) = max (a.mst f k) (a.rt f k)) := Lib.hid (fun k => rfl)
  have MB := Lib.hid (fun k (hk : k ≤ a.n) => mst_bounds a f k (fun i hi => he i (by omega)))
  have DL : Hid (∀ i, a.dl f i = (2 * (a.mst f a.n - a.rt f i) + a.ck) / (2 * a.ck)) := Lib.hid (fun i => by
    have e1 : a.dl f i = (2 * (a.mo f i - mnL (a.mo f) a.n) + a.ck) / (2 * a.ck) := rfl
    have e2 : a.mo f i = -(a.rt f i) := rfl
    rw [e1, mst_neg a f a.n n0 he, e2]
    congr 2
    omega)
  have EF : a.FLE f = rlE (a.dl f) a.n := by
    unfold La.FLE La.FE; rw [if_pos hE, if_pos hf, rl_lo _ _ n0]
  have RL := Lib.hid (fun A c w h => rLawOf_any a.ck A a.n c (a.dl f) w (by omega) h)
  rw [EF]
  generalize rlE (a.dl f) a.n = E at *
  obtain ⟨u, hu⟩ : ∃ u, u = a.dl f := ⟨_, rfl⟩
  rw [← hu] at DL RL ⊢
  obtain ⟨rt, hrt⟩ : ∃ rt, rt = a.rt f := ⟨_, rfl⟩
  rw [← hrt] at HRR RB MS DL
  have XT := Lib.hid (fun k => mvs_nx rt k)
  have X0 : Hid (mvs rt 0 = []) := (rfl : mvs rt 0 = [])
  have XL := Lib.hid (fun k => mvs_len rt k)
  have YT := Lib.hid (fun k => mvs_nx u k)
  have Y0 : Hid (mvs u 0 = []) := (rfl : mvs u 0 = [])
  have YL := Lib.hid (fun k => mvs_len u k)
  clear hE hf he EF hu hrt
  go_enter Tryz.func62, Tryz.ntmps62
  go_wp2
  obtain ⟨w1, hw_w1⟩ : ∃ q, q = (((w.alloc (.cells #[.slice (some ad) a.n c, .int .i64 a.m.wd, .int .i64 a.m.mt, .int .i64 a.m.sk, .int .i64 a.m.th, .int .i64 a.ck] 26)).alloc (.cells #[.int .i64 f.x, .int .i64 f.z] 45)).alloc (.cells #[.int .i64 0, .slice none 0 0] 33)) := ⟨_, rfl⟩
  rw [← hw_w1]
  have q10 : w1.cell? ⟨w.heap.size, 0, none⟩ = some (.slice (some ad) a.n c) := by rw [hw_w1]; simp [go_sem]
  have q11 : w1.cell? ⟨w.heap.size, 1, none⟩ = some (.int .i64 a.m.wd) := by rw [hw_w1]; simp [go_sem]
  have q12 : w1.cell? ⟨w.heap.size, 2, none⟩ = some (.int .i64 a.m.mt) := by rw [hw_w1]; simp [go_sem]
  have q13 : w1.cell? ⟨w.heap.size, 3, none⟩ = some (.int .i64 a.m.sk) := by rw [hw_w1]; simp [go_sem]
  have q14 : w1.cell? ⟨w.heap.size, 4, none⟩ = some (.int .i64 a.m.th) := by rw [hw_w1]; simp [go_sem]
  have q15 : w1.cell? ⟨w.heap.size, 5, none⟩ = some (.int .i64 a.ck) := by rw [hw_w1]; simp [go_sem]
  have q16 : w1.cell? ⟨w.heap.size + 1, 0, none⟩ = some (.int .i64 f.x) := by rw [hw_w1]; simp [go_sem]
  have q17 : w1.cell? ⟨w.heap.size + 1, 1, none⟩ = some (.int .i64 f.z) := by rw [hw_w1]; simp [go_sem]
  have q18 : w1.cell? ⟨w.heap.size + 1 + 1, 0, none⟩ = some (.int .i64 0) := by rw [hw_w1]; simp [go_sem]
  have q19 : w1.cell? ⟨w.heap.size + 1 + 1, 1, none⟩ = some (.slice none 0 0) := by rw [hw_w1]; simp [go_sem]
  have qf10 : w1.frozen? ⟨w.heap.size + 1 + 1, 0, none⟩ = false := by rw [hw_w1]; simp [go_sem]
  have qf11 : w1.frozen? ⟨w.heap.size + 1 + 1, 1, none⟩ = false := by rw [hw_w1]; simp [go_sem]
  have H1 : Hid (Below w.heap.size w w1) := Lib.hid (by rw [hw_w1]; exact (by repeat (first | exact Below.refl _ _ | refine Below.drew ?_ | refine below_drewN ?_ _ | refine Below.setCell ?_ (by first | omega | (simp; done) | (simp; omega)) _ | refine Below.alloc ?_ (by first | omega | (simp; done) | (simp; omega)) _)))
  have z1 : w1.heap.size = w.heap.size + 3 := by rw [hw_w1]; simp
  clear hw_w1
  go_loopw [6, 7, 8] (fun s6 s7 s8 wr => ∃ (k : Nat) (v : Value), v = s6 ∧ k ≤ a.n ∧ s7 = .int .i64 (a.mst f k) ∧ s8 = .int .i64 (k : Int) ∧ wr.ownsRow w1.heap.size 3 1 v k (mvs rt k) ∧ Below w1.heap.size w1 wr) (fun _ _ s8 _ => a.n - (intOf s8).toNat)
  case atStart => exact ⟨0, _, rfl, Nat.zero_le _, by rw [MS0.out], rfl, by rw [X0.out]; exact World.ownsRow_nil _ _ _ _, Below.refl _ _⟩
  case round =>
    obtain ⟨k, v, rfl, hk, rfl, rfl, hown, hb⟩ := hrel
    have HB := Lib.hid hb
    have HW : Hid (Below w.heap.size w wr) := Lib.hid (below_then H1.out hb)
    have r0 : wr.cell? ⟨w.heap.size, 0, none⟩ = some (.slice (some ad) a.n c) := cell_later hb q10
    have r1 : wr.cell? ⟨w.heap.size, 1, none⟩ = some (.int .i64 a.m.wd) := cell_later hb q11
    have r2 : wr.cell? ⟨w.heap.size, 2, none⟩ = some (.int .i64 a.m.mt) := cell_later hb q12
    have r3 : wr.cell? ⟨w.heap.size, 3, none⟩ = some (.int .i64 a.m.sk) := cell_later hb q13
    have r4 : wr.cell? ⟨w.heap.size, 4, none⟩ = some (.int .i64 a.m.th) := cell_later hb q14
    have r5 : wr.cell? ⟨w.heap.size, 5, none⟩ = some (.int .i64 a.ck) := cell_later hb q15
    have r6 : wr.cell? ⟨w.heap.size + 1, 0, none⟩ = some (.int .i64 f.x) := cell_later hb q16
    have r7 : wr.cell? ⟨w.heap.size + 1, 1, none⟩ = some (.int .i64 f.z) := cell_later hb q17
    have r8 : wr.cell? ⟨w.heap.size + 1 + 1, 0, none⟩ = some (.int .i64 0) := cell_later hb q18
    have r9 : wr.cell? ⟨w.heap.size + 1 + 1, 1, none⟩ = some (.slice none 0 0) := cell_later hb q19
    have rf0 : wr.frozen? ⟨w.heap.size + 1 + 1, 0, none⟩ = false := frozen_after hb q18 qf10
    have rf1 : wr.frozen? ⟨w.heap.size + 1 + 1, 1, none⟩ = false := frozen_after hb q19 qf11
    have zr0 := World.block_lt_of_cell? _ _ r0
    dsimp only at zr0
    have zr1 := World.block_lt_of_cell? _ _ r6
    dsimp only at zr1
    have zr2 := World.block_lt_of_cell? _ _ r8
    dsimp only at zr2
    clear hb
    by_cases hlt : k < a.n
    · obtain ⟨c0, c1⟩ := (HX.out.later HW.out).at hlt
      have j0 : (0 : Int) ≤ (k : Int) := Int.natCast_nonneg _
      have j1 : (k : Int) < (a.n : Int) := by omega
      have j8 : (k : Int) < 1000 := by omega
      have RK := Lib.hid (HRR.out k hlt)
      obtain ⟨b0, b1⟩ := RB.out k hlt
      have MK := Lib.hid (MS.out k)
      obtain ⟨m0, m1⟩ := MB.out k (by omega)
      have HO := Lib.hid hown; clear hown
      generalize a.mst f k = mk at *
      obtain ⟨y, hy⟩ : ∃ y, y = rt k := ⟨_, rfl⟩
      have HY := Lib.hid hy
      rw [← hy] at RK MK b0 b1
      clear hy
      generalize (a.p k).x = px at *
      generalize (a.p k).z = pz at *
      have hS : Below wr.heap.size wr wr := Below.refl _ _
      go_upto_region 6 with fail
      go_region_held3 (fun w' => w'.cell? ⟨w.heap.size, 0, none⟩ = some (.slice (some ad) a.n c) ∧ w'.cell? ⟨w.heap.size, 1, none⟩ = some (.int .i64 a.m.wd) ∧ w'.cell? ⟨w.heap.size, 2, none⟩ = some (.int .i64 a.m.mt) ∧ w'.cell? ⟨w.heap.size, 3, none⟩ = some (.int .i64 a.m.sk) ∧ w'.cell? ⟨w.heap.size, 4, none⟩ = some (.int .i64 a.m.th) ∧ w'.cell? ⟨w.heap.size, 5, none⟩ = some (.int .i64 a.ck) ∧ w'.cell? ⟨w.heap.size + 1, 0, none⟩ = some (.int .i64 f.x) ∧ w'.cell? ⟨w.heap.size + 1, 1, none⟩ = some (.int .i64 f.z) ∧ w'.cell? (ad.add (k * 2)) = some (.int .i64 px) ∧ w'.cell? ⟨(ad.add (k * 2)).block, (ad.add (k * 2)).off + 1, none⟩ = some (.int .i64 pz) ∧ Below wr.heap.size wr w') ((go_split_ands; (repeat' apply And.intro) <;> ((repeat (first | (with_reducible assumption) | (with_reducible refine cell_alloc_later ?_ _) | (with_reducible refine cell_drw2 ?_) | (with_reducible exact cell_later (by with_reducible assumption) (by with_reducible assumption)) | (with_reducible exact below_then (by with_reducible assumption) (by with_reducible assumption)) | (with_reducible refine Below.drew ?_) | (simp [go_sem, World.cell?_alloc_past, *]; done))); done)))
        ((go_split_ands; go_at_call 91; (with_reducible refine (RK.out _).mono ?_); rintro e w' ⟨rfl, hb⟩))
      go_split_ands
      have yT : Below wr.heap.size wr w' := by first | (with_reducible assumption) | (with_reducible exact Below.drew (by with_reducible assumption))
      have OT := Lib.hid (own_later HO.out yT)
      have zT := yT.size
      have BT := Lib.hid (Below.trans HB.out (yT.mono HB.out.size))
      have ag := Lib.hid (fun q e => (OT.out.lt q e).1)
      clear yT
      have bm6 : (k + 1 : Nat) ≤ maxLen := by unfold maxLen; omega
      have BM6 := Lib.hid bm6; clear bm6
      have nb6 : ∀ j u, (#[.int .i64 y] : Array Value).toList[j]? = some u → (w'.alloc (.cells #[.int .i64 y] 3)).cell? ((⟨w'.heap.size, 0, none⟩ : Addr).add j) = some u :=
        World.news_of_block (t := 3) (fr := (0, 0)) (by have h := heap_alloc_new w' (.cells #[.int .i64 y] 3); simpa using h)
      have NB6 := Lib.hid nb6; clear nb6
      go_wp2_with (at_builtin; refine wpList_append_lies _ rfl _ _ _ rfl (w1.heap.size) 3 j0_ _ 1 8 Tryz.underlying31 JI0.out JZ0.out JZ1.out JZ2.out rfl (by omega) v (k) (mvs rt k) rfl (OT.out.alloc _) ⟨w'.heap.size, 0, none⟩ 1 1 [.int .i64 y] rfl rfl NB6.out (by simp [Value.oneCell']) (by omega) BM6.out (by omega) (by simp; omega) (w'.heap.size + 1) (by simp) ?_; intro g6 cap6 w6 hown6 hgrow6 hat6 hlt6)
      have HO6 := Lib.hid hown6; clear hown6
      have HG6 := Lib.hid hgrow6; clear hgrow6 hat6 hlt6
      go_roundw
      case rel => exact ⟨k + 1, _, rfl, by omega, by rw [MK.out], by go_num, by rw [XT.out, ← HY.out]; exact HO6.out, (BT.out.alloc (by omega) _).grown HG6.out (by simp; omega) (fun q e => ag.out q e)⟩
      case measure => simp [intOf]; omega
    · have hk' : k = a.n := by omega
      have kk : decide ((k : Int) < (a.n : Int)) = false := by simp; omega
      subst hk'
      obtain ⟨gt, ct, rfl, hg0, hg1, hR⟩ := own_row hown n0
      have HR := Lib.hid hR
      obtain ⟨M0, M1⟩ := MB.out a.n (Nat.le_refl _)
      generalize a.mst f a.n = most at *
      clear hown hR MS MS0 MB
      obtain ⟨wp, hwp⟩ : ∃ q, q = wr := ⟨_, rfl⟩
      subst hwp
      go_wp2_with fail
      go_loopw [10, 11] (fun s10 s11 wr => ∃ (j : Nat) (v : Value), v = s10 ∧ j ≤ a.n ∧ s11 = .int .i64 (j : Int) ∧ wr.ownsRow wp.heap.size 3 1 v j (mvs u j) ∧ Below wp.heap.size wp wr) (fun _ s11 _ => a.n - (intOf s11).toNat)
      case atStart => exact ⟨0, _, rfl, Nat.zero_le _, rfl, by rw [Y0.out]; exact World.ownsRow_nil _ _ _ _, Below.refl _ _⟩
      case round =>
        obtain ⟨j, v, rfl, hj, rfl, hown, hb⟩ := hrel
        have sz := hb.size
        have HBq := Lib.hid hb
        have HWq : Hid (Below w.heap.size w wr) := Lib.hid (below_then HW.out hb)
        have ag := Lib.hid (fun q e => (hown.lt q e).1)
        have AG : Hid (∀ q, v.ownBlock = some q → wp.heap.size ≤ q) := Lib.hid (fun q e => (hown.lt q e).1)
        have s0 : wr.cell? ⟨w.heap.size, 0, none⟩ = some (.slice (some ad) a.n c) := cell_later hb r0
        have s1 : wr.cell? ⟨w.heap.size, 1, none⟩ = some (.int .i64 a.m.wd) := cell_later hb r1
        have s2 : wr.cell? ⟨w.heap.size, 2, none⟩ = some (.int .i64 a.m.mt) := cell_later hb r2
        have s3 : wr.cell? ⟨w.heap.size, 3, none⟩ = some (.int .i64 a.m.sk) := cell_later hb r3
        have s4 : wr.cell? ⟨w.heap.size, 4, none⟩ = some (.int .i64 a.m.th) := cell_later hb r4
        have s5 : wr.cell? ⟨w.heap.size, 5, none⟩ = some (.int .i64 a.ck) := cell_later hb r5
        have s6 : wr.cell? ⟨w.heap.size + 1, 0, none⟩ = some (.int .i64 f.x) := cell_later hb r6
        have s7 : wr.cell? ⟨w.heap.size + 1, 1, none⟩ = some (.int .i64 f.z) := cell_later hb r7
        have s8 : wr.cell? ⟨w.heap.size + 1 + 1, 0, none⟩ = some (.int .i64 0) := cell_later hb r8
        have s9 : wr.cell? ⟨w.heap.size + 1 + 1, 1, none⟩ = some (.slice none 0 0) := cell_later hb r9
        have sf0 : wr.frozen? ⟨w.heap.size + 1 + 1, 0, none⟩ = false := frozen_after hb r8 rf0
        have sf1 : wr.frozen? ⟨w.heap.size + 1 + 1, 1, none⟩ = false := frozen_after hb r9 rf1
        have zs0 := World.block_lt_of_cell? _ _ s0
        dsimp only at zs0
        have zs1 := World.block_lt_of_cell? _ _ s6
        dsimp only at zs1
        have zs2 := World.block_lt_of_cell? _ _ s8
        dsimp only at zs2
        by_cases hlt : j < a.n
        · have e0 := (HR.out.later hb j hlt).1
          have j0 : (0 : Int) ≤ (j : Int) := Int.natCast_nonneg _
          have j1 : (j : Int) < (a.n : Int) := by omega
          have j8 : (j : Int) < 1000 := by omega
          obtain ⟨b0, b1⟩ := RB.out j hlt
          have DJ := Lib.hid (DL.out j)
          clear hb
          generalize rt j = x at *
          have RJ := Lib.hid (fun w => rRound_any (most - x) a.ck w (by omega) (by omega) ck0 ck1)
          obtain ⟨dj, hdj⟩ : ∃ dj, dj = u j := ⟨_, rfl⟩
          have DD := Lib.hid hdj
          rw [← DJ.out, ← hdj] at RJ
          clear hdj
          have v1 : IntKind.i64.wrap (most - x) = most - x := IntWalk.i64_in _ (by omega)
          have bm6 : (j + 1 : Nat) ≤ maxLen := by unfold maxLen; omega
          have BM6 := Lib.hid bm6; clear bm6
          clear s0 s1 s2 s3 s4 s6 s7 s8 s9 sf0 sf1
          go_wp2_with fail
          go_region_held3 (fun w' => w'.cell? ⟨w.heap.size, 5, none⟩ = some (.int .i64 a.ck) ∧ w'.cell? ⟨gt, j, none⟩ = some (.int .i64 x))
            (first
              | ((go_split_ands; (repeat' apply And.intro) <;> ((repeat (first | (with_reducible assumption) | (with_reducible refine cell_alloc_later ?_ _) | (with_reducible refine cell_drw2 ?_) | (simp [go_sem, World.cell?_alloc_past, *]; done))); done)))
              | (go_split_ands; (repeat' apply And.intro) <;> (refine World.grownBy.cell hgrow6 (by first | (with_reducible assumption) | (with_reducible exact cell_alloc_later (by with_reducible assumption) _)) (fun e => by have q := AG.out _ e.symm; (try dsimp only at q); omega))))
            (first | (go_at_call 47; (with_reducible refine (RJ.out _).mono ?_); rintro e w' ⟨rfl, rfl⟩) | (refine step_append_lies _ (by rfl) _ _ _ (by rfl) wp.heap.size 3 j0_ _ 1 8 Tryz.underlying31 JI0.out JZ0.out JZ1.out JZ2.out rfl (by omega) v j (mvs u j) (by rfl) (by first | exact hown.alloc _ | exact (hown.alloc _).drew) ⟨wr.heap.size, 0, none⟩ 1 1 [.int .i64 dj] (by rfl) (by rfl) (World.news_of_block (cs := #[.int .i64 dj]) (t := 3) (fr := (0, 0)) (heap_alloc_new wr _)) (by simp [Value.oneCell']) (by omega) BM6.out (by omega) (by simp; omega) (wr.heap.size + 1) (by simp) ?_; intro g6 cap6 w6 hown6 hgrow6 hat6 hlt6))
          have HO6 := Lib.hid hown6; clear hown6
          have HG6 := Lib.hid hgrow6; clear hgrow6 hat6 hlt6
          go_wp2
          go_roundw
          case rel => exact ⟨j + 1, _, rfl, by omega, by go_num, by rw [YT.out, ← DD.out]; exact HO6.out, by first | exact (HBq.out.alloc (by omega) _).drew.grown HG6.out (by simp; omega) (fun q e => ag.out q e) | exact (HBq.out.alloc (by omega) _).grown HG6.out (by simp; omega) (fun q e => ag.out q e)⟩
          case measure => simp [intOf]; omega
        · have hj' : j = a.n := by omega
          have kj : decide ((j : Int) < (a.n : Int)) = false := by simp; omega
          subst hj'
          obtain ⟨gd, cd, rfl, hd0, hd1, hD⟩ := own_row hown n0
          have HD := Lib.hid hD
          clear hown hb hD
          go_wp2_with fail
          refine (RL.out _ _ _ HD.out.at).mono ?_
          rintro e_ w2 ⟨A5, n5, c5, rfl, hgd, hbd, hb2⟩
          have t0 : w2.cell? ⟨w.heap.size, 0, none⟩ = some (.slice (some ad) a.n c) := cell_later hb2 s0
          have t1 : w2.cell? ⟨w.heap.size, 1, none⟩ = some (.int .i64 a.m.wd) := cell_later hb2 s1
          have t2 : w2.cell? ⟨w.heap.size, 2, none⟩ = some (.int .i64 a.m.mt) := cell_later hb2 s2
          have t3 : w2.cell? ⟨w.heap.size, 3, none⟩ = some (.int .i64 a.m.sk) := cell_later hb2 s3
          have t4 : w2.cell? ⟨w.heap.size, 4, none⟩ = some (.int .i64 a.m.th) := cell_later hb2 s4
          have t5 : w2.cell? ⟨w.heap.size, 5, none⟩ = some (.int .i64 a.ck) := cell_later hb2 s5
          have t6 : w2.cell? ⟨w.heap.size + 1, 0, none⟩ = some (.int .i64 f.x) := cell_later hb2 s6
          have t7 : w2.cell? ⟨w.heap.size + 1, 1, none⟩ = some (.int .i64 f.z) := cell_later hb2 s7
          have t8 : w2.cell? ⟨w.heap.size + 1 + 1, 0, none⟩ = some (.int .i64 0) := cell_later hb2 s8
          have t9 : w2.cell? ⟨w.heap.size + 1 + 1, 1, none⟩ = some (.slice none 0 0) := cell_later hb2 s9
          have tf0 : w2.frozen? ⟨w.heap.size + 1 + 1, 0, none⟩ = false := frozen_after hb2 s8 sf0
          have tf1 : w2.frozen? ⟨w.heap.size + 1 + 1, 1, none⟩ = false := frozen_after hb2 s9 sf1
          have zt0 := World.block_lt_of_cell? _ _ t0
          dsimp only at zt0
          have zt1 := World.block_lt_of_cell? _ _ t6
          dsimp only at zt1
          have zt2 := World.block_lt_of_cell? _ _ t8
          dsimp only at zt2
          have W2 : Hid (Below w.heap.size w w2) := Lib.hid (below_then HWq.out hb2)
          have R2 := Lib.hid (HD.out.later hb2)
          have zz := hb2.size
          clear hb2
          by_cases hE : E = 0
          · obtain ⟨q1, q2, q3⟩ := hgd hE
            have q3' := q3.symm
            subst q1
            subst q2
            subst q3'
            have HE := Lib.hid hE
            rw [if_pos hE, hE]
            clear hgd hbd hE
            go_wp2
            refine bodyPost_ret (v := .tuple #[.agg #[.int .i64 (a.ck), .slice (some ⟨gd, 0, none⟩) a.n cd], .int .i64 (0)]) (by simp [results, Tryz.results62, go_sem, World.cell?_alloc_past, *]) rfl ?_
            rw [HE.out]
            have qb : Below w.heap.size w ((w2.setCell ⟨w.heap.size + 1 + 1, 0, none⟩ (.int .i64 a.ck)).setCell ⟨w.heap.size + 1 + 1, 1, none⟩ (.slice (some ⟨gd, 0, none⟩) a.n cd)) := (W2.out.setCell (by dsimp only; omega) _).setCell (by dsimp only; omega) _
            have qr := (((R2.out.set (w.heap.size + 1 + 1) 0 (.int .i64 a.ck) (by omega)).set (w.heap.size + 1 + 1) 1 (.slice (some ⟨gd, 0, none⟩) a.n cd) (by omega)).at)
            exact ⟨_, _, _, by rw [if_pos rfl], fun _ => ⟨rfl, qr⟩, fun q => absurd rfl q, fun a e => by cases e; dsimp only; omega, fun a e => by cases e; dsimp only; simp; omega, qb⟩
          · obtain ⟨rfl, rfl, rfl⟩ := hbd hE
            have HE := Lib.hid hE
            rw [if_neg hE]
            clear hgd hbd hE
            go_wp2
            exact bodyPost_ret (v := .tuple #[.agg #[.int .i64 (0), .slice none 0 0], .int .i64 (E)]) (by simp [results, Tryz.results62, go_sem, World.cell?_alloc_past, *]) rfl ⟨none, 0, 0, by rw [if_neg HE.out], fun q => absurd q HE.out, fun _ => ⟨rfl, rfl, rfl⟩, fun a e => (by cases e), fun a e => (by cases e), (by (repeat (first | (with_reducible exact W2.out) | (with_reducible refine Below.setCell ?_ ?_ _) | (with_reducible refine below_alloc_top ?_ _) | (with_reducible refine Below.drew ?_))); all_goals (first | omega | (simp; done) | (simp; omega)))⟩

/-- the arrivals as pairs -/
def rgP (a : La) (d : Dl) (f : Sp) (j : Nat) : Sp := ⟨sdX a f d j, sdY a f d j⟩
theorem rgP_at (a : La) (d : Dl) (f : Sp) (j : Nat) (hj : j < a.sm d) : ∃ i : Nat, sdF d.t a.n j = i ∧ i < a.n ∧ (rgP a d f j).x = a.lo f i + d.t i * d.ck ∧ (rgP a d f j).z = a.hi f i + d.t i * d.ck := by
  obtain ⟨i, e1, hi, _, q2⟩ := sdF_get d.t a.n j hj
  have hg : (sdL d.t a.n).getD j 0 = i := by rw [List.getD_eq_getElem?_getD, q2]; rfl
  refine ⟨i, e1, hi, ?_, ?_⟩
  · show sdX a f d j = _; unfold sdX arL; rw [hg]
  · show sdY a f d j = _; unfold sdY arH; rw [hg]
set_option maxRecDepth 100000 in
set_option maxHeartbeats 4000000 in
theorem rArrivals_any (a : La) (d : Dl) (f : Sp) (A : Option Addr) (c : Nat) (B : Option Addr) (e : Nat) (w : World) (hm : a.n ≤ 16) (hf : a.fe f = 0) (k0 : 1 ≤ d.ck) (k1 : d.ck ≤ 1000000) (tb : ∀ i, i < a.n → -1 ≤ d.t i ∧ d.t i ≤ 1000000) (h : SpAt A a.n a.p w) (g : InAt B a.n d.t w) :
    Calls Tryz.prog 86 #[.agg #[.slice A a.n c, .int .i64 a.m.wd, .int .i64 a.m.mt, .int .i64 a.m.sk, .int .i64 a.m.th, .int .i64 a.ck], .agg #[.int .i64 d.ck, .slice B a.n e], .agg #[.int .i64 f.x, .int .i64 f.z]] w fun e_ w' => ∃ v : Value, e_ = .returned v ∧ w'.ownsRow w.heap.size 74 2 v (a.sm d) (svs (rgP a d f) (a.sm d)) ∧ Below w.heap.size w w' := by
  obtain ⟨j0_, ji0, jz0, jz1, jz2⟩ := info_parts infoRg
  have JI0 := Lib.hid ji0; have JZ0 := Lib.hid jz0; have JZ1 := Lib.hid jz1; have JZ2 := Lib.hid jz2
  clear ji0 jz0 jz1 jz2
  have HX := Lib.hid h; clear h
  have HT := Lib.hid g; clear g
  have he := (ffE_zero (a.e f) a.n).1 hf
  have ml : a.sm d ≤ 16 := by have := sdL_len d.t a.n; show (sdL d.t a.n).length ≤ 16; omega
  have HS : Hid (∀ w', InAt B a.n d.t w' → Calls Tryz.prog 34 #[.agg #[.int .i64 d.ck, .slice B a.n e]] w' fun e_ w'' => ∃ A1 c1, e_ = .returned (.slice A1 (a.sm d) c1) ∧ InAt A1 (a.sm d) (sdF d.t a.n) w'' ∧ Below w'.heap.size w' w'') := Lib.hid (fun w' h => (rSending_any ⟨d.ck, d.t, a.n⟩ B e w' (by show a.n ≤ 1000; omega) (fun i hi => (tb i hi).1) h).mono (fun e_ w'' ⟨v, e1, ho, hb⟩ => by
    obtain ⟨A1, c1, rfl, _, hs⟩ := own_ints2 ho
    exact ⟨A1, c1, e1, hs, hb⟩))
  have SG := Lib.hid (rgP_at a d f)
  have HL : Hid (∀ i, i < a.n → ∀ w, Calls Tryz.prog 110 #[.agg #[.int .i64 a.m.wd, .int .i64 a.m.mt, .int .i64 a.m.sk, .int .i64 a.m.th], .agg #[.int .i64 (a.p i).x, .int .i64 (a.p i).z], .agg #[.int .i64 f.x, .int .i64 f.z]] w fun e w' => e = .returned (.agg #[.int .i64 (a.lo f i), .int .i64 (a.hi f i)]) ∧ Below w.heap.size w w') := Lib.hid (fun i hi w => refLeastTime_any (a.y f i) (wyE_zero_ok _ (he i hi)) w)
  have RB := Lib.hid (fun i (h : i < a.n) => lh_bounds a f i (he i h))
  have TB := Lib.hid (fun i (h : i < a.n) => tick_bounds (d.t i) d.ck (tb i h).1 (tb i h).2 k0 k1)
  have TT := Lib.hid tb
  clear hf he tb
  generalize a.sm d = m at *
  generalize rgP a d f = P at *
  generalize sdF d.t a.n = W at *
  have PS := Lib.hid (svs_succ P)
  have P0 : Hid (svs P 0 = []) := (rfl : svs P 0 = [])
  go_enter Tryz.func86, Tryz.ntmps86
  go_wp2_with fail
  obtain ⟨w1, hw_w1⟩ : ∃ q, q = (((w.alloc (.cells #[.slice A a.n c, .int .i64 a.m.wd, .int .i64 a.m.mt, .int .i64 a.m.sk, .int .i64 a.m.th, .int .i64 a.ck] 26)).alloc (.cells #[.int .i64 d.ck, .slice B a.n e] 33)).alloc (.cells #[.int .i64 f.x, .int .i64 f.z] 45)) := ⟨_, rfl⟩
  rw [← hw_w1]
  have q10 : w1.cell? ⟨w.heap.size, 0, none⟩ = some (.slice A a.n c) := by rw [hw_w1]; simp [go_sem]
  have q11 : w1.cell? ⟨w.heap.size, 1, none⟩ = some (.int .i64 a.m.wd) := by rw [hw_w1]; simp [go_sem]
  have q12 : w1.cell? ⟨w.heap.size, 2, none⟩ = some (.int .i64 a.m.mt) := by rw [hw_w1]; simp [go_sem]
  have q13 : w1.cell? ⟨w.heap.size, 3, none⟩ = some (.int .i64 a.m.sk) := by rw [hw_w1]; simp [go_sem]
  have q14 : w1.cell? ⟨w.heap.size, 4, none⟩ = some (.int .i64 a.m.th) := by rw [hw_w1]; simp [go_sem]
  have q15 : w1.cell? ⟨w.heap.size, 5, none⟩ = some (.int .i64 a.ck) := by rw [hw_w1]; simp [go_sem]
  have q16 : w1.cell? ⟨w.heap.size + 1, 0, none⟩ = some (.int .i64 d.ck) := by rw [hw_w1]; simp [go_sem]
  have q17 : w1.cell? ⟨w.heap.size + 1, 1, none⟩ = some (.slice B a.n e) := by rw [hw_w1]; simp [go_sem]
  have q18 : w1.cell? ⟨w.heap.size + 1 + 1, 0, none⟩ = some (.int .i64 f.x) := by rw [hw_w1]; simp [go_sem]
  have q19 : w1.cell? ⟨w.heap.size + 1 + 1, 1, none⟩ = some (.int .i64 f.z) := by rw [hw_w1]; simp [go_sem]
  have H1 : Hid (Below w.heap.size w w1) := Lib.hid (by rw [hw_w1]; exact (by repeat (first | exact Below.refl _ _ | refine Below.drew ?_ | refine below_drewN ?_ _ | refine Below.setCell ?_ (by first | omega | (simp; done) | (simp; omega)) _ | refine Below.alloc ?_ (by first | omega | (simp; done) | (simp; omega)) _)))
  have z1 : w1.heap.size = w.heap.size + 3 := by rw [hw_w1]; simp
  clear hw_w1
  have R1_0 := Lib.hid (HX.out.later H1.out)
  have R1_1 := Lib.hid (HT.out.later H1.out)
  clear z1
  refine (HS.out _ R1_1.out).mono ?_
  rintro e_ wS ⟨A1, c1, rfl, is, hb⟩
  have k2_0 := cell_later hb q10
  have k2_1 := cell_later hb q11
  have k2_2 := cell_later hb q12
  have k2_3 := cell_later hb q13
  have k2_4 := cell_later hb q14
  have k2_5 := cell_later hb q15
  have k2_6 := cell_later hb q16
  have k2_7 := cell_later hb q17
  have k2_8 := cell_later hb q18
  have k2_9 := cell_later hb q19
  have R2_0 := Lib.hid (R1_0.out.later hb)
  have R2_1 := Lib.hid (R1_1.out.later hb)
  have B2 : Hid (Below w.heap.size w wS) := Lib.hid (below_then H1.out hb)
  clear q10 q11 q12 q13 q14 q15 q16 q17 q18 q19 R1_0 R1_1 H1
  have z2_0 := World.block_lt_of_cell? _ _ k2_0
  (try dsimp only at z2_0)
  have z2_6 := World.block_lt_of_cell? _ _ k2_6
  (try dsimp only at z2_6)
  have z2_8 := World.block_lt_of_cell? _ _ k2_8
  (try dsimp only at z2_8)
  clear hb
  have IS := Lib.hid is
  clear is
  go_wp2_with fail
  go_loopw [7, 9] (fun s7 s9 wr => ∃ (k : Nat) (v : Value), v = s7 ∧ k ≤ m ∧ s9 = .int .i64 (k : Int) ∧ wr.ownsRow wS.heap.size 74 2 v k (svs P k) ∧ Below wS.heap.size wS wr) (fun _ s9 _ => m - (intOf s9).toNat)
  case atStart => exact ⟨0, _, rfl, Nat.zero_le _, rfl, by rw [P0.out]; exact World.ownsRow_nil _ _ _ _, Below.refl _ _⟩
  case round =>
    obtain ⟨k, v, rfl, hk, rfl, hown, hb⟩ := hrel
    have HB := Lib.hid hb
    have sz := hb.size
    have k3_0 := cell_later hb k2_0
    have k3_1 := cell_later hb k2_1
    have k3_2 := cell_later hb k2_2
    have k3_3 := cell_later hb k2_3
    have k3_4 := cell_later hb k2_4
    have k3_5 := cell_later hb k2_5
    have k3_6 := cell_later hb k2_6
    have k3_7 := cell_later hb k2_7
    have k3_8 := cell_later hb k2_8
    have k3_9 := cell_later hb k2_9
    have R3_0 := Lib.hid (R2_0.out.later hb)
    have R3_1 := Lib.hid (R2_1.out.later hb)
    have R3_2 := Lib.hid (IS.out.later hb)
    have B3 : Hid (Below w.heap.size w wr) := Lib.hid (below_then B2.out hb)
    clear k2_0 k2_1 k2_2 k2_3 k2_4 k2_5 k2_6 k2_7 k2_8 k2_9 R2_0 R2_1 IS B2
    have z3_0 := World.block_lt_of_cell? _ _ k3_0
    (try dsimp only at z3_0)
    have z3_6 := World.block_lt_of_cell? _ _ k3_6
    (try dsimp only at z3_6)
    have z3_8 := World.block_lt_of_cell? _ _ k3_8
    (try dsimp only at z3_8)
    clear hb
    by_cases hlt : k < m
    · obtain ⟨i, ei, hin, ex, ez⟩ := SG.out k hlt
      obtain ⟨a1, hA1⟩ := R3_2.out.some (show 0 < m by omega)
      subst hA1
      obtain ⟨ad, hA⟩ := R3_0.out.some (show 0 < a.n by omega)
      subst hA
      obtain ⟨bd, hB⟩ := R3_1.out.some (show 0 < a.n by omega)
      subst hB
      have c2 := R3_2.out.at hlt
      rw [ei] at c2
      obtain ⟨c0, c1_⟩ := R3_0.out.at hin
      have c3 := R3_1.out.at hin
      have j0 : (0 : Int) ≤ (k : Int) := Int.natCast_nonneg _
      have j1 : (k : Int) < (m : Int) := by omega
      have j8 : (k : Int) < 1000 := by omega
      have i0 : (0 : Int) ≤ (i : Int) := Int.natCast_nonneg _
      have i1 : (i : Int) < (a.n : Int) := by omega
      have i8 : (i : Int) < 1000 := by omega
      have HLi := Lib.hid (HL.out i hin)
      have rb := RB.out i hin
      have tk := TB.out i hin
      have w1_ : IntKind.i64.wrap (d.t i * d.ck) = d.t i * d.ck := IntWalk.i64_in _ (by omega)
      have w2_ : IntKind.i64.wrap (a.lo f i + d.t i * d.ck) = (P k).x := by rw [ex]; exact IntWalk.i64_in _ (by omega)
      have w3_ : IntKind.i64.wrap (a.hi f i + d.t i * d.ck) = (P k).z := by rw [ez]; exact IntWalk.i64_in _ (by omega)
      have PK := Lib.hid (PS.out k)
      clear rb tk ex ez ei
      generalize a.lo f i = lk at *
      generalize a.hi f i = hk_ at *
      generalize (P k).x = xk at *
      generalize (P k).z = zk at *
      generalize d.t i = tk at *
      generalize (a.p i).x = px at *
      generalize (a.p i).z = pz at *
      go_upto_region 6 with fail
      have hS : Below wr.heap.size wr wr := Below.refl _ _
      go_cut [10] (fun s10 wx => ∃ T : Nat, s10 = .pointer (some ⟨T, 0, none⟩) ∧ wx.cell? ⟨T, 0, none⟩ = some (.int .i64 lk) ∧ wx.cell? ⟨T, 1, none⟩ = some (.int .i64 hk_) ∧ Below wr.heap.size wr wx)
      case first =>
        go_region_held3 (fun w' => w'.cell? ⟨w.heap.size, 0, none⟩ = some (.slice (some ad) a.n c) ∧ w'.cell? ⟨w.heap.size, 1, none⟩ = some (.int .i64 a.m.wd) ∧ w'.cell? ⟨w.heap.size, 2, none⟩ = some (.int .i64 a.m.mt) ∧ w'.cell? ⟨w.heap.size, 3, none⟩ = some (.int .i64 a.m.sk) ∧ w'.cell? ⟨w.heap.size, 4, none⟩ = some (.int .i64 a.m.th) ∧ w'.cell? ⟨w.heap.size, 5, none⟩ = some (.int .i64 a.ck) ∧ w'.cell? ⟨w.heap.size + 1, 0, none⟩ = some (.int .i64 d.ck) ∧ w'.cell? ⟨w.heap.size + 1, 1, none⟩ = some (.slice (some bd) a.n e) ∧ w'.cell? ⟨w.heap.size + 1 + 1, 0, none⟩ = some (.int .i64 f.x) ∧ w'.cell? ⟨w.heap.size + 1 + 1, 1, none⟩ = some (.int .i64 f.z) ∧ w'.cell? (ad.add (i * 2)) = some (.int .i64 px) ∧ w'.cell? ⟨(ad.add (i * 2)).block, (ad.add (i * 2)).off + 1, none⟩ = some (.int .i64 pz) ∧ w'.cell? (a1.add k) = some (.int .i64 (i : Int)) ∧ w'.cell? (bd.add i) = some (.int .i64 tk) ∧ Below wr.heap.size wr w') (((go_split_ands; (repeat' apply And.intro) <;> ((repeat (first | (with_reducible assumption) | (with_reducible exact Below.refl _ _) | (with_reducible refine cell_alloc_later ?_ _) | (with_reducible refine cell_drewA ?_) | (with_reducible refine cellA (by with_reducible assumption) ?_) | (with_reducible refine belowA ?_ (by with_reducible assumption)) | (with_reducible refine below_alloc_top ?_ _) | (with_reducible refine Below.drew ?_) | (with_reducible refine cell_set_old ?_ (by with_reducible assumption)) | (with_reducible refine below_set_old ?_ (by with_reducible assumption)) | (with_reducible refine Below.setCell ?_ (by first | omega | (simp; done) | (simp; omega)) _) | (simp [go_sem, World.cell?_alloc_past, *]; done))); done))))
          (first
            | (go_split_ands; go_at_call 110; (with_reducible refine (HLi.out _).mono ?_); rintro e w' ⟨rfl, hb⟩; have hbA : BelA _ w' := hb; obtain ⟨hc', hf'⟩ := bcell hb; have hz' := hb.size; (try simp at hz'); (first | (have tF' := Nat.lt_of_succ_le hz') | (have tF' := Nat.lt_of_lt_of_le tF' hz') | skip); clear hb))
        all_goals
          go_split_ands
          go_wp2_with fail
          go_meet
          exact ⟨_, rfl, (by first | (with_reducible assumption) | (simp [go_sem, World.cell?_alloc_past, *]; done)), (by first | (with_reducible assumption) | (simp [go_sem, World.cell?_alloc_past, *]; done)), (by first | (with_reducible assumption) | (simp [go_sem, World.cell?_alloc_past, *]; done))⟩
      case rest =>
        obtain ⟨T, rfl, t0, t1, bel⟩ := hcut
        clear hS
        obtain ⟨wT, hw_⟩ : ∃ q, q = wc := ⟨_, rfl⟩
        subst hw_
        have k4_0 := cell_later bel k3_0
        have k4_1 := cell_later bel k3_1
        have k4_2 := cell_later bel k3_2
        have k4_3 := cell_later bel k3_3
        have k4_4 := cell_later bel k3_4
        have k4_5 := cell_later bel k3_5
        have k4_6 := cell_later bel k3_6
        have k4_7 := cell_later bel k3_7
        have k4_8 := cell_later bel k3_8
        have k4_9 := cell_later bel k3_9
        have k4_10 := cell_later bel c0
        have k4_11 := cell_later bel c1_
        have k4_12 := cell_later bel c2
        have k4_13 := cell_later bel c3
        have R4_0 := Lib.hid (R3_0.out.later bel)
        have R4_1 := Lib.hid (R3_1.out.later bel)
        have R4_2 := Lib.hid (R3_2.out.later bel)
        have B4 : Hid (Below w.heap.size w wT) := Lib.hid (below_then B3.out bel)
        clear k3_0 k3_1 k3_2 k3_3 k3_4 k3_5 k3_6 k3_7 k3_8 k3_9 c0 c1_ c2 c3 R3_0 R3_1 R3_2 B3
        have z4_0 := World.block_lt_of_cell? _ _ k4_0
        (try dsimp only at z4_0)
        have z4_6 := World.block_lt_of_cell? _ _ k4_6
        (try dsimp only at z4_6)
        have z4_8 := World.block_lt_of_cell? _ _ k4_8
        (try dsimp only at z4_8)
        have z4_10 := World.block_lt_of_cell? _ _ k4_10
        (try dsimp only at z4_10)
        have z4_11 := World.block_lt_of_cell? _ _ k4_11
        (try dsimp only at z4_11)
        have z4_12 := World.block_lt_of_cell? _ _ k4_12
        (try dsimp only at z4_12)
        have z4_13 := World.block_lt_of_cell? _ _ k4_13
        (try dsimp only at z4_13)
        have hown5 := own_later hown bel
        have HB5 := Lib.hid (below_then HB.out bel)
        have sz5 := bel.size
        clear bel
        have zT := World.block_lt_of_cell? _ _ t0
        (try dsimp only at zT)
        clear hown
        go_wp2_with fail
        go_quiet (fail)
        obtain ⟨w6, hw6⟩ : ∃ q, q = wT.drewN nq := ⟨_, rfl⟩
        rw [← hw6]
        have hb6 : Below wT.heap.size wT w6 := by rw [hw6]; exact below_drewN (Below.refl _ _) _
        have hown6 := own_later hown5 hb6
        have HB6 := Lib.hid (below_then HB5.out hb6)
        have sz6 := hb6.size
        have ag := Lib.hid (fun q e => (hown6.lt q e).1)
        clear hown5 hw6
        have k5_0 := cell_later hb6 k4_0
        have k5_1 := cell_later hb6 k4_1
        have k5_2 := cell_later hb6 k4_2
        have k5_3 := cell_later hb6 k4_3
        have k5_4 := cell_later hb6 k4_4
        have k5_5 := cell_later hb6 k4_5
        have k5_6 := cell_later hb6 k4_6
        have k5_7 := cell_later hb6 k4_7
        have k5_8 := cell_later hb6 k4_8
        have k5_9 := cell_later hb6 k4_9
        have k5_10 := cell_later hb6 k4_10
        have k5_11 := cell_later hb6 k4_11
        have k5_12 := cell_later hb6 k4_12
        have k5_13 := cell_later hb6 k4_13
        have k5_14 := cell_later hb6 t0
        have k5_15 := cell_later hb6 t1
        have R5_0 := Lib.hid (R4_0.out.later hb6)
        have R5_1 := Lib.hid (R4_1.out.later hb6)
        have R5_2 := Lib.hid (R4_2.out.later hb6)
        have B5 : Hid (Below w.heap.size w w6) := Lib.hid (below_then B4.out hb6)
        clear k4_0 k4_1 k4_2 k4_3 k4_4 k4_5 k4_6 k4_7 k4_8 k4_9 k4_10 k4_11 k4_12 k4_13 t0 t1 R4_0 R4_1 R4_2 B4
        have z5_0 := World.block_lt_of_cell? _ _ k5_0
        (try dsimp only at z5_0)
        have z5_6 := World.block_lt_of_cell? _ _ k5_6
        (try dsimp only at z5_6)
        have z5_8 := World.block_lt_of_cell? _ _ k5_8
        (try dsimp only at z5_8)
        have z5_10 := World.block_lt_of_cell? _ _ k5_10
        (try dsimp only at z5_10)
        have z5_11 := World.block_lt_of_cell? _ _ k5_11
        (try dsimp only at z5_11)
        have z5_12 := World.block_lt_of_cell? _ _ k5_12
        (try dsimp only at z5_12)
        have z5_13 := World.block_lt_of_cell? _ _ k5_13
        (try dsimp only at z5_13)
        have z5_14 := World.block_lt_of_cell? _ _ k5_14
        (try dsimp only at z5_14)
        clear hb6
        have bm : (k + 1 : Nat) ≤ maxLen := by unfold maxLen; omega
        have BM := Lib.hid bm; clear bm
        have nb : ∀ j u, (#[Value.int .i64 xk, Value.int .i64 zk] : Array Value).toList[j]? = some u → (w6.alloc (.cells #[.int .i64 xk, .int .i64 zk] 74)).cell? ((⟨w6.heap.size, 0, none⟩ : Addr).add j) = some u :=
          World.news_of_block (t := 74) (fr := (0, 0)) (by have h := heap_alloc_new w6 (.cells #[.int .i64 xk, .int .i64 zk] 74); simpa using h)
        have NB := Lib.hid nb; clear nb
        go_wp2_with (at_builtin; refine wpList_append_lies _ rfl _ _ _ rfl wS.heap.size 74 j0_ _ 2 16 Tryz.underlying133 JI0.out JZ0.out JZ1.out JZ2.out rfl (by omega) v k (svs P k) rfl (hown6.alloc _) ⟨w6.heap.size, 0, none⟩ 1 1 [.int .i64 xk, .int .i64 zk] rfl rfl NB.out (by simp [Value.oneCell']) (by omega) BM.out (by omega) (by simp; omega) (w6.heap.size + 1) (by simp) ?_; intro g7 cap7 w7 hown7 hgrow7 hat7 hlt7)
        have HO7 := Lib.hid hown7; clear hown7
        have HG7 := Lib.hid hgrow7; clear hgrow7 hat7 hlt7
        go_roundw
        case rel => exact ⟨k + 1, _, rfl, by omega, by go_num, by rw [PK.out]; exact HO7.out, (HB6.out.alloc (by omega) _).grown HG7.out (by simp; omega) (fun q e => ag.out q e)⟩
        case measure => simp [intOf]; omega
    · have hk' : k = m := by omega
      have kk : decide ((k : Int) < (m : Int)) = false := by simp; omega
      subst hk'
      go_wp2
      go_ret
      exact ⟨_, rfl, own_base hown (by omega), B3.out⟩
theorem SpAt.put {A : Option Addr} {n : Nat} {p : Nat → Sp} {w : World} (r : SpAt A n p w) (B i : Nat) (u : Value) (h : ∀ a, A = .some a → a.block ≠ B) : SpAt A n p (w.setCell ⟨B, i, none⟩ u) := fun hn => by
  obtain ⟨a, e, hc⟩ := r hn
  have hb := h a e
  refine ⟨a, e, fun j hj => ⟨setO (.inl ?_) (hc j hj).1, setO (.inl ?_) (hc j hj).2⟩⟩
  · unfold Addr.add; split <;> exact hb
  · unfold Addr.add; split <;> exact hb
set_option maxRecDepth 100000 in
set_option maxHeartbeats 4000000 in
theorem rSpread_any (a : La) (d : Dl) (f : Sp) (A : Option Addr) (c : Nat) (B : Option Addr) (e : Nat) (w : World) (hm : a.n ≤ 16) (hf : a.fe f = 0) (k0 : 1 ≤ d.ck) (k1 : d.ck ≤ 1000000) (tb : ∀ i, i < a.n → -1 ≤ d.t i ∧ d.t i ≤ 1000000) (h : SpAt A a.n a.p w) (g : InAt B a.n d.t w) :
    Calls Tryz.prog 56 #[.agg #[.slice A a.n c, .int .i64 a.m.wd, .int .i64 a.m.mt, .int .i64 a.m.sk, .int .i64 a.m.th, .int .i64 a.ck], .agg #[.int .i64 d.ck, .slice B a.n e], .agg #[.int .i64 f.x, .int .i64 f.z]] w fun e_ w' => e_ = .returned (.tuple #[.agg #[.int .i64 (a.spLo d f), .int .i64 (a.spHi d f)], .int .i64 (a.spE d f)]) ∧ Below w.heap.size w w' := by
  have HX := Lib.hid h; clear h
  have HT := Lib.hid g; clear g
  have ml : a.sm d ≤ 16 := by have := sdL_len d.t a.n; show (sdL d.t a.n).length ≤ 16; omega
  have HA : Hid (∀ w', SpAt A a.n a.p w' → InAt B a.n d.t w' → Calls Tryz.prog 86 #[.agg #[.slice A a.n c, .int .i64 a.m.wd, .int .i64 a.m.mt, .int .i64 a.m.sk, .int .i64 a.m.th, .int .i64 a.ck], .agg #[.int .i64 d.ck, .slice B a.n e], .agg #[.int .i64 f.x, .int .i64 f.z]] w' fun e_ w'' => ∃ A1 c1, e_ = .returned (.slice A1 (a.sm d) c1) ∧ SpAt A1 (a.sm d) (rgP a d f) w'' ∧ Below w'.heap.size w' w'') := Lib.hid (fun w' h g => (rArrivals_any a d f A c B e w' hm hf k0 k1 tb h g).mono (fun e_ w'' ⟨v, e1, ho, hb⟩ => by
    obtain ⟨A1, c1, rfl, _, hs⟩ := own_spots ho
    exact ⟨A1, c1, e1, hs, hb⟩))
  have XB : Hid (∀ j, j < a.sm d → -1000000 ≤ (rgP a d f j).x ∧ (rgP a d f j).x ≤ (rgP a d f j).z ∧ (rgP a d f j).z ≤ 200000000000000) := Lib.hid (fun j hj => by
    have b := xy_bounds a d f hf k0 k1 tb j hj
    show -1000000 ≤ sdX a f d j ∧ sdX a f d j ≤ sdY a f d j ∧ sdY a f d j ≤ _
    omega)
  have e1 : a.spE d f = if a.sm d = 0 then 12 else 0 := by unfold La.spE; rw [if_pos hf]
  by_cases m0 : a.sm d = 0
  · rw [if_pos m0] at e1
    have e2 : a.spLo d f = 0 := by unfold La.spLo; rw [e1, if_neg (by decide)]
    have e3 : a.spHi d f = 0 := by unfold La.spHi; rw [e1, if_neg (by decide)]
    rw [e1, e2, e3]
    rw [m0] at HA
    clear e1 e2 e3 m0 XB hf k0 k1 tb ml
    go_enter Tryz.func56, Tryz.ntmps56
    go_wp2_with fail
    obtain ⟨w1, hw_w1⟩ : ∃ q, q = ((((w.alloc (.cells #[.slice A a.n c, .int .i64 a.m.wd, .int .i64 a.m.mt, .int .i64 a.m.sk, .int .i64 a.m.th, .int .i64 a.ck] 26)).alloc (.cells #[.int .i64 d.ck, .slice B a.n e] 33)).alloc (.cells #[.int .i64 f.x, .int .i64 f.z] 45)).alloc (.cells #[.int .i64 0, .int .i64 0] 74)) := ⟨_, rfl⟩
    rw [← hw_w1]
    have q10 : w1.cell? ⟨w.heap.size, 0, none⟩ = some (.slice A a.n c) := by rw [hw_w1]; simp [go_sem]
    have q11 : w1.cell? ⟨w.heap.size, 1, none⟩ = some (.int .i64 a.m.wd) := by rw [hw_w1]; simp [go_sem]
    have q12 : w1.cell? ⟨w.heap.size, 2, none⟩ = some (.int .i64 a.m.mt) := by rw [hw_w1]; simp [go_sem]
    have q13 : w1.cell? ⟨w.heap.size, 3, none⟩ = some (.int .i64 a.m.sk) := by rw [hw_w1]; simp [go_sem]
    have q14 : w1.cell? ⟨w.heap.size, 4, none⟩ = some (.int .i64 a.m.th) := by rw [hw_w1]; simp [go_sem]
    have q15 : w1.cell? ⟨w.heap.size, 5, none⟩ = some (.int .i64 a.ck) := by rw [hw_w1]; simp [go_sem]
    have q16 : w1.cell? ⟨w.heap.size + 1, 0, none⟩ = some (.int .i64 d.ck) := by rw [hw_w1]; simp [go_sem]
    have q17 : w1.cell? ⟨w.heap.size + 1, 1, none⟩ = some (.slice B a.n e) := by rw [hw_w1]; simp [go_sem]
    have q18 : w1.cell? ⟨w.heap.size + 1 + 1, 0, none⟩ = some (.int .i64 f.x) := by rw [hw_w1]; simp [go_sem]
    have q19 : w1.cell? ⟨w.heap.size + 1 + 1, 1, none⟩ = some (.int .i64 f.z) := by rw [hw_w1]; simp [go_sem]
    have q110 : w1.cell? ⟨w.heap.size + 1 + 1 + 1, 0, none⟩ = some (.int .i64 0) := by rw [hw_w1]; simp [go_sem]
    have q111 : w1.cell? ⟨w.heap.size + 1 + 1 + 1, 1, none⟩ = some (.int .i64 0) := by rw [hw_w1]; simp [go_sem]
    have qf10 : w1.frozen? ⟨w.heap.size + 1 + 1 + 1, 0, none⟩ = false := by rw [hw_w1]; simp [go_sem]
    have qf11 : w1.frozen? ⟨w.heap.size + 1 + 1 + 1, 1, none⟩ = false := by rw [hw_w1]; simp [go_sem]
    have H1 : Hid (Below w.heap.size w w1) := Lib.hid (by rw [hw_w1]; exact (by repeat (first | exact Below.refl _ _ | refine Below.drew ?_ | refine below_drewN ?_ _ | refine Below.setCell ?_ (by first | omega | (simp; done) | (simp; omega)) _ | refine Below.alloc ?_ (by first | omega | (simp; done) | (simp; omega)) _)))
    have z1 : w1.heap.size = w.heap.size + 4 := by rw [hw_w1]; simp
    clear hw_w1
    clear z1
    refine (HA.out _ (HX.out.later H1.out) (HT.out.later H1.out)).mono ?_
    rintro e_ wA ⟨A1, c1, rfl, is, hb⟩
    have k2_0 := cell_later hb q10
    have k2_1 := cell_later hb q11
    have k2_2 := cell_later hb q12
    have k2_3 := cell_later hb q13
    have k2_4 := cell_later hb q14
    have k2_5 := cell_later hb q15
    have k2_6 := cell_later hb q16
    have k2_7 := cell_later hb q17
    have k2_8 := cell_later hb q18
    have k2_9 := cell_later hb q19
    have k2_10 := cell_later hb q110
    have k2_11 := cell_later hb q111
    have f2_0 := frozen_after hb q110 qf10
    have f2_1 := frozen_after hb q111 qf11
    have B2 : Hid (Below w.heap.size w wA) := Lib.hid (below_then H1.out hb)
    clear q10 q11 q12 q13 q14 q15 q16 q17 q18 q19 q110 q111 qf10 qf11 H1
    have z2_0 := World.block_lt_of_cell? _ _ k2_0
    (try dsimp only at z2_0)
    have z2_6 := World.block_lt_of_cell? _ _ k2_6
    (try dsimp only at z2_6)
    have z2_8 := World.block_lt_of_cell? _ _ k2_8
    (try dsimp only at z2_8)
    have z2_10 := World.block_lt_of_cell? _ _ k2_10
    (try dsimp only at z2_10)
    clear hb
    clear is
    go_wp2
    exact bodyPost_ret (v := .tuple #[.agg #[.int .i64 0, .int .i64 0], .int .i64 12]) (by simp [results, Tryz.results56, go_sem, World.cell?_alloc_past, *]) rfl ⟨rfl, (by (repeat (first | (with_reducible exact B2.out) | (with_reducible refine Below.setCell ?_ ?_ _) | (with_reducible refine below_alloc_top ?_ _) | (with_reducible refine Below.drew ?_))); all_goals (first | omega | (simp; done) | (simp; omega)))⟩
  · rw [if_neg m0] at e1
    have e2 : a.spLo d f = max (mxL (fun j => (rgP a d f j).x) (a.sm d) - mnL (fun j => (rgP a d f j).z) (a.sm d)) 0 := by unfold La.spLo; rw [e1, if_pos rfl]; rfl
    have e3 : a.spHi d f = mxL (fun j => (rgP a d f j).z) (a.sm d) - mnL (fun j => (rgP a d f j).x) (a.sm d) := by unfold La.spHi; rw [e1, if_pos rfl]; rfl
    rw [e1, e2, e3]
    clear e1 e2 e3 hf k0 k1 tb
    have m1 : 0 < a.sm d := by omega
    generalize a.sm d = m at *
    generalize rgP a d f = P at *
    obtain ⟨X, hX⟩ : ∃ X, X = fun j => (P j).x := ⟨_, rfl⟩
    obtain ⟨Z, hZ⟩ : ∃ Z, Z = fun j => (P j).z := ⟨_, rfl⟩
    have hX0 : ∀ j, X j = (P j).x := fun j => by rw [hX]
    have hZ0 : ∀ j, Z j = (P j).z := fun j => by rw [hZ]
    rw [← hX, ← hZ]
    clear hX hZ
    have HX0 := Lib.hid hX0; have HZ0 := Lib.hid hZ0
    clear hX0 hZ0
    go_enter Tryz.func56, Tryz.ntmps56
    go_wp2_with fail
    obtain ⟨w1, hw_w1⟩ : ∃ q, q = ((((w.alloc (.cells #[.slice A a.n c, .int .i64 a.m.wd, .int .i64 a.m.mt, .int .i64 a.m.sk, .int .i64 a.m.th, .int .i64 a.ck] 26)).alloc (.cells #[.int .i64 d.ck, .slice B a.n e] 33)).alloc (.cells #[.int .i64 f.x, .int .i64 f.z] 45)).alloc (.cells #[.int .i64 0, .int .i64 0] 74)) := ⟨_, rfl⟩
    rw [← hw_w1]
    have q10 : w1.cell? ⟨w.heap.size, 0, none⟩ = some (.slice A a.n c) := by rw [hw_w1]; simp [go_sem]
    have q11 : w1.cell? ⟨w.heap.size, 1, none⟩ = some (.int .i64 a.m.wd) := by rw [hw_w1]; simp [go_sem]
    have q12 : w1.cell? ⟨w.heap.size, 2, none⟩ = some (.int .i64 a.m.mt) := by rw [hw_w1]; simp [go_sem]
    have q13 : w1.cell? ⟨w.heap.size, 3, none⟩ = some (.int .i64 a.m.sk) := by rw [hw_w1]; simp [go_sem]
    have q14 : w1.cell? ⟨w.heap.size, 4, none⟩ = some (.int .i64 a.m.th) := by rw [hw_w1]; simp [go_sem]
    have q15 : w1.cell? ⟨w.heap.size, 5, none⟩ = some (.int .i64 a.ck) := by rw [hw_w1]; simp [go_sem]
    have q16 : w1.cell? ⟨w.heap.size + 1, 0, none⟩ = some (.int .i64 d.ck) := by rw [hw_w1]; simp [go_sem]
    have q17 : w1.cell? ⟨w.heap.size + 1, 1, none⟩ = some (.slice B a.n e) := by rw [hw_w1]; simp [go_sem]
    have q18 : w1.cell? ⟨w.heap.size + 1 + 1, 0, none⟩ = some (.int .i64 f.x) := by rw [hw_w1]; simp [go_sem]
    have q19 : w1.cell? ⟨w.heap.size + 1 + 1, 1, none⟩ = some (.int .i64 f.z) := by rw [hw_w1]; simp [go_sem]
    have q110 : w1.cell? ⟨w.heap.size + 1 + 1 + 1, 0, none⟩ = some (.int .i64 0) := by rw [hw_w1]; simp [go_sem]
    have q111 : w1.cell? ⟨w.heap.size + 1 + 1 + 1, 1, none⟩ = some (.int .i64 0) := by rw [hw_w1]; simp [go_sem]
    have qf10 : w1.frozen? ⟨w.heap.size + 1 + 1 + 1, 0, none⟩ = false := by rw [hw_w1]; simp [go_sem]
    have qf11 : w1.frozen? ⟨w.heap.size + 1 + 1 + 1, 1, none⟩ = false := by rw [hw_w1]; simp [go_sem]
    have H1 : Hid (Below w.heap.size w w1) := Lib.hid (by rw [hw_w1]; exact (by repeat (first | exact Below.refl _ _ | refine Below.drew ?_ | refine below_drewN ?_ _ | refine Below.setCell ?_ (by first | omega | (simp; done) | (simp; omega)) _ | refine Below.alloc ?_ (by first | omega | (simp; done) | (simp; omega)) _)))
    have z1 : w1.heap.size = w.heap.size + 4 := by rw [hw_w1]; simp
    clear hw_w1
    clear z1
    refine (HA.out _ (HX.out.later H1.out) (HT.out.later H1.out)).mono ?_
    rintro e_ wA ⟨A1, c1, rfl, is, hb⟩
    have k2_0 := cell_later hb q10
    have k2_1 := cell_later hb q11
    have k2_2 := cell_later hb q12
    have k2_3 := cell_later hb q13
    have k2_4 := cell_later hb q14
    have k2_5 := cell_later hb q15
    have k2_6 := cell_later hb q16
    have k2_7 := cell_later hb q17
    have k2_8 := cell_later hb q18
    have k2_9 := cell_later hb q19
    have k2_10 := cell_later hb q110
    have k2_11 := cell_later hb q111
    have f2_0 := frozen_after hb q110 qf10
    have f2_1 := frozen_after hb q111 qf11
    have B2 : Hid (Below w.heap.size w wA) := Lib.hid (below_then H1.out hb)
    clear q10 q11 q12 q13 q14 q15 q16 q17 q18 q19 q110 q111 qf10 qf11 H1
    have z2_0 := World.block_lt_of_cell? _ _ k2_0
    (try dsimp only at z2_0)
    have z2_6 := World.block_lt_of_cell? _ _ k2_6
    (try dsimp only at z2_6)
    have z2_8 := World.block_lt_of_cell? _ _ k2_8
    (try dsimp only at z2_8)
    have z2_10 := World.block_lt_of_cell? _ _ k2_10
    (try dsimp only at z2_10)
    clear hb
    obtain ⟨ad, hA⟩ := is.some m1
    subst hA
    have IS := Lib.hid is
    obtain ⟨c0, c1_⟩ := is.at m1
    clear is
    have n1 : ((m : Int) == 0) = false := by simp; omega
    obtain ⟨px, hpx⟩ : ∃ q, q = (P 0).x := ⟨_, rfl⟩
    obtain ⟨pz, hpz⟩ : ∃ q, q = (P 0).z := ⟨_, rfl⟩
    have ea0 : ad.add 0 = ad := by unfold Addr.add; rfl
    simp only [Nat.zero_mul, ea0] at c0 c1_
    clear ea0
    have z_ad := World.block_lt_of_cell? _ _ c0
    rw [← hpx] at c0
    rw [← hpz] at c1_
    have wA0 : wA.heap.size = wA.heap.size := rfl
    go_upto_region 4 with fail
    have hS : Below wA.heap.size wA wA := Below.refl _ _
    go_cut [9, 10] (fun s9 s10 wx => ∃ F L : Nat, s9 = .pointer (some ⟨F, 0, none⟩) ∧ s10 = .pointer (some ⟨L, 0, none⟩) ∧ F ≠ L ∧ wA.heap.size ≤ F ∧ wA.heap.size ≤ L ∧ wx.cell? ⟨F, 0, none⟩ = some (.int .i64 px) ∧ wx.cell? ⟨F, 1, none⟩ = some (.int .i64 pz) ∧ wx.cell? ⟨L, 0, none⟩ = some (.int .i64 px) ∧ wx.cell? ⟨L, 1, none⟩ = some (.int .i64 pz) ∧ wx.frozen? ⟨F, 0, none⟩ = false ∧ wx.frozen? ⟨F, 1, none⟩ = false ∧ wx.frozen? ⟨L, 0, none⟩ = false ∧ wx.frozen? ⟨L, 1, none⟩ = false ∧ Below wA.heap.size wA wx)
    case first =>
      go_region_held3 (fun w' => w'.cell? ⟨w.heap.size + 1 + 1 + 1, 0, none⟩ = some (.int .i64 0) ∧ w'.cell? ⟨w.heap.size + 1 + 1 + 1, 1, none⟩ = some (.int .i64 0) ∧ w'.cell? ad = some (.int .i64 px) ∧ w'.cell? ⟨ad.block, ad.off + 1, none⟩ = some (.int .i64 pz) ∧ Below wA.heap.size wA w') (((go_split_ands; (repeat' apply And.intro) <;> ((repeat (first | (with_reducible assumption) | (with_reducible exact Below.refl _ _) | (with_reducible refine cell_alloc_later ?_ _) | (with_reducible refine cell_drewA ?_) | (with_reducible refine cellA (by with_reducible assumption) ?_) | (with_reducible refine belowA ?_ (by with_reducible assumption)) | (with_reducible refine below_alloc_top ?_ _) | (with_reducible refine Below.drew ?_) | (with_reducible refine cell_set_old ?_ (by with_reducible assumption)) | (with_reducible refine below_set_old ?_ (by with_reducible assumption)) | (with_reducible refine Below.setCell ?_ (by first | omega | (simp; done) | (simp; omega)) _) | (simp [go_sem, World.cell?_alloc_past, *]; done))); done))))
        (first
          | (fail))
      all_goals
        go_split_ands
        go_wp2_with fail
        go_meet
        exact ⟨_, _, rfl, rfl, (by first | omega | (simp; done) | (simp; omega)), (by first | omega | (simp; done) | (simp; omega)), (by first | omega | (simp; done) | (simp; omega)), (by first | (with_reducible assumption) | (simp [go_sem, World.cell?_alloc_past, *]; done)), (by first | (with_reducible assumption) | (simp [go_sem, World.cell?_alloc_past, *]; done)), (by first | (with_reducible assumption) | (simp [go_sem, World.cell?_alloc_past, *]; done)), (by first | (with_reducible assumption) | (simp [go_sem, World.cell?_alloc_past, *]; done)), (by first | (with_reducible assumption) | (simp [go_sem, World.frozen?_alloc_past, World.cell?_alloc_past, *]; done)), (by first | (with_reducible assumption) | (simp [go_sem, World.frozen?_alloc_past, World.cell?_alloc_past, *]; done)), (by first | (with_reducible assumption) | (simp [go_sem, World.frozen?_alloc_past, World.cell?_alloc_past, *]; done)), (by first | (with_reducible assumption) | (simp [go_sem, World.frozen?_alloc_past, World.cell?_alloc_past, *]; done)), (by first | (with_reducible assumption) | (simp [go_sem, World.cell?_alloc_past, *]; done))⟩
    case rest =>
      obtain ⟨F, L, rfl, rfl, nFL, bF, bL, f0, f1, l0, l1, ff0, ff1, fl0, fl1, bel⟩ := hcut
      clear hS
      obtain ⟨wB, hw_⟩ : ∃ q, q = wc := ⟨_, rfl⟩
      subst hw_
      have k3_0 := cell_later bel k2_10
      have k3_1 := cell_later bel k2_11
      have k3_2 := cell_later bel c0
      have k3_3 := cell_later bel c1_
      have f3_0 := frozen_after bel k2_10 f2_0
      have f3_1 := frozen_after bel k2_11 f2_1
      have R3_0 := Lib.hid (IS.out.later bel)
      have B3 : Hid (Below w.heap.size w wB) := Lib.hid (below_then B2.out bel)
      clear k2_10 k2_11 c0 c1_ f2_0 f2_1 IS B2
      have z3_0 := World.block_lt_of_cell? _ _ k3_0
      (try dsimp only at z3_0)
      have z3_2 := World.block_lt_of_cell? _ _ k3_2
      (try dsimp only at z3_2)
      have z3_3 := World.block_lt_of_cell? _ _ k3_3
      (try dsimp only at z3_3)
      clear bel
      subst hpx
      subst hpz
      have zF := World.block_lt_of_cell? _ _ f0
      have zL := World.block_lt_of_cell? _ _ l0
      (try dsimp only at zF zL)
      have adA : ad.block < wA.heap.size := z_ad
      go_wp2_with fail
      rw [← HX0.out] at f0 l0
      rw [← HZ0.out] at f1 l1
      go_loopw [11] (fun s11 wr => ∃ k : Nat, k ≤ m ∧ s11 = .int .i64 (k : Int) ∧ wr.cell? ⟨F, 0, none⟩ = some (.int .i64 (mnL X k)) ∧ wr.cell? ⟨F, 1, none⟩ = some (.int .i64 (mnL Z k)) ∧ wr.cell? ⟨L, 0, none⟩ = some (.int .i64 (mxL X k)) ∧ wr.cell? ⟨L, 1, none⟩ = some (.int .i64 (mxL Z k)) ∧ wr.frozen? ⟨F, 0, none⟩ = false ∧ wr.frozen? ⟨F, 1, none⟩ = false ∧ wr.frozen? ⟨L, 0, none⟩ = false ∧ wr.frozen? ⟨L, 1, none⟩ = false ∧ SpAt (some ad) m P wr ∧ Below wA.heap.size wB wr) (fun s11 _ => m - (intOf s11).toNat)
      case atStart => exact ⟨0, Nat.zero_le _, rfl, f0, f1, l0, l1, ff0, ff1, fl0, fl1, R3_0.out, Below.refl _ _⟩
      case round =>
        obtain ⟨k, hk, rfl, g0, g1, h0, h1, gf0, gf1, hf0, hf1, is, hb⟩ := hrel
        by_cases hlt : k < m
        · obtain ⟨e0, e1⟩ := is.at hlt
          have j0 : (0 : Int) ≤ (k : Int) := Int.natCast_nonneg _
          have j1 : (k : Int) < (m : Int) := by omega
          have j8 : (k : Int) < 1000 := by omega
          go_upto_region 8 with fail
          rw [← HX0.out] at e0
          rw [← HZ0.out] at e1
          refine wp_region_still_tail 17 (by kernel_rfl) (by kernel_rfl) ?_
          simp only [List.take_succ_cons, List.take_zero, List.drop_succ_cons, List.drop_zero]
          repeat still_step
          refine wpStill_nil ?_
          change wpList _ _ _ _ _ wr.drew
          have g0 : wr.drew.cell? ⟨F, 0, none⟩ = _ := g0
          have g1 : wr.drew.cell? ⟨F, 1, none⟩ = _ := g1
          have h0 : wr.drew.cell? ⟨L, 0, none⟩ = _ := h0
          have h1 : wr.drew.cell? ⟨L, 1, none⟩ = _ := h1
          have gf0 : wr.drew.frozen? ⟨F, 0, none⟩ = false := gf0
          have gf1 : wr.drew.frozen? ⟨F, 1, none⟩ = false := gf1
          have hf0 : wr.drew.frozen? ⟨L, 0, none⟩ = false := hf0
          have hf1 : wr.drew.frozen? ⟨L, 1, none⟩ = false := hf1
          have is : SpAt (some ad) m P wr.drew := is
          have hb : Below wA.heap.size wB wr.drew := hb.drew
          clear e0 e1
          generalize wr.drew = wd at *
          go_upto_region 9 with fail
          obtain ⟨wM, hw_⟩ : ∃ q, q = (wd.setCell ⟨F, 0, none⟩ (.int .i64 (min (mnL X k) (X k)))).setCell ⟨F, 1, none⟩ (.int .i64 (min (mnL Z k) (Z k))) := ⟨_, rfl⟩
          rw [← hw_]
          have g0 : wM.cell? ⟨F, 0, none⟩ = some (.int .i64 (mnL X (k + 1))) := by rw [hw_]; exact setO (.inr (by dsimp only; omega)) (setS g0)
          have g1 : wM.cell? ⟨F, 1, none⟩ = some (.int .i64 (mnL Z (k + 1))) := by rw [hw_]; exact setS (setO (.inr (by dsimp only; omega)) g1)
          have h0 : wM.cell? ⟨L, 0, none⟩ = some (.int .i64 (mxL X k)) := by rw [hw_]; exact setO (.inl (by dsimp only; omega)) (setO (.inl (by dsimp only; omega)) h0)
          have h1 : wM.cell? ⟨L, 1, none⟩ = some (.int .i64 (mxL Z k)) := by rw [hw_]; exact setO (.inl (by dsimp only; omega)) (setO (.inl (by dsimp only; omega)) h1)
          have gf0 : wM.frozen? ⟨F, 0, none⟩ = false := by rw [hw_]; exact setF (setF gf0)
          have gf1 : wM.frozen? ⟨F, 1, none⟩ = false := by rw [hw_]; exact setF (setF gf1)
          have hf0 : wM.frozen? ⟨L, 0, none⟩ = false := by rw [hw_]; exact setF (setF hf0)
          have hf1 : wM.frozen? ⟨L, 1, none⟩ = false := by rw [hw_]; exact setF (setF hf1)
          have is : SpAt (some ad) m P wM := by rw [hw_]; exact (is.put _ _ _ (fun a e => by cases e; omega)).put _ _ _ (fun a e => by cases e; omega)
          have hb : Below wA.heap.size wB wM := by rw [hw_]; exact (hb.setCell (by dsimp only; omega) _).setCell (by dsimp only; omega) _
          clear hw_
          obtain ⟨e0, e1⟩ := is.at hlt
          rw [← HX0.out] at e0
          rw [← HZ0.out] at e1
          refine wp_region_still_tail 17 (by kernel_rfl) (by kernel_rfl) ?_
          simp only [List.take_succ_cons, List.take_zero, List.drop_succ_cons, List.drop_zero]
          repeat still_step
          refine wpStill_nil ?_
          change wpList _ _ _ _ _ wM.drew
          have g0 : wM.drew.cell? ⟨F, 0, none⟩ = _ := g0
          have g1 : wM.drew.cell? ⟨F, 1, none⟩ = _ := g1
          have h0 : wM.drew.cell? ⟨L, 0, none⟩ = _ := h0
          have h1 : wM.drew.cell? ⟨L, 1, none⟩ = _ := h1
          have gf0 : wM.drew.frozen? ⟨F, 0, none⟩ = false := gf0
          have gf1 : wM.drew.frozen? ⟨F, 1, none⟩ = false := gf1
          have hf0 : wM.drew.frozen? ⟨L, 0, none⟩ = false := hf0
          have hf1 : wM.drew.frozen? ⟨L, 1, none⟩ = false := hf1
          have is : SpAt (some ad) m P wM.drew := is
          have hb : Below wA.heap.size wB wM.drew := hb.drew
          clear e0 e1
          generalize wM.drew = we at *
          go_wp2_with fail
          obtain ⟨wN, hw_⟩ : ∃ q, q = (we.setCell ⟨L, 0, none⟩ (.int .i64 (max (mxL X k) (X k)))).setCell ⟨L, 1, none⟩ (.int .i64 (max (mxL Z k) (Z k))) := ⟨_, rfl⟩
          rw [← hw_]
          have g0 : wN.cell? ⟨F, 0, none⟩ = some (.int .i64 (mnL X (k + 1))) := by rw [hw_]; exact setO (.inl (by dsimp only; omega)) (setO (.inl (by dsimp only; omega)) g0)
          have g1 : wN.cell? ⟨F, 1, none⟩ = some (.int .i64 (mnL Z (k + 1))) := by rw [hw_]; exact setO (.inl (by dsimp only; omega)) (setO (.inl (by dsimp only; omega)) g1)
          have h0 : wN.cell? ⟨L, 0, none⟩ = some (.int .i64 (mxL X (k + 1))) := by rw [hw_]; exact setO (.inr (by dsimp only; omega)) (setS h0)
          have h1 : wN.cell? ⟨L, 1, none⟩ = some (.int .i64 (mxL Z (k + 1))) := by rw [hw_]; exact setS (setO (.inr (by dsimp only; omega)) h1)
          have gf0 : wN.frozen? ⟨F, 0, none⟩ = false := by rw [hw_]; exact setF (setF gf0)
          have gf1 : wN.frozen? ⟨F, 1, none⟩ = false := by rw [hw_]; exact setF (setF gf1)
          have hf0 : wN.frozen? ⟨L, 0, none⟩ = false := by rw [hw_]; exact setF (setF hf0)
          have hf1 : wN.frozen? ⟨L, 1, none⟩ = false := by rw [hw_]; exact setF (setF hf1)
          have is : SpAt (some ad) m P wN := by rw [hw_]; exact (is.put _ _ _ (fun a e => by cases e; omega)).put _ _ _ (fun a e => by cases e; omega)
          have hb : Below wA.heap.size wB wN := by rw [hw_]; exact (hb.setCell (by dsimp only; omega) _).setCell (by dsimp only; omega) _
          clear hw_
          go_roundw
          case rel => exact ⟨k + 1, by omega, by go_num, g0, g1, h0, h1, gf0, gf1, hf0, hf1, is, hb⟩
          case measure => simp [intOf]; omega
        · have hk' : k = m := by omega
          have kk : decide ((k : Int) < (m : Int)) = false := by simp; omega
          subst hk'
          have r0 : wr.cell? ⟨w.heap.size + 1 + 1 + 1, 0, none⟩ = some (.int .i64 0) := (hb.cell (by dsimp only; omega)).trans k3_0
          have r1 : wr.cell? ⟨w.heap.size + 1 + 1 + 1, 1, none⟩ = some (.int .i64 0) := (hb.cell (by dsimp only; omega)).trans k3_1
          have rf0 : wr.frozen? ⟨w.heap.size + 1 + 1 + 1, 0, none⟩ = false := (hb.frozen (by dsimp only; omega)).trans f3_0
          have rf1 : wr.frozen? ⟨w.heap.size + 1 + 1 + 1, 1, none⟩ = false := (hb.frozen (by dsimp only; omega)).trans f3_1
          have HF : Hid (Below w.heap.size w wr) := Lib.hid (B3.out.trans (hb.mono (by omega)))
          obtain ⟨i1, hi1, m1_⟩ := mnL_mem X k m1
          obtain ⟨i2, hi2, m2_⟩ := mnL_mem Z k m1
          obtain ⟨i3, hi3, m3_⟩ := mxL_mem X k m1
          obtain ⟨i4, hi4, m4_⟩ := mxL_mem Z k m1
          have x1 := XB.out i1 hi1; have x2 := XB.out i2 hi2; have x3 := XB.out i3 hi3; have x4 := XB.out i4 hi4
          rw [← HX0.out, ← HZ0.out] at x1 x2 x3 x4
          have v1 : IntKind.i64.wrap (mxL X k - mnL Z k) = mxL X k - mnL Z k := IntWalk.i64_in _ (by omega)
          have v2 : IntKind.i64.wrap (mxL Z k - mnL X k) = mxL Z k - mnL X k := IntWalk.i64_in _ (by omega)
          have MC := Lib.hid (Int.max_comm (mxL X k - mnL Z k) 0)
          clear x1 x2 x3 x4 m1_ m2_ m3_ m4_ hi1 hi2 hi3 hi4 hb is
          go_wp2
          exact bodyPost_ret (v := .tuple #[.agg #[.int .i64 (max 0 (mxL X k - mnL Z k)), .int .i64 (mxL Z k - mnL X k)], .int .i64 0]) (by simp [results, Tryz.results56, go_sem, World.cell?_alloc_past, *]) rfl ⟨by rw [MC.out], (by (repeat (first | (with_reducible exact HF.out) | (with_reducible refine Below.setCell ?_ ?_ _) | (with_reducible refine below_alloc_top ?_ _) | (with_reducible refine Below.drew ?_))); all_goals (first | omega | (simp; done) | (simp; omega)))⟩

/-- whether a number rises over the one before -/
def ascB (l : Nat → Int) (k : Nat) : Bool := decide (k = 0 ∨ l (k - 1) < l k)
def thB (n : Nat) (x : Int) : Bool := decide (0 ≤ x ∧ x < n)
def wcE (n : Nat) (dd : Nat → Int) (i : Nat) : Int := fst [unl (thB n (dd i)) 6, unl (ascB dd i) 9]
theorem wcE_zero (n : Nat) (dd : Nat → Int) (i : Nat) : wcE n dd i = 0 ↔ (0 ≤ dd i ∧ dd i < n) ∧ (i = 0 ∨ dd (i - 1) < dd i) := by
  unfold wcE
  rw [fst_zero]
  simp only [List.mem_cons, List.not_mem_nil, or_false, forall_eq_or_imp, forall_eq, unl_zero _ _ (show (6 : Int) ≠ 0 by decide), unl_zero _ _ (show (9 : Int) ≠ 0 by decide), thB, ascB, decide_eq_true_eq]
/-- the error of a law in which some do not send, and its ticks -/
def woE (d : Dl) (dd : Nat → Int) (nd : Nat) : Int := if d.E = 0 then ffE (wcE d.n dd) 0 nd else d.E
def woC (t dd : Nat → Int) (k i : Nat) : Int := if hasB dd k i then -1 else t i
theorem woC_zero (t dd : Nat → Int) : woC t dd 0 = t := by funext i; simp [woC, hasB]
theorem woC_next (t dd : Nat → Int) (k i j : Nat) (h : dd k = i) : woC t dd (k + 1) j = if j = i then -1 else woC t dd k j := by
  unfold woC
  have e : hasB dd (k + 1) j = (hasB dd k j || dd k == j) := by unfold hasB; rw [List.range_succ, List.any_append]; simp
  rw [e, h]
  by_cases q : j = i
  · subst q; simp
  · have : ((i : Int) == (j : Int)) = false := by simp; omega
    rw [this, Bool.or_false, if_neg q]
def woPost (ck : Int) (t : Nat → Int) (n : Nat) (E : Int) (w : World) (e : Ending) (w' : World) : Prop :=
  ∃ (x : Int) (A : Option Addr) (n' c' : Nat), e = .returned (.tuple #[.agg #[.int .i64 x, .slice A n' c'], .int .i64 E]) ∧ (E = 0 → x = ck ∧ n' = n ∧ (∃ g, A = some ⟨g, 0, none⟩ ∧ w.heap.size ≤ g ∧ g < w'.heap.size) ∧ InAt A n t w') ∧ Below w.heap.size w w'
set_option maxRecDepth 100000 in
set_option maxHeartbeats 1000000 in
theorem ascend_any (a : Addr) (n c : Nat) (l : Nat → Int) (k : Nat) (w : World) (hk : k < n) (hm : n ≤ 1000) (h : InAt (some a) n l w) :
    Calls Tryz.prog 89 #[.slice (some a) n c, .int .i64 (k : Int)] w fun e w' => e = .returned (.int .i64 (unl (ascB l k) 9)) ∧ Below w.heap.size w w' := by
  have UU : Hid (∀ b w, Calls Tryz.prog 78 #[.bool b, .int .i64 9] w fun e w' => e = .returned (.int .i64 (unl b 9)) ∧ w' = w) := Lib.hid (fun b w => (unless_any b 9 w).mono (fun e w' h => ⟨h.1, h.2.symm⟩))
  by_cases h0 : k = 0
  · subst h0
    have e1 : ascB l 0 = true := by simp [ascB]
    rw [e1]
    clear h e1
    go_enter Tryz.func89, Tryz.ntmps89
    go_upto_region 1 with fail
    go_quiet ((go_at_call 78; exact Calls.quiet_of_same (UU.out _ _)))
    go_wp2
    go_ret
    exact ⟨rfl, below_drewN (Below.refl _ _) _⟩
  · obtain ⟨m, rfl⟩ : ∃ m, k = m + 1 := ⟨k - 1, by omega⟩
    have c0 := h.at (show m < n by omega)
    have c1 := h.at hk
    have c2 : w.cell? ⟨a.block, a.off + (m + 1), none⟩ = some (.int .i64 (l (m + 1))) := c1
    have b0 : (((m + 1 : Nat) : Int) == 0) = false := by simp; omega
    have j0 : (0 : Int) ≤ (m : Int) := Int.natCast_nonneg _
    have j1 : (m : Int) < (n : Int) := by omega
    have j2 : (m : Int) + 1 < (n : Int) := by omega
    have j3 : (0 : Int) ≤ (m : Int) + 1 := by omega
    have v1 : IntKind.i64.wrap (m : Int) = (m : Int) := IntWalk.i64_in _ (by omega)
    have e1 : ascB l (m + 1) = decide (l m < l (m + 1)) := by simp [ascB]
    rw [e1]
    have e2 : ((m + 1 : Nat) : Int) = (m : Int) + 1 := rfl
    rw [e2] at b0 ⊢
    clear h h0 hk e1 e2
    go_enter Tryz.func89, Tryz.ntmps89
    go_upto_region 1 with fail
    go_quiet ((go_at_call 78; exact Calls.quiet_of_same (UU.out _ _)))
    go_wp2
    go_ret
    exact ⟨rfl, below_drewN (Below.refl _ _) _⟩
set_option maxRecDepth 100000 in
set_option maxHeartbeats 1000000 in
theorem count20_any (n : Int) (w : World) : Calls Tryz.prog 50 #[.int .i64 n, .int .i64 20] w fun e w' => e = .returned (.int .i64 (ctE n 20)) ∧ Below w.heap.size w w' := by
  unfold ctE
  by_cases h1 : 0 < n
  · rw [decide_eq_true h1]
    by_cases h2 : n ≤ 20
    · rw [decide_eq_true h2]
      go_enter Tryz.func50, Tryz.ntmps50
      go_wp2_with (first
        | (go_at_call 78; (with_reducible refine (unless_any _ _ _).mono ?_); rintro e w' ⟨rfl, rfl⟩)
        | (go_at_call 42; refine (firstError_any _ [unl true 10, unl true 8] _ (by simp) (by first | exact cells_drew _ _ (by simp) _ _ | exact cells_new _ _ (by simp) _ _)).mono ?_; rintro e w' ⟨rfl, rfl⟩))
      go_ret
      exact ⟨rfl, (by repeat (first | exact Below.refl _ _ | refine Below.drew ?_ | refine below_drewN ?_ _ | refine Below.setCell ?_ (by first | omega | (simp; done) | (simp; omega)) _ | refine Below.alloc ?_ (by first | omega | (simp; done) | (simp; omega)) _))⟩
    · rw [decide_eq_false h2]
      have h2' : 20 < n := by omega
      have d2 : decide (n ≤ 20) = false := by simp; omega
      clear h2
      go_enter Tryz.func50, Tryz.ntmps50
      go_wp2_with (first
        | (go_at_call 78; (with_reducible refine (unless_any _ _ _).mono ?_); rintro e w' ⟨rfl, rfl⟩)
        | (go_at_call 42; refine (firstError_any _ [unl true 10, unl false 8] _ (by simp) (by first | exact cells_drew _ _ (by simp) _ _ | exact cells_new _ _ (by simp) _ _)).mono ?_; rintro e w' ⟨rfl, rfl⟩))
      go_ret
      exact ⟨rfl, (by repeat (first | exact Below.refl _ _ | refine Below.drew ?_ | refine below_drewN ?_ _ | refine Below.setCell ?_ (by first | omega | (simp; done) | (simp; omega)) _ | refine Below.alloc ?_ (by first | omega | (simp; done) | (simp; omega)) _))⟩
  · rw [decide_eq_false h1]
    by_cases h2 : n ≤ 20
    · rw [decide_eq_true h2]
      go_enter Tryz.func50, Tryz.ntmps50
      go_wp2_with (first
        | (go_at_call 78; (with_reducible refine (unless_any _ _ _).mono ?_); rintro e w' ⟨rfl, rfl⟩)
        | (go_at_call 42; refine (firstError_any _ [unl false 10, unl true 8] _ (by simp) (by first | exact cells_drew _ _ (by simp) _ _ | exact cells_new _ _ (by simp) _ _)).mono ?_; rintro e w' ⟨rfl, rfl⟩))
      go_ret
      exact ⟨rfl, (by repeat (first | exact Below.refl _ _ | refine Below.drew ?_ | refine below_drewN ?_ _ | refine Below.setCell ?_ (by first | omega | (simp; done) | (simp; omega)) _ | refine Below.alloc ?_ (by first | omega | (simp; done) | (simp; omega)) _))⟩
    · exact absurd (show n ≤ 20 by omega) h2
/-- the error of a place is that of the way of the first element -/
theorem e_place (a : La) (f : Sp) (h : a.E = 0) : a.e f 0 = plE a f := by
  obtain ⟨⟨n0, n1⟩, he, o, _, _⟩ := (La.E_zero a).1 h
  have key : ∀ i, i < a.n → a.e f i = plE a f := fun i hi => by
    have q := he i hi
    unfold elE at q
    rw [fst_zero] at q
    simp only [List.mem_cons, List.not_mem_nil, or_false, forall_eq_or_imp, forall_eq] at q
    obtain ⟨q1, q2⟩ := q
    have dp : dpB f.z a.m.th = inB f.z 1 (a.m.th - 1) := by
      unfold dpB inB
      congr 1
      all_goals exact decide_eq_decide.2 (by omega)
    show fst [moE a.m, fst [placeE (a.p i).x (a.p i).z, placeE f.x f.z, unl (decide ((a.p i).z < 0)) 15, unl (dpB f.z a.m.th) 22]] = _
    rw [(moE_ok a.m).2 o, q1, q2, dp]
    unfold plE
    by_cases r : placeE f.x f.z = 0
    · rw [if_pos r, r]
      by_cases s : unl (inB f.z 1 (a.m.th - 1)) 22 = 0 <;> simp [fst, s]
    · rw [if_neg r]; simp [fst, r]
  exact key 0 n0
set_option maxRecDepth 100000 in
set_option maxHeartbeats 4000000 in
theorem placeErr0_any (a : La) (f : Sp) (A : Option Addr) (c : Nat) (w : World) (hn : 0 < a.n) (h : SpAt A a.n a.p w) :
    Calls Tryz.prog 53 #[.agg #[.slice A a.n c, .int .i64 a.m.wd, .int .i64 a.m.mt, .int .i64 a.m.sk, .int .i64 a.m.th, .int .i64 a.ck], .agg #[.int .i64 f.x, .int .i64 f.z]] w fun e_ w' => e_ = .returned (.int .i64 (a.e f 0)) ∧ Below w.heap.size w w' := by
  have HX := Lib.hid h; clear h
  obtain ⟨ad, rfl⟩ := HX.out.some hn
  have HC : Hid (∀ w', Calls Tryz.prog 84 #[.agg #[.int .i64 a.m.wd, .int .i64 a.m.mt, .int .i64 a.m.sk, .int .i64 a.m.th], .agg #[.int .i64 (a.p 0).x, .int .i64 (a.p 0).z], .agg #[.int .i64 f.x, .int .i64 f.z]] w' fun e_ w'' => ∃ c1 c2 c3 c4 c5 c6 : Int, e_ = .returned (.tuple #[.agg #[.int .i64 c1, .int .i64 c2, .int .i64 c3, .int .i64 c4, .int .i64 c5, .int .i64 c6], .int .i64 (a.e f 0)]) ∧ Below w'.heap.size w' w'') := Lib.hid (fun w' => by
    by_cases q : a.e f 0 = 0
    · have := crossOf_ok (a.y f 0) (wyE_zero_ok _ q) w'
      rw [q]
      exact this.mono (fun e_ w'' ⟨h1, h2⟩ => ⟨_, _, _, _, _, _, h1, h2⟩)
    · exact (crossOf_bad (a.y f 0) q w').mono (fun e_ w'' ⟨h1, h2⟩ => ⟨_, _, _, _, _, _, h1, h2⟩))
  generalize a.e f 0 = ev at *
  go_enter Tryz.func53, Tryz.ntmps53
  go_wp2_with fail
  obtain ⟨w1, hw_w1⟩ : ∃ q_, q_ = ((w.alloc (.cells #[.slice (some ad) a.n c, .int .i64 a.m.wd, .int .i64 a.m.mt, .int .i64 a.m.sk, .int .i64 a.m.th, .int .i64 a.ck] 89)).alloc (.cells #[.int .i64 f.x, .int .i64 f.z] 45)) := ⟨_, rfl⟩
  rw [← hw_w1]
  have q10 : w1.cell? ⟨w.heap.size, 0, none⟩ = some (.slice (some ad) a.n c) := by rw [hw_w1]; simp [go_sem]
  have q11 : w1.cell? ⟨w.heap.size, 1, none⟩ = some (.int .i64 a.m.wd) := by rw [hw_w1]; simp [go_sem]
  have q12 : w1.cell? ⟨w.heap.size, 2, none⟩ = some (.int .i64 a.m.mt) := by rw [hw_w1]; simp [go_sem]
  have q13 : w1.cell? ⟨w.heap.size, 3, none⟩ = some (.int .i64 a.m.sk) := by rw [hw_w1]; simp [go_sem]
  have q14 : w1.cell? ⟨w.heap.size, 4, none⟩ = some (.int .i64 a.m.th) := by rw [hw_w1]; simp [go_sem]
  have q15 : w1.cell? ⟨w.heap.size, 5, none⟩ = some (.int .i64 a.ck) := by rw [hw_w1]; simp [go_sem]
  have q16 : w1.cell? ⟨w.heap.size + 1, 0, none⟩ = some (.int .i64 f.x) := by rw [hw_w1]; simp [go_sem]
  have q17 : w1.cell? ⟨w.heap.size + 1, 1, none⟩ = some (.int .i64 f.z) := by rw [hw_w1]; simp [go_sem]
  have H1 : Hid (Below w.heap.size w w1) := Lib.hid (by rw [hw_w1]; exact (by repeat (first | exact Below.refl _ _ | refine Below.drew ?_ | refine below_drewN ?_ _ | refine Below.setCell ?_ (by first | omega | (simp; done) | (simp; omega)) _ | refine Below.alloc ?_ (by first | omega | (simp; done) | (simp; omega)) _)))
  have z1 : w1.heap.size = w.heap.size + 2 := by rw [hw_w1]; simp
  clear hw_w1
  clear z1
  obtain ⟨c0, c1_⟩ := (HX.out.later H1.out).at hn
  have ea0 : ad.add 0 = ad := by unfold Addr.add; rfl
  simp only [Nat.zero_mul, ea0] at c0 c1_
  have nn : (0 : Int) < (a.n : Int) := by omega
  clear ea0
  generalize (a.p 0).x = px at *
  generalize (a.p 0).z = pz at *
  go_upto_region 1 with fail
  have hS : Below w1.heap.size w1 w1 := Below.refl _ _
  go_cut [6] (fun s6 wx => s6 = .int .i64 ev ∧ Below w1.heap.size w1 wx)
  case first =>
    go_region_held3 (fun w' => w'.cell? ⟨w.heap.size, 0, none⟩ = some (.slice (some ad) a.n c) ∧ w'.cell? ⟨w.heap.size, 1, none⟩ = some (.int .i64 a.m.wd) ∧ w'.cell? ⟨w.heap.size, 2, none⟩ = some (.int .i64 a.m.mt) ∧ w'.cell? ⟨w.heap.size, 3, none⟩ = some (.int .i64 a.m.sk) ∧ w'.cell? ⟨w.heap.size, 4, none⟩ = some (.int .i64 a.m.th) ∧ w'.cell? ⟨w.heap.size, 5, none⟩ = some (.int .i64 a.ck) ∧ w'.cell? ⟨w.heap.size + 1, 0, none⟩ = some (.int .i64 f.x) ∧ w'.cell? ⟨w.heap.size + 1, 1, none⟩ = some (.int .i64 f.z) ∧ w'.cell? ad = some (.int .i64 px) ∧ w'.cell? ⟨ad.block, ad.off + 1, none⟩ = some (.int .i64 pz) ∧ Below w1.heap.size w1 w') (((go_split_ands; (repeat' apply And.intro) <;> ((repeat (first | (with_reducible assumption) | (with_reducible exact Below.refl _ _) | (with_reducible refine cell_alloc_later ?_ _) | (with_reducible refine cell_drewA ?_) | (with_reducible refine cellA (by with_reducible assumption) ?_) | (with_reducible refine belowA ?_ (by with_reducible assumption)) | (with_reducible refine below_alloc_top ?_ _) | (with_reducible refine Below.drew ?_) | (with_reducible refine cell_set_old ?_ (by with_reducible assumption)) | (with_reducible refine below_set_old ?_ (by with_reducible assumption)) | (with_reducible refine Below.setCell ?_ (by first | omega | (simp; done) | (simp; omega)) _) | (simp [go_sem, World.cell?_alloc_past, *]; done))); done))))
      (first
        | (go_split_ands; go_at_call 84; (with_reducible refine (HC.out _).mono ?_); rintro e w' ⟨c1, c2, c3, c4, c5, c6, rfl, hb⟩; have hbA : BelA _ w' := hb; obtain ⟨hc', hf'⟩ := bcell hb; have hz' := hb.size; (try simp at hz'); (first | (have tF' := Nat.lt_of_succ_le hz') | (have tF' := Nat.lt_of_lt_of_le tF' hz') | skip); clear hb))
    all_goals
      go_split_ands
      go_wp2_with fail
      go_meet
      exact ⟨rfl, (by first | (with_reducible assumption) | (simp [go_sem, World.cell?_alloc_past, *]; done))⟩
  case rest =>
    obtain ⟨rfl, bel⟩ := hcut
    clear hS
    obtain ⟨w2, hw_⟩ : ∃ q_, q_ = wc := ⟨_, rfl⟩
    subst hw_
    have k2_0 := cell_later bel q10
    have k2_1 := cell_later bel q11
    have k2_2 := cell_later bel q12
    have k2_3 := cell_later bel q13
    have k2_4 := cell_later bel q14
    have k2_5 := cell_later bel q15
    have k2_6 := cell_later bel q16
    have k2_7 := cell_later bel q17
    have k2_8 := cell_later bel c0
    have k2_9 := cell_later bel c1_
    have B2 : Hid (Below w.heap.size w w2) := Lib.hid (below_then H1.out bel)
    clear q10 q11 q12 q13 q14 q15 q16 q17 c0 c1_ H1
    have z2_0 := World.block_lt_of_cell? _ _ k2_0
    (try dsimp only at z2_0)
    have z2_6 := World.block_lt_of_cell? _ _ k2_6
    (try dsimp only at z2_6)
    have z2_8 := World.block_lt_of_cell? _ _ k2_8
    (try dsimp only at z2_8)
    have z2_9 := World.block_lt_of_cell? _ _ k2_9
    (try dsimp only at z2_9)
    clear bel
    go_wp2
    exact bodyPost_ret (v := .int .i64 ev) (by simp [results, Tryz.results53, go_sem, *]) rfl ⟨rfl, (by (repeat (first | (with_reducible exact B2.out) | (with_reducible refine Below.setCell ?_ ?_ _) | (with_reducible refine below_alloc_top ?_ _) | (with_reducible refine Below.drew ?_))); all_goals (first | omega | (simp; done) | (simp; omega)))⟩
def ckG (l : Nat → Int) (i : Nat) : Int := fst [unl (inB (l i) 1 1000000) 2, unl (ascB l i) 9]
def ckE (l : Nat → Int) (m : Nat) : Int := fst [ctE m 20, ffE (ckG l) 0 m]
set_option maxRecDepth 100000 in
set_option maxHeartbeats 1000000 in
theorem clk1_any (D : Option Addr) (m k : Nat) (l : Nat → Int) (i : Nat) (x : Int) (Bd : Nat) (w : World) (b2 : w.cell? ⟨Bd, 0, none⟩ = some (.slice D m k)) (h : InAt D m l w) (hi : i < m) (hx : l i = x) (hm : m ≤ 1000) :
    Calls Tryz.prog 88 #[.int .i64 (i : Int), .int .i64 x, .pointer (some ⟨Bd, 0, none⟩)] w fun e w' => e = .returned (.int .i64 (ckG l i)) ∧ Below w.heap.size w w' := by
  obtain ⟨a, rfl⟩ := h.some (show 0 < m by omega)
  have HX := Lib.hid h; clear h
  have HA := Lib.hid (fun w h => ascend_any a m k l i w hi hm h)
  have hE : ckG l i = fst [unl (inB x 1 1000000) 2, unl (ascB l i) 9] := by unfold ckG; rw [hx]
  rw [hE]
  generalize ascB l i = rb at *
  have HI := Lib.hid (fun w => clockErr_any x w)
  generalize inB x 1 1000000 = tb at *
  clear hE hx
  have zd := World.block_lt_of_cell? _ _ b2
  dsimp only at zd
  have hS : Below w.heap.size w w := Below.refl _ _
  go_enter Tryz.func88, Tryz.ntmps88
  go_upto_region 1 with fail
  go_region_held3 (fun w' => w'.cell? ⟨Bd, 0, none⟩ = some (.slice (some a) m k) ∧ Below w.heap.size w w') ((go_split_ands; (repeat' apply And.intro) <;> first | (with_reducible assumption) | exact cell_later (by assumption) (by assumption) | exact frozen_after (by assumption) (by assumption) (by assumption) | exact below_then (by assumption) (by assumption) | exact below_alloc_top (by assumption) _ | exact cell_alloc_later (by assumption) _ | exact frozen_alloc_later (by assumption) (by assumption) _ | exact Below.drew (by assumption) | (simp [go_sem, World.cell?_alloc_past, *]; done)))
    (first
      | (go_at_call 67; (with_reducible refine (HI.out _).mono ?_); rintro e w' ⟨rfl, rfl⟩)
      | (go_split_ands; go_at_call 89; (with_reducible refine (HA.out _ (HX.out.later (by with_reducible assumption))).mono ?_); rintro e w' ⟨rfl, hb⟩)
      | (go_at_call 42; refine (firstError_any _ [unl tb 2, unl rb 9] _ (by simp) (by first | exact cells_drew _ _ (by simp) _ _ | exact cells_new _ _ (by simp) _ _)).mono ?_; rintro e w' ⟨rfl, rfl⟩))
  go_split_ands
  go_wp2
  go_ret
  exact ⟨rfl, by first | (with_reducible assumption) | (with_reducible exact Below.drew (by assumption)) | (with_reducible exact below_alloc_top (by assumption) _)⟩
set_option maxRecDepth 100000 in
set_option maxHeartbeats 1000000 in
theorem each_clk (A : Option Addr) (n c : Nat) (p : Nat → Int) (g : Nat → Int) (Bd : Nat) (w : World) (hm : n ≤ 1000) (h : InAt A n p w)
    (HC : ∀ i, i < n → ∀ W, Below w.heap.size w W → Calls Tryz.prog 88 #[.int .i64 (i : Int), .int .i64 (p i), .pointer (some ⟨Bd, 0, none⟩)] W fun e w' => e = .returned (.int .i64 (g i)) ∧ Below W.heap.size W w') :
    Calls Tryz.prog 87 #[.slice A n c, .func (.func 88) #[] #[.pointer (some ⟨Bd, 0, none⟩)]] w fun e w' => e = .returned (.tuple #[.int .i64 (ffI g 0 n : Nat), .int .i64 (ffE g 0 n)]) ∧ Below w.heap.size w w' := by
  have HX := Lib.hid h; have HC' := Lib.hid HC; clear h HC
  have FS := Lib.hid (ffE_step g); have IS := Lib.hid (ffI_step g)
  generalize hEq : ffE g 0 n = E0 at *
  generalize hIq : ffI g 0 n = I0 at *
  have EQ := Lib.hid hEq; have IQ := Lib.hid hIq; clear hEq hIq
  go_enter Tryz.func87, Tryz.ntmps87
  go_wp2
  go_loopw [11] (fun s11 wr => ∃ k : Nat, k ≤ n ∧ s11 = .int .i64 (k : Int) ∧ ffE g k (n - k) = E0 ∧ ffI g k (n - k) = I0 ∧ Below w.heap.size w wr) (fun s11 _ => n - (intOf s11).toNat)
  case atStart => exact ⟨0, Nat.zero_le _, rfl, EQ.out, IQ.out, Below.refl _ _⟩
  case round =>
    obtain ⟨k, hk, rfl, hE, hI, hb⟩ := hrel
    have HE := Lib.hid hE; have HI := Lib.hid hI; clear hE hI
    have sz := hb.size
    have HB := Lib.hid hb
    by_cases hlt : k < n
    · obtain ⟨a, rfl⟩ := HX.out.some (by omega)
      have e0 := (HX.out.later hb).at hlt
      have j0 : (0 : Int) ≤ (k : Int) := Int.natCast_nonneg _
      have j1 : (k : Int) < (n : Int) := by omega
      have j8 : (k : Int) < 1000 := by omega
      clear hb
      have HL := Lib.hid (fun W => HC'.out k hlt W)
      by_cases hg : g k = 0
      · have HG := Lib.hid hg
        rw [hg] at HL
        clear hg
        go_wp2_with fail
        refine (HL.out _ (by (repeat (first | (with_reducible exact HB.out) | (with_reducible refine Below.setCell ?_ ?_ _) | (with_reducible refine below_alloc_top ?_ _) | (with_reducible refine Below.drew ?_))); all_goals (first | omega | (simp; done) | (simp; omega)))).mono ?_
        rintro e w5 ⟨rfl, hb5⟩
        have H5 : Hid (Below w.heap.size w w5) := Lib.hid (below_then (by (repeat (first | (with_reducible exact HB.out) | (with_reducible refine Below.setCell ?_ ?_ _) | (with_reducible refine below_alloc_top ?_ _) | (with_reducible refine Below.drew ?_))); all_goals (first | omega | (simp; done) | (simp; omega))) hb5)
        clear hb5
        go_wp2
        go_roundw
        case rel => exact ⟨k + 1, by omega, by go_num, by rw [← HE.out, FS.out k n hlt, if_pos HG.out], by rw [← HI.out, IS.out k n hlt, if_pos HG.out], H5.out⟩
        case measure => simp [intOf]; omega
      · have n1 : (g k != 0) = true := by simpa using hg
        have EE : Hid (E0 = g k) := by show _ = _; rw [← HE.out, FS.out k n hlt, if_neg hg]
        have II : Hid (I0 = k) := by show _ = _; rw [← HI.out, IS.out k n hlt, if_neg hg]
        clear hg
        go_wp2_with fail
        refine (HL.out _ (by (repeat (first | (with_reducible exact HB.out) | (with_reducible refine Below.setCell ?_ ?_ _) | (with_reducible refine below_alloc_top ?_ _) | (with_reducible refine Below.drew ?_))); all_goals (first | omega | (simp; done) | (simp; omega)))).mono ?_
        rintro e w5 ⟨rfl, hb5⟩
        have H5 : Hid (Below w.heap.size w w5) := Lib.hid (below_then (by (repeat (first | (with_reducible exact HB.out) | (with_reducible refine Below.setCell ?_ ?_ _) | (with_reducible refine below_alloc_top ?_ _) | (with_reducible refine Below.drew ?_))); all_goals (first | omega | (simp; done) | (simp; omega))) hb5)
        clear hb5
        go_wp2
        go_ret2
        exact ⟨by rw [EE.out, II.out]; rfl, H5.out⟩
    · have hk' : k = n := by omega
      have hE0 : E0 = 0 := by rw [← HE.out, hk', Nat.sub_self]; rfl
      have hI0 : I0 = 0 := by rw [← HI.out, hk', Nat.sub_self]; rfl
      have HE0 := Lib.hid hE0; have HI0 := Lib.hid hI0
      have kk : decide ((k : Int) < (n : Int)) = false := by simp; omega
      clear hE0 hI0 hk'
      go_wp2
      go_ret2
      exact ⟨by rw [HE0.out, HI0.out]; rfl, HB.out⟩
set_option maxRecDepth 100000 in
set_option maxHeartbeats 1000000 in
theorem clocksErr_any (l : Nat → Int) (m : Nat) (D : Option Addr) (k : Nat) (w : World) (h : InAt D m l w) (hm : m ≤ 1000) :
    Calls Tryz.prog 57 #[.slice D m k] w fun e_ w' => e_ = .returned (.int .i64 (ckE l m)) ∧ Below w.heap.size w w' := by
  have HX := Lib.hid h; clear h
  have HEA : Hid (∀ w', w'.cell? ⟨w.heap.size, 0, none⟩ = some (.slice D m k) → InAt D m l w' → Calls Tryz.prog 87 #[.slice D m k, .func (.func 88) #[] #[.pointer (some ⟨w.heap.size, 0, none⟩)]] w' fun e' w'' => e' = .returned (.tuple #[.int .i64 (ffI (ckG l) 0 m : Nat), .int .i64 (ffE (ckG l) 0 m)]) ∧ Below w'.heap.size w' w'') := Lib.hid (fun w' c2 h => each_clk D m k l (ckG l) w.heap.size w' hm h (fun i hi W hW => clk1_any D m k l i (l i) w.heap.size W (cell_later hW c2) (h.later hW) hi rfl hm))
  have HCT := Lib.hid (fun w => count20_any (m : Int) w)
  have EF : Hid (fst [ctE m 20, ffE (ckG l) 0 m] = ckE l m) := Lib.hid rfl
  generalize (ffI (ckG l) 0 m : Nat) = I2 at *
  generalize ffE (ckG l) 0 m = E2 at *
  generalize ctE m 20 = ct at *
  generalize ckE l m = E3 at *
  go_enter Tryz.func57, Tryz.ntmps57
  go_wp2_with fail
  obtain ⟨w1, hw_w1⟩ : ∃ q_, q_ = (w.alloc (.cells #[.slice D m k] 31)) := ⟨_, rfl⟩
  rw [← hw_w1]
  have q10 : w1.cell? ⟨w.heap.size, 0, none⟩ = some (.slice D m k) := by rw [hw_w1]; simp [go_sem]
  have H1 : Hid (Below w.heap.size w w1) := Lib.hid (by rw [hw_w1]; exact (by repeat (first | exact Below.refl _ _ | refine Below.drew ?_ | refine below_drewN ?_ _ | refine Below.setCell ?_ (by first | omega | (simp; done) | (simp; omega)) _ | refine Below.alloc ?_ (by first | omega | (simp; done) | (simp; omega)) _)))
  have z1 : w1.heap.size = w.heap.size + 1 := by rw [hw_w1]; simp
  clear hw_w1
  clear z1
  refine (HEA.out _ q10 (HX.out.later H1.out)).mono ?_
  rintro e_ wA ⟨rfl, hb⟩
  have k2_0 := cell_later hb q10
  have B2 : Hid (Below w.heap.size w wA) := Lib.hid (below_then H1.out hb)
  clear q10 H1
  have z2_0 := World.block_lt_of_cell? _ _ k2_0
  (try dsimp only at z2_0)
  clear hb
  go_wp2_with fail
  refine (HCT.out _).mono ?_
  rintro e_ wB ⟨rfl, hb⟩
  have k3_0 := cell_later hb k2_0
  have B3 : Hid (Below w.heap.size w wB) := Lib.hid (below_then B2.out hb)
  clear k2_0 B2
  have z3_0 := World.block_lt_of_cell? _ _ k3_0
  (try dsimp only at z3_0)
  clear hb
  go_wp2_with (go_at_call 42; refine (firstError_any _ [ct, E2] _ (by simp) (by first | exact cells_drew _ _ (by simp) _ _ | exact cells_new _ _ (by simp) _ _)).mono ?_; rw [EF.out]; rintro e w' ⟨rfl, rfl⟩)
  go_ret
  exact ⟨rfl, (by (repeat (first | (with_reducible exact B3.out) | (with_reducible refine Below.setCell ?_ ?_ _) | (with_reducible refine below_alloc_top ?_ _) | (with_reducible refine Below.drew ?_))); all_goals (first | omega | (simp; done) | (simp; omega)))⟩
/-- the law of a focus, as data -/
def cD (a : La) (f : Sp) : Dl := ⟨a.ck, a.dl f, a.n⟩
def mtB (a : La) (f : Sp) (mo : Int) : Bool := decide (a.FE f = 0) && (decide (a.spE (cD a f) f = 0) && decide (a.spHi (cD a f) f ≤ mo))
theorem dl_in (a : La) (f : Sp) (hn : 0 < a.n) (k0 : 1 ≤ a.ck) (h : a.FE f = 0) : a.fe f = 0 ∧ a.FC f = a.ck ∧ a.FX f = upto (a.dl f) a.n ∧ ∀ i, i < a.n → -1 ≤ a.dl f i ∧ a.dl f i ≤ 1000000 := by
  have hf : a.fe f = 0 := by
    unfold La.FE at h
    by_cases q : a.fe f = 0
    · exact q
    · rw [if_neg q] at h; exact h
  have hl : loE (a.dl f) a.n = 0 := by unfold La.FE at h; rw [if_pos hf] at h; exact h
  have hs : ¬ 1000000 < mxL (a.dl f) a.n := fun q => by unfold loE at hl; rw [if_pos q] at hl; omega
  refine ⟨hf, ?_, ?_, fun i hi => ⟨?_, ?_⟩⟩
  · unfold La.FC loC; rw [if_pos hf, if_neg hs]
  · unfold La.FX loX; rw [if_pos hf, if_neg hs]
  · have h1 := mnL_le (a.mo f) a.n i hi
    have h2 : a.dl f i = (2 * (a.mo f i - mnL (a.mo f) a.n) + a.ck) / (2 * a.ck) := rfl
    have h3 := Int.ediv_nonneg (show 0 ≤ 2 * (a.mo f i - mnL (a.mo f) a.n) + a.ck by omega) (show 0 ≤ 2 * a.ck by omega)
    rw [h2]; omega
  · have h1 := mxL_le (a.dl f) a.n i hi
    omega
set_option maxRecDepth 100000 in
set_option maxHeartbeats 4000000 in
theorem meets_any (a : La) (f : Sp) (mo : Int) (A : Option Addr) (c : Nat) (w : World) (h : SpAt A a.n a.p w) (hn : 0 < a.n) (hm : a.n ≤ 16) (k0 : 1 ≤ a.ck) (k1 : a.ck ≤ 1000000) :
    Calls Tryz.prog 60 #[.agg #[.slice A a.n c, .int .i64 a.m.wd, .int .i64 a.m.mt, .int .i64 a.m.sk, .int .i64 a.m.th, .int .i64 a.ck], .agg #[.int .i64 f.x, .int .i64 f.z], .int .i64 mo] w fun e_ w' => e_ = .returned (.bool (mtB a f mo)) ∧ Below w.heap.size w w' := by
  have HX := Lib.hid h; clear h
  have HFL : Hid (∀ w', SpAt A a.n a.p w' → Calls Tryz.prog 73 #[.agg #[.slice A a.n c, .int .i64 a.m.wd, .int .i64 a.m.mt, .int .i64 a.m.sk, .int .i64 a.m.th, .int .i64 a.ck], .agg #[.int .i64 f.x, .int .i64 f.z]] w' fun e_ w'' => ∃ (x : Int) (A5 : Option Addr) (m5 c5 : Nat), e_ = .returned (.tuple #[.agg #[.int .i64 x, .slice A5 m5 c5], .int .i64 (a.FE f)]) ∧ (a.FE f = 0 → x = a.ck ∧ m5 = a.n ∧ InAt A5 a.n (a.dl f) w'') ∧ Below w'.heap.size w' w'') := Lib.hid (fun w' h => (focusLaw_any a f A c w' h hn hm k0 k1).mono (fun e_ w'' ⟨v, e1, ho, hb⟩ => by
    obtain ⟨A5, c5, rfl, _⟩ := own_form ho
    refine ⟨_, A5, _, c5, e1, fun q => ?_, hb⟩
    obtain ⟨_, q2, q3, _⟩ := dl_in a f hn k0 q
    rw [q3] at ho ⊢
    have lu : (upto (a.dl f) a.n).length = a.n := by simp [upto]
    have lm : (upto (a.dl f) a.n).map (Value.int .i64) = mvs (a.dl f) a.n := by simp [upto, mvs]
    rw [lm, lu] at ho
    obtain ⟨g, c', e3, _, _, hR⟩ := own_row ho hn
    simp at e3
    refine ⟨q2, lu, ?_⟩
    rw [e3.1]; exact hR.at))
  have HSP : Hid (a.FE f = 0 → ∀ B e w', SpAt A a.n a.p w' → InAt B a.n (a.dl f) w' → Calls Tryz.prog 54 #[.agg #[.slice A a.n c, .int .i64 a.m.wd, .int .i64 a.m.mt, .int .i64 a.m.sk, .int .i64 a.m.th, .int .i64 a.ck], .agg #[.int .i64 a.ck, .slice B a.n e], .agg #[.int .i64 f.x, .int .i64 f.z]] w' fun e_ w'' => e_ = .returned (.tuple #[.agg #[.int .i64 (a.spLo (cD a f) f), .int .i64 (a.spHi (cD a f) f)], .int .i64 (a.spE (cD a f) f)]) ∧ Below w'.heap.size w' w'') := Lib.hid (fun q B e w' h g => spread_any a (cD a f) f A c B e w' h g hm k0 k1 (dl_in a f hn k0 q).2.2.2)
  unfold mtB
  generalize a.FE f = E at *
  generalize a.dl f = u at *
  generalize a.spE (cD a f) f = es at *
  generalize a.spHi (cD a f) f = hi at *
  generalize a.spLo (cD a f) f = lo at *
  go_enter Tryz.func60, Tryz.ntmps60
  go_wp2_with fail
  obtain ⟨w1, hw_w1⟩ : ∃ q_, q_ = ((w.alloc (.cells #[.slice A a.n c, .int .i64 a.m.wd, .int .i64 a.m.mt, .int .i64 a.m.sk, .int .i64 a.m.th, .int .i64 a.ck] 89)).alloc (.cells #[.int .i64 f.x, .int .i64 f.z] 45)) := ⟨_, rfl⟩
  rw [← hw_w1]
  have q10 : w1.cell? ⟨w.heap.size, 0, none⟩ = some (.slice A a.n c) := by rw [hw_w1]; simp [go_sem]
  have q11 : w1.cell? ⟨w.heap.size, 1, none⟩ = some (.int .i64 a.m.wd) := by rw [hw_w1]; simp [go_sem]
  have q12 : w1.cell? ⟨w.heap.size, 2, none⟩ = some (.int .i64 a.m.mt) := by rw [hw_w1]; simp [go_sem]
  have q13 : w1.cell? ⟨w.heap.size, 3, none⟩ = some (.int .i64 a.m.sk) := by rw [hw_w1]; simp [go_sem]
  have q14 : w1.cell? ⟨w.heap.size, 4, none⟩ = some (.int .i64 a.m.th) := by rw [hw_w1]; simp [go_sem]
  have q15 : w1.cell? ⟨w.heap.size, 5, none⟩ = some (.int .i64 a.ck) := by rw [hw_w1]; simp [go_sem]
  have q16 : w1.cell? ⟨w.heap.size + 1, 0, none⟩ = some (.int .i64 f.x) := by rw [hw_w1]; simp [go_sem]
  have q17 : w1.cell? ⟨w.heap.size + 1, 1, none⟩ = some (.int .i64 f.z) := by rw [hw_w1]; simp [go_sem]
  have H1 : Hid (Below w.heap.size w w1) := Lib.hid (by rw [hw_w1]; exact (by repeat (first | exact Below.refl _ _ | refine Below.drew ?_ | refine below_drewN ?_ _ | refine Below.setCell ?_ (by first | omega | (simp; done) | (simp; omega)) _ | refine Below.alloc ?_ (by first | omega | (simp; done) | (simp; omega)) _)))
  have z1 : w1.heap.size = w.heap.size + 2 := by rw [hw_w1]; simp
  clear hw_w1
  clear z1
  refine (HFL.out _ (HX.out.later H1.out)).mono ?_
  rintro e_ wA ⟨x5, A5, m5, c5, rfl, hg, hb⟩
  have k2_0 := cell_later hb q10
  have k2_1 := cell_later hb q11
  have k2_2 := cell_later hb q12
  have k2_3 := cell_later hb q13
  have k2_4 := cell_later hb q14
  have k2_5 := cell_later hb q15
  have k2_6 := cell_later hb q16
  have k2_7 := cell_later hb q17
  have B2 : Hid (Below w.heap.size w wA) := Lib.hid (below_then H1.out hb)
  clear q10 q11 q12 q13 q14 q15 q16 q17 H1
  have z2_0 := World.block_lt_of_cell? _ _ k2_0
  (try dsimp only at z2_0)
  have z2_6 := World.block_lt_of_cell? _ _ k2_6
  (try dsimp only at z2_6)
  clear hb
  go_upto_region 2 with fail
  obtain ⟨wB, hw_⟩ : ∃ q_, q_ = wA.alloc (.cells #[.int .i64 x5, .slice A5 m5 c5] 33) := ⟨_, rfl⟩
  rw [← hw_]
  have hb : Below wA.heap.size wA wB := by rw [hw_]; exact (Below.refl _ _).alloc (Nat.le_refl _) _
  have n3_0 : wB.cell? ⟨wA.heap.size, 0, none⟩ = some (.int .i64 x5) := by rw [hw_]; simp [go_sem]
  have n3_1 : wB.cell? ⟨wA.heap.size, 1, none⟩ = some (.slice A5 m5 c5) := by rw [hw_]; simp [go_sem]
  have k3_0 := cell_later hb k2_0
  have k3_1 := cell_later hb k2_1
  have k3_2 := cell_later hb k2_2
  have k3_3 := cell_later hb k2_3
  have k3_4 := cell_later hb k2_4
  have k3_5 := cell_later hb k2_5
  have k3_6 := cell_later hb k2_6
  have k3_7 := cell_later hb k2_7
  have B3 : Hid (Below w.heap.size w wB) := Lib.hid (below_then B2.out hb)
  clear k2_0 k2_1 k2_2 k2_3 k2_4 k2_5 k2_6 k2_7 B2
  have z3_0 := World.block_lt_of_cell? _ _ k3_0
  (try dsimp only at z3_0)
  have z3_6 := World.block_lt_of_cell? _ _ k3_6
  (try dsimp only at z3_6)
  have zn3 : wA.heap.size < wB.heap.size := by rw [hw_]; simp
  have HBB := Lib.hid hb
  clear hb hw_
  by_cases hE : E = 0
  · obtain ⟨p1, p2, ig⟩ := hg hE
    subst p1
    subst p2
    have HSQ := Lib.hid (HSP.out hE)
    subst hE
    clear hg HSP
    have IG := Lib.hid (ig.later HBB.out)
    clear ig
    go_wp2_with fail
    refine (HSQ.out _ _ _ (HX.out.later B3.out) IG.out).mono ?_
    rintro e_ wC ⟨rfl, hb⟩
    have k4_0 := cell_later hb k3_0
    have k4_1 := cell_later hb k3_1
    have k4_2 := cell_later hb k3_2
    have k4_3 := cell_later hb k3_3
    have k4_4 := cell_later hb k3_4
    have k4_5 := cell_later hb k3_5
    have k4_6 := cell_later hb k3_6
    have k4_7 := cell_later hb k3_7
    have k4_8 := cell_later hb n3_0
    have k4_9 := cell_later hb n3_1
    have B4 : Hid (Below w.heap.size w wC) := Lib.hid (below_then B3.out hb)
    clear k3_0 k3_1 k3_2 k3_3 k3_4 k3_5 k3_6 k3_7 n3_0 n3_1 B3
    have z4_0 := World.block_lt_of_cell? _ _ k4_0
    (try dsimp only at z4_0)
    have z4_6 := World.block_lt_of_cell? _ _ k4_6
    (try dsimp only at z4_6)
    have z4_8 := World.block_lt_of_cell? _ _ k4_8
    (try dsimp only at z4_8)
    clear hb
    go_upto_region 5 with fail
    obtain ⟨wD, hw_⟩ : ∃ q_, q_ = wC.alloc (.cells #[.int .i64 lo, .int .i64 hi] 74) := ⟨_, rfl⟩
    rw [← hw_]
    have hb : Below wC.heap.size wC wD := by rw [hw_]; exact (Below.refl _ _).alloc (Nat.le_refl _) _
    have n5_0 : wD.cell? ⟨wC.heap.size, 0, none⟩ = some (.int .i64 lo) := by rw [hw_]; simp [go_sem]
    have n5_1 : wD.cell? ⟨wC.heap.size, 1, none⟩ = some (.int .i64 hi) := by rw [hw_]; simp [go_sem]
    have k5_0 := cell_later hb k4_0
    have k5_1 := cell_later hb k4_1
    have k5_2 := cell_later hb k4_2
    have k5_3 := cell_later hb k4_3
    have k5_4 := cell_later hb k4_4
    have k5_5 := cell_later hb k4_5
    have k5_6 := cell_later hb k4_6
    have k5_7 := cell_later hb k4_7
    have k5_8 := cell_later hb k4_8
    have k5_9 := cell_later hb k4_9
    have B5 : Hid (Below w.heap.size w wD) := Lib.hid (below_then B4.out hb)
    clear k4_0 k4_1 k4_2 k4_3 k4_4 k4_5 k4_6 k4_7 k4_8 k4_9 B4
    have z5_0 := World.block_lt_of_cell? _ _ k5_0
    (try dsimp only at z5_0)
    have z5_6 := World.block_lt_of_cell? _ _ k5_6
    (try dsimp only at z5_6)
    have z5_8 := World.block_lt_of_cell? _ _ k5_8
    (try dsimp only at z5_8)
    have zn5 : wC.heap.size < wD.heap.size := by rw [hw_]; simp
    clear hb hw_
    by_cases h1 : es = 0
    · subst h1
      by_cases h2 : hi ≤ mo
      · have d2 : decide (hi ≤ mo) = true := by simpa using h2
        go_wp2
        go_ret
        exact ⟨by simp [h2], B5.out⟩
      · have d2 : decide (hi ≤ mo) = false := by simp; omega
        go_wp2
        go_ret
        exact ⟨by simp [h2], B5.out⟩
    · have d1 : (es == 0) = false := by simpa using h1
      go_wp2
      go_ret
      exact ⟨by simp [h1], B5.out⟩
  · have n2 : (E != 0) = true := by simpa using hE
    have NE := Lib.hid hE
    clear hg HSP hE
    go_wp2
    go_ret
    exact ⟨by simp [NE.out], B3.out⟩
attribute [local go_sem] Oper.semAt_some
/-- the numbers of m ones from the last one down, k of them -/
def dn (m : Nat) : Nat → List Nat
  | 0 => []
  | k + 1 => dn m k ++ [m - 1 - k]
theorem dn_len (m : Nat) : ∀ k, (dn m k).length = k
  | 0 => rfl
  | k + 1 => by show (dn m k ++ [m - 1 - k]).length = k + 1; simp [dn_len m k]
theorem dn_mem (m : Nat) (x : Nat) : ∀ k, k ≤ m → (x ∈ dn m k ↔ m - k ≤ x ∧ x < m)
  | 0, _ => by show x ∈ ([] : List Nat) ↔ _; simp <;> omega
  | k + 1, h => by
    show x ∈ dn m k ++ [m - 1 - k] ↔ _
    rw [List.mem_append, dn_mem m x k (by omega)]
    simp
    omega
/-- a number below n -/
def cl (n x : Nat) : Nat := if x < n then x else 0
theorem cl_lt (n x : Nat) (h : 0 < n) : cl n x < n := by unfold cl; split <;> omega
theorem cl_at (n x : Nat) (h : x < n) : cl n x = x := by unfold cl; rw [if_pos h]
/-- the greatest number below n that fits -/
def topI (B : Nat → Bool) : Nat → Option Nat
  | 0 => none
  | n + 1 => if B n then some n else topI B n
theorem topI_none (B : Nat → Bool) : ∀ n, (∀ i, i < n → B i = false) → topI B n = none
  | 0, _ => rfl
  | n + 1, h => by
    show (if B n then some n else topI B n) = none
    rw [h n (by omega)]
    exact topI_none B n (fun i hi => h i (by omega))
theorem topI_some (B : Nat → Bool) (j : Nat) (hj : B j = true) : ∀ n, j < n → (∀ i, j < i → i < n → B i = false) → topI B n = some j
  | 0, h, _ => absurd h (by omega)
  | n + 1, h, hf => by
    show (if B n then some n else topI B n) = some j
    by_cases q : j = n
    · subst q; rw [hj]; rfl
    · rw [hf n (by omega) (by omega)]
      exact topI_some B j hj n (by omega) (fun i h1 h2 => hf i h1 (by omega))
set_option maxRecDepth 100000 in
set_option maxHeartbeats 1000000 in
theorem bw1_in (l Bm n₀ : Nat) (A : Option Addr) (n c : Nat) (cs : Nat → Int) (hm : n ≤ 1000) (hb : ∀ a, A = some a → a.block < n₀) (hBn : Bm < n₀) (J Jx : List Nat → World → Prop) (N : Nat) (hN : 1 ≤ N)
    (hY : ∀ pre (x : Nat) W, J pre W → pre.length < n → YieldAt Fence.wide (N - 1) Tryz.prog l #[.int .i64 (cl n x : Nat), .int .i64 (cs (cl n x))] W fun e W' =>
      (e = .returned (.bool true) ∧ J (pre ++ [x]) W' ∧ Below n₀ W W') ∨ (e = .returned (.bool false) ∧ Jx (pre ++ [x]) W'))
    (W : World) (hBm : W.cell? ⟨Bm, 0, none⟩ = some (.slice A n c)) (hI : InAt A n cs W) (h0 : J [] W) :
    CallsIn Fence.wide N Tryz.prog 90 #[.func (.yield l) #[] #[], .pointer (some ⟨Bm, 0, none⟩)] W fun e W' => (∃ v, e = .returned v) ∧
      ((∃ ys, ys = dn n n ∧ J ys W') ∨ (∃ pre, (∃ k, k ≤ n ∧ pre = dn n k) ∧ Jx pre W')) := by
  have HI := Lib.hid hI
  clear hI
  have n0 : (0 : Int) ≤ (n : Int) := Int.natCast_nonneg _
  have w0 : IntKind.i64.wrap ((n : Int) - 1) = (n : Int) - 1 := IntWalk.i64_in _ (by omega)
  refine callsIn_of_wp Tryz.func90 rfl trivial ?_ rfl
  simp only [Tryz.ntmps90, List.size_toArray, List.length_cons, List.length_nil, Nat.reduceAdd, Nat.reduceSub, Array.replicate_succ, Array.replicate_zero, List.push_toArray, List.append_toArray, List.nil_append, List.cons_append]
  gi_wp2
  gi_loopw [3] (fun i wr => ∃ k : Nat, k ≤ n ∧ i = .int .i64 ((n : Int) - 1 - k) ∧ J (dn n k) wr ∧ Below n₀ W wr) (fun i _ => (intOf i + 1).toNat)
  case atStart => exact ⟨0, Nat.zero_le _, by simp, h0, Below.refl _ _⟩
  case round =>
    obtain ⟨k, hk, rfl, hJs, hnx⟩ := hrel
    by_cases hlt : k < n
    · have hBx : wr.cell? ⟨Bm, 0, none⟩ = some (.slice A n c) := (hnx.cell (p := ⟨Bm, 0, none⟩) hBn).trans hBm
      obtain ⟨a, rfl⟩ := HI.out.some (by omega)
      have hab := hb a rfl
      have hx : n - 1 - k < n := by omega
      have hcx : wr.cell? (a.add (n - 1 - k)) = some (.int .i64 (cs (n - 1 - k))) := (hnx.cell (p := a.add (n - 1 - k)) (by show (a.add (n - 1 - k)).block < n₀; unfold Addr.add; split <;> exact hab)).trans (HI.out.at hx)
      have ex : (n : Int) - 1 - k = ((n - 1 - k : Nat) : Int) := by omega
      have dd : decide ((n : Int) - 1 - k ≥ 0) = true := by simp; omega
      have d2 : decide ((0 : Int) ≤ (n : Int) - 1 - k) = true := by simp; omega
      have j0 : (0 : Int) ≤ (n : Int) - 1 - k := by omega
      have j1 : (n : Int) - 1 - k < (n : Int) := by omega
      have j2 : ((n : Int) - 1 - k).toNat = n - 1 - k := by omega
      have w1 : IntKind.i64.wrap ((n : Int) - 1 - k - 1) = (n : Int) - 1 - k - 1 := IntWalk.i64_in _ (by omega)
      obtain ⟨fn, tmps, assign, body, hy, hR⟩ := hY _ (n - 1 - k) wr hJs (by rw [dn_len]; exact hlt)
      rw [cl_at n _ hx, ← ex] at hy
      clear ex
      gi_wp2
      refine hR.mono ?_
      rintro e W3 (⟨rfl, hJ3, hk3⟩ | ⟨rfl, hJx3⟩)
      · gi_wp2
        go_roundw
        case rel => exact ⟨k + 1, by omega, by congr 1; omega, hJ3, hnx.trans hk3⟩
        case measure => simp [intOf]; omega
      · gi_wp2
        refine bodyPost_ret (results_none rfl _ _ _) rfl ?_
        exact ⟨⟨_, rfl⟩, .inr ⟨_, ⟨k + 1, by omega, rfl⟩, hJx3⟩⟩
    · obtain rfl : k = n := by omega
      have dd : decide ((k : Int) - 1 - k ≥ 0) = false := by simp; omega
      gi_wp2
      go_end0
      exact ⟨⟨_, rfl⟩, .inl ⟨_, rfl, hJs⟩⟩
set_option maxRecDepth 100000 in
set_option maxHeartbeats 1000000 in
theorem bw_any (N0 : Nat) (A : Option Addr) (n c : Nat) (w : World) :
    CallsIn Fence.wide N0 Tryz.prog 59 #[.slice A n c] w fun e w' => e = .returned (.func (.func 90) #[] #[.pointer (some ⟨w.heap.size, 0, none⟩)]) ∧ w' = w.alloc (.cells #[.slice A n c] 31) := by
  refine callsIn_of_wp Tryz.func59 rfl trivial ?_ rfl
  simp only [Tryz.ntmps59, List.size_toArray, List.length_cons, List.length_nil, Nat.reduceAdd, Nat.reduceSub, Array.replicate_succ, Array.replicate_zero, List.push_toArray, List.append_toArray, List.nil_append, List.cons_append]
  gi_wp2
  go_ret
  exact ⟨rfl, rfl⟩
theorem bw_stops (N : Nat) (hN : 1 ≤ N) (Bm n₀ : Nat) (A : Option Addr) (n c : Nat) (cs : Nat → Int) (hm : n ≤ 1000) (hb : ∀ a, A = some a → a.block < n₀) (hBn : Bm < n₀) (w : World) (hBm : w.cell? ⟨Bm, 0, none⟩ = some (.slice A n c)) (hI : InAt A n cs w) :
    SeqStopsK Fence.wide N Tryz.prog 90 #[.pointer (some ⟨Bm, 0, none⟩)] (fun x : Nat => #[Value.int .i64 (cl n x : Nat), Value.int .i64 (cs (cl n x))]) (Below n₀) (fun ys => ys = dn n n) (fun pre => ∃ k, k ≤ n ∧ pre = dn n k) n w := fun l J Jx W hW _ _ hY h0 =>
  bw1_in l Bm n₀ A n c cs hm hb hBn J Jx N hN hY W (cell_later hW hBm) (hI.later hW) h0
attribute [local go_sem] Oper.semAt_some
def La.wck (a : La) (c : Int) : La := ⟨a.p, a.n, a.m, c⟩
def coB (a : La) (f : Sp) (cs : Nat → Int) (mo : Int) (i : Nat) : Bool := mtB (a.wck (cs i)) f mo
def coE1 (a : La) (f : Sp) (cs : Nat → Int) (m : Nat) (mo : Int) : Int := fst [plE a f, ckE cs m, unl (inB mo 0 1000000000000) 2]
def coE (a : La) (f : Sp) (cs : Nat → Int) (m : Nat) (mo : Int) : Int := if a.E = 0 then (if coE1 a f cs m mo = 0 then (if topI (coB a f cs mo) m = none then 12 else 0) else coE1 a f cs m mo) else a.E
def coN (a : La) (f : Sp) (cs : Nat → Int) (m : Nat) (mo : Int) : Int := if a.E = 0 then (if coE1 a f cs m mo = 0 then (match topI (coB a f cs mo) m with | some i => cs i | none => 0) else 0) else 0
theorem coE1_zero (a : La) (f : Sp) (cs : Nat → Int) (m : Nat) (mo : Int) (h : coE1 a f cs m mo = 0) : plE a f = 0 ∧ ckE cs m = 0 ∧ (0 < m ∧ m ≤ 20) ∧ (∀ i, i < m → (1 ≤ cs i ∧ cs i ≤ 1000000) ∧ (i = 0 ∨ cs (i - 1) < cs i)) ∧ 0 ≤ mo ∧ mo ≤ 1000000000000 := by
  unfold coE1 at h
  rw [fst_zero] at h
  simp only [List.mem_cons, List.not_mem_nil, or_false, forall_eq_or_imp, forall_eq] at h
  obtain ⟨h1, h2, h3⟩ := h
  have h2' := h2
  unfold ckE at h2
  rw [fst_zero] at h2
  simp only [List.mem_cons, List.not_mem_nil, or_false, forall_eq_or_imp, forall_eq] at h2
  obtain ⟨h4, h5⟩ := h2
  have h6 := (ctE_zero _ _).1 h4
  have h7 := (ffE_zero (ckG cs) m).1 h5
  have h8 : inB mo 0 1000000000000 = true := (unl_zero _ 2 (by decide)).1 h3
  have h9 : 0 ≤ mo ∧ mo ≤ 1000000000000 := by simpa [inB] using h8
  refine ⟨h1, h2', by omega, fun i hi => ?_, h9⟩
  have q := h7 i hi
  unfold ckG at q
  rw [fst_zero] at q
  simp only [List.mem_cons, List.not_mem_nil, or_false, forall_eq_or_imp, forall_eq] at q
  obtain ⟨q1, q2⟩ := q
  have q3 : inB (cs i) 1 1000000 = true := (unl_zero _ 2 (by decide)).1 q1
  have q4 : ascB cs i = true := (unl_zero _ 9 (by decide)).1 q2
  exact ⟨by simpa [inB] using q3, by simpa [ascB] using q4⟩
theorem keepsFrom_below {B : Nat} {W W' : World} (h : Below W.heap.size W W') : KeepsFrom B W W' :=
  ⟨h.size, fun k o _ hk _ => (h.block k (Array.getElem?_eq_some_iff.1 hk).1).trans hk⟩
theorem ownCellF {β : Type} (a : Addr) (g : β → Value) : Own (fun (s : β) W => W.cell? a = some (g s) ∧ W.frozen? a = false) := fun s A B row hs hg hr => ⟨cell_kept hs.1 hg hr, (frozen_kept hs.1 hg hr).trans hs.2⟩
def lastN (pre : List Nat) : Nat := pre.getLastD 0
theorem lastN_app (pre : List Nat) (x : Nat) : lastN (pre ++ [x]) = x := by simp [lastN]
set_option maxRecDepth 100000 in
set_option maxHeartbeats 6000000 in
theorem coarse_any (a : La) (f : Sp) (cs : Nat → Int) (m : Nat) (mo : Int) (A : Option Addr) (c : Nat) (D : Option Addr) (k : Nat) (w : World) (h : SpAt A a.n a.p w) (g : InAt D m cs w) (hm : a.n ≤ 1000) (hq : m ≤ 1000) :
    Calls Tryz.prog 22 #[.agg #[.slice A a.n c, .int .i64 a.m.wd, .int .i64 a.m.mt, .int .i64 a.m.sk, .int .i64 a.m.th, .int .i64 a.ck], .agg #[.int .i64 f.x, .int .i64 f.z], .agg #[.slice D m k, .int .i64 mo]] w fun e_ w' => e_ = .returned (.tuple #[.int .i64 (coN a f cs m mo), .int .i64 (coE a f cs m mo)]) ∧ Below w.heap.size w w' := by
  have HX := Lib.hid h; clear h
  have HT := Lib.hid g; clear g
  have HE := Lib.hid (fun w h => arrayErr_any a A c w h (by omega))
  by_cases hE : a.E = 0
  · obtain ⟨⟨n0, n1⟩, _⟩ := (La.E_zero a).1 hE
    have HPE : Hid (∀ w', SpAt A a.n a.p w' → Calls Tryz.prog 53 #[.agg #[.slice A a.n c, .int .i64 a.m.wd, .int .i64 a.m.mt, .int .i64 a.m.sk, .int .i64 a.m.th, .int .i64 a.ck], .agg #[.int .i64 f.x, .int .i64 f.z]] w' fun e_ w'' => e_ = .returned (.int .i64 (plE a f)) ∧ Below w'.heap.size w' w'') := Lib.hid (fun w' h => by
      have := placeErr0_any a f A c w' n0 h
      rwa [e_place a f hE] at this)
    have HCE := Lib.hid (fun w h => clocksErr_any cs m D k w h hq)
    have EF : Hid (fst [plE a f, ckE cs m, unl (inB mo 0 1000000000000) 2] = coE1 a f cs m mo) := Lib.hid rfl
    by_cases h1 : coE1 a f cs m mo = 0
    · obtain ⟨hp0, hc0, ⟨m0, m1⟩, hc, hmo⟩ := coE1_zero a f cs m mo h1
      clear hp0 hc0 hmo
      have EE : Hid (coE a f cs m mo = if topI (coB a f cs mo) m = none then 12 else 0) := Lib.hid (by unfold coE; rw [if_pos hE, if_pos h1])
      have EN : Hid (coN a f cs m mo = (match topI (coB a f cs mo) m with | some i => cs i | none => 0)) := Lib.hid (by unfold coN; rw [if_pos hE, if_pos h1])
      have HME : Hid (∀ i, i < m → ∀ w', SpAt A a.n a.p w' → Calls Tryz.prog 60 #[.agg #[.slice A a.n c, .int .i64 a.m.wd, .int .i64 a.m.mt, .int .i64 a.m.sk, .int .i64 a.m.th, .int .i64 (cs i)], .agg #[.int .i64 f.x, .int .i64 f.z], .int .i64 mo] w' fun e_ w'' => e_ = .returned (.bool (coB a f cs mo i)) ∧ Below w'.heap.size w' w'') := Lib.hid (fun i hi w' h => meets_any (a.wck (cs i)) f mo A c w' h n0 n1 (hc i hi).1.1 (hc i hi).1.2)
      have TN := Lib.hid (fun n h => topI_none (coB a f cs mo) n h)
      have TS := Lib.hid (fun j hj n h1 h2 => topI_some (coB a f cs mo) j hj n h1 h2)
      rw [h1] at EF
      rw [hE] at HE
      generalize coN a f cs m mo = N at *
      generalize coE a f cs m mo = E at *
      generalize coB a f cs mo = B at *
      generalize plE a f = pe at *
      generalize ckE cs m = ce at *
      clear h1 hE hc
      refine (callsIn_wide (n := 6)).1 ?_
      refine callsIn_of_wp_marks Tryz.func22 rfl trivial ?_ rfl
      simp only [Tryz.ntmps22, List.size_toArray, List.length_cons, List.length_nil, Nat.reduceAdd, Nat.reduceSub, Array.replicate_succ, Array.replicate_zero, List.push_toArray, List.append_toArray, List.nil_append, List.cons_append]
      refine wpIn_wide.2 ?_
      go_wp2_with fail
      obtain ⟨w1, hw_w1⟩ : ∃ q_, q_ = (((((w.alloc (.cells #[.slice A a.n c, .int .i64 a.m.wd, .int .i64 a.m.mt, .int .i64 a.m.sk, .int .i64 a.m.th, .int .i64 a.ck] 26)).alloc (.cells #[.int .i64 f.x, .int .i64 f.z] 45)).alloc (.cells #[.slice D m k, .int .i64 mo] 56)).alloc (.cells #[.int .i64 0] 3)).alloc (.cells #[.int .i64 0] 34)) := ⟨_, rfl⟩
      rw [← hw_w1]
      have q10 : w1.cell? ⟨w.heap.size, 0, none⟩ = some (.slice A a.n c) := by rw [hw_w1]; simp [go_sem]
      have q11 : w1.cell? ⟨w.heap.size, 1, none⟩ = some (.int .i64 a.m.wd) := by rw [hw_w1]; simp [go_sem]
      have q12 : w1.cell? ⟨w.heap.size, 2, none⟩ = some (.int .i64 a.m.mt) := by rw [hw_w1]; simp [go_sem]
      have q13 : w1.cell? ⟨w.heap.size, 3, none⟩ = some (.int .i64 a.m.sk) := by rw [hw_w1]; simp [go_sem]
      have q14 : w1.cell? ⟨w.heap.size, 4, none⟩ = some (.int .i64 a.m.th) := by rw [hw_w1]; simp [go_sem]
      have q15 : w1.cell? ⟨w.heap.size, 5, none⟩ = some (.int .i64 a.ck) := by rw [hw_w1]; simp [go_sem]
      have q16 : w1.cell? ⟨w.heap.size + 1, 0, none⟩ = some (.int .i64 f.x) := by rw [hw_w1]; simp [go_sem]
      have q17 : w1.cell? ⟨w.heap.size + 1, 1, none⟩ = some (.int .i64 f.z) := by rw [hw_w1]; simp [go_sem]
      have q18 : w1.cell? ⟨w.heap.size + 1 + 1, 0, none⟩ = some (.slice D m k) := by rw [hw_w1]; simp [go_sem]
      have q19 : w1.cell? ⟨w.heap.size + 1 + 1, 1, none⟩ = some (.int .i64 mo) := by rw [hw_w1]; simp [go_sem]
      have q110 : w1.cell? ⟨w.heap.size + 1 + 1 + 1, 0, none⟩ = some (.int .i64 0) := by rw [hw_w1]; simp [go_sem]
      have q111 : w1.cell? ⟨w.heap.size + 1 + 1 + 1 + 1, 0, none⟩ = some (.int .i64 0) := by rw [hw_w1]; simp [go_sem]
      have qf10 : w1.frozen? ⟨w.heap.size + 1 + 1 + 1, 0, none⟩ = false := by rw [hw_w1]; simp [go_sem]
      have qf11 : w1.frozen? ⟨w.heap.size + 1 + 1 + 1 + 1, 0, none⟩ = false := by rw [hw_w1]; simp [go_sem]
      have H1 : Hid (Below w.heap.size w w1) := Lib.hid (by rw [hw_w1]; exact (by repeat (first | exact Below.refl _ _ | refine Below.drew ?_ | refine below_drewN ?_ _ | refine Below.setCell ?_ (by first | omega | (simp; done) | (simp; omega)) _ | refine Below.alloc ?_ (by first | omega | (simp; done) | (simp; omega)) _)))
      have z1 : w1.heap.size = w.heap.size + 5 := by rw [hw_w1]; simp
      clear hw_w1
      clear z1
      refine (HE.out _ (HX.out.later H1.out)).mono ?_
      rintro e_ wA ⟨rfl, hb⟩
      have k2_0 := cell_later hb q10
      have k2_1 := cell_later hb q11
      have k2_2 := cell_later hb q12
      have k2_3 := cell_later hb q13
      have k2_4 := cell_later hb q14
      have k2_5 := cell_later hb q15
      have k2_6 := cell_later hb q16
      have k2_7 := cell_later hb q17
      have k2_8 := cell_later hb q18
      have k2_9 := cell_later hb q19
      have k2_10 := cell_later hb q110
      have k2_11 := cell_later hb q111
      have f2_0 := frozen_after hb q110 qf10
      have f2_1 := frozen_after hb q111 qf11
      have B2 : Hid (Below w.heap.size w wA) := Lib.hid (below_then H1.out hb)
      clear q10 q11 q12 q13 q14 q15 q16 q17 q18 q19 q110 q111 qf10 qf11 H1
      have z2_0 := World.block_lt_of_cell? _ _ k2_0
      (try dsimp only at z2_0)
      have z2_6 := World.block_lt_of_cell? _ _ k2_6
      (try dsimp only at z2_6)
      have z2_8 := World.block_lt_of_cell? _ _ k2_8
      (try dsimp only at z2_8)
      have z2_10 := World.block_lt_of_cell? _ _ k2_10
      (try dsimp only at z2_10)
      have z2_11 := World.block_lt_of_cell? _ _ k2_11
      (try dsimp only at z2_11)
      clear hb
      have RX := Lib.hid (HX.out.later B2.out)
      have RT := Lib.hid (HT.out.later B2.out)
      go_upto_region 4 with fail
      have hS : Below wA.heap.size wA wA := Below.refl _ _
      go_cut [9] from 18 to 29 (fun s9 wx => s9 = .int .i64 0 ∧ Below wA.heap.size wA wx)
      case first =>
        go_region_held3 (fun w' => w'.cell? ⟨w.heap.size, 0, none⟩ = some (.slice A a.n c) ∧ w'.cell? ⟨w.heap.size, 1, none⟩ = some (.int .i64 a.m.wd) ∧ w'.cell? ⟨w.heap.size, 2, none⟩ = some (.int .i64 a.m.mt) ∧ w'.cell? ⟨w.heap.size, 3, none⟩ = some (.int .i64 a.m.sk) ∧ w'.cell? ⟨w.heap.size, 4, none⟩ = some (.int .i64 a.m.th) ∧ w'.cell? ⟨w.heap.size, 5, none⟩ = some (.int .i64 a.ck) ∧ w'.cell? ⟨w.heap.size + 1, 0, none⟩ = some (.int .i64 f.x) ∧ w'.cell? ⟨w.heap.size + 1, 1, none⟩ = some (.int .i64 f.z) ∧ w'.cell? ⟨w.heap.size + 1 + 1, 0, none⟩ = some (.slice D m k) ∧ w'.cell? ⟨w.heap.size + 1 + 1, 1, none⟩ = some (.int .i64 mo) ∧ w'.cell? ⟨w.heap.size + 1 + 1 + 1, 0, none⟩ = some (.int .i64 0) ∧ w'.cell? ⟨w.heap.size + 1 + 1 + 1 + 1, 0, none⟩ = some (.int .i64 0) ∧ Below wA.heap.size wA w') (((go_split_ands; (repeat' apply And.intro) <;> ((repeat (first | (with_reducible assumption) | (with_reducible exact Below.refl _ _) | (with_reducible refine cell_alloc_later ?_ _) | (with_reducible refine cell_drewA ?_) | (with_reducible refine cellA (by with_reducible assumption) ?_) | (with_reducible refine belowA ?_ (by with_reducible assumption)) | (with_reducible refine below_alloc_top ?_ _) | (with_reducible refine Below.drew ?_) | (with_reducible refine cell_set_old ?_ (by with_reducible assumption)) | (with_reducible refine below_set_old ?_ (by with_reducible assumption)) | (with_reducible refine Below.setCell ?_ (by first | omega | (simp; done) | (simp; omega)) _) | (simp [go_sem, World.cell?_alloc_past, *]; done))); done))))
          (first
            | (go_split_ands; go_at_call 53; (with_reducible refine (HPE.out _ (RX.out.later (by with_reducible assumption))).mono ?_); rintro e w' ⟨rfl, hb⟩; have hbA : BelA _ w' := hb; obtain ⟨hc', hf'⟩ := bcell hb; have hz' := hb.size; (try simp at hz'); (first | (have tF' := Nat.lt_of_succ_le hz') | (have tF' := Nat.lt_of_lt_of_le tF' hz') | skip); clear hb)
            | (go_split_ands; go_at_call 57; (with_reducible refine (HCE.out _ (RT.out.later (by with_reducible assumption))).mono ?_); rintro e w' ⟨rfl, hb⟩; have hbA : BelA _ w' := hb; obtain ⟨hc', hf'⟩ := bcell hb; have hz' := hb.size; (try simp at hz'); (first | (have tF' := Nat.lt_of_succ_le hz') | (have tF' := Nat.lt_of_lt_of_le tF' hz') | skip); clear hb)
            | (go_at_call 58; (with_reducible refine (isWithin_any _ _ _ _).mono ?_); rintro e w' ⟨rfl, rfl⟩)
            | (go_at_call 42; refine (firstError_any _ [pe, ce, unl (inB mo 0 1000000000000) 2] _ (by simp) (by first | exact cells_drew _ _ rfl _ _ | exact cells_new _ _ rfl _ _ | exact cells_drew _ _ (by simp) _ _ | exact cells_new _ _ (by simp) _ _)).mono ?_; rw [EF.out]; rintro e w' ⟨rfl, rfl⟩))
        all_goals
          go_split_ands
          go_wp2_with fail
          go_meet
          exact ⟨rfl, (by first | (with_reducible assumption) | (simp [go_sem, World.cell?_alloc_past, *]; done))⟩
      case rest =>
        obtain ⟨rfl, bel⟩ := hcut
        clear hS
        obtain ⟨wC, hw_⟩ : ∃ q_, q_ = wc := ⟨_, rfl⟩
        subst hw_
        have k3_0 := cell_later bel k2_0
        have k3_1 := cell_later bel k2_1
        have k3_2 := cell_later bel k2_2
        have k3_3 := cell_later bel k2_3
        have k3_4 := cell_later bel k2_4
        have k3_5 := cell_later bel k2_5
        have k3_6 := cell_later bel k2_6
        have k3_7 := cell_later bel k2_7
        have k3_8 := cell_later bel k2_8
        have k3_9 := cell_later bel k2_9
        have k3_10 := cell_later bel k2_10
        have k3_11 := cell_later bel k2_11
        have f3_0 := frozen_after bel k2_10 f2_0
        have f3_1 := frozen_after bel k2_11 f2_1
        have R3_0 := Lib.hid (RX.out.later bel)
        have R3_1 := Lib.hid (RT.out.later bel)
        have B3 : Hid (Below w.heap.size w wC) := Lib.hid (below_then B2.out bel)
        clear k2_0 k2_1 k2_2 k2_3 k2_4 k2_5 k2_6 k2_7 k2_8 k2_9 k2_10 k2_11 f2_0 f2_1 RX RT B2
        have z3_0 := World.block_lt_of_cell? _ _ k3_0
        (try dsimp only at z3_0)
        have z3_6 := World.block_lt_of_cell? _ _ k3_6
        (try dsimp only at z3_6)
        have z3_8 := World.block_lt_of_cell? _ _ k3_8
        (try dsimp only at z3_8)
        have z3_10 := World.block_lt_of_cell? _ _ k3_10
        (try dsimp only at z3_10)
        have z3_11 := World.block_lt_of_cell? _ _ k3_11
        (try dsimp only at z3_11)
        clear bel
        go_wp2_with fail
        refine ((callsIn_wide (n := 5)).1 (bw_any 5 _ _ _ _)).mono ?_
        rintro e_ w8 ⟨rfl, hw8⟩
        have hb : Below wC.heap.size wC w8 := by rw [hw8]; exact (Below.refl _ _).alloc (Nat.le_refl _) _
        have bx : w8.cell? ⟨wC.heap.size, 0, none⟩ = some (.slice D m k) := by rw [hw8]; simp [go_sem]
        have zb : wC.heap.size < w8.heap.size := by rw [hw8]; simp
        clear hw8
        have k4_0 := cell_later hb k3_0
        have k4_1 := cell_later hb k3_1
        have k4_2 := cell_later hb k3_2
        have k4_3 := cell_later hb k3_3
        have k4_4 := cell_later hb k3_4
        have k4_5 := cell_later hb k3_5
        have k4_6 := cell_later hb k3_6
        have k4_7 := cell_later hb k3_7
        have k4_8 := cell_later hb k3_8
        have k4_9 := cell_later hb k3_9
        have k4_10 := cell_later hb k3_10
        have k4_11 := cell_later hb k3_11
        have f4_0 := frozen_after hb k3_10 f3_0
        have f4_1 := frozen_after hb k3_11 f3_1
        have R4_0 := Lib.hid (R3_0.out.later hb)
        have R4_1 := Lib.hid (R3_1.out.later hb)
        have B4 : Hid (Below w.heap.size w w8) := Lib.hid (below_then B3.out hb)
        clear k3_0 k3_1 k3_2 k3_3 k3_4 k3_5 k3_6 k3_7 k3_8 k3_9 k3_10 k3_11 f3_0 f3_1 R3_0 R3_1 B3
        have z4_0 := World.block_lt_of_cell? _ _ k4_0
        (try dsimp only at z4_0)
        have z4_6 := World.block_lt_of_cell? _ _ k4_6
        (try dsimp only at z4_6)
        have z4_8 := World.block_lt_of_cell? _ _ k4_8
        (try dsimp only at z4_8)
        have z4_10 := World.block_lt_of_cell? _ _ k4_10
        (try dsimp only at z4_10)
        have z4_11 := World.block_lt_of_cell? _ _ k4_11
        (try dsimp only at z4_11)
        clear hb
        have IT := Lib.hid (HT.out.later B4.out)
        have hab : ∀ a', D = some a' → a'.block < w8.heap.size := fun a' e => by
          subst e
          have h0 := World.block_lt_of_cell? _ _ (IT.out.at m0)
          have e0 : (a'.add 0) = a' := by unfold Addr.add; rfl
          rwa [e0] at h0
        have DS := Lib.hid (bw_stops 5 (by omega) wC.heap.size w8.heap.size D m k cs hq hab zb w8 bx IT.out)
        have WX := Lib.hid (HX.out.later B4.out)
        clear bx hab
        go_wp2_with fail
        refine (wpIn_wide (n := 6)).1 ?_
        refine wpIn_rangeFunc_ownG rfl (by omega) (gf := 90) (lb := #[.pointer (some ⟨wC.heap.size, 0, none⟩)]) rfl trivial (enters_of Tryz.func90 (by kernel_rfl) rfl)
          DS.out belowK_t (belowK_b (Nat.le_refl _)) (Below.refl _ _) (fun _ => rfl)
          (fun pre W => (∀ x ∈ pre, B (cl m x) = false) ∧ Below w8.heap.size w8 W)
          (fun c_ pre W => ((c_ = .ret ∧ pre ≠ [] ∧ B (cl m (lastN pre)) = true ∧ ∀ x ∈ pre.dropLast, B (cl m x) = false) ∧ (W.cell? ⟨w.heap.size + 1 + 1 + 1, 0, none⟩ = some (.int .i64 (cs (cl m (lastN pre)))) ∧ W.frozen? ⟨w.heap.size + 1 + 1 + 1, 0, none⟩ = false) ∧ (W.cell? ⟨w.heap.size + 1 + 1 + 1 + 1, 0, none⟩ = some (.int .i64 0) ∧ W.frozen? ⟨w.heap.size + 1 + 1 + 1 + 1, 0, none⟩ = false)) ∧ Below w.heap.size w W)
          (OwnFrom.and (ownFrom_pure _ _) (ownFrom_below (Nat.le_refl _) (Nat.le_refl _)))
          (fun c_ => OwnFrom.and (Own.from (Own.and' (ownPure _) (Own.and' (ownCellF _ (fun pre : List Nat => .int .i64 (cs (cl m (lastN pre))))) (ownCell _ _))) _) (ownFrom_below (Nat.le_refl _) (by have := B4.out.size; omega)))
          ⟨fun x hx => by simp at hx, Below.refl _ _⟩
          ?a1 ?assign ?body ?done ?stop
        case assign =>
          intro l x W K_ hK_
          gi_wp2
          exact hK_
        case body =>
          rintro l pre x W ⟨hpre, hW⟩ hlt
          have HPRE := Lib.hid hpre
          have hx : cl m x < m := cl_lt m x m0
          have SW := Lib.hid (WX.out.later hW)
          have HM := Lib.hid (fun w' h => HME.out (cl m x) hx w' h)
          have d0 := cell_later hW k4_0
          have d1 := cell_later hW k4_1
          have d2 := cell_later hW k4_2
          have d3 := cell_later hW k4_3
          have d4 := cell_later hW k4_4
          have d5 := cell_later hW k4_5
          have d6 := cell_later hW k4_6
          have d7 := cell_later hW k4_7
          have d8 := cell_later hW k4_8
          have d9 := cell_later hW k4_9
          have d10 := cell_later hW k4_10
          have d11 := cell_later hW k4_11
          have df0 := frozen_after hW k4_10 f4_0
          have df1 := frozen_after hW k4_11 f4_1
          have HWW : Hid (Below w.heap.size w W) := Lib.hid (below_then B4.out hW)
          have HW8 := Lib.hid hW
          have szW := hW.size
          clear hW hpre hlt
          have BM : Hid (B (cl m x) = true ∨ B (cl m x) = false) := Lib.hid (by cases B (cl m x) <;> simp)
          generalize hbx : B (cl m x) = bv at *
          generalize hcx : cs (cl m x) = cv at *
          have HBX := Lib.hid hbx; have HCX := Lib.hid hcx
          clear hbx hcx hx
          have zd0 := World.block_lt_of_cell? _ _ d0
          have zd6 := World.block_lt_of_cell? _ _ d6
          have zd8 := World.block_lt_of_cell? _ _ d8
          have zd10 := World.block_lt_of_cell? _ _ d10
          have zd11 := World.block_lt_of_cell? _ _ d11
          dsimp only at zd0 zd6 zd8 zd10 zd11
          gi_wp2_with fail
          obtain ⟨w9, hw9⟩ : ∃ q_, q_ = W.alloc (.cells #[.slice A a.n c, .int .i64 a.m.wd, .int .i64 a.m.mt, .int .i64 a.m.sk, .int .i64 a.m.th, .int .i64 cv] 89) := ⟨_, rfl⟩
          rw [← hw9]
          have hb9 : Below W.heap.size W w9 := by rw [hw9]; exact (Below.refl _ _).alloc (Nat.le_refl _) _
          clear hw9
          rcases BM.out with hbv | hbv
          · subst hbv
            first
              | refine (CallsIn.inRound l (callsIn_wide.2 (HM.out _ (SW.out.later hb9)))).mono ?_
              | (refine ⟨trivial, ?_⟩; refine (CallsIn.inRound l (callsIn_wide.2 (HM.out _ (SW.out.later hb9)))).mono ?_)
            rintro e_ w' ⟨rfl, hb⟩
            have hbT : Below W.heap.size W w' := below_then hb9 hb
            have c6 := cell_later hbT d10
            have c7 := cell_later hbT d11
            have f6 := frozen_after hbT d10 df0
            have f7 := frozen_after hbT d11 df1
            have zz := hbT.size
            clear hb
            gi_wp2
            refine ⟨(keepsFrom_below hbT).trans (((KeepsOthers.setCell _ _ _).trans (KeepsOthers.setCell _ _ _)).from _), ⟨⟨rfl, by simp, by rw [lastN_app]; exact HBX.out, fun y hy => HPRE.out y (by rwa [List.dropLast_concat] at hy)⟩, ⟨by rw [lastN_app, HCX.out]; simp [go_sem, *], by simp [go_sem, *]⟩, ⟨by simp [go_sem, *], by simp [go_sem, *]⟩⟩, ?_⟩
            exact ((below_then HWW.out hbT).setCell (by dsimp only; omega) _).setCell (by dsimp only; omega) _
          · subst hbv
            first
              | refine (CallsIn.inRound l (callsIn_wide.2 (HM.out _ (SW.out.later hb9)))).mono ?_
              | (refine ⟨trivial, ?_⟩; refine (CallsIn.inRound l (callsIn_wide.2 (HM.out _ (SW.out.later hb9)))).mono ?_)
            rintro e_ w' ⟨rfl, hb⟩
            have hbT : Below W.heap.size W w' := below_then hb9 hb
            have c6 := cell_later hbT d10
            have c7 := cell_later hbT d11
            have f6 := frozen_after hbT d10 df0
            have f7 := frozen_after hbT d11 df1
            have zz := hbT.size
            clear hb
            gi_wp2
            refine ⟨keepsFrom_below hbT, hbT.mono szW, fun y hy => ?_, HW8.out.trans (hbT.mono szW)⟩
            rcases List.mem_append.1 hy with h | h
            · exact HPRE.out y h
            · simp at h; rw [h]; exact HBX.out
        case done =>
          rintro Dd ys W hD rfl ⟨hall, hW⟩ hK
          have hall2 : ∀ i, i < m → B i = false := fun i hi => by
            have := hall i ((dn_mem m i m (Nat.le_refl _)).2 ⟨by omega, hi⟩)
            rwa [cl_at m i hi] at this
          have T0 := TN.out m hall2
          have e1 := EE.out; have e2 := EN.out
          rw [T0] at e1 e2
          rw [if_pos rfl] at e1
          have QE := Lib.hid e1; have QN := Lib.hid e2
          have d0 := cell_later hW k4_0
          have d1 := cell_later hW k4_1
          have d2 := cell_later hW k4_2
          have d3 := cell_later hW k4_3
          have d4 := cell_later hW k4_4
          have d5 := cell_later hW k4_5
          have d6 := cell_later hW k4_6
          have d7 := cell_later hW k4_7
          have d8 := cell_later hW k4_8
          have d9 := cell_later hW k4_9
          have d10 := cell_later hW k4_10
          have d11 := cell_later hW k4_11
          have df0 := frozen_after hW k4_10 f4_0
          have df1 := frozen_after hW k4_11 f4_1
          have HWW : Hid (Below w.heap.size w W) := Lib.hid (below_then B4.out hW)
          have szW := hW.size
          clear hW hall hall2 T0 e1 e2
          go_wp2
          have hKc := ((KeepsOthers.setCell W ⟨w.heap.size + 1 + 1 + 1, 0, none⟩ (.int .i64 0)).trans (KeepsOthers.setCell _ ⟨w.heap.size + 1 + 1 + 1 + 1, 0, none⟩ (.int .i64 12))).same Dd _ hK rfl
          have k6 := cell_kept (show ((W.setCell ⟨w.heap.size + 1 + 1 + 1, 0, none⟩ (.int .i64 0)).setCell ⟨w.heap.size + 1 + 1 + 1 + 1, 0, none⟩ (.int .i64 12)).cell? ⟨w.heap.size + 1 + 1 + 1, 0, none⟩ = some (.int .i64 0) by simp [go_sem, *]) (grownBy_putObj' _ Dd (.deferred none)) (fun r e => by cases e; exact ⟨_, hKc, rfl⟩)
          have k7 := cell_kept (show ((W.setCell ⟨w.heap.size + 1 + 1 + 1, 0, none⟩ (.int .i64 0)).setCell ⟨w.heap.size + 1 + 1 + 1 + 1, 0, none⟩ (.int .i64 12)).cell? ⟨w.heap.size + 1 + 1 + 1 + 1, 0, none⟩ = some (.int .i64 12) by simp [go_sem, *]) (grownBy_putObj' _ Dd (.deferred none)) (fun r e => by cases e; exact ⟨_, hKc, rfl⟩)
          refine ⟨by simp, .inl ⟨_, _, rfl, run_takeDeferred hKc, ?_⟩⟩
          refine ⟨.tuple #[.int .i64 0, .int .i64 12], ?_, by rw [QE.out, QN.out], ((HWW.out.setCell (by dsimp only; omega) _).setCell (by dsimp only; omega) _).trans (belowK_b (w := w) (Nat.le_refl _) _ Dd _ _ (by have := B4.out.size; omega) hKc rfl rfl)⟩
          simp [results, Tryz.f22, go_sem, k6, k7]
        case stop =>
          rintro Dd c_ pre W hD ⟨k', hk, rfl⟩ ⟨⟨⟨rfl, hne, hB, hall⟩, ⟨c6, f6⟩, ⟨c7, f7⟩⟩, hW⟩ hK
          obtain ⟨j, rfl⟩ : ∃ j, k' = j + 1 := ⟨k' - 1, by
            have : k' ≠ 0 := fun q => hne (by rw [q]; rfl)
            omega⟩
          have hd : dn m (j + 1) = dn m j ++ [m - 1 - j] := rfl
          have hl : lastN (dn m (j + 1)) = m - 1 - j := by rw [hd, lastN_app]
          have hx : m - 1 - j < m := by omega
          rw [hl, cl_at m _ hx] at hB c6
          rw [hd, List.dropLast_concat] at hall
          have T0 := TS.out (m - 1 - j) hB m hx (fun i h1 h2 => by
            have := hall i ((dn_mem m i j (by omega)).2 ⟨by omega, h2⟩)
            rwa [cl_at m i h2] at this)
          have e1 := EE.out; have e2 := EN.out
          rw [T0] at e1 e2
          rw [if_neg (by simp)] at e1
          dsimp only at e2
          have QE := Lib.hid e1; have QN := Lib.hid e2
          have HWW := Lib.hid hW
          clear e1 e2 T0 hall hB hl hd hne hW
          generalize cs (m - 1 - j) = cv at *
          gi_wp2
          have k6 := cell_kept c6 (grownBy_putObj' _ Dd (.deferred none)) (fun r e => by cases e; exact ⟨_, hK, rfl⟩)
          have k7 := cell_kept c7 (grownBy_putObj' _ Dd (.deferred none)) (fun r e => by cases e; exact ⟨_, hK, rfl⟩)
          refine ⟨by simp, .inl ⟨_, _, rfl, run_takeDeferred hK, ?_⟩⟩
          refine ⟨.tuple #[.int .i64 cv, .int .i64 0], ?_, by rw [QE.out, QN.out], HWW.out.trans (belowK_b (w := w) (Nat.le_refl _) _ Dd _ _ (by have := B4.out.size; omega) hK rfl rfl)⟩
          simp [results, Tryz.f22, go_sem, k6, k7]
    · have NE := Lib.hid h1
      have n2 : (coE1 a f cs m mo != 0) = true := by simpa using h1
      have EE : coE a f cs m mo = coE1 a f cs m mo := by unfold coE; rw [if_pos hE, if_neg h1]
      have EN : coN a f cs m mo = 0 := by unfold coN; rw [if_pos hE, if_neg h1]
      rw [EE, EN]
      rw [hE] at HE
      generalize coE1 a f cs m mo = E at *
      generalize plE a f = pe at *
      generalize ckE cs m = ce at *
      clear EE EN h1 hE
      refine (callsIn_wide (n := 6)).1 ?_
      refine callsIn_of_wp_marks Tryz.func22 rfl trivial ?_ rfl
      simp only [Tryz.ntmps22, List.size_toArray, List.length_cons, List.length_nil, Nat.reduceAdd, Nat.reduceSub, Array.replicate_succ, Array.replicate_zero, List.push_toArray, List.append_toArray, List.nil_append, List.cons_append]
      refine wpIn_wide.2 ?_
      go_wp2_with fail
      obtain ⟨w1, hw_w1⟩ : ∃ q_, q_ = (((((w.alloc (.cells #[.slice A a.n c, .int .i64 a.m.wd, .int .i64 a.m.mt, .int .i64 a.m.sk, .int .i64 a.m.th, .int .i64 a.ck] 26)).alloc (.cells #[.int .i64 f.x, .int .i64 f.z] 45)).alloc (.cells #[.slice D m k, .int .i64 mo] 56)).alloc (.cells #[.int .i64 0] 3)).alloc (.cells #[.int .i64 0] 34)) := ⟨_, rfl⟩
      rw [← hw_w1]
      have q10 : w1.cell? ⟨w.heap.size, 0, none⟩ = some (.slice A a.n c) := by rw [hw_w1]; simp [go_sem]
      have q11 : w1.cell? ⟨w.heap.size, 1, none⟩ = some (.int .i64 a.m.wd) := by rw [hw_w1]; simp [go_sem]
      have q12 : w1.cell? ⟨w.heap.size, 2, none⟩ = some (.int .i64 a.m.mt) := by rw [hw_w1]; simp [go_sem]
      have q13 : w1.cell? ⟨w.heap.size, 3, none⟩ = some (.int .i64 a.m.sk) := by rw [hw_w1]; simp [go_sem]
      have q14 : w1.cell? ⟨w.heap.size, 4, none⟩ = some (.int .i64 a.m.th) := by rw [hw_w1]; simp [go_sem]
      have q15 : w1.cell? ⟨w.heap.size, 5, none⟩ = some (.int .i64 a.ck) := by rw [hw_w1]; simp [go_sem]
      have q16 : w1.cell? ⟨w.heap.size + 1, 0, none⟩ = some (.int .i64 f.x) := by rw [hw_w1]; simp [go_sem]
      have q17 : w1.cell? ⟨w.heap.size + 1, 1, none⟩ = some (.int .i64 f.z) := by rw [hw_w1]; simp [go_sem]
      have q18 : w1.cell? ⟨w.heap.size + 1 + 1, 0, none⟩ = some (.slice D m k) := by rw [hw_w1]; simp [go_sem]
      have q19 : w1.cell? ⟨w.heap.size + 1 + 1, 1, none⟩ = some (.int .i64 mo) := by rw [hw_w1]; simp [go_sem]
      have q110 : w1.cell? ⟨w.heap.size + 1 + 1 + 1, 0, none⟩ = some (.int .i64 0) := by rw [hw_w1]; simp [go_sem]
      have q111 : w1.cell? ⟨w.heap.size + 1 + 1 + 1 + 1, 0, none⟩ = some (.int .i64 0) := by rw [hw_w1]; simp [go_sem]
      have qf10 : w1.frozen? ⟨w.heap.size + 1 + 1 + 1, 0, none⟩ = false := by rw [hw_w1]; simp [go_sem]
      have qf11 : w1.frozen? ⟨w.heap.size + 1 + 1 + 1 + 1, 0, none⟩ = false := by rw [hw_w1]; simp [go_sem]
      have H1 : Hid (Below w.heap.size w w1) := Lib.hid (by rw [hw_w1]; exact (by repeat (first | exact Below.refl _ _ | refine Below.drew ?_ | refine below_drewN ?_ _ | refine Below.setCell ?_ (by first | omega | (simp; done) | (simp; omega)) _ | refine Below.alloc ?_ (by first | omega | (simp; done) | (simp; omega)) _)))
      have z1 : w1.heap.size = w.heap.size + 5 := by rw [hw_w1]; simp
      clear hw_w1
      clear z1
      refine (HE.out _ (HX.out.later H1.out)).mono ?_
      rintro e_ wA ⟨rfl, hb⟩
      have k2_0 := cell_later hb q10
      have k2_1 := cell_later hb q11
      have k2_2 := cell_later hb q12
      have k2_3 := cell_later hb q13
      have k2_4 := cell_later hb q14
      have k2_5 := cell_later hb q15
      have k2_6 := cell_later hb q16
      have k2_7 := cell_later hb q17
      have k2_8 := cell_later hb q18
      have k2_9 := cell_later hb q19
      have k2_10 := cell_later hb q110
      have k2_11 := cell_later hb q111
      have f2_0 := frozen_after hb q110 qf10
      have f2_1 := frozen_after hb q111 qf11
      have B2 : Hid (Below w.heap.size w wA) := Lib.hid (below_then H1.out hb)
      clear q10 q11 q12 q13 q14 q15 q16 q17 q18 q19 q110 q111 qf10 qf11 H1
      have z2_0 := World.block_lt_of_cell? _ _ k2_0
      (try dsimp only at z2_0)
      have z2_6 := World.block_lt_of_cell? _ _ k2_6
      (try dsimp only at z2_6)
      have z2_8 := World.block_lt_of_cell? _ _ k2_8
      (try dsimp only at z2_8)
      have z2_10 := World.block_lt_of_cell? _ _ k2_10
      (try dsimp only at z2_10)
      have z2_11 := World.block_lt_of_cell? _ _ k2_11
      (try dsimp only at z2_11)
      clear hb
      have RX := Lib.hid (HX.out.later B2.out)
      have RT := Lib.hid (HT.out.later B2.out)
      go_upto_region 4 with fail
      have hS : Below wA.heap.size wA wA := Below.refl _ _
      go_cut [9] from 18 to 29 (fun s9 wx => s9 = .int .i64 E ∧ Below wA.heap.size wA wx)
      case first =>
        go_region_held3 (fun w' => w'.cell? ⟨w.heap.size, 0, none⟩ = some (.slice A a.n c) ∧ w'.cell? ⟨w.heap.size, 1, none⟩ = some (.int .i64 a.m.wd) ∧ w'.cell? ⟨w.heap.size, 2, none⟩ = some (.int .i64 a.m.mt) ∧ w'.cell? ⟨w.heap.size, 3, none⟩ = some (.int .i64 a.m.sk) ∧ w'.cell? ⟨w.heap.size, 4, none⟩ = some (.int .i64 a.m.th) ∧ w'.cell? ⟨w.heap.size, 5, none⟩ = some (.int .i64 a.ck) ∧ w'.cell? ⟨w.heap.size + 1, 0, none⟩ = some (.int .i64 f.x) ∧ w'.cell? ⟨w.heap.size + 1, 1, none⟩ = some (.int .i64 f.z) ∧ w'.cell? ⟨w.heap.size + 1 + 1, 0, none⟩ = some (.slice D m k) ∧ w'.cell? ⟨w.heap.size + 1 + 1, 1, none⟩ = some (.int .i64 mo) ∧ w'.cell? ⟨w.heap.size + 1 + 1 + 1, 0, none⟩ = some (.int .i64 0) ∧ w'.cell? ⟨w.heap.size + 1 + 1 + 1 + 1, 0, none⟩ = some (.int .i64 0) ∧ Below wA.heap.size wA w') (((go_split_ands; (repeat' apply And.intro) <;> ((repeat (first | (with_reducible assumption) | (with_reducible exact Below.refl _ _) | (with_reducible refine cell_alloc_later ?_ _) | (with_reducible refine cell_drewA ?_) | (with_reducible refine cellA (by with_reducible assumption) ?_) | (with_reducible refine belowA ?_ (by with_reducible assumption)) | (with_reducible refine below_alloc_top ?_ _) | (with_reducible refine Below.drew ?_) | (with_reducible refine cell_set_old ?_ (by with_reducible assumption)) | (with_reducible refine below_set_old ?_ (by with_reducible assumption)) | (with_reducible refine Below.setCell ?_ (by first | omega | (simp; done) | (simp; omega)) _) | (simp [go_sem, World.cell?_alloc_past, *]; done))); done))))
          (first
            | (go_split_ands; go_at_call 53; (with_reducible refine (HPE.out _ (RX.out.later (by with_reducible assumption))).mono ?_); rintro e w' ⟨rfl, hb⟩; have hbA : BelA _ w' := hb; obtain ⟨hc', hf'⟩ := bcell hb; have hz' := hb.size; (try simp at hz'); (first | (have tF' := Nat.lt_of_succ_le hz') | (have tF' := Nat.lt_of_lt_of_le tF' hz') | skip); clear hb)
            | (go_split_ands; go_at_call 57; (with_reducible refine (HCE.out _ (RT.out.later (by with_reducible assumption))).mono ?_); rintro e w' ⟨rfl, hb⟩; have hbA : BelA _ w' := hb; obtain ⟨hc', hf'⟩ := bcell hb; have hz' := hb.size; (try simp at hz'); (first | (have tF' := Nat.lt_of_succ_le hz') | (have tF' := Nat.lt_of_lt_of_le tF' hz') | skip); clear hb)
            | (go_at_call 58; (with_reducible refine (isWithin_any _ _ _ _).mono ?_); rintro e w' ⟨rfl, rfl⟩)
            | (go_at_call 42; refine (firstError_any _ [pe, ce, unl (inB mo 0 1000000000000) 2] _ (by simp) (by first | exact cells_drew _ _ rfl _ _ | exact cells_new _ _ rfl _ _ | exact cells_drew _ _ (by simp) _ _ | exact cells_new _ _ (by simp) _ _)).mono ?_; rw [EF.out]; rintro e w' ⟨rfl, rfl⟩))
        all_goals
          go_split_ands
          go_wp2_with fail
          go_meet
          exact ⟨rfl, (by first | (with_reducible assumption) | (simp [go_sem, World.cell?_alloc_past, *]; done))⟩
      case rest =>
        obtain ⟨rfl, bel⟩ := hcut
        clear hS
        obtain ⟨wC, hw_⟩ : ∃ q_, q_ = wc := ⟨_, rfl⟩
        subst hw_
        have k3_0 := cell_later bel k2_0
        have k3_1 := cell_later bel k2_1
        have k3_2 := cell_later bel k2_2
        have k3_3 := cell_later bel k2_3
        have k3_4 := cell_later bel k2_4
        have k3_5 := cell_later bel k2_5
        have k3_6 := cell_later bel k2_6
        have k3_7 := cell_later bel k2_7
        have k3_8 := cell_later bel k2_8
        have k3_9 := cell_later bel k2_9
        have k3_10 := cell_later bel k2_10
        have k3_11 := cell_later bel k2_11
        have f3_0 := frozen_after bel k2_10 f2_0
        have f3_1 := frozen_after bel k2_11 f2_1
        have R3_0 := Lib.hid (RX.out.later bel)
        have R3_1 := Lib.hid (RT.out.later bel)
        have B3 : Hid (Below w.heap.size w wC) := Lib.hid (below_then B2.out bel)
        clear k2_0 k2_1 k2_2 k2_3 k2_4 k2_5 k2_6 k2_7 k2_8 k2_9 k2_10 k2_11 f2_0 f2_1 RX RT B2
        have z3_0 := World.block_lt_of_cell? _ _ k3_0
        (try dsimp only at z3_0)
        have z3_6 := World.block_lt_of_cell? _ _ k3_6
        (try dsimp only at z3_6)
        have z3_8 := World.block_lt_of_cell? _ _ k3_8
        (try dsimp only at z3_8)
        have z3_10 := World.block_lt_of_cell? _ _ k3_10
        (try dsimp only at z3_10)
        have z3_11 := World.block_lt_of_cell? _ _ k3_11
        (try dsimp only at z3_11)
        clear bel
        go_wp2
        refine ⟨.tuple #[.int .i64 0, .int .i64 E], ?_, rfl, (by (repeat (first | (with_reducible exact B3.out) | (with_reducible refine Below.setCell ?_ ?_ _) | (with_reducible refine below_alloc_top ?_ _) | (with_reducible refine Below.drew ?_))); all_goals (first | omega | (simp; done) | (simp; omega)))⟩
        simp [results, Tryz.f22, go_sem, *]
  · have n2 : (a.E != 0) = true := by simpa using hE
    have EE : coE a f cs m mo = a.E := by unfold coE; rw [if_neg hE]
    have EN : coN a f cs m mo = 0 := by unfold coN; rw [if_neg hE]
    rw [EE, EN]
    generalize a.E = E at *
    clear EE EN hE
    refine (callsIn_wide (n := 6)).1 ?_
    refine callsIn_of_wp_marks Tryz.func22 rfl trivial ?_ rfl
    simp only [Tryz.ntmps22, List.size_toArray, List.length_cons, List.length_nil, Nat.reduceAdd, Nat.reduceSub, Array.replicate_succ, Array.replicate_zero, List.push_toArray, List.append_toArray, List.nil_append, List.cons_append]
    refine wpIn_wide.2 ?_
    go_wp2_with fail
    obtain ⟨w1, hw_w1⟩ : ∃ q_, q_ = (((((w.alloc (.cells #[.slice A a.n c, .int .i64 a.m.wd, .int .i64 a.m.mt, .int .i64 a.m.sk, .int .i64 a.m.th, .int .i64 a.ck] 26)).alloc (.cells #[.int .i64 f.x, .int .i64 f.z] 45)).alloc (.cells #[.slice D m k, .int .i64 mo] 56)).alloc (.cells #[.int .i64 0] 3)).alloc (.cells #[.int .i64 0] 34)) := ⟨_, rfl⟩
    rw [← hw_w1]
    have q10 : w1.cell? ⟨w.heap.size, 0, none⟩ = some (.slice A a.n c) := by rw [hw_w1]; simp [go_sem]
    have q11 : w1.cell? ⟨w.heap.size, 1, none⟩ = some (.int .i64 a.m.wd) := by rw [hw_w1]; simp [go_sem]
    have q12 : w1.cell? ⟨w.heap.size, 2, none⟩ = some (.int .i64 a.m.mt) := by rw [hw_w1]; simp [go_sem]
    have q13 : w1.cell? ⟨w.heap.size, 3, none⟩ = some (.int .i64 a.m.sk) := by rw [hw_w1]; simp [go_sem]
    have q14 : w1.cell? ⟨w.heap.size, 4, none⟩ = some (.int .i64 a.m.th) := by rw [hw_w1]; simp [go_sem]
    have q15 : w1.cell? ⟨w.heap.size, 5, none⟩ = some (.int .i64 a.ck) := by rw [hw_w1]; simp [go_sem]
    have q16 : w1.cell? ⟨w.heap.size + 1, 0, none⟩ = some (.int .i64 f.x) := by rw [hw_w1]; simp [go_sem]
    have q17 : w1.cell? ⟨w.heap.size + 1, 1, none⟩ = some (.int .i64 f.z) := by rw [hw_w1]; simp [go_sem]
    have q18 : w1.cell? ⟨w.heap.size + 1 + 1, 0, none⟩ = some (.slice D m k) := by rw [hw_w1]; simp [go_sem]
    have q19 : w1.cell? ⟨w.heap.size + 1 + 1, 1, none⟩ = some (.int .i64 mo) := by rw [hw_w1]; simp [go_sem]
    have q110 : w1.cell? ⟨w.heap.size + 1 + 1 + 1, 0, none⟩ = some (.int .i64 0) := by rw [hw_w1]; simp [go_sem]
    have q111 : w1.cell? ⟨w.heap.size + 1 + 1 + 1 + 1, 0, none⟩ = some (.int .i64 0) := by rw [hw_w1]; simp [go_sem]
    have qf10 : w1.frozen? ⟨w.heap.size + 1 + 1 + 1, 0, none⟩ = false := by rw [hw_w1]; simp [go_sem]
    have qf11 : w1.frozen? ⟨w.heap.size + 1 + 1 + 1 + 1, 0, none⟩ = false := by rw [hw_w1]; simp [go_sem]
    have H1 : Hid (Below w.heap.size w w1) := Lib.hid (by rw [hw_w1]; exact (by repeat (first | exact Below.refl _ _ | refine Below.drew ?_ | refine below_drewN ?_ _ | refine Below.setCell ?_ (by first | omega | (simp; done) | (simp; omega)) _ | refine Below.alloc ?_ (by first | omega | (simp; done) | (simp; omega)) _)))
    have z1 : w1.heap.size = w.heap.size + 5 := by rw [hw_w1]; simp
    clear hw_w1
    clear z1
    refine (HE.out _ (HX.out.later H1.out)).mono ?_
    rintro e_ wA ⟨rfl, hb⟩
    have k2_0 := cell_later hb q10
    have k2_1 := cell_later hb q11
    have k2_2 := cell_later hb q12
    have k2_3 := cell_later hb q13
    have k2_4 := cell_later hb q14
    have k2_5 := cell_later hb q15
    have k2_6 := cell_later hb q16
    have k2_7 := cell_later hb q17
    have k2_8 := cell_later hb q18
    have k2_9 := cell_later hb q19
    have k2_10 := cell_later hb q110
    have k2_11 := cell_later hb q111
    have f2_0 := frozen_after hb q110 qf10
    have f2_1 := frozen_after hb q111 qf11
    have B2 : Hid (Below w.heap.size w wA) := Lib.hid (below_then H1.out hb)
    clear q10 q11 q12 q13 q14 q15 q16 q17 q18 q19 q110 q111 qf10 qf11 H1
    have z2_0 := World.block_lt_of_cell? _ _ k2_0
    (try dsimp only at z2_0)
    have z2_6 := World.block_lt_of_cell? _ _ k2_6
    (try dsimp only at z2_6)
    have z2_8 := World.block_lt_of_cell? _ _ k2_8
    (try dsimp only at z2_8)
    have z2_10 := World.block_lt_of_cell? _ _ k2_10
    (try dsimp only at z2_10)
    have z2_11 := World.block_lt_of_cell? _ _ k2_11
    (try dsimp only at z2_11)
    clear hb
    go_wp2
    refine ⟨.tuple #[.int .i64 0, .int .i64 E], ?_, rfl, (by (repeat (first | (with_reducible exact B2.out) | (with_reducible refine Below.setCell ?_ ?_ _) | (with_reducible refine below_alloc_top ?_ _) | (with_reducible refine Below.drew ?_))); all_goals (first | omega | (simp; done) | (simp; omega)))⟩
    simp [results, Tryz.f22, go_sem, *]
end Go.Proofs.YtkkaomgdlnejcaaGreatDoor
