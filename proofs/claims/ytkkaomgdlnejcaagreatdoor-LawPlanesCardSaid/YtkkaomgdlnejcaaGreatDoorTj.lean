/- the reference's lawOf and round -/
import Derived.Test.YtkkaomgdlnejcaaGreatDoorVc
import Derived.Test.YtkkaomgdlnejcaaGreatDoorV13
import Derived.BigQuiet
namespace Go.Proofs.YtkkaomgdlnejcaaGreatDoor
open Go.RowKit Go.Shelf RayM
set_option linter.unusedSimpArgs false
set_option linter.unusedVariables false
theorem cell_drw2 {w : World} {a : Addr} {v : Value} (h : w.cell? a = some v) : w.drew.cell? a = some v := h
/-- what the reference makes of ticks: a law, or nothing -/
def rlE (l : Nat → Int) (n : Nat) : Int := if (∀ i, i < n → l i ≤ 1000000) then 0 else 8
theorem rlE_yes (l : Nat → Int) (n : Nat) (h : ∀ i, i < n → l i ≤ 1000000) : rlE l n = 0 := if_pos h
def rlPost (ck : Int) (A : Option Addr) (n c : Nat) (E : Int) (w : World) (e : Ending) (w' : World) : Prop :=
  ∃ (A' : Option Addr) (n' c' : Nat), e = .returned (.tuple #[.agg #[.int .i64 (if E = 0 then ck else 0), .slice A' n' c'], .int .i64 E]) ∧ (E = 0 → A' = A ∧ n' = n ∧ c' = c) ∧ (E ≠ 0 → A' = none ∧ n' = 0 ∧ c' = 0) ∧ Below w.heap.size w w'
theorem rlPost.good {ck : Int} {A : Option Addr} {n c : Nat} {E : Int} {w : World} {e : Ending} {w' : World} (h : E = 0) (he : e = .returned (.tuple #[.agg #[.int .i64 ck, .slice A n c], .int .i64 0])) (hb : Below w.heap.size w w') : rlPost ck A n c E w e w' := by
  subst h; exact ⟨A, n, c, by rw [if_pos rfl]; exact he, fun _ => ⟨rfl, rfl, rfl⟩, fun q => absurd rfl q, hb⟩
theorem rlPost.bad {ck : Int} {A : Option Addr} {n c : Nat} {E : Int} {w : World} {e : Ending} {w' : World} (h : E = 8) (he : e = .returned (.tuple #[.agg #[.int .i64 0, .slice none 0 0], .int .i64 8])) (hb : Below w.heap.size w w') : rlPost ck A n c E w e w' := by
  subst h; exact ⟨none, 0, 0, by rw [if_neg (by decide)]; exact he, fun q => absurd q (by decide), fun _ => ⟨rfl, rfl, rfl⟩, hb⟩
theorem rlE_no (l : Nat → Int) (n i : Nat) (hi : i < n) (h : 1000000 < l i) : rlE l n = 8 := if_neg (fun q => by have := q i hi; omega)
set_option maxRecDepth 100000 in
set_option maxHeartbeats 1000000 in
theorem rLawOf_any (ck : Int) (A : Option Addr) (n c : Nat) (l : Nat → Int) (w : World) (hm : n ≤ 1000) (h : InAt A n l w) :
    Calls Tryz.prog 48 #[.int .i64 ck, .slice A n c] w fun e w' => rlPost ck A n c (rlE l n) w e w' := by
  have HX := Lib.hid h; clear h
  have RY := Lib.hid (rlE_yes l n); have RN := Lib.hid (fun i a b => rlE_no l n i a b)
  generalize rlE l n = E at *
  go_enter Tryz.func48, Tryz.ntmps48
  go_wp2
  obtain ⟨w1, hw_w1⟩ : ∃ q, q = (w.alloc (.cells #[.int .i64 0, .slice none 0 0] 33)) := ⟨_, rfl⟩
  rw [← hw_w1]
  have q10 : w1.cell? ⟨w.heap.size, 0, none⟩ = some (.int .i64 0) := by rw [hw_w1]; simp [go_sem]
  have q11 : w1.cell? ⟨w.heap.size, 1, none⟩ = some (.slice none 0 0) := by rw [hw_w1]; simp [go_sem]
  have qf10 : w1.frozen? ⟨w.heap.size, 0, none⟩ = false := by rw [hw_w1]; simp [go_sem]
  have qf11 : w1.frozen? ⟨w.heap.size, 1, none⟩ = false := by rw [hw_w1]; simp [go_sem]
  have H1 : Hid (Below w.heap.size w w1) := Lib.hid (by rw [hw_w1]; exact (by repeat (first | exact Below.refl _ _ | refine Below.drew ?_ | refine below_drewN ?_ _ | refine Below.setCell ?_ (by first | omega | (simp; done) | (simp; omega)) _ | refine Below.alloc ?_ (by first | omega | (simp; done) | (simp; omega)) _)))
  have z1 : w1.heap.size = w.heap.size + 1 := by rw [hw_w1]; simp
  clear hw_w1
  go_loopw [6] (fun s6 wr => ∃ k : Nat, k ≤ n ∧ s6 = .int .i64 (k : Int) ∧ (∀ i, i < k → l i ≤ 1000000) ∧ Below w1.heap.size w1 wr) (fun s6 _ => n - (intOf s6).toNat)
  case atStart => exact ⟨0, Nat.zero_le _, rfl, fun i hi => absurd hi (Nat.not_lt_zero i), Below.refl _ _⟩
  case round =>
    obtain ⟨k, hk, rfl, hq, hb⟩ := hrel
    have HQ := Lib.hid hq; clear hq
    have HB := Lib.hid hb
    have HW : Hid (Below w.heap.size w wr) := Lib.hid (below_then H1.out hb)
    have r0 := cell_later hb q10; have r1 := cell_later hb q11
    have f0 := frozen_after hb q10 qf10; have f1 := frozen_after hb q11 qf11
    have zr := World.block_lt_of_cell? _ _ r0
    dsimp only at zr
    by_cases hlt : k < n
    · obtain ⟨ad, rfl⟩ := HX.out.some (by omega)
      have e0 := (HX.out.later HW.out).at hlt
      have j0 : (0 : Int) ≤ (k : Int) := Int.natCast_nonneg _
      have j1 : (k : Int) < (n : Int) := by omega
      have j8 : (k : Int) < 1000 := by omega
      clear hb
      by_cases hg : 1000000 < l k
      · have n1 : decide ((1000000 : Int) < l k) = true := by simpa using hg
        have E8 := Lib.hid (RN.out k hlt hg)
        generalize l k = x at *
        clear hg
        go_wp2
        exact bodyPost_ret (v := .tuple #[.agg #[.int .i64 0, .slice none 0 0], .int .i64 8]) (by simp [results, Tryz.results48, go_sem, World.cell?_alloc_past, *]) rfl (rlPost.bad E8.out rfl (by (repeat (first | (with_reducible exact HW.out) | (with_reducible refine Below.setCell ?_ ?_ _) | (with_reducible refine below_alloc_top ?_ _) | (with_reducible refine Below.drew ?_))); all_goals (first | omega | (simp; done) | (simp; omega))))
      · have n1 : decide ((1000000 : Int) < l k) = false := by simp; omega
        have HG := Lib.hid (show l k ≤ 1000000 by omega)
        obtain ⟨x, hx⟩ : ∃ x, x = l k := ⟨_, rfl⟩
        rw [← hx] at e0 n1
        clear hg hx
        go_wp2
        go_roundw
        case rel => exact ⟨k + 1, by omega, by go_num, fun i hi => by
            rcases Nat.lt_succ_iff_lt_or_eq.1 hi with h | h
            · exact HQ.out i h
            · subst h; exact HG.out, HB.out⟩
        case measure => simp [intOf]; omega
    · have hk' : k = n := by omega
      have kk : decide ((k : Int) < (n : Int)) = false := by simp; omega
      subst hk'
      have E0 := Lib.hid (RY.out HQ.out)
      clear hb
      go_wp2
      exact bodyPost_ret (v := .tuple #[.agg #[.int .i64 ck, .slice A k c], .int .i64 0]) (by simp [results, Tryz.results48, go_sem, World.cell?_alloc_past, *]) rfl (rlPost.good E0.out rfl (by (repeat (first | (with_reducible exact HW.out) | (with_reducible refine Below.setCell ?_ ?_ _) | (with_reducible refine below_alloc_top ?_ _) | (with_reducible refine Below.drew ?_))); all_goals (first | omega | (simp; done) | (simp; omega))))
set_option maxRecDepth 100000 in
set_option maxHeartbeats 1000000 in
theorem rRound_any (n b : Int) (w : World) (n0 : -1000000000000000 ≤ n) (n1 : n ≤ 1000000000000000) (b0 : 1 ≤ b) (b1 : b ≤ 1000000) :
    Calls Tryz.prog 47 #[.int .i64 n, .int .i64 b] w fun e w' => e = .returned (.int .i64 ((2 * n + b) / (2 * b))) ∧ w = w' := by
  have FL := Lib.hid (fun w => floor_any (2 * n + b) (2 * b) w (by omega) (by omega) (by omega) (by omega))
  generalize (2 * n + b) / (2 * b) = q at *
  go_enter Tryz.func47, Tryz.ntmps47
  go_wp2_with (go_at_call 83; (with_reducible refine (FL.out _).mono ?_); rintro e w' ⟨rfl, rfl⟩)
  go_ret
  exact ⟨rfl, rfl⟩
set_option maxRecDepth 100000 in
set_option maxHeartbeats 1000000 in
theorem wArrayErr_any (a : La) (A : Option Addr) (c : Nat) (w : World) (h : SpAt A a.n a.p w) (hm : a.n ≤ 9223372036854775807) :
    Calls Tryz.prog 12 #[.agg #[.slice A a.n c, .int .i64 a.m.wd, .int .i64 a.m.mt, .int .i64 a.m.sk, .int .i64 a.m.th, .int .i64 a.ck]] w fun e w' => e = .returned (.int .i64 a.E) ∧ Below w.heap.size w w' := by
  have HX := Lib.hid h; clear h
  have HL := Lib.hid (fun w h => rCheckArray_any a A c w h hm)
  generalize a.E = u at *
  generalize (a.I : Int) = v at *
  go_enter Tryz.func12, Tryz.ntmps12
  go_wp2_with fail
  refine (HL.out _ (HX.out.later ((Below.refl _ _).alloc (Nat.le_refl _) _))).mono ?_
  rintro e w1 ⟨rfl, hb1⟩

  have H1 : Hid (Below w.heap.size w w1) := Lib.hid (below_after (by repeat (first | exact Below.refl _ _ | refine Below.drew ?_ | refine below_drewN ?_ _ | refine Below.setCell ?_ (by first | omega | (simp; done) | (simp; omega)) _ | refine Below.alloc ?_ (by first | omega | (simp; done) | (simp; omega)) _)) hb1 (by first | omega | (simp; done) | (simp; omega))); clear hb1
  go_wp2
  go_ret
  exact ⟨rfl, H1.out⟩
theorem cut2_ {A B : Prop} (h : A) (f : A → B) : B := f h
/-- what an opaque call leaves: what lay lies -/
def BelA (w w' : World) : Prop := Below w.heap.size w w'
theorem cellA {w w' : World} {a : Addr} {v : Value} (h : BelA w w') (hc : w.cell? a = some v) : w'.cell? a = some v := cell_later h hc
theorem frozenA {w w' : World} {a : Addr} {v : Value} (h : BelA w w') (hc : w.cell? a = some v) (hf : w.frozen? a = false) : w'.frozen? a = false := frozen_after h hc hf
theorem belowA {w0 w w' : World} (h : Below w0.heap.size w0 w) (hb : BelA w w') : Below w0.heap.size w0 w' := below_then h hb
theorem SpAt.laterA {A : Option Addr} {n : Nat} {p : Nat → Sp} {w w' : World} (hb : BelA w w') (r : SpAt A n p w) : SpAt A n p w' := r.later hb
theorem InAt.laterA {A : Option Addr} {n : Nat} {p : Nat → Int} {w w' : World} (hb : BelA w w') (r : InAt A n p w) : InAt A n p w' := r.later hb
theorem SpAt.alloc {A : Option Addr} {n : Nat} {p : Nat → Sp} {w : World} (r : SpAt A n p w) (o : Obj) : SpAt A n p (w.alloc o) := r.later ((Below.refl _ _).alloc (Nat.le_refl _) _)
theorem InAt.alloc {A : Option Addr} {n : Nat} {p : Nat → Int} {w : World} (r : InAt A n p w) (o : Obj) : InAt A n p (w.alloc o) := r.later ((Below.refl _ _).alloc (Nat.le_refl _) _)
theorem SpAt.drew {A : Option Addr} {n : Nat} {p : Nat → Sp} {w : World} (r : SpAt A n p w) : SpAt A n p w.drew := r
theorem InAt.drew {A : Option Addr} {n : Nat} {p : Nat → Int} {w : World} (r : InAt A n p w) : InAt A n p w.drew := r
theorem cell_drewA {w : World} {a : Addr} {v : Value} (h : w.cell? a = some v) : w.drew.cell? a = some v := h
theorem frozen_drewA {w : World} {a : Addr} (h : w.frozen? a = false) : w.drew.frozen? a = false := h
theorem cell_set_old {w wk : World} {a : Addr} {v u x : Value} {i : Nat} (h : w.cell? a = some v) (hk : wk.cell? a = some u) : (w.setCell ⟨wk.heap.size, i, none⟩ x).cell? a = some v := by
  have := World.block_lt_of_cell? _ _ hk
  rw [World.cell?_setCell_other w _ a x (fun e => by rw [← e] at this; exact Nat.lt_irrefl _ this)]; exact h
theorem below_set_old {w0 w wk : World} {x : Value} {i : Nat} (h : Below w0.heap.size w0 w) (hk : Below w0.heap.size w0 wk) : Below w0.heap.size w0 (w.setCell ⟨wk.heap.size, i, none⟩ x) := Below.setCell h hk.size _
set_option maxRecDepth 100000 in
set_option maxHeartbeats 1000000 in
theorem rSending_any (d : Dl) (A : Option Addr) (c : Nat) (w : World) (hm : d.n ≤ 1000) (ht : ∀ i, i < d.n → -1 ≤ d.t i) (h : InAt A d.n d.t w) :
    Calls Tryz.prog 34 #[.agg #[.int .i64 d.ck, .slice A d.n c]] w fun e w' => ∃ v : Value, e = .returned v ∧ w'.ownsRow w.heap.size 3 1 v (sdL d.t d.n).length (mvs (sdF d.t d.n) (sdL d.t d.n).length) ∧ Below w.heap.size w w' := by
  rw [← sdV_mvs, ← sdV_len]
  obtain ⟨j0_, ji0, jz0, jz1, jz2⟩ := info_parts infoJ
  have JI0 := Lib.hid ji0; have JZ0 := Lib.hid jz0; have JZ1 := Lib.hid jz1; have JZ2 := Lib.hid jz2
  clear ji0 jz0 jz1 jz2
  have HX := Lib.hid h; clear h
  have TT := Lib.hid ht; clear ht
  have SY := Lib.hid (fun k h => sdV_yes d.t k h); have SN := Lib.hid (fun k h => sdV_no d.t k h)
  have SL : Hid (∀ k, (sdV d.t k).length ≤ k) := Lib.hid (fun k => by rw [sdV_len]; exact sdL_len d.t k)
  have S0 : Hid (sdV d.t 0 = []) := (rfl : sdV d.t 0 = [])
  go_enter Tryz.func34, Tryz.ntmps34
  go_wp2
  obtain ⟨w1, hw_w1⟩ : ∃ q, q = (w.alloc (.cells #[.int .i64 d.ck, .slice A d.n c] 33)) := ⟨_, rfl⟩
  rw [← hw_w1]
  have q10 : w1.cell? ⟨w.heap.size, 0, none⟩ = some (.int .i64 d.ck) := by rw [hw_w1]; simp [go_sem]
  have q11 : w1.cell? ⟨w.heap.size, 1, none⟩ = some (.slice A d.n c) := by rw [hw_w1]; simp [go_sem]
  have H1 : Hid (Below w.heap.size w w1) := Lib.hid (by rw [hw_w1]; exact (by repeat (first | exact Below.refl _ _ | refine Below.drew ?_ | refine below_drewN ?_ _ | refine Below.setCell ?_ (by first | omega | (simp; done) | (simp; omega)) _ | refine Below.alloc ?_ (by first | omega | (simp; done) | (simp; omega)) _)))
  have z1 : w1.heap.size = w.heap.size + 1 := by rw [hw_w1]; simp
  clear hw_w1
  go_loopw [3, 4] (fun s3 s4 wr => ∃ (k : Nat) (v : Value), v = s3 ∧ k ≤ d.n ∧ s4 = .int .i64 (k : Int) ∧ wr.ownsRow w1.heap.size 3 1 v (sdV d.t k).length (sdV d.t k) ∧ Below w1.heap.size w1 wr) (fun _ s4 _ => d.n - (intOf s4).toNat)
  case atStart => exact ⟨0, _, rfl, Nat.zero_le _, rfl, by rw [S0.out]; exact World.ownsRow_nil _ _ _ _, Below.refl _ _⟩
  case round =>
    obtain ⟨k, v, rfl, hk, rfl, hown, hb⟩ := hrel
    have sz := hb.size
    have HB := Lib.hid hb
    have HW : Hid (Below w.heap.size w wr) := Lib.hid (below_then H1.out hb)
    have r0 := cell_later hb q10; have r1 := cell_later hb q11
    have zr := World.block_lt_of_cell? _ _ r0
    dsimp only at zr
    have ag := Lib.hid (fun q e => (hown.lt q e).1)
    by_cases hlt : k < d.n
    · obtain ⟨ad, rfl⟩ := HX.out.some (by omega)
      have e0 := (HX.out.later HW.out).at hlt
      have j0 : (0 : Int) ≤ (k : Int) := Int.natCast_nonneg _
      have j1 : (k : Int) < (d.n : Int) := by omega
      have j8 : (k : Int) < 1000 := by omega
      have tt := TT.out k hlt
      clear hb
      by_cases hg : d.t k = -1
      · have n1 : decide ((0 : Int) ≤ d.t k) = false := by simp; omega
        have FE := Lib.hid (SN.out k hg)
        clear tt
        generalize d.t k = x at *
        clear hg
        go_wp2
        go_roundw
        case rel => exact ⟨k + 1, _, rfl, by omega, by go_num, by rw [FE.out]; exact hown, HB.out⟩
        case measure => simp [intOf]; omega
      · have n1 : decide ((0 : Int) ≤ d.t k) = true := by simp; omega
        have FE := Lib.hid (SY.out k hg)
        have fl := SL.out k
        clear tt hg
        generalize d.t k = x at *
        have bm6 : ((sdV d.t k).length + 1 : Nat) ≤ maxLen := by unfold maxLen; omega
        have BM6 := Lib.hid bm6; clear bm6
        have nb6 : ∀ j u, (#[.int .i64 (k : Int)] : Array Value).toList[j]? = some u → (wr.alloc (.cells #[.int .i64 (k : Int)] 3)).cell? ((⟨wr.heap.size, 0, none⟩ : Addr).add j) = some u :=
          World.news_of_block (t := 3) (fr := (0, 0)) (by have h := heap_alloc_new wr (.cells #[.int .i64 (k : Int)] 3); simpa using h)
        have NB6 := Lib.hid nb6; clear nb6
        go_wp2_with (at_builtin; refine wpList_append_lies _ rfl _ _ _ rfl (w1.heap.size) 3 j0_ _ 1 8 Tryz.underlying31 JI0.out JZ0.out JZ1.out JZ2.out rfl (by omega) v ((sdV d.t k).length) (sdV d.t k) rfl (hown.alloc _) ⟨wr.heap.size, 0, none⟩ 1 1 [.int .i64 (k : Int)] rfl rfl NB6.out (by simp [Value.oneCell']) (by omega) BM6.out (by omega) (by simp; omega) (wr.heap.size + 1) (by simp) ?_; intro g6 cap6 w6 hown6 hgrow6 hat6 hlt6)
        have HO6 := Lib.hid hown6; clear hown6
        have HG6 := Lib.hid hgrow6; clear hgrow6 hat6 hlt6
        go_roundw
        case rel => exact ⟨k + 1, _, rfl, by omega, by go_num, by rw [FE.out, List.length_append]; exact HO6.out, (HB.out.alloc (by omega) _).grown HG6.out (by simp; omega) (fun q e => ag.out q e)⟩
        case measure => simp [intOf]; omega
    · have hk' : k = d.n := by omega
      have kk : decide ((k : Int) < (d.n : Int)) = false := by simp; omega
      subst hk'
      go_wp2
      go_ret
      exact ⟨_, rfl, own_base hown H1.out.size, HW.out⟩
end Go.Proofs.YtkkaomgdlnejcaaGreatDoor
