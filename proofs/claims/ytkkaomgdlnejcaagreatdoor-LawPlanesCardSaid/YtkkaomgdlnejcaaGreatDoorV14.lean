/- Recast -/
import Derived.Test.YtkkaomgdlnejcaaGreatDoorV13
namespace Go.Proofs.YtkkaomgdlnejcaaGreatDoor
open Go.RowKit Go.Shelf RayM
set_option linter.unusedSimpArgs false
set_option linter.unusedVariables false

/-- a delay in ticks of another clock -/
def rcF (d : Dl) (clock : Int) (i : Nat) : Int := (2 * (d.t i * d.ck) + clock) / (2 * clock)
def rcE1 (d : Dl) (clock : Int) : Int := fst [d.E, unl (inB clock 1 1000000) 2]
def rcE (d : Dl) (clock : Int) : Int := if rcE1 d clock = 0 then chE d.t (rcF d clock) d.n else rcE1 d clock
theorem rcE1_zero (d : Dl) (clock : Int) : rcE1 d clock = 0 ↔ d.E = 0 ∧ 1 ≤ clock ∧ clock ≤ 1000000 := by
  unfold rcE1
  rw [fst_zero]
  simp only [List.mem_cons, List.not_mem_nil, or_false, forall_eq_or_imp, forall_eq, unl_inB _ _ _ _ (show (2 : Int) ≠ 0 by decide)]
theorem chPost.bad {ck : Int} {t f : Nat → Int} {n : Nat} {E : Int} {w : World} {e : Ending} {w' : World} (h : E ≠ 0) (he : e = .returned (.tuple #[.agg #[.int .i64 0, .slice none 0 0], .int .i64 E])) (hb : Below w.heap.size w w') : chPost ck t f n E w e w' :=
  ⟨none, 0, 0, by rw [if_neg h]; exact he, fun q => absurd q h, fun _ => ⟨rfl, rfl, rfl⟩, hb⟩
theorem chPost.good {ck : Int} {t f : Nat → Int} {n : Nat} {w : World} {e : Ending} {w' : World} {A : Option Addr} {c : Nat} (he : e = .returned (.tuple #[.agg #[.int .i64 ck, .slice A n c], .int .i64 0])) (hA : A ≠ none) (hB : ∀ a, A = some a → w.heap.size ≤ a.block) (hi : InAt A n (chT t f) w') (hb : Below w.heap.size w w') : chPost ck t f n 0 w e w' :=
  ⟨A, n, c, by rw [if_pos rfl]; exact he, fun _ => ⟨rfl, hA, hB, hi⟩, fun q => absurd rfl q, hb⟩
theorem InAt.set' {A : Option Addr} {n : Nat} {l : Nat → Int} {w w0 : World} (r : InAt A n l w) (B i : Nat) (u : Value) (h : InAt A n l w0) (hB : w0.heap.size ≤ B) : InAt A n l (w.setCell ⟨B, i, none⟩ u) := fun hn => by
  obtain ⟨a, e, hc⟩ := r hn
  obtain ⟨a', e', hc'⟩ := h hn
  obtain rfl : a = a' := by rw [e] at e'; cases e'; rfl
  refine ⟨a, e, fun j hj => setO (.inl ?_) (hc j hj)⟩
  have := World.block_lt_of_cell? _ _ (hc' j hj)
  dsimp only; omega
set_option maxRecDepth 100000 in
set_option maxHeartbeats 1000000 in
theorem recast1_any (i ticks ck clock : Int) (Bl Bc : Nat) (w : World) (hl : w.cell? ⟨Bl, 0, none⟩ = some (.int .i64 ck)) (hc : w.cell? ⟨Bc, 0, none⟩ = some (.int .i64 clock)) (t0 : -1 ≤ ticks) (t1 : ticks ≤ 1000000) (k0 : 1 ≤ ck) (k1 : ck ≤ 1000000) (c0 : 1 ≤ clock) (c1 : clock ≤ 1000000) :
    Calls Tryz.prog 69 #[.int .i64 i, .int .i64 ticks, .pointer (some ⟨Bl, 0, none⟩), .pointer (some ⟨Bc, 0, none⟩)] w fun e w' => e = .returned (.int .i64 ((2 * (ticks * ck) + clock) / (2 * clock))) ∧ w' = w := by
  have tb := tick_bounds ticks ck t0 t1 k0 k1
  have e1 : IntKind.i64.wrap (ticks * ck) = ticks * ck := IntWalk.i64_in _ (by omega)
  have NE := Lib.hid (fun w => nearest_any (ticks * ck) clock w (by omega) (by omega) c0 (by omega))
  have TB := Lib.hid tb; clear tb
  go_enter Tryz.func69, Tryz.ntmps69
  go_wp2_with (go_at_call 70; (with_reducible refine (NE.out _).mono ?_); rintro e w' ⟨rfl, rfl⟩)
  go_ret
  exact ⟨rfl, rfl⟩
set_option maxRecDepth 100000 in
set_option maxHeartbeats 1000000 in
theorem recast_any (d : Dl) (clock : Int) (A : Option Addr) (c : Nat) (w : World) (h : InAt A d.n d.t w) (hm : d.n ≤ 9223372036854775807) :
    Calls Tryz.prog 28 #[.agg #[.int .i64 d.ck, .slice A d.n c], .int .i64 clock] w fun e w' => chPost clock d.t (rcF d clock) d.n (rcE d clock) w e w' := by
  have HX := Lib.hid h; clear h
  have HL := Lib.hid (fun w h => lawErr_any d A c w h hm)
  have EF : Hid (rcE1 d clock = fst [d.E, unl (inB clock 1 1000000) 2]) := (rfl : _ = _)
  by_cases hz : rcE1 d clock = 0
  · obtain ⟨qd, c0, c1⟩ := (rcE1_zero d clock).1 hz
    obtain ⟨⟨k0, k1⟩, ⟨n0, n1⟩, tb⟩ := (Dl.E_zero d).1 qd
    have e1 : rcE d clock = chE d.t (rcF d clock) d.n := by unfold rcE; rw [if_pos hz]
    rw [e1]
    have HC := Lib.hid (fun ad Bl Bc w h (hl : w.cell? ⟨Bl, 0, none⟩ = some (.int .i64 d.ck)) (hc : w.cell? ⟨Bc, 0, none⟩ = some (.int .i64 clock)) => changed_recast d.ck ad d.n c d.t (rcF d clock) Bl Bc w n0 n1 h (fun i hi _ W hb => recast1_any i (d.t i) d.ck clock Bl Bc W (cell_later hb hl) (cell_later hb hc) (tb i hi).1 (tb i hi).2 k0 k1 c0 c1))
    have EF2 : Hid (fst [d.E, unl (inB clock 1 1000000) 2] = 0) := by show _ = _; rw [← EF.out]; exact hz
    have HN := Lib.hid n0
    generalize hE : chE d.t (rcF d clock) d.n = E0 at *
    generalize d.E = u0 at *
    clear e1 hz qd c0 c1 k0 k1 n0 n1 tb EF hE
    obtain ⟨ad, hA⟩ := HX.out.some HN.out
    subst hA
    go_enter Tryz.func28, Tryz.ntmps28
    go_wp2
    have hS : Below w.heap.size w (((w.alloc (.cells #[.int .i64 d.ck, .slice (some ad) d.n c] 33)).alloc (.cells #[.int .i64 clock] 3)).alloc (.cells #[.int .i64 0, .slice none 0 0] 33)) := (by repeat (first | exact Below.refl _ _ | refine Below.drew ?_ | refine below_drewN ?_ _ | refine Below.setCell ?_ (by first | omega | (simp; done) | (simp; omega)) _ | refine Below.alloc ?_ (by first | omega | (simp; done) | (simp; omega)) _))
    go_region_held3 (fun w' => w'.cell? ⟨w.heap.size, 0, none⟩ = some (.int .i64 d.ck) ∧ w'.cell? ⟨w.heap.size, 1, none⟩ = some (.slice (some ad) d.n c) ∧ w'.cell? ⟨w.heap.size + 1, 0, none⟩ = some (.int .i64 clock) ∧ w'.cell? ⟨w.heap.size + 1 + 1, 0, none⟩ = some (.int .i64 0) ∧ w'.cell? ⟨w.heap.size + 1 + 1, 1, none⟩ = some (.slice none 0 0) ∧ w'.frozen? ⟨w.heap.size + 1 + 1, 0, none⟩ = false ∧ w'.frozen? ⟨w.heap.size + 1 + 1, 1, none⟩ = false ∧ Below w.heap.size w w') (((go_split_ands; (repeat' apply And.intro) <;> first | (with_reducible assumption) | exact cell_later (by assumption) (by assumption) | exact frozen_after (by assumption) (by assumption) (by assumption) | exact below_then (by assumption) (by assumption) | exact below_alloc_top (by assumption) _ | exact cell_alloc_later (by assumption) _ | exact frozen_alloc_later (by assumption) (by assumption) _ | exact Below.drew (by assumption) | (simp [go_sem, World.cell?_alloc_past, *]; done))))
      (first
        | (go_split_ands; go_at_call 63; (with_reducible refine (HL.out _ (HX.out.later (by with_reducible assumption))).mono ?_); rintro e w' ⟨rfl, hb⟩)
        | (go_at_call 67; (with_reducible refine (clockErr_any _ _).mono ?_); rintro e w' ⟨rfl, rfl⟩)
        | (go_at_call 42; refine (firstError_any _ [u0, unl (inB clock 1 1000000) 2] _ (by simp) (by first | exact cells_drew _ _ (by simp) _ _ | exact cells_new _ _ (by simp) _ _)).mono ?_; rw [EF2.out]; rintro e w' ⟨rfl, rfl⟩))
    go_split_ands
    generalize hW : w'.alloc (Obj.cells #[.int .i64 u0, .int .i64 (unl (inB clock 1 1000000) 2)] 34) = W1 at *
    clear hW
    have y0 : W1.cell? ⟨w.heap.size, 0, none⟩ = some (.int .i64 d.ck)   := by with_reducible assumption
    have y1 : W1.cell? ⟨w.heap.size, 1, none⟩ = some (.slice (some ad) d.n c)   := by with_reducible assumption
    have y2 : W1.cell? ⟨w.heap.size + 1, 0, none⟩ = some (.int .i64 clock)   := by with_reducible assumption
    have y3 : W1.cell? ⟨w.heap.size + 1 + 1, 0, none⟩ = some (.int .i64 0)   := by with_reducible assumption
    have y4 : W1.cell? ⟨w.heap.size + 1 + 1, 1, none⟩ = some (.slice none 0 0)   := by with_reducible assumption
    have yf0 : W1.frozen? ⟨w.heap.size + 1 + 1, 0, none⟩ = false   := by with_reducible assumption
    have yf1 : W1.frozen? ⟨w.heap.size + 1 + 1, 1, none⟩ = false   := by with_reducible assumption
    have yB0 : Below w.heap.size w W1 := by with_reducible assumption
    have yB := Lib.hid yB0; clear yB0
    have yz0 := World.block_lt_of_cell? _ _ y0
    dsimp only at yz0
    have yz1 := World.block_lt_of_cell? _ _ y2
    dsimp only at yz1
    have yz2 := World.block_lt_of_cell? _ _ y3
    dsimp only at yz2
    go_wp2_with fail
    refine (HC.out ad w.heap.size (w.heap.size + 1) _ (HX.out.later yB.out) (by with_reducible assumption) (by with_reducible assumption)).mono ?_
    rintro e w5 ⟨A5, n5, c5, rfl, hg5, hn5, hb5⟩
    have s1 := cell_later hb5 y2
    have s2 := cell_later hb5 y3
    have s3 := cell_later hb5 y4
    have sf2 := frozen_after hb5 y3 yf0
    have sf3 := frozen_after hb5 y4 yf1
    have zz := hb5.size
    have H5 : Hid (Below w.heap.size w w5) := Lib.hid (below_then yB.out hb5)
    clear hb5
    by_cases he : E0 = 0
    · obtain ⟨rfl, hA5, hB5, hI5⟩ := hg5 he
      have HB5 := Lib.hid hB5
      have HI5 := Lib.hid hI5
      have HA5 := Lib.hid hA5
      have HE := Lib.hid he
      rw [if_pos he, he]
      clear hg5 hn5 he hI5 hA5 hB5
      have q0 : w.heap.size < w5.heap.size := by omega
      have q1 : w.heap.size + 1 < w5.heap.size := by omega
      have q2 : w.heap.size + 1 + 1 < w5.heap.size := by omega
      go_wp2
      refine bodyPost_ret (v := .tuple #[.agg #[.int .i64 (clock), .slice A5 d.n c5], .int .i64 (0)]) (by simp [results, Tryz.results28, go_sem, World.cell?_alloc_past, *]) rfl ?_
      have qb : Below w.heap.size w (((w5.setCell ⟨w.heap.size + 1 + 1, 0, none⟩ (.int .i64 clock)).setCell ⟨w.heap.size + 1 + 1, 1, none⟩ (.slice A5 d.n c5)).alloc (.cells #[.int .i64 clock, .slice A5 d.n c5] 33)) := below_alloc_top ((H5.out.setCell (by dsimp only; omega) _).setCell (by dsimp only; omega) _) _
      rw [HE.out]
      exact (chPost.good rfl HA5.out (fun a e => by have := HB5.out a e; omega) (((HI5.out.set (w.heap.size + 1 + 1) 0 (.int .i64 clock) (fun a e => by have := HB5.out a e; omega)).set (w.heap.size + 1 + 1) 1 (.slice A5 d.n c5) (fun a e => by have := HB5.out a e; omega)).later ((Below.refl _ _).alloc (Nat.le_refl _) _)) qb)
    · obtain ⟨rfl, rfl, rfl⟩ := hn5 he
      have n1 : (E0 != 0) = true := by simpa using he
      have HE := Lib.hid he
      rw [if_neg he]
      clear hg5 hn5 he
      have q0 : w.heap.size < w5.heap.size := by omega
      have q1 : w.heap.size + 1 < w5.heap.size := by omega
      have q2 : w.heap.size + 1 + 1 < w5.heap.size := by omega
      go_wp2
      exact bodyPost_ret (v := .tuple #[.agg #[.int .i64 (0), .slice none 0 0], .int .i64 (E0)]) (by simp [results, Tryz.results28, go_sem, World.cell?_alloc_past, *]) rfl (chPost.bad HE.out rfl (by (repeat (first | (with_reducible exact H5.out) | (with_reducible refine Below.setCell ?_ ?_ _) | (with_reducible refine below_alloc_top ?_ _) | (with_reducible refine Below.drew ?_))); all_goals (first | omega | (simp; done) | (simp; omega))))
  · have e1 : rcE d clock = rcE1 d clock := by unfold rcE; rw [if_neg hz]
    rw [e1]
    have n1 : (rcE1 d clock != 0) = true := by simpa using hz
    have HZ := Lib.hid hz
    have EF2 : Hid (fst [d.E, unl (inB clock 1 1000000) 2] = rcE1 d clock) := by show _ = _; rw [← EF.out]
    generalize rcE1 d clock = E0 at *
    generalize d.E = u0 at *
    clear e1 hz EF
    go_enter Tryz.func28, Tryz.ntmps28
    go_wp2
    have hS : Below w.heap.size w (((w.alloc (.cells #[.int .i64 d.ck, .slice A d.n c] 33)).alloc (.cells #[.int .i64 clock] 3)).alloc (.cells #[.int .i64 0, .slice none 0 0] 33)) := (by repeat (first | exact Below.refl _ _ | refine Below.drew ?_ | refine below_drewN ?_ _ | refine Below.setCell ?_ (by first | omega | (simp; done) | (simp; omega)) _ | refine Below.alloc ?_ (by first | omega | (simp; done) | (simp; omega)) _))
    go_region_held3 (fun w' => w'.cell? ⟨w.heap.size, 0, none⟩ = some (.int .i64 d.ck) ∧ w'.cell? ⟨w.heap.size, 1, none⟩ = some (.slice A d.n c) ∧ w'.cell? ⟨w.heap.size + 1, 0, none⟩ = some (.int .i64 clock) ∧ w'.cell? ⟨w.heap.size + 1 + 1, 0, none⟩ = some (.int .i64 0) ∧ w'.cell? ⟨w.heap.size + 1 + 1, 1, none⟩ = some (.slice none 0 0) ∧ w'.frozen? ⟨w.heap.size + 1 + 1, 0, none⟩ = false ∧ w'.frozen? ⟨w.heap.size + 1 + 1, 1, none⟩ = false ∧ Below w.heap.size w w') (((go_split_ands; (repeat' apply And.intro) <;> first | (with_reducible assumption) | exact cell_later (by assumption) (by assumption) | exact frozen_after (by assumption) (by assumption) (by assumption) | exact below_then (by assumption) (by assumption) | exact below_alloc_top (by assumption) _ | exact cell_alloc_later (by assumption) _ | exact frozen_alloc_later (by assumption) (by assumption) _ | exact Below.drew (by assumption) | (simp [go_sem, World.cell?_alloc_past, *]; done))))
      (first
        | (go_split_ands; go_at_call 63; (with_reducible refine (HL.out _ (HX.out.later (by with_reducible assumption))).mono ?_); rintro e w' ⟨rfl, hb⟩)
        | (go_at_call 67; (with_reducible refine (clockErr_any _ _).mono ?_); rintro e w' ⟨rfl, rfl⟩)
        | (go_at_call 42; refine (firstError_any _ [u0, unl (inB clock 1 1000000) 2] _ (by simp) (by first | exact cells_drew _ _ (by simp) _ _ | exact cells_new _ _ (by simp) _ _)).mono ?_; rw [EF2.out]; rintro e w' ⟨rfl, rfl⟩))
    go_split_ands
    go_wp2
    exact bodyPost_ret (v := .tuple #[.agg #[.int .i64 (0), .slice none 0 0], .int .i64 (E0)]) (by simp [results, Tryz.results28, go_sem, World.cell?_alloc_past, *]) rfl (chPost.bad HZ.out rfl (by (repeat (first | (with_reducible assumption) | (with_reducible refine Below.setCell ?_ ?_ _) | (with_reducible refine below_alloc_top ?_ _) | (with_reducible refine Below.drew ?_))); all_goals (first | omega | (simp; done) | (simp; omega))))
end Go.Proofs.YtkkaomgdlnejcaaGreatDoor
