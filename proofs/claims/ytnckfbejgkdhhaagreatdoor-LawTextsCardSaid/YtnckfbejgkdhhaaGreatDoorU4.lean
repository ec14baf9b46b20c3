/- the law of a text -/
import Derived.Test.YtnckfbejgkdhhaaGreatDoorU3
import Derived.Test.YtnckfbejgkdhhaaGreatDoorV5
namespace Go.Proofs.YtnckfbejgkdhhaaGreatDoor
open Go.RowKit Go.Shelf RayM
set_option linter.unusedSimpArgs false
set_option linter.unusedVariables false
def exB : ByteArray := ⟨#[49, 48, 48, 48, 32, 45, 32, 48]⟩
theorem ex_count : Lib.countB ⟨#[49, 48, 48, 48, 32, 45, 32, 48]⟩ ⟨#[32]⟩ = 2 := by decide +kernel
theorem ex_split : Lib.splitB ⟨#[32]⟩ 0 2 ⟨#[49, 48, 48, 48, 32, 45, 32, 48]⟩ = [⟨#[49, 48, 48, 48]⟩, ⟨#[45]⟩, ⟨#[48]⟩] := by decide +kernel
theorem split_b (w : World) (hL : Laid w) : Calls Tryz.prog 21 #[.string ⟨#[49, 48, 48, 48, 32, 45, 32, 48]⟩, .string ⟨#[32]⟩] w fun e w' => ∃ g, e = .returned (.slice (some ⟨g, 0, none⟩) 3 3) ∧ w'.cell? ⟨g, 0, none⟩ = some (.string ⟨#[49, 48, 48, 48]⟩) ∧ w'.cell? ⟨g, 1, none⟩ = some (.string ⟨#[45]⟩) ∧ w'.cell? ⟨g, 2, none⟩ = some (.string ⟨#[48]⟩) ∧ Below w.heap.size w w' := by
  obtain ⟨m, hm⟩ := hL.max
  refine (Tryz.strings_Split _ _ m w (by decide) hm (by decide)).mono ?_
  rintro e w' ⟨he, rfl⟩
  rw [ex_count] at he ⊢
  rw [ex_split]
  exact ⟨_, he, by simp [go_sem], by simp [go_sem], by simp [go_sem], below_one _ _⟩
/-- the delays of the example's text -/
def tkF (i : Nat) : Int := if i = 0 then -1 else 0
def tkL : Dl := ⟨1000, tkF, 2⟩
theorem tkL_E : tkL.E = 0 := by decide +kernel
theorem tk_get (i : Nat) (h : i < 2) : (tkV 2)[i]? = some (.int .i64 (tkF i)) := by
  rcases (show i = 0 ∨ i = 1 by omega) with rfl | rfl <;> rfl
set_option maxRecDepth 100000 in
set_option maxHeartbeats 1000000 in
theorem parse_any (w : World) (hL : Laid w) :
    Calls Tryz.prog 8 #[.string ⟨#[49, 48, 48, 48, 32, 45, 32, 48]⟩] w fun e w' => ∃ A c, e = .returned (.tuple #[.agg #[.int .i64 1000, .slice A 2 c], .int .i64 0]) ∧ w'.ownsRow w.heap.size 3 1 (.slice A 2 c) 2 (tkV 2) ∧ Below w.heap.size w w' := by
  go_enter Tryz.func8, Tryz.ntmps8
  go_wp2_with fail
  refine (split_b _ (hL.later (below_one _ _))).mono ?_
  rintro e w1 ⟨g, rfl, y0, y1, y2, hb1⟩
  have c10 : w1.cell? ⟨w.heap.size, 0, none⟩ = some (.int .i64 0) := cell_later hb1 (by simp [go_sem])
  have c11 : w1.cell? ⟨w.heap.size, 1, none⟩ = some (.slice none 0 0) := cell_later hb1 (by simp [go_sem])
  have f10 : w1.frozen? ⟨w.heap.size, 0, none⟩ = false := frozen_after hb1 (v := .int .i64 0) (by simp [go_sem]) (by simp [go_sem])
  have f11 : w1.frozen? ⟨w.heap.size, 1, none⟩ = false := frozen_after hb1 (v := .slice none 0 0) (by simp [go_sem]) (by simp [go_sem])
  have s1 := hb1.size
  simp at s1
  have H1 : Hid (Below w.heap.size w w1) := Lib.hid ((below_one w _).trans (hb1.mono (by simp)))
  clear hb1
  go_wp2_with fail
  refine (words_any g w1 (hL.later H1.out) y0 y1 y2).mono ?_
  rintro e w2 ⟨v, rfl, hown, hb2⟩
  have c20 := cell_later hb2 c10; have c21 := cell_later hb2 c11
  have f20 := frozen_after hb2 c10 f10; have f21 := frozen_after hb2 c11 f11
  have s2 := hb2.size
  have H2 : Hid (Below w.heap.size w w2) := Lib.hid (below_then H1.out hb2)
  clear hb2 c10 c11 f10 f11 y0 y1 y2 H1
  obtain ⟨A, c, rfl, hI⟩ := own_ints tk_get hown
  have HO := Lib.hid hown; have HI := Lib.hid hI
  clear hown hI
  go_wp2
  obtain ⟨w3, hw3⟩ : ∃ q, q = w2.alloc (.cells #[.int .i64 1000, .slice A 2 c] 24) := ⟨_, rfl⟩
  rw [← hw3]
  have hb3 : Below w2.heap.size w2 w3 := by rw [hw3]; exact below_one _ _
  have d0 : w3.cell? ⟨w2.heap.size, 0, none⟩ = some (.int .i64 1000) := by rw [hw3]; simp [go_sem]
  have d1 : w3.cell? ⟨w2.heap.size, 1, none⟩ = some (.slice A 2 c) := by rw [hw3]; simp [go_sem]
  have c30 := cell_later hb3 c20; have c31 := cell_later hb3 c21
  have f30 := frozen_after hb3 c20 f20; have f31 := frozen_after hb3 c21 f21
  have HI3 := Lib.hid (HI.out.later hb3); have HO3 := Lib.hid (own_later HO.out hb3)
  have H3 : Hid (Below w.heap.size w w3) := Lib.hid (below_then H2.out hb3)
  have s3 := hb3.size
  have HD : Hid (∀ w, InAt A 2 tkF w → Calls Tryz.prog 24 #[.agg #[.int .i64 1000, .slice A 2 c]] w fun e w' => e = .returned (.int .i64 0) ∧ Below w.heap.size w w') := Lib.hid (fun w h => by have := lawErr_any tkL A c w h (by decide); rw [tkL_E] at this; exact this)
  clear hb3 hw3 c20 c21 f20 f21 H2 HI HO
  have r0 := Below.refl w3.heap.size w3
  go_region_held3 (fun w' => w'.cell? ⟨w2.heap.size, 0, none⟩ = some (.int .i64 1000) ∧ w'.cell? ⟨w2.heap.size, 1, none⟩ = some (.slice A 2 c) ∧ Below w3.heap.size w3 w') (((go_split_ands; (repeat' apply And.intro) <;> first | (with_reducible assumption) | exact cell_later (by assumption) (by assumption) | exact frozen_after (by assumption) (by assumption) (by assumption) | exact below_then (by assumption) (by assumption) | exact below_alloc_top (by assumption) _ | exact cell_alloc_later (by assumption) _ | exact frozen_alloc_later (by assumption) (by assumption) _ | exact Below.drew (by assumption) | (simp [go_sem, World.cell?_alloc_past, *]; done))))
    (first
      | (go_split_ands; go_at_call 24; (with_reducible refine (HD.out _ (HI3.out.later (by with_reducible assumption))).mono ?_); rintro e w' ⟨rfl, hb⟩)
      | (go_at_call 23; (with_reducible refine (unless_any _ _ _).mono ?_); rintro e w' ⟨rfl, rfl⟩)
      | (go_at_call 22; refine (firstError_any _ [unl true 7, 0] _ (by simp) (by first | exact cells_drew _ _ (by simp) _ _ | exact cells_new _ _ (by simp) _ _)).mono ?_; rw [show fst [unl true 7, 0] = 0 from rfl]; rintro e w' ⟨rfl, rfl⟩))
  go_split_ands
  rename_i k0 k1 kb
  obtain ⟨w4, hw4⟩ : ∃ q, q = w'.alloc (.cells #[.int .i64 (unl true 7), .int .i64 0] 29) := ⟨_, rfl⟩
  rw [← hw4] at k0 k1 kb ⊢
  have c40 := cell_later kb c30; have c41 := cell_later kb c31
  have f40 := frozen_after kb c30 f30; have f41 := frozen_after kb c31 f31
  have HO4 := Lib.hid (own_later HO3.out kb)
  have H4 : Hid (Below w.heap.size w w4) := Lib.hid (below_then H3.out kb)
  have s4 := kb.size
  clear kb hw4 c30 c31 f30 f31 d0 d1 H3 HO3 HI3 HD r0 hb
  go_wp2
  exact bodyPost_ret (v := .tuple #[.agg #[.int .i64 1000, .slice A 2 c], .int .i64 0]) (by simp [results, Tryz.results8, go_sem, World.cell?_alloc_past, *]) rfl ⟨A, c, rfl, own_base (own_set (own_set HO4.out w.heap.size 0 _ (by omega)) w.heap.size 1 _ (by omega)) (by omega), (H4.out.setCell (Nat.le_refl _) _).setCell (Nat.le_refl _) _⟩
end Go.Proofs.YtnckfbejgkdhhaaGreatDoor
