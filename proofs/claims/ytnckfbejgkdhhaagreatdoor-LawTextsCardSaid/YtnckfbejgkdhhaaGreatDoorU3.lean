/- the words of a law -/
import Derived.Test.YtnckfbejgkdhhaaGreatDoorU2
import Derived.Test.YtnckfbejgkdhhaaGreatDoorV9
import Derived.Test.YtnckfbejgkdhhaaGreatDoorV11
namespace Go.Proofs.YtnckfbejgkdhhaaGreatDoor
open Go.RowKit Go.Shelf RayM
set_option linter.unusedSimpArgs false
set_option linter.unusedVariables false
/-- the delays of the text "1000 - 0" -/
def tkV (k : Nat) : List Value := [.int .i64 (-1), .int .i64 0].take k
theorem below_one (w : World) (o : Obj) : Below w.heap.size w (w.alloc o) := (Below.refl _ _).alloc (Nat.le_refl _) _
set_option maxRecDepth 100000 in
set_option maxHeartbeats 1000000 in
theorem words_any (g : Nat) (w : World) (hL : Laid w) (y0 : w.cell? ⟨g, 0, none⟩ = some (.string ⟨#[49, 48, 48, 48]⟩)) (y1 : w.cell? ⟨g, 1, none⟩ = some (.string ⟨#[45]⟩)) (y2 : w.cell? ⟨g, 2, none⟩ = some (.string ⟨#[48]⟩)) :
    Calls Tryz.prog 20 #[.slice (some ⟨g, 0, none⟩) 3 3] w fun e w' => ∃ v, e = .returned (.tuple #[.agg #[.int .i64 1000, v], .bool true]) ∧ w'.ownsRow w.heap.size 3 1 v 2 (tkV 2) ∧ Below w.heap.size w w' := by
  obtain ⟨j0_, ji0, jz0, jz1, jz2⟩ := info_parts infoJ
  have JI0 := Lib.hid ji0; have JZ0 := Lib.hid jz0; have JZ1 := Lib.hid jz1; have JZ2 := Lib.hid jz2
  clear ji0 jz0 jz1 jz2
  have hg := World.block_lt_of_cell? _ _ y0
  dsimp only at hg
  go_enter Tryz.func20, Tryz.ntmps20
  go_wp2_with (go_at_call 41; (with_reducible refine (number_1000 _ (hL.later (below_one _ _))).mono ?_); rintro e w1 ⟨rfl, hb1⟩; have c10 : w1.cell? ⟨w.heap.size, 0, none⟩ = some (.int .i64 0) := cell_later hb1 (by simp [go_sem]); have c11 : w1.cell? ⟨w.heap.size, 1, none⟩ = some (.slice none 0 0) := cell_later hb1 (by simp [go_sem]); have f10 : w1.frozen? ⟨w.heap.size, 0, none⟩ = false := frozen_after hb1 (v := .int .i64 0) (by simp [go_sem]) (by simp [go_sem]); have f11 : w1.frozen? ⟨w.heap.size, 1, none⟩ = false := frozen_after hb1 (v := .slice none 0 0) (by simp [go_sem]) (by simp [go_sem]); have s1 := hb1.size; have H1 : Hid (Below w.heap.size w w1) := Lib.hid ((below_one w _).trans (hb1.mono (by simp))); clear hb1)
  simp at s1
  generalize hW2 : w1.setCell ⟨w.heap.size, 0, none⟩ (.int .i64 1000) = w2 at *
  have a0 : w2.cell? ⟨w.heap.size, 0, none⟩ = some (.int .i64 1000) := by rw [← hW2]; exact setS c10
  have a1 : w2.cell? ⟨w.heap.size, 1, none⟩ = some (.slice none 0 0) := by rw [← hW2]; exact setO (.inr (by dsimp only; omega)) c11
  have f0 : w2.frozen? ⟨w.heap.size, 0, none⟩ = false := by rw [← hW2]; exact setF f10
  have f1 : w2.frozen? ⟨w.heap.size, 1, none⟩ = false := by rw [← hW2]; exact setF f11
  have H2 : Hid (Below w.heap.size w w2) := Lib.hid (by rw [← hW2]; exact H1.out.setCell (Nat.le_refl _) _)
  have z2 : w2.heap.size = w1.heap.size := by rw [← hW2]; simp
  clear hW2 c10 c11 f10 f11 H1
  go_loopw [3, 21] (fun s3 s21 wr => ∃ (k : Nat) (v : Value), s3 = .bool true ∧ k ≤ 2 ∧ s21 = .int .i64 (k : Int) ∧ wr.cell? ⟨w.heap.size, 0, none⟩ = some (.int .i64 1000) ∧ wr.cell? ⟨w.heap.size, 1, none⟩ = some v ∧ wr.frozen? ⟨w.heap.size, 0, none⟩ = false ∧ wr.frozen? ⟨w.heap.size, 1, none⟩ = false ∧ wr.ownsRow (w.heap.size + 1) 3 1 v k (tkV k) ∧ Below w.heap.size w wr) (fun _ s21 _ => 2 - (intOf s21).toNat)
  case atStart => exact ⟨0, _, rfl, Nat.zero_le _, rfl, a0, a1, f0, f1, World.ownsRow_nil _ _ _ _, H2.out⟩
  case round =>
    obtain ⟨k, v, rfl, hk, rfl, r0, r1, g0, g1, hown, hb⟩ := hrel
    clear a0 a1 f0 f1 H2 z2 s1
    have sz := hb.size
    have HB := Lib.hid hb
    have zr : w.heap.size < wr.heap.size := World.block_lt_of_cell? _ _ r0
    have x0 := cell_later hb y0; have x1 := cell_later hb y1; have x2 := cell_later hb y2
    have L3 := hL.later hb
    clear hb y0 y1 y2 hL
    rcases (show k = 0 ∨ k = 1 ∨ k = 2 by omega) with rfl | rfl | rfl
    · go_wp2_with fail
      refine (ticks_dash _).mono ?_
      rintro e w5 ⟨rfl, hb5⟩
      have b0 := cell_later hb5 r0; have b1 := cell_later hb5 r1
      have e0 := frozen_after hb5 r0 g0; have e1 := frozen_after hb5 r1 g1
      have hown5 := own_later hown hb5
      have H5 : Hid (Below w.heap.size w w5) := Lib.hid (below_then HB.out hb5)
      have ag5 := Lib.hid (fun q e => (hown5.lt q e).1)
      have zz5 := hb5.size
      clear hb5 r0 r1 g0 g1 hown x0 x1 x2
      have bm6 : (0 + 1 : Nat) ≤ maxLen := by unfold maxLen; omega
      have BM6 := Lib.hid bm6; clear bm6
      have nb6 : ∀ j u, (#[.int .i64 (-1)] : Array Value).toList[j]? = some u → (w5.alloc (.cells #[.int .i64 (-1)] 3)).cell? ((⟨w5.heap.size, 0, none⟩ : Addr).add j) = some u :=
        World.news_of_block (t := 3) (fr := (0, 0)) (by have h := heap_alloc_new w5 (.cells #[.int .i64 (-1)] 3); simpa using h)
      have NB6 := Lib.hid nb6; clear nb6
      go_wp2_with (at_builtin; refine wpList_append_lies _ rfl _ _ _ rfl (w.heap.size + 1) 3 j0_ _ 1 8 Tryz.underlying22 JI0.out JZ0.out JZ1.out JZ2.out rfl (by omega) v (0) (tkV 0) rfl (hown5.alloc _) ⟨w5.heap.size, 0, none⟩ 1 1 [.int .i64 (-1)] rfl rfl NB6.out (by simp [Value.oneCell']) (by omega) BM6.out (by omega) (by simp; omega) (w5.heap.size + 1) (by simp) ?_; intro g6 cap6 w6 hown6 hgrow6 hat6 hlt6; have HG6 : Below (w.heap.size + 1) w5 w6 := ((Below.refl _ _).alloc (by omega) _).grown hgrow6 (by simp; omega) (fun q e => ag5.out q e); have d0 := (HG6.cell (p := ⟨w.heap.size, 0, none⟩) (by dsimp only; omega)).trans b0; have d1 := (HG6.cell (p := ⟨w.heap.size, 1, none⟩) (by dsimp only; omega)).trans b1; have h0 := (HG6.frozen (p := ⟨w.heap.size, 0, none⟩) (by dsimp only; omega)).trans e0; have h1 := (HG6.frozen (p := ⟨w.heap.size, 1, none⟩) (by dsimp only; omega)).trans e1; have H6 := Lib.hid (Below.trans H5.out (HG6.mono (by omega))); have HO6 := Lib.hid hown6; clear hown6 hgrow6 hat6 hlt6 HG6)
      go_roundw
      case rel => exact ⟨1, _, rfl, by omega, by go_num, setO (.inr (by dsimp only; omega)) d0, setS d1, setF h0, setF h1, own_set HO6.out w.heap.size 1 _ (by omega), H6.out.setCell (Nat.le_refl _) _⟩
      case measure => simp [intOf]
    · go_wp2_with fail
      refine (ticks_zero _ L3).mono ?_
      rintro e w5 ⟨rfl, hb5⟩
      have b0 := cell_later hb5 r0; have b1 := cell_later hb5 r1
      have e0 := frozen_after hb5 r0 g0; have e1 := frozen_after hb5 r1 g1
      have hown5 := own_later hown hb5
      have H5 : Hid (Below w.heap.size w w5) := Lib.hid (below_then HB.out hb5)
      have ag5 := Lib.hid (fun q e => (hown5.lt q e).1)
      have zz5 := hb5.size
      clear hb5 r0 r1 g0 g1 hown x0 x1 x2
      have bm6 : (1 + 1 : Nat) ≤ maxLen := by unfold maxLen; omega
      have BM6 := Lib.hid bm6; clear bm6
      have nb6 : ∀ j u, (#[.int .i64 0] : Array Value).toList[j]? = some u → (w5.alloc (.cells #[.int .i64 0] 3)).cell? ((⟨w5.heap.size, 0, none⟩ : Addr).add j) = some u :=
        World.news_of_block (t := 3) (fr := (0, 0)) (by have h := heap_alloc_new w5 (.cells #[.int .i64 0] 3); simpa using h)
      have NB6 := Lib.hid nb6; clear nb6
      go_wp2_with (at_builtin; refine wpList_append_lies _ rfl _ _ _ rfl (w.heap.size + 1) 3 j0_ _ 1 8 Tryz.underlying22 JI0.out JZ0.out JZ1.out JZ2.out rfl (by omega) v (1) (tkV 1) rfl (hown5.alloc _) ⟨w5.heap.size, 0, none⟩ 1 1 [.int .i64 0] rfl rfl NB6.out (by simp [Value.oneCell']) (by omega) BM6.out (by omega) (by simp; omega) (w5.heap.size + 1) (by simp) ?_; intro g6 cap6 w6 hown6 hgrow6 hat6 hlt6; have HG6 : Below (w.heap.size + 1) w5 w6 := ((Below.refl _ _).alloc (by omega) _).grown hgrow6 (by simp; omega) (fun q e => ag5.out q e); have d0 := (HG6.cell (p := ⟨w.heap.size, 0, none⟩) (by dsimp only; omega)).trans b0; have d1 := (HG6.cell (p := ⟨w.heap.size, 1, none⟩) (by dsimp only; omega)).trans b1; have h0 := (HG6.frozen (p := ⟨w.heap.size, 0, none⟩) (by dsimp only; omega)).trans e0; have h1 := (HG6.frozen (p := ⟨w.heap.size, 1, none⟩) (by dsimp only; omega)).trans e1; have H6 := Lib.hid (Below.trans H5.out (HG6.mono (by omega))); have HO6 := Lib.hid hown6; clear hown6 hgrow6 hat6 hlt6 HG6)
      go_roundw
      case rel => exact ⟨2, _, rfl, by omega, by go_num, setO (.inr (by dsimp only; omega)) d0, setS d1, setF h0, setF h1, own_set HO6.out w.heap.size 1 _ (by omega), H6.out.setCell (Nat.le_refl _) _⟩
      case measure => simp [intOf]
    · obtain ⟨A, c, rfl, _⟩ := own_form hown
      have HO := Lib.hid hown; clear hown x0 x1 x2
      go_wp2
      exact bodyPost_ret (v := .tuple #[.agg #[.int .i64 1000, .slice A 2 c], .bool true]) (by simp [results, Tryz.results20, go_sem, World.cell?_alloc_past, *]) rfl ⟨_, rfl, own_base (own_set (own_set HO.out w.heap.size 0 _ (by omega)) w.heap.size 1 _ (by omega)) (by omega), (HB.out.setCell (Nat.le_refl _) _).setCell (Nat.le_refl _) _⟩
end Go.Proofs.YtnckfbejgkdhhaaGreatDoor
