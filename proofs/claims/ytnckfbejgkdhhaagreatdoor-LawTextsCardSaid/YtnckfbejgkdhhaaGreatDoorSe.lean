/- the words of any law -/
import Derived.Test.YtnckfbejgkdhhaaGreatDoorSd
import Derived.Test.YtnckfbejgkdhhaaGreatDoorV9
import Derived.Test.YtnckfbejgkdhhaaGreatDoorV11
import Derived.Test.YtnckfbejgkdhhaaGreatDoorU3
namespace Go.Proofs.YtnckfbejgkdhhaaGreatDoor
open Go.RowKit Go.Shelf RayM
set_option linter.unusedSimpArgs false
set_option linter.unusedVariables false
/-- a slice of texts, where it lies -/
def WsAt (g n : Nat) (W : Nat → ByteArray) (w : World) : Prop := ∀ j, j < n → w.cell? ⟨g, j, none⟩ = some (.string (W j))
theorem WsAt.later {g n : Nat} {W : Nat → ByteArray} {w w' : World} (h : WsAt g n W w) (hb : Below w.heap.size w w') : WsAt g n W w' := fun j hj => cell_later hb (h j hj)
/-- what the words say -/
def wN (W : Nat → ByteArray) : Int × Bool := Tb.nb (W 0).data.toList
def wT (W : Nat → ByteArray) (j : Nat) : Int × Bool := Tb.tk (W (j + 1)).data.toList
def wOk (W : Nat → ByteArray) : Nat → Bool
  | 0 => (wN W).2
  | k + 1 => wOk W k && (wT W k).2
def wVs (W : Nat → ByteArray) (k : Nat) : List Value := (List.range k).map fun j => .int .i64 (wT W j).1
theorem wVs_succ (W : Nat → ByteArray) (k : Nat) : wVs W (k + 1) = wVs W k ++ [.int .i64 (wT W k).1] := by
  unfold wVs; rw [List.range_succ, List.map_append]; rfl
theorem wVs_len (W : Nat → ByteArray) (k : Nat) : (wVs W k).length = k := by unfold wVs; simp
theorem wVs_get (W : Nat → ByteArray) (k i : Nat) (h : i < k) : (wVs W k)[i]? = some (.int .i64 (wT W i).1) := by
  unfold wVs; rw [List.getElem?_map, List.getElem?_range h]; rfl
set_option maxRecDepth 100000 in
set_option maxHeartbeats 4000000 in
theorem lawWords_zero (g : Nat) (W : Nat → ByteArray) (w : World) (hE : LaidE w) (hs : ∀ j, (W j).size ≤ 1000) (y : WsAt g 1 W w) :
    Calls Tryz.prog 20 #[.slice (some ⟨g, 0, none⟩) 1 1] w fun e w' => ∃ v, e = .returned (.tuple #[.agg #[.int .i64 (wN W).1, v], .bool (wOk W 0)]) ∧ w'.ownsRow w.heap.size 3 1 v 0 (wVs W 0) ∧ Below w.heap.size w w' := by
  obtain ⟨j0_, ji0, jz0, jz1, jz2⟩ := info_parts infoJ
  have JI0 := Lib.hid ji0; have JZ0 := Lib.hid jz0; have JZ1 := Lib.hid jz1; have JZ2 := Lib.hid jz2
  clear ji0 jz0 jz1 jz2
  have y0 := y 0 (by omega)
  have hg := World.block_lt_of_cell? _ _ y0
  dsimp only at hg
  have Y := Lib.hid y; clear y
  have HN := Lib.hid (fun w h => number_any (W 0) w h (hs 0))
  have hw : Tb.nb (W 0).data.toList = wN W := rfl
  rw [hw] at HN
  have hk0 : wOk W 0 = (wN W).2 := rfl
  generalize wN W = cb at *
  obtain ⟨cv, cok⟩ := cb
  dsimp only at HN hk0 ⊢
  go_enter Tryz.func20, Tryz.ntmps20
  go_wp2_with (go_at_call 41; (with_reducible refine (HN.out _ (hE.later (below_one _ _))).mono ?_); rintro e w1 ⟨rfl, hb1⟩; have c10 : w1.cell? ⟨w.heap.size, 0, none⟩ = some (.int .i64 0) := cell_later hb1 (by simp [go_sem]); have c11 : w1.cell? ⟨w.heap.size, 1, none⟩ = some (.slice none 0 0) := cell_later hb1 (by simp [go_sem]); have f10 : w1.frozen? ⟨w.heap.size, 0, none⟩ = false := frozen_after hb1 (v := .int .i64 0) (by simp [go_sem]) (by simp [go_sem]); have f11 : w1.frozen? ⟨w.heap.size, 1, none⟩ = false := frozen_after hb1 (v := .slice none 0 0) (by simp [go_sem]) (by simp [go_sem]); have s1 := hb1.size; have H1 : Hid (Below w.heap.size w w1) := Lib.hid ((below_one w _).trans (hb1.mono (by simp))); clear hb1)
  simp at s1
  generalize hW2 : w1.setCell ⟨w.heap.size, 0, none⟩ (.int .i64 cv) = w2 at *
  have a0 : w2.cell? ⟨w.heap.size, 0, none⟩ = some (.int .i64 cv) := by rw [← hW2]; exact setS c10
  have a1 : w2.cell? ⟨w.heap.size, 1, none⟩ = some (.slice none 0 0) := by rw [← hW2]; exact setO (.inr (by dsimp only; omega)) c11
  have f0 : w2.frozen? ⟨w.heap.size, 0, none⟩ = false := by rw [← hW2]; exact setF f10
  have f1 : w2.frozen? ⟨w.heap.size, 1, none⟩ = false := by rw [← hW2]; exact setF f11
  have H2 : Hid (Below w.heap.size w w2) := Lib.hid (by rw [← hW2]; exact H1.out.setCell (Nat.le_refl _) _)
  have z2 : w2.heap.size = w1.heap.size := by rw [← hW2]; simp
  clear hW2 c10 c11 f10 f11 H1
  go_loopw [3, 21] (fun s3 s21 wr => ∃ (k : Nat) (v : Value), s3 = .bool (wOk W k) ∧ k ≤ 0 ∧ s21 = .int .i64 (k : Int) ∧ wr.cell? ⟨w.heap.size, 0, none⟩ = some (.int .i64 cv) ∧ wr.cell? ⟨w.heap.size, 1, none⟩ = some v ∧ wr.frozen? ⟨w.heap.size, 0, none⟩ = false ∧ wr.frozen? ⟨w.heap.size, 1, none⟩ = false ∧ wr.ownsRow (w.heap.size + 1) 3 1 v k (wVs W k) ∧ Below w.heap.size w wr) (fun _ s21 _ => 0 - (intOf s21).toNat)
  case atStart => exact ⟨0, _, by rw [hk0], Nat.zero_le _, rfl, a0, a1, f0, f1, World.ownsRow_nil _ _ _ _, H2.out⟩
  case round =>
    obtain ⟨k, v, rfl, hk, rfl, r0, r1, g0, g1, hown, hb⟩ := hrel
    clear a0 a1 f0 f1 H2 z2 s1
    have sz := hb.size
    have HB := Lib.hid hb
    have zr : w.heap.size < wr.heap.size := World.block_lt_of_cell? _ _ r0
    have L3 := hE.later hb
    have hkn : k = 0 := by omega
    subst hkn
    obtain ⟨A, c, rfl, _⟩ := own_form hown
    have HO := Lib.hid hown; clear hown hb hE
    go_wp2
    exact bodyPost_ret (v := .tuple #[.agg #[.int .i64 cv, .slice A 0 c], .bool (wOk W 0)]) (by simp [results, Tryz.results20, go_sem, World.cell?_alloc_past, *]) rfl ⟨_, rfl, own_base (own_set (own_set HO.out w.heap.size 0 _ (by omega)) w.heap.size 1 _ (by omega)) (by omega), (HB.out.setCell (Nat.le_refl _) _).setCell (Nat.le_refl _) _⟩
set_option maxRecDepth 100000 in
set_option maxHeartbeats 4000000 in
theorem lawWords_pos (g n : Nat) (W : Nat → ByteArray) (w : World) (hE : LaidE w) (hs : ∀ j, (W j).size ≤ 1000) (hn : n ≤ 1000) (hn0 : ¬ n = 0) (y : WsAt g (n + 1) W w) :
    Calls Tryz.prog 20 #[.slice (some ⟨g, 0, none⟩) (n + 1) (n + 1)] w fun e w' => ∃ v, e = .returned (.tuple #[.agg #[.int .i64 (wN W).1, v], .bool (wOk W n)]) ∧ w'.ownsRow w.heap.size 3 1 v n (wVs W n) ∧ Below w.heap.size w w' := by
  obtain ⟨j0_, ji0, jz0, jz1, jz2⟩ := info_parts infoJ
  have JI0 := Lib.hid ji0; have JZ0 := Lib.hid jz0; have JZ1 := Lib.hid jz1; have JZ2 := Lib.hid jz2
  clear ji0 jz0 jz1 jz2
  have y0 := y 0 (by omega)
  have hg := World.block_lt_of_cell? _ _ y0
  dsimp only at hg
  have Y := Lib.hid y; clear y
  have HN := Lib.hid (fun w h => number_any (W 0) w h (hs 0))
  have hw : Tb.nb (W 0).data.toList = wN W := rfl
  rw [hw] at HN
  have hk0 : wOk W 0 = (wN W).2 := rfl
  generalize wN W = cb at *
  obtain ⟨cv, cok⟩ := cb
  dsimp only at HN hk0 ⊢
  go_enter Tryz.func20, Tryz.ntmps20
  go_wp2_with (go_at_call 41; (with_reducible refine (HN.out _ (hE.later (below_one _ _))).mono ?_); rintro e w1 ⟨rfl, hb1⟩; have c10 : w1.cell? ⟨w.heap.size, 0, none⟩ = some (.int .i64 0) := cell_later hb1 (by simp [go_sem]); have c11 : w1.cell? ⟨w.heap.size, 1, none⟩ = some (.slice none 0 0) := cell_later hb1 (by simp [go_sem]); have f10 : w1.frozen? ⟨w.heap.size, 0, none⟩ = false := frozen_after hb1 (v := .int .i64 0) (by simp [go_sem]) (by simp [go_sem]); have f11 : w1.frozen? ⟨w.heap.size, 1, none⟩ = false := frozen_after hb1 (v := .slice none 0 0) (by simp [go_sem]) (by simp [go_sem]); have s1 := hb1.size; have H1 : Hid (Below w.heap.size w w1) := Lib.hid ((below_one w _).trans (hb1.mono (by simp))); clear hb1)
  simp at s1
  generalize hW2 : w1.setCell ⟨w.heap.size, 0, none⟩ (.int .i64 cv) = w2 at *
  have a0 : w2.cell? ⟨w.heap.size, 0, none⟩ = some (.int .i64 cv) := by rw [← hW2]; exact setS c10
  have a1 : w2.cell? ⟨w.heap.size, 1, none⟩ = some (.slice none 0 0) := by rw [← hW2]; exact setO (.inr (by dsimp only; omega)) c11
  have f0 : w2.frozen? ⟨w.heap.size, 0, none⟩ = false := by rw [← hW2]; exact setF f10
  have f1 : w2.frozen? ⟨w.heap.size, 1, none⟩ = false := by rw [← hW2]; exact setF f11
  have H2 : Hid (Below w.heap.size w w2) := Lib.hid (by rw [← hW2]; exact H1.out.setCell (Nat.le_refl _) _)
  have z2 : w2.heap.size = w1.heap.size := by rw [← hW2]; simp
  clear hW2 c10 c11 f10 f11 H1
  go_loopw [3, 21] (fun s3 s21 wr => ∃ (k : Nat) (v : Value), s3 = .bool (wOk W k) ∧ k ≤ n ∧ s21 = .int .i64 (k : Int) ∧ wr.cell? ⟨w.heap.size, 0, none⟩ = some (.int .i64 cv) ∧ wr.cell? ⟨w.heap.size, 1, none⟩ = some v ∧ wr.frozen? ⟨w.heap.size, 0, none⟩ = false ∧ wr.frozen? ⟨w.heap.size, 1, none⟩ = false ∧ wr.ownsRow (w.heap.size + 1) 3 1 v k (wVs W k) ∧ Below w.heap.size w wr) (fun _ s21 _ => n - (intOf s21).toNat)
  case atStart => exact ⟨0, _, by rw [hk0], Nat.zero_le _, rfl, a0, a1, f0, f1, World.ownsRow_nil _ _ _ _, H2.out⟩
  case round =>
    obtain ⟨k, v, rfl, hk, rfl, r0, r1, g0, g1, hown, hb⟩ := hrel
    clear a0 a1 f0 f1 H2 z2 s1
    have sz := hb.size
    have HB := Lib.hid hb
    have zr : w.heap.size < wr.heap.size := World.block_lt_of_cell? _ _ r0
    have L3 := hE.later hb
    by_cases hlt : k < n
    · have x1 : wr.cell? ⟨g, 1 + k, none⟩ = some (.string (W (1 + k))) := cell_later hb (Y.out (1 + k) (by omega))
      have HT := Lib.hid (fun w h => ticks_any (W (1 + k)) w h (hs (1 + k)))
      have ht : Tb.tk (W (1 + k)).data.toList = wT W k := by rw [show 1 + k = k + 1 by omega]; rfl
      rw [ht] at HT
      have HS := Lib.hid (wVs_succ W k)
      have HK : Hid (wOk W (k + 1) = (wOk W k && (wT W k).2)) := Lib.hid rfl
      have HL := Lib.hid (wVs_len W k)
      generalize wVs W k = vs at *
      generalize wOk W k = ok at *
      generalize wT W k = tb at *
      obtain ⟨tv, tok⟩ := tb
      dsimp only at HT HS HK
      clear hb hE Y y0
      cases ok
      all_goals
        go_wp2_with fail
        refine (HT.out _ L3).mono ?_
        rintro e w5 ⟨rfl, hb5⟩
        have b0 := cell_later hb5 r0; have b1 := cell_later hb5 r1
        have e0 := frozen_after hb5 r0 g0; have e1 := frozen_after hb5 r1 g1
        have hown5 := own_later hown hb5
        have H5 : Hid (Below w.heap.size w w5) := Lib.hid (below_then HB.out hb5)
        have ag5 := Lib.hid (fun q e => (hown5.lt q e).1)
        have zz5 := hb5.size
        clear hb5 r0 r1 g0 g1 hown x1
        have bm6 : (k + 1 : Nat) ≤ maxLen := by unfold maxLen; omega
        have BM6 := Lib.hid bm6; clear bm6
        have nb6 : ∀ j u, (#[.int .i64 tv] : Array Value).toList[j]? = some u → (w5.alloc (.cells #[.int .i64 tv] 3)).cell? ((⟨w5.heap.size, 0, none⟩ : Addr).add j) = some u :=
          World.news_of_block (t := 3) (fr := (0, 0)) (by have h := heap_alloc_new w5 (.cells #[.int .i64 tv] 3); simpa using h)
        have NB6 := Lib.hid nb6; clear nb6
        go_wp2_with (at_builtin; refine wpList_append_lies _ rfl _ _ _ rfl (w.heap.size + 1) 3 j0_ _ 1 8 Tryz.underlying22 JI0.out JZ0.out JZ1.out JZ2.out rfl (by omega) v k vs rfl (hown5.alloc _) ⟨w5.heap.size, 0, none⟩ 1 1 [.int .i64 tv] rfl rfl NB6.out (by simp [Value.oneCell']) (by omega) BM6.out (by omega) (by simp; omega) (w5.heap.size + 1) (by simp) ?_; intro g6 cap6 w6 hown6 hgrow6 hat6 hlt6; have HG6 : Below (w.heap.size + 1) w5 w6 := ((Below.refl _ _).alloc (by omega) _).grown hgrow6 (by simp; omega) (fun q e => ag5.out q e); have d0 := (HG6.cell (p := ⟨w.heap.size, 0, none⟩) (by dsimp only; omega)).trans b0; have d1 := (HG6.cell (p := ⟨w.heap.size, 1, none⟩) (by dsimp only; omega)).trans b1; have h0 := (HG6.frozen (p := ⟨w.heap.size, 0, none⟩) (by dsimp only; omega)).trans e0; have h1 := (HG6.frozen (p := ⟨w.heap.size, 1, none⟩) (by dsimp only; omega)).trans e1; have H6 := Lib.hid (Below.trans H5.out (HG6.mono (by omega))); have HO6 := Lib.hid (show w6.ownsRow (w.heap.size + 1) 3 1 _ (k + 1) (wVs W (k + 1)) by rw [HS.out]; exact hown6); clear hown6 hgrow6 hat6 hlt6 HG6)
        go_roundw
        case rel => exact ⟨k + 1, _, by rw [HK.out] <;> rfl, by omega, by go_num, setO (.inr (by dsimp only; omega)) d0, setS d1, setF h0, setF h1, own_set HO6.out w.heap.size 1 _ (by omega), H6.out.setCell (Nat.le_refl _) _⟩
        case measure => simp [intOf]; omega
    · have hkn : k = n := by omega
      subst hkn
      obtain ⟨A, c, rfl, _⟩ := own_form hown
      have HO := Lib.hid hown; clear hown hb hE
      go_wp2
      exact bodyPost_ret (v := .tuple #[.agg #[.int .i64 cv, .slice A k c], .bool (wOk W k)]) (by simp [results, Tryz.results20, go_sem, World.cell?_alloc_past, *]) rfl ⟨_, rfl, own_base (own_set (own_set HO.out w.heap.size 0 _ (by omega)) w.heap.size 1 _ (by omega)) (by omega), (HB.out.setCell (Nat.le_refl _) _).setCell (Nat.le_refl _) _⟩
theorem lawWords_any (g n : Nat) (W : Nat → ByteArray) (w : World) (hE : LaidE w) (hs : ∀ j, (W j).size ≤ 1000) (hn : n ≤ 1000) (y : WsAt g (n + 1) W w) :
    Calls Tryz.prog 20 #[.slice (some ⟨g, 0, none⟩) (n + 1) (n + 1)] w fun e w' => ∃ v, e = .returned (.tuple #[.agg #[.int .i64 (wN W).1, v], .bool (wOk W n)]) ∧ w'.ownsRow w.heap.size 3 1 v n (wVs W n) ∧ Below w.heap.size w w' := by
  by_cases h0 : n = 0
  · subst h0; exact lawWords_zero g W w hE hs y
  · exact lawWords_pos g n W w hE hs hn h0 y
end Go.Proofs.YtnckfbejgkdhhaaGreatDoor
