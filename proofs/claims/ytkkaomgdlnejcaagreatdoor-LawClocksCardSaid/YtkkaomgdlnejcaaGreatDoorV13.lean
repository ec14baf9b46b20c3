/- laws with changed ticks -/
import Derived.Test.YtkkaomgdlnejcaaGreatDoorV12
import Derived.StillTailTactics
namespace Go.Proofs.YtkkaomgdlnejcaaGreatDoor
open Go.RowKit Go.Shelf RayM
set_option linter.unusedSimpArgs false
set_option linter.unusedVariables false

theorem InAt.set {A : Option Addr} {n : Nat} {l : Nat → Int} {w : World} (r : InAt A n l w) (B i : Nat) (u : Value) (h : ∀ a, A = .some a → a.block ≠ B) : InAt A n l (w.setCell ⟨B, i, none⟩ u) := fun hn => by
  obtain ⟨a, e, hc⟩ := r hn
  exact ⟨a, e, fun j hj => setO (.inl (by have := h a e; unfold Addr.add; split <;> exact this)) (hc j hj)⟩
/-- a row of our own: its cells, and that they may be written -/
def RowW (g n : Nat) (l : Nat → Int) (w : World) : Prop := ∀ i, i < n → w.cell? ⟨g, i, none⟩ = some (.int .i64 (l i)) ∧ w.frozen? ⟨g, i, none⟩ = false
theorem own_row {w : World} {b : Nat} {e : TypeId} {v : Value} {n : Nat} {l : Nat → Int} (h : w.ownsRow b e 1 v n (mvs l n)) (hn : 0 < n) : ∃ g c, v = .slice (some ⟨g, 0, none⟩) n c ∧ b ≤ g ∧ g < w.heap.size ∧ RowW g n l w := by
  have h2 := h.2
  rcases h2 with ⟨q, q2⟩ | ⟨g, cap, cur, rfl, hb, hgb, r⟩
  · omega
  · refine ⟨g, cap, rfl, hb, (Array.getElem?_eq_some_iff.1 hgb).1, fun i hi => ⟨?_, by simp [World.frozen?, hgb]⟩⟩
    have := h.cells (g := g) rfl i _ (mvs_get l n i hi)
    rwa [add_off] at this
theorem RowW.later {g n : Nat} {l : Nat → Int} {w w' : World} (r : RowW g n l w) (hb : Below w.heap.size w w') : RowW g n l w' := fun i hi => ⟨cell_later hb (r i hi).1, frozen_after hb (r i hi).1 (r i hi).2⟩
theorem RowW.set {g n : Nat} {l : Nat → Int} {w : World} (r : RowW g n l w) (B i : Nat) (u : Value) (h : B ≠ g) : RowW g n l (w.setCell ⟨B, i, none⟩ u) := fun j hj => ⟨setO (.inl (by dsimp only; omega)) (r j hj).1, setF (r j hj).2⟩
theorem RowW.put {g n : Nat} {l l' : Nat → Int} {w : World} (r : RowW g n l w) (i : Nat) (x : Int) (hi : i < n) (e : ∀ j, j < n → l' j = if j = i then x else l j) : RowW g n l' (w.setCell ⟨g, i, none⟩ (.int .i64 x)) := fun j hj => by
  refine ⟨?_, setF (r j hj).2⟩
  rw [e j hj]
  by_cases q : j = i
  · subst q; rw [if_pos rfl]; exact setS (r j hj).1
  · rw [if_neg q]; exact setO (.inr (by dsimp only; omega)) (r j hj).1
theorem RowW.at {g n : Nat} {l : Nat → Int} {w : World} (r : RowW g n l w) : InAt (some ⟨g, 0, none⟩) n l w := fun _ => ⟨_, rfl, fun i hi => by rw [add_off]; exact (r i hi).1⟩
/-- the ticks when k of those that send are changed -/
def cur (t f : Nat → Int) (n k x : Nat) : Int := if x ∈ (sdL t n).take k then f x else t x
theorem sdL_nodup (t : Nat → Int) (n : Nat) : (sdL t n).Nodup := List.Pairwise.filter _ (List.nodup_range : (List.range n).Nodup)
theorem cur_zero (t f : Nat → Int) (n x : Nat) : cur t f n 0 x = t x := by simp [cur]
theorem cur_at (t f : Nat → Int) (n k i : Nat) (h : (sdL t n)[k]? = some i) : cur t f n k i = t i := by
  unfold cur
  rw [if_neg]
  intro q
  obtain ⟨j, hj, e⟩ := List.mem_take_iff_getElem.1 q
  obtain ⟨h1, h2⟩ := List.getElem?_eq_some_iff.1 h
  have hj1 : j < k := by omega
  exact absurd ((List.getElem_inj (sdL_nodup t n)).1 (e.trans h2.symm)) (by omega)
theorem cur_next (t f : Nat → Int) (n k i x : Nat) (h : (sdL t n)[k]? = some i) : cur t f n (k + 1) x = if x = i then f i else cur t f n k x := by
  have e : (sdL t n).take (k + 1) = (sdL t n).take k ++ [i] := by rw [List.take_add_one, h]; rfl
  unfold cur
  rw [e]
  by_cases q : x = i
  · subst q; simp
  · simp [q]
theorem cur_end (t f : Nat → Int) (n x : Nat) (hx : x < n) : cur t f n (sdL t n).length x = if t x = -1 then t x else f x := by
  unfold cur
  rw [List.take_length]
  by_cases q : t x = -1
  · rw [if_pos q, if_neg (fun k => ((sdL_mem t n x).1 k).2 q)]
  · rw [if_neg q, if_pos ((sdL_mem t n x).2 ⟨hx, q⟩)]
/-- the error of changed ticks, and what they are -/
def chB (t f : Nat → Int) (n : Nat) : Bool := (sdL t n).any fun i => decide (1000000 < f i)
def chE (t f : Nat → Int) (n : Nat) : Int := if chB t f n then 8 else 0
def chT (t f : Nat → Int) (x : Nat) : Int := if t x = -1 then t x else f x
theorem chB_iff (t f : Nat → Int) (n : Nat) : chB t f n = true ↔ ∃ i, i < n ∧ t i ≠ -1 ∧ 1000000 < f i := by
  simp [chB, sdL_mem, and_assoc]
theorem chE_big (t f : Nat → Int) (n k i : Nat) (h : (sdL t n)[k]? = some i) (hi : i < n) (ht : t i ≠ -1) (hb : 1000000 < f i) : chE t f n = 8 := by
  unfold chE; rw [if_pos ((chB_iff t f n).2 ⟨i, hi, ht, hb⟩)]
theorem chE_small (t f : Nat → Int) (n : Nat) (h : ∀ k i : Nat, (sdL t n)[k]? = some i → f i ≤ 1000000) : chE t f n = 0 := by
  unfold chE
  rw [if_neg]
  intro q
  obtain ⟨i, hi, ht, hb⟩ := (chB_iff t f n).1 q
  obtain ⟨k, hk, e⟩ := List.getElem_of_mem ((sdL_mem t n i).2 ⟨hi, ht⟩)
  have := h k i (by rw [List.getElem?_eq_getElem hk, e])
  omega
/-- what 'changed' returns -/
def chPost (ck : Int) (t f : Nat → Int) (n : Nat) (E : Int) (w : World) (e : Ending) (w' : World) : Prop :=
  ∃ (A : Option Addr) (n' c' : Nat), e = .returned (.tuple #[.agg #[.int .i64 (if E = 0 then ck else 0), .slice A n' c'], .int .i64 E]) ∧ (E = 0 → n' = n ∧ A ≠ none ∧ (∀ a, A = some a → w.heap.size ≤ a.block) ∧ InAt A n (chT t f) w') ∧ (E ≠ 0 → A = none ∧ n' = 0 ∧ c' = 0) ∧ Below w.heap.size w w'
set_option maxRecDepth 100000 in
set_option maxHeartbeats 1000000 in
theorem changed_recast (ck : Int) (ad : Addr) (n c : Nat) (t f : Nat → Int) (Bl Bc : Nat) (w : World) (hn : 0 < n) (hm : n ≤ 16) (h : InAt (some ad) n t w)
    (HC : ∀ i, i < n → t i ≠ -1 → ∀ W, Below w.heap.size w W → Calls Tryz.prog 69 #[.int .i64 (i : Int), .int .i64 (t i), .pointer (some ⟨Bl, 0, none⟩), .pointer (some ⟨Bc, 0, none⟩)] W fun e w' => e = .returned (.int .i64 (f i)) ∧ w' = W) :
    Calls Tryz.prog 68 #[.agg #[.int .i64 ck, .slice (some ad) n c], .func (.func 69) #[] #[.pointer (some ⟨Bl, 0, none⟩), .pointer (some ⟨Bc, 0, none⟩)]] w fun e w' => chPost ck t f n (chE t f n) w e w' := by
  have HX := Lib.hid h; clear h
  have HCL := Lib.hid HC; clear HC
  have HK := Lib.hid (fun w h => clone_any (some ad) n c t w (by omega) (fun q => by cases q) h)
  have EB := Lib.hid (fun k i a b c d => chE_big t f n k i a b c d)
  have ES := Lib.hid (chE_small t f n)
  have CT : Hid (∀ x, x < n → cur t f n (sdL t n).length x = chT t f x) := Lib.hid (fun x hx => cur_end t f n x hx)
  have SG := Lib.hid (fun j h => sdF_get t n j h)
  have SM := Lib.hid (sdL_len t n)
  generalize chE t f n = E0 at *
  go_enter Tryz.func68, Tryz.ntmps68
  go_wp2_with fail
  refine (HK.out _ (HX.out.later (by repeat (first | exact Below.refl _ _ | refine Below.drew ?_ | refine below_drewN ?_ _ | refine Below.setCell ?_ (by first | omega | (simp; done) | (simp; omega)) _ | refine Below.alloc ?_ (by first | omega | (simp; done) | (simp; omega)) _)))).mono ?_
  rintro e w1 ⟨v1, rfl, hown1, hb1⟩
  have qw10 : w1.cell? ⟨w.heap.size, 0, none⟩ = some (.int .i64 ck) := cell_later hb1 (by simp [go_sem])
  have qw11 : w1.cell? ⟨w.heap.size, 1, none⟩ = some (.slice (some ad) n c) := cell_later hb1 (by simp [go_sem])
  have qw12 : w1.cell? ⟨w.heap.size + 1, 0, none⟩ = some (.int .i64 0) := cell_later hb1 (by simp [go_sem])
  have qw13 : w1.cell? ⟨w.heap.size + 1, 1, none⟩ = some (.slice none 0 0) := cell_later hb1 (by simp [go_sem])
  have qw1f0 : w1.frozen? ⟨w.heap.size, 1, none⟩ = false := frozen_after hb1 (v := .slice (some ad) n c) (by simp [go_sem]) (by simp [go_sem])
  have qw1f1 : w1.frozen? ⟨w.heap.size + 1, 0, none⟩ = false := frozen_after hb1 (v := .int .i64 0) (by simp [go_sem]) (by simp [go_sem])
  have qw1f2 : w1.frozen? ⟨w.heap.size + 1, 1, none⟩ = false := frozen_after hb1 (v := .slice none 0 0) (by simp [go_sem]) (by simp [go_sem])
  have zqw1_0 := World.block_lt_of_cell? _ _ qw10
  dsimp only at zqw1_0
  have zqw1_2 := World.block_lt_of_cell? _ _ qw12
  dsimp only at zqw1_2
  have zz := hb1.size
  simp at zz
  have H1 : Hid (Below w.heap.size w w1) := Lib.hid (below_after (by repeat (first | exact Below.refl _ _ | refine Below.drew ?_ | refine below_drewN ?_ _ | refine Below.setCell ?_ (by first | omega | (simp; done) | (simp; omega)) _ | refine Below.alloc ?_ (by first | omega | (simp; done) | (simp; omega)) _)) hb1 (by first | omega | (simp; done) | (simp; omega))); clear hb1
  obtain ⟨g, cg, rfl, hg0, hg1, hR⟩ := own_row hown1 hn
  simp at hg0
  clear hown1
  go_wp2_with fail
  generalize hW2 : w1.setCell ⟨w.heap.size, 1, none⟩ (.slice (some ⟨g, 0, none⟩) n cg) = w2 at *
  have R2 : RowW g n t w2 := by rw [← hW2]; exact hR.set _ _ _ (by omega)
  have a0 : w2.cell? ⟨w.heap.size, 0, none⟩ = some (.int .i64 ck) := by rw [← hW2]; exact setO (.inr (by dsimp only; omega)) qw10
  have a1 : w2.cell? ⟨w.heap.size, 1, none⟩ = some (.slice (some ⟨g, 0, none⟩) n cg) := by rw [← hW2]; exact setS qw11
  have a2 : w2.cell? ⟨w.heap.size + 1, 0, none⟩ = some (.int .i64 0) := by rw [← hW2]; exact setO (.inl (by dsimp only; omega)) qw12
  have a3 : w2.cell? ⟨w.heap.size + 1, 1, none⟩ = some (.slice none 0 0) := by rw [← hW2]; exact setO (.inl (by dsimp only; omega)) qw13
  have f2 : w2.frozen? ⟨w.heap.size + 1, 0, none⟩ = false := by rw [← hW2]; exact setF qw1f1
  have f3 : w2.frozen? ⟨w.heap.size + 1, 1, none⟩ = false := by rw [← hW2]; exact setF qw1f2
  have H2 : Hid (Below w.heap.size w w2) := Lib.hid (by rw [← hW2]; exact H1.out.setCell (Nat.le_refl _) _)
  have z2 : w2.heap.size = w1.heap.size := by rw [← hW2]; simp
  clear hW2 hR qw10 qw11 qw12 qw13 qw1f0 qw1f1 qw1f2
  refine (sending_any ck (some ⟨g, 0, none⟩) n cg t w2 (by omega) R2.at).mono ?_
  rintro e w3 ⟨v3, rfl, hown3, hb3⟩
  have R3 := R2.later hb3
  have b0 := cell_later hb3 a0; have b1 := cell_later hb3 a1; have b2 := cell_later hb3 a2; have b3 := cell_later hb3 a3
  have fb2 := frozen_after hb3 a2 f2; have fb3 := frozen_after hb3 a3 f3
  have H3 : Hid (Below w.heap.size w w3) := Lib.hid (below_then H2.out hb3)
  obtain ⟨A6, c6, rfl, hF6⟩ := own_form hown3
  have g6 : ∀ a, A6 = some a → a.block ≠ g := fun a e => by
    rcases hown3.2 with ⟨q, _⟩ | ⟨g', _, _, q, hb', _⟩
    · simp at q; rw [q.1] at e; cases e
    · simp at q; rw [q.1] at e; cases e; dsimp only; omega
  obtain ⟨_, _, e6, I6⟩ := own_ints (fun i hi => mvs_get (sdF t n) _ i hi) hown3
  simp only [Value.slice.injEq, true_and] at e6
  obtain ⟨rfl, rfl⟩ := e6
  have G6 := Lib.hid g6
  clear hF6 hown3 hb3 a0 a1 a2 a3 f2 f3 R2 g6 z2
  have sm_ := SM.out
  have sm2 : (sdL t n).length ≤ 16 := by omega
  clear sm_
  have HM : Hid ((sdL t n).length = (sdL t n).length) := Lib.hid rfl
  generalize hml : (sdL t n).length = m at I6 SG CT sm2 HM ⊢
  have HML := Lib.hid hml; clear hml
  go_wp2
  go_loopw [15] (fun s15 wr => ∃ k : Nat, k ≤ m ∧ s15 = .int .i64 (k : Int) ∧ RowW g n (cur t f n k) wr ∧ wr.cell? ⟨w.heap.size, 0, none⟩ = some (.int .i64 ck) ∧ wr.cell? ⟨w.heap.size, 1, none⟩ = some (.slice (some ⟨g, 0, none⟩) n cg) ∧ wr.cell? ⟨w.heap.size + 1, 0, none⟩ = some (.int .i64 0) ∧ wr.cell? ⟨w.heap.size + 1, 1, none⟩ = some (.slice none 0 0) ∧ wr.frozen? ⟨w.heap.size + 1, 0, none⟩ = false ∧ wr.frozen? ⟨w.heap.size + 1, 1, none⟩ = false ∧ InAt A6 m (sdF t n) wr ∧ (∀ j i, j < k → (sdL t n)[j]? = some i → f i ≤ 1000000) ∧ Below w.heap.size w wr) (fun s15 _ => m - (intOf s15).toNat)
  case atStart => exact ⟨0, Nat.zero_le _, rfl, by (have e : cur t f n 0 = t := funext (cur_zero t f n)); rw [e]; exact R3, b0, b1, b2, b3, fb2, fb3, I6, fun j i hj => absurd hj (Nat.not_lt_zero j), H3.out⟩
  case round =>
    clear R3 b0 b1 b2 b3 fb2 fb3 I6
    obtain ⟨k, hk, rfl, R3, b0, b1, b2, b3, fb2, fb3, I6, hZ, hb⟩ := hrel
    have HZ := Lib.hid hZ; clear hZ
    have HB := Lib.hid hb; clear hb
    by_cases hlt : k < m
    · obtain ⟨a6, rfl⟩ := I6.some (by omega)
      obtain ⟨i, ei, hi, ht, hs⟩ := SG.out k (by omega)
      have e0 := I6.at hlt
      rw [ei] at e0
      have ci := (R3 i hi).1
      have fi := (R3 i hi).2
      rw [cur_at t f n k i hs] at ci
      have j0 : (0 : Int) ≤ (k : Int) := Int.natCast_nonneg _
      have j1 : (k : Int) < (m : Int) := by omega
      have j8 : (k : Int) < 1000 := by omega
      have i0 : (0 : Int) ≤ (i : Int) := Int.natCast_nonneg _
      have i1 : (i : Int) < (n : Int) := by omega
      have CL := Lib.hid (HCL.out i hi ht wr HB.out)
      have R3' := Lib.hid R3; have I6' := Lib.hid I6; have HS := Lib.hid hs; have HT := Lib.hid ht
      have GE := Lib.hid (G6.out a6 rfl)
      clear R3 I6 hs ht ei
      go_wp2
      refine wp_region_still_tail 12 (by kernel_rfl) (by kernel_rfl) ?_
      simp only [List.take_succ_cons, List.take_zero, List.drop_succ_cons, List.drop_zero]
      repeat still_step
      still_call (HCL.out i hi HT.out _ (Below.drew HB.out))
      repeat still_step
      refine wpStill_nil ?_
      change wpList _ _ _ _ _ wr.drew
      have Rd : RowW g n (cur t f n k) wr.drew := R3'.out
      have d0 : wr.drew.cell? ⟨w.heap.size, 0, none⟩ = some (.int .i64 ck) := b0
      have d1 : wr.drew.cell? ⟨w.heap.size, 1, none⟩ = some (.slice (some ⟨g, 0, none⟩) n cg) := b1
      have d2 : wr.drew.cell? ⟨w.heap.size + 1, 0, none⟩ = some (.int .i64 0) := b2
      have d3 : wr.drew.cell? ⟨w.heap.size + 1, 1, none⟩ = some (.slice none 0 0) := b3
      have fd2 : wr.drew.frozen? ⟨w.heap.size + 1, 0, none⟩ = false := fb2
      have fd3 : wr.drew.frozen? ⟨w.heap.size + 1, 1, none⟩ = false := fb3
      have Id : InAt (some a6) m (sdF t n) wr.drew := I6'.out
      have HD : Below w.heap.size w wr.drew := HB.out.drew
      clear HB b0 b1 b2 b3 fb2 fb3 ci fi e0 R3' I6'
      generalize wr.drew = wd at *
      have ci := (Rd i hi).1
      have fi := (Rd i hi).2
      go_upto_region 6 with fail
      generalize hW5 : wd.setCell ⟨g, i, none⟩ (.int .i64 (f i)) = w5 at *
      have R5 : RowW g n (cur t f n (k + 1)) w5 := by rw [← hW5]; exact Rd.put i _ hi (fun j _ => cur_next t f n k i j HS.out)
      have b0 : w5.cell? ⟨w.heap.size, 0, none⟩ = some (.int .i64 ck) := by rw [← hW5]; exact setO (.inl (by dsimp only; omega)) d0
      have b1 : w5.cell? ⟨w.heap.size, 1, none⟩ = some (.slice (some ⟨g, 0, none⟩) n cg) := by rw [← hW5]; exact setO (.inl (by dsimp only; omega)) d1
      have b2 : w5.cell? ⟨w.heap.size + 1, 0, none⟩ = some (.int .i64 0) := by rw [← hW5]; exact setO (.inl (by dsimp only; omega)) d2
      have b3 : w5.cell? ⟨w.heap.size + 1, 1, none⟩ = some (.slice none 0 0) := by rw [← hW5]; exact setO (.inl (by dsimp only; omega)) d3
      have fb2 : w5.frozen? ⟨w.heap.size + 1, 0, none⟩ = false := by rw [← hW5]; exact setF fd2
      have fb3 : w5.frozen? ⟨w.heap.size + 1, 1, none⟩ = false := by rw [← hW5]; exact setF fd3
      have I5 : InAt (some a6) m (sdF t n) w5 := by rw [← hW5]; exact Id.set _ _ _ (fun a e => by cases e; exact GE.out)
      have H5 : Hid (Below w.heap.size w w5) := Lib.hid (by rw [← hW5]; exact HD.setCell (by dsimp only; omega) _)
      clear hW5 Rd d0 d1 d2 d3 fd2 fd3 Id HD ci fi
      have c5 := (R5 i hi).1
      rw [cur_next t f n k i i HS.out, if_pos rfl] at c5
      have R5' := Lib.hid R5; have I5' := Lib.hid I5
      clear R5 I5
      by_cases hbig : 1000000 < f i
      · have EE := Lib.hid (EB.out k i HS.out hi HT.out hbig)
        go_wp2
        have ee : E0 = 8 := EE.out
        exact bodyPost_ret (v := .tuple #[.agg #[.int .i64 0, .slice none 0 0], .int .i64 8]) (by simp [results, Tryz.results68, go_sem, World.cell?_alloc_past, *]) rfl ⟨none, 0, 0, by rw [ee]; rfl, fun q => absurd (ee.symm.trans q) (by decide), fun _ => ⟨rfl, rfl, rfl⟩, (by (repeat (first | (with_reducible exact H5.out) | (with_reducible refine Below.setCell ?_ ?_ _) | (with_reducible refine below_alloc_top ?_ _) | (with_reducible refine Below.drew ?_))); all_goals (first | omega | (simp; done) | (simp; omega)))⟩
      · have hle : f i ≤ 1000000 := by omega
        have d6 : decide (1000000 < f i) = false := by simp; omega
        have HLE := Lib.hid hle
        clear hbig hle
        go_wp2
        go_roundw
        case rel => exact ⟨k + 1, by omega, by go_num, R5'.out, by assumption, by assumption, by assumption, by assumption, by assumption, by assumption, I5'.out, fun j i' hj q => by
            rcases Nat.lt_succ_iff_lt_or_eq.1 hj with h | h
            · exact HZ.out j i' h q
            · subst h; rw [HS.out] at q; cases q; exact HLE.out, H5.out⟩
        case measure => simp [intOf]; omega
    · have hk' : k = m := by omega
      have kk : decide ((k : Int) < (m : Int)) = false := by simp; omega
      have EE := Lib.hid (ES.out (fun j i q => HZ.out j i (by rw [hk', ← HML.out]; exact (List.getElem?_eq_some_iff.1 q).1) q))
      have R7 : RowW g n (chT t f) wr := fun x hx => by
        have := R3 x hx
        rw [hk', CT.out x hx] at this
        exact this
      have R7' := Lib.hid R7
      clear R3 R7 I6 hk'
      go_wp2
      have ee : E0 = 0 := EE.out
      exact bodyPost_ret (v := .tuple #[.agg #[.int .i64 ck, .slice (some ⟨g, 0, none⟩) n cg], .int .i64 0]) (by simp [results, Tryz.results68, go_sem, World.cell?_alloc_past, *]) rfl ⟨some ⟨g, 0, none⟩, n, cg, by rw [ee]; rfl, fun _ => ⟨rfl, by simp, fun a e => by cases e; dsimp only; omega, ((R7'.out.set _ _ _ (by omega)).set _ _ _ (by omega)).at⟩, fun q => absurd ee q, (by (repeat (first | (with_reducible exact HB.out) | (with_reducible refine Below.setCell ?_ ?_ _) | (with_reducible refine below_alloc_top ?_ _) | (with_reducible refine Below.drew ?_))); all_goals (first | omega | (simp; done) | (simp; omega)))⟩
end Go.Proofs.YtkkaomgdlnejcaaGreatDoor
