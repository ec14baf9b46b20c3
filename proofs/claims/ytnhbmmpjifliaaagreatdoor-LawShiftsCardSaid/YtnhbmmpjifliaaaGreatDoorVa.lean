/- sums of laws, and laws less their least delay -/
import Derived.Test.YtnhbmmpjifliaaaGreatDoorV14
namespace Go.Proofs.YtnhbmmpjifliaaaGreatDoor
open Go.RowKit Go.Shelf RayM
set_option linter.unusedSimpArgs false
set_option linter.unusedVariables false
/-- the sum of two delays; the error of a sum -/
def adF (t u : Nat → Int) (i : Nat) : Int := if u i = -1 then -1 else t i + u i
def suE1 (d g : Dl) : Int := fst [d.E, g.E, unl (d.ck == g.ck) 23, unl ((d.n : Int) == (g.n : Int)) 10]
def suE (d g : Dl) : Int := if suE1 d g = 0 then chE d.t (adF d.t g.t) d.n else suE1 d g
theorem unl_beq (a b e : Int) (he : e ≠ 0) : unl (a == b) e = 0 ↔ a = b := by
  unfold unl
  by_cases h : a = b
  · subst h; simp
  · have : (a == b) = false := by simpa using h
    rw [this]; simp [h, he]
theorem suE1_zero (d g : Dl) : suE1 d g = 0 ↔ d.E = 0 ∧ g.E = 0 ∧ d.ck = g.ck ∧ d.n = g.n := by
  unfold suE1
  rw [fst_zero]
  simp only [List.mem_cons, List.not_mem_nil, or_false, forall_eq_or_imp, forall_eq, unl_beq _ _ _ (show (23 : Int) ≠ 0 by decide), unl_beq _ _ _ (show (10 : Int) ≠ 0 by decide)]
  constructor
  · rintro ⟨h1, h2, h3, h4⟩; exact ⟨h1, h2, h3, by omega⟩
  · rintro ⟨h1, h2, h3, h4⟩; exact ⟨h1, h2, h3, by omega⟩
/-- the least delay of the elements that send, and a delay less it -/
def noX (d : Dl) (j : Nat) : Int := d.t ((sdL d.t d.n).getD j 0)
def noM (d : Dl) : Nat := (sdL d.t d.n).length
def noL (d : Dl) : Int := mnL (noX d) (noM d)
def noF (d : Dl) (i : Nat) : Int := d.t i - noL d
def noE (d : Dl) : Int := if d.E = 0 then (if noM d = 0 then 12 else 0) else d.E
theorem mvs_next (l : Nat → Int) (k : Nat) : mvs l (k + 1) = mvs l k ++ [.int .i64 (l k)] := by simp [mvs, List.range_succ]
theorem noX_in (d : Dl) (j : Nat) (h : j < noM d) : ∃ i : Nat, sdF d.t d.n j = i ∧ i < d.n ∧ d.t i ≠ -1 ∧ noX d j = d.t i := by
  obtain ⟨i, e1, h1, h2, e2⟩ := sdF_get d.t d.n j h
  refine ⟨i, e1, h1, h2, ?_⟩
  show d.t _ = _
  rw [List.getD_eq_getElem?_getD, e2]; rfl
theorem noX_of (d : Dl) (i : Nat) (h : i < d.n) (ht : d.t i ≠ -1) : ∃ j, j < noM d ∧ noX d j = d.t i := by
  obtain ⟨j, hj, e⟩ := List.getElem_of_mem ((sdL_mem d.t d.n i).2 ⟨h, ht⟩)
  refine ⟨j, hj, ?_⟩
  show d.t _ = _
  rw [List.getD_eq_getElem?_getD, List.getElem?_eq_getElem hj, e]; rfl
theorem noL_bounds (d : Dl) (h : d.E = 0) (hm : noM d ≠ 0) : 0 ≤ noL d ∧ noL d ≤ 1000000 := by
  obtain ⟨_, _, tb⟩ := (Dl.E_zero d).1 h
  obtain ⟨j, hj, e⟩ := mnL_mem (noX d) (noM d) (by omega)
  obtain ⟨i, _, hi, hs, ex⟩ := noX_in d j hj
  have := tb i hi
  unfold noL
  rw [e, ex]; omega
theorem noF_bounds (d : Dl) (h : d.E = 0) (hm : noM d ≠ 0) (i : Nat) (hi : i < d.n) (ht : d.t i ≠ -1) : 0 ≤ noF d i ∧ noF d i ≤ 1000000 := by
  obtain ⟨_, _, tb⟩ := (Dl.E_zero d).1 h
  obtain ⟨l0, l1⟩ := noL_bounds d h hm
  obtain ⟨j, hj, ex⟩ := noX_of d i hi ht
  have h2 := mnL_le (noX d) (noM d) j hj
  have h3 := tb i hi
  unfold noF
  unfold noL at l0 l1 ⊢
  omega
theorem no_chE (d : Dl) (h : d.E = 0) (hm : noM d ≠ 0) : chE d.t (noF d) d.n = 0 := by
  unfold chE
  rw [if_neg]
  intro q
  obtain ⟨i, hi, ht, hb⟩ := (chB_iff _ _ _).1 q
  have := noF_bounds d h hm i hi ht
  omega
set_option maxRecDepth 100000 in
set_option maxHeartbeats 1000000 in
theorem changed_added (ck : Int) (ad : Addr) (n c : Nat) (t f : Nat → Int) (Bl : Nat) (w : World) (hn : 0 < n) (hm : n ≤ 16) (h : InAt (some ad) n t w)
    (HC : ∀ i, i < n → t i ≠ -1 → ∀ W, Below w.heap.size w W → Calls Tryz.prog 73 #[.int .i64 (i : Int), .int .i64 (t i), .pointer (some ⟨Bl, 0, none⟩)] W fun e w' => e = .returned (.int .i64 (f i)) ∧ w' = W) :
    Calls Tryz.prog 72 #[.agg #[.int .i64 ck, .slice (some ad) n c], .func (.func 73) #[] #[.pointer (some ⟨Bl, 0, none⟩)]] w fun e w' => chPost ck t f n (chE t f n) w e w' := by
  have HX := Lib.hid h; clear h
  have HCL := Lib.hid HC; clear HC
  have HK := Lib.hid (fun w h => clone_any (some ad) n c t w (by omega) (fun q => by cases q) h)
  have EB := Lib.hid (fun k i a b c d => chE_big t f n k i a b c d)
  have ES := Lib.hid (chE_small t f n)
  have CT : Hid (∀ x, x < n → cur t f n (sdL t n).length x = chT t f x) := Lib.hid (fun x hx => cur_end t f n x hx)
  have SG := Lib.hid (fun j h => sdF_get t n j h)
  have SM := Lib.hid (sdL_len t n)
  generalize chE t f n = E0 at *
  go_enter Tryz.func72, Tryz.ntmps72
  go_wp2_with fail
  refine (HK.out _ (HX.out.later (by repeat (first | exact Below.refl _ _ | refine Below.drew ?_ | refine below_drewN ?_ _ | refine Below.setCell ?_ (by first | omega | (simp; done) | (simp; omega)) _ | refine Below.alloc ?_ (by first | omega | (simp; done) | (simp; omega)) _)))).mono ?_
  rintro e w1 ⟨v1, rfl, hown1, hb1⟩
  have qw10 : w1.cell? ⟨w.heap.size, 0, none⟩ = some (.int .i64 ck) := cell_later hb1 (by simp [go_sem])
  have qw11 : w1.cell? ⟨w.heap.size, 1, none⟩ = some (.slice (some ad) n c) := cell_later hb1 (by simp [go_sem])
  have qw12 : w1.cell? ⟨w.heap.size + 1, 0, none⟩ = some (.int .i64 0) := cell_later hb1 (by simp [go_sem])
  have qw13 : w1.cell? ⟨w.heap.size + 1, 1, none⟩ = some (.slice none 0 0) := cell_later hb1 (by simp [go_sem])
  have qw1f0 : w1.frozen? ⟨w.heap.size, 1, none⟩ = false := frozen_after hb1 (v := .slice (some ad) n c) (by simp [go_sem]) (by simp [go_sem])
  have qw1f1 : w1.frozen? ⟨w.heap.size + 1, 0, none⟩ = false := frozen_after hb1 (v := .int .i64 0) (by simp [go_sem]) (by simp [go_sem])
  have qw1f2 : w1.frozen? ⟨w.heap.size + 1, 1, none⟩ = false := frozen_after hb1 (v := .slice none 0 0) (by simp [go_sem]) (by simp [go_sem])
  have zqw1_0 := World.block_lt_of_cell? _ _ qw10
  dsimp only at zqw1_0
  have zqw1_2 := World.block_lt_of_cell? _ _ qw12
  dsimp only at zqw1_2
  have zz := hb1.size
  simp at zz
  have H1 : Hid (Below w.heap.size w w1) := Lib.hid (below_after (by repeat (first | exact Below.refl _ _ | refine Below.drew ?_ | refine below_drewN ?_ _ | refine Below.setCell ?_ (by first | omega | (simp; done) | (simp; omega)) _ | refine Below.alloc ?_ (by first | omega | (simp; done) | (simp; omega)) _)) hb1 (by first | omega | (simp; done) | (simp; omega))); clear hb1
  obtain ⟨g, cg, rfl, hg0, hg1, hR⟩ := own_row hown1 hn
  simp at hg0
  clear hown1
  go_wp2_with fail
  generalize hW2 : w1.setCell ⟨w.heap.size, 1, none⟩ (.slice (some ⟨g, 0, none⟩) n cg) = w2 at *
  have R2 : RowW g n t w2 := by rw [← hW2]; exact hR.set _ _ _ (by omega)
  have a0 : w2.cell? ⟨w.heap.size, 0, none⟩ = some (.int .i64 ck) := by rw [← hW2]; exact setO (.inr (by dsimp only; omega)) qw10
  have a1 : w2.cell? ⟨w.heap.size, 1, none⟩ = some (.slice (some ⟨g, 0, none⟩) n cg) := by rw [← hW2]; exact setS qw11
  have a2 : w2.cell? ⟨w.heap.size + 1, 0, none⟩ = some (.int .i64 0) := by rw [← hW2]; exact setO (.inl (by dsimp only; omega)) qw12
  have a3 : w2.cell? ⟨w.heap.size + 1, 1, none⟩ = some (.slice none 0 0) := by rw [← hW2]; exact setO (.inl (by dsimp only; omega)) qw13
  have f2 : w2.frozen? ⟨w.heap.size + 1, 0, none⟩ = false := by rw [← hW2]; exact setF qw1f1
  have f3 : w2.frozen? ⟨w.heap.size + 1, 1, none⟩ = false := by rw [← hW2]; exact setF qw1f2
  have H2 : Hid (Below w.heap.size w w2) := Lib.hid (by rw [← hW2]; exact H1.out.setCell (Nat.le_refl _) _)
  have z2 : w2.heap.size = w1.heap.size := by rw [← hW2]; simp
  clear hW2 hR qw10 qw11 qw12 qw13 qw1f0 qw1f1 qw1f2
  refine (sending_any ck (some ⟨g, 0, none⟩) n cg t w2 (by omega) R2.at).mono ?_
  rintro e w3 ⟨v3, rfl, hown3, hb3⟩
  have R3 := R2.later hb3
  have b0 := cell_later hb3 a0; have b1 := cell_later hb3 a1; have b2 := cell_later hb3 a2; have b3 := cell_later hb3 a3
  have fb2 := frozen_after hb3 a2 f2; have fb3 := frozen_after hb3 a3 f3
  have H3 : Hid (Below w.heap.size w w3) := Lib.hid (below_then H2.out hb3)
  obtain ⟨A6, c6, rfl, hF6⟩ := own_form hown3
  have g6 : ∀ a, A6 = some a → a.block ≠ g := fun a e => by
    rcases hown3.2 with ⟨q, _⟩ | ⟨g', _, _, q, hb', _⟩
    · simp at q; rw [q.1] at e; cases e
    · simp at q; rw [q.1] at e; cases e; dsimp only; omega
  obtain ⟨_, _, e6, I6⟩ := own_ints (fun i hi => mvs_get (sdF t n) _ i hi) hown3
  simp only [Value.slice.injEq, true_and] at e6
  obtain ⟨rfl, rfl⟩ := e6
  have G6 := Lib.hid g6
  clear hF6 hown3 hb3 a0 a1 a2 a3 f2 f3 R2 g6 z2
  have sm_ := SM.out
  have sm2 : (sdL t n).length ≤ 16 := by omega
  clear sm_
  have HM : Hid ((sdL t n).length = (sdL t n).length) := Lib.hid rfl
  generalize hml : (sdL t n).length = m at I6 SG CT sm2 HM ⊢
  have HML := Lib.hid hml; clear hml
  go_wp2
  go_loopw [15] (fun s15 wr => ∃ k : Nat, k ≤ m ∧ s15 = .int .i64 (k : Int) ∧ RowW g n (cur t f n k) wr ∧ wr.cell? ⟨w.heap.size, 0, none⟩ = some (.int .i64 ck) ∧ wr.cell? ⟨w.heap.size, 1, none⟩ = some (.slice (some ⟨g, 0, none⟩) n cg) ∧ wr.cell? ⟨w.heap.size + 1, 0, none⟩ = some (.int .i64 0) ∧ wr.cell? ⟨w.heap.size + 1, 1, none⟩ = some (.slice none 0 0) ∧ wr.frozen? ⟨w.heap.size + 1, 0, none⟩ = false ∧ wr.frozen? ⟨w.heap.size + 1, 1, none⟩ = false ∧ InAt A6 m (sdF t n) wr ∧ (∀ j i, j < k → (sdL t n)[j]? = some i → f i ≤ 1000000) ∧ Below w.heap.size w wr) (fun s15 _ => m - (intOf s15).toNat)
  case atStart => exact ⟨0, Nat.zero_le _, rfl, by (have e : cur t f n 0 = t := funext (cur_zero t f n)); rw [e]; exact R3, b0, b1, b2, b3, fb2, fb3, I6, fun j i hj => absurd hj (Nat.not_lt_zero j), H3.out⟩
  case round =>
    clear R3 b0 b1 b2 b3 fb2 fb3 I6
    obtain ⟨k, hk, rfl, R3, b0, b1, b2, b3, fb2, fb3, I6, hZ, hb⟩ := hrel
    have HZ := Lib.hid hZ; clear hZ
    have HB := Lib.hid hb; clear hb
    by_cases hlt : k < m
    · obtain ⟨a6, rfl⟩ := I6.some (by omega)
      obtain ⟨i, ei, hi, ht, hs⟩ := SG.out k (by omega)
      have e0 := I6.at hlt
      rw [ei] at e0
      have ci := (R3 i hi).1
      have fi := (R3 i hi).2
      rw [cur_at t f n k i hs] at ci
      have j0 : (0 : Int) ≤ (k : Int) := Int.natCast_nonneg _
      have j1 : (k : Int) < (m : Int) := by omega
      have j8 : (k : Int) < 1000 := by omega
      have i0 : (0 : Int) ≤ (i : Int) := Int.natCast_nonneg _
      have i1 : (i : Int) < (n : Int) := by omega
      have CL := Lib.hid (HCL.out i hi ht wr HB.out)
      have R3' := Lib.hid R3; have I6' := Lib.hid I6; have HS := Lib.hid hs; have HT := Lib.hid ht
      have GE := Lib.hid (G6.out a6 rfl)
      clear R3 I6 hs ht ei
      go_wp2
      refine wp_region_still_tail 12 (by kernel_rfl) (by kernel_rfl) ?_
      simp only [List.take_succ_cons, List.take_zero, List.drop_succ_cons, List.drop_zero]
      repeat still_step
      still_call (HCL.out i hi HT.out _ (Below.drew HB.out))
      repeat still_step
      refine wpStill_nil ?_
      change wpList _ _ _ _ _ wr.drew
      have Rd : RowW g n (cur t f n k) wr.drew := R3'.out
      have d0 : wr.drew.cell? ⟨w.heap.size, 0, none⟩ = some (.int .i64 ck) := b0
      have d1 : wr.drew.cell? ⟨w.heap.size, 1, none⟩ = some (.slice (some ⟨g, 0, none⟩) n cg) := b1
      have d2 : wr.drew.cell? ⟨w.heap.size + 1, 0, none⟩ = some (.int .i64 0) := b2
      have d3 : wr.drew.cell? ⟨w.heap.size + 1, 1, none⟩ = some (.slice none 0 0) := b3
      have fd2 : wr.drew.frozen? ⟨w.heap.size + 1, 0, none⟩ = false := fb2
      have fd3 : wr.drew.frozen? ⟨w.heap.size + 1, 1, none⟩ = false := fb3
      have Id : InAt (some a6) m (sdF t n) wr.drew := I6'.out
      have HD : Below w.heap.size w wr.drew := HB.out.drew
      clear HB b0 b1 b2 b3 fb2 fb3 ci fi e0 R3' I6'
      generalize wr.drew = wd at *
      have ci := (Rd i hi).1
      have fi := (Rd i hi).2
      go_upto_region 6 with fail
      generalize hW5 : wd.setCell ⟨g, i, none⟩ (.int .i64 (f i)) = w5 at *
      have R5 : RowW g n (cur t f n (k + 1)) w5 := by rw [← hW5]; exact Rd.put i _ hi (fun j _ => cur_next t f n k i j HS.out)
      have b0 : w5.cell? ⟨w.heap.size, 0, none⟩ = some (.int .i64 ck) := by rw [← hW5]; exact setO (.inl (by dsimp only; omega)) d0
      have b1 : w5.cell? ⟨w.heap.size, 1, none⟩ = some (.slice (some ⟨g, 0, none⟩) n cg) := by rw [← hW5]; exact setO (.inl (by dsimp only; omega)) d1
      have b2 : w5.cell? ⟨w.heap.size + 1, 0, none⟩ = some (.int .i64 0) := by rw [← hW5]; exact setO (.inl (by dsimp only; omega)) d2
      have b3 : w5.cell? ⟨w.heap.size + 1, 1, none⟩ = some (.slice none 0 0) := by rw [← hW5]; exact setO (.inl (by dsimp only; omega)) d3
      have fb2 : w5.frozen? ⟨w.heap.size + 1, 0, none⟩ = false := by rw [← hW5]; exact setF fd2
      have fb3 : w5.frozen? ⟨w.heap.size + 1, 1, none⟩ = false := by rw [← hW5]; exact setF fd3
      have I5 : InAt (some a6) m (sdF t n) w5 := by rw [← hW5]; exact Id.set _ _ _ (fun a e => by cases e; exact GE.out)
      have H5 : Hid (Below w.heap.size w w5) := Lib.hid (by rw [← hW5]; exact HD.setCell (by dsimp only; omega) _)
      clear hW5 Rd d0 d1 d2 d3 fd2 fd3 Id HD ci fi
      have c5 := (R5 i hi).1
      rw [cur_next t f n k i i HS.out, if_pos rfl] at c5
      have R5' := Lib.hid R5; have I5' := Lib.hid I5
      clear R5 I5
      by_cases hbig : 1000000 < f i
      · have EE := Lib.hid (EB.out k i HS.out hi HT.out hbig)
        go_wp2
        have ee : E0 = 8 := EE.out
        exact bodyPost_ret (v := .tuple #[.agg #[.int .i64 0, .slice none 0 0], .int .i64 8]) (by simp [results, Tryz.results72, go_sem, World.cell?_alloc_past, *]) rfl ⟨none, 0, 0, by rw [ee]; rfl, fun q => absurd (ee.symm.trans q) (by decide), fun _ => ⟨rfl, rfl, rfl⟩, (by (repeat (first | (with_reducible exact H5.out) | (with_reducible refine Below.setCell ?_ ?_ _) | (with_reducible refine below_alloc_top ?_ _) | (with_reducible refine Below.drew ?_))); all_goals (first | omega | (simp; done) | (simp; omega)))⟩
      · have hle : f i ≤ 1000000 := by omega
        have d6 : decide (1000000 < f i) = false := by simp; omega
        have HLE := Lib.hid hle
        clear hbig hle
        go_wp2
        go_roundw
        case rel => exact ⟨k + 1, by omega, by go_num, R5'.out, by assumption, by assumption, by assumption, by assumption, by assumption, by assumption, I5'.out, fun j i' hj q => by
            rcases Nat.lt_succ_iff_lt_or_eq.1 hj with h | h
            · exact HZ.out j i' h q
            · subst h; rw [HS.out] at q; cases q; exact HLE.out, H5.out⟩
        case measure => simp [intOf]; omega
    · have hk' : k = m := by omega
      have kk : decide ((k : Int) < (m : Int)) = false := by simp; omega
      have EE := Lib.hid (ES.out (fun j i q => HZ.out j i (by rw [hk', ← HML.out]; exact (List.getElem?_eq_some_iff.1 q).1) q))
      have R7 : RowW g n (chT t f) wr := fun x hx => by
        have := R3 x hx
        rw [hk', CT.out x hx] at this
        exact this
      have R7' := Lib.hid R7
      clear R3 R7 I6 hk'
      go_wp2
      have ee : E0 = 0 := EE.out
      exact bodyPost_ret (v := .tuple #[.agg #[.int .i64 ck, .slice (some ⟨g, 0, none⟩) n cg], .int .i64 0]) (by simp [results, Tryz.results72, go_sem, World.cell?_alloc_past, *]) rfl ⟨some ⟨g, 0, none⟩, n, cg, by rw [ee]; rfl, fun _ => ⟨rfl, by simp, fun a e => by cases e; dsimp only; omega, ((R7'.out.set _ _ _ (by omega)).set _ _ _ (by omega)).at⟩, fun q => absurd ee q, (by (repeat (first | (with_reducible exact HB.out) | (with_reducible refine Below.setCell ?_ ?_ _) | (with_reducible refine below_alloc_top ?_ _) | (with_reducible refine Below.drew ?_))); all_goals (first | omega | (simp; done) | (simp; omega)))⟩
set_option maxRecDepth 100000 in
set_option maxHeartbeats 1000000 in
theorem changed_norm (ck : Int) (ad : Addr) (n c : Nat) (t f : Nat → Int) (Bl : Nat) (w : World) (hn : 0 < n) (hm : n ≤ 16) (h : InAt (some ad) n t w)
    (HC : ∀ i, i < n → t i ≠ -1 → ∀ W, Below w.heap.size w W → Calls Tryz.prog 76 #[.int .i64 (i : Int), .int .i64 (t i), .pointer (some ⟨Bl, 0, none⟩)] W fun e w' => e = .returned (.int .i64 (f i)) ∧ w' = W) :
    Calls Tryz.prog 72 #[.agg #[.int .i64 ck, .slice (some ad) n c], .func (.func 76) #[] #[.pointer (some ⟨Bl, 0, none⟩)]] w fun e w' => chPost ck t f n (chE t f n) w e w' := by
  have HX := Lib.hid h; clear h
  have HCL := Lib.hid HC; clear HC
  have HK := Lib.hid (fun w h => clone_any (some ad) n c t w (by omega) (fun q => by cases q) h)
  have EB := Lib.hid (fun k i a b c d => chE_big t f n k i a b c d)
  have ES := Lib.hid (chE_small t f n)
  have CT : Hid (∀ x, x < n → cur t f n (sdL t n).length x = chT t f x) := Lib.hid (fun x hx => cur_end t f n x hx)
  have SG := Lib.hid (fun j h => sdF_get t n j h)
  have SM := Lib.hid (sdL_len t n)
  generalize chE t f n = E0 at *
  go_enter Tryz.func72, Tryz.ntmps72
  go_wp2_with fail
  refine (HK.out _ (HX.out.later (by repeat (first | exact Below.refl _ _ | refine Below.drew ?_ | refine below_drewN ?_ _ | refine Below.setCell ?_ (by first | omega | (simp; done) | (simp; omega)) _ | refine Below.alloc ?_ (by first | omega | (simp; done) | (simp; omega)) _)))).mono ?_
  rintro e w1 ⟨v1, rfl, hown1, hb1⟩
  have qw10 : w1.cell? ⟨w.heap.size, 0, none⟩ = some (.int .i64 ck) := cell_later hb1 (by simp [go_sem])
  have qw11 : w1.cell? ⟨w.heap.size, 1, none⟩ = some (.slice (some ad) n c) := cell_later hb1 (by simp [go_sem])
  have qw12 : w1.cell? ⟨w.heap.size + 1, 0, none⟩ = some (.int .i64 0) := cell_later hb1 (by simp [go_sem])
  have qw13 : w1.cell? ⟨w.heap.size + 1, 1, none⟩ = some (.slice none 0 0) := cell_later hb1 (by simp [go_sem])
  have qw1f0 : w1.frozen? ⟨w.heap.size, 1, none⟩ = false := frozen_after hb1 (v := .slice (some ad) n c) (by simp [go_sem]) (by simp [go_sem])
  have qw1f1 : w1.frozen? ⟨w.heap.size + 1, 0, none⟩ = false := frozen_after hb1 (v := .int .i64 0) (by simp [go_sem]) (by simp [go_sem])
  have qw1f2 : w1.frozen? ⟨w.heap.size + 1, 1, none⟩ = false := frozen_after hb1 (v := .slice none 0 0) (by simp [go_sem]) (by simp [go_sem])
  have zqw1_0 := World.block_lt_of_cell? _ _ qw10
  dsimp only at zqw1_0
  have zqw1_2 := World.block_lt_of_cell? _ _ qw12
  dsimp only at zqw1_2
  have zz := hb1.size
  simp at zz
  have H1 : Hid (Below w.heap.size w w1) := Lib.hid (below_after (by repeat (first | exact Below.refl _ _ | refine Below.drew ?_ | refine below_drewN ?_ _ | refine Below.setCell ?_ (by first | omega | (simp; done) | (simp; omega)) _ | refine Below.alloc ?_ (by first | omega | (simp; done) | (simp; omega)) _)) hb1 (by first | omega | (simp; done) | (simp; omega))); clear hb1
  obtain ⟨g, cg, rfl, hg0, hg1, hR⟩ := own_row hown1 hn
  simp at hg0
  clear hown1
  go_wp2_with fail
  generalize hW2 : w1.setCell ⟨w.heap.size, 1, none⟩ (.slice (some ⟨g, 0, none⟩) n cg) = w2 at *
  have R2 : RowW g n t w2 := by rw [← hW2]; exact hR.set _ _ _ (by omega)
  have a0 : w2.cell? ⟨w.heap.size, 0, none⟩ = some (.int .i64 ck) := by rw [← hW2]; exact setO (.inr (by dsimp only; omega)) qw10
  have a1 : w2.cell? ⟨w.heap.size, 1, none⟩ = some (.slice (some ⟨g, 0, none⟩) n cg) := by rw [← hW2]; exact setS qw11
  have a2 : w2.cell? ⟨w.heap.size + 1, 0, none⟩ = some (.int .i64 0) := by rw [← hW2]; exact setO (.inl (by dsimp only; omega)) qw12
  have a3 : w2.cell? ⟨w.heap.size + 1, 1, none⟩ = some (.slice none 0 0) := by rw [← hW2]; exact setO (.inl (by dsimp only; omega)) qw13
  have f2 : w2.frozen? ⟨w.heap.size + 1, 0, none⟩ = false := by rw [← hW2]; exact setF qw1f1
  have f3 : w2.frozen? ⟨w.heap.size + 1, 1, none⟩ = false := by rw [← hW2]; exact setF qw1f2
  have H2 : Hid (Below w.heap.size w w2) := Lib.hid (by rw [← hW2]; exact H1.out.setCell (Nat.le_refl _) _)
  have z2 : w2.heap.size = w1.heap.size := by rw [← hW2]; simp
  clear hW2 hR qw10 qw11 qw12 qw13 qw1f0 qw1f1 qw1f2
  refine (sending_any ck (some ⟨g, 0, none⟩) n cg t w2 (by omega) R2.at).mono ?_
  rintro e w3 ⟨v3, rfl, hown3, hb3⟩
  have R3 := R2.later hb3
  have b0 := cell_later hb3 a0; have b1 := cell_later hb3 a1; have b2 := cell_later hb3 a2; have b3 := cell_later hb3 a3
  have fb2 := frozen_after hb3 a2 f2; have fb3 := frozen_after hb3 a3 f3
  have H3 : Hid (Below w.heap.size w w3) := Lib.hid (below_then H2.out hb3)
  obtain ⟨A6, c6, rfl, hF6⟩ := own_form hown3
  have g6 : ∀ a, A6 = some a → a.block ≠ g := fun a e => by
    rcases hown3.2 with ⟨q, _⟩ | ⟨g', _, _, q, hb', _⟩
    · simp at q; rw [q.1] at e; cases e
    · simp at q; rw [q.1] at e; cases e; dsimp only; omega
  obtain ⟨_, _, e6, I6⟩ := own_ints (fun i hi => mvs_get (sdF t n) _ i hi) hown3
  simp only [Value.slice.injEq, true_and] at e6
  obtain ⟨rfl, rfl⟩ := e6
  have G6 := Lib.hid g6
  clear hF6 hown3 hb3 a0 a1 a2 a3 f2 f3 R2 g6 z2
  have sm_ := SM.out
  have sm2 : (sdL t n).length ≤ 16 := by omega
  clear sm_
  have HM : Hid ((sdL t n).length = (sdL t n).length) := Lib.hid rfl
  generalize hml : (sdL t n).length = m at I6 SG CT sm2 HM ⊢
  have HML := Lib.hid hml; clear hml
  go_wp2
  go_loopw [15] (fun s15 wr => ∃ k : Nat, k ≤ m ∧ s15 = .int .i64 (k : Int) ∧ RowW g n (cur t f n k) wr ∧ wr.cell? ⟨w.heap.size, 0, none⟩ = some (.int .i64 ck) ∧ wr.cell? ⟨w.heap.size, 1, none⟩ = some (.slice (some ⟨g, 0, none⟩) n cg) ∧ wr.cell? ⟨w.heap.size + 1, 0, none⟩ = some (.int .i64 0) ∧ wr.cell? ⟨w.heap.size + 1, 1, none⟩ = some (.slice none 0 0) ∧ wr.frozen? ⟨w.heap.size + 1, 0, none⟩ = false ∧ wr.frozen? ⟨w.heap.size + 1, 1, none⟩ = false ∧ InAt A6 m (sdF t n) wr ∧ (∀ j i, j < k → (sdL t n)[j]? = some i → f i ≤ 1000000) ∧ Below w.heap.size w wr) (fun s15 _ => m - (intOf s15).toNat)
  case atStart => exact ⟨0, Nat.zero_le _, rfl, by (have e : cur t f n 0 = t := funext (cur_zero t f n)); rw [e]; exact R3, b0, b1, b2, b3, fb2, fb3, I6, fun j i hj => absurd hj (Nat.not_lt_zero j), H3.out⟩
  case round =>
    clear R3 b0 b1 b2 b3 fb2 fb3 I6
    obtain ⟨k, hk, rfl, R3, b0, b1, b2, b3, fb2, fb3, I6, hZ, hb⟩ := hrel
    have HZ := Lib.hid hZ; clear hZ
    have HB := Lib.hid hb; clear hb
    by_cases hlt : k < m
    · obtain ⟨a6, rfl⟩ := I6.some (by omega)
      obtain ⟨i, ei, hi, ht, hs⟩ := SG.out k (by omega)
      have e0 := I6.at hlt
      rw [ei] at e0
      have ci := (R3 i hi).1
      have fi := (R3 i hi).2
      rw [cur_at t f n k i hs] at ci
      have j0 : (0 : Int) ≤ (k : Int) := Int.natCast_nonneg _
      have j1 : (k : Int) < (m : Int) := by omega
      have j8 : (k : Int) < 1000 := by omega
      have i0 : (0 : Int) ≤ (i : Int) := Int.natCast_nonneg _
      have i1 : (i : Int) < (n : Int) := by omega
      have CL := Lib.hid (HCL.out i hi ht wr HB.out)
      have R3' := Lib.hid R3; have I6' := Lib.hid I6; have HS := Lib.hid hs; have HT := Lib.hid ht
      have GE := Lib.hid (G6.out a6 rfl)
      clear R3 I6 hs ht ei
      go_wp2
      refine wp_region_still_tail 12 (by kernel_rfl) (by kernel_rfl) ?_
      simp only [List.take_succ_cons, List.take_zero, List.drop_succ_cons, List.drop_zero]
      repeat still_step
      still_call (HCL.out i hi HT.out _ (Below.drew HB.out))
      repeat still_step
      refine wpStill_nil ?_
      change wpList _ _ _ _ _ wr.drew
      have Rd : RowW g n (cur t f n k) wr.drew := R3'.out
      have d0 : wr.drew.cell? ⟨w.heap.size, 0, none⟩ = some (.int .i64 ck) := b0
      have d1 : wr.drew.cell? ⟨w.heap.size, 1, none⟩ = some (.slice (some ⟨g, 0, none⟩) n cg) := b1
      have d2 : wr.drew.cell? ⟨w.heap.size + 1, 0, none⟩ = some (.int .i64 0) := b2
      have d3 : wr.drew.cell? ⟨w.heap.size + 1, 1, none⟩ = some (.slice none 0 0) := b3
      have fd2 : wr.drew.frozen? ⟨w.heap.size + 1, 0, none⟩ = false := fb2
      have fd3 : wr.drew.frozen? ⟨w.heap.size + 1, 1, none⟩ = false := fb3
      have Id : InAt (some a6) m (sdF t n) wr.drew := I6'.out
      have HD : Below w.heap.size w wr.drew := HB.out.drew
      clear HB b0 b1 b2 b3 fb2 fb3 ci fi e0 R3' I6'
      generalize wr.drew = wd at *
      have ci := (Rd i hi).1
      have fi := (Rd i hi).2
      go_upto_region 6 with fail
      generalize hW5 : wd.setCell ⟨g, i, none⟩ (.int .i64 (f i)) = w5 at *
      have R5 : RowW g n (cur t f n (k + 1)) w5 := by rw [← hW5]; exact Rd.put i _ hi (fun j _ => cur_next t f n k i j HS.out)
      have b0 : w5.cell? ⟨w.heap.size, 0, none⟩ = some (.int .i64 ck) := by rw [← hW5]; exact setO (.inl (by dsimp only; omega)) d0
      have b1 : w5.cell? ⟨w.heap.size, 1, none⟩ = some (.slice (some ⟨g, 0, none⟩) n cg) := by rw [← hW5]; exact setO (.inl (by dsimp only; omega)) d1
      have b2 : w5.cell? ⟨w.heap.size + 1, 0, none⟩ = some (.int .i64 0) := by rw [← hW5]; exact setO (.inl (by dsimp only; omega)) d2
      have b3 : w5.cell? ⟨w.heap.size + 1, 1, none⟩ = some (.slice none 0 0) := by rw [← hW5]; exact setO (.inl (by dsimp only; omega)) d3
      have fb2 : w5.frozen? ⟨w.heap.size + 1, 0, none⟩ = false := by rw [← hW5]; exact setF fd2
      have fb3 : w5.frozen? ⟨w.heap.size + 1, 1, none⟩ = false := by rw [← hW5]; exact setF fd3
      have I5 : InAt (some a6) m (sdF t n) w5 := by rw [← hW5]; exact Id.set _ _ _ (fun a e => by cases e; exact GE.out)
      have H5 : Hid (Below w.heap.size w w5) := Lib.hid (by rw [← hW5]; exact HD.setCell (by dsimp only; omega) _)
      clear hW5 Rd d0 d1 d2 d3 fd2 fd3 Id HD ci fi
      have c5 := (R5 i hi).1
      rw [cur_next t f n k i i HS.out, if_pos rfl] at c5
      have R5' := Lib.hid R5; have I5' := Lib.hid I5
      clear R5 I5
      by_cases hbig : 1000000 < f i
      · have EE := Lib.hid (EB.out k i HS.out hi HT.out hbig)
        go_wp2
        have ee : E0 = 8 := EE.out
        exact bodyPost_ret (v := .tuple #[.agg #[.int .i64 0, .slice none 0 0], .int .i64 8]) (by simp [results, Tryz.results72, go_sem, World.cell?_alloc_past, *]) rfl ⟨none, 0, 0, by rw [ee]; rfl, fun q => absurd (ee.symm.trans q) (by decide), fun _ => ⟨rfl, rfl, rfl⟩, (by (repeat (first | (with_reducible exact H5.out) | (with_reducible refine Below.setCell ?_ ?_ _) | (with_reducible refine below_alloc_top ?_ _) | (with_reducible refine Below.drew ?_))); all_goals (first | omega | (simp; done) | (simp; omega)))⟩
      · have hle : f i ≤ 1000000 := by omega
        have d6 : decide (1000000 < f i) = false := by simp; omega
        have HLE := Lib.hid hle
        clear hbig hle
        go_wp2
        go_roundw
        case rel => exact ⟨k + 1, by omega, by go_num, R5'.out, by assumption, by assumption, by assumption, by assumption, by assumption, by assumption, I5'.out, fun j i' hj q => by
            rcases Nat.lt_succ_iff_lt_or_eq.1 hj with h | h
            · exact HZ.out j i' h q
            · subst h; rw [HS.out] at q; cases q; exact HLE.out, H5.out⟩
        case measure => simp [intOf]; omega
    · have hk' : k = m := by omega
      have kk : decide ((k : Int) < (m : Int)) = false := by simp; omega
      have EE := Lib.hid (ES.out (fun j i q => HZ.out j i (by rw [hk', ← HML.out]; exact (List.getElem?_eq_some_iff.1 q).1) q))
      have R7 : RowW g n (chT t f) wr := fun x hx => by
        have := R3 x hx
        rw [hk', CT.out x hx] at this
        exact this
      have R7' := Lib.hid R7
      clear R3 R7 I6 hk'
      go_wp2
      have ee : E0 = 0 := EE.out
      exact bodyPost_ret (v := .tuple #[.agg #[.int .i64 ck, .slice (some ⟨g, 0, none⟩) n cg], .int .i64 0]) (by simp [results, Tryz.results72, go_sem, World.cell?_alloc_past, *]) rfl ⟨some ⟨g, 0, none⟩, n, cg, by rw [ee]; rfl, fun _ => ⟨rfl, by simp, fun a e => by cases e; dsimp only; omega, ((R7'.out.set _ _ _ (by omega)).set _ _ _ (by omega)).at⟩, fun q => absurd ee q, (by (repeat (first | (with_reducible exact HB.out) | (with_reducible refine Below.setCell ?_ ?_ _) | (with_reducible refine below_alloc_top ?_ _) | (with_reducible refine Below.drew ?_))); all_goals (first | omega | (simp; done) | (simp; omega)))⟩
set_option maxRecDepth 100000 in
set_option maxHeartbeats 1000000 in
theorem added1_any (i n c : Nat) (ticks : Int) (Bl : Nat) (A : Option Addr) (u : Nat → Int) (w : World) (hl : w.cell? ⟨Bl, 1, none⟩ = some (.slice A n c)) (hu : InAt A n u w) (hi : i < n) (hn : n ≤ 16) (t0 : -1 ≤ ticks) (t1 : ticks ≤ 1000000) (u0 : -1 ≤ u i) (u1 : u i ≤ 1000000) :
    Calls Tryz.prog 73 #[.int .i64 (i : Int), .int .i64 ticks, .pointer (some ⟨Bl, 0, none⟩)] w fun e w' => e = .returned (.int .i64 (if u i = -1 then -1 else ticks + u i)) ∧ w' = w := by
  obtain ⟨a, rfl⟩ := hu.some (by omega)
  have e0 := hu.at hi
  have i0 : (0 : Int) ≤ (i : Int) := Int.natCast_nonneg _
  have i1 : (i : Int) < (n : Int) := by omega
  have i2 : (n : Int) ≤ 16 := by omega
  clear hu
  generalize u i = x at *
  by_cases hx : x = -1
  · subst hx
    rw [if_pos rfl]
    go_enter Tryz.func73, Tryz.ntmps73
    go_wp2
    go_ret
    exact ⟨rfl, rfl⟩
  · rw [if_neg hx]
    have n1 : (x == -1) = false := by simpa using hx
    go_enter Tryz.func73, Tryz.ntmps73
    go_wp2
    go_ret
    exact ⟨rfl, rfl⟩
set_option maxRecDepth 100000 in
set_option maxHeartbeats 1000000 in
theorem norm1_any (i ticks f : Int) (Bl : Nat) (w : World) (hl : w.cell? ⟨Bl, 0, none⟩ = some (.int .i64 f)) (t0 : -1 ≤ ticks) (t1 : ticks ≤ 1000000) (u0 : 0 ≤ f) (u1 : f ≤ 1000000) :
    Calls Tryz.prog 76 #[.int .i64 i, .int .i64 ticks, .pointer (some ⟨Bl, 0, none⟩)] w fun e w' => e = .returned (.int .i64 (ticks - f)) ∧ w' = w := by
  go_enter Tryz.func76, Tryz.ntmps76
  go_wp2
  go_ret
  exact ⟨rfl, rfl⟩
set_option maxRecDepth 100000 in
set_option maxHeartbeats 1000000 in
theorem added_any (d g : Dl) (A : Option Addr) (c : Nat) (B : Option Addr) (e : Nat) (w : World) (h : InAt A d.n d.t w) (k : InAt B g.n g.t w) (hm : d.n ≤ 9223372036854775807) (km : g.n ≤ 9223372036854775807) :
    Calls Tryz.prog 29 #[.agg #[.int .i64 d.ck, .slice A d.n c], .agg #[.int .i64 g.ck, .slice B g.n e]] w fun e w' => chPost d.ck d.t (adF d.t g.t) d.n (suE d g) w e w' := by
  have HX := Lib.hid h; clear h
  have HK := Lib.hid k; clear k
  have HL := Lib.hid (fun w h => lawErr_any d A c w h hm)
  have HR := Lib.hid (fun w h => lawErr_any g B e w h km)
  have EF : Hid (suE1 d g = fst [d.E, g.E, unl (d.ck == g.ck) 23, unl ((d.n : Int) == (g.n : Int)) 10]) := (rfl : _ = _)
  by_cases hz : suE1 d g = 0
  · obtain ⟨qd, qg, hck, hdn⟩ := (suE1_zero d g).1 hz
    obtain ⟨⟨k0, k1⟩, ⟨n0, n1⟩, tb⟩ := (Dl.E_zero d).1 qd
    obtain ⟨_, _, ub⟩ := (Dl.E_zero g).1 qg
    have e1 : suE d g = chE d.t (adF d.t g.t) d.n := by unfold suE; rw [if_pos hz]
    rw [e1]
    have HC : Hid (∀ ad Bl w, InAt (some ad) d.n d.t w → w.cell? ⟨Bl, 1, none⟩ = some (.slice B g.n e) → InAt B g.n g.t w → Calls Tryz.prog 72 #[.agg #[.int .i64 d.ck, .slice (some ad) d.n c], .func (.func 73) #[] #[.pointer (some ⟨Bl, 0, none⟩)]] w fun e w' => chPost d.ck d.t (adF d.t g.t) d.n (chE d.t (adF d.t g.t) d.n) w e w') := Lib.hid (fun ad Bl w h hl hu => changed_added d.ck ad d.n c d.t (adF d.t g.t) Bl w n0 n1 h (fun i hi _ W hb => added1_any i g.n e (d.t i) Bl B g.t W (cell_later hb hl) (hu.later hb) (by omega) (by omega) (tb i hi).1 (tb i hi).2 (ub i (by omega)).1 (ub i (by omega)).2))
    have EF2 : Hid (fst [d.E, g.E, unl (d.ck == g.ck) 23, unl ((d.n : Int) == (g.n : Int)) 10] = 0) := by show _ = _; rw [← EF.out]; exact hz
    have HN := Lib.hid n0
    have HG0 : Hid (0 < g.n) := Lib.hid (by omega)
    generalize hE : chE d.t (adF d.t g.t) d.n = E0 at *
    generalize d.E = u0 at *
    generalize g.E = u1 at *
    clear e1 hz qd qg k0 k1 n0 n1 tb ub EF hE hck hdn
    obtain ⟨ad, hA⟩ := HX.out.some HN.out
    subst hA
    go_enter Tryz.func29, Tryz.ntmps29
    go_wp2
    have hS : Below w.heap.size w (((w.alloc (.cells #[.int .i64 d.ck, .slice (some ad) d.n c] 62)).alloc (.cells #[.int .i64 g.ck, .slice B g.n e] 62)).alloc (.cells #[.int .i64 0, .slice none 0 0] 62)) := (by repeat (first | exact Below.refl _ _ | refine Below.drew ?_ | refine below_drewN ?_ _ | refine Below.setCell ?_ (by first | omega | (simp; done) | (simp; omega)) _ | refine Below.alloc ?_ (by first | omega | (simp; done) | (simp; omega)) _))
    go_region_held3 (fun w' => w'.cell? ⟨w.heap.size, 0, none⟩ = some (.int .i64 d.ck) ∧ w'.cell? ⟨w.heap.size, 1, none⟩ = some (.slice (some ad) d.n c) ∧ w'.cell? ⟨w.heap.size + 1, 0, none⟩ = some (.int .i64 g.ck) ∧ w'.cell? ⟨w.heap.size + 1, 1, none⟩ = some (.slice B g.n e) ∧ w'.cell? ⟨w.heap.size + 1 + 1, 0, none⟩ = some (.int .i64 0) ∧ w'.cell? ⟨w.heap.size + 1 + 1, 1, none⟩ = some (.slice none 0 0) ∧ w'.frozen? ⟨w.heap.size + 1 + 1, 0, none⟩ = false ∧ w'.frozen? ⟨w.heap.size + 1 + 1, 1, none⟩ = false ∧ Below w.heap.size w w') (((go_split_ands; (repeat' apply And.intro) <;> first | (with_reducible assumption) | exact cell_later (by assumption) (by assumption) | exact frozen_after (by assumption) (by assumption) (by assumption) | exact below_then (by assumption) (by assumption) | exact below_alloc_top (by assumption) _ | exact cell_alloc_later (by assumption) _ | exact frozen_alloc_later (by assumption) (by assumption) _ | exact Below.drew (by assumption) | (simp [go_sem, World.cell?_alloc_past, *]; done))))
      (first
        | (go_split_ands; go_at_call 70; (with_reducible refine (HL.out _ (HX.out.later (by with_reducible assumption))).mono ?_); rintro e w' ⟨rfl, hb⟩)
        | (go_split_ands; go_at_call 70; (with_reducible refine (HR.out _ (HK.out.later (by with_reducible assumption))).mono ?_); rintro e w' ⟨rfl, hb⟩)
        | (go_at_call 71; (with_reducible refine (unless_any _ _ _).mono ?_); rintro e w' ⟨rfl, rfl⟩)
        | (go_at_call 54; refine (firstError_any _ [u0, u1, unl (d.ck == g.ck) 23, unl ((d.n : Int) == (g.n : Int)) 10] _ (by simp) (by first | exact cells_drew _ _ (by simp) _ _ | exact cells_new _ _ (by simp) _ _)).mono ?_; rw [EF2.out]; rintro e w' ⟨rfl, rfl⟩))
    go_split_ands
    generalize hW : w'.alloc (Obj.cells #[.int .i64 u0, .int .i64 u1, .int .i64 (unl (d.ck == g.ck) 23), .int .i64 (unl ((d.n : Int) == (g.n : Int)) 10)] 24) = W1 at *
    clear hW
    have y0 : W1.cell? ⟨w.heap.size, 0, none⟩ = some (.int .i64 d.ck)   := by with_reducible assumption
    have y1 : W1.cell? ⟨w.heap.size, 1, none⟩ = some (.slice (some ad) d.n c)   := by with_reducible assumption
    have y2 : W1.cell? ⟨w.heap.size + 1, 0, none⟩ = some (.int .i64 g.ck)   := by with_reducible assumption
    have y3 : W1.cell? ⟨w.heap.size + 1, 1, none⟩ = some (.slice B g.n e)   := by with_reducible assumption
    have y4 : W1.cell? ⟨w.heap.size + 1 + 1, 0, none⟩ = some (.int .i64 0)   := by with_reducible assumption
    have y5 : W1.cell? ⟨w.heap.size + 1 + 1, 1, none⟩ = some (.slice none 0 0)   := by with_reducible assumption
    have yf0 : W1.frozen? ⟨w.heap.size + 1 + 1, 0, none⟩ = false   := by with_reducible assumption
    have yf1 : W1.frozen? ⟨w.heap.size + 1 + 1, 1, none⟩ = false   := by with_reducible assumption
    have yB0 : Below w.heap.size w W1 := by with_reducible assumption
    have yB := Lib.hid yB0; clear yB0
    have yz0 := World.block_lt_of_cell? _ _ y0
    dsimp only at yz0
    have yz1 := World.block_lt_of_cell? _ _ y2
    dsimp only at yz1
    have yz2 := World.block_lt_of_cell? _ _ y4
    dsimp only at yz2
    go_wp2_with fail
    refine (HC.out ad (w.heap.size + 1) _ (HX.out.later yB.out) (by with_reducible assumption) (HK.out.later yB.out)).mono ?_
    rintro e w5 ⟨A5, n5, c5, rfl, hg5, hn5, hb5⟩
    have s2 := cell_later hb5 y4
    have s3 := cell_later hb5 y5
    have sf2 := frozen_after hb5 y4 yf0
    have sf3 := frozen_after hb5 y5 yf1
    have zz := hb5.size
    have H5 : Hid (Below w.heap.size w w5) := Lib.hid (below_then yB.out hb5)
    clear hb5
    by_cases he : E0 = 0
    · obtain ⟨rfl, hA5, hB5, hI5⟩ := hg5 he
      have HB5 := Lib.hid hB5
      have HI5 := Lib.hid hI5
      have HA5 := Lib.hid hA5
      have HE := Lib.hid he
      rw [if_pos he, he]
      clear hg5 hn5 he hI5 hA5 hB5
      have q0 : w.heap.size < w5.heap.size := by omega
      have q1 : w.heap.size + 1 < w5.heap.size := by omega
      have q2 : w.heap.size + 1 + 1 < w5.heap.size := by omega
      go_wp2
      refine bodyPost_ret (v := .tuple #[.agg #[.int .i64 (d.ck), .slice A5 d.n c5], .int .i64 (0)]) (by simp [results, Tryz.results29, go_sem, World.cell?_alloc_past, *]) rfl ?_
      have qb : Below w.heap.size w ((w5.setCell ⟨w.heap.size + 1 + 1, 0, none⟩ (.int .i64 d.ck)).setCell ⟨w.heap.size + 1 + 1, 1, none⟩ (.slice A5 d.n c5)) := (H5.out.setCell (by dsimp only; omega) _).setCell (by dsimp only; omega) _
      rw [HE.out]
      exact (chPost.good rfl HA5.out (fun a e => by have := HB5.out a e; omega) ((HI5.out.set (w.heap.size + 1 + 1) 0 (.int .i64 d.ck) (fun a e => by have := HB5.out a e; omega)).set (w.heap.size + 1 + 1) 1 (.slice A5 d.n c5) (fun a e => by have := HB5.out a e; omega)) qb)
    · obtain ⟨rfl, rfl, rfl⟩ := hn5 he
      have n1 : (E0 != 0) = true := by simpa using he
      have HE := Lib.hid he
      rw [if_neg he]
      clear hg5 hn5 he
      have q0 : w.heap.size < w5.heap.size := by omega
      have q1 : w.heap.size + 1 < w5.heap.size := by omega
      have q2 : w.heap.size + 1 + 1 < w5.heap.size := by omega
      go_wp2
      exact bodyPost_ret (v := .tuple #[.agg #[.int .i64 (0), .slice none 0 0], .int .i64 (E0)]) (by simp [results, Tryz.results29, go_sem, World.cell?_alloc_past, *]) rfl (chPost.bad HE.out rfl (by (repeat (first | (with_reducible exact H5.out) | (with_reducible refine Below.setCell ?_ ?_ _) | (with_reducible refine below_alloc_top ?_ _) | (with_reducible refine Below.drew ?_))); all_goals (first | omega | (simp; done) | (simp; omega))))
  · have e1 : suE d g = suE1 d g := by unfold suE; rw [if_neg hz]
    rw [e1]
    have n1 : (suE1 d g != 0) = true := by simpa using hz
    have HZ := Lib.hid hz
    have EF2 : Hid (fst [d.E, g.E, unl (d.ck == g.ck) 23, unl ((d.n : Int) == (g.n : Int)) 10] = suE1 d g) := by show _ = _; rw [← EF.out]
    generalize suE1 d g = E0 at *
    generalize d.E = u0 at *
    generalize g.E = u1 at *
    clear e1 hz EF
    go_enter Tryz.func29, Tryz.ntmps29
    go_wp2
    have hS : Below w.heap.size w (((w.alloc (.cells #[.int .i64 d.ck, .slice A d.n c] 62)).alloc (.cells #[.int .i64 g.ck, .slice B g.n e] 62)).alloc (.cells #[.int .i64 0, .slice none 0 0] 62)) := (by repeat (first | exact Below.refl _ _ | refine Below.drew ?_ | refine below_drewN ?_ _ | refine Below.setCell ?_ (by first | omega | (simp; done) | (simp; omega)) _ | refine Below.alloc ?_ (by first | omega | (simp; done) | (simp; omega)) _))
    go_region_held3 (fun w' => w'.cell? ⟨w.heap.size, 0, none⟩ = some (.int .i64 d.ck) ∧ w'.cell? ⟨w.heap.size, 1, none⟩ = some (.slice A d.n c) ∧ w'.cell? ⟨w.heap.size + 1, 0, none⟩ = some (.int .i64 g.ck) ∧ w'.cell? ⟨w.heap.size + 1, 1, none⟩ = some (.slice B g.n e) ∧ w'.cell? ⟨w.heap.size + 1 + 1, 0, none⟩ = some (.int .i64 0) ∧ w'.cell? ⟨w.heap.size + 1 + 1, 1, none⟩ = some (.slice none 0 0) ∧ w'.frozen? ⟨w.heap.size + 1 + 1, 0, none⟩ = false ∧ w'.frozen? ⟨w.heap.size + 1 + 1, 1, none⟩ = false ∧ Below w.heap.size w w') (((go_split_ands; (repeat' apply And.intro) <;> first | (with_reducible assumption) | exact cell_later (by assumption) (by assumption) | exact frozen_after (by assumption) (by assumption) (by assumption) | exact below_then (by assumption) (by assumption) | exact below_alloc_top (by assumption) _ | exact cell_alloc_later (by assumption) _ | exact frozen_alloc_later (by assumption) (by assumption) _ | exact Below.drew (by assumption) | (simp [go_sem, World.cell?_alloc_past, *]; done))))
      (first
        | (go_split_ands; go_at_call 70; (with_reducible refine (HL.out _ (HX.out.later (by with_reducible assumption))).mono ?_); rintro e w' ⟨rfl, hb⟩)
        | (go_split_ands; go_at_call 70; (with_reducible refine (HR.out _ (HK.out.later (by with_reducible assumption))).mono ?_); rintro e w' ⟨rfl, hb⟩)
        | (go_at_call 71; (with_reducible refine (unless_any _ _ _).mono ?_); rintro e w' ⟨rfl, rfl⟩)
        | (go_at_call 54; refine (firstError_any _ [u0, u1, unl (d.ck == g.ck) 23, unl ((d.n : Int) == (g.n : Int)) 10] _ (by simp) (by first | exact cells_drew _ _ (by simp) _ _ | exact cells_new _ _ (by simp) _ _)).mono ?_; rw [EF2.out]; rintro e w' ⟨rfl, rfl⟩))
    go_split_ands
    go_wp2
    exact bodyPost_ret (v := .tuple #[.agg #[.int .i64 (0), .slice none 0 0], .int .i64 (E0)]) (by simp [results, Tryz.results29, go_sem, World.cell?_alloc_past, *]) rfl (chPost.bad HZ.out rfl (by (repeat (first | (with_reducible assumption) | (with_reducible refine Below.setCell ?_ ?_ _) | (with_reducible refine below_alloc_top ?_ _) | (with_reducible refine Below.drew ?_))); all_goals (first | omega | (simp; done) | (simp; omega))))
end Go.Proofs.YtnhbmmpjifliaaaGreatDoor
