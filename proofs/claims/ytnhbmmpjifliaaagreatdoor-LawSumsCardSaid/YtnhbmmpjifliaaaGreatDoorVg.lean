/- the reference's laws -/
import Derived.Test.YtnhbmmpjifliaaaGreatDoorVe
import Derived.Test.YtnhbmmpjifliaaaGreatDoorVc
import Derived.BigQuiet
namespace Go.Proofs.YtnhbmmpjifliaaaGreatDoor
open Go.RowKit Go.Shelf RayM
set_option linter.unusedSimpArgs false
set_option linter.unusedVariables false
set_option maxRecDepth 100000 in
set_option maxHeartbeats 1000000 in
theorem rSending_any (d : Dl) (A : Option Addr) (c : Nat) (w : World) (hm : d.n ≤ 1000) (ht : ∀ i, i < d.n → -1 ≤ d.t i) (h : InAt A d.n d.t w) :
    Calls Tryz.prog 85 #[.agg #[.int .i64 d.ck, .slice A d.n c]] w fun e w' => ∃ v : Value, e = .returned v ∧ w'.ownsRow w.heap.size 3 1 v (sdL d.t d.n).length (mvs (sdF d.t d.n) (sdL d.t d.n).length) ∧ Below w.heap.size w w' := by
  rw [← sdV_mvs, ← sdV_len]
  obtain ⟨j0_, ji0, jz0, jz1, jz2⟩ := info_parts infoJ
  have JI0 := Lib.hid ji0; have JZ0 := Lib.hid jz0; have JZ1 := Lib.hid jz1; have JZ2 := Lib.hid jz2
  clear ji0 jz0 jz1 jz2
  have HX := Lib.hid h; clear h
  have TT := Lib.hid ht; clear ht
  have SY := Lib.hid (fun k h => sdV_yes d.t k h); have SN := Lib.hid (fun k h => sdV_no d.t k h)
  have SL : Hid (∀ k, (sdV d.t k).length ≤ k) := Lib.hid (fun k => by rw [sdV_len]; exact sdL_len d.t k)
  have S0 : Hid (sdV d.t 0 = []) := (rfl : sdV d.t 0 = [])
  go_enter Tryz.func85, Tryz.ntmps85
  go_wp2
  obtain ⟨w1, hw_w1⟩ : ∃ q, q = (w.alloc (.cells #[.int .i64 d.ck, .slice A d.n c] 62)) := ⟨_, rfl⟩
  rw [← hw_w1]
  have q10 : w1.cell? ⟨w.heap.size, 0, none⟩ = some (.int .i64 d.ck) := by rw [hw_w1]; simp [go_sem]
  have q11 : w1.cell? ⟨w.heap.size, 1, none⟩ = some (.slice A d.n c) := by rw [hw_w1]; simp [go_sem]
  have H1 : Hid (Below w.heap.size w w1) := Lib.hid (by rw [hw_w1]; exact (by repeat (first | exact Below.refl _ _ | refine Below.drew ?_ | refine below_drewN ?_ _ | refine Below.setCell ?_ (by first | omega | (simp; done) | (simp; omega)) _ | refine Below.alloc ?_ (by first | omega | (simp; done) | (simp; omega)) _)))
  have z1 : w1.heap.size = w.heap.size + 1 := by rw [hw_w1]; simp
  clear hw_w1
  go_loopw [3, 4] (fun s3 s4 wr => ∃ (k : Nat) (v : Value), v = s3 ∧ k ≤ d.n ∧ s4 = .int .i64 (k : Int) ∧ wr.ownsRow w1.heap.size 3 1 v (sdV d.t k).length (sdV d.t k) ∧ Below w1.heap.size w1 wr) (fun _ s4 _ => d.n - (intOf s4).toNat)
  case atStart => exact ⟨0, _, rfl, Nat.zero_le _, rfl, by rw [S0.out]; exact World.ownsRow_nil _ _ _ _, Below.refl _ _⟩
  case round =>
    obtain ⟨k, v, rfl, hk, rfl, hown, hb⟩ := hrel
    have sz := hb.size
    have HB := Lib.hid hb
    have HW : Hid (Below w.heap.size w wr) := Lib.hid (below_then H1.out hb)
    have r0 := cell_later hb q10; have r1 := cell_later hb q11
    have zr := World.block_lt_of_cell? _ _ r0
    dsimp only at zr
    have ag := Lib.hid (fun q e => (hown.lt q e).1)
    by_cases hlt : k < d.n
    · obtain ⟨ad, rfl⟩ := HX.out.some (by omega)
      have e0 := (HX.out.later HW.out).at hlt
      have j0 : (0 : Int) ≤ (k : Int) := Int.natCast_nonneg _
      have j1 : (k : Int) < (d.n : Int) := by omega
      have j8 : (k : Int) < 1000 := by omega
      have tt := TT.out k hlt
      clear hb
      by_cases hg : d.t k = -1
      · have n1 : decide ((0 : Int) ≤ d.t k) = false := by simp; omega
        have FE := Lib.hid (SN.out k hg)
        clear tt
        generalize d.t k = x at *
        clear hg
        go_wp2
        go_roundw
        case rel => exact ⟨k + 1, _, rfl, by omega, by go_num, by rw [FE.out]; exact hown, HB.out⟩
        case measure => simp [intOf]; omega
      · have n1 : decide ((0 : Int) ≤ d.t k) = true := by simp; omega
        have FE := Lib.hid (SY.out k hg)
        have fl := SL.out k
        clear tt hg
        generalize d.t k = x at *
        have bm6 : ((sdV d.t k).length + 1 : Nat) ≤ maxLen := by unfold maxLen; omega
        have BM6 := Lib.hid bm6; clear bm6
        have nb6 : ∀ j u, (#[.int .i64 (k : Int)] : Array Value).toList[j]? = some u → (wr.alloc (.cells #[.int .i64 (k : Int)] 3)).cell? ((⟨wr.heap.size, 0, none⟩ : Addr).add j) = some u :=
          World.news_of_block (t := 3) (fr := (0, 0)) (by have h := heap_alloc_new wr (.cells #[.int .i64 (k : Int)] 3); simpa using h)
        have NB6 := Lib.hid nb6; clear nb6
        go_wp2_with (at_builtin; refine wpList_append_lies _ rfl _ _ _ rfl (w1.heap.size) 3 j0_ _ 1 8 Tryz.underlying60 JI0.out JZ0.out JZ1.out JZ2.out rfl (by omega) v ((sdV d.t k).length) (sdV d.t k) rfl (hown.alloc _) ⟨wr.heap.size, 0, none⟩ 1 1 [.int .i64 (k : Int)] rfl rfl NB6.out (by simp [Value.oneCell']) (by omega) BM6.out (by omega) (by simp; omega) (wr.heap.size + 1) (by simp) ?_; intro g6 cap6 w6 hown6 hgrow6 hat6 hlt6)
        have HO6 := Lib.hid hown6; clear hown6
        have HG6 := Lib.hid hgrow6; clear hgrow6 hat6 hlt6
        go_roundw
        case rel => exact ⟨k + 1, _, rfl, by omega, by go_num, by rw [FE.out, List.length_append]; exact HO6.out, (HB.out.alloc (by omega) _).grown HG6.out (by simp; omega) (fun q e => ag.out q e)⟩
        case measure => simp [intOf]; omega
    · have hk' : k = d.n := by omega
      have kk : decide ((k : Int) < (d.n : Int)) = false := by simp; omega
      subst hk'
      go_wp2
      go_ret
      exact ⟨_, rfl, own_base hown H1.out.size, HW.out⟩
/-- what the reference makes of ticks: a law, or nothing -/
def rlE (l : Nat → Int) (n : Nat) : Int := if (∀ i, i < n → l i ≤ 1000000) then 0 else 8
theorem rlE_yes (l : Nat → Int) (n : Nat) (h : ∀ i, i < n → l i ≤ 1000000) : rlE l n = 0 := if_pos h
def rlPost (ck : Int) (A : Option Addr) (n c : Nat) (E : Int) (w : World) (e : Ending) (w' : World) : Prop :=
  ∃ (A' : Option Addr) (n' c' : Nat), e = .returned (.tuple #[.agg #[.int .i64 (if E = 0 then ck else 0), .slice A' n' c'], .int .i64 E]) ∧ (E = 0 → A' = A ∧ n' = n ∧ c' = c) ∧ (E ≠ 0 → A' = none ∧ n' = 0 ∧ c' = 0) ∧ Below w.heap.size w w'
theorem rlPost.good {ck : Int} {A : Option Addr} {n c : Nat} {E : Int} {w : World} {e : Ending} {w' : World} (h : E = 0) (he : e = .returned (.tuple #[.agg #[.int .i64 ck, .slice A n c], .int .i64 0])) (hb : Below w.heap.size w w') : rlPost ck A n c E w e w' := by
  subst h; exact ⟨A, n, c, by rw [if_pos rfl]; exact he, fun _ => ⟨rfl, rfl, rfl⟩, fun q => absurd rfl q, hb⟩
theorem rlPost.bad {ck : Int} {A : Option Addr} {n c : Nat} {E : Int} {w : World} {e : Ending} {w' : World} (h : E = 8) (he : e = .returned (.tuple #[.agg #[.int .i64 0, .slice none 0 0], .int .i64 8])) (hb : Below w.heap.size w w') : rlPost ck A n c E w e w' := by
  subst h; exact ⟨none, 0, 0, by rw [if_neg (by decide)]; exact he, fun q => absurd q (by decide), fun _ => ⟨rfl, rfl, rfl⟩, hb⟩
theorem rlE_no (l : Nat → Int) (n i : Nat) (hi : i < n) (h : 1000000 < l i) : rlE l n = 8 := if_neg (fun q => by have := q i hi; omega)
set_option maxRecDepth 100000 in
set_option maxHeartbeats 1000000 in
theorem rLawOf_any (ck : Int) (A : Option Addr) (n c : Nat) (l : Nat → Int) (w : World) (hm : n ≤ 1000) (h : InAt A n l w) :
    Calls Tryz.prog 86 #[.int .i64 ck, .slice A n c] w fun e w' => rlPost ck A n c (rlE l n) w e w' := by
  have HX := Lib.hid h; clear h
  have RY := Lib.hid (rlE_yes l n); have RN := Lib.hid (fun i a b => rlE_no l n i a b)
  generalize rlE l n = E at *
  go_enter Tryz.func86, Tryz.ntmps86
  go_wp2
  obtain ⟨w1, hw_w1⟩ : ∃ q, q = (w.alloc (.cells #[.int .i64 0, .slice none 0 0] 62)) := ⟨_, rfl⟩
  rw [← hw_w1]
  have q10 : w1.cell? ⟨w.heap.size, 0, none⟩ = some (.int .i64 0) := by rw [hw_w1]; simp [go_sem]
  have q11 : w1.cell? ⟨w.heap.size, 1, none⟩ = some (.slice none 0 0) := by rw [hw_w1]; simp [go_sem]
  have qf10 : w1.frozen? ⟨w.heap.size, 0, none⟩ = false := by rw [hw_w1]; simp [go_sem]
  have qf11 : w1.frozen? ⟨w.heap.size, 1, none⟩ = false := by rw [hw_w1]; simp [go_sem]
  have H1 : Hid (Below w.heap.size w w1) := Lib.hid (by rw [hw_w1]; exact (by repeat (first | exact Below.refl _ _ | refine Below.drew ?_ | refine below_drewN ?_ _ | refine Below.setCell ?_ (by first | omega | (simp; done) | (simp; omega)) _ | refine Below.alloc ?_ (by first | omega | (simp; done) | (simp; omega)) _)))
  have z1 : w1.heap.size = w.heap.size + 1 := by rw [hw_w1]; simp
  clear hw_w1
  go_loopw [6] (fun s6 wr => ∃ k : Nat, k ≤ n ∧ s6 = .int .i64 (k : Int) ∧ (∀ i, i < k → l i ≤ 1000000) ∧ Below w1.heap.size w1 wr) (fun s6 _ => n - (intOf s6).toNat)
  case atStart => exact ⟨0, Nat.zero_le _, rfl, fun i hi => absurd hi (Nat.not_lt_zero i), Below.refl _ _⟩
  case round =>
    obtain ⟨k, hk, rfl, hq, hb⟩ := hrel
    have HQ := Lib.hid hq; clear hq
    have HB := Lib.hid hb
    have HW : Hid (Below w.heap.size w wr) := Lib.hid (below_then H1.out hb)
    have r0 := cell_later hb q10; have r1 := cell_later hb q11
    have f0 := frozen_after hb q10 qf10; have f1 := frozen_after hb q11 qf11
    have zr := World.block_lt_of_cell? _ _ r0
    dsimp only at zr
    by_cases hlt : k < n
    · obtain ⟨ad, rfl⟩ := HX.out.some (by omega)
      have e0 := (HX.out.later HW.out).at hlt
      have j0 : (0 : Int) ≤ (k : Int) := Int.natCast_nonneg _
      have j1 : (k : Int) < (n : Int) := by omega
      have j8 : (k : Int) < 1000 := by omega
      clear hb
      by_cases hg : 1000000 < l k
      · have n1 : decide ((1000000 : Int) < l k) = true := by simpa using hg
        have E8 := Lib.hid (RN.out k hlt hg)
        generalize l k = x at *
        clear hg
        go_wp2
        exact bodyPost_ret (v := .tuple #[.agg #[.int .i64 0, .slice none 0 0], .int .i64 8]) (by simp [results, Tryz.results86, go_sem, World.cell?_alloc_past, *]) rfl (rlPost.bad E8.out rfl (by (repeat (first | (with_reducible exact HW.out) | (with_reducible refine Below.setCell ?_ ?_ _) | (with_reducible refine below_alloc_top ?_ _) | (with_reducible refine Below.drew ?_))); all_goals (first | omega | (simp; done) | (simp; omega))))
      · have n1 : decide ((1000000 : Int) < l k) = false := by simp; omega
        have HG := Lib.hid (show l k ≤ 1000000 by omega)
        obtain ⟨x, hx⟩ : ∃ x, x = l k := ⟨_, rfl⟩
        rw [← hx] at e0 n1
        clear hg hx
        go_wp2
        go_roundw
        case rel => exact ⟨k + 1, by omega, by go_num, fun i hi => by
            rcases Nat.lt_succ_iff_lt_or_eq.1 hi with h | h
            · exact HQ.out i h
            · subst h; exact HG.out, HB.out⟩
        case measure => simp [intOf]; omega
    · have hk' : k = n := by omega
      have kk : decide ((k : Int) < (n : Int)) = false := by simp; omega
      subst hk'
      have E0 := Lib.hid (RY.out HQ.out)
      clear hb
      go_wp2
      exact bodyPost_ret (v := .tuple #[.agg #[.int .i64 ck, .slice A k c], .int .i64 0]) (by simp [results, Tryz.results86, go_sem, World.cell?_alloc_past, *]) rfl (rlPost.good E0.out rfl (by (repeat (first | (with_reducible exact HW.out) | (with_reducible refine Below.setCell ?_ ?_ _) | (with_reducible refine below_alloc_top ?_ _) | (with_reducible refine Below.drew ?_))); all_goals (first | omega | (simp; done) | (simp; omega))))
set_option maxRecDepth 100000 in
set_option maxHeartbeats 1000000 in
theorem rNormalised_any (d : Dl) (ad : Addr) (c : Nat) (w : World) (hE : d.E = 0) (h : InAt (some ad) d.n d.t w) :
    Calls Tryz.prog 37 #[.agg #[.int .i64 d.ck, .slice (some ad) d.n c]] w fun e w' => chPost d.ck d.t (noF d) d.n (noE d) w e w' := by
  obtain ⟨j0_, ji0, jz0, jz1, jz2⟩ := info_parts infoJ
  have JI0 := Lib.hid ji0; have JZ0 := Lib.hid jz0; have JZ1 := Lib.hid jz1; have JZ2 := Lib.hid jz2
  clear ji0 jz0 jz1 jz2
  have HX := Lib.hid h; clear h
  obtain ⟨_, ⟨n0, n1⟩, tb⟩ := (Dl.E_zero d).1 hE
  have HS := Lib.hid (fun w h => rSending_any d (some ad) c w (by omega) (fun i hi => (tb i hi).1) h)
  have SG := Lib.hid (fun j hj => noX_in d j hj)
  have SM : noM d ≤ 16 := by have := sdL_len d.t d.n; unfold noM; omega
  have HM : Hid ((sdL d.t d.n).length = noM d) := Lib.hid rfl
  have LO : Hid (mnL (noX d) (noM d) = noL d) := Lib.hid rfl
  have LB := Lib.hid (fun q => noL_bounds d hE q)
  have TB := Lib.hid tb; clear tb
  obtain ⟨u, hu⟩ : ∃ u, u = chT d.t (noF d) := ⟨_, rfl⟩
  have HU := Lib.hid hu
  have CH : Hid (∀ i, u i = if d.t i = -1 then -1 else d.t i - noL d) := Lib.hid (fun i => by
    rw [hu]; unfold chT noF; by_cases q : d.t i = -1
    · rw [if_pos q, if_pos q, q]
    · rw [if_neg q, if_neg q])
  clear hu
  have e1 : noE d = if noM d = 0 then 12 else 0 := by unfold noE; rw [if_pos hE]
  have EQ1 := Lib.hid e1
  generalize noE d = vE at *
  generalize noM d = m at *
  generalize noX d = X at *
  generalize noL d = lo at *
  have M0 : Hid (X 0 = mnL X 0) := Lib.hid rfl
  have MS : Hid (∀ k, mnL X (k + 1) = min (mnL X k) (X k)) := Lib.hid (fun k => rfl)
  have XS := Lib.hid (fun k => mvs_next u k)
  have X0 : Hid (mvs u 0 = []) := (rfl : mvs u 0 = [])
  have XL := Lib.hid (fun k => mvs_len u k)
  clear hE e1
  go_enter Tryz.func37, Tryz.ntmps37
  go_wp2_with fail
  refine (HS.out _ (HX.out.later (by repeat (first | exact Below.refl _ _ | refine Below.drew ?_ | refine below_drewN ?_ _ | refine Below.setCell ?_ (by first | omega | (simp; done) | (simp; omega)) _ | refine Below.alloc ?_ (by first | omega | (simp; done) | (simp; omega)) _)))).mono ?_
  rintro e w1 ⟨v2, rfl, hown2, hb1⟩
  have qw10 : w1.cell? ⟨w.heap.size, 0, none⟩ = some (.int .i64 d.ck) := cell_later hb1 (by simp [go_sem])
  have qw11 : w1.cell? ⟨w.heap.size, 1, none⟩ = some (.slice (some ad) d.n c) := cell_later hb1 (by simp [go_sem])
  have qw12 : w1.cell? ⟨w.heap.size + 1, 0, none⟩ = some (.int .i64 0) := cell_later hb1 (by simp [go_sem])
  have qw13 : w1.cell? ⟨w.heap.size + 1, 1, none⟩ = some (.slice none 0 0) := cell_later hb1 (by simp [go_sem])
  have qw1f0 : w1.frozen? ⟨w.heap.size + 1, 0, none⟩ = false := frozen_after hb1 (v := .int .i64 0) (by simp [go_sem]) (by simp [go_sem])
  have qw1f1 : w1.frozen? ⟨w.heap.size + 1, 1, none⟩ = false := frozen_after hb1 (v := .slice none 0 0) (by simp [go_sem]) (by simp [go_sem])
  have zqw1_0 := World.block_lt_of_cell? _ _ qw10
  dsimp only at zqw1_0
  have zqw1_2 := World.block_lt_of_cell? _ _ qw12
  dsimp only at zqw1_2
  have H1 : Hid (Below w.heap.size w w1) := Lib.hid (below_after (by repeat (first | exact Below.refl _ _ | refine Below.drew ?_ | refine below_drewN ?_ _ | refine Below.setCell ?_ (by first | omega | (simp; done) | (simp; omega)) _ | refine Below.alloc ?_ (by first | omega | (simp; done) | (simp; omega)) _)) hb1 (by first | omega | (simp; done) | (simp; omega))); clear hb1
  rw [HM.out] at hown2
  obtain ⟨A6, c6, rfl, hz6, I6⟩ := own_ints2 hown2
  have I6' := Lib.hid I6
  clear hown2 hz6 I6
  by_cases h0 : m = 0
  · have b0 : ((m : Int) == 0) = true := by simp; omega
    have q1 := EQ1.out
    rw [if_pos h0] at q1
    clear h0
    go_wp2
    exact bodyPost_ret (v := .tuple #[.agg #[.int .i64 (0), .slice none 0 0], .int .i64 (12)]) (by simp [results, Tryz.results37, go_sem, World.cell?_alloc_past, *]) rfl (by rw [q1]; exact chPost.bad (by decide) rfl (by (repeat (first | (with_reducible exact H1.out) | (with_reducible refine Below.setCell ?_ ?_ _) | (with_reducible refine below_alloc_top ?_ _) | (with_reducible refine Below.drew ?_))); all_goals (first | omega | (simp; done) | (simp; omega))))
  · have b0 : ((m : Int) == 0) = false := by simp; omega
    have q1 := EQ1.out
    rw [if_neg h0] at q1
    obtain ⟨l0, l1⟩ := LB.out h0
    obtain ⟨a6, rfl⟩ := I6'.out.some (by omega)
    obtain ⟨i, ei, hi, _, ex⟩ := SG.out 0 (by omega)
    have e0 := I6'.out.at (show 0 < m by omega)
    rw [ei] at e0
    have e1 := (HX.out.later H1.out).at hi
    rw [← ex] at e1
    have z0 : a6.add 0 = a6 := by unfold Addr.add; rfl
    have i0 : (0 : Int) ≤ (i : Int) := Int.natCast_nonneg _
    have i1 : (i : Int) < (d.n : Int) := by omega
    have i2 : (d.n : Int) ≤ 16 := by omega
    have m1 : (0 : Int) < (m : Int) := by omega
    have Q1 := Lib.hid q1
    have HB1 : Hid (∀ j, j < m → 0 ≤ X j ∧ X j ≤ 1000000) := Lib.hid (fun j hj => by
      obtain ⟨i, _, hi, ht, ex⟩ := SG.out j hj
      have := TB.out i hi
      rw [ex]; omega)
    clear q1 ei ex
    rw [z0] at e0
    rw [M0.out] at e1
    generalize hX0 : mnL X 0 = x0 at *
    have HX0 := Lib.hid hX0; clear hX0
    go_wp2_with fail
    go_quiet (fail)
    go_wp2_with fail
    go_loopw [5, 6] (fun s5 s6 wr => ∃ k : Nat, k ≤ m ∧ s5 = .int .i64 (mnL X k) ∧ s6 = .int .i64 (k : Int) ∧ Below w1.heap.size w1 wr) (fun _ s6 _ => m - (intOf s6).toNat)
    case atStart => exact ⟨0, Nat.zero_le _, by rw [HX0.out], rfl, below_drewN (Below.refl _ _) _⟩
    case round =>
      clear e0 e1
      obtain ⟨k, hk, rfl, rfl, hb⟩ := hrel
      have HB := Lib.hid hb
      have HW : Hid (Below w.heap.size w wr) := Lib.hid (below_then H1.out hb)
      have r0 : wr.cell? ⟨w.heap.size, 0, none⟩ = some (.int .i64 d.ck) := cell_later hb qw10
      have r1 : wr.cell? ⟨w.heap.size, 1, none⟩ = some (.slice (some ad) d.n c) := cell_later hb qw11
      have r2 : wr.cell? ⟨w.heap.size + 1, 0, none⟩ = some (.int .i64 0) := cell_later hb qw12
      have r3 : wr.cell? ⟨w.heap.size + 1, 1, none⟩ = some (.slice none 0 0) := cell_later hb qw13
      have rf0 : wr.frozen? ⟨w.heap.size + 1, 0, none⟩ = false := frozen_after hb qw12 qw1f0
      have rf1 : wr.frozen? ⟨w.heap.size + 1, 1, none⟩ = false := frozen_after hb qw13 qw1f1
      have zr0 := World.block_lt_of_cell? _ _ r0
      dsimp only at zr0
      have zr1 := World.block_lt_of_cell? _ _ r2
      dsimp only at zr1
      by_cases hlt : k < m
      · obtain ⟨i, ei, hi, _, ex⟩ := SG.out k hlt
        have e0 := (I6'.out.later hb).at hlt
        rw [ei] at e0
        have e1 := (HX.out.later HW.out).at hi
        rw [← ex] at e1
        have j0 : (0 : Int) ≤ (k : Int) := Int.natCast_nonneg _
        have j1 : (k : Int) < (m : Int) := by omega
        have j8 : (k : Int) < 1000 := by omega
        have i0 : (0 : Int) ≤ (i : Int) := Int.natCast_nonneg _
        have i1 : (i : Int) < (d.n : Int) := by omega
        have MK := Lib.hid (MS.out k)
        clear hb ei ex
        generalize mnL X k = y at *
        generalize X k = z at *
        go_wp2_with fail
        go_quiet (fail)
        go_wp2
        go_roundw
        case rel => exact ⟨k + 1, by omega, by rw [MK.out], by go_num, below_drewN HB.out _⟩
        case measure => simp [intOf]; omega
      · have hk' : k = m := by omega
        have kk : decide ((k : Int) < (m : Int)) = false := by simp; omega
        subst hk'
        have hl := LO.out
        rw [hl]
        clear hb hl
        go_wp2_with fail
        obtain ⟨wp, hwp⟩ : ∃ q, q = wr := ⟨_, rfl⟩
        subst hwp
        go_loopw [7, 8] (fun s7 s8 wr => ∃ (j : Nat) (v : Value), v = s7 ∧ j ≤ d.n ∧ s8 = .int .i64 (j : Int) ∧ wr.ownsRow wp.heap.size 3 1 v j (mvs u j) ∧ Below wp.heap.size wp wr) (fun _ s8 _ => d.n - (intOf s8).toNat)
        case atStart => exact ⟨0, _, rfl, Nat.zero_le _, rfl, by rw [X0.out]; exact World.ownsRow_nil _ _ _ _, Below.refl _ _⟩
        case round =>
          obtain ⟨j, v, rfl, hj, rfl, hown, hb⟩ := hrel
          have sz := hb.size
          have HBq := Lib.hid hb
          have HWq : Hid (Below w.heap.size w wr) := Lib.hid (below_then HW.out hb)
          have ag := Lib.hid (fun q e => (hown.lt q e).1)
          have s0 : wr.cell? ⟨w.heap.size, 0, none⟩ = some (.int .i64 d.ck) := cell_later hb r0
          have s1 : wr.cell? ⟨w.heap.size, 1, none⟩ = some (.slice (some ad) d.n c) := cell_later hb r1
          have s2 : wr.cell? ⟨w.heap.size + 1, 0, none⟩ = some (.int .i64 0) := cell_later hb r2
          have s3 : wr.cell? ⟨w.heap.size + 1, 1, none⟩ = some (.slice none 0 0) := cell_later hb r3
          have sf0 : wr.frozen? ⟨w.heap.size + 1, 0, none⟩ = false := frozen_after hb r2 rf0
          have sf1 : wr.frozen? ⟨w.heap.size + 1, 1, none⟩ = false := frozen_after hb r3 rf1
          have zs0 := World.block_lt_of_cell? _ _ s0
          dsimp only at zs0
          have zs1 := World.block_lt_of_cell? _ _ s2
          dsimp only at zs1
          by_cases hlt : j < d.n
          · have e0 := (HX.out.later HWq.out).at hlt
            have j0 : (0 : Int) ≤ (j : Int) := Int.natCast_nonneg _
            have j1 : (j : Int) < (d.n : Int) := by omega
            have j8 : (j : Int) < 1000 := by omega
            obtain ⟨t0, t1⟩ := TB.out j hlt
            have CJ := Lib.hid (CH.out j)
            clear hb
            generalize d.t j = x at *
            by_cases hg : x = -1
            · subst hg
              have UJ : Hid (u j = -1) := Lib.hid (by rw [CJ.out, if_pos rfl])
              have bm6 : (j + 1 : Nat) ≤ maxLen := by unfold maxLen; omega
              have BM6 := Lib.hid bm6; clear bm6
              have nb6 : ∀ j u, (#[.int .i64 (-1)] : Array Value).toList[j]? = some u → (wr.alloc (.cells #[.int .i64 (-1)] 3)).cell? ((⟨wr.heap.size, 0, none⟩ : Addr).add j) = some u :=
                World.news_of_block (t := 3) (fr := (0, 0)) (by have h := heap_alloc_new wr (.cells #[.int .i64 (-1)] 3); simpa using h)
              have NB6 := Lib.hid nb6; clear nb6
              go_wp2_with (at_builtin; refine wpList_append_lies _ rfl _ _ _ rfl (wp.heap.size) 3 j0_ _ 1 8 Tryz.underlying60 JI0.out JZ0.out JZ1.out JZ2.out rfl (by omega) v (j) (mvs u j) rfl (hown.alloc _) ⟨wr.heap.size, 0, none⟩ 1 1 [.int .i64 (-1)] rfl rfl NB6.out (by simp [Value.oneCell']) (by omega) BM6.out (by omega) (by simp; omega) (wr.heap.size + 1) (by simp) ?_; intro g6 cap6 w6 hown6 hgrow6 hat6 hlt6)
              have HO6 := Lib.hid hown6; clear hown6
              have HG6 := Lib.hid hgrow6; clear hgrow6 hat6 hlt6
              go_roundw
              case rel => exact ⟨j + 1, _, rfl, by omega, by go_num, by rw [XS.out, UJ.out]; exact HO6.out, (HBq.out.alloc (by omega) _).grown HG6.out (by simp; omega) (fun q e => ag.out q e)⟩
              case measure => simp [intOf]; omega
            · have UJ : Hid (u j = x - lo) := Lib.hid (by rw [CJ.out, if_neg hg])
              have n1 : decide (x < 0) = false := by simp; omega
              have x0 : 0 ≤ x := by omega
              clear hg
              have bm6 : (j + 1 : Nat) ≤ maxLen := by unfold maxLen; omega
              have BM6 := Lib.hid bm6; clear bm6
              have nb6 : ∀ j u, (#[.int .i64 (x - lo)] : Array Value).toList[j]? = some u → (wr.alloc (.cells #[.int .i64 (x - lo)] 3)).cell? ((⟨wr.heap.size, 0, none⟩ : Addr).add j) = some u :=
                World.news_of_block (t := 3) (fr := (0, 0)) (by have h := heap_alloc_new wr (.cells #[.int .i64 (x - lo)] 3); simpa using h)
              have NB6 := Lib.hid nb6; clear nb6
              go_wp2_with (at_builtin; refine wpList_append_lies _ rfl _ _ _ rfl (wp.heap.size) 3 j0_ _ 1 8 Tryz.underlying60 JI0.out JZ0.out JZ1.out JZ2.out rfl (by omega) v (j) (mvs u j) rfl (hown.alloc _) ⟨wr.heap.size, 0, none⟩ 1 1 [.int .i64 (x - lo)] rfl rfl NB6.out (by simp [Value.oneCell']) (by omega) BM6.out (by omega) (by simp; omega) (wr.heap.size + 1) (by simp) ?_; intro g6 cap6 w6 hown6 hgrow6 hat6 hlt6)
              have HO6 := Lib.hid hown6; clear hown6
              have HG6 := Lib.hid hgrow6; clear hgrow6 hat6 hlt6
              go_roundw
              case rel => exact ⟨j + 1, _, rfl, by omega, by go_num, by rw [XS.out, UJ.out]; exact HO6.out, (HBq.out.alloc (by omega) _).grown HG6.out (by simp; omega) (fun q e => ag.out q e)⟩
              case measure => simp [intOf]; omega
          · have hj' : j = d.n := by omega
            have kj : decide ((j : Int) < (d.n : Int)) = false := by simp; omega
            subst hj'
            obtain ⟨g, cg, rfl, hg0, hg1, hR⟩ := own_row hown n0
            have HR := Lib.hid hR
            clear hown hb hR
            go_wp2
            refine bodyPost_ret (v := .tuple #[.agg #[.int .i64 (d.ck), .slice (some ⟨g, 0, none⟩) d.n cg], .int .i64 (0)]) (by simp [results, Tryz.results37, go_sem, World.cell?_alloc_past, *]) rfl ?_
            rw [Q1.out]
            have qb : Below w.heap.size w ((wr.setCell ⟨w.heap.size + 1, 0, none⟩ (.int .i64 d.ck)).setCell ⟨w.heap.size + 1, 1, none⟩ (.slice (some ⟨g, 0, none⟩) d.n cg)) := (HWq.out.setCell (by dsimp only; omega) _).setCell (by dsimp only; omega) _
            have qr := (((HR.out.set (w.heap.size + 1) 0 (.int .i64 d.ck) (by omega)).set (w.heap.size + 1) 1 (.slice (some ⟨g, 0, none⟩) d.n cg) (by omega)).at)
            rw [HU.out] at qr
            exact chPost.good rfl (by simp) (fun a e => by cases e; dsimp only; omega) qr qb
end Go.Proofs.YtnhbmmpjifliaaaGreatDoor
