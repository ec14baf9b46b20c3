/- LawArrives: the contracts and the walk -/
import Derived.Test.YtnhbmmpjifliaaaGreatDoorVo
import Derived.Test.YtnhbmmpjifliaaaGreatDoorV12
import Derived.Test.YtnhbmmpjifliaaaGreatDoorVc
import Derived.Test.YtnhbmmpjifliaaaGreatDoorU2
namespace Go.Proofs.YtnhbmmpjifliaaaGreatDoor
open Go.RowKit Go.Shelf RayM
set_option linter.unusedSimpArgs false
set_option linter.unusedVariables false

theorem cut2_ {A B : Prop} (h : A) (f : A → B) : B := f h
/-- what an opaque call leaves: what lay lies -/
def BelA (w w' : World) : Prop := Below w.heap.size w w'
theorem cellA {w w' : World} {a : Addr} {v : Value} (h : BelA w w') (hc : w.cell? a = some v) : w'.cell? a = some v := cell_later h hc
theorem frozenA {w w' : World} {a : Addr} {v : Value} (h : BelA w w') (hc : w.cell? a = some v) (hf : w.frozen? a = false) : w'.frozen? a = false := frozen_after h hc hf
theorem belowA {w0 w w' : World} (h : Below w0.heap.size w0 w) (hb : BelA w w') : Below w0.heap.size w0 w' := below_then h hb
theorem SpAt.laterA {A : Option Addr} {n : Nat} {p : Nat → Sp} {w w' : World} (hb : BelA w w') (r : SpAt A n p w) : SpAt A n p w' := r.later hb
theorem InAt.laterA {A : Option Addr} {n : Nat} {p : Nat → Int} {w w' : World} (hb : BelA w w') (r : InAt A n p w) : InAt A n p w' := r.later hb
theorem SpAt.alloc {A : Option Addr} {n : Nat} {p : Nat → Sp} {w : World} (r : SpAt A n p w) (o : Obj) : SpAt A n p (w.alloc o) := r.later ((Below.refl _ _).alloc (Nat.le_refl _) _)
theorem InAt.alloc {A : Option Addr} {n : Nat} {p : Nat → Int} {w : World} (r : InAt A n p w) (o : Obj) : InAt A n p (w.alloc o) := r.later ((Below.refl _ _).alloc (Nat.le_refl _) _)
theorem SpAt.drew {A : Option Addr} {n : Nat} {p : Nat → Sp} {w : World} (r : SpAt A n p w) : SpAt A n p w.drew := r
theorem InAt.drew {A : Option Addr} {n : Nat} {p : Nat → Int} {w : World} (r : InAt A n p w) : InAt A n p w.drew := r
theorem cell_drewA {w : World} {a : Addr} {v : Value} (h : w.cell? a = some v) : w.drew.cell? a = some v := h
theorem frozen_drewA {w : World} {a : Addr} (h : w.frozen? a = false) : w.drew.frozen? a = false := h
theorem cell_set_old {w wk : World} {a : Addr} {v u x : Value} {i : Nat} (h : w.cell? a = some v) (hk : wk.cell? a = some u) : (w.setCell ⟨wk.heap.size, i, none⟩ x).cell? a = some v := by
  have := World.block_lt_of_cell? _ _ hk
  rw [World.cell?_setCell_other w _ a x (fun e => by rw [← e] at this; exact Nat.lt_irrefl _ this)]; exact h
theorem below_set_old {w0 w wk : World} {x : Value} {i : Nat} (h : Below w0.heap.size w0 w) (hk : Below w0.heap.size w0 wk) : Below w0.heap.size w0 (w.setCell ⟨wk.heap.size, i, none⟩ x) := Below.setCell h hk.size _
set_option maxRecDepth 100000 in
set_option maxHeartbeats 1000000 in
theorem ranges_same (A A' : Option Addr) (n c c' : Nat) (l h : Nat → Int) (w : World) (hn : n ≤ 1000)
    (h1 : 0 < n → ∃ g, A = some ⟨g, 0, none⟩ ∧ ∀ i, i < n → w.cell? ⟨g, i * 2, none⟩ = some (.int .i64 (l i)) ∧ w.cell? ⟨g, i * 2 + 1, none⟩ = some (.int .i64 (h i)))
    (h2 : 0 < n → ∃ g, A' = some ⟨g, 0, none⟩ ∧ ∀ i, i < n → w.cell? ⟨g, i * 2, none⟩ = some (.int .i64 (l i)) ∧ w.cell? ⟨g, i * 2 + 1, none⟩ = some (.int .i64 (h i))) :
    Calls Tryz.prog 48 #[.slice A n c, .slice A' n c'] w fun e w' => e = .returned (.bool true) ∧ Below w.heap.size w w' := by
  have G1 := Lib.hid h1; have G2 := Lib.hid h2
  clear h1 h2
  go_enter Tryz.func48, Tryz.ntmps48
  go_wp2
  go_loopw [5] (fun i wr => ∃ k : Nat, k ≤ n ∧ i = .int .i64 (k : Int) ∧ ∃ m, wr = w.drewN m) (fun i _ => n - (intOf i).toNat)
  case atStart => exact ⟨0, Nat.zero_le _, rfl, 0, rfl⟩
  case round =>
    obtain ⟨k, hk, rfl, m, rfl⟩ := hrel
    by_cases hlt : k < n
    · obtain ⟨g, rfl, hc⟩ := G1.out (by omega)
      obtain ⟨g', rfl, hc'⟩ := G2.out (by omega)
      obtain ⟨c1, c2⟩ := hc k hlt
      obtain ⟨c3, c4⟩ := hc' k hlt
      clear hc hc'
      have j0 : (0 : Int) ≤ (k : Int) := Int.natCast_nonneg _
      have j1 : (k : Int) < (n : Int) := by omega
      go_wp2_with fail
      go_quiet (fail)
      go_wp2
      go_roundw
      case rel => exact ⟨k + 1, by omega, by go_num, _, rfl⟩
      case measure => simp [intOf]; omega
    · go_wp2
      go_ret
      exact ⟨rfl, below_drewN (Below.refl _ _) _⟩
set_option maxRecDepth 100000 in
set_option maxHeartbeats 1000000 in
theorem rSending_any (d : Dl) (A : Option Addr) (c : Nat) (w : World) (hm : d.n ≤ 1000) (ht : ∀ i, i < d.n → -1 ≤ d.t i) (h : InAt A d.n d.t w) :
    Calls Tryz.prog 85 #[.agg #[.int .i64 d.ck, .slice A d.n c]] w fun e w' => ∃ v : Value, e = .returned v ∧ w'.ownsRow w.heap.size 3 1 v (sdL d.t d.n).length (mvs (sdF d.t d.n) (sdL d.t d.n).length) ∧ Below w.heap.size w w' := by
  rw [← sdV_mvs, ← sdV_len]
  obtain ⟨j0_, ji0, jz0, jz1, jz2⟩ := info_parts infoJ
  have JI0 := Lib.hid ji0; have JZ0 := Lib.hid jz0; have JZ1 := Lib.hid jz1; have JZ2 := Lib.hid jz2
  clear ji0 jz0 jz1 jz2
  have HX := Lib.hid h; clear h
  have TT := Lib.hid ht; clear ht
  have SY := Lib.hid (fun k h => sdV_yes d.t k h); have SN := Lib.hid (fun k h => sdV_no d.t k h)
  have SL : Hid (∀ k, (sdV d.t k).length ≤ k) := Lib.hid (fun k => by rw [sdV_len]; exact sdL_len d.t k)
  have S0 : Hid (sdV d.t 0 = []) := (rfl : sdV d.t 0 = [])
  go_enter Tryz.func85, Tryz.ntmps85
  go_wp2
  obtain ⟨w1, hw_w1⟩ : ∃ q, q = (w.alloc (.cells #[.int .i64 d.ck, .slice A d.n c] 62)) := ⟨_, rfl⟩
  rw [← hw_w1]
  have q10 : w1.cell? ⟨w.heap.size, 0, none⟩ = some (.int .i64 d.ck) := by rw [hw_w1]; simp [go_sem]
  have q11 : w1.cell? ⟨w.heap.size, 1, none⟩ = some (.slice A d.n c) := by rw [hw_w1]; simp [go_sem]
  have H1 : Hid (Below w.heap.size w w1) := Lib.hid (by rw [hw_w1]; exact (by repeat (first | exact Below.refl _ _ | refine Below.drew ?_ | refine below_drewN ?_ _ | refine Below.setCell ?_ (by first | omega | (simp; done) | (simp; omega)) _ | refine Below.alloc ?_ (by first | omega | (simp; done) | (simp; omega)) _)))
  have z1 : w1.heap.size = w.heap.size + 1 := by rw [hw_w1]; simp
  clear hw_w1
  go_loopw [3, 4] (fun s3 s4 wr => ∃ (k : Nat) (v : Value), v = s3 ∧ k ≤ d.n ∧ s4 = .int .i64 (k : Int) ∧ wr.ownsRow w1.heap.size 3 1 v (sdV d.t k).length (sdV d.t k) ∧ Below w1.heap.size w1 wr) (fun _ s4 _ => d.n - (intOf s4).toNat)
  case atStart => exact ⟨0, _, rfl, Nat.zero_le _, rfl, by rw [S0.out]; exact World.ownsRow_nil _ _ _ _, Below.refl _ _⟩
  case round =>
    obtain ⟨k, v, rfl, hk, rfl, hown, hb⟩ := hrel
    have sz := hb.size
    have HB := Lib.hid hb
    have HW : Hid (Below w.heap.size w wr) := Lib.hid (below_then H1.out hb)
    have r0 := cell_later hb q10; have r1 := cell_later hb q11
    have zr := World.block_lt_of_cell? _ _ r0
    dsimp only at zr
    have ag := Lib.hid (fun q e => (hown.lt q e).1)
    by_cases hlt : k < d.n
    · obtain ⟨ad, rfl⟩ := HX.out.some (by omega)
      have e0 := (HX.out.later HW.out).at hlt
      have j0 : (0 : Int) ≤ (k : Int) := Int.natCast_nonneg _
      have j1 : (k : Int) < (d.n : Int) := by omega
      have j8 : (k : Int) < 1000 := by omega
      have tt := TT.out k hlt
      clear hb
      by_cases hg : d.t k = -1
      · have n1 : decide ((0 : Int) ≤ d.t k) = false := by simp; omega
        have FE := Lib.hid (SN.out k hg)
        clear tt
        generalize d.t k = x at *
        clear hg
        go_wp2
        go_roundw
        case rel => exact ⟨k + 1, _, rfl, by omega, by go_num, by rw [FE.out]; exact hown, HB.out⟩
        case measure => simp [intOf]; omega
      · have n1 : decide ((0 : Int) ≤ d.t k) = true := by simp; omega
        have FE := Lib.hid (SY.out k hg)
        have fl := SL.out k
        clear tt hg
        generalize d.t k = x at *
        have bm6 : ((sdV d.t k).length + 1 : Nat) ≤ maxLen := by unfold maxLen; omega
        have BM6 := Lib.hid bm6; clear bm6
        have nb6 : ∀ j u, (#[.int .i64 (k : Int)] : Array Value).toList[j]? = some u → (wr.alloc (.cells #[.int .i64 (k : Int)] 3)).cell? ((⟨wr.heap.size, 0, none⟩ : Addr).add j) = some u :=
          World.news_of_block (t := 3) (fr := (0, 0)) (by have h := heap_alloc_new wr (.cells #[.int .i64 (k : Int)] 3); simpa using h)
        have NB6 := Lib.hid nb6; clear nb6
        go_wp2_with (at_builtin; refine wpList_append_lies _ rfl _ _ _ rfl (w1.heap.size) 3 j0_ _ 1 8 Tryz.underlying60 JI0.out JZ0.out JZ1.out JZ2.out rfl (by omega) v ((sdV d.t k).length) (sdV d.t k) rfl (hown.alloc _) ⟨wr.heap.size, 0, none⟩ 1 1 [.int .i64 (k : Int)] rfl rfl NB6.out (by simp [Value.oneCell']) (by omega) BM6.out (by omega) (by simp; omega) (wr.heap.size + 1) (by simp) ?_; intro g6 cap6 w6 hown6 hgrow6 hat6 hlt6)
        have HO6 := Lib.hid hown6; clear hown6
        have HG6 := Lib.hid hgrow6; clear hgrow6 hat6 hlt6
        go_roundw
        case rel => exact ⟨k + 1, _, rfl, by omega, by go_num, by rw [FE.out, List.length_append]; exact HO6.out, (HB.out.alloc (by omega) _).grown HG6.out (by simp; omega) (fun q e => ag.out q e)⟩
        case measure => simp [intOf]; omega
    · have hk' : k = d.n := by omega
      have kk : decide ((k : Int) < (d.n : Int)) = false := by simp; omega
      subst hk'
      go_wp2
      go_ret
      exact ⟨_, rfl, own_base hown H1.out.size, HW.out⟩
/-- the arrivals as pairs -/
def rgP (a : La) (d : Dl) (f : Sp) (j : Nat) : Sp := ⟨sdX a f d j, sdY a f d j⟩
theorem rgP_at (a : La) (d : Dl) (f : Sp) (j : Nat) (hj : j < a.sm d) : ∃ i : Nat, sdF d.t a.n j = i ∧ i < a.n ∧ (rgP a d f j).x = a.lo f i + d.t i * d.ck ∧ (rgP a d f j).z = a.hi f i + d.t i * d.ck := by
  obtain ⟨i, e1, hi, _, q2⟩ := sdF_get d.t a.n j hj
  have hg : (sdL d.t a.n).getD j 0 = i := by rw [List.getD_eq_getElem?_getD, q2]; rfl
  refine ⟨i, e1, hi, ?_, ?_⟩
  · show sdX a f d j = _; unfold sdX arL; rw [hg]
  · show sdY a f d j = _; unfold sdY arH; rw [hg]
set_option maxRecDepth 100000 in
set_option maxHeartbeats 4000000 in
theorem rArrivals_any (a : La) (d : Dl) (f : Sp) (A : Option Addr) (c : Nat) (B : Option Addr) (e : Nat) (w : World) (hm : a.n ≤ 16) (hf : a.fe f = 0) (k0 : 1 ≤ d.ck) (k1 : d.ck ≤ 1000000) (tb : ∀ i, i < a.n → -1 ≤ d.t i ∧ d.t i ≤ 1000000) (h : SpAt A a.n a.p w) (g : InAt B a.n d.t w) :
    Calls Tryz.prog 49 #[.agg #[.slice A a.n c, .int .i64 a.m.wd, .int .i64 a.m.mt, .int .i64 a.m.sk, .int .i64 a.m.th, .int .i64 a.ck], .agg #[.int .i64 d.ck, .slice B a.n e], .agg #[.int .i64 f.x, .int .i64 f.z]] w fun e_ w' => ∃ v : Value, e_ = .returned v ∧ w'.ownsRow w.heap.size 42 2 v (a.sm d) (svs (rgP a d f) (a.sm d)) ∧ Below w.heap.size w w' := by
  obtain ⟨j0_, ji0, jz0, jz1, jz2⟩ := info_parts infoRg
  have JI0 := Lib.hid ji0; have JZ0 := Lib.hid jz0; have JZ1 := Lib.hid jz1; have JZ2 := Lib.hid jz2
  clear ji0 jz0 jz1 jz2
  have HX := Lib.hid h; clear h
  have HT := Lib.hid g; clear g
  have he := (ffE_zero (a.e f) a.n).1 hf
  have ml : a.sm d ≤ 16 := by have := sdL_len d.t a.n; show (sdL d.t a.n).length ≤ 16; omega
  have HS : Hid (∀ w', InAt B a.n d.t w' → Calls Tryz.prog 85 #[.agg #[.int .i64 d.ck, .slice B a.n e]] w' fun e_ w'' => ∃ A1 c1, e_ = .returned (.slice A1 (a.sm d) c1) ∧ InAt A1 (a.sm d) (sdF d.t a.n) w'' ∧ Below w'.heap.size w' w'') := Lib.hid (fun w' h => (rSending_any ⟨d.ck, d.t, a.n⟩ B e w' (by show a.n ≤ 1000; omega) (fun i hi => (tb i hi).1) h).mono (fun e_ w'' ⟨v, e1, ho, hb⟩ => by
    obtain ⟨A1, c1, rfl, _, hs⟩ := own_ints2 ho
    exact ⟨A1, c1, e1, hs, hb⟩))
  have SG := Lib.hid (rgP_at a d f)
  have HL : Hid (∀ i, i < a.n → ∀ w, Calls Tryz.prog 98 #[.agg #[.int .i64 a.m.wd, .int .i64 a.m.mt, .int .i64 a.m.sk, .int .i64 a.m.th], .agg #[.int .i64 (a.p i).x, .int .i64 (a.p i).z], .agg #[.int .i64 f.x, .int .i64 f.z]] w fun e w' => e = .returned (.agg #[.int .i64 (a.lo f i), .int .i64 (a.hi f i)]) ∧ Below w.heap.size w w') := Lib.hid (fun i hi w => refLeastTime_any (a.y f i) (wyE_zero_ok _ (he i hi)) w)
  have RB := Lib.hid (fun i (h : i < a.n) => lh_bounds a f i (he i h))
  have TB := Lib.hid (fun i (h : i < a.n) => tick_bounds (d.t i) d.ck (tb i h).1 (tb i h).2 k0 k1)
  have TT := Lib.hid tb
  clear hf he tb
  generalize a.sm d = m at *
  generalize rgP a d f = P at *
  generalize sdF d.t a.n = W at *
  have PS := Lib.hid (svs_succ P)
  have P0 : Hid (svs P 0 = []) := (rfl : svs P 0 = [])
  go_enter Tryz.func49, Tryz.ntmps49
  go_wp2_with fail
  obtain ⟨w1, hw_w1⟩ : ∃ q, q = (((w.alloc (.cells #[.slice A a.n c, .int .i64 a.m.wd, .int .i64 a.m.mt, .int .i64 a.m.sk, .int .i64 a.m.th, .int .i64 a.ck] 59)).alloc (.cells #[.int .i64 d.ck, .slice B a.n e] 62)).alloc (.cells #[.int .i64 f.x, .int .i64 f.z] 64)) := ⟨_, rfl⟩
  rw [← hw_w1]
  have q10 : w1.cell? ⟨w.heap.size, 0, none⟩ = some (.slice A a.n c) := by rw [hw_w1]; simp [go_sem]
  have q11 : w1.cell? ⟨w.heap.size, 1, none⟩ = some (.int .i64 a.m.wd) := by rw [hw_w1]; simp [go_sem]
  have q12 : w1.cell? ⟨w.heap.size, 2, none⟩ = some (.int .i64 a.m.mt) := by rw [hw_w1]; simp [go_sem]
  have q13 : w1.cell? ⟨w.heap.size, 3, none⟩ = some (.int .i64 a.m.sk) := by rw [hw_w1]; simp [go_sem]
  have q14 : w1.cell? ⟨w.heap.size, 4, none⟩ = some (.int .i64 a.m.th) := by rw [hw_w1]; simp [go_sem]
  have q15 : w1.cell? ⟨w.heap.size, 5, none⟩ = some (.int .i64 a.ck) := by rw [hw_w1]; simp [go_sem]
  have q16 : w1.cell? ⟨w.heap.size + 1, 0, none⟩ = some (.int .i64 d.ck) := by rw [hw_w1]; simp [go_sem]
  have q17 : w1.cell? ⟨w.heap.size + 1, 1, none⟩ = some (.slice B a.n e) := by rw [hw_w1]; simp [go_sem]
  have q18 : w1.cell? ⟨w.heap.size + 1 + 1, 0, none⟩ = some (.int .i64 f.x) := by rw [hw_w1]; simp [go_sem]
  have q19 : w1.cell? ⟨w.heap.size + 1 + 1, 1, none⟩ = some (.int .i64 f.z) := by rw [hw_w1]; simp [go_sem]
  have H1 : Hid (Below w.heap.size w w1) := Lib.hid (by rw [hw_w1]; exact (by repeat (first | exact Below.refl _ _ | refine Below.drew ?_ | refine below_drewN ?_ _ | refine Below.setCell ?_ (by first | omega | (simp; done) | (simp; omega)) _ | refine Below.alloc ?_ (by first | omega | (simp; done) | (simp; omega)) _)))
  have z1 : w1.heap.size = w.heap.size + 3 := by rw [hw_w1]; simp
  clear hw_w1
  have R1_0 := Lib.hid (HX.out.later H1.out)
  have R1_1 := Lib.hid (HT.out.later H1.out)
  clear z1
  refine (HS.out _ R1_1.out).mono ?_
  rintro e_ wS ⟨A1, c1, rfl, is, hb⟩
  have k2_0 := cell_later hb q10
  have k2_1 := cell_later hb q11
  have k2_2 := cell_later hb q12
  have k2_3 := cell_later hb q13
  have k2_4 := cell_later hb q14
  have k2_5 := cell_later hb q15
  have k2_6 := cell_later hb q16
  have k2_7 := cell_later hb q17
  have k2_8 := cell_later hb q18
  have k2_9 := cell_later hb q19
  have R2_0 := Lib.hid (R1_0.out.later hb)
  have R2_1 := Lib.hid (R1_1.out.later hb)
  have B2 : Hid (Below w.heap.size w wS) := Lib.hid (below_then H1.out hb)
  clear q10 q11 q12 q13 q14 q15 q16 q17 q18 q19 R1_0 R1_1 H1
  have z2_0 := World.block_lt_of_cell? _ _ k2_0
  (try dsimp only at z2_0)
  have z2_6 := World.block_lt_of_cell? _ _ k2_6
  (try dsimp only at z2_6)
  have z2_8 := World.block_lt_of_cell? _ _ k2_8
  (try dsimp only at z2_8)
  clear hb
  have IS := Lib.hid is
  clear is
  go_wp2_with fail
  go_loopw [7, 9] (fun s7 s9 wr => ∃ (k : Nat) (v : Value), v = s7 ∧ k ≤ m ∧ s9 = .int .i64 (k : Int) ∧ wr.ownsRow wS.heap.size 42 2 v k (svs P k) ∧ Below wS.heap.size wS wr) (fun _ s9 _ => m - (intOf s9).toNat)
  case atStart => exact ⟨0, _, rfl, Nat.zero_le _, rfl, by rw [P0.out]; exact World.ownsRow_nil _ _ _ _, Below.refl _ _⟩
  case round =>
    obtain ⟨k, v, rfl, hk, rfl, hown, hb⟩ := hrel
    have HB := Lib.hid hb
    have sz := hb.size
    have k3_0 := cell_later hb k2_0
    have k3_1 := cell_later hb k2_1
    have k3_2 := cell_later hb k2_2
    have k3_3 := cell_later hb k2_3
    have k3_4 := cell_later hb k2_4
    have k3_5 := cell_later hb k2_5
    have k3_6 := cell_later hb k2_6
    have k3_7 := cell_later hb k2_7
    have k3_8 := cell_later hb k2_8
    have k3_9 := cell_later hb k2_9
    have R3_0 := Lib.hid (R2_0.out.later hb)
    have R3_1 := Lib.hid (R2_1.out.later hb)
    have R3_2 := Lib.hid (IS.out.later hb)
    have B3 : Hid (Below w.heap.size w wr) := Lib.hid (below_then B2.out hb)
    clear k2_0 k2_1 k2_2 k2_3 k2_4 k2_5 k2_6 k2_7 k2_8 k2_9 R2_0 R2_1 IS B2
    have z3_0 := World.block_lt_of_cell? _ _ k3_0
    (try dsimp only at z3_0)
    have z3_6 := World.block_lt_of_cell? _ _ k3_6
    (try dsimp only at z3_6)
    have z3_8 := World.block_lt_of_cell? _ _ k3_8
    (try dsimp only at z3_8)
    clear hb
    by_cases hlt : k < m
    · obtain ⟨i, ei, hin, ex, ez⟩ := SG.out k hlt
      obtain ⟨a1, hA1⟩ := R3_2.out.some (show 0 < m by omega)
      subst hA1
      obtain ⟨ad, hA⟩ := R3_0.out.some (show 0 < a.n by omega)
      subst hA
      obtain ⟨bd, hB⟩ := R3_1.out.some (show 0 < a.n by omega)
      subst hB
      have c2 := R3_2.out.at hlt
      rw [ei] at c2
      obtain ⟨c0, c1_⟩ := R3_0.out.at hin
      have c3 := R3_1.out.at hin
      have j0 : (0 : Int) ≤ (k : Int) := Int.natCast_nonneg _
      have j1 : (k : Int) < (m : Int) := by omega
      have j8 : (k : Int) < 1000 := by omega
      have i0 : (0 : Int) ≤ (i : Int) := Int.natCast_nonneg _
      have i1 : (i : Int) < (a.n : Int) := by omega
      have i8 : (i : Int) < 1000 := by omega
      have HLi := Lib.hid (HL.out i hin)
      have rb := RB.out i hin
      have tk := TB.out i hin
      have w1_ : IntKind.i64.wrap (d.t i * d.ck) = d.t i * d.ck := IntWalk.i64_in _ (by omega)
      have w2_ : IntKind.i64.wrap (a.lo f i + d.t i * d.ck) = (P k).x := by rw [ex]; exact IntWalk.i64_in _ (by omega)
      have w3_ : IntKind.i64.wrap (a.hi f i + d.t i * d.ck) = (P k).z := by rw [ez]; exact IntWalk.i64_in _ (by omega)
      have PK := Lib.hid (PS.out k)
      clear rb tk ex ez ei
      generalize a.lo f i = lk at *
      generalize a.hi f i = hk_ at *
      generalize (P k).x = xk at *
      generalize (P k).z = zk at *
      generalize d.t i = tk at *
      generalize (a.p i).x = px at *
      generalize (a.p i).z = pz at *
      go_upto_region 6 with fail
      have hS : Below wr.heap.size wr wr := Below.refl _ _
      go_cut [10] (fun s10 wx => ∃ T : Nat, s10 = .pointer (some ⟨T, 0, none⟩) ∧ wx.cell? ⟨T, 0, none⟩ = some (.int .i64 lk) ∧ wx.cell? ⟨T, 1, none⟩ = some (.int .i64 hk_) ∧ Below wr.heap.size wr wx)
      case first =>
        go_region_held3 (fun w' => w'.cell? ⟨w.heap.size, 0, none⟩ = some (.slice (some ad) a.n c) ∧ w'.cell? ⟨w.heap.size, 1, none⟩ = some (.int .i64 a.m.wd) ∧ w'.cell? ⟨w.heap.size, 2, none⟩ = some (.int .i64 a.m.mt) ∧ w'.cell? ⟨w.heap.size, 3, none⟩ = some (.int .i64 a.m.sk) ∧ w'.cell? ⟨w.heap.size, 4, none⟩ = some (.int .i64 a.m.th) ∧ w'.cell? ⟨w.heap.size, 5, none⟩ = some (.int .i64 a.ck) ∧ w'.cell? ⟨w.heap.size + 1, 0, none⟩ = some (.int .i64 d.ck) ∧ w'.cell? ⟨w.heap.size + 1, 1, none⟩ = some (.slice (some bd) a.n e) ∧ w'.cell? ⟨w.heap.size + 1 + 1, 0, none⟩ = some (.int .i64 f.x) ∧ w'.cell? ⟨w.heap.size + 1 + 1, 1, none⟩ = some (.int .i64 f.z) ∧ w'.cell? (ad.add (i * 2)) = some (.int .i64 px) ∧ w'.cell? ⟨(ad.add (i * 2)).block, (ad.add (i * 2)).off + 1, none⟩ = some (.int .i64 pz) ∧ w'.cell? (a1.add k) = some (.int .i64 (i : Int)) ∧ w'.cell? (bd.add i) = some (.int .i64 tk) ∧ Below wr.heap.size wr w') (((go_split_ands; (repeat' apply And.intro) <;> ((repeat (first | (with_reducible assumption) | (with_reducible exact Below.refl _ _) | (with_reducible refine cell_alloc_later ?_ _) | (with_reducible refine cell_drewA ?_) | (with_reducible refine cellA (by with_reducible assumption) ?_) | (with_reducible refine belowA ?_ (by with_reducible assumption)) | (with_reducible refine below_alloc_top ?_ _) | (with_reducible refine Below.drew ?_) | (with_reducible refine cell_set_old ?_ (by with_reducible assumption)) | (with_reducible refine below_set_old ?_ (by with_reducible assumption)) | (with_reducible refine Below.setCell ?_ (by first | omega | (simp; done) | (simp; omega)) _) | (simp [go_sem, World.cell?_alloc_past, *]; done))); done))))
          (first
            | (go_split_ands; go_at_call 98; (with_reducible refine (HLi.out _).mono ?_); rintro e w' ⟨rfl, hb⟩; have hbA : BelA _ w' := hb; obtain ⟨hc', hf'⟩ := bcell hb; have hz' := hb.size; (try simp at hz'); (first | (have tF' := Nat.lt_of_succ_le hz') | (have tF' := Nat.lt_of_lt_of_le tF' hz') | skip); clear hb))
        all_goals
          go_split_ands
          go_wp2_with fail
          go_meet
          exact ⟨_, rfl, (by first | (with_reducible assumption) | (simp [go_sem, World.cell?_alloc_past, *]; done)), (by first | (with_reducible assumption) | (simp [go_sem, World.cell?_alloc_past, *]; done)), (by first | (with_reducible assumption) | (simp [go_sem, World.cell?_alloc_past, *]; done))⟩
      case rest =>
        obtain ⟨T, rfl, t0, t1, bel⟩ := hcut
        clear hS
        obtain ⟨wT, hw_⟩ : ∃ q, q = wc := ⟨_, rfl⟩
        subst hw_
        have k4_0 := cell_later bel k3_0
        have k4_1 := cell_later bel k3_1
        have k4_2 := cell_later bel k3_2
        have k4_3 := cell_later bel k3_3
        have k4_4 := cell_later bel k3_4
        have k4_5 := cell_later bel k3_5
        have k4_6 := cell_later bel k3_6
        have k4_7 := cell_later bel k3_7
        have k4_8 := cell_later bel k3_8
        have k4_9 := cell_later bel k3_9
        have k4_10 := cell_later bel c0
        have k4_11 := cell_later bel c1_
        have k4_12 := cell_later bel c2
        have k4_13 := cell_later bel c3
        have R4_0 := Lib.hid (R3_0.out.later bel)
        have R4_1 := Lib.hid (R3_1.out.later bel)
        have R4_2 := Lib.hid (R3_2.out.later bel)
        have B4 : Hid (Below w.heap.size w wT) := Lib.hid (below_then B3.out bel)
        clear k3_0 k3_1 k3_2 k3_3 k3_4 k3_5 k3_6 k3_7 k3_8 k3_9 c0 c1_ c2 c3 R3_0 R3_1 R3_2 B3
        have z4_0 := World.block_lt_of_cell? _ _ k4_0
        (try dsimp only at z4_0)
        have z4_6 := World.block_lt_of_cell? _ _ k4_6
        (try dsimp only at z4_6)
        have z4_8 := World.block_lt_of_cell? _ _ k4_8
        (try dsimp only at z4_8)
        have z4_10 := World.block_lt_of_cell? _ _ k4_10
        (try dsimp only at z4_10)
        have z4_11 := World.block_lt_of_cell? _ _ k4_11
        (try dsimp only at z4_11)
        have z4_12 := World.block_lt_of_cell? _ _ k4_12
        (try dsimp only at z4_12)
        have z4_13 := World.block_lt_of_cell? _ _ k4_13
        (try dsimp only at z4_13)
        have hown5 := own_later hown bel
        have HB5 := Lib.hid (below_then HB.out bel)
        have sz5 := bel.size
        clear bel
        have zT := World.block_lt_of_cell? _ _ t0
        (try dsimp only at zT)
        clear hown
        go_wp2_with fail
        go_quiet (fail)
        obtain ⟨w6, hw6⟩ : ∃ q, q = wT.drewN nq := ⟨_, rfl⟩
        rw [← hw6]
        have hb6 : Below wT.heap.size wT w6 := by rw [hw6]; exact below_drewN (Below.refl _ _) _
        have hown6 := own_later hown5 hb6
        have HB6 := Lib.hid (below_then HB5.out hb6)
        have sz6 := hb6.size
        have ag := Lib.hid (fun q e => (hown6.lt q e).1)
        clear hown5 hw6
        have k5_0 := cell_later hb6 k4_0
        have k5_1 := cell_later hb6 k4_1
        have k5_2 := cell_later hb6 k4_2
        have k5_3 := cell_later hb6 k4_3
        have k5_4 := cell_later hb6 k4_4
        have k5_5 := cell_later hb6 k4_5
        have k5_6 := cell_later hb6 k4_6
        have k5_7 := cell_later hb6 k4_7
        have k5_8 := cell_later hb6 k4_8
        have k5_9 := cell_later hb6 k4_9
        have k5_10 := cell_later hb6 k4_10
        have k5_11 := cell_later hb6 k4_11
        have k5_12 := cell_later hb6 k4_12
        have k5_13 := cell_later hb6 k4_13
        have k5_14 := cell_later hb6 t0
        have k5_15 := cell_later hb6 t1
        have R5_0 := Lib.hid (R4_0.out.later hb6)
        have R5_1 := Lib.hid (R4_1.out.later hb6)
        have R5_2 := Lib.hid (R4_2.out.later hb6)
        have B5 : Hid (Below w.heap.size w w6) := Lib.hid (below_then B4.out hb6)
        clear k4_0 k4_1 k4_2 k4_3 k4_4 k4_5 k4_6 k4_7 k4_8 k4_9 k4_10 k4_11 k4_12 k4_13 t0 t1 R4_0 R4_1 R4_2 B4
        have z5_0 := World.block_lt_of_cell? _ _ k5_0
        (try dsimp only at z5_0)
        have z5_6 := World.block_lt_of_cell? _ _ k5_6
        (try dsimp only at z5_6)
        have z5_8 := World.block_lt_of_cell? _ _ k5_8
        (try dsimp only at z5_8)
        have z5_10 := World.block_lt_of_cell? _ _ k5_10
        (try dsimp only at z5_10)
        have z5_11 := World.block_lt_of_cell? _ _ k5_11
        (try dsimp only at z5_11)
        have z5_12 := World.block_lt_of_cell? _ _ k5_12
        (try dsimp only at z5_12)
        have z5_13 := World.block_lt_of_cell? _ _ k5_13
        (try dsimp only at z5_13)
        have z5_14 := World.block_lt_of_cell? _ _ k5_14
        (try dsimp only at z5_14)
        clear hb6
        have bm : (k + 1 : Nat) ≤ maxLen := by unfold maxLen; omega
        have BM := Lib.hid bm; clear bm
        have nb : ∀ j u, (#[Value.int .i64 xk, Value.int .i64 zk] : Array Value).toList[j]? = some u → (w6.alloc (.cells #[.int .i64 xk, .int .i64 zk] 42)).cell? ((⟨w6.heap.size, 0, none⟩ : Addr).add j) = some u :=
          World.news_of_block (t := 42) (fr := (0, 0)) (by have h := heap_alloc_new w6 (.cells #[.int .i64 xk, .int .i64 zk] 42); simpa using h)
        have NB := Lib.hid nb; clear nb
        go_wp2_with (at_builtin; refine wpList_append_lies _ rfl _ _ _ rfl wS.heap.size 42 j0_ _ 2 16 Tryz.underlying91 JI0.out JZ0.out JZ1.out JZ2.out rfl (by omega) v k (svs P k) rfl (hown6.alloc _) ⟨w6.heap.size, 0, none⟩ 1 1 [.int .i64 xk, .int .i64 zk] rfl rfl NB.out (by simp [Value.oneCell']) (by omega) BM.out (by omega) (by simp; omega) (w6.heap.size + 1) (by simp) ?_; intro g7 cap7 w7 hown7 hgrow7 hat7 hlt7)
        have HO7 := Lib.hid hown7; clear hown7
        have HG7 := Lib.hid hgrow7; clear hgrow7 hat7 hlt7
        go_roundw
        case rel => exact ⟨k + 1, _, rfl, by omega, by go_num, by rw [PK.out]; exact HO7.out, (HB6.out.alloc (by omega) _).grown HG7.out (by simp; omega) (fun q e => ag.out q e)⟩
        case measure => simp [intOf]; omega
    · have hk' : k = m := by omega
      have kk : decide ((k : Int) < (m : Int)) = false := by simp; omega
      subst hk'
      go_wp2
      go_ret
      exact ⟨_, rfl, own_base hown (by omega), B3.out⟩
theorem SpAt.put {A : Option Addr} {n : Nat} {p : Nat → Sp} {w : World} (r : SpAt A n p w) (B i : Nat) (u : Value) (h : ∀ a, A = .some a → a.block ≠ B) : SpAt A n p (w.setCell ⟨B, i, none⟩ u) := fun hn => by
  obtain ⟨a, e, hc⟩ := r hn
  have hb := h a e
  refine ⟨a, e, fun j hj => ⟨setO (.inl ?_) (hc j hj).1, setO (.inl ?_) (hc j hj).2⟩⟩
  · unfold Addr.add; split <;> exact hb
  · unfold Addr.add; split <;> exact hb
set_option maxRecDepth 100000 in
set_option maxHeartbeats 4000000 in
theorem rSpread_any (a : La) (d : Dl) (f : Sp) (A : Option Addr) (c : Nat) (B : Option Addr) (e : Nat) (w : World) (hm : a.n ≤ 16) (hf : a.fe f = 0) (k0 : 1 ≤ d.ck) (k1 : d.ck ≤ 1000000) (tb : ∀ i, i < a.n → -1 ≤ d.t i ∧ d.t i ≤ 1000000) (h : SpAt A a.n a.p w) (g : InAt B a.n d.t w) :
    Calls Tryz.prog 47 #[.agg #[.slice A a.n c, .int .i64 a.m.wd, .int .i64 a.m.mt, .int .i64 a.m.sk, .int .i64 a.m.th, .int .i64 a.ck], .agg #[.int .i64 d.ck, .slice B a.n e], .agg #[.int .i64 f.x, .int .i64 f.z]] w fun e_ w' => e_ = .returned (.tuple #[.agg #[.int .i64 (a.spLo d f), .int .i64 (a.spHi d f)], .int .i64 (a.spE d f)]) ∧ Below w.heap.size w w' := by
  have HX := Lib.hid h; clear h
  have HT := Lib.hid g; clear g
  have ml : a.sm d ≤ 16 := by have := sdL_len d.t a.n; show (sdL d.t a.n).length ≤ 16; omega
  have HA : Hid (∀ w', SpAt A a.n a.p w' → InAt B a.n d.t w' → Calls Tryz.prog 49 #[.agg #[.slice A a.n c, .int .i64 a.m.wd, .int .i64 a.m.mt, .int .i64 a.m.sk, .int .i64 a.m.th, .int .i64 a.ck], .agg #[.int .i64 d.ck, .slice B a.n e], .agg #[.int .i64 f.x, .int .i64 f.z]] w' fun e_ w'' => ∃ A1 c1, e_ = .returned (.slice A1 (a.sm d) c1) ∧ SpAt A1 (a.sm d) (rgP a d f) w'' ∧ Below w'.heap.size w' w'') := Lib.hid (fun w' h g => (rArrivals_any a d f A c B e w' hm hf k0 k1 tb h g).mono (fun e_ w'' ⟨v, e1, ho, hb⟩ => by
    obtain ⟨A1, c1, rfl, _, hs⟩ := own_spots ho
    exact ⟨A1, c1, e1, hs, hb⟩))
  have XB : Hid (∀ j, j < a.sm d → -1000000 ≤ (rgP a d f j).x ∧ (rgP a d f j).x ≤ (rgP a d f j).z ∧ (rgP a d f j).z ≤ 200000000000000) := Lib.hid (fun j hj => by
    have b := xy_bounds a d f hf k0 k1 tb j hj
    show -1000000 ≤ sdX a f d j ∧ sdX a f d j ≤ sdY a f d j ∧ sdY a f d j ≤ _
    omega)
  have e1 : a.spE d f = if a.sm d = 0 then 12 else 0 := by unfold La.spE; rw [if_pos hf]
  by_cases m0 : a.sm d = 0
  · rw [if_pos m0] at e1
    have e2 : a.spLo d f = 0 := by unfold La.spLo; rw [e1, if_neg (by decide)]
    have e3 : a.spHi d f = 0 := by unfold La.spHi; rw [e1, if_neg (by decide)]
    rw [e1, e2, e3]
    rw [m0] at HA
    clear e1 e2 e3 m0 XB hf k0 k1 tb ml
    go_enter Tryz.func47, Tryz.ntmps47
    go_wp2_with fail
    obtain ⟨w1, hw_w1⟩ : ∃ q, q = ((((w.alloc (.cells #[.slice A a.n c, .int .i64 a.m.wd, .int .i64 a.m.mt, .int .i64 a.m.sk, .int .i64 a.m.th, .int .i64 a.ck] 59)).alloc (.cells #[.int .i64 d.ck, .slice B a.n e] 62)).alloc (.cells #[.int .i64 f.x, .int .i64 f.z] 64)).alloc (.cells #[.int .i64 0, .int .i64 0] 42)) := ⟨_, rfl⟩
    rw [← hw_w1]
    have q10 : w1.cell? ⟨w.heap.size, 0, none⟩ = some (.slice A a.n c) := by rw [hw_w1]; simp [go_sem]
    have q11 : w1.cell? ⟨w.heap.size, 1, none⟩ = some (.int .i64 a.m.wd) := by rw [hw_w1]; simp [go_sem]
    have q12 : w1.cell? ⟨w.heap.size, 2, none⟩ = some (.int .i64 a.m.mt) := by rw [hw_w1]; simp [go_sem]
    have q13 : w1.cell? ⟨w.heap.size, 3, none⟩ = some (.int .i64 a.m.sk) := by rw [hw_w1]; simp [go_sem]
    have q14 : w1.cell? ⟨w.heap.size, 4, none⟩ = some (.int .i64 a.m.th) := by rw [hw_w1]; simp [go_sem]
    have q15 : w1.cell? ⟨w.heap.size, 5, none⟩ = some (.int .i64 a.ck) := by rw [hw_w1]; simp [go_sem]
    have q16 : w1.cell? ⟨w.heap.size + 1, 0, none⟩ = some (.int .i64 d.ck) := by rw [hw_w1]; simp [go_sem]
    have q17 : w1.cell? ⟨w.heap.size + 1, 1, none⟩ = some (.slice B a.n e) := by rw [hw_w1]; simp [go_sem]
    have q18 : w1.cell? ⟨w.heap.size + 1 + 1, 0, none⟩ = some (.int .i64 f.x) := by rw [hw_w1]; simp [go_sem]
    have q19 : w1.cell? ⟨w.heap.size + 1 + 1, 1, none⟩ = some (.int .i64 f.z) := by rw [hw_w1]; simp [go_sem]
    have q110 : w1.cell? ⟨w.heap.size + 1 + 1 + 1, 0, none⟩ = some (.int .i64 0) := by rw [hw_w1]; simp [go_sem]
    have q111 : w1.cell? ⟨w.heap.size + 1 + 1 + 1, 1, none⟩ = some (.int .i64 0) := by rw [hw_w1]; simp [go_sem]
    have qf10 : w1.frozen? ⟨w.heap.size + 1 + 1 + 1, 0, none⟩ = false := by rw [hw_w1]; simp [go_sem]
    have qf11 : w1.frozen? ⟨w.heap.size + 1 + 1 + 1, 1, none⟩ = false := by rw [hw_w1]; simp [go_sem]
    have H1 : Hid (Below w.heap.size w w1) := Lib.hid (by rw [hw_w1]; exact (by repeat (first | exact Below.refl _ _ | refine Below.drew ?_ | refine below_drewN ?_ _ | refine Below.setCell ?_ (by first | omega | (simp; done) | (simp; omega)) _ | refine Below.alloc ?_ (by first | omega | (simp; done) | (simp; omega)) _)))
    have z1 : w1.heap.size = w.heap.size + 4 := by rw [hw_w1]; simp
    clear hw_w1
    clear z1
    refine (HA.out _ (HX.out.later H1.out) (HT.out.later H1.out)).mono ?_
    rintro e_ wA ⟨A1, c1, rfl, is, hb⟩
    have k2_0 := cell_later hb q10
    have k2_1 := cell_later hb q11
    have k2_2 := cell_later hb q12
    have k2_3 := cell_later hb q13
    have k2_4 := cell_later hb q14
    have k2_5 := cell_later hb q15
    have k2_6 := cell_later hb q16
    have k2_7 := cell_later hb q17
    have k2_8 := cell_later hb q18
    have k2_9 := cell_later hb q19
    have k2_10 := cell_later hb q110
    have k2_11 := cell_later hb q111
    have f2_0 := frozen_after hb q110 qf10
    have f2_1 := frozen_after hb q111 qf11
    have B2 : Hid (Below w.heap.size w wA) := Lib.hid (below_then H1.out hb)
    clear q10 q11 q12 q13 q14 q15 q16 q17 q18 q19 q110 q111 qf10 qf11 H1
    have z2_0 := World.block_lt_of_cell? _ _ k2_0
    (try dsimp only at z2_0)
    have z2_6 := World.block_lt_of_cell? _ _ k2_6
    (try dsimp only at z2_6)
    have z2_8 := World.block_lt_of_cell? _ _ k2_8
    (try dsimp only at z2_8)
    have z2_10 := World.block_lt_of_cell? _ _ k2_10
    (try dsimp only at z2_10)
    clear hb
    clear is
    go_wp2
    exact bodyPost_ret (v := .tuple #[.agg #[.int .i64 0, .int .i64 0], .int .i64 12]) (by simp [results, Tryz.results47, go_sem, World.cell?_alloc_past, *]) rfl ⟨rfl, (by (repeat (first | (with_reducible exact B2.out) | (with_reducible refine Below.setCell ?_ ?_ _) | (with_reducible refine below_alloc_top ?_ _) | (with_reducible refine Below.drew ?_))); all_goals (first | omega | (simp; done) | (simp; omega)))⟩
  · rw [if_neg m0] at e1
    have e2 : a.spLo d f = max (mxL (fun j => (rgP a d f j).x) (a.sm d) - mnL (fun j => (rgP a d f j).z) (a.sm d)) 0 := by unfold La.spLo; rw [e1, if_pos rfl]; rfl
    have e3 : a.spHi d f = mxL (fun j => (rgP a d f j).z) (a.sm d) - mnL (fun j => (rgP a d f j).x) (a.sm d) := by unfold La.spHi; rw [e1, if_pos rfl]; rfl
    rw [e1, e2, e3]
    clear e1 e2 e3 hf k0 k1 tb
    have m1 : 0 < a.sm d := by omega
    generalize a.sm d = m at *
    generalize rgP a d f = P at *
    obtain ⟨X, hX⟩ : ∃ X, X = fun j => (P j).x := ⟨_, rfl⟩
    obtain ⟨Z, hZ⟩ : ∃ Z, Z = fun j => (P j).z := ⟨_, rfl⟩
    have hX0 : ∀ j, X j = (P j).x := fun j => by rw [hX]
    have hZ0 : ∀ j, Z j = (P j).z := fun j => by rw [hZ]
    rw [← hX, ← hZ]
    clear hX hZ
    have HX0 := Lib.hid hX0; have HZ0 := Lib.hid hZ0
    clear hX0 hZ0
    go_enter Tryz.func47, Tryz.ntmps47
    go_wp2_with fail
    obtain ⟨w1, hw_w1⟩ : ∃ q, q = ((((w.alloc (.cells #[.slice A a.n c, .int .i64 a.m.wd, .int .i64 a.m.mt, .int .i64 a.m.sk, .int .i64 a.m.th, .int .i64 a.ck] 59)).alloc (.cells #[.int .i64 d.ck, .slice B a.n e] 62)).alloc (.cells #[.int .i64 f.x, .int .i64 f.z] 64)).alloc (.cells #[.int .i64 0, .int .i64 0] 42)) := ⟨_, rfl⟩
    rw [← hw_w1]
    have q10 : w1.cell? ⟨w.heap.size, 0, none⟩ = some (.slice A a.n c) := by rw [hw_w1]; simp [go_sem]
    have q11 : w1.cell? ⟨w.heap.size, 1, none⟩ = some (.int .i64 a.m.wd) := by rw [hw_w1]; simp [go_sem]
    have q12 : w1.cell? ⟨w.heap.size, 2, none⟩ = some (.int .i64 a.m.mt) := by rw [hw_w1]; simp [go_sem]
    have q13 : w1.cell? ⟨w.heap.size, 3, none⟩ = some (.int .i64 a.m.sk) := by rw [hw_w1]; simp [go_sem]
    have q14 : w1.cell? ⟨w.heap.size, 4, none⟩ = some (.int .i64 a.m.th) := by rw [hw_w1]; simp [go_sem]
    have q15 : w1.cell? ⟨w.heap.size, 5, none⟩ = some (.int .i64 a.ck) := by rw [hw_w1]; simp [go_sem]
    have q16 : w1.cell? ⟨w.heap.size + 1, 0, none⟩ = some (.int .i64 d.ck) := by rw [hw_w1]; simp [go_sem]
    have q17 : w1.cell? ⟨w.heap.size + 1, 1, none⟩ = some (.slice B a.n e) := by rw [hw_w1]; simp [go_sem]
    have q18 : w1.cell? ⟨w.heap.size + 1 + 1, 0, none⟩ = some (.int .i64 f.x) := by rw [hw_w1]; simp [go_sem]
    have q19 : w1.cell? ⟨w.heap.size + 1 + 1, 1, none⟩ = some (.int .i64 f.z) := by rw [hw_w1]; simp [go_sem]
    have q110 : w1.cell? ⟨w.heap.size + 1 + 1 + 1, 0, none⟩ = some (.int .i64 0) := by rw [hw_w1]; simp [go_sem]
    have q111 : w1.cell? ⟨w.heap.size + 1 + 1 + 1, 1, none⟩ = some (.int .i64 0) := by rw [hw_w1]; simp [go_sem]
    have qf10 : w1.frozen? ⟨w.heap.size + 1 + 1 + 1, 0, none⟩ = false := by rw [hw_w1]; simp [go_sem]
    have qf11 : w1.frozen? ⟨w.heap.size + 1 + 1 + 1, 1, none⟩ = false := by rw [hw_w1]; simp [go_sem]
    have H1 : Hid (Below w.heap.size w w1) := Lib.hid (by rw [hw_w1]; exact (by repeat (first | exact Below.refl _ _ | refine Below.drew ?_ | refine below_drewN ?_ _ | refine Below.setCell ?_ (by first | omega | (simp; done) | (simp; omega)) _ | refine Below.alloc ?_ (by first | omega | (simp; done) | (simp; omega)) _)))
    have z1 : w1.heap.size = w.heap.size + 4 := by rw [hw_w1]; simp
    clear hw_w1
    clear z1
    refine (HA.out _ (HX.out.later H1.out) (HT.out.later H1.out)).mono ?_
    rintro e_ wA ⟨A1, c1, rfl, is, hb⟩
    have k2_0 := cell_later hb q10
    have k2_1 := cell_later hb q11
    have k2_2 := cell_later hb q12
    have k2_3 := cell_later hb q13
    have k2_4 := cell_later hb q14
    have k2_5 := cell_later hb q15
    have k2_6 := cell_later hb q16
    have k2_7 := cell_later hb q17
    have k2_8 := cell_later hb q18
    have k2_9 := cell_later hb q19
    have k2_10 := cell_later hb q110
    have k2_11 := cell_later hb q111
    have f2_0 := frozen_after hb q110 qf10
    have f2_1 := frozen_after hb q111 qf11
    have B2 : Hid (Below w.heap.size w wA) := Lib.hid (below_then H1.out hb)
    clear q10 q11 q12 q13 q14 q15 q16 q17 q18 q19 q110 q111 qf10 qf11 H1
    have z2_0 := World.block_lt_of_cell? _ _ k2_0
    (try dsimp only at z2_0)
    have z2_6 := World.block_lt_of_cell? _ _ k2_6
    (try dsimp only at z2_6)
    have z2_8 := World.block_lt_of_cell? _ _ k2_8
    (try dsimp only at z2_8)
    have z2_10 := World.block_lt_of_cell? _ _ k2_10
    (try dsimp only at z2_10)
    clear hb
    obtain ⟨ad, hA⟩ := is.some m1
    subst hA
    have IS := Lib.hid is
    obtain ⟨c0, c1_⟩ := is.at m1
    clear is
    have n1 : ((m : Int) == 0) = false := by simp; omega
    obtain ⟨px, hpx⟩ : ∃ q, q = (P 0).x := ⟨_, rfl⟩
    obtain ⟨pz, hpz⟩ : ∃ q, q = (P 0).z := ⟨_, rfl⟩
    have ea0 : ad.add 0 = ad := by unfold Addr.add; rfl
    simp only [Nat.zero_mul, ea0] at c0 c1_
    clear ea0
    have z_ad := World.block_lt_of_cell? _ _ c0
    rw [← hpx] at c0
    rw [← hpz] at c1_
    have wA0 : wA.heap.size = wA.heap.size := rfl
    go_upto_region 4 with fail
    have hS : Below wA.heap.size wA wA := Below.refl _ _
    go_cut [9, 10] (fun s9 s10 wx => ∃ F L : Nat, s9 = .pointer (some ⟨F, 0, none⟩) ∧ s10 = .pointer (some ⟨L, 0, none⟩) ∧ F ≠ L ∧ wA.heap.size ≤ F ∧ wA.heap.size ≤ L ∧ wx.cell? ⟨F, 0, none⟩ = some (.int .i64 px) ∧ wx.cell? ⟨F, 1, none⟩ = some (.int .i64 pz) ∧ wx.cell? ⟨L, 0, none⟩ = some (.int .i64 px) ∧ wx.cell? ⟨L, 1, none⟩ = some (.int .i64 pz) ∧ wx.frozen? ⟨F, 0, none⟩ = false ∧ wx.frozen? ⟨F, 1, none⟩ = false ∧ wx.frozen? ⟨L, 0, none⟩ = false ∧ wx.frozen? ⟨L, 1, none⟩ = false ∧ Below wA.heap.size wA wx)
    case first =>
      go_region_held3 (fun w' => w'.cell? ⟨w.heap.size + 1 + 1 + 1, 0, none⟩ = some (.int .i64 0) ∧ w'.cell? ⟨w.heap.size + 1 + 1 + 1, 1, none⟩ = some (.int .i64 0) ∧ w'.cell? ad = some (.int .i64 px) ∧ w'.cell? ⟨ad.block, ad.off + 1, none⟩ = some (.int .i64 pz) ∧ Below wA.heap.size wA w') (((go_split_ands; (repeat' apply And.intro) <;> ((repeat (first | (with_reducible assumption) | (with_reducible exact Below.refl _ _) | (with_reducible refine cell_alloc_later ?_ _) | (with_reducible refine cell_drewA ?_) | (with_reducible refine cellA (by with_reducible assumption) ?_) | (with_reducible refine belowA ?_ (by with_reducible assumption)) | (with_reducible refine below_alloc_top ?_ _) | (with_reducible refine Below.drew ?_) | (with_reducible refine cell_set_old ?_ (by with_reducible assumption)) | (with_reducible refine below_set_old ?_ (by with_reducible assumption)) | (with_reducible refine Below.setCell ?_ (by first | omega | (simp; done) | (simp; omega)) _) | (simp [go_sem, World.cell?_alloc_past, *]; done))); done))))
        (first
          | (fail))
      all_goals
        go_split_ands
        go_wp2_with fail
        go_meet
        exact ⟨_, _, rfl, rfl, (by first | omega | (simp; done) | (simp; omega)), (by first | omega | (simp; done) | (simp; omega)), (by first | omega | (simp; done) | (simp; omega)), (by first | (with_reducible assumption) | (simp [go_sem, World.cell?_alloc_past, *]; done)), (by first | (with_reducible assumption) | (simp [go_sem, World.cell?_alloc_past, *]; done)), (by first | (with_reducible assumption) | (simp [go_sem, World.cell?_alloc_past, *]; done)), (by first | (with_reducible assumption) | (simp [go_sem, World.cell?_alloc_past, *]; done)), (by first | (with_reducible assumption) | (simp [go_sem, World.frozen?_alloc_past, World.cell?_alloc_past, *]; done)), (by first | (with_reducible assumption) | (simp [go_sem, World.frozen?_alloc_past, World.cell?_alloc_past, *]; done)), (by first | (with_reducible assumption) | (simp [go_sem, World.frozen?_alloc_past, World.cell?_alloc_past, *]; done)), (by first | (with_reducible assumption) | (simp [go_sem, World.frozen?_alloc_past, World.cell?_alloc_past, *]; done)), (by first | (with_reducible assumption) | (simp [go_sem, World.cell?_alloc_past, *]; done))⟩
    case rest =>
      obtain ⟨F, L, rfl, rfl, nFL, bF, bL, f0, f1, l0, l1, ff0, ff1, fl0, fl1, bel⟩ := hcut
      clear hS
      obtain ⟨wB, hw_⟩ : ∃ q, q = wc := ⟨_, rfl⟩
      subst hw_
      have k3_0 := cell_later bel k2_10
      have k3_1 := cell_later bel k2_11
      have k3_2 := cell_later bel c0
      have k3_3 := cell_later bel c1_
      have f3_0 := frozen_after bel k2_10 f2_0
      have f3_1 := frozen_after bel k2_11 f2_1
      have R3_0 := Lib.hid (IS.out.later bel)
      have B3 : Hid (Below w.heap.size w wB) := Lib.hid (below_then B2.out bel)
      clear k2_10 k2_11 c0 c1_ f2_0 f2_1 IS B2
      have z3_0 := World.block_lt_of_cell? _ _ k3_0
      (try dsimp only at z3_0)
      have z3_2 := World.block_lt_of_cell? _ _ k3_2
      (try dsimp only at z3_2)
      have z3_3 := World.block_lt_of_cell? _ _ k3_3
      (try dsimp only at z3_3)
      clear bel
      subst hpx
      subst hpz
      have zF := World.block_lt_of_cell? _ _ f0
      have zL := World.block_lt_of_cell? _ _ l0
      (try dsimp only at zF zL)
      have adA : ad.block < wA.heap.size := z_ad
      go_wp2_with fail
      rw [← HX0.out] at f0 l0
      rw [← HZ0.out] at f1 l1
      go_loopw [11] (fun s11 wr => ∃ k : Nat, k ≤ m ∧ s11 = .int .i64 (k : Int) ∧ wr.cell? ⟨F, 0, none⟩ = some (.int .i64 (mnL X k)) ∧ wr.cell? ⟨F, 1, none⟩ = some (.int .i64 (mnL Z k)) ∧ wr.cell? ⟨L, 0, none⟩ = some (.int .i64 (mxL X k)) ∧ wr.cell? ⟨L, 1, none⟩ = some (.int .i64 (mxL Z k)) ∧ wr.frozen? ⟨F, 0, none⟩ = false ∧ wr.frozen? ⟨F, 1, none⟩ = false ∧ wr.frozen? ⟨L, 0, none⟩ = false ∧ wr.frozen? ⟨L, 1, none⟩ = false ∧ SpAt (some ad) m P wr ∧ Below wA.heap.size wB wr) (fun s11 _ => m - (intOf s11).toNat)
      case atStart => exact ⟨0, Nat.zero_le _, rfl, f0, f1, l0, l1, ff0, ff1, fl0, fl1, R3_0.out, Below.refl _ _⟩
      case round =>
        obtain ⟨k, hk, rfl, g0, g1, h0, h1, gf0, gf1, hf0, hf1, is, hb⟩ := hrel
        by_cases hlt : k < m
        · obtain ⟨e0, e1⟩ := is.at hlt
          have j0 : (0 : Int) ≤ (k : Int) := Int.natCast_nonneg _
          have j1 : (k : Int) < (m : Int) := by omega
          have j8 : (k : Int) < 1000 := by omega
          go_upto_region 8 with fail
          rw [← HX0.out] at e0
          rw [← HZ0.out] at e1
          refine wp_region_still_tail 17 (by kernel_rfl) (by kernel_rfl) ?_
          simp only [List.take_succ_cons, List.take_zero, List.drop_succ_cons, List.drop_zero]
          repeat still_step
          refine wpStill_nil ?_
          change wpList _ _ _ _ _ wr.drew
          have g0 : wr.drew.cell? ⟨F, 0, none⟩ = _ := g0
          have g1 : wr.drew.cell? ⟨F, 1, none⟩ = _ := g1
          have h0 : wr.drew.cell? ⟨L, 0, none⟩ = _ := h0
          have h1 : wr.drew.cell? ⟨L, 1, none⟩ = _ := h1
          have gf0 : wr.drew.frozen? ⟨F, 0, none⟩ = false := gf0
          have gf1 : wr.drew.frozen? ⟨F, 1, none⟩ = false := gf1
          have hf0 : wr.drew.frozen? ⟨L, 0, none⟩ = false := hf0
          have hf1 : wr.drew.frozen? ⟨L, 1, none⟩ = false := hf1
          have is : SpAt (some ad) m P wr.drew := is
          have hb : Below wA.heap.size wB wr.drew := hb.drew
          clear e0 e1
          generalize wr.drew = wd at *
          go_upto_region 9 with fail
          obtain ⟨wM, hw_⟩ : ∃ q, q = (wd.setCell ⟨F, 0, none⟩ (.int .i64 (min (mnL X k) (X k)))).setCell ⟨F, 1, none⟩ (.int .i64 (min (mnL Z k) (Z k))) := ⟨_, rfl⟩
          rw [← hw_]
          have g0 : wM.cell? ⟨F, 0, none⟩ = some (.int .i64 (mnL X (k + 1))) := by rw [hw_]; exact setO (.inr (by dsimp only; omega)) (setS g0)
          have g1 : wM.cell? ⟨F, 1, none⟩ = some (.int .i64 (mnL Z (k + 1))) := by rw [hw_]; exact setS (setO (.inr (by dsimp only; omega)) g1)
          have h0 : wM.cell? ⟨L, 0, none⟩ = some (.int .i64 (mxL X k)) := by rw [hw_]; exact setO (.inl (by dsimp only; omega)) (setO (.inl (by dsimp only; omega)) h0)
          have h1 : wM.cell? ⟨L, 1, none⟩ = some (.int .i64 (mxL Z k)) := by rw [hw_]; exact setO (.inl (by dsimp only; omega)) (setO (.inl (by dsimp only; omega)) h1)
          have gf0 : wM.frozen? ⟨F, 0, none⟩ = false := by rw [hw_]; exact setF (setF gf0)
          have gf1 : wM.frozen? ⟨F, 1, none⟩ = false := by rw [hw_]; exact setF (setF gf1)
          have hf0 : wM.frozen? ⟨L, 0, none⟩ = false := by rw [hw_]; exact setF (setF hf0)
          have hf1 : wM.frozen? ⟨L, 1, none⟩ = false := by rw [hw_]; exact setF (setF hf1)
          have is : SpAt (some ad) m P wM := by rw [hw_]; exact (is.put _ _ _ (fun a e => by cases e; omega)).put _ _ _ (fun a e => by cases e; omega)
          have hb : Below wA.heap.size wB wM := by rw [hw_]; exact (hb.setCell (by dsimp only; omega) _).setCell (by dsimp only; omega) _
          clear hw_
          obtain ⟨e0, e1⟩ := is.at hlt
          rw [← HX0.out] at e0
          rw [← HZ0.out] at e1
          refine wp_region_still_tail 17 (by kernel_rfl) (by kernel_rfl) ?_
          simp only [List.take_succ_cons, List.take_zero, List.drop_succ_cons, List.drop_zero]
          repeat still_step
          refine wpStill_nil ?_
          change wpList _ _ _ _ _ wM.drew
          have g0 : wM.drew.cell? ⟨F, 0, none⟩ = _ := g0
          have g1 : wM.drew.cell? ⟨F, 1, none⟩ = _ := g1
          have h0 : wM.drew.cell? ⟨L, 0, none⟩ = _ := h0
          have h1 : wM.drew.cell? ⟨L, 1, none⟩ = _ := h1
          have gf0 : wM.drew.frozen? ⟨F, 0, none⟩ = false := gf0
          have gf1 : wM.drew.frozen? ⟨F, 1, none⟩ = false := gf1
          have hf0 : wM.drew.frozen? ⟨L, 0, none⟩ = false := hf0
          have hf1 : wM.drew.frozen? ⟨L, 1, none⟩ = false := hf1
          have is : SpAt (some ad) m P wM.drew := is
          have hb : Below wA.heap.size wB wM.drew := hb.drew
          clear e0 e1
          generalize wM.drew = we at *
          go_wp2_with fail
          obtain ⟨wN, hw_⟩ : ∃ q, q = (we.setCell ⟨L, 0, none⟩ (.int .i64 (max (mxL X k) (X k)))).setCell ⟨L, 1, none⟩ (.int .i64 (max (mxL Z k) (Z k))) := ⟨_, rfl⟩
          rw [← hw_]
          have g0 : wN.cell? ⟨F, 0, none⟩ = some (.int .i64 (mnL X (k + 1))) := by rw [hw_]; exact setO (.inl (by dsimp only; omega)) (setO (.inl (by dsimp only; omega)) g0)
          have g1 : wN.cell? ⟨F, 1, none⟩ = some (.int .i64 (mnL Z (k + 1))) := by rw [hw_]; exact setO (.inl (by dsimp only; omega)) (setO (.inl (by dsimp only; omega)) g1)
          have h0 : wN.cell? ⟨L, 0, none⟩ = some (.int .i64 (mxL X (k + 1))) := by rw [hw_]; exact setO (.inr (by dsimp only; omega)) (setS h0)
          have h1 : wN.cell? ⟨L, 1, none⟩ = some (.int .i64 (mxL Z (k + 1))) := by rw [hw_]; exact setS (setO (.inr (by dsimp only; omega)) h1)
          have gf0 : wN.frozen? ⟨F, 0, none⟩ = false := by rw [hw_]; exact setF (setF gf0)
          have gf1 : wN.frozen? ⟨F, 1, none⟩ = false := by rw [hw_]; exact setF (setF gf1)
          have hf0 : wN.frozen? ⟨L, 0, none⟩ = false := by rw [hw_]; exact setF (setF hf0)
          have hf1 : wN.frozen? ⟨L, 1, none⟩ = false := by rw [hw_]; exact setF (setF hf1)
          have is : SpAt (some ad) m P wN := by rw [hw_]; exact (is.put _ _ _ (fun a e => by cases e; omega)).put _ _ _ (fun a e => by cases e; omega)
          have hb : Below wA.heap.size wB wN := by rw [hw_]; exact (hb.setCell (by dsimp only; omega) _).setCell (by dsimp only; omega) _
          clear hw_
          go_roundw
          case rel => exact ⟨k + 1, by omega, by go_num, g0, g1, h0, h1, gf0, gf1, hf0, hf1, is, hb⟩
          case measure => simp [intOf]; omega
        · have hk' : k = m := by omega
          have kk : decide ((k : Int) < (m : Int)) = false := by simp; omega
          subst hk'
          have r0 : wr.cell? ⟨w.heap.size + 1 + 1 + 1, 0, none⟩ = some (.int .i64 0) := (hb.cell (by dsimp only; omega)).trans k3_0
          have r1 : wr.cell? ⟨w.heap.size + 1 + 1 + 1, 1, none⟩ = some (.int .i64 0) := (hb.cell (by dsimp only; omega)).trans k3_1
          have rf0 : wr.frozen? ⟨w.heap.size + 1 + 1 + 1, 0, none⟩ = false := (hb.frozen (by dsimp only; omega)).trans f3_0
          have rf1 : wr.frozen? ⟨w.heap.size + 1 + 1 + 1, 1, none⟩ = false := (hb.frozen (by dsimp only; omega)).trans f3_1
          have HF : Hid (Below w.heap.size w wr) := Lib.hid (B3.out.trans (hb.mono (by omega)))
          obtain ⟨i1, hi1, m1_⟩ := mnL_mem X k m1
          obtain ⟨i2, hi2, m2_⟩ := mnL_mem Z k m1
          obtain ⟨i3, hi3, m3_⟩ := mxL_mem X k m1
          obtain ⟨i4, hi4, m4_⟩ := mxL_mem Z k m1
          have x1 := XB.out i1 hi1; have x2 := XB.out i2 hi2; have x3 := XB.out i3 hi3; have x4 := XB.out i4 hi4
          rw [← HX0.out, ← HZ0.out] at x1 x2 x3 x4
          have v1 : IntKind.i64.wrap (mxL X k - mnL Z k) = mxL X k - mnL Z k := IntWalk.i64_in _ (by omega)
          have v2 : IntKind.i64.wrap (mxL Z k - mnL X k) = mxL Z k - mnL X k := IntWalk.i64_in _ (by omega)
          have MC := Lib.hid (Int.max_comm (mxL X k - mnL Z k) 0)
          clear x1 x2 x3 x4 m1_ m2_ m3_ m4_ hi1 hi2 hi3 hi4 hb is
          go_wp2
          exact bodyPost_ret (v := .tuple #[.agg #[.int .i64 (max 0 (mxL X k - mnL Z k)), .int .i64 (mxL Z k - mnL X k)], .int .i64 0]) (by simp [results, Tryz.results47, go_sem, World.cell?_alloc_past, *]) rfl ⟨by rw [MC.out], (by (repeat (first | (with_reducible exact HF.out) | (with_reducible refine Below.setCell ?_ ?_ _) | (with_reducible refine below_alloc_top ?_ _) | (with_reducible refine Below.drew ?_))); all_goals (first | omega | (simp; done) | (simp; omega)))⟩
/-- the error of the arrivals -/
def arE (a : La) (d : Dl) (f : Sp) : Int := if paE a d = 0 then a.fe f else paE a d
/-- the arrivals, or nothing -/
def arPost (a : La) (d : Dl) (f : Sp) (w : World) (e : Ending) (w' : World) : Prop :=
  ∃ v : Value, e = .returned (.tuple #[v, .int .i64 (arE a d f)]) ∧ (arE a d f = 0 → w'.ownsRow w.heap.size 42 2 v (sdL d.t a.n).length (arV (arL a f d.t d.ck) (arH a f d.t d.ck) d.t a.n)) ∧ (arE a d f ≠ 0 → v = .slice none 0 0) ∧ Below w.heap.size w w'
set_option maxRecDepth 100000 in
set_option maxHeartbeats 1000000 in
theorem arrivalsOf_any (a : La) (d : Dl) (f : Sp) (A : Option Addr) (c : Nat) (B : Option Addr) (e : Nat) (w : World) (h : SpAt A a.n a.p w) (g : InAt B d.n d.t w) (hm : a.n ≤ 9223372036854775807) (km : d.n ≤ 9223372036854775807) :
    Calls Tryz.prog 44 #[.agg #[.slice A a.n c, .int .i64 a.m.wd, .int .i64 a.m.mt, .int .i64 a.m.sk, .int .i64 a.m.th, .int .i64 a.ck], .agg #[.int .i64 d.ck, .slice B d.n e], .agg #[.int .i64 f.x, .int .i64 f.z]] w fun e_ w' => arPost a d f w e_ w' := by
  have HX := Lib.hid h; clear h
  have HT := Lib.hid g; clear g
  have HP := Lib.hid (fun w h g => pairErr_any a d A c B e w h g hm km)
  have HA : Hid (paE a d = 0 → ∀ w, SpAt A a.n a.p w → InAt B d.n d.t w → Calls Tryz.prog 97 #[.agg #[.slice A a.n c, .int .i64 a.m.wd, .int .i64 a.m.mt, .int .i64 a.m.sk, .int .i64 a.m.th, .int .i64 a.ck], .agg #[.int .i64 d.ck, .slice B d.n e], .agg #[.int .i64 f.x, .int .i64 f.z]] w fun e_ w' => arPost a d f w e_ w') := Lib.hid (fun hE w h g => by
    obtain ⟨qa, qd, qn⟩ := (paE_zero a d).1 hE
    obtain ⟨⟨n0, n1⟩, _, _, _, _⟩ := (La.E_zero a).1 qa
    obtain ⟨⟨k0, k1⟩, _, tb⟩ := (Dl.E_zero d).1 qd
    have e1 : arE a d f = a.fe f := by unfold arE; rw [if_pos hE]
    rw [← qn] at g ⊢
    unfold arPost
    rw [e1]
    exact arrivals_any a d f A c B e w h g n1 k0 k1 (fun i hi => tb i (by omega)))
  by_cases hE : paE a d = 0
  · have HA' := Lib.hid (HA.out hE)
    rw [hE] at HP
    clear HA hE
    go_enter Tryz.func44, Tryz.ntmps44
    go_wp2_with fail
    refine (HP.out _ (HX.out.later (by repeat (first | exact Below.refl _ _ | refine Below.drew ?_ | refine below_drewN ?_ _ | refine Below.setCell ?_ (by first | omega | (simp; done) | (simp; omega)) _ | refine Below.alloc ?_ (by first | omega | (simp; done) | (simp; omega)) _))) (HT.out.later (by repeat (first | exact Below.refl _ _ | refine Below.drew ?_ | refine below_drewN ?_ _ | refine Below.setCell ?_ (by first | omega | (simp; done) | (simp; omega)) _ | refine Below.alloc ?_ (by first | omega | (simp; done) | (simp; omega)) _)))).mono ?_
    rintro e w1 ⟨rfl, hb1⟩
    have qw10 : w1.cell? ⟨w.heap.size, 0, none⟩ = some (.slice A a.n c) := cell_later hb1 (by simp [go_sem])
    have qw11 : w1.cell? ⟨w.heap.size, 1, none⟩ = some (.int .i64 a.m.wd) := cell_later hb1 (by simp [go_sem])
    have qw12 : w1.cell? ⟨w.heap.size, 2, none⟩ = some (.int .i64 a.m.mt) := cell_later hb1 (by simp [go_sem])
    have qw13 : w1.cell? ⟨w.heap.size, 3, none⟩ = some (.int .i64 a.m.sk) := cell_later hb1 (by simp [go_sem])
    have qw14 : w1.cell? ⟨w.heap.size, 4, none⟩ = some (.int .i64 a.m.th) := cell_later hb1 (by simp [go_sem])
    have qw15 : w1.cell? ⟨w.heap.size, 5, none⟩ = some (.int .i64 a.ck) := cell_later hb1 (by simp [go_sem])
    have qw16 : w1.cell? ⟨w.heap.size + 1, 0, none⟩ = some (.int .i64 d.ck) := cell_later hb1 (by simp [go_sem])
    have qw17 : w1.cell? ⟨w.heap.size + 1, 1, none⟩ = some (.slice B d.n e) := cell_later hb1 (by simp [go_sem])
    have qw18 : w1.cell? ⟨w.heap.size + 1 + 1, 0, none⟩ = some (.int .i64 f.x) := cell_later hb1 (by simp [go_sem])
    have qw19 : w1.cell? ⟨w.heap.size + 1 + 1, 1, none⟩ = some (.int .i64 f.z) := cell_later hb1 (by simp [go_sem])
    have zqw1_0 := World.block_lt_of_cell? _ _ qw10
    dsimp only at zqw1_0
    have zqw1_6 := World.block_lt_of_cell? _ _ qw16
    dsimp only at zqw1_6
    have zqw1_8 := World.block_lt_of_cell? _ _ qw18
    dsimp only at zqw1_8
    have H1 : Hid (Below w.heap.size w w1) := Lib.hid (below_after (by repeat (first | exact Below.refl _ _ | refine Below.drew ?_ | refine below_drewN ?_ _ | refine Below.setCell ?_ (by first | omega | (simp; done) | (simp; omega)) _ | refine Below.alloc ?_ (by first | omega | (simp; done) | (simp; omega)) _)) hb1 (by first | omega | (simp; done) | (simp; omega))); clear hb1
    go_wp2_with fail
    refine (HA'.out _ (HX.out.later H1.out) (HT.out.later H1.out)).mono ?_
    rintro e_ w2 ⟨v, rfl, g1, g2, hb2⟩
    have H2 : Hid (Below w.heap.size w w2) := Lib.hid (below_then H1.out hb2)
    have z2 := H1.out.size
    have G1 := Lib.hid g1; have G2 := Lib.hid g2
    clear g1 g2 hb2
    go_wp2
    go_ret2
    exact ⟨v, rfl, fun q => own_base (G1.out q) (by omega), G2.out, H2.out⟩
  · have n1 : (paE a d != 0) = true := by simpa using hE
    have e1 : arE a d f = paE a d := by unfold arE; rw [if_neg hE]
    have E1 := Lib.hid e1; have NE := Lib.hid hE
    clear HA hE e1
    generalize paE a d = pe at *
    go_enter Tryz.func44, Tryz.ntmps44
    go_wp2_with fail
    refine (HP.out _ (HX.out.later (by repeat (first | exact Below.refl _ _ | refine Below.drew ?_ | refine below_drewN ?_ _ | refine Below.setCell ?_ (by first | omega | (simp; done) | (simp; omega)) _ | refine Below.alloc ?_ (by first | omega | (simp; done) | (simp; omega)) _))) (HT.out.later (by repeat (first | exact Below.refl _ _ | refine Below.drew ?_ | refine below_drewN ?_ _ | refine Below.setCell ?_ (by first | omega | (simp; done) | (simp; omega)) _ | refine Below.alloc ?_ (by first | omega | (simp; done) | (simp; omega)) _)))).mono ?_
    rintro e w1 ⟨rfl, hb1⟩
    have qw10 : w1.cell? ⟨w.heap.size, 0, none⟩ = some (.slice A a.n c) := cell_later hb1 (by simp [go_sem])
    have qw11 : w1.cell? ⟨w.heap.size, 1, none⟩ = some (.int .i64 a.m.wd) := cell_later hb1 (by simp [go_sem])
    have qw12 : w1.cell? ⟨w.heap.size, 2, none⟩ = some (.int .i64 a.m.mt) := cell_later hb1 (by simp [go_sem])
    have qw13 : w1.cell? ⟨w.heap.size, 3, none⟩ = some (.int .i64 a.m.sk) := cell_later hb1 (by simp [go_sem])
    have qw14 : w1.cell? ⟨w.heap.size, 4, none⟩ = some (.int .i64 a.m.th) := cell_later hb1 (by simp [go_sem])
    have qw15 : w1.cell? ⟨w.heap.size, 5, none⟩ = some (.int .i64 a.ck) := cell_later hb1 (by simp [go_sem])
    have qw16 : w1.cell? ⟨w.heap.size + 1, 0, none⟩ = some (.int .i64 d.ck) := cell_later hb1 (by simp [go_sem])
    have qw17 : w1.cell? ⟨w.heap.size + 1, 1, none⟩ = some (.slice B d.n e) := cell_later hb1 (by simp [go_sem])
    have qw18 : w1.cell? ⟨w.heap.size + 1 + 1, 0, none⟩ = some (.int .i64 f.x) := cell_later hb1 (by simp [go_sem])
    have qw19 : w1.cell? ⟨w.heap.size + 1 + 1, 1, none⟩ = some (.int .i64 f.z) := cell_later hb1 (by simp [go_sem])
    have zqw1_0 := World.block_lt_of_cell? _ _ qw10
    dsimp only at zqw1_0
    have zqw1_6 := World.block_lt_of_cell? _ _ qw16
    dsimp only at zqw1_6
    have zqw1_8 := World.block_lt_of_cell? _ _ qw18
    dsimp only at zqw1_8
    have H1 : Hid (Below w.heap.size w w1) := Lib.hid (below_after (by repeat (first | exact Below.refl _ _ | refine Below.drew ?_ | refine below_drewN ?_ _ | refine Below.setCell ?_ (by first | omega | (simp; done) | (simp; omega)) _ | refine Below.alloc ?_ (by first | omega | (simp; done) | (simp; omega)) _)) hb1 (by first | omega | (simp; done) | (simp; omega))); clear hb1
    go_wp2
    go_ret2
    exact ⟨.slice none 0 0, by rw [E1.out]; rfl, fun q => absurd (E1.out.symm.trans q) NE.out, fun _ => rfl, H1.out⟩
theorem paE_a (a : La) (d : Dl) (h : a.E ≠ 0) : paE a d = a.E := by unfold paE; simp [fst, h]
theorem paE_d (a : La) (d : Dl) (h : a.E = 0) (k : d.E ≠ 0) : paE a d = d.E := by unfold paE; simp [fst, h, k]
theorem paE_yes (a : La) (d : Dl) (h : a.E = 0) (k : d.E = 0) (e : a.n = d.n) : paE a d = 0 := (paE_zero a d).2 ⟨h, k, e⟩
theorem paE_no (a : La) (d : Dl) (h : a.E = 0) (k : d.E = 0) (e : a.n ≠ d.n) : paE a d = 10 := by
  have q : ((a.n : Int) == (d.n : Int)) = false := by simp; omega
  unfold paE unl; simp [fst, h, k, q]
set_option maxRecDepth 100000 in
set_option maxHeartbeats 1000000 in
theorem rPairErr_any (a : La) (d : Dl) (A : Option Addr) (c : Nat) (B : Option Addr) (e : Nat) (w : World) (h : SpAt A a.n a.p w) (g : InAt B d.n d.t w) (hm : a.n ≤ 9223372036854775807) (hm2 : d.n ≤ 9223372036854775807) :
    Calls Tryz.prog 45 #[.agg #[.slice A a.n c, .int .i64 a.m.wd, .int .i64 a.m.mt, .int .i64 a.m.sk, .int .i64 a.m.th, .int .i64 a.ck], .agg #[.int .i64 d.ck, .slice B d.n e]] w fun e w' => e = .returned (.int .i64 (paE a d)) ∧ Below w.heap.size w w' := by
  have HX := Lib.hid h; clear h
  have HT := Lib.hid g; clear g
  have HCA := Lib.hid (fun w h => rCheckArray_any a A c w h hm)
  have HCL := Lib.hid (fun w h => rCheckLaw_any d B e w h hm2)
  have P1 := Lib.hid (paE_a a d); have P2 := Lib.hid (paE_d a d); have P3 := Lib.hid (paE_yes a d); have P4 := Lib.hid (paE_no a d)
  generalize paE a d = E5 at *
  generalize a.E = ea at *
  generalize d.E = ed at *
  generalize (a.I : Int) = ia at *
  generalize (d.I : Int) = id' at *
  go_enter Tryz.func45, Tryz.ntmps45
  go_wp2_with fail
  refine (HCA.out _ (HX.out.later (by repeat (first | exact Below.refl _ _ | refine Below.drew ?_ | refine below_drewN ?_ _ | refine Below.setCell ?_ (by first | omega | (simp; done) | (simp; omega)) _ | refine Below.alloc ?_ (by first | omega | (simp; done) | (simp; omega)) _)))).mono ?_
  rintro e w1 ⟨rfl, hb1⟩
  have qw10 : w1.cell? ⟨w.heap.size, 0, none⟩ = some (.slice A a.n c) := cell_later hb1 (by simp [go_sem])
  have qw11 : w1.cell? ⟨w.heap.size, 1, none⟩ = some (.int .i64 a.m.wd) := cell_later hb1 (by simp [go_sem])
  have qw12 : w1.cell? ⟨w.heap.size, 2, none⟩ = some (.int .i64 a.m.mt) := cell_later hb1 (by simp [go_sem])
  have qw13 : w1.cell? ⟨w.heap.size, 3, none⟩ = some (.int .i64 a.m.sk) := cell_later hb1 (by simp [go_sem])
  have qw14 : w1.cell? ⟨w.heap.size, 4, none⟩ = some (.int .i64 a.m.th) := cell_later hb1 (by simp [go_sem])
  have qw15 : w1.cell? ⟨w.heap.size, 5, none⟩ = some (.int .i64 a.ck) := cell_later hb1 (by simp [go_sem])
  have qw16 : w1.cell? ⟨w.heap.size + 1, 0, none⟩ = some (.int .i64 d.ck) := cell_later hb1 (by simp [go_sem])
  have qw17 : w1.cell? ⟨w.heap.size + 1, 1, none⟩ = some (.slice B d.n e) := cell_later hb1 (by simp [go_sem])
  have zqw1_0 := World.block_lt_of_cell? _ _ qw10
  dsimp only at zqw1_0
  have zqw1_6 := World.block_lt_of_cell? _ _ qw16
  dsimp only at zqw1_6
  have H1 : Hid (Below w.heap.size w w1) := Lib.hid (below_after (by repeat (first | exact Below.refl _ _ | refine Below.drew ?_ | refine below_drewN ?_ _ | refine Below.setCell ?_ (by first | omega | (simp; done) | (simp; omega)) _ | refine Below.alloc ?_ (by first | omega | (simp; done) | (simp; omega)) _)) hb1 (by first | omega | (simp; done) | (simp; omega))); clear hb1
  have R1_0 := Lib.hid (HX.out.later H1.out)
  have R1_1 := Lib.hid (HT.out.later H1.out)
  by_cases hE : ea = 0
  · have P2' := Lib.hid (P2.out hE)
    have P3' := Lib.hid (P3.out hE)
    have P4' := Lib.hid (P4.out hE)
    subst hE
    clear P1 P2 P3 P4 HCA
    go_wp2_with fail
    refine (HCL.out _ R1_1.out).mono ?_
    rintro e_ wB ⟨rfl, hb⟩
    have k2_0 := cell_later hb qw10
    have k2_1 := cell_later hb qw11
    have k2_2 := cell_later hb qw12
    have k2_3 := cell_later hb qw13
    have k2_4 := cell_later hb qw14
    have k2_5 := cell_later hb qw15
    have k2_6 := cell_later hb qw16
    have k2_7 := cell_later hb qw17
    have R2_0 := Lib.hid (R1_0.out.later hb)
    have R2_1 := Lib.hid (R1_1.out.later hb)
    have B2 : Hid (Below w.heap.size w wB) := Lib.hid (below_then H1.out hb)
    clear qw10 qw11 qw12 qw13 qw14 qw15 qw16 qw17 R1_0 R1_1 H1
    have z2_0 := World.block_lt_of_cell? _ _ k2_0
    (try dsimp only at z2_0)
    have z2_6 := World.block_lt_of_cell? _ _ k2_6
    (try dsimp only at z2_6)
    clear hb
    by_cases hD : ed = 0
    · have P3'' := Lib.hid (P3'.out hD)
      have P4'' := Lib.hid (P4'.out hD)
      subst hD
      clear P2' P3' P4'
      by_cases hn : a.n = d.n
      · have e5 := P3''.out hn
        subst e5
        have n3 : ((d.n : Int) != (a.n : Int)) = false := by simp; omega
        clear P3'' P4'' hn
        go_wp2
        go_ret
        exact ⟨rfl, B2.out⟩
      · have e5 := P4''.out hn
        subst e5
        have n3 : ((d.n : Int) != (a.n : Int)) = true := by simp; omega
        clear P3'' P4'' hn
        go_wp2
        go_ret
        exact ⟨rfl, B2.out⟩
    · have e5 := (P2'.out hD).symm
      subst e5
      have n2 : (ed != 0) = true := by simpa using hD
      clear P2' P3' P4' hD
      go_wp2
      go_ret
      exact ⟨rfl, B2.out⟩
  · have e5 := (P1.out hE).symm
    subst e5
    have n1 : (ea != 0) = true := by simpa using hE
    clear P1 P2 P3 P4 HCL hE
    go_wp2
    go_ret
    exact ⟨rfl, H1.out⟩
set_option maxRecDepth 100000 in
set_option maxHeartbeats 1000000 in
theorem few_any (n : Int) (w : World) :
    Calls Tryz.prog 25 #[.int .i64 n] w fun e w' => e = .returned (.bool (decide (n ≤ 18))) ∧ w = w' := by
  go_enter Tryz.func25, Tryz.ntmps25
  go_wp2
  go_ret
  exact ⟨rfl, rfl⟩
/-- a row of pairs -/
def RgS (A : Option Addr) (m : Nat) (P : Nat → Sp) (w : World) : Prop := 0 < m → ∃ g, A = some ⟨g, 0, none⟩ ∧ ∀ i, i < m → w.cell? ⟨g, i * 2, none⟩ = some (.int .i64 (P i).x) ∧ w.cell? ⟨g, i * 2 + 1, none⟩ = some (.int .i64 (P i).z)
theorem RgS.later {A : Option Addr} {m : Nat} {P : Nat → Sp} {w w' : World} (r : RgS A m P w) (hb : Below w.heap.size w w') : RgS A m P w' := fun hm => by
  obtain ⟨g, e, h⟩ := r hm
  exact ⟨g, e, fun i hi => ⟨cell_later hb (h i hi).1, cell_later hb (h i hi).2⟩⟩
theorem RgS.alloc {A : Option Addr} {m : Nat} {P : Nat → Sp} {w : World} (r : RgS A m P w) (o : Obj) : RgS A m P (w.alloc o) := r.later ((Below.refl _ _).alloc (Nat.le_refl _) _)
theorem RgS.drew {A : Option Addr} {m : Nat} {P : Nat → Sp} {w : World} (r : RgS A m P w) : RgS A m P w.drew := r
theorem RgS.own {w : World} {b : Nat} {e : TypeId} {v : Value} {m : Nat} {P : Nat → Sp} (q : w.ownsRow b e 2 v m (svs P m)) : ∃ A c, v = .slice A m c ∧ RgS A m P w := by
  obtain ⟨A, c, rfl, r⟩ := own_form q
  refine ⟨A, c, rfl, fun hm => ?_⟩
  obtain ⟨g, rfl, _, _, hc⟩ := r hm
  exact ⟨g, rfl, fun i hi => ⟨hc _ _ (svs_get P m i hi).1, hc _ _ (svs_get P m i hi).2⟩⟩
theorem RgS.arv {w : World} {b : Nat} {e : TypeId} {v : Value} {a : La} {d : Dl} {f : Sp} (q : w.ownsRow b e 2 v (sdL d.t a.n).length (arV (arL a f d.t d.ck) (arH a f d.t d.ck) d.t a.n)) : ∃ A c, v = .slice A (a.sm d) c ∧ RgS A (a.sm d) (rgP a d f) w := by
  obtain ⟨A, c, rfl, r⟩ := own_form q
  refine ⟨A, c, rfl, fun hm => ?_⟩
  obtain ⟨g, c', e', _, hR⟩ := arV_at q hm
  simp at e'
  exact ⟨g, e'.1, fun i hi => hR i hi⟩
theorem SE_bad (a : La) (d : Dl) (f : Sp) (h : paE a d ≠ 0) : a.SE d f = paE a d ∧ a.SLo d f = 0 ∧ a.SHi d f = 0 ∧ arE a d f = paE a d := by
  unfold La.SE La.SLo La.SHi arE; rw [if_neg h, if_neg h, if_neg h, if_neg h]; exact ⟨rfl, rfl, rfl, rfl⟩
theorem SE_fe (a : La) (d : Dl) (f : Sp) (h : paE a d = 0) (k : a.fe f ≠ 0) : a.SE d f = a.fe f ∧ a.SLo d f = 0 ∧ a.SHi d f = 0 ∧ arE a d f = a.fe f := by
  have e : a.spE d f = a.fe f := by unfold La.spE; rw [if_neg k]
  unfold La.SE La.SLo La.SHi arE La.spLo La.spHi; rw [if_pos h, if_pos h, if_pos h, if_pos h, e, if_neg k, if_neg k]; exact ⟨rfl, rfl, rfl, rfl⟩
theorem SE_ok (a : La) (d : Dl) (f : Sp) (h : paE a d = 0) (k : a.fe f = 0) : a.SE d f = a.spE d f ∧ a.SLo d f = a.spLo d f ∧ a.SHi d f = a.spHi d f ∧ arE a d f = 0 := by
  unfold La.SE La.SLo La.SHi arE; rw [if_pos h, if_pos h, if_pos h, if_pos h]; exact ⟨rfl, rfl, rfl, k⟩
set_option maxRecDepth 100000 in
set_option maxHeartbeats 6000000 in
theorem arrives_any (a : La) (d : Dl) (f : Sp) (A : Option Addr) (c : Nat) (B : Option Addr) (e : Nat) (w : World) (hL : Laid w) (AWK : Hid (∀ w, Laid w → Calls Tryz.prog 11 #[] w fun e w' => e = .returned (.bool true) ∧ Below w.heap.size w w')) (hA : A = none → a.n = 0 ∧ c = 0) (hB : B = none → d.n = 0 ∧ e = 0) (h : SpAt A a.n a.p w) (g : InAt B d.n d.t w) :
    Calls Tryz.prog 9 #[.agg #[.slice A a.n c, .int .i64 a.m.wd, .int .i64 a.m.mt, .int .i64 a.m.sk, .int .i64 a.m.th, .int .i64 a.ck], .agg #[.int .i64 d.ck, .slice B d.n e], .agg #[.int .i64 f.x, .int .i64 f.z]] w fun e w' => e = .returned (.bool true) ∧ Below w.heap.size w w' := by
  have HX := Lib.hid h; clear h
  have HT := Lib.hid g; clear g
  have LH := Lib.hid hL; clear hL
  by_cases h1 : a.n ≤ 18
  · have FA : Hid (decide ((a.n : Int) ≤ 18) = true) := Lib.hid (by simp; omega)
    by_cases h2 : d.n ≤ 18
    · have FD : Hid (decide ((d.n : Int) ≤ 18) = true) := Lib.hid (by simp; omega)
      have HCA : Hid (∀ w', SpAt A a.n a.p w' → Calls Tryz.prog 27 #[.agg #[.slice A a.n c, .int .i64 a.m.wd, .int .i64 a.m.mt, .int .i64 a.m.sk, .int .i64 a.m.th, .int .i64 a.ck]] w' fun e w'' => ∃ A1 c1, e = .returned (.agg #[.slice A1 a.n c1, .int .i64 a.m.wd, .int .i64 a.m.mt, .int .i64 a.m.sk, .int .i64 a.m.th, .int .i64 a.ck]) ∧ SpAt A1 a.n a.p w'' ∧ Below w'.heap.size w' w'') := Lib.hid (fun w' h => (copyArray_any a A c w' (by omega) hA h).mono (fun e w'' ⟨v, e1, ho, hb⟩ => by
        obtain ⟨A1, c1, rfl, _, hs⟩ := own_spots ho
        exact ⟨A1, c1, e1, hs, hb⟩))
      have HCL : Hid (∀ w', InAt B d.n d.t w' → Calls Tryz.prog 28 #[.agg #[.int .i64 d.ck, .slice B d.n e]] w' fun e_ w'' => ∃ A1 c1, e_ = .returned (.agg #[.int .i64 d.ck, .slice A1 d.n c1]) ∧ InAt A1 d.n d.t w'' ∧ Below w'.heap.size w' w'') := Lib.hid (fun w' h => (copyLaw_any d B e w' (by omega) hB h).mono (fun e w'' ⟨v, e1, ho, hb⟩ => by
        obtain ⟨A1, c1, rfl, hz, hs⟩ := own_ints2 ho
        exact ⟨A1, c1, e1, hs, hb⟩))
      have HAR : Hid (∀ A1 c1 B1 e1 w', SpAt A1 a.n a.p w' → InAt B1 d.n d.t w' → Calls Tryz.prog 44 #[.agg #[.slice A1 a.n c1, .int .i64 a.m.wd, .int .i64 a.m.mt, .int .i64 a.m.sk, .int .i64 a.m.th, .int .i64 a.ck], .agg #[.int .i64 d.ck, .slice B1 d.n e1], .agg #[.int .i64 f.x, .int .i64 f.z]] w' fun e_ w'' => ∃ (A5 : Option Addr) (n5 c5 : Nat), e_ = .returned (.tuple #[.slice A5 n5 c5, .int .i64 (arE a d f)]) ∧ (arE a d f ≠ 0 → n5 = 0) ∧ (arE a d f = 0 → n5 = a.sm d ∧ RgS A5 (a.sm d) (rgP a d f) w'') ∧ Below w'.heap.size w' w'') := Lib.hid (fun A1 c1 B1 e1 w' h g => (arrivalsOf_any a d f A1 c1 B1 e1 w' h g (by omega) (by omega)).mono (fun e_ w'' ⟨v, e1, hg, hbad, hb⟩ => by
        by_cases q : arE a d f = 0
        · obtain ⟨A5, c5, rfl, r⟩ := RgS.arv (hg q)
          exact ⟨A5, _, c5, e1, fun k => absurd q k, fun _ => ⟨rfl, r⟩, hb⟩
        · obtain rfl := hbad q
          exact ⟨none, 0, 0, e1, fun _ => rfl, fun k => absurd k q, hb⟩))
      have HSP := Lib.hid (fun A1 c1 B1 e1 w' h g => spreadOf_any a d f A1 c1 B1 e1 w' h g (by omega) (by omega))
      have HPR := Lib.hid (fun w' h g => rPairErr_any a d A c B e w' h g (by omega) (by omega))
      have HPE : Hid (paE a d = 0 → ∀ w', Calls Tryz.prog 46 #[.agg #[.slice A a.n c, .int .i64 a.m.wd, .int .i64 a.m.mt, .int .i64 a.m.sk, .int .i64 a.m.th, .int .i64 a.ck], .agg #[.int .i64 f.x, .int .i64 f.z]] w' fun e_ w'' => e_ = .returned (.int .i64 (a.fe f)) ∧ Below w'.heap.size w' w'') := Lib.hid (fun q w' => by
        have qa := ((paE_zero a d).1 q).1
        have := rPlace_any a f A c w' ((La.E_zero a).1 qa).2.2.1
        rwa [← fe_place a f qa] at this)
      have HRS : Hid (paE a d = 0 → a.fe f = 0 → ∀ w', SpAt A a.n a.p w' → InAt B d.n d.t w' → Calls Tryz.prog 47 #[.agg #[.slice A a.n c, .int .i64 a.m.wd, .int .i64 a.m.mt, .int .i64 a.m.sk, .int .i64 a.m.th, .int .i64 a.ck], .agg #[.int .i64 d.ck, .slice B d.n e], .agg #[.int .i64 f.x, .int .i64 f.z]] w' fun e_ w'' => e_ = .returned (.tuple #[.agg #[.int .i64 (a.SLo d f), .int .i64 (a.SHi d f)], .int .i64 (a.SE d f)]) ∧ Below w'.heap.size w' w'') := Lib.hid (fun q r w' h g => by
        obtain ⟨qa, qd, qn⟩ := (paE_zero a d).1 q
        obtain ⟨⟨n0, n1⟩, _, _, _, _⟩ := (La.E_zero a).1 qa
        obtain ⟨⟨k0, k1⟩, _, tb⟩ := (Dl.E_zero d).1 qd
        obtain ⟨s1, s2, s3, _⟩ := SE_ok a d f q r
        rw [s1, s2, s3]
        rw [← qn] at g ⊢
        exact rSpread_any a d f A c B e w' n1 r k0 k1 (fun i hi => tb i (by omega)) h g)
      have HRA : Hid (paE a d = 0 → a.fe f = 0 → ∀ w', SpAt A a.n a.p w' → InAt B d.n d.t w' → Calls Tryz.prog 49 #[.agg #[.slice A a.n c, .int .i64 a.m.wd, .int .i64 a.m.mt, .int .i64 a.m.sk, .int .i64 a.m.th, .int .i64 a.ck], .agg #[.int .i64 d.ck, .slice B d.n e], .agg #[.int .i64 f.x, .int .i64 f.z]] w' fun e_ w'' => ∃ (A6 : Option Addr) (c6 : Nat), e_ = .returned (.slice A6 (a.sm d) c6) ∧ RgS A6 (a.sm d) (rgP a d f) w'' ∧ Below w'.heap.size w' w'') := Lib.hid (fun q r w' h g => by
        obtain ⟨qa, qd, qn⟩ := (paE_zero a d).1 q
        obtain ⟨⟨n0, n1⟩, _, _, _, _⟩ := (La.E_zero a).1 qa
        obtain ⟨⟨k0, k1⟩, _, tb⟩ := (Dl.E_zero d).1 qd
        rw [← qn] at g ⊢
        exact (rArrivals_any a d f A c B e w' n1 r k0 k1 (fun i hi => tb i (by omega)) h g).mono (fun e_ w'' ⟨v, e1, ho, hb⟩ => by
          obtain ⟨A6, c6, rfl, hr⟩ := RgS.own ho
          exact ⟨A6, c6, e1, hr, hb⟩))
      have HRR : Hid (∀ A5 c5 A6 c6 w', a.sm d ≤ 1000 → RgS A5 (a.sm d) (rgP a d f) w' → RgS A6 (a.sm d) (rgP a d f) w' → Calls Tryz.prog 48 #[.slice A5 (a.sm d) c5, .slice A6 (a.sm d) c6] w' fun e w'' => e = .returned (.bool true) ∧ Below w'.heap.size w' w'') := Lib.hid (fun A5 c5 A6 c6 w' hn h k => ranges_same A5 A6 (a.sm d) c5 c6 (fun i => (rgP a d f i).x) (fun i => (rgP a d f i).z) w' hn h k)
      have ML : Hid (a.sm d ≤ 1000) := Lib.hid (by have := sdL_len d.t a.n; show (sdL d.t a.n).length ≤ 1000; omega)
      have P1 := Lib.hid (SE_bad a d f); have P2 := Lib.hid (SE_fe a d f)
      have P3 : Hid (paE a d = 0 → a.fe f = 0 → arE a d f = 0) := Lib.hid (fun q r => (SE_ok a d f q r).2.2.2)
      generalize rgP a d f = P at *
      generalize a.sm d = m at *
      generalize arE a d f = E5 at *
      generalize a.SE d f = S5 at *
      generalize a.SLo d f = lo at *
      generalize a.SHi d f = hi at *
      generalize a.fe f = ef at *
      generalize paE a d = pe at *
      clear hA hB
      go_enter Tryz.func9, Tryz.ntmps9
      go_wp2_with fail
      refine (AWK.out _ (LH.out.later (by repeat (first | exact Below.refl _ _ | refine Below.drew ?_ | refine below_drewN ?_ _ | refine Below.setCell ?_ (by first | omega | (simp; done) | (simp; omega)) _ | refine Below.alloc ?_ (by first | omega | (simp; done) | (simp; omega)) _)))).mono ?_
      rintro e w1 ⟨rfl, hb1⟩
      have qw10 : w1.cell? ⟨w.heap.size, 0, none⟩ = some (.slice A a.n c) := cell_later hb1 (by simp [go_sem])
      have qw11 : w1.cell? ⟨w.heap.size, 1, none⟩ = some (.int .i64 a.m.wd) := cell_later hb1 (by simp [go_sem])
      have qw12 : w1.cell? ⟨w.heap.size, 2, none⟩ = some (.int .i64 a.m.mt) := cell_later hb1 (by simp [go_sem])
      have qw13 : w1.cell? ⟨w.heap.size, 3, none⟩ = some (.int .i64 a.m.sk) := cell_later hb1 (by simp [go_sem])
      have qw14 : w1.cell? ⟨w.heap.size, 4, none⟩ = some (.int .i64 a.m.th) := cell_later hb1 (by simp [go_sem])
      have qw15 : w1.cell? ⟨w.heap.size, 5, none⟩ = some (.int .i64 a.ck) := cell_later hb1 (by simp [go_sem])
      have qw16 : w1.cell? ⟨w.heap.size + 1, 0, none⟩ = some (.int .i64 d.ck) := cell_later hb1 (by simp [go_sem])
      have qw17 : w1.cell? ⟨w.heap.size + 1, 1, none⟩ = some (.slice B d.n e) := cell_later hb1 (by simp [go_sem])
      have qw18 : w1.cell? ⟨w.heap.size + 1 + 1, 0, none⟩ = some (.int .i64 f.x) := cell_later hb1 (by simp [go_sem])
      have qw19 : w1.cell? ⟨w.heap.size + 1 + 1, 1, none⟩ = some (.int .i64 f.z) := cell_later hb1 (by simp [go_sem])
      have zqw1_0 := World.block_lt_of_cell? _ _ qw10
      dsimp only at zqw1_0
      have zqw1_6 := World.block_lt_of_cell? _ _ qw16
      dsimp only at zqw1_6
      have zqw1_8 := World.block_lt_of_cell? _ _ qw18
      dsimp only at zqw1_8
      have H1 : Hid (Below w.heap.size w w1) := Lib.hid (below_after (by repeat (first | exact Below.refl _ _ | refine Below.drew ?_ | refine below_drewN ?_ _ | refine Below.setCell ?_ (by first | omega | (simp; done) | (simp; omega)) _ | refine Below.alloc ?_ (by first | omega | (simp; done) | (simp; omega)) _)) hb1 (by first | omega | (simp; done) | (simp; omega))); clear hb1
      have R1_0 := Lib.hid (HX.out.later H1.out)
      have R1_1 := Lib.hid (HT.out.later H1.out)
      go_upto_region 5 with (go_at_call 25; (with_reducible refine (few_any _ _).mono ?_); (first | rw [FA.out] | rw [FD.out]); rintro e w' ⟨rfl, rfl⟩)
      have hS : Below w1.heap.size w1 w1 := Below.refl _ _
      go_cut [7, 8] (fun s7 s8 wx => ∃ (A5 : Option Addr) (n5 c5 : Nat), s7 = .slice A5 n5 c5 ∧ s8 = .int .i64 E5 ∧ (E5 ≠ 0 → n5 = 0) ∧ (E5 = 0 → n5 = m ∧ RgS A5 m P wx) ∧ Below w1.heap.size w1 wx)
      case first =>
        as_aux_lemma =>
          go_region_held3 (fun w' => w'.cell? ⟨w.heap.size, 0, none⟩ = some (.slice A a.n c) ∧ w'.cell? ⟨w.heap.size, 1, none⟩ = some (.int .i64 a.m.wd) ∧ w'.cell? ⟨w.heap.size, 2, none⟩ = some (.int .i64 a.m.mt) ∧ w'.cell? ⟨w.heap.size, 3, none⟩ = some (.int .i64 a.m.sk) ∧ w'.cell? ⟨w.heap.size, 4, none⟩ = some (.int .i64 a.m.th) ∧ w'.cell? ⟨w.heap.size, 5, none⟩ = some (.int .i64 a.ck) ∧ w'.cell? ⟨w.heap.size + 1, 0, none⟩ = some (.int .i64 d.ck) ∧ w'.cell? ⟨w.heap.size + 1, 1, none⟩ = some (.slice B d.n e) ∧ w'.cell? ⟨w.heap.size + 1 + 1, 0, none⟩ = some (.int .i64 f.x) ∧ w'.cell? ⟨w.heap.size + 1 + 1, 1, none⟩ = some (.int .i64 f.z) ∧ Below w1.heap.size w1 w') (((go_split_ands; (repeat' apply And.intro) <;> ((repeat (first | (with_reducible assumption) | (with_reducible exact Below.refl _ _) | (with_reducible refine cell_alloc_later ?_ _) | (with_reducible refine cell_drewA ?_) | (with_reducible refine cellA (by with_reducible assumption) ?_) | (with_reducible refine belowA ?_ (by with_reducible assumption)) | (with_reducible refine below_alloc_top ?_ _) | (with_reducible refine Below.drew ?_) | (with_reducible refine cell_set_old ?_ (by with_reducible assumption)) | (with_reducible refine below_set_old ?_ (by with_reducible assumption)) | (with_reducible refine Below.setCell ?_ (by first | omega | (simp; done) | (simp; omega)) _) | (simp [go_sem, World.cell?_alloc_past, *]; done))); done))))
            (first
              | (go_split_ands; go_at_call 27; (with_reducible refine (HCA.out _ (R1_0.out.later (by with_reducible assumption))).mono ?_); rintro e w' ⟨A1, c1, rfl, hs, hb⟩; have hbA : BelA _ w' := hb; obtain ⟨hc', hf'⟩ := bcell hb; have hz' := hb.size; (try simp at hz'); (first | (have tF' := Nat.lt_of_succ_le hz') | (have tF' := Nat.lt_of_lt_of_le tF' hz') | skip); clear hb)
              | (go_split_ands; go_at_call 28; (with_reducible refine (HCL.out _ (R1_1.out.later (by with_reducible assumption))).mono ?_); rintro e w' ⟨A2, c2, rfl, hi_, hb⟩; have hbA : BelA _ w' := hb; obtain ⟨hc', hf'⟩ := bcell hb; have hz' := hb.size; (try simp at hz'); (first | (have tF' := Nat.lt_of_succ_le hz') | (have tF' := Nat.lt_of_lt_of_le tF' hz') | skip); clear hb)
              | (go_split_ands; go_at_call 44; (with_reducible refine (HAR.out _ _ _ _ _ (by repeat (first | (with_reducible assumption) | (with_reducible refine SpAt.laterA (by with_reducible assumption) ?_) | (with_reducible refine SpAt.alloc ?_ _) | (with_reducible refine SpAt.drew ?_))) (by repeat (first | (with_reducible assumption) | (with_reducible refine InAt.laterA (by with_reducible assumption) ?_) | (with_reducible refine InAt.alloc ?_ _) | (with_reducible refine InAt.drew ?_)))).mono ?_); rintro e w' ⟨A5, n5, c5, rfl, hz5, hg5, hb⟩; have hbA : BelA _ w' := hb; obtain ⟨hc', hf'⟩ := bcell hb; have hz' := hb.size; (try simp at hz'); (first | (have tF' := Nat.lt_of_succ_le hz') | (have tF' := Nat.lt_of_lt_of_le tF' hz') | skip); clear hb))
          all_goals
            go_split_ands
            go_wp2_with fail
            go_meet
            exact ⟨A5, n5, c5, rfl, rfl, hz5, (fun q => ⟨(hg5 q).1, (by have r := (hg5 q).2; exact (by repeat (first | (with_reducible assumption) | (with_reducible refine RgS.alloc ?_ _) | (with_reducible refine RgS.drew ?_))))⟩), (by first | (with_reducible assumption) | (simp [go_sem, World.cell?_alloc_past, *]; done))⟩
      case rest =>
        obtain ⟨A5, n5, c5, rfl, rfl, hz5, hg5, bel⟩ := hcut
        clear hS
        obtain ⟨wA, hw_⟩ : ∃ q, q = wc := ⟨_, rfl⟩
        subst hw_
        have k2_0 := cell_later bel qw10
        have k2_1 := cell_later bel qw11
        have k2_2 := cell_later bel qw12
        have k2_3 := cell_later bel qw13
        have k2_4 := cell_later bel qw14
        have k2_5 := cell_later bel qw15
        have k2_6 := cell_later bel qw16
        have k2_7 := cell_later bel qw17
        have k2_8 := cell_later bel qw18
        have k2_9 := cell_later bel qw19
        have R2_0 := Lib.hid (R1_0.out.later bel)
        have R2_1 := Lib.hid (R1_1.out.later bel)
        have B2 : Hid (Below w.heap.size w wA) := Lib.hid (below_then H1.out bel)
        clear qw10 qw11 qw12 qw13 qw14 qw15 qw16 qw17 qw18 qw19 R1_0 R1_1 H1
        have z2_0 := World.block_lt_of_cell? _ _ k2_0
        (try dsimp only at z2_0)
        have z2_6 := World.block_lt_of_cell? _ _ k2_6
        (try dsimp only at z2_6)
        have z2_8 := World.block_lt_of_cell? _ _ k2_8
        (try dsimp only at z2_8)
        clear bel
        have L5 : Hid (RgS A5 (if E5 = 0 then m else 0) P wA) := Lib.hid (by
          by_cases q : E5 = 0
          · rw [if_pos q]; exact (hg5 q).2
          · rw [if_neg q]; exact fun h => absurd h (by omega))
        have L6 : Hid (E5 = 0 → n5 = m) := Lib.hid (fun q => (hg5 q).1)
        have Z5 := Lib.hid hz5
        clear hg5 hz5
        go_upto_region 6 with fail
        have hS : Below wA.heap.size wA wA := Below.refl _ _
        go_cut [9, 10] (fun s9 s10 wx => ∃ T : Nat, s9 = .pointer (some ⟨T, 0, none⟩) ∧ s10 = .int .i64 S5 ∧ wx.cell? ⟨T, 0, none⟩ = some (.int .i64 lo) ∧ wx.cell? ⟨T, 1, none⟩ = some (.int .i64 hi) ∧ Below wA.heap.size wA wx)
        case first =>
          as_aux_lemma =>
            go_region_held3 (fun w' => w'.cell? ⟨w.heap.size, 0, none⟩ = some (.slice A a.n c) ∧ w'.cell? ⟨w.heap.size, 1, none⟩ = some (.int .i64 a.m.wd) ∧ w'.cell? ⟨w.heap.size, 2, none⟩ = some (.int .i64 a.m.mt) ∧ w'.cell? ⟨w.heap.size, 3, none⟩ = some (.int .i64 a.m.sk) ∧ w'.cell? ⟨w.heap.size, 4, none⟩ = some (.int .i64 a.m.th) ∧ w'.cell? ⟨w.heap.size, 5, none⟩ = some (.int .i64 a.ck) ∧ w'.cell? ⟨w.heap.size + 1, 0, none⟩ = some (.int .i64 d.ck) ∧ w'.cell? ⟨w.heap.size + 1, 1, none⟩ = some (.slice B d.n e) ∧ w'.cell? ⟨w.heap.size + 1 + 1, 0, none⟩ = some (.int .i64 f.x) ∧ w'.cell? ⟨w.heap.size + 1 + 1, 1, none⟩ = some (.int .i64 f.z) ∧ Below wA.heap.size wA w') (((go_split_ands; (repeat' apply And.intro) <;> ((repeat (first | (with_reducible assumption) | (with_reducible exact Below.refl _ _) | (with_reducible refine cell_alloc_later ?_ _) | (with_reducible refine cell_drewA ?_) | (with_reducible refine cellA (by with_reducible assumption) ?_) | (with_reducible refine belowA ?_ (by with_reducible assumption)) | (with_reducible refine below_alloc_top ?_ _) | (with_reducible refine Below.drew ?_) | (with_reducible refine cell_set_old ?_ (by with_reducible assumption)) | (with_reducible refine below_set_old ?_ (by with_reducible assumption)) | (with_reducible refine Below.setCell ?_ (by first | omega | (simp; done) | (simp; omega)) _) | (simp [go_sem, World.cell?_alloc_past, *]; done))); done))))
              (first
                | (go_split_ands; go_at_call 27; (with_reducible refine (HCA.out _ (R2_0.out.later (by with_reducible assumption))).mono ?_); rintro e w' ⟨A1, c1, rfl, hs, hb⟩; have hbA : BelA _ w' := hb; obtain ⟨hc', hf'⟩ := bcell hb; have hz' := hb.size; (try simp at hz'); (first | (have tF' := Nat.lt_of_succ_le hz') | (have tF' := Nat.lt_of_lt_of_le tF' hz') | skip); clear hb)
                | (go_split_ands; go_at_call 28; (with_reducible refine (HCL.out _ (R2_1.out.later (by with_reducible assumption))).mono ?_); rintro e w' ⟨A2, c2, rfl, hi_, hb⟩; have hbA : BelA _ w' := hb; obtain ⟨hc', hf'⟩ := bcell hb; have hz' := hb.size; (try simp at hz'); (first | (have tF' := Nat.lt_of_succ_le hz') | (have tF' := Nat.lt_of_lt_of_le tF' hz') | skip); clear hb)
                | (go_split_ands; go_at_call 26; (with_reducible refine (HSP.out _ _ _ _ _ (by repeat (first | (with_reducible assumption) | (with_reducible refine SpAt.laterA (by with_reducible assumption) ?_) | (with_reducible refine SpAt.alloc ?_ _) | (with_reducible refine SpAt.drew ?_))) (by repeat (first | (with_reducible assumption) | (with_reducible refine InAt.laterA (by with_reducible assumption) ?_) | (with_reducible refine InAt.alloc ?_ _) | (with_reducible refine InAt.drew ?_)))).mono ?_); rintro e w' ⟨rfl, hb⟩; have hbA : BelA _ w' := hb; obtain ⟨hc', hf'⟩ := bcell hb; have hz' := hb.size; (try simp at hz'); (first | (have tF' := Nat.lt_of_succ_le hz') | (have tF' := Nat.lt_of_lt_of_le tF' hz') | skip); clear hb))
            all_goals
              go_split_ands
              go_wp2_with fail
              go_meet
              exact ⟨_, rfl, rfl, (by first | (with_reducible assumption) | (simp [go_sem, World.cell?_alloc_past, *]; done)), (by first | (with_reducible assumption) | (simp [go_sem, World.cell?_alloc_past, *]; done)), (by first | (with_reducible assumption) | (simp [go_sem, World.cell?_alloc_past, *]; done))⟩
        case rest =>
          obtain ⟨T, rfl, rfl, t0, t1, bel⟩ := hcut
          clear hS
          obtain ⟨wB, hw_⟩ : ∃ q, q = wc := ⟨_, rfl⟩
          subst hw_
          have k3_0 := cell_later bel k2_0
          have k3_1 := cell_later bel k2_1
          have k3_2 := cell_later bel k2_2
          have k3_3 := cell_later bel k2_3
          have k3_4 := cell_later bel k2_4
          have k3_5 := cell_later bel k2_5
          have k3_6 := cell_later bel k2_6
          have k3_7 := cell_later bel k2_7
          have k3_8 := cell_later bel k2_8
          have k3_9 := cell_later bel k2_9
          have R3_0 := Lib.hid (R2_0.out.later bel)
          have R3_1 := Lib.hid (R2_1.out.later bel)
          have R3_2 := Lib.hid (L5.out.later bel)
          have B3 : Hid (Below w.heap.size w wB) := Lib.hid (below_then B2.out bel)
          clear k2_0 k2_1 k2_2 k2_3 k2_4 k2_5 k2_6 k2_7 k2_8 k2_9 R2_0 R2_1 L5 B2
          have z3_0 := World.block_lt_of_cell? _ _ k3_0
          (try dsimp only at z3_0)
          have z3_6 := World.block_lt_of_cell? _ _ k3_6
          (try dsimp only at z3_6)
          have z3_8 := World.block_lt_of_cell? _ _ k3_8
          (try dsimp only at z3_8)
          clear bel
          have zT := World.block_lt_of_cell? _ _ t0
          (try dsimp only at zT)
          go_wp2_with fail
          refine (HPR.out _ R3_0.out R3_1.out).mono ?_
          rintro e_ wC ⟨rfl, hb⟩
          have k4_0 := cell_later hb k3_0
          have k4_1 := cell_later hb k3_1
          have k4_2 := cell_later hb k3_2
          have k4_3 := cell_later hb k3_3
          have k4_4 := cell_later hb k3_4
          have k4_5 := cell_later hb k3_5
          have k4_6 := cell_later hb k3_6
          have k4_7 := cell_later hb k3_7
          have k4_8 := cell_later hb k3_8
          have k4_9 := cell_later hb k3_9
          have k4_10 := cell_later hb t0
          have k4_11 := cell_later hb t1
          have R4_0 := Lib.hid (R3_0.out.later hb)
          have R4_1 := Lib.hid (R3_1.out.later hb)
          have R4_2 := Lib.hid (R3_2.out.later hb)
          have B4 : Hid (Below w.heap.size w wC) := Lib.hid (below_then B3.out hb)
          clear k3_0 k3_1 k3_2 k3_3 k3_4 k3_5 k3_6 k3_7 k3_8 k3_9 t0 t1 R3_0 R3_1 R3_2 B3
          have z4_0 := World.block_lt_of_cell? _ _ k4_0
          (try dsimp only at z4_0)
          have z4_6 := World.block_lt_of_cell? _ _ k4_6
          (try dsimp only at z4_6)
          have z4_8 := World.block_lt_of_cell? _ _ k4_8
          (try dsimp only at z4_8)
          have z4_10 := World.block_lt_of_cell? _ _ k4_10
          (try dsimp only at z4_10)
          clear hb
          by_cases hE : pe = 0
          · have HRS' := Lib.hid (HRS.out hE)
            have HRA' := Lib.hid (HRA.out hE)
            have HPE' := Lib.hid (HPE.out hE)
            have P2' := Lib.hid (P2.out hE)
            have P3' := Lib.hid (P3.out hE)
            subst hE
            clear HRS HRA HPE P1 P2 P3 HPR HSP HAR
            go_wp2_with fail
            refine (HPE'.out _).mono ?_
            rintro e_ wD ⟨rfl, hb⟩
            have k5_0 := cell_later hb k4_0
            have k5_1 := cell_later hb k4_1
            have k5_2 := cell_later hb k4_2
            have k5_3 := cell_later hb k4_3
            have k5_4 := cell_later hb k4_4
            have k5_5 := cell_later hb k4_5
            have k5_6 := cell_later hb k4_6
            have k5_7 := cell_later hb k4_7
            have k5_8 := cell_later hb k4_8
            have k5_9 := cell_later hb k4_9
            have k5_10 := cell_later hb k4_10
            have k5_11 := cell_later hb k4_11
            have R5_0 := Lib.hid (R4_0.out.later hb)
            have R5_1 := Lib.hid (R4_1.out.later hb)
            have R5_2 := Lib.hid (R4_2.out.later hb)
            have B5 : Hid (Below w.heap.size w wD) := Lib.hid (below_then B4.out hb)
            clear k4_0 k4_1 k4_2 k4_3 k4_4 k4_5 k4_6 k4_7 k4_8 k4_9 k4_10 k4_11 R4_0 R4_1 R4_2 B4
            have z5_0 := World.block_lt_of_cell? _ _ k5_0
            (try dsimp only at z5_0)
            have z5_6 := World.block_lt_of_cell? _ _ k5_6
            (try dsimp only at z5_6)
            have z5_8 := World.block_lt_of_cell? _ _ k5_8
            (try dsimp only at z5_8)
            have z5_10 := World.block_lt_of_cell? _ _ k5_10
            (try dsimp only at z5_10)
            clear hb
            by_cases hG : ef = 0
            · have q4 := P3'.out hG
              obtain rfl := L6.out q4
              have HRS2 := Lib.hid (HRS'.out hG)
              have HRA2 := Lib.hid (HRA'.out hG)
              subst hG
              subst q4
              have LR := Lib.hid (show RgS A5 n5 P wD from by have := R5_2.out; rwa [if_pos rfl] at this)
              clear HRS' HRA' HPE' P2' P3' L6 Z5 R5_2
              go_wp2_with fail
              refine (HRS2.out _ R5_0.out R5_1.out).mono ?_
              rintro e_ wE ⟨rfl, hb⟩
              have k6_0 := cell_later hb k5_0
              have k6_1 := cell_later hb k5_1
              have k6_2 := cell_later hb k5_2
              have k6_3 := cell_later hb k5_3
              have k6_4 := cell_later hb k5_4
              have k6_5 := cell_later hb k5_5
              have k6_6 := cell_later hb k5_6
              have k6_7 := cell_later hb k5_7
              have k6_8 := cell_later hb k5_8
              have k6_9 := cell_later hb k5_9
              have k6_10 := cell_later hb k5_10
              have k6_11 := cell_later hb k5_11
              have R6_0 := Lib.hid (R5_0.out.later hb)
              have R6_1 := Lib.hid (R5_1.out.later hb)
              have R6_2 := Lib.hid (LR.out.later hb)
              have B6 : Hid (Below w.heap.size w wE) := Lib.hid (below_then B5.out hb)
              clear k5_0 k5_1 k5_2 k5_3 k5_4 k5_5 k5_6 k5_7 k5_8 k5_9 k5_10 k5_11 R5_0 R5_1 LR B5
              have z6_0 := World.block_lt_of_cell? _ _ k6_0
              (try dsimp only at z6_0)
              have z6_6 := World.block_lt_of_cell? _ _ k6_6
              (try dsimp only at z6_6)
              have z6_8 := World.block_lt_of_cell? _ _ k6_8
              (try dsimp only at z6_8)
              have z6_10 := World.block_lt_of_cell? _ _ k6_10
              (try dsimp only at z6_10)
              clear hb
              go_wp2_with fail
              obtain ⟨wE2, hw_⟩ : ∃ q, q = wE.alloc (.cells #[.int .i64 lo, .int .i64 hi] 42) := ⟨_, rfl⟩
              rw [← hw_]
              have hb : Below wE.heap.size wE wE2 := by rw [hw_]; exact (Below.refl _ _).alloc (Nat.le_refl _) _
              have n7_0 : wE2.cell? ⟨wE.heap.size, 0, none⟩ = some (.int .i64 lo) := by rw [hw_]; simp [go_sem]
              have n7_1 : wE2.cell? ⟨wE.heap.size, 1, none⟩ = some (.int .i64 hi) := by rw [hw_]; simp [go_sem]
              have k7_0 := cell_later hb k6_0
              have k7_1 := cell_later hb k6_1
              have k7_2 := cell_later hb k6_2
              have k7_3 := cell_later hb k6_3
              have k7_4 := cell_later hb k6_4
              have k7_5 := cell_later hb k6_5
              have k7_6 := cell_later hb k6_6
              have k7_7 := cell_later hb k6_7
              have k7_8 := cell_later hb k6_8
              have k7_9 := cell_later hb k6_9
              have k7_10 := cell_later hb k6_10
              have k7_11 := cell_later hb k6_11
              have R7_0 := Lib.hid (R6_0.out.later hb)
              have R7_1 := Lib.hid (R6_1.out.later hb)
              have R7_2 := Lib.hid (R6_2.out.later hb)
              have B7 : Hid (Below w.heap.size w wE2) := Lib.hid (below_then B6.out hb)
              clear k6_0 k6_1 k6_2 k6_3 k6_4 k6_5 k6_6 k6_7 k6_8 k6_9 k6_10 k6_11 R6_0 R6_1 R6_2 B6
              have z7_0 := World.block_lt_of_cell? _ _ k7_0
              (try dsimp only at z7_0)
              have z7_6 := World.block_lt_of_cell? _ _ k7_6
              (try dsimp only at z7_6)
              have z7_8 := World.block_lt_of_cell? _ _ k7_8
              (try dsimp only at z7_8)
              have z7_10 := World.block_lt_of_cell? _ _ k7_10
              (try dsimp only at z7_10)
              have zn7 : wE.heap.size < wE2.heap.size := by rw [hw_]; simp
              clear hb hw_
              refine (HRA2.out _ R7_0.out R7_1.out).mono ?_
              rintro e_ wF ⟨A6, c6, rfl, r6, hb⟩
              have k8_0 := cell_later hb k7_0
              have k8_1 := cell_later hb k7_1
              have k8_2 := cell_later hb k7_2
              have k8_3 := cell_later hb k7_3
              have k8_4 := cell_later hb k7_4
              have k8_5 := cell_later hb k7_5
              have k8_6 := cell_later hb k7_6
              have k8_7 := cell_later hb k7_7
              have k8_8 := cell_later hb k7_8
              have k8_9 := cell_later hb k7_9
              have k8_10 := cell_later hb k7_10
              have k8_11 := cell_later hb k7_11
              have k8_12 := cell_later hb n7_0
              have k8_13 := cell_later hb n7_1
              have R8_0 := Lib.hid (R7_0.out.later hb)
              have R8_1 := Lib.hid (R7_1.out.later hb)
              have R8_2 := Lib.hid (R7_2.out.later hb)
              have B8 : Hid (Below w.heap.size w wF) := Lib.hid (below_then B7.out hb)
              clear k7_0 k7_1 k7_2 k7_3 k7_4 k7_5 k7_6 k7_7 k7_8 k7_9 k7_10 k7_11 n7_0 n7_1 R7_0 R7_1 R7_2 B7
              have z8_0 := World.block_lt_of_cell? _ _ k8_0
              (try dsimp only at z8_0)
              have z8_6 := World.block_lt_of_cell? _ _ k8_6
              (try dsimp only at z8_6)
              have z8_8 := World.block_lt_of_cell? _ _ k8_8
              (try dsimp only at z8_8)
              have z8_10 := World.block_lt_of_cell? _ _ k8_10
              (try dsimp only at z8_10)
              have z8_12 := World.block_lt_of_cell? _ _ k8_12
              (try dsimp only at z8_12)
              clear hb
              have L7 := Lib.hid r6
              clear r6
              go_wp2_with fail
              refine (HRR.out _ _ _ _ _ ML.out R8_2.out L7.out).mono ?_
              rintro e_ wG ⟨rfl, hb⟩
              have k9_0 := cell_later hb k8_0
              have k9_1 := cell_later hb k8_1
              have k9_2 := cell_later hb k8_2
              have k9_3 := cell_later hb k8_3
              have k9_4 := cell_later hb k8_4
              have k9_5 := cell_later hb k8_5
              have k9_6 := cell_later hb k8_6
              have k9_7 := cell_later hb k8_7
              have k9_8 := cell_later hb k8_8
              have k9_9 := cell_later hb k8_9
              have k9_10 := cell_later hb k8_10
              have k9_11 := cell_later hb k8_11
              have k9_12 := cell_later hb k8_12
              have k9_13 := cell_later hb k8_13
              have R9_0 := Lib.hid (R8_0.out.later hb)
              have R9_1 := Lib.hid (R8_1.out.later hb)
              have R9_2 := Lib.hid (R8_2.out.later hb)
              have B9 : Hid (Below w.heap.size w wG) := Lib.hid (below_then B8.out hb)
              clear k8_0 k8_1 k8_2 k8_3 k8_4 k8_5 k8_6 k8_7 k8_8 k8_9 k8_10 k8_11 k8_12 k8_13 R8_0 R8_1 R8_2 B8
              have z9_0 := World.block_lt_of_cell? _ _ k9_0
              (try dsimp only at z9_0)
              have z9_6 := World.block_lt_of_cell? _ _ k9_6
              (try dsimp only at z9_6)
              have z9_8 := World.block_lt_of_cell? _ _ k9_8
              (try dsimp only at z9_8)
              have z9_10 := World.block_lt_of_cell? _ _ k9_10
              (try dsimp only at z9_10)
              have z9_12 := World.block_lt_of_cell? _ _ k9_12
              (try dsimp only at z9_12)
              clear hb
              go_wp2
              go_ret
              exact ⟨by simp, B9.out⟩
            · obtain ⟨q1, q2, q3, q4⟩ := P2'.out hG
              subst q2
              subst q3
              obtain rfl := Z5.out (by rw [q4]; exact hG)
              have n1 : (ef == 0) = false := by simpa using hG
              have n2 : (ef != 0) = true := by simpa using hG
              have q5 := q1.symm
              have q6 := q4.symm
              clear HRS' HRA' HPE' HRR P2' P3' L6 Z5 hG q1 q4
              subst q5
              subst q6
              go_wp2
              go_ret
              exact ⟨by simp, B5.out⟩
          · obtain ⟨q1, q2, q3, q4⟩ := P1.out hE
            subst q2
            subst q3
            obtain rfl := Z5.out (by rw [q4]; exact hE)
            have n1 : (pe == 0) = false := by simpa using hE
            have n2 : (pe != 0) = true := by simpa using hE
            have q5 := q1.symm
            have q6 := q4.symm
            clear HRS HRA HPE HRR P1 P2 P3 L6 Z5 HPR HSP HAR hE q1 q4
            subst q5
            subst q6
            go_wp2
            go_ret
            exact ⟨by simp, B4.out⟩
    · have FD : Hid (decide ((d.n : Int) ≤ 18) = false) := Lib.hid (by simp; omega)
      clear h1 h2 hA hB
      go_enter Tryz.func9, Tryz.ntmps9
      go_wp2_with fail
      refine (AWK.out _ (LH.out.later (by repeat (first | exact Below.refl _ _ | refine Below.drew ?_ | refine below_drewN ?_ _ | refine Below.setCell ?_ (by first | omega | (simp; done) | (simp; omega)) _ | refine Below.alloc ?_ (by first | omega | (simp; done) | (simp; omega)) _)))).mono ?_
      rintro e w1 ⟨rfl, hb1⟩
      have qw10 : w1.cell? ⟨w.heap.size, 0, none⟩ = some (.slice A a.n c) := cell_later hb1 (by simp [go_sem])
      have qw11 : w1.cell? ⟨w.heap.size, 1, none⟩ = some (.int .i64 a.m.wd) := cell_later hb1 (by simp [go_sem])
      have qw12 : w1.cell? ⟨w.heap.size, 2, none⟩ = some (.int .i64 a.m.mt) := cell_later hb1 (by simp [go_sem])
      have qw13 : w1.cell? ⟨w.heap.size, 3, none⟩ = some (.int .i64 a.m.sk) := cell_later hb1 (by simp [go_sem])
      have qw14 : w1.cell? ⟨w.heap.size, 4, none⟩ = some (.int .i64 a.m.th) := cell_later hb1 (by simp [go_sem])
      have qw15 : w1.cell? ⟨w.heap.size, 5, none⟩ = some (.int .i64 a.ck) := cell_later hb1 (by simp [go_sem])
      have qw16 : w1.cell? ⟨w.heap.size + 1, 0, none⟩ = some (.int .i64 d.ck) := cell_later hb1 (by simp [go_sem])
      have qw17 : w1.cell? ⟨w.heap.size + 1, 1, none⟩ = some (.slice B d.n e) := cell_later hb1 (by simp [go_sem])
      have qw18 : w1.cell? ⟨w.heap.size + 1 + 1, 0, none⟩ = some (.int .i64 f.x) := cell_later hb1 (by simp [go_sem])
      have qw19 : w1.cell? ⟨w.heap.size + 1 + 1, 1, none⟩ = some (.int .i64 f.z) := cell_later hb1 (by simp [go_sem])
      have zqw1_0 := World.block_lt_of_cell? _ _ qw10
      dsimp only at zqw1_0
      have zqw1_6 := World.block_lt_of_cell? _ _ qw16
      dsimp only at zqw1_6
      have zqw1_8 := World.block_lt_of_cell? _ _ qw18
      dsimp only at zqw1_8
      have H1 : Hid (Below w.heap.size w w1) := Lib.hid (below_after (by repeat (first | exact Below.refl _ _ | refine Below.drew ?_ | refine below_drewN ?_ _ | refine Below.setCell ?_ (by first | omega | (simp; done) | (simp; omega)) _ | refine Below.alloc ?_ (by first | omega | (simp; done) | (simp; omega)) _)) hb1 (by first | omega | (simp; done) | (simp; omega))); clear hb1
      go_wp2_with (go_at_call 25; (with_reducible refine (few_any _ _).mono ?_); (first | rw [FA.out] | rw [FD.out]); rintro e w' ⟨rfl, rfl⟩)
      go_ret
      exact ⟨rfl, H1.out⟩
  · have FA : Hid (decide ((a.n : Int) ≤ 18) = false) := Lib.hid (by simp; omega)
    clear h1 hA hB
    go_enter Tryz.func9, Tryz.ntmps9
    go_wp2_with fail
    refine (AWK.out _ (LH.out.later (by repeat (first | exact Below.refl _ _ | refine Below.drew ?_ | refine below_drewN ?_ _ | refine Below.setCell ?_ (by first | omega | (simp; done) | (simp; omega)) _ | refine Below.alloc ?_ (by first | omega | (simp; done) | (simp; omega)) _)))).mono ?_
    rintro e w1 ⟨rfl, hb1⟩
    have qw10 : w1.cell? ⟨w.heap.size, 0, none⟩ = some (.slice A a.n c) := cell_later hb1 (by simp [go_sem])
    have qw11 : w1.cell? ⟨w.heap.size, 1, none⟩ = some (.int .i64 a.m.wd) := cell_later hb1 (by simp [go_sem])
    have qw12 : w1.cell? ⟨w.heap.size, 2, none⟩ = some (.int .i64 a.m.mt) := cell_later hb1 (by simp [go_sem])
    have qw13 : w1.cell? ⟨w.heap.size, 3, none⟩ = some (.int .i64 a.m.sk) := cell_later hb1 (by simp [go_sem])
    have qw14 : w1.cell? ⟨w.heap.size, 4, none⟩ = some (.int .i64 a.m.th) := cell_later hb1 (by simp [go_sem])
    have qw15 : w1.cell? ⟨w.heap.size, 5, none⟩ = some (.int .i64 a.ck) := cell_later hb1 (by simp [go_sem])
    have qw16 : w1.cell? ⟨w.heap.size + 1, 0, none⟩ = some (.int .i64 d.ck) := cell_later hb1 (by simp [go_sem])
    have qw17 : w1.cell? ⟨w.heap.size + 1, 1, none⟩ = some (.slice B d.n e) := cell_later hb1 (by simp [go_sem])
    have qw18 : w1.cell? ⟨w.heap.size + 1 + 1, 0, none⟩ = some (.int .i64 f.x) := cell_later hb1 (by simp [go_sem])
    have qw19 : w1.cell? ⟨w.heap.size + 1 + 1, 1, none⟩ = some (.int .i64 f.z) := cell_later hb1 (by simp [go_sem])
    have zqw1_0 := World.block_lt_of_cell? _ _ qw10
    dsimp only at zqw1_0
    have zqw1_6 := World.block_lt_of_cell? _ _ qw16
    dsimp only at zqw1_6
    have zqw1_8 := World.block_lt_of_cell? _ _ qw18
    dsimp only at zqw1_8
    have H1 : Hid (Below w.heap.size w w1) := Lib.hid (below_after (by repeat (first | exact Below.refl _ _ | refine Below.drew ?_ | refine below_drewN ?_ _ | refine Below.setCell ?_ (by first | omega | (simp; done) | (simp; omega)) _ | refine Below.alloc ?_ (by first | omega | (simp; done) | (simp; omega)) _)) hb1 (by first | omega | (simp; done) | (simp; omega))); clear hb1
    go_wp2_with (go_at_call 25; (with_reducible refine (few_any _ _).mono ?_); (first | rw [FA.out]); rintro e w' ⟨rfl, rfl⟩)
    go_ret
    exact ⟨rfl, H1.out⟩
end Go.Proofs.YtnhbmmpjifliaaaGreatDoor
