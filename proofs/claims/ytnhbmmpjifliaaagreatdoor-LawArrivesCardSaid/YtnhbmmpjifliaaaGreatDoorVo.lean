/- the reference's law of a focus -/
import Derived.Test.YtnhbmmpjifliaaaGreatDoorVc
import Derived.Test.YtnhbmmpjifliaaaGreatDoorG2
import Derived.Test.YtnhbmmpjifliaaaGreatDoorV13
import Derived.BigQuiet
namespace Go.Proofs.YtnhbmmpjifliaaaGreatDoor
open Go.RowKit Go.Shelf RayM
set_option linter.unusedSimpArgs false
set_option linter.unusedVariables false
theorem cell_drw2 {w : World} {a : Addr} {v : Value} (h : w.cell? a = some v) : w.drew.cell? a = some v := h
/-- what the reference makes of ticks: a law, or nothing -/
def rlE (l : Nat → Int) (n : Nat) : Int := if (∀ i, i < n → l i ≤ 1000000) then 0 else 8
theorem rlE_yes (l : Nat → Int) (n : Nat) (h : ∀ i, i < n → l i ≤ 1000000) : rlE l n = 0 := if_pos h
def rlPost (ck : Int) (A : Option Addr) (n c : Nat) (E : Int) (w : World) (e : Ending) (w' : World) : Prop :=
  ∃ (A' : Option Addr) (n' c' : Nat), e = .returned (.tuple #[.agg #[.int .i64 (if E = 0 then ck else 0), .slice A' n' c'], .int .i64 E]) ∧ (E = 0 → A' = A ∧ n' = n ∧ c' = c) ∧ (E ≠ 0 → A' = none ∧ n' = 0 ∧ c' = 0) ∧ Below w.heap.size w w'
theorem rlPost.good {ck : Int} {A : Option Addr} {n c : Nat} {E : Int} {w : World} {e : Ending} {w' : World} (h : E = 0) (he : e = .returned (.tuple #[.agg #[.int .i64 ck, .slice A n c], .int .i64 0])) (hb : Below w.heap.size w w') : rlPost ck A n c E w e w' := by
  subst h; exact ⟨A, n, c, by rw [if_pos rfl]; exact he, fun _ => ⟨rfl, rfl, rfl⟩, fun q => absurd rfl q, hb⟩
theorem rlPost.bad {ck : Int} {A : Option Addr} {n c : Nat} {E : Int} {w : World} {e : Ending} {w' : World} (h : E = 8) (he : e = .returned (.tuple #[.agg #[.int .i64 0, .slice none 0 0], .int .i64 8])) (hb : Below w.heap.size w w') : rlPost ck A n c E w e w' := by
  subst h; exact ⟨none, 0, 0, by rw [if_neg (by decide)]; exact he, fun q => absurd q (by decide), fun _ => ⟨rfl, rfl, rfl⟩, hb⟩
theorem rlE_no (l : Nat → Int) (n i : Nat) (hi : i < n) (h : 1000000 < l i) : rlE l n = 8 := if_neg (fun q => by have := q i hi; omega)
set_option maxRecDepth 100000 in
set_option maxHeartbeats 1000000 in
theorem rLawOf_any (ck : Int) (A : Option Addr) (n c : Nat) (l : Nat → Int) (w : World) (hm : n ≤ 1000) (h : InAt A n l w) :
    Calls Tryz.prog 86 #[.int .i64 ck, .slice A n c] w fun e w' => rlPost ck A n c (rlE l n) w e w' := by
  have HX := Lib.hid h; clear h
  have RY := Lib.hid (rlE_yes l n); have RN := Lib.hid (fun i a b => rlE_no l n i a b)
  generalize rlE l n = E at *
  go_enter Tryz.func86, Tryz.ntmps86
  go_wp2
  obtain ⟨w1, hw_w1⟩ : ∃ q, q = (w.alloc (.cells #[.int .i64 0, .slice none 0 0] 62)) := ⟨_, rfl⟩
  rw [← hw_w1]
  have q10 : w1.cell? ⟨w.heap.size, 0, none⟩ = some (.int .i64 0) := by rw [hw_w1]; simp [go_sem]
  have q11 : w1.cell? ⟨w.heap.size, 1, none⟩ = some (.slice none 0 0) := by rw [hw_w1]; simp [go_sem]
  have qf10 : w1.frozen? ⟨w.heap.size, 0, none⟩ = false := by rw [hw_w1]; simp [go_sem]
  have qf11 : w1.frozen? ⟨w.heap.size, 1, none⟩ = false := by rw [hw_w1]; simp [go_sem]
  have H1 : Hid (Below w.heap.size w w1) := Lib.hid (by rw [hw_w1]; exact (by repeat (first | exact Below.refl _ _ | refine Below.drew ?_ | refine below_drewN ?_ _ | refine Below.setCell ?_ (by first | omega | (simp; done) | (simp; omega)) _ | refine Below.alloc ?_ (by first | omega | (simp; done) | (simp; omega)) _)))
  have z1 : w1.heap.size = w.heap.size + 1 := by rw [hw_w1]; simp
  clear hw_w1
  go_loopw [6] (fun s6 wr => ∃ k : Nat, k ≤ n ∧ s6 = .int .i64 (k : Int) ∧ (∀ i, i < k → l i ≤ 1000000) ∧ Below w1.heap.size w1 wr) (fun s6 _ => n - (intOf s6).toNat)
  case atStart => exact ⟨0, Nat.zero_le _, rfl, fun i hi => absurd hi (Nat.not_lt_zero i), Below.refl _ _⟩
  case round =>
    obtain ⟨k, hk, rfl, hq, hb⟩ := hrel
    have HQ := Lib.hid hq; clear hq
    have HB := Lib.hid hb
    have HW : Hid (Below w.heap.size w wr) := Lib.hid (below_then H1.out hb)
    have r0 := cell_later hb q10; have r1 := cell_later hb q11
    have f0 := frozen_after hb q10 qf10; have f1 := frozen_after hb q11 qf11
    have zr := World.block_lt_of_cell? _ _ r0
    dsimp only at zr
    by_cases hlt : k < n
    · obtain ⟨ad, rfl⟩ := HX.out.some (by omega)
      have e0 := (HX.out.later HW.out).at hlt
      have j0 : (0 : Int) ≤ (k : Int) := Int.natCast_nonneg _
      have j1 : (k : Int) < (n : Int) := by omega
      have j8 : (k : Int) < 1000 := by omega
      clear hb
      by_cases hg : 1000000 < l k
      · have n1 : decide ((1000000 : Int) < l k) = true := by simpa using hg
        have E8 := Lib.hid (RN.out k hlt hg)
        generalize l k = x at *
        clear hg
        go_wp2
        exact bodyPost_ret (v := .tuple #[.agg #[.int .i64 0, .slice none 0 0], .int .i64 8]) (by simp [results, Tryz.results86, go_sem, World.cell?_alloc_past, *]) rfl (rlPost.bad E8.out rfl (by (repeat (first | (with_reducible exact HW.out) | (with_reducible refine Below.setCell ?_ ?_ _) | (with_reducible refine below_alloc_top ?_ _) | (with_reducible refine Below.drew ?_))); all_goals (first | omega | (simp; done) | (simp; omega))))
      · have n1 : decide ((1000000 : Int) < l k) = false := by simp; omega
        have HG := Lib.hid (show l k ≤ 1000000 by omega)
        obtain ⟨x, hx⟩ : ∃ x, x = l k := ⟨_, rfl⟩
        rw [← hx] at e0 n1
        clear hg hx
        go_wp2
        go_roundw
        case rel => exact ⟨k + 1, by omega, by go_num, fun i hi => by
            rcases Nat.lt_succ_iff_lt_or_eq.1 hi with h | h
            · exact HQ.out i h
            · subst h; exact HG.out, HB.out⟩
        case measure => simp [intOf]; omega
    · have hk' : k = n := by omega
      have kk : decide ((k : Int) < (n : Int)) = false := by simp; omega
      subst hk'
      have E0 := Lib.hid (RY.out HQ.out)
      clear hb
      go_wp2
      exact bodyPost_ret (v := .tuple #[.agg #[.int .i64 ck, .slice A k c], .int .i64 0]) (by simp [results, Tryz.results86, go_sem, World.cell?_alloc_past, *]) rfl (rlPost.good E0.out rfl (by (repeat (first | (with_reducible exact HW.out) | (with_reducible refine Below.setCell ?_ ?_ _) | (with_reducible refine below_alloc_top ?_ _) | (with_reducible refine Below.drew ?_))); all_goals (first | omega | (simp; done) | (simp; omega))))
set_option maxRecDepth 100000 in
set_option maxHeartbeats 1000000 in
theorem refRounded_any (x : Wy) (o : x.ok) (w : World) :
    Calls Tryz.prog 99 #[.agg #[.int .i64 x.m.wd, .int .i64 x.m.mt, .int .i64 x.m.sk, .int .i64 x.m.th], .agg #[.int .i64 x.fx, .int .i64 x.fz], .agg #[.int .i64 x.tx, .int .i64 x.tz]] w fun e w' => e = .returned (.int .i64 ((x.cr.lLo + x.cr.lHi) / 2)) ∧ Below w.heap.size w w' := by
  have lb := l_bounds x.cr (cr_ok x o)
  have HL := Lib.hid (fun w => refLeastTime_any x o w)
  generalize x.cr.lLo = lo at *
  generalize x.cr.lHi = hi at *
  obtain ⟨b1, b2, b3, b4⟩ := lb
  clear o
  go_enter Tryz.func99, Tryz.ntmps99
  go_wp2_with fail
  refine (HL.out _).mono ?_
  rintro e w1 ⟨rfl, hb1⟩

  have H1 : Hid (Below w.heap.size w w1) := Lib.hid (below_after (by repeat (first | exact Below.refl _ _ | refine Below.drew ?_ | refine below_drewN ?_ _ | refine Below.setCell ?_ (by first | omega | (simp; done) | (simp; omega)) _ | refine Below.alloc ?_ (by first | omega | (simp; done) | (simp; omega)) _)) hb1 (by first | omega | (simp; done) | (simp; omega))); clear hb1
  go_wp2_with (go_at_call 64; refine (floor_any _ _ _ (by omega) (by omega) (by omega) (by omega)).mono ?_; rintro e w' ⟨rfl, rfl⟩)
  go_ret
  exact ⟨rfl, (by (repeat (first | (with_reducible exact H1.out) | (with_reducible refine Below.setCell ?_ ?_ _) | (with_reducible refine below_alloc_top ?_ _) | (with_reducible refine Below.drew ?_))); all_goals (first | omega | (simp; done) | (simp; omega)))⟩
set_option maxRecDepth 100000 in
set_option maxHeartbeats 1000000 in
theorem rRound_any (n b : Int) (w : World) (n0 : -1000000000000000 ≤ n) (n1 : n ≤ 1000000000000000) (b0 : 1 ≤ b) (b1 : b ≤ 1000000) :
    Calls Tryz.prog 100 #[.int .i64 n, .int .i64 b] w fun e w' => e = .returned (.int .i64 ((2 * n + b) / (2 * b))) ∧ w = w' := by
  have FL := Lib.hid (fun w => floor_any (2 * n + b) (2 * b) w (by omega) (by omega) (by omega) (by omega))
  generalize (2 * n + b) / (2 * b) = q at *
  go_enter Tryz.func100, Tryz.ntmps100
  go_wp2_with (go_at_call 64; (with_reducible refine (FL.out _).mono ?_); rintro e w' ⟨rfl, rfl⟩)
  go_ret
  exact ⟨rfl, rfl⟩
set_option maxRecDepth 100000 in
set_option maxHeartbeats 1000000 in
theorem wArrayErr_any (a : La) (A : Option Addr) (c : Nat) (w : World) (h : SpAt A a.n a.p w) (hm : a.n ≤ 9223372036854775807) :
    Calls Tryz.prog 50 #[.agg #[.slice A a.n c, .int .i64 a.m.wd, .int .i64 a.m.mt, .int .i64 a.m.sk, .int .i64 a.m.th, .int .i64 a.ck]] w fun e w' => e = .returned (.int .i64 a.E) ∧ Below w.heap.size w w' := by
  have HX := Lib.hid h; clear h
  have HL := Lib.hid (fun w h => rCheckArray_any a A c w h hm)
  generalize a.E = u at *
  generalize (a.I : Int) = v at *
  go_enter Tryz.func50, Tryz.ntmps50
  go_wp2_with fail
  refine (HL.out _ (HX.out.later ((Below.refl _ _).alloc (Nat.le_refl _) _))).mono ?_
  rintro e w1 ⟨rfl, hb1⟩

  have H1 : Hid (Below w.heap.size w w1) := Lib.hid (below_after (by repeat (first | exact Below.refl _ _ | refine Below.drew ?_ | refine below_drewN ?_ _ | refine Below.setCell ?_ (by first | omega | (simp; done) | (simp; omega)) _ | refine Below.alloc ?_ (by first | omega | (simp; done) | (simp; omega)) _)) hb1 (by first | omega | (simp; done) | (simp; omega))); clear hb1
  go_wp2
  go_ret
  exact ⟨rfl, H1.out⟩
/-- the error of a place of an array -/
def plE (a : La) (f : Sp) : Int := if placeE f.x f.z = 0 then unl (inB f.z 1 (a.m.th - 1)) 22 else placeE f.x f.z
set_option maxRecDepth 100000 in
set_option maxHeartbeats 1000000 in
theorem rPlace_any (a : La) (f : Sp) (A : Option Addr) (c : Nat) (w : World) (o : a.m.ok) :
    Calls Tryz.prog 46 #[.agg #[.slice A a.n c, .int .i64 a.m.wd, .int .i64 a.m.mt, .int .i64 a.m.sk, .int .i64 a.m.th, .int .i64 a.ck], .agg #[.int .i64 f.x, .int .i64 f.z]] w fun e w' => e = .returned (.int .i64 (plE a f)) ∧ Below w.heap.size w w' := by
  have d1 := o.d1; have d2 := o.d2
  have HS := Lib.hid (fun w => spotErr_any f.x f.z w)
  unfold plE
  generalize a.m.th = th at *
  generalize f.x = px at *
  generalize f.z = pz at *
  generalize placeE px pz = u at *
  clear o
  by_cases hu : u = 0
  · subst hu
    rw [if_pos rfl]
    cases hi : inB pz 1 (th - 1)
    all_goals
      have HI := Lib.hid hi
      clear hi
      go_enter Tryz.func46, Tryz.ntmps46
      go_wp2_with fail
      refine (HS.out _).mono ?_
      rintro e w1 ⟨rfl, hb1⟩
      have k3 : w1.cell? ⟨w.heap.size, 4, none⟩ = some (.int .i64 th) := cell_later hb1 (by simp [go_sem])
      have k4 : w1.cell? ⟨w.heap.size + 1, 1, none⟩ = some (.int .i64 pz) := cell_later hb1 (by simp [go_sem])
      have H1 : Hid (Below w.heap.size w w1) := Lib.hid (below_after (by repeat (first | exact Below.refl _ _ | refine Below.drew ?_ | refine below_drewN ?_ _ | refine Below.setCell ?_ (by first | omega | (simp; done) | (simp; omega)) _ | refine Below.alloc ?_ (by first | omega | (simp; done) | (simp; omega)) _)) hb1 (by first | omega | (simp; done) | (simp; omega))); clear hb1
      go_wp2_with (go_at_call 14; (with_reducible refine (within_any _ _ _ _).mono ?_); rw [HI.out]; rintro e w' ⟨rfl, rfl⟩)
      go_ret
      exact ⟨rfl, H1.out⟩
  · rw [if_neg hu]
    have n1 : (u != 0) = true := by simpa using hu
    go_enter Tryz.func46, Tryz.ntmps46
    go_wp2_with fail
    refine (HS.out _).mono ?_
    rintro e w1 ⟨rfl, hb1⟩
    have H1 : Hid (Below w.heap.size w w1) := Lib.hid (below_after (by repeat (first | exact Below.refl _ _ | refine Below.drew ?_ | refine below_drewN ?_ _ | refine Below.setCell ?_ (by first | omega | (simp; done) | (simp; omega)) _ | refine Below.alloc ?_ (by first | omega | (simp; done) | (simp; omega)) _)) hb1 (by first | omega | (simp; done) | (simp; omega))); clear hb1
    go_wp2
    go_ret
    exact ⟨rfl, H1.out⟩
theorem fe_place (a : La) (f : Sp) (h : a.E = 0) : a.fe f = plE a f := by
  obtain ⟨⟨n0, n1⟩, he, o, _, _⟩ := (La.E_zero a).1 h
  have key : ∀ i, i < a.n → a.e f i = plE a f := fun i hi => by
    have q := he i hi
    unfold elE at q
    rw [fst_zero] at q
    simp only [List.mem_cons, List.not_mem_nil, or_false, forall_eq_or_imp, forall_eq] at q
    obtain ⟨q1, q2⟩ := q
    have dp : dpB f.z a.m.th = inB f.z 1 (a.m.th - 1) := by
      unfold dpB inB
      congr 1
      all_goals exact decide_eq_decide.2 (by omega)
    show fst [moE a.m, fst [placeE (a.p i).x (a.p i).z, placeE f.x f.z, unl (decide ((a.p i).z < 0)) 15, unl (dpB f.z a.m.th) 22]] = _
    rw [(moE_ok a.m).2 o, q1, q2, dp]
    unfold plE
    by_cases r : placeE f.x f.z = 0
    · rw [if_pos r, r]
      by_cases s : unl (inB f.z 1 (a.m.th - 1)) 22 = 0 <;> simp [fst, s]
    · rw [if_neg r]; simp [fst, r]
  unfold La.fe
  obtain ⟨m, hm⟩ : ∃ m, a.n = m + 1 := ⟨a.n - 1, by omega⟩
  by_cases r : plE a f = 0
  · rw [r, ffE_zero]; exact fun j hj => (key j hj).trans r
  · rw [hm]
    show (if a.e f 0 = 0 then _ else a.e f 0) = _
    rw [key 0 n0, if_neg r]
/-- the latest of the first times -/
def La.mst (a : La) (f : Sp) : Nat → Int
  | 0 => 0
  | k + 1 => max (a.mst f k) (a.rt f k)
theorem mvs_nx (l : Nat → Int) (k : Nat) : mvs l (k + 1) = mvs l k ++ [.int .i64 (l k)] := by simp [mvs, List.range_succ]
theorem mst_bounds (a : La) (f : Sp) (n : Nat) (h : ∀ i, i < n → a.e f i = 0) : 0 ≤ a.mst f n ∧ a.mst f n ≤ 100000000000000 := by
  induction n with
  | zero => show (0 : Int) ≤ 0 ∧ (0 : Int) ≤ _; omega
  | succ n ih =>
    have e : a.mst f (n + 1) = max (a.mst f n) (a.rt f n) := rfl
    have := ih (fun i hi => h i (by omega)); have := rt_bounds a f n (h n (by omega)); omega
theorem mst_neg (a : La) (f : Sp) (n : Nat) (hn : 0 < n) (h : ∀ i, i < n → a.e f i = 0) : a.mst f n = -(mnL (a.mo f) n) := by
  induction n with
  | zero => omega
  | succ n ih =>
    have e : a.mst f (n + 1) = max (a.mst f n) (a.rt f n) := rfl
    have e2 : mnL (a.mo f) (n + 1) = min (mnL (a.mo f) n) (a.mo f n) := rfl
    have e3 : a.mo f n = -(a.rt f n) := rfl
    have b := rt_bounds a f n (h n (by omega))
    by_cases q : n = 0
    · subst q
      have e4 : mnL (a.mo f) 0 = a.mo f 0 := rfl
      have e5 : a.mst f 0 = 0 := rfl
      omega
    · have := ih (by omega) (fun i hi => h i (by omega)); omega
theorem rl_lo (l : Nat → Int) (n : Nat) (hn : 0 < n) : rlE l n = loE l n := by
  unfold loE
  by_cases q : 1000000 < mxL l n
  · rw [if_pos q]
    obtain ⟨i, hi, h⟩ := (big_iff l n hn).1 q
    exact rlE_no l n i hi h
  · rw [if_neg q]
    refine rlE_yes l n fun i hi => ?_
    by_cases r : 1000000 < l i
    · exact absurd ((big_iff l n hn).2 ⟨i, hi, r⟩) q
    · omega
/-- what the reference's law of a focus is: the law, or nothing -/
def foPost (ck : Int) (l : Nat → Int) (n : Nat) (E : Int) (w : World) (e : Ending) (w' : World) : Prop :=
  ∃ (A : Option Addr) (m c : Nat), e = .returned (.tuple #[.agg #[.int .i64 (if E = 0 then ck else 0), .slice A m c], .int .i64 E]) ∧ (E = 0 → m = n ∧ InAt A n l w') ∧ (E ≠ 0 → A = none ∧ m = 0 ∧ c = 0) ∧ (∀ a, A = some a → w.heap.size ≤ a.block) ∧ (∀ a, A = some a → a.block < w'.heap.size) ∧ Below w.heap.size w w'
set_option maxRecDepth 100000 in
set_option maxHeartbeats 4000000 in
theorem rFocus_any (a : La) (f : Sp) (ad : Addr) (c : Nat) (w : World) (hE : a.E = 0) (hf : a.fe f = 0) (h : SpAt (some ad) a.n a.p w) :
    Calls Tryz.prog 51 #[.agg #[.slice (some ad) a.n c, .int .i64 a.m.wd, .int .i64 a.m.mt, .int .i64 a.m.sk, .int .i64 a.m.th, .int .i64 a.ck], .agg #[.int .i64 f.x, .int .i64 f.z]] w fun e w' => foPost a.ck (a.dl f) a.n (a.FLE f) w e w' := by
  obtain ⟨j0_, ji0, jz0, jz1, jz2⟩ := info_parts infoJ
  have JI0 := Lib.hid ji0; have JZ0 := Lib.hid jz0; have JZ1 := Lib.hid jz1; have JZ2 := Lib.hid jz2
  clear ji0 jz0 jz1 jz2
  have HX := Lib.hid h; clear h
  obtain ⟨⟨n0, n1⟩, _, _, ck0, ck1⟩ := (La.E_zero a).1 hE
  have he := (ffE_zero (a.e f) a.n).1 hf
  have HRR : Hid (∀ i, i < a.n → ∀ w, Calls Tryz.prog 99 #[.agg #[.int .i64 a.m.wd, .int .i64 a.m.mt, .int .i64 a.m.sk, .int .i64 a.m.th], .agg #[.int .i64 (a.p i).x, .int .i64 (a.p i).z], .agg #[.int .i64 f.x, .int .i64 f.z]] w fun e w' => e = .returned (.int .i64 (a.rt f i)) ∧ Below w.heap.size w w') := Lib.hid (fun i hi w => refRounded_any (a.y f i) (wyE_zero_ok _ (he i hi)) w)
  have RB := Lib.hid (fun i (hi : i < a.n) => rt_bounds a f i (he i hi))
  have MS0 : Hid (a.mst f 0 = 0) := Lib.hid rfl
  have MS : Hid (∀ k, a.mst f (k + 1) = max (a.mst f k) (a.rt f k)) := Lib.hid (fun k => rfl)
  have MB := Lib.hid (fun k (hk : k ≤ a.n) => mst_bounds a f k (fun i hi => he i (by omega)))
  have DL : Hid (∀ i, a.dl f i = (2 * (a.mst f a.n - a.rt f i) + a.ck) / (2 * a.ck)) := Lib.hid (fun i => by
    have e1 : a.dl f i = (2 * (a.mo f i - mnL (a.mo f) a.n) + a.ck) / (2 * a.ck) := rfl
    have e2 : a.mo f i = -(a.rt f i) := rfl
    rw [e1, mst_neg a f a.n n0 he, e2]
    congr 2
    omega)
  have EF : a.FLE f = rlE (a.dl f) a.n := by
    unfold La.FLE La.FE; rw [if_pos hE, if_pos hf, rl_lo _ _ n0]
  have RL := Lib.hid (fun A c w h => rLawOf_any a.ck A a.n c (a.dl f) w (by omega) h)
  rw [EF]
  generalize rlE (a.dl f) a.n = E at *
  obtain ⟨u, hu⟩ : ∃ u, u = a.dl f := ⟨_, rfl⟩
  rw [← hu] at DL RL ⊢
  obtain ⟨rt, hrt⟩ : ∃ rt, rt = a.rt f := ⟨_, rfl⟩
  rw [← hrt] at HRR RB MS DL
  have XT := Lib.hid (fun k => mvs_nx rt k)
  have X0 : Hid (mvs rt 0 = []) := (rfl : mvs rt 0 = [])
  have XL := Lib.hid (fun k => mvs_len rt k)
  have YT := Lib.hid (fun k => mvs_nx u k)
  have Y0 : Hid (mvs u 0 = []) := (rfl : mvs u 0 = [])
  have YL := Lib.hid (fun k => mvs_len u k)
  clear hE hf he EF hu hrt
  go_enter Tryz.func51, Tryz.ntmps51
  go_wp2
  obtain ⟨w1, hw_w1⟩ : ∃ q, q = (((w.alloc (.cells #[.slice (some ad) a.n c, .int .i64 a.m.wd, .int .i64 a.m.mt, .int .i64 a.m.sk, .int .i64 a.m.th, .int .i64 a.ck] 59)).alloc (.cells #[.int .i64 f.x, .int .i64 f.z] 64)).alloc (.cells #[.int .i64 0, .slice none 0 0] 62)) := ⟨_, rfl⟩
  rw [← hw_w1]
  have q10 : w1.cell? ⟨w.heap.size, 0, none⟩ = some (.slice (some ad) a.n c) := by rw [hw_w1]; simp [go_sem]
  have q11 : w1.cell? ⟨w.heap.size, 1, none⟩ = some (.int .i64 a.m.wd) := by rw [hw_w1]; simp [go_sem]
  have q12 : w1.cell? ⟨w.heap.size, 2, none⟩ = some (.int .i64 a.m.mt) := by rw [hw_w1]; simp [go_sem]
  have q13 : w1.cell? ⟨w.heap.size, 3, none⟩ = some (.int .i64 a.m.sk) := by rw [hw_w1]; simp [go_sem]
  have q14 : w1.cell? ⟨w.heap.size, 4, none⟩ = some (.int .i64 a.m.th) := by rw [hw_w1]; simp [go_sem]
  have q15 : w1.cell? ⟨w.heap.size, 5, none⟩ = some (.int .i64 a.ck) := by rw [hw_w1]; simp [go_sem]
  have q16 : w1.cell? ⟨w.heap.size + 1, 0, none⟩ = some (.int .i64 f.x) := by rw [hw_w1]; simp [go_sem]
  have q17 : w1.cell? ⟨w.heap.size + 1, 1, none⟩ = some (.int .i64 f.z) := by rw [hw_w1]; simp [go_sem]
  have q18 : w1.cell? ⟨w.heap.size + 1 + 1, 0, none⟩ = some (.int .i64 0) := by rw [hw_w1]; simp [go_sem]
  have q19 : w1.cell? ⟨w.heap.size + 1 + 1, 1, none⟩ = some (.slice none 0 0) := by rw [hw_w1]; simp [go_sem]
  have qf10 : w1.frozen? ⟨w.heap.size + 1 + 1, 0, none⟩ = false := by rw [hw_w1]; simp [go_sem]
  have qf11 : w1.frozen? ⟨w.heap.size + 1 + 1, 1, none⟩ = false := by rw [hw_w1]; simp [go_sem]
  have H1 : Hid (Below w.heap.size w w1) := Lib.hid (by rw [hw_w1]; exact (by repeat (first | exact Below.refl _ _ | refine Below.drew ?_ | refine below_drewN ?_ _ | refine Below.setCell ?_ (by first | omega | (simp; done) | (simp; omega)) _ | refine Below.alloc ?_ (by first | omega | (simp; done) | (simp; omega)) _)))
  have z1 : w1.heap.size = w.heap.size + 3 := by rw [hw_w1]; simp
  clear hw_w1
  go_loopw [6, 7, 8] (fun s6 s7 s8 wr => ∃ (k : Nat) (v : Value), v = s6 ∧ k ≤ a.n ∧ s7 = .int .i64 (a.mst f k) ∧ s8 = .int .i64 (k : Int) ∧ wr.ownsRow w1.heap.size 3 1 v k (mvs rt k) ∧ Below w1.heap.size w1 wr) (fun _ _ s8 _ => a.n - (intOf s8).toNat)
  case atStart => exact ⟨0, _, rfl, Nat.zero_le _, by rw [MS0.out], rfl, by rw [X0.out]; exact World.ownsRow_nil _ _ _ _, Below.refl _ _⟩
  case round =>
    obtain ⟨k, v, rfl, hk, rfl, rfl, hown, hb⟩ := hrel
    have HB := Lib.hid hb
    have HW : Hid (Below w.heap.size w wr) := Lib.hid (below_then H1.out hb)
    have r0 : wr.cell? ⟨w.heap.size, 0, none⟩ = some (.slice (some ad) a.n c) := cell_later hb q10
    have r1 : wr.cell? ⟨w.heap.size, 1, none⟩ = some (.int .i64 a.m.wd) := cell_later hb q11
    have r2 : wr.cell? ⟨w.heap.size, 2, none⟩ = some (.int .i64 a.m.mt) := cell_later hb q12
    have r3 : wr.cell? ⟨w.heap.size, 3, none⟩ = some (.int .i64 a.m.sk) := cell_later hb q13
    have r4 : wr.cell? ⟨w.heap.size, 4, none⟩ = some (.int .i64 a.m.th) := cell_later hb q14
    have r5 : wr.cell? ⟨w.heap.size, 5, none⟩ = some (.int .i64 a.ck) := cell_later hb q15
    have r6 : wr.cell? ⟨w.heap.size + 1, 0, none⟩ = some (.int .i64 f.x) := cell_later hb q16
    have r7 : wr.cell? ⟨w.heap.size + 1, 1, none⟩ = some (.int .i64 f.z) := cell_later hb q17
    have r8 : wr.cell? ⟨w.heap.size + 1 + 1, 0, none⟩ = some (.int .i64 0) := cell_later hb q18
    have r9 : wr.cell? ⟨w.heap.size + 1 + 1, 1, none⟩ = some (.slice none 0 0) := cell_later hb q19
    have rf0 : wr.frozen? ⟨w.heap.size + 1 + 1, 0, none⟩ = false := frozen_after hb q18 qf10
    have rf1 : wr.frozen? ⟨w.heap.size + 1 + 1, 1, none⟩ = false := frozen_after hb q19 qf11
    have zr0 := World.block_lt_of_cell? _ _ r0
    dsimp only at zr0
    have zr1 := World.block_lt_of_cell? _ _ r6
    dsimp only at zr1
    have zr2 := World.block_lt_of_cell? _ _ r8
    dsimp only at zr2
    clear hb
    by_cases hlt : k < a.n
    · obtain ⟨c0, c1⟩ := (HX.out.later HW.out).at hlt
      have j0 : (0 : Int) ≤ (k : Int) := Int.natCast_nonneg _
      have j1 : (k : Int) < (a.n : Int) := by omega
      have j8 : (k : Int) < 1000 := by omega
      have RK := Lib.hid (HRR.out k hlt)
      obtain ⟨b0, b1⟩ := RB.out k hlt
      have MK := Lib.hid (MS.out k)
      obtain ⟨m0, m1⟩ := MB.out k (by omega)
      have HO := Lib.hid hown; clear hown
      generalize a.mst f k = mk at *
      obtain ⟨y, hy⟩ : ∃ y, y = rt k := ⟨_, rfl⟩
      have HY := Lib.hid hy
      rw [← hy] at RK MK b0 b1
      clear hy
      generalize (a.p k).x = px at *
      generalize (a.p k).z = pz at *
      have hS : Below wr.heap.size wr wr := Below.refl _ _
      go_upto_region 6 with fail
      go_region_held3 (fun w' => w'.cell? ⟨w.heap.size, 0, none⟩ = some (.slice (some ad) a.n c) ∧ w'.cell? ⟨w.heap.size, 1, none⟩ = some (.int .i64 a.m.wd) ∧ w'.cell? ⟨w.heap.size, 2, none⟩ = some (.int .i64 a.m.mt) ∧ w'.cell? ⟨w.heap.size, 3, none⟩ = some (.int .i64 a.m.sk) ∧ w'.cell? ⟨w.heap.size, 4, none⟩ = some (.int .i64 a.m.th) ∧ w'.cell? ⟨w.heap.size, 5, none⟩ = some (.int .i64 a.ck) ∧ w'.cell? ⟨w.heap.size + 1, 0, none⟩ = some (.int .i64 f.x) ∧ w'.cell? ⟨w.heap.size + 1, 1, none⟩ = some (.int .i64 f.z) ∧ w'.cell? (ad.add (k * 2)) = some (.int .i64 px) ∧ w'.cell? ⟨(ad.add (k * 2)).block, (ad.add (k * 2)).off + 1, none⟩ = some (.int .i64 pz) ∧ Below wr.heap.size wr w') ((go_split_ands; (repeat' apply And.intro) <;> ((repeat (first | (with_reducible assumption) | (with_reducible refine cell_alloc_later ?_ _) | (with_reducible refine cell_drw2 ?_) | (with_reducible exact cell_later (by with_reducible assumption) (by with_reducible assumption)) | (with_reducible exact below_then (by with_reducible assumption) (by with_reducible assumption)) | (with_reducible refine Below.drew ?_) | (simp [go_sem, World.cell?_alloc_past, *]; done))); done)))
        ((go_split_ands; go_at_call 99; (with_reducible refine (RK.out _).mono ?_); rintro e w' ⟨rfl, hb⟩))
      go_split_ands
      have yT : Below wr.heap.size wr w' := by first | (with_reducible assumption) | (with_reducible exact Below.drew (by with_reducible assumption))
      have OT := Lib.hid (own_later HO.out yT)
      have zT := yT.size
      have BT := Lib.hid (Below.trans HB.out (yT.mono HB.out.size))
      have ag := Lib.hid (fun q e => (OT.out.lt q e).1)
      clear yT
      have bm6 : (k + 1 : Nat) ≤ maxLen := by unfold maxLen; omega
      have BM6 := Lib.hid bm6; clear bm6
      have nb6 : ∀ j u, (#[.int .i64 y] : Array Value).toList[j]? = some u → (w'.alloc (.cells #[.int .i64 y] 3)).cell? ((⟨w'.heap.size, 0, none⟩ : Addr).add j) = some u :=
        World.news_of_block (t := 3) (fr := (0, 0)) (by have h := heap_alloc_new w' (.cells #[.int .i64 y] 3); simpa using h)
      have NB6 := Lib.hid nb6; clear nb6
      go_wp2_with (at_builtin; refine wpList_append_lies _ rfl _ _ _ rfl (w1.heap.size) 3 j0_ _ 1 8 Tryz.underlying60 JI0.out JZ0.out JZ1.out JZ2.out rfl (by omega) v (k) (mvs rt k) rfl (OT.out.alloc _) ⟨w'.heap.size, 0, none⟩ 1 1 [.int .i64 y] rfl rfl NB6.out (by simp [Value.oneCell']) (by omega) BM6.out (by omega) (by simp; omega) (w'.heap.size + 1) (by simp) ?_; intro g6 cap6 w6 hown6 hgrow6 hat6 hlt6)
      have HO6 := Lib.hid hown6; clear hown6
      have HG6 := Lib.hid hgrow6; clear hgrow6 hat6 hlt6
      go_roundw
      case rel => exact ⟨k + 1, _, rfl, by omega, by rw [MK.out], by go_num, by rw [XT.out, ← HY.out]; exact HO6.out, (BT.out.alloc (by omega) _).grown HG6.out (by simp; omega) (fun q e => ag.out q e)⟩
      case measure => simp [intOf]; omega
    · have hk' : k = a.n := by omega
      have kk : decide ((k : Int) < (a.n : Int)) = false := by simp; omega
      subst hk'
      obtain ⟨gt, ct, rfl, hg0, hg1, hR⟩ := own_row hown n0
      have HR := Lib.hid hR
      obtain ⟨M0, M1⟩ := MB.out a.n (Nat.le_refl _)
      generalize a.mst f a.n = most at *
      clear hown hR MS MS0 MB
      obtain ⟨wp, hwp⟩ : ∃ q, q = wr := ⟨_, rfl⟩
      subst hwp
      go_wp2_with fail
      go_loopw [10, 11] (fun s10 s11 wr => ∃ (j : Nat) (v : Value), v = s10 ∧ j ≤ a.n ∧ s11 = .int .i64 (j : Int) ∧ wr.ownsRow wp.heap.size 3 1 v j (mvs u j) ∧ Below wp.heap.size wp wr) (fun _ s11 _ => a.n - (intOf s11).toNat)
      case atStart => exact ⟨0, _, rfl, Nat.zero_le _, rfl, by rw [Y0.out]; exact World.ownsRow_nil _ _ _ _, Below.refl _ _⟩
      case round =>
        obtain ⟨j, v, rfl, hj, rfl, hown, hb⟩ := hrel
        have sz := hb.size
        have HBq := Lib.hid hb
        have HWq : Hid (Below w.heap.size w wr) := Lib.hid (below_then HW.out hb)
        have ag := Lib.hid (fun q e => (hown.lt q e).1)
        have AG : Hid (∀ q, v.ownBlock = some q → wp.heap.size ≤ q) := Lib.hid (fun q e => (hown.lt q e).1)
        have s0 : wr.cell? ⟨w.heap.size, 0, none⟩ = some (.slice (some ad) a.n c) := cell_later hb r0
        have s1 : wr.cell? ⟨w.heap.size, 1, none⟩ = some (.int .i64 a.m.wd) := cell_later hb r1
        have s2 : wr.cell? ⟨w.heap.size, 2, none⟩ = some (.int .i64 a.m.mt) := cell_later hb r2
        have s3 : wr.cell? ⟨w.heap.size, 3, none⟩ = some (.int .i64 a.m.sk) := cell_later hb r3
        have s4 : wr.cell? ⟨w.heap.size, 4, none⟩ = some (.int .i64 a.m.th) := cell_later hb r4
        have s5 : wr.cell? ⟨w.heap.size, 5, none⟩ = some (.int .i64 a.ck) := cell_later hb r5
        have s6 : wr.cell? ⟨w.heap.size + 1, 0, none⟩ = some (.int .i64 f.x) := cell_later hb r6
        have s7 : wr.cell? ⟨w.heap.size + 1, 1, none⟩ = some (.int .i64 f.z) := cell_later hb r7
        have s8 : wr.cell? ⟨w.heap.size + 1 + 1, 0, none⟩ = some (.int .i64 0) := cell_later hb r8
        have s9 : wr.cell? ⟨w.heap.size + 1 + 1, 1, none⟩ = some (.slice none 0 0) := cell_later hb r9
        have sf0 : wr.frozen? ⟨w.heap.size + 1 + 1, 0, none⟩ = false := frozen_after hb r8 rf0
        have sf1 : wr.frozen? ⟨w.heap.size + 1 + 1, 1, none⟩ = false := frozen_after hb r9 rf1
        have zs0 := World.block_lt_of_cell? _ _ s0
        dsimp only at zs0
        have zs1 := World.block_lt_of_cell? _ _ s6
        dsimp only at zs1
        have zs2 := World.block_lt_of_cell? _ _ s8
        dsimp only at zs2
        by_cases hlt : j < a.n
        · have e0 := (HR.out.later hb j hlt).1
          have j0 : (0 : Int) ≤ (j : Int) := Int.natCast_nonneg _
          have j1 : (j : Int) < (a.n : Int) := by omega
          have j8 : (j : Int) < 1000 := by omega
          obtain ⟨b0, b1⟩ := RB.out j hlt
          have DJ := Lib.hid (DL.out j)
          clear hb
          generalize rt j = x at *
          have RJ := Lib.hid (fun w => rRound_any (most - x) a.ck w (by omega) (by omega) ck0 ck1)
          obtain ⟨dj, hdj⟩ : ∃ dj, dj = u j := ⟨_, rfl⟩
          have DD := Lib.hid hdj
          rw [← DJ.out, ← hdj] at RJ
          clear hdj
          have v1 : IntKind.i64.wrap (most - x) = most - x := IntWalk.i64_in _ (by omega)
          have bm6 : (j + 1 : Nat) ≤ maxLen := by unfold maxLen; omega
          have BM6 := Lib.hid bm6; clear bm6
          clear s0 s1 s2 s3 s4 s6 s7 s8 s9 sf0 sf1
          go_wp2_with fail
          go_region_held3 (fun w' => w'.cell? ⟨w.heap.size, 5, none⟩ = some (.int .i64 a.ck) ∧ w'.cell? ⟨gt, j, none⟩ = some (.int .i64 x))
            (first
              | ((go_split_ands; (repeat' apply And.intro) <;> ((repeat (first | (with_reducible assumption) | (with_reducible refine cell_alloc_later ?_ _) | (with_reducible refine cell_drw2 ?_) | (simp [go_sem, World.cell?_alloc_past, *]; done))); done)))
              | (go_split_ands; (repeat' apply And.intro) <;> (refine World.grownBy.cell hgrow6 (by first | (with_reducible assumption) | (with_reducible exact cell_alloc_later (by with_reducible assumption) _)) (fun e => by have q := AG.out _ e.symm; (try dsimp only at q); omega))))
            (first | (go_at_call 100; (with_reducible refine (RJ.out _).mono ?_); rintro e w' ⟨rfl, rfl⟩) | (refine step_append_lies _ (by rfl) _ _ _ (by rfl) wp.heap.size 3 j0_ _ 1 8 Tryz.underlying60 JI0.out JZ0.out JZ1.out JZ2.out rfl (by omega) v j (mvs u j) (by rfl) (by first | exact hown.alloc _ | exact (hown.alloc _).drew) ⟨wr.heap.size, 0, none⟩ 1 1 [.int .i64 dj] (by rfl) (by rfl) (World.news_of_block (cs := #[.int .i64 dj]) (t := 3) (fr := (0, 0)) (heap_alloc_new wr _)) (by simp [Value.oneCell']) (by omega) BM6.out (by omega) (by simp; omega) (wr.heap.size + 1) (by simp) ?_; intro g6 cap6 w6 hown6 hgrow6 hat6 hlt6))
          have HO6 := Lib.hid hown6; clear hown6
          have HG6 := Lib.hid hgrow6; clear hgrow6 hat6 hlt6
          go_wp2
          go_roundw
          case rel => exact ⟨j + 1, _, rfl, by omega, by go_num, by rw [YT.out, ← DD.out]; exact HO6.out, by first | exact (HBq.out.alloc (by omega) _).drew.grown HG6.out (by simp; omega) (fun q e => ag.out q e) | exact (HBq.out.alloc (by omega) _).grown HG6.out (by simp; omega) (fun q e => ag.out q e)⟩
          case measure => simp [intOf]; omega
        · have hj' : j = a.n := by omega
          have kj : decide ((j : Int) < (a.n : Int)) = false := by simp; omega
          subst hj'
          obtain ⟨gd, cd, rfl, hd0, hd1, hD⟩ := own_row hown n0
          have HD := Lib.hid hD
          clear hown hb hD
          go_wp2_with fail
          refine (RL.out _ _ _ HD.out.at).mono ?_
          rintro e_ w2 ⟨A5, n5, c5, rfl, hgd, hbd, hb2⟩
          have t0 : w2.cell? ⟨w.heap.size, 0, none⟩ = some (.slice (some ad) a.n c) := cell_later hb2 s0
          have t1 : w2.cell? ⟨w.heap.size, 1, none⟩ = some (.int .i64 a.m.wd) := cell_later hb2 s1
          have t2 : w2.cell? ⟨w.heap.size, 2, none⟩ = some (.int .i64 a.m.mt) := cell_later hb2 s2
          have t3 : w2.cell? ⟨w.heap.size, 3, none⟩ = some (.int .i64 a.m.sk) := cell_later hb2 s3
          have t4 : w2.cell? ⟨w.heap.size, 4, none⟩ = some (.int .i64 a.m.th) := cell_later hb2 s4
          have t5 : w2.cell? ⟨w.heap.size, 5, none⟩ = some (.int .i64 a.ck) := cell_later hb2 s5
          have t6 : w2.cell? ⟨w.heap.size + 1, 0, none⟩ = some (.int .i64 f.x) := cell_later hb2 s6
          have t7 : w2.cell? ⟨w.heap.size + 1, 1, none⟩ = some (.int .i64 f.z) := cell_later hb2 s7
          have t8 : w2.cell? ⟨w.heap.size + 1 + 1, 0, none⟩ = some (.int .i64 0) := cell_later hb2 s8
          have t9 : w2.cell? ⟨w.heap.size + 1 + 1, 1, none⟩ = some (.slice none 0 0) := cell_later hb2 s9
          have tf0 : w2.frozen? ⟨w.heap.size + 1 + 1, 0, none⟩ = false := frozen_after hb2 s8 sf0
          have tf1 : w2.frozen? ⟨w.heap.size + 1 + 1, 1, none⟩ = false := frozen_after hb2 s9 sf1
          have zt0 := World.block_lt_of_cell? _ _ t0
          dsimp only at zt0
          have zt1 := World.block_lt_of_cell? _ _ t6
          dsimp only at zt1
          have zt2 := World.block_lt_of_cell? _ _ t8
          dsimp only at zt2
          have W2 : Hid (Below w.heap.size w w2) := Lib.hid (below_then HWq.out hb2)
          have R2 := Lib.hid (HD.out.later hb2)
          have zz := hb2.size
          clear hb2
          by_cases hE : E = 0
          · obtain ⟨q1, q2, q3⟩ := hgd hE
            have q3' := q3.symm
            subst q1
            subst q2
            subst q3'
            have HE := Lib.hid hE
            rw [if_pos hE, hE]
            clear hgd hbd hE
            go_wp2
            refine bodyPost_ret (v := .tuple #[.agg #[.int .i64 (a.ck), .slice (some ⟨gd, 0, none⟩) a.n cd], .int .i64 (0)]) (by simp [results, Tryz.results51, go_sem, World.cell?_alloc_past, *]) rfl ?_
            rw [HE.out]
            have qb : Below w.heap.size w ((w2.setCell ⟨w.heap.size + 1 + 1, 0, none⟩ (.int .i64 a.ck)).setCell ⟨w.heap.size + 1 + 1, 1, none⟩ (.slice (some ⟨gd, 0, none⟩) a.n cd)) := (W2.out.setCell (by dsimp only; omega) _).setCell (by dsimp only; omega) _
            have qr := (((R2.out.set (w.heap.size + 1 + 1) 0 (.int .i64 a.ck) (by omega)).set (w.heap.size + 1 + 1) 1 (.slice (some ⟨gd, 0, none⟩) a.n cd) (by omega)).at)
            exact ⟨_, _, _, by rw [if_pos rfl], fun _ => ⟨rfl, qr⟩, fun q => absurd rfl q, fun a e => by cases e; dsimp only; omega, fun a e => by cases e; dsimp only; simp; omega, qb⟩
          · obtain ⟨rfl, rfl, rfl⟩ := hbd hE
            have HE := Lib.hid hE
            rw [if_neg hE]
            clear hgd hbd hE
            go_wp2
            exact bodyPost_ret (v := .tuple #[.agg #[.int .i64 (0), .slice none 0 0], .int .i64 (E)]) (by simp [results, Tryz.results51, go_sem, World.cell?_alloc_past, *]) rfl ⟨none, 0, 0, by rw [if_neg HE.out], fun q => absurd q HE.out, fun _ => ⟨rfl, rfl, rfl⟩, fun a e => (by cases e), fun a e => (by cases e), (by (repeat (first | (with_reducible exact W2.out) | (with_reducible refine Below.setCell ?_ ?_ _) | (with_reducible refine below_alloc_top ?_ _) | (with_reducible refine Below.drew ?_))); all_goals (first | omega | (simp; done) | (simp; omega)))⟩
end Go.Proofs.YtnhbmmpjifliaaaGreatDoor
