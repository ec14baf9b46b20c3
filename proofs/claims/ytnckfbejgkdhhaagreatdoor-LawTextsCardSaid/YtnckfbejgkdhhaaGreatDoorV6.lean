/- the law of a focus -/
import Derived.Test.YtnckfbejgkdhhaaGreatDoorV3
import Derived.Test.YtnckfbejgkdhhaaGreatDoorV5
import Derived.Test.YtnckfbejgkdhhaaGreatDoorB4
import Derived.Deep.AppendLies
import Derived.OwnWalk
namespace Go.Proofs.YtnckfbejgkdhhaaGreatDoor
open Go.RowKit Go.Shelf RayM
set_option linter.unusedSimpArgs false
set_option linter.unusedVariables false

theorem infoJ : (Tryz.prog.info? 3).map (fun i => (i.zero, i.size, i.bytes)) = some (some (.int .i64 0), 1, 8) := by kernel_rfl
/-- the way from an element to a place, its rounded time, and the moments at which the elements send -/
def La.y (a : La) (f : Sp) (i : Nat) : Wy := ⟨a.m, (a.p i).x, (a.p i).z, f.x, f.z⟩
def La.e (a : La) (f : Sp) (i : Nat) : Int := wyE (a.y f i)
def La.rt (a : La) (f : Sp) (i : Nat) : Int := ((a.y f i).cr.lLo + (a.y f i).cr.lHi) / 2
def La.mo (a : La) (f : Sp) (i : Nat) : Int := -(a.rt f i)
def La.fe (a : La) (f : Sp) : Int := ffE (a.e f) 0 a.n
def La.dl (a : La) (f : Sp) : Nat → Int := dly (a.mo f) a.n a.ck
def La.FE (a : La) (f : Sp) : Int := if a.fe f = 0 then loE (a.dl f) a.n else a.fe f
def La.FC (a : La) (f : Sp) : Int := if a.fe f = 0 then loC (a.dl f) a.n a.ck else 0
def La.FX (a : La) (f : Sp) : List Int := if a.fe f = 0 then loX (a.dl f) a.n else []
theorem wyE_zero_ok (x : Wy) (h : wyE x = 0) : x.ok := (wyE_ok x).1 h
theorem rt_bounds (a : La) (f : Sp) (i : Nat) (h : a.e f i = 0) : 0 ≤ a.rt f i ∧ a.rt f i ≤ 100000000000000 := by
  have lb := l_bounds (a.y f i).cr (cr_ok _ (wyE_zero_ok _ h))
  unfold La.rt
  omega
theorem grownBy_setCellI (W : World) (b i : Nat) (v : Value) : W.grownBy (W.setCell ⟨b, i, none⟩ v) (some b) :=
  ⟨rfl, rfl, rfl, (KeepsWalks.setCell W _ v).size, fun k _ hk => Below.heap_setCell _ _ _ k (fun e => hk (by rw [e]))⟩
theorem own_set {W : World} {b : Nat} {e : TypeId} {s : Nat} {v : Value} {n : Nat} {xs : List Value} (h : W.ownsRow b e s v n xs) (B i : Nat) (u : Value) (hB : B < b) : (W.setCell ⟨B, i, none⟩ u).ownsRow b e s v n xs :=
  h.kept (grownBy_setCellI W B i u) (.inr (fun e => by have := (h.lt _ e).1; omega))
def mvs (l : Nat → Int) (k : Nat) : List Value := (List.range k).map fun i => Value.int .i64 (l i)
theorem mvs_succ (l : Nat → Int) (k : Nat) : mvs l (k + 1) = mvs l k ++ [.int .i64 (l k)] := by simp [mvs, List.range_succ]
theorem mvs_len (l : Nat → Int) (k : Nat) : (mvs l k).length = k := by simp [mvs]
theorem mvs_get (l : Nat → Int) (n i : Nat) (h : i < n) : (mvs l n)[i]? = some (.int .i64 (l i)) := by simp [mvs, h]
set_option maxRecDepth 100000 in
set_option maxHeartbeats 1000000 in
theorem focusLaw_any (a : La) (f : Sp) (A : Option Addr) (c : Nat) (w : World) (h : SpAt A a.n a.p w) (hn : 0 < a.n) (hm : a.n ≤ 16) (k0 : 1 ≤ a.ck) (k1 : a.ck ≤ 1000000) :
    Calls Tryz.prog 31 #[.agg #[.slice A a.n c, .int .i64 a.m.wd, .int .i64 a.m.mt, .int .i64 a.m.sk, .int .i64 a.m.th, .int .i64 a.ck], .agg #[.int .i64 f.x, .int .i64 f.z]] w fun e w' => ∃ v : Value, e = .returned (.tuple #[.agg #[.int .i64 (a.FC f), v], .int .i64 (a.FE f)]) ∧ w'.ownsRow w.heap.size 3 1 v (a.FX f).length ((a.FX f).map (Value.int .i64)) ∧ Below w.heap.size w w' := by
  obtain ⟨j0_, ji0, jz0, jz1, jz2⟩ := info_parts infoJ
  have JI0 := Lib.hid ji0; have JZ0 := Lib.hid jz0; have JZ1 := Lib.hid jz1; have JZ2 := Lib.hid jz2
  clear ji0 jz0 jz1 jz2
  have HX := Lib.hid h; clear h
  have FS := Lib.hid (ffE_step (a.e f))
  have FZ := Lib.hid (ffE_zero (a.e f) a.n)
  have RB := Lib.hid (fun i (h : a.e f i = 0) => rt_bounds a f i h)
  have TS : Hid (∀ k, mvs (a.mo f) (k + 1) = mvs (a.mo f) k ++ [.int .i64 (a.mo f k)]) := fun k => mvs_succ (a.mo f) k
  have T0 : Hid (mvs (a.mo f) 0 = []) := (rfl : mvs (a.mo f) 0 = [])
  have RY : Hid (∀ i, a.e f i = 0 → ∀ w, Calls Tryz.prog 49 #[.agg #[.int .i64 a.m.wd, .int .i64 a.m.mt, .int .i64 a.m.sk, .int .i64 a.m.th], .agg #[.int .i64 (a.p i).x, .int .i64 (a.p i).z], .agg #[.int .i64 f.x, .int .i64 f.z]] w fun e w' => e = .returned (.tuple #[.int .i64 (a.rt f i), .int .i64 0]) ∧ Below w.heap.size w w') := Lib.hid (fun i h w => rounded_ok (a.y f i) (wyE_zero_ok _ h) w)
  have RN : Hid (∀ i, a.e f i ≠ 0 → ∀ w, Calls Tryz.prog 49 #[.agg #[.int .i64 a.m.wd, .int .i64 a.m.mt, .int .i64 a.m.sk, .int .i64 a.m.th], .agg #[.int .i64 (a.p i).x, .int .i64 (a.p i).z], .agg #[.int .i64 f.x, .int .i64 f.z]] w fun e w' => e = .returned (.tuple #[.int .i64 0, .int .i64 (a.e f i)]) ∧ Below w.heap.size w w') := Lib.hid (fun i h w => rounded_bad (a.y f i) h w)
  have LO := Lib.hid (fun A' c' (hz : a.fe f = 0) w h' => lawOf_any A a.n c a.m.wd a.m.mt a.m.sk a.m.th a.ck A' a.n c' (a.mo f) a.ck hn (by omega) (fun i hi => by have := rt_bounds a f i ((ffE_zero _ _).1 hz i hi); show -100000000000000000 ≤ -(a.rt f i) ∧ -(a.rt f i) ≤ 100000000000000000; omega) k0 (by omega) w h')
  have DE : Hid (a.fe f = 0 → a.FE f = loE (a.dl f) a.n ∧ a.FC f = loC (a.dl f) a.n a.ck ∧ a.FX f = loX (a.dl f) a.n) := Lib.hid (fun h => ⟨by unfold La.FE; rw [if_pos h], by unfold La.FC; rw [if_pos h], by unfold La.FX; rw [if_pos h]⟩)
  have DN : Hid (a.fe f ≠ 0 → a.FE f = a.fe f ∧ a.FC f = 0 ∧ a.FX f = []) := Lib.hid (fun h => ⟨by unfold La.FE; rw [if_neg h], by unfold La.FC; rw [if_neg h], by unfold La.FX; rw [if_neg h]⟩)
  have DD : Hid (a.dl f = dly (a.mo f) a.n a.ck) := (rfl : a.dl f = _)
  generalize a.FE f = vE at *
  generalize a.FC f = vC at *
  generalize a.FX f = vX at *
  generalize a.dl f = dl at *
  have EQ : Hid (a.fe f = ffE (a.e f) 0 a.n) := (rfl : a.fe f = _)
  generalize a.fe f = E0 at *
  go_enter Tryz.func31, Tryz.ntmps31
  go_wp2
  obtain ⟨w1, hw_w1⟩ : ∃ q, q = (((w.alloc (.cells #[.slice A a.n c, .int .i64 a.m.wd, .int .i64 a.m.mt, .int .i64 a.m.sk, .int .i64 a.m.th, .int .i64 a.ck] 69)).alloc (.cells #[.int .i64 f.x, .int .i64 f.z] 45)).alloc (.cells #[.int .i64 0, .slice none 0 0] 24)) := ⟨_, rfl⟩
  rw [← hw_w1]
  have q10 : w1.cell? ⟨w.heap.size, 0, none⟩ = some (.slice A a.n c) := by rw [hw_w1]; simp [go_sem]
  have q11 : w1.cell? ⟨w.heap.size, 1, none⟩ = some (.int .i64 a.m.wd) := by rw [hw_w1]; simp [go_sem]
  have q12 : w1.cell? ⟨w.heap.size, 2, none⟩ = some (.int .i64 a.m.mt) := by rw [hw_w1]; simp [go_sem]
  have q13 : w1.cell? ⟨w.heap.size, 3, none⟩ = some (.int .i64 a.m.sk) := by rw [hw_w1]; simp [go_sem]
  have q14 : w1.cell? ⟨w.heap.size, 4, none⟩ = some (.int .i64 a.m.th) := by rw [hw_w1]; simp [go_sem]
  have q15 : w1.cell? ⟨w.heap.size, 5, none⟩ = some (.int .i64 a.ck) := by rw [hw_w1]; simp [go_sem]
  have q16 : w1.cell? ⟨w.heap.size + 1, 0, none⟩ = some (.int .i64 f.x) := by rw [hw_w1]; simp [go_sem]
  have q17 : w1.cell? ⟨w.heap.size + 1, 1, none⟩ = some (.int .i64 f.z) := by rw [hw_w1]; simp [go_sem]
  have q18 : w1.cell? ⟨w.heap.size + 1 + 1, 0, none⟩ = some (.int .i64 0) := by rw [hw_w1]; simp [go_sem]
  have q19 : w1.cell? ⟨w.heap.size + 1 + 1, 1, none⟩ = some (.slice none 0 0) := by rw [hw_w1]; simp [go_sem]
  have qf10 : w1.frozen? ⟨w.heap.size + 1 + 1, 0, none⟩ = false := by rw [hw_w1]; simp [go_sem]
  have qf11 : w1.frozen? ⟨w.heap.size + 1 + 1, 1, none⟩ = false := by rw [hw_w1]; simp [go_sem]
  have H1 : Hid (Below w.heap.size w w1) := Lib.hid (by rw [hw_w1]; exact (by repeat (first | exact Below.refl _ _ | refine Below.drew ?_ | refine below_drewN ?_ _ | refine Below.setCell ?_ (by first | omega | (simp; done) | (simp; omega)) _ | refine Below.alloc ?_ (by first | omega | (simp; done) | (simp; omega)) _)))
  have z1 : w1.heap.size = w.heap.size + 3 := by rw [hw_w1]; simp
  clear hw_w1
  go_loopw [6, 15] (fun s6 s15 wr => ∃ (k : Nat) (v : Value), v = s6 ∧ k ≤ a.n ∧ s15 = .int .i64 (k : Int) ∧ wr.ownsRow w1.heap.size 3 1 v k (mvs (a.mo f) k) ∧ ffE (a.e f) k (a.n - k) = E0 ∧ (∀ i, i < k → a.e f i = 0) ∧ Below w1.heap.size w1 wr) (fun _ s15 _ => a.n - (intOf s15).toNat)
  case atStart => exact ⟨0, _, rfl, Nat.zero_le _, rfl, by rw [T0.out]; exact World.ownsRow_nil _ _ _ _, by rw [EQ.out]; rfl, fun i hi => absurd hi (Nat.not_lt_zero i), Below.refl _ _⟩
  case round =>
    obtain ⟨k, v, rfl, hk, rfl, hown, hE, hZ, hb⟩ := hrel
    have HE := Lib.hid hE; have HZ := Lib.hid hZ; clear hE hZ
    have r0 : wr.cell? ⟨w.heap.size, 0, none⟩ = some (.slice A a.n c) := cell_later hb q10
    have r1 : wr.cell? ⟨w.heap.size, 1, none⟩ = some (.int .i64 a.m.wd) := cell_later hb q11
    have r2 : wr.cell? ⟨w.heap.size, 2, none⟩ = some (.int .i64 a.m.mt) := cell_later hb q12
    have r3 : wr.cell? ⟨w.heap.size, 3, none⟩ = some (.int .i64 a.m.sk) := cell_later hb q13
    have r4 : wr.cell? ⟨w.heap.size, 4, none⟩ = some (.int .i64 a.m.th) := cell_later hb q14
    have r5 : wr.cell? ⟨w.heap.size, 5, none⟩ = some (.int .i64 a.ck) := cell_later hb q15
    have r6 : wr.cell? ⟨w.heap.size + 1, 0, none⟩ = some (.int .i64 f.x) := cell_later hb q16
    have r7 : wr.cell? ⟨w.heap.size + 1, 1, none⟩ = some (.int .i64 f.z) := cell_later hb q17
    have r8 : wr.cell? ⟨w.heap.size + 1 + 1, 0, none⟩ = some (.int .i64 0) := cell_later hb q18
    have r9 : wr.cell? ⟨w.heap.size + 1 + 1, 1, none⟩ = some (.slice none 0 0) := cell_later hb q19
    have rf0 : wr.frozen? ⟨w.heap.size + 1 + 1, 0, none⟩ = false := frozen_after hb q18 qf10
    have rf1 : wr.frozen? ⟨w.heap.size + 1 + 1, 1, none⟩ = false := frozen_after hb q19 qf11
    have sz := hb.size
    have zr0 : w.heap.size < wr.heap.size := by omega
    have zr1 : w.heap.size + 1 < wr.heap.size := by omega
    have zr2 : w.heap.size + 1 + 1 < wr.heap.size := by omega
    have HB := Lib.hid hb
    have HW : Hid (Below w.heap.size w wr) := Lib.hid (Below.trans H1.out (hb.mono H1.out.size))
    by_cases hlt : k < a.n
    · obtain ⟨ad, rfl⟩ := HX.out.some (by omega)
      obtain ⟨e0, e1⟩ := (HX.out.later HW.out).at hlt
      have j0 : (0 : Int) ≤ (k : Int) := Int.natCast_nonneg _
      have j1 : (k : Int) < (a.n : Int) := by omega
      have j8 : (k : Int) < 1000 := by omega
      clear hb
      by_cases hg : a.e f k = 0
      · have rb := RB.out k hg
        have e2 : IntKind.i64.wrap (-(a.rt f k)) = -(a.rt f k) := IntWalk.i64_in _ (by omega)
        have MO : Hid (-(a.rt f k) = a.mo f k) := (rfl : -(a.rt f k) = a.mo f k)
        rw [MO.out] at e2
        have HL := Lib.hid (RY.out k hg)
        have HG := Lib.hid hg
        have NM : Hid (IntKind.i64.wrap (-(a.rt f k)) = a.mo f k) := by show _ = _; rw [MO.out]; exact e2
        clear hg rb e2
        go_wp2_with fail
        refine (HL.out _).mono ?_
        rintro e w5 ⟨rfl, hb5⟩
        have zz5 := hb5.size
        simp at zz5
        have hown5 := own_later (hown.alloc _) hb5
        have H5 : Hid (Below w1.heap.size w1 w5) := Lib.hid (below_then (by (repeat (first | (with_reducible exact HB.out) | (with_reducible refine Below.setCell ?_ ?_ _) | (with_reducible refine below_alloc_top ?_ _) | (with_reducible refine Below.drew ?_))); all_goals (first | omega | (simp; done) | (simp; omega))) hb5)
        have ag5 := Lib.hid (fun q e => (hown5.lt q e).1)
        clear hb5
        have sz5 := H5.out.size
        have nm := NM.out
        have bm6 : (k + 1 : Nat) ≤ maxLen := by unfold maxLen; omega
        have BM6 := Lib.hid bm6; clear bm6
        have nb6 : ∀ j u, (#[.int .i64 (a.mo f k)] : Array Value).toList[j]? = some u → (w5.alloc (.cells #[.int .i64 (a.mo f k)] 3)).cell? ((⟨w5.heap.size, 0, none⟩ : Addr).add j) = some u :=
          World.news_of_block (t := 3) (fr := (0, 0)) (by have h := heap_alloc_new w5 (.cells #[.int .i64 (a.mo f k)] 3); simpa using h)
        have NB6 := Lib.hid nb6; clear nb6
        go_wp2_with (at_builtin; refine wpList_append_lies _ rfl _ _ _ rfl w1.heap.size 3 j0_ _ 1 8 Tryz.underlying22 JI0.out JZ0.out JZ1.out JZ2.out rfl (by omega) v (k) (mvs (a.mo f) k) rfl (hown5.alloc _) ⟨w5.heap.size, 0, none⟩ 1 1 [.int .i64 (a.mo f k)] rfl rfl NB6.out (by simp [Value.oneCell']) (by omega) BM6.out (by omega) (by simp; omega) (w5.heap.size + 1) (by simp) ?_; intro g6 cap6 w6 hown6 hgrow6 hat6 hlt6)
        have HO6 := Lib.hid hown6; clear hown6
        have HG6 := Lib.hid hgrow6; clear hgrow6 hat6 hlt6
        go_roundw
        case rel => exact ⟨k + 1, _, rfl, by omega, by go_num, by rw [TS.out]; exact HO6.out, by rw [← HE.out, FS.out k a.n hlt, if_pos HG.out], fun i hi => by rcases Nat.lt_succ_iff_lt_or_eq.1 hi with h | h; exact HZ.out i h; rw [h]; exact HG.out, (H5.out.alloc (by omega) _).grown HG6.out (by simp; omega) (fun q e => ag5.out q e)⟩
        case measure => simp [intOf]; omega
      · have HL := Lib.hid (RN.out k hg)
        have n1 : (a.e f k != 0) = true := by simpa using hg
        have EE : Hid (E0 = a.e f k) := by show _ = _; rw [← HE.out, FS.out k a.n hlt, if_neg hg]
        have DN' := Lib.hid (DN.out (by rw [EE.out]; exact hg))
        clear hg
        go_wp2_with fail
        refine (HL.out _).mono ?_
        rintro e w5 ⟨rfl, hb5⟩
        have s0 := cell_later hb5 (cell_alloc_later r8 _)
        have s1 := cell_later hb5 (cell_alloc_later r9 _)
        have sf0 := frozen_after hb5 (cell_alloc_later r8 _) (frozen_alloc_later r8 rf0 _)
        have sf1 := frozen_after hb5 (cell_alloc_later r9 _) (frozen_alloc_later r9 rf1 _)
        have H5 : Hid (Below w.heap.size w w5) := Lib.hid (below_then (by (repeat (first | (with_reducible exact HW.out) | (with_reducible refine Below.setCell ?_ ?_ _) | (with_reducible refine below_alloc_top ?_ _) | (with_reducible refine Below.drew ?_))); all_goals (first | omega | (simp; done) | (simp; omega))) hb5)
        have zz5 := hb5.size
        simp at zz5
        clear hb5
        go_wp2
        obtain ⟨d1, d2, d3⟩ := DN'.out
        exact bodyPost_ret (v := .tuple #[.agg #[.int .i64 0, .slice none 0 0], .int .i64 (a.e f k)]) (by simp [results, Tryz.results31, go_sem, World.cell?_alloc_past, *]) rfl ⟨.slice none 0 0, by rw [d1, d2, EE.out], by rw [d3]; exact World.ownsRow_nil _ _ _ _, (by (repeat (first | (with_reducible exact H5.out) | (with_reducible refine Below.setCell ?_ ?_ _) | (with_reducible refine below_alloc_top ?_ _) | (with_reducible refine Below.drew ?_))); all_goals (first | omega | (simp; done) | (simp; omega)))⟩
    · have hk' : k = a.n := by omega
      have HK := Lib.hid hk'
      have hE0 : E0 = 0 := by rw [← HE.out, hk', Nat.sub_self]; rfl
      have HE0 := Lib.hid hE0
      rw [hk'] at hown
      have kk : decide ((k : Int) < (a.n : Int)) = false := by simp; omega
      obtain ⟨Am, cm, rfl, hIm⟩ := own_ints (fun i hi => mvs_get (a.mo f) a.n i hi) hown
      have HIM := Lib.hid hIm
      have LO' := Lib.hid (fun w h' => LO.out Am cm hE0 w h')
      clear hE0 hk' hIm hown
      have DE' := Lib.hid (DE.out HE0.out)
      rw [← DD.out] at LO'
      go_wp2_with fail
      refine (LO'.out _ HIM.out).mono ?_
      rintro e w5 ⟨v5, rfl, hown5, hb5⟩
      have s0 := cell_later hb5 r8
      have s1 := cell_later hb5 r9
      have sf0 := frozen_after hb5 r8 rf0
      have sf1 := frozen_after hb5 r9 rf1
      have H5 : Hid (Below w.heap.size w w5) := Lib.hid (below_then HW.out hb5)
      have zz5 := hb5.size
      clear hb5
      obtain ⟨A5, c5, rfl, _⟩ := own_form hown5
      have HO5 := Lib.hid hown5; clear hown5
      go_wp2
      obtain ⟨d1, d2, d3⟩ := DE'.out
      exact bodyPost_ret (v := .tuple #[.agg #[.int .i64 (loC dl a.n a.ck), .slice A5 (loX dl a.n).length c5], .int .i64 (loE dl a.n)]) (by simp [results, Tryz.results31, go_sem, World.cell?_alloc_past, *]) rfl ⟨.slice A5 (loX dl a.n).length c5, by rw [d1, d2], by rw [d3]; exact own_base (own_set (own_set HO5.out (w.heap.size + 1 + 1) 0 _ (by omega)) (w.heap.size + 1 + 1) 1 _ (by omega)) (show w.heap.size ≤ wr.heap.size by omega), (by (repeat (first | (with_reducible exact H5.out) | (with_reducible refine Below.setCell ?_ ?_ _) | (with_reducible refine below_alloc_top ?_ _) | (with_reducible refine Below.drew ?_))); all_goals (first | omega | (simp; done) | (simp; omega)))⟩
end Go.Proofs.YtnckfbejgkdhhaaGreatDoor
