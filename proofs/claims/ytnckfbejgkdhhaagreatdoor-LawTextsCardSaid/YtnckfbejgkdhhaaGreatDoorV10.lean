/- lawed; when the sound of the elements is at a place -/
import Derived.Test.YtnckfbejgkdhhaaGreatDoorV9
import Derived.Test.YtnckfbejgkdhhaaGreatDoorD0
namespace Go.Proofs.YtnckfbejgkdhhaaGreatDoor
open Go.RowKit Go.Shelf RayM
set_option linter.unusedSimpArgs false
set_option linter.unusedVariables false

def lwT (i : Nat) : Int := if i = 0 then 1200 else 0
theorem infoRg : (Tryz.prog.info? 47).map (fun i => (i.zero, i.size, i.bytes)) = some (some (.agg #[.int .i64 0, .int .i64 0]), 2, 16) := by kernel_rfl
def La.lo (a : La) (f : Sp) (i : Nat) : Int := (a.y f i).cr.lLo
def La.hi (a : La) (f : Sp) (i : Nat) : Int := (a.y f i).cr.lHi
/-- when the sound of an element is at a place -/
def arL (a : La) (f : Sp) (t : Nat → Int) (ck : Int) (i : Nat) : Int := a.lo f i + t i * ck
def arH (a : La) (f : Sp) (t : Nat → Int) (ck : Int) (i : Nat) : Int := a.hi f i + t i * ck
def arV (l h : Nat → Int) (t : Nat → Int) (k : Nat) : List Value := (sdL t k).flatMap fun i => [.int .i64 (l i), .int .i64 (h i)]
theorem arV_yes (l h t : Nat → Int) (k : Nat) (q : t k ≠ -1) : arV l h t (k + 1) = arV l h t k ++ [.int .i64 (l k), .int .i64 (h k)] := by unfold arV; rw [sdL_yes t k q]; simp
theorem arV_no (l h t : Nat → Int) (k : Nat) (q : t k = -1) : arV l h t (k + 1) = arV l h t k := by unfold arV; rw [sdL_no t k q]
theorem flat2 (l h : Nat → Int) : ∀ (xs : List Nat), (xs.flatMap fun i => [Value.int .i64 (l i), Value.int .i64 (h i)]).length = xs.length * 2
  | [] => rfl
  | x :: xs => by rw [List.flatMap_cons, List.length_append, flat2 l h xs, List.length_cons, List.length_cons, List.length_cons, List.length_nil]; omega
theorem flat2_get (l h : Nat → Int) : ∀ (xs : List Nat) (j i : Nat), xs[j]? = some i → (xs.flatMap fun i => [Value.int .i64 (l i), Value.int .i64 (h i)])[j * 2]? = some (.int .i64 (l i)) ∧ (xs.flatMap fun i => [Value.int .i64 (l i), Value.int .i64 (h i)])[j * 2 + 1]? = some (.int .i64 (h i))
  | [], j, i, q => by simp at q
  | x :: xs, 0, i, q => by
    obtain rfl : x = i := by simpa using q
    exact ⟨by simp, by simp⟩
  | x :: xs, j + 1, i, q => by
    have r := flat2_get l h xs j i (by simpa using q)
    rw [List.flatMap_cons, show (j + 1) * 2 = j * 2 + 2 by omega]
    rw [List.getElem?_append_right (by simp), List.getElem?_append_right (by simp)]
    exact ⟨by simpa using r.1, by
      have : j * 2 + 2 + 1 - [Value.int .i64 (l x), Value.int .i64 (h x)].length = j * 2 + 1 := by simp
      rw [this]; exact r.2⟩
theorem lh_bounds (a : La) (f : Sp) (i : Nat) (h : a.e f i = 0) : 0 ≤ a.lo f i ∧ a.lo f i ≤ a.hi f i ∧ a.hi f i ≤ 100000000000000 := by
  have lb := l_bounds (a.y f i).cr (cr_ok _ (wyE_zero_ok _ h))
  have lc := lLo_lHi (a.y f i).cr (cr_ok _ (wyE_zero_ok _ h))
  unfold La.lo La.hi
  omega
theorem tick_bounds (t ck : Int) (t0 : -1 ≤ t) (t1 : t ≤ 1000000) (c0 : 1 ≤ ck) (c1 : ck ≤ 1000000) : -1000000 ≤ t * ck ∧ t * ck ≤ 1000000000000 := by
  have h1 := Int.mul_le_mul_of_nonneg_right t1 (show 0 ≤ ck by omega)
  have h2 := Int.mul_le_mul_of_nonneg_right t0 (show 0 ≤ ck by omega)
  omega
set_option maxRecDepth 100000 in
set_option maxHeartbeats 1000000 in
theorem arrivals_any (a : La) (d : Dl) (f : Sp) (A : Option Addr) (c : Nat) (B : Option Addr) (e : Nat) (w : World) (h : SpAt A a.n a.p w) (g : InAt B a.n d.t w) (hm : a.n ≤ 16) (k0 : 1 ≤ d.ck) (k1 : d.ck ≤ 1000000) (tb : ∀ i, i < a.n → -1 ≤ d.t i ∧ d.t i ≤ 1000000) :
    Calls Tryz.prog 51 #[.agg #[.slice A a.n c, .int .i64 a.m.wd, .int .i64 a.m.mt, .int .i64 a.m.sk, .int .i64 a.m.th, .int .i64 a.ck], .agg #[.int .i64 d.ck, .slice B a.n e], .agg #[.int .i64 f.x, .int .i64 f.z]] w fun e w' => ∃ v : Value, e = .returned (.tuple #[v, .int .i64 (a.fe f)]) ∧ (a.fe f = 0 → w'.ownsRow w.heap.size 47 2 v (sdL d.t a.n).length (arV (arL a f d.t d.ck) (arH a f d.t d.ck) d.t a.n)) ∧ (a.fe f ≠ 0 → v = .slice none 0 0) ∧ Below w.heap.size w w' := by
  obtain ⟨j0_, ji0, jz0, jz1, jz2⟩ := info_parts infoRg
  have JI0 := Lib.hid ji0; have JZ0 := Lib.hid jz0; have JZ1 := Lib.hid jz1; have JZ2 := Lib.hid jz2
  clear ji0 jz0 jz1 jz2
  have HX := Lib.hid h; clear h
  have HT := Lib.hid g; clear g
  have FS := Lib.hid (ffE_step (a.e f))
  have RB := Lib.hid (fun i (h : a.e f i = 0) => lh_bounds a f i h)
  have TB := Lib.hid (fun i (h : i < a.n) => tick_bounds (d.t i) d.ck (tb i h).1 (tb i h).2 k0 k1)
  have SY := Lib.hid (fun k h => arV_yes (arL a f d.t d.ck) (arH a f d.t d.ck) d.t k h)
  have SN := Lib.hid (fun k h => arV_no (arL a f d.t d.ck) (arH a f d.t d.ck) d.t k h)
  have LY := Lib.hid (fun k h => sdL_yes d.t k h)
  have LN := Lib.hid (fun k h => sdL_no d.t k h)
  have LL := Lib.hid (fun k => sdL_len d.t k)
  have S0 : Hid (arV (arL a f d.t d.ck) (arH a f d.t d.ck) d.t 0 = []) := (rfl : _ = [])
  have L0 : Hid ((sdL d.t 0).length = 0) := (rfl : _ = 0)
  have DL : Hid (∀ i, arL a f d.t d.ck i = a.lo f i + d.t i * d.ck) := fun i => rfl
  have DH : Hid (∀ i, arH a f d.t d.ck i = a.hi f i + d.t i * d.ck) := fun i => rfl
  have RY : Hid (∀ i, a.e f i = 0 → ∀ w, Calls Tryz.prog 69 #[.agg #[.int .i64 a.m.wd, .int .i64 a.m.mt, .int .i64 a.m.sk, .int .i64 a.m.th], .agg #[.int .i64 (a.p i).x, .int .i64 (a.p i).z], .agg #[.int .i64 f.x, .int .i64 f.z]] w fun e w' => e = .returned (.tuple #[.agg #[.int .i64 (a.lo f i), .int .i64 (a.hi f i)], .int .i64 0]) ∧ Below w.heap.size w w') := Lib.hid (fun i h w => leastOf_ok (a.y f i) (wyE_zero_ok _ h) w)
  have RN : Hid (∀ i, a.e f i ≠ 0 → ∀ w, Calls Tryz.prog 69 #[.agg #[.int .i64 a.m.wd, .int .i64 a.m.mt, .int .i64 a.m.sk, .int .i64 a.m.th], .agg #[.int .i64 (a.p i).x, .int .i64 (a.p i).z], .agg #[.int .i64 f.x, .int .i64 f.z]] w fun e w' => e = .returned (.tuple #[.agg #[.int .i64 0, .int .i64 0], .int .i64 (a.e f i)]) ∧ Below w.heap.size w w') := Lib.hid (fun i h w => leastOf_bad (a.y f i) h w)
  have EQ : Hid (a.fe f = ffE (a.e f) 0 a.n) := (rfl : a.fe f = _)
  generalize a.fe f = E0 at *
  generalize arL a f d.t d.ck = L at *
  generalize arH a f d.t d.ck = H at *
  clear tb
  go_enter Tryz.func51, Tryz.ntmps51
  go_wp2
  obtain ⟨w1, hw_w1⟩ : ∃ q, q = (((w.alloc (.cells #[.slice A a.n c, .int .i64 a.m.wd, .int .i64 a.m.mt, .int .i64 a.m.sk, .int .i64 a.m.th, .int .i64 a.ck] 69)).alloc (.cells #[.int .i64 d.ck, .slice B a.n e] 24)).alloc (.cells #[.int .i64 f.x, .int .i64 f.z] 45)) := ⟨_, rfl⟩
  rw [← hw_w1]
  have q10 : w1.cell? ⟨w.heap.size, 0, none⟩ = some (.slice A a.n c) := by rw [hw_w1]; simp [go_sem]
  have q11 : w1.cell? ⟨w.heap.size, 1, none⟩ = some (.int .i64 a.m.wd) := by rw [hw_w1]; simp [go_sem]
  have q12 : w1.cell? ⟨w.heap.size, 2, none⟩ = some (.int .i64 a.m.mt) := by rw [hw_w1]; simp [go_sem]
  have q13 : w1.cell? ⟨w.heap.size, 3, none⟩ = some (.int .i64 a.m.sk) := by rw [hw_w1]; simp [go_sem]
  have q14 : w1.cell? ⟨w.heap.size, 4, none⟩ = some (.int .i64 a.m.th) := by rw [hw_w1]; simp [go_sem]
  have q15 : w1.cell? ⟨w.heap.size, 5, none⟩ = some (.int .i64 a.ck) := by rw [hw_w1]; simp [go_sem]
  have q16 : w1.cell? ⟨w.heap.size + 1, 0, none⟩ = some (.int .i64 d.ck) := by rw [hw_w1]; simp [go_sem]
  have q17 : w1.cell? ⟨w.heap.size + 1, 1, none⟩ = some (.slice B a.n e) := by rw [hw_w1]; simp [go_sem]
  have q18 : w1.cell? ⟨w.heap.size + 1 + 1, 0, none⟩ = some (.int .i64 f.x) := by rw [hw_w1]; simp [go_sem]
  have q19 : w1.cell? ⟨w.heap.size + 1 + 1, 1, none⟩ = some (.int .i64 f.z) := by rw [hw_w1]; simp [go_sem]
  have H1 : Hid (Below w.heap.size w w1) := Lib.hid (by rw [hw_w1]; exact (by repeat (first | exact Below.refl _ _ | refine Below.drew ?_ | refine below_drewN ?_ _ | refine Below.setCell ?_ (by first | omega | (simp; done) | (simp; omega)) _ | refine Below.alloc ?_ (by first | omega | (simp; done) | (simp; omega)) _)))
  have z1 : w1.heap.size = w.heap.size + 3 := by rw [hw_w1]; simp
  clear hw_w1
  go_loopw [8, 18] (fun s8 s18 wr => ∃ (k : Nat) (v : Value), v = s8 ∧ k ≤ a.n ∧ s18 = .int .i64 (k : Int) ∧ wr.ownsRow w1.heap.size 47 2 v (sdL d.t k).length (arV L H d.t k) ∧ ffE (a.e f) k (a.n - k) = E0 ∧ Below w1.heap.size w1 wr) (fun _ s18 _ => a.n - (intOf s18).toNat)
  case atStart => exact ⟨0, _, rfl, Nat.zero_le _, rfl, by rw [S0.out, L0.out]; exact World.ownsRow_nil _ _ _ _, by rw [EQ.out]; rfl, Below.refl _ _⟩
  case round =>
    obtain ⟨k, v, rfl, hk, rfl, hown, hE, hb⟩ := hrel
    have HE := Lib.hid hE; clear hE
    have r0 : wr.cell? ⟨w.heap.size, 0, none⟩ = some (.slice A a.n c) := cell_later hb q10
    have r1 : wr.cell? ⟨w.heap.size, 1, none⟩ = some (.int .i64 a.m.wd) := cell_later hb q11
    have r2 : wr.cell? ⟨w.heap.size, 2, none⟩ = some (.int .i64 a.m.mt) := cell_later hb q12
    have r3 : wr.cell? ⟨w.heap.size, 3, none⟩ = some (.int .i64 a.m.sk) := cell_later hb q13
    have r4 : wr.cell? ⟨w.heap.size, 4, none⟩ = some (.int .i64 a.m.th) := cell_later hb q14
    have r5 : wr.cell? ⟨w.heap.size, 5, none⟩ = some (.int .i64 a.ck) := cell_later hb q15
    have r6 : wr.cell? ⟨w.heap.size + 1, 0, none⟩ = some (.int .i64 d.ck) := cell_later hb q16
    have r7 : wr.cell? ⟨w.heap.size + 1, 1, none⟩ = some (.slice B a.n e) := cell_later hb q17
    have r8 : wr.cell? ⟨w.heap.size + 1 + 1, 0, none⟩ = some (.int .i64 f.x) := cell_later hb q18
    have r9 : wr.cell? ⟨w.heap.size + 1 + 1, 1, none⟩ = some (.int .i64 f.z) := cell_later hb q19
    have sz := hb.size
    have zr0 : w.heap.size < wr.heap.size := by omega
    have zr1 : w.heap.size + 1 < wr.heap.size := by omega
    have zr2 : w.heap.size + 1 + 1 < wr.heap.size := by omega
    have HB := Lib.hid hb
    have HW : Hid (Below w.heap.size w wr) := Lib.hid (Below.trans H1.out (hb.mono H1.out.size))
    by_cases hlt : k < a.n
    · obtain ⟨ad, rfl⟩ := HX.out.some (by omega)
      obtain ⟨bd, rfl⟩ := HT.out.some (by omega)
      obtain ⟨e0, e1⟩ := (HX.out.later HW.out).at hlt
      have t0 := (HT.out.later HW.out).at hlt
      have j0 : (0 : Int) ≤ (k : Int) := Int.natCast_nonneg _
      have j1 : (k : Int) < (a.n : Int) := by omega
      have j8 : (k : Int) < 1000 := by omega
      clear hb
      by_cases hg : a.e f k = 0
      · have HL := Lib.hid (RY.out k hg)
        have HG := Lib.hid hg
        have rb := RB.out k hg
        have tk := TB.out k hlt
        have w1_ : IntKind.i64.wrap (d.t k * d.ck) = d.t k * d.ck := IntWalk.i64_in _ (by omega)
        have w2_ : IntKind.i64.wrap (a.lo f k + d.t k * d.ck) = L k := by rw [DL.out]; exact IntWalk.i64_in _ (by omega)
        have w3_ : IntKind.i64.wrap (a.hi f k + d.t k * d.ck) = H k := by rw [DH.out]; exact IntWalk.i64_in _ (by omega)
        have W1_ := Lib.hid w1_; have W2_ := Lib.hid w2_; have W3_ := Lib.hid w3_
        clear hg rb tk w1_ w2_ w3_
        go_wp2_with fail
        refine (HL.out _).mono ?_
        rintro e w5 ⟨rfl, hb5⟩
        have zz5 := hb5.size
        simp at zz5
        have s0 := cell_later hb5 (cell_alloc_later r0 _)
        have s1 := cell_later hb5 (cell_alloc_later r1 _)
        have s2 := cell_later hb5 (cell_alloc_later r2 _)
        have s3 := cell_later hb5 (cell_alloc_later r3 _)
        have s4 := cell_later hb5 (cell_alloc_later r4 _)
        have s5 := cell_later hb5 (cell_alloc_later r5 _)
        have s6 := cell_later hb5 (cell_alloc_later r6 _)
        have s7 := cell_later hb5 (cell_alloc_later r7 _)
        have s8 := cell_later hb5 (cell_alloc_later r8 _)
        have s9 := cell_later hb5 (cell_alloc_later r9 _)
        have t5 := cell_later hb5 (cell_alloc_later t0 _)
        have y0 : w.heap.size < w5.heap.size := by omega
        have y1 : w.heap.size + 1 < w5.heap.size := by omega
        have y2 : w.heap.size + 1 + 1 < w5.heap.size := by omega
        have y3 := World.block_lt_of_cell? _ _ t5
        have hown5 := own_later (hown.alloc _) hb5
        have H5 : Hid (Below w1.heap.size w1 w5) := Lib.hid (below_then (by (repeat (first | (with_reducible exact HB.out) | (with_reducible refine Below.setCell ?_ ?_ _) | (with_reducible refine below_alloc_top ?_ _) | (with_reducible refine Below.drew ?_))); all_goals (first | omega | (simp; done) | (simp; omega))) hb5)
        have ag5 := Lib.hid (fun q e => (hown5.lt q e).1)
        clear hb5
        have sz5 := H5.out.size
        by_cases ht : d.t k = -1
        · have n1 : (d.t k != -1) = false := by simp [ht]
          have FE := Lib.hid (SN.out k ht); have FL := Lib.hid (LN.out k ht)
          clear ht
          go_wp2
          go_roundw
          case rel => exact ⟨k + 1, _, rfl, by omega, by go_num, by rw [FE.out, FL.out]; exact hown5.alloc _, by rw [← HE.out, FS.out k a.n hlt, if_pos HG.out], H5.out.alloc (by omega) _⟩
          case measure => simp [intOf]; omega
        · have n1 : (d.t k != -1) = true := by simpa using ht
          have FE := Lib.hid (SY.out k ht); have FL := Lib.hid (LY.out k ht)
          have fl := LL.out k
          clear ht
          have u1 := W1_.out; have u2 := W2_.out; have u3 := W3_.out
          go_wp2_with fail
          go_quiet (fail)
          generalize hw6 : (w5.alloc (.cells #[.int .i64 (a.lo f k), .int .i64 (a.hi f k)] 47)).drewN nq = w6 at *
          have c60 : w6.cell? ⟨w5.heap.size, 0, none⟩ = some (.int .i64 (a.lo f k)) := by rw [← hw6]; simp [go_sem]
          have c61 : w6.cell? ⟨w5.heap.size, 1, none⟩ = some (.int .i64 (a.hi f k)) := by rw [← hw6]; simp [go_sem]
          have b6 : Below w5.heap.size w5 w6 := by rw [← hw6]; exact below_drewN ((Below.refl _ _).alloc (Nat.le_refl _) _) _
          have z6 : w6.heap.size = w5.heap.size + 1 := by rw [← hw6]; simp
          have hown6 := own_later hown5 b6
          have H6 : Hid (Below w1.heap.size w1 w6) := Lib.hid (below_then H5.out b6)
          have sz6 : w1.heap.size ≤ w6.heap.size := by omega
          have y6 : w5.heap.size < w6.heap.size := by omega
          have y60 : w.heap.size < w6.heap.size := by omega
          have y61 : w.heap.size + 1 < w6.heap.size := by omega
          clear hw6 b6 z6
          have bm : ((sdL d.t k).length + 1 : Nat) ≤ maxLen := by unfold maxLen; omega
          have BM := Lib.hid bm; clear bm
          have nb : ∀ j u, (#[Value.int .i64 (L k), Value.int .i64 (H k)] : Array Value).toList[j]? = some u → (w6.alloc (.cells #[.int .i64 (L k), .int .i64 (H k)] 47)).cell? ((⟨w6.heap.size, 0, none⟩ : Addr).add j) = some u :=
            World.news_of_block (t := 47) (fr := (0, 0)) (by have h := heap_alloc_new w6 (.cells #[.int .i64 (L k), .int .i64 (H k)] 47); simpa using h)
          have NB := Lib.hid nb; clear nb
          go_wp2_with (at_builtin; refine wpList_append_lies _ rfl _ _ _ rfl w1.heap.size 47 j0_ _ 2 16 Tryz.underlying96 JI0.out JZ0.out JZ1.out JZ2.out rfl (by omega) v (sdL d.t k).length (arV L H d.t k) rfl (hown6.alloc _) ⟨w6.heap.size, 0, none⟩ 1 1 [.int .i64 (L k), .int .i64 (H k)] rfl rfl NB.out (by simp [Value.oneCell']) (by omega) BM.out (by omega) (by simp; omega) (w6.heap.size + 1) (by simp) ?_; intro g7 cap7 w7 hown7 hgrow7 hat7 hlt7)
          have HO7 := Lib.hid hown7; clear hown7
          have HG7 := Lib.hid hgrow7; clear hgrow7 hat7 hlt7
          go_roundw
          case rel => exact ⟨k + 1, _, rfl, by omega, by go_num, by rw [FE.out, FL.out, List.length_append]; exact HO7.out, by rw [← HE.out, FS.out k a.n hlt, if_pos HG.out], (H6.out.alloc (by omega) _).grown HG7.out (by simp; omega) (fun q e => ag5.out q e)⟩
          case measure => simp [intOf]; omega
      · have HL := Lib.hid (RN.out k hg)
        have n1 : (a.e f k != 0) = true := by simpa using hg
        have EE : Hid (E0 = a.e f k) := by show _ = _; rw [← HE.out, FS.out k a.n hlt, if_neg hg]
        have NE := Lib.hid hg
        clear hg
        go_wp2_with fail
        refine (HL.out _).mono ?_
        rintro e w5 ⟨rfl, hb5⟩
        have H5 : Hid (Below w.heap.size w w5) := Lib.hid (below_then (by (repeat (first | (with_reducible exact HW.out) | (with_reducible refine Below.setCell ?_ ?_ _) | (with_reducible refine below_alloc_top ?_ _) | (with_reducible refine Below.drew ?_))); all_goals (first | omega | (simp; done) | (simp; omega))) hb5)
        clear hb5
        go_wp2
        go_ret2
        exact ⟨.slice none 0 0, by rw [EE.out]; rfl, fun q => absurd (EE.out.symm.trans q) NE.out, fun _ => rfl, (by (repeat (first | (with_reducible exact H5.out) | (with_reducible refine Below.setCell ?_ ?_ _) | (with_reducible refine below_alloc_top ?_ _) | (with_reducible refine Below.drew ?_))); all_goals (first | omega | (simp; done) | (simp; omega)))⟩
    · have hk' : k = a.n := by omega
      have hE0 : E0 = 0 := by rw [← HE.out, hk', Nat.sub_self]; rfl
      have HE0 := Lib.hid hE0
      have kk : decide ((k : Int) < (a.n : Int)) = false := by simp; omega
      have HO := Lib.hid hown
      have HK := Lib.hid hk'
      clear hE0 hk' hown
      go_wp2
      go_ret2
      exact ⟨_, by rw [HE0.out]; rfl, fun _ => by rw [← HK.out]; exact own_base HO.out (by omega), fun q => absurd HE0.out q, HW.out⟩
end Go.Proofs.YtnckfbejgkdhhaaGreatDoor
