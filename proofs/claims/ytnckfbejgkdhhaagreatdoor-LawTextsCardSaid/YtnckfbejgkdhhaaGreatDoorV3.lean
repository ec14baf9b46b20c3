/- the law of some moments -/
import Derived.Test.YtnckfbejgkdhhaaGreatDoorV2
import Derived.Maps.AppendAt
namespace Go.Proofs.YtnckfbejgkdhhaaGreatDoor
open Go.RowKit Go.Shelf RayM
set_option linter.unusedSimpArgs false
set_option linter.unusedVariables false

attribute [local go_sem] Oper.semAt_some
theorem infoI : (Tryz.prog.info? 3).map (fun i => (i.zero, i.size, i.bytes)) = some (some (.int .i64 0), 1, 8) := by kernel_rfl
/-- a block of two cells -/
def Blk2 (W : World) (B : Nat) (t : TypeId) (u v : Value) : Prop := W.heap[B]? = some (.cells #[u, v] t (0, 0))
theorem Blk2.lt {W : World} {B : Nat} {t : TypeId} {u v : Value} (h : Blk2 W B t u v) : B < W.heap.size := (Array.getElem?_eq_some_iff.1 h).1
theorem Blk2.c0 {W : World} {B : Nat} {t : TypeId} {u v : Value} (h : Blk2 W B t u v) : W.cell? ⟨B, 0, none⟩ = some u := by simp [World.cell?, show W.heap[B]? = _ from h]
theorem Blk2.c1 {W : World} {B : Nat} {t : TypeId} {u v : Value} (h : Blk2 W B t u v) : W.cell? ⟨B, 1, none⟩ = some v := by simp [World.cell?, show W.heap[B]? = _ from h]
theorem Blk2.f0 {W : World} {B : Nat} {t : TypeId} {u v : Value} (h : Blk2 W B t u v) : W.frozen? ⟨B, 0, none⟩ = false := by simp [World.frozen?, show W.heap[B]? = _ from h]
theorem Blk2.f1 {W : World} {B : Nat} {t : TypeId} {u v : Value} (h : Blk2 W B t u v) : W.frozen? ⟨B, 1, none⟩ = false := by simp [World.frozen?, show W.heap[B]? = _ from h]
theorem Blk2.new (W : World) (t : TypeId) (u v : Value) : Blk2 (W.alloc (.cells #[u, v] t)) W.heap.size t u v := World.alloc_heap_new W _
theorem Blk2.kept {W W' : World} {row : Option Nat} {B : Nat} {t : TypeId} {u v : Value} (h : Blk2 W B t u v) (hg : W.grownBy W' row) (hne : some B ≠ row) : Blk2 W' B t u v := (hg.block B h.lt hne).trans h
theorem Blk2.alloc {W : World} {B : Nat} {t : TypeId} {u v : Value} (h : Blk2 W B t u v) (o : Obj) : Blk2 (W.alloc o) B t u v := h.kept (World.grownBy_alloc W o none) (by simp)
theorem Blk2.set1 {W : World} {B : Nat} {t : TypeId} {u v : Value} (v' : Value) (h : Blk2 W B t u v) : Blk2 (W.setCell ⟨B, 1, none⟩ v') B t u v' := by
  obtain ⟨hlt, hk⟩ := Array.getElem?_eq_some_iff.1 h
  show (W.heap.modify B _)[B]? = _
  rw [Array.getElem?_eq_getElem (by rw [Array.size_modify]; exact hlt), Array.getElem_modify_self, hk]
  rfl
theorem grownBy_setCell1 (W : World) (b : Nat) (v : Value) : W.grownBy (W.setCell ⟨b, 1, none⟩ v) (some b) :=
  ⟨rfl, rfl, rfl, (KeepsWalks.setCell W _ v).size, fun k _ hk => Below.heap_setCell _ _ _ k (fun e => hk (by rw [e]))⟩
theorem Blk2.not_row {W : World} {B : Nat} {t e : TypeId} {u u' : Value} (h : Blk2 W B t u u') (hte : t ≠ e) {base size k : Nat} {v : Value} {xs : List Value} (hr : W.ownsRow base e size v k xs) : some B ≠ v.ownBlock := by
  rcases hr.2 with ⟨rfl, _⟩ | ⟨g, cap, cur, rfl, _, hgb, _⟩
  · simp [Value.ownBlock]
  · intro e'
    obtain rfl : B = g := by simpa [Value.ownBlock] using e'
    have := (show W.heap[B]? = _ from h).symm.trans hgb
    simp at this
    exact hte this.2
theorem Blk2.appended {W w1 : World} {n₀ B : Nat} {t e : TypeId} {size : Nat} {u v v' : Value} {k m : Nat} {xs ys : List Value} {tmp : Obj}
    (hv : Blk2 W B t u v) (hte : t ≠ e) (hrow : W.ownsRow n₀ e size v k xs) (hn₀ : n₀ ≤ W.heap.size) (hB : n₀ ≤ B)
    (hown' : w1.ownsRow n₀ e size v' m ys) (hgrow : (W.alloc tmp).grownBy w1 v.ownBlock) :
    Blk2 w1 B t u v ∧ Blk2 (w1.setCell ⟨B, 1, none⟩ v') B t u v' ∧ (w1.setCell ⟨B, 1, none⟩ v').ownsRow n₀ e size v' m ys ∧ KeepsOthers W (w1.setCell ⟨B, 1, none⟩ v') ∧ Below n₀ W (w1.setCell ⟨B, 1, none⟩ v') := by
  have hv1 : Blk2 w1 B t u v := (hv.alloc tmp).kept hgrow (hv.not_row hte hrow)
  refine ⟨hv1, hv1.set1 v', hown'.kept (grownBy_setCell1 w1 B v') (.inr (hv1.not_row hte hown').symm), ?_, ?_⟩
  · refine ((KeepsOthers.alloc W tmp).trans (KeepsOthers.of_grownBy hgrow fun j o ej hj => ?_)).trans (KeepsOthers.setCell _ _ _)
    rcases hrow.2 with ⟨rfl, _⟩ | ⟨g, cap, cur, rfl, _, hgb, _⟩
    · cases ej
    · obtain rfl : g = j := by simpa [Value.ownBlock] using ej
      have hg1 : (W.alloc tmp).heap[g]? = _ := (Below.heap_alloc W tmp g (Array.getElem?_eq_some_iff.1 hgb).1).trans hgb
      rw [hg1] at hj; cases hj; rfl
  · refine Below.setCell (p := ⟨B, 1, none⟩) ?_ hB _
    exact ((Below.refl n₀ W).alloc hn₀ tmp).grown hgrow (by simp; omega) (fun j ej => by
      rcases hrow.2 with ⟨rfl, _⟩ | ⟨g, cap, cur, rfl, hge, _, _⟩
      · cases ej
      · obtain rfl : g = j := by simpa [Value.ownBlock] using ej
        exact hge)
/-- a cell that is said of a world is kept where what is no cells turns -/
theorem ownCell {β : Type} (a : Addr) (v : Value) : Own (fun (_ : β) W => W.cell? a = some v ∧ W.frozen? a = false) := fun s A B row hs hg hr => ⟨cell_kept hs.1 hg hr, (frozen_kept hs.1 hg hr).trans hs.2⟩
theorem ownBlk2 {β : Type} (n₀ B : Nat) (t e : TypeId) (size : Nat) (u : Value) (k : β → Nat) (f : β → List Value) : Own (fun s W => ∃ v, Blk2 W B t u v ∧ W.ownsRow n₀ e size v (k s) (f s)) := by
  rintro s X Y row ⟨v, hv, hr⟩ hg hrow
  refine ⟨v, hv.kept hg (fun e' => ?_), hr.kept hg ?_⟩
  · obtain ⟨o, ho, hc⟩ := hrow B e'.symm
    rw [show X.heap[B]? = _ from hv] at ho; cases ho; cases hc
  · rcases hr.2 with ⟨rfl, _⟩ | ⟨g, cap, cur, rfl, _, hgb, _⟩
    · exact .inl rfl
    · refine .inr fun e' => ?_
      obtain ⟨o, ho, hc⟩ := hrow g (by simpa [Value.ownBlock] using e'.symm)
      rw [hgb] at ho; cases ho; cases hc
theorem ownB2 {β : Type} (B : Nat) (t : TypeId) (u v : Value) : Own (fun (_ : β) W => Blk2 W B t u v) := fun s X Y row hs hg hrow =>
  hs.kept hg (fun e' => by obtain ⟨o, ho, hc⟩ := hrow B e'.symm; rw [show X.heap[B]? = _ from hs] at ho; cases ho; cases hc)
theorem ownB1 {β : Type} (B : Nat) (t : TypeId) (u : Value) : Own (fun (_ : β) W => Boxed W B t u) := fun s X Y row hs hg hrow =>
  hs.kept hg (fun e' => by obtain ⟨o, ho, hc⟩ := hrow B e'.symm; rw [show X.heap[B]? = _ from hs] at ho; cases ho; cases hc)
theorem Own.and' {β : Type} {I I' : β → World → Prop} (h : Own I) (h' : Own I') : Own (fun s W => I s W ∧ I' s W) := fun s W W' row hs hg hr => ⟨h s W W' row hs.1 hg hr, h' s W W' row hs.2 hg hr⟩
theorem ownPure {β : Type} (p : β → Prop) : Own (fun s (_ : World) => p s) := fun _ _ _ _ hs _ _ => hs
/-- what is said of a law's delays: the error, the clock, the ticks -/
def loE (f : Nat → Int) (n : Nat) : Int := if 1000000 < mxL f n then 8 else 0
def loC (f : Nat → Int) (n : Nat) (ck : Int) : Int := if 1000000 < mxL f n then 0 else ck
def loX (f : Nat → Int) (n : Nat) : List Int := if 1000000 < mxL f n then [] else upto f n
theorem upto_mem (f : Nat → Int) (n : Nat) (x : Int) : x ∈ upto f n ↔ ∃ i, i < n ∧ f i = x := by simp [upto]
theorem big_iff (f : Nat → Int) (n : Nat) (hn : 0 < n) : 1000000 < mxL f n ↔ ∃ i, i < n ∧ 1000000 < f i := by
  constructor
  · intro h
    obtain ⟨i, hi, e⟩ := mxL_mem f n hn
    exact ⟨i, hi, by omega⟩
  · rintro ⟨i, hi, h⟩
    have := mxL_le f n i hi
    omega

theorem lo_big (f : Nat → Int) (n : Nat) (ck : Int) (hn : 0 < n) (h : ∃ i, i < n ∧ 1000000 < f i) : loE f n = 8 ∧ loC f n ck = 0 ∧ loX f n = [] := by
  unfold loE loC loX
  have := (big_iff f n hn).2 h
  rw [if_pos this, if_pos this, if_pos this]; exact ⟨rfl, rfl, rfl⟩
theorem lo_small (f : Nat → Int) (n : Nat) (ck : Int) (hn : 0 < n) (h : ∀ i, i < n → f i ≤ 1000000) : loE f n = 0 ∧ loC f n ck = ck ∧ loX f n = upto f n := by
  unfold loE loC loX
  have : ¬ 1000000 < mxL f n := fun q => by
    obtain ⟨i, hi, k⟩ := (big_iff f n hn).1 q
    have := h i hi
    omega
  rw [if_neg this, if_neg this, if_neg this]; exact ⟨rfl, rfl, rfl⟩
set_option maxRecDepth 100000 in
set_option maxHeartbeats 1000000 in
theorem lawOf_any (A0 : Option Addr) (m0 c0 : Nat) (a1 a2 a3 a4 a5 : Int) (A : Option Addr) (n c : Nat) (ms : Nat → Int) (t : Int) (hn : 0 < n) (hm : n ≤ 1000)
    (hl : ∀ i, i < n → -100000000000000000 ≤ ms i ∧ ms i ≤ 100000000000000000) (t0 : 1 ≤ t) (t1 : t ≤ 100000000000000000) (w : World) (hI : InAt A n ms w) :
    Calls Tryz.prog 50 #[.agg #[.slice A0 m0 c0, .int .i64 a1, .int .i64 a2, .int .i64 a3, .int .i64 a4, .int .i64 a5], .slice A n c, .int .i64 t] w fun e w' => ∃ v : Value, e = .returned (.tuple #[.agg #[.int .i64 (loC (dly ms n t) n a5), v], .int .i64 (loE (dly ms n t) n)]) ∧ w'.ownsRow w.heap.size 3 1 v (loX (dly ms n t) n).length ((loX (dly ms n t) n).map (Value.int .i64)) ∧ Below w.heap.size w w' := by
  obtain ⟨i0, hi, hz0, hz1, hz2⟩ := info_parts infoI
  obtain ⟨a, rfl⟩ := hI.some hn
  have hab : ∀ a', some a = some a' → a'.block < w.heap.size := fun a' e => by
    have h0 := World.block_lt_of_cell? _ _ (hI.at hn)
    have : (a.add 0) = a := by unfold Addr.add; rfl
    rw [this] at h0; cases e; exact h0
  have DS := Lib.hid (fun w' hm' ht' hI' => delays_stops 5 (by omega) (w.heap.size + 4) (w.heap.size + 5) w.heap.size (some a) n c ms t hn hm hab hl t0 t1 w' hm' ht' hI')
  have UM := Lib.hid (upto_mem (dly ms n t))
  have HB := Lib.hid (lo_big (dly ms n t) n a5 hn)
  have HS := Lib.hid (lo_small (dly ms n t) n a5 hn)
  generalize loE (dly ms n t) n = vE at *
  generalize loC (dly ms n t) n a5 = vC at *
  generalize loX (dly ms n t) n = vX at *
  generalize dly ms n t = f at *
  have HI := Lib.hid hI; clear hI hl
  refine (callsIn_wide (n := 6)).1 ?_
  refine callsIn_of_wp_marks Tryz.func50 rfl trivial ?_ rfl
  simp only [Tryz.ntmps50, List.size_toArray, List.length_cons, List.length_nil, Nat.reduceAdd, Nat.reduceSub, Array.replicate_succ, Array.replicate_zero, List.push_toArray, List.append_toArray, List.nil_append, List.cons_append]
  gi_wp2_with (refine ⟨trivial, ?_⟩; gi_at_call 70; refine (delays_any _ _ _ _ _ _).mono ?_; rintro e w' ⟨rfl, rfl⟩)
  obtain ⟨W0, hW0⟩ : ∃ W0, (((((w.alloc (.cells #[.slice A0 m0 c0, .int .i64 a1, .int .i64 a2, .int .i64 a3, .int .i64 a4, .int .i64 a5] 69)).alloc (.cells #[.int .i64 0, .slice none 0 0] 24)).alloc (.cells #[.int .i64 0] 29)).alloc (.cells #[.int .i64 a5, .slice none 0 0] 24)).alloc (.cells #[.slice (some a) n c] 22)).alloc (.cells #[.int .i64 t] 3) = W0 := ⟨_, rfl⟩
  have hb0 : Below w.heap.size w W0 := by rw [← hW0]; exact (by repeat (first | exact Below.refl _ _ | refine Below.drew ?_ | refine below_drewN ?_ _ | refine Below.setCell ?_ (by first | omega | (simp; done) | (simp; omega)) _ | refine Below.alloc ?_ (by first | omega | (simp; done) | (simp; omega)) _))
  have hsz : W0.heap.size = w.heap.size + 6 := by rw [← hW0]; simp
  have bm : W0.cell? ⟨w.heap.size + 4, 0, none⟩ = some (.slice (some a) n c) := by rw [← hW0]; simp [go_sem]
  have bt : W0.cell? ⟨w.heap.size + 5, 0, none⟩ = some (.int .i64 t) := by rw [← hW0]; simp [go_sem]
  have bl : Blk2 W0 (w.heap.size + 3) 24 (.int .i64 a5) (.slice none 0 0) := by
    rw [← hW0]
    have h := Blk2.new ((((w.alloc (.cells #[.slice A0 m0 c0, .int .i64 a1, .int .i64 a2, .int .i64 a3, .int .i64 a4, .int .i64 a5] 69)).alloc (.cells #[.int .i64 0, .slice none 0 0] 24)).alloc (.cells #[.int .i64 0] 29))) 24 (.int .i64 a5) (.slice none 0 0)
    simp only [World.size_alloc, Nat.add_assoc] at h
    exact (h.alloc _).alloc _
  have bz : Blk2 W0 (w.heap.size + 1) 24 (.int .i64 0) (.slice none 0 0) := by
    rw [← hW0]
    have h := Blk2.new (w.alloc (.cells #[.slice A0 m0 c0, .int .i64 a1, .int .i64 a2, .int .i64 a3, .int .i64 a4, .int .i64 a5] 69)) 24 (.int .i64 0) (.slice none 0 0)
    simp only [World.size_alloc, Nat.add_assoc] at h
    exact (((h.alloc _).alloc _).alloc _).alloc _
  have bk : Boxed W0 (w.heap.size + 5) 3 (.int .i64 t) := by
    rw [← hW0]
    have h := Boxed.new ((((((w.alloc (.cells #[.slice A0 m0 c0, .int .i64 a1, .int .i64 a2, .int .i64 a3, .int .i64 a4, .int .i64 a5] 69)).alloc (.cells #[.int .i64 0, .slice none 0 0] 24)).alloc (.cells #[.int .i64 0] 29)).alloc (.cells #[.int .i64 a5, .slice none 0 0] 24)).alloc (.cells #[.slice (some a) n c] 22))) 3 (.int .i64 t)
    simp only [World.size_alloc, Nat.add_assoc] at h
    exact h
  have be : Boxed W0 (w.heap.size + 2) 29 (.int .i64 0) := by
    rw [← hW0]
    have h := Boxed.new ((w.alloc (.cells #[.slice A0 m0 c0, .int .i64 a1, .int .i64 a2, .int .i64 a3, .int .i64 a4, .int .i64 a5] 69)).alloc (.cells #[.int .i64 0, .slice none 0 0] 24)) 29 (.int .i64 0)
    simp only [World.size_alloc, Nat.add_assoc] at h
    exact ((h.alloc _).alloc _).alloc _
  rw [hW0]
  clear hW0
  refine wpIn_rangeFunc_ownG rfl (by omega) (gf := 91) (lb := #[.pointer (some ⟨w.heap.size + 4, 0, none⟩), .pointer (some ⟨w.heap.size + 5, 0, none⟩)]) rfl trivial (enters_of Tryz.func91 (by kernel_rfl) rfl)
    (DS.out W0 bm bt (HI.out.later hb0)) KpD.trans (KpD.put (by omega) (by omega)) (Below.refl _ _) (fun _ => rfl)
    (fun pre W => ((∃ v, Blk2 W (w.heap.size + 3) 24 (.int .i64 a5) v ∧ W.ownsRow (w.heap.size + 6) 3 1 v pre.length (pre.map (Value.int .i64))) ∧ Boxed W (w.heap.size + 5) 3 (.int .i64 t) ∧ Blk2 W (w.heap.size + 1) 24 (.int .i64 0) (.slice none 0 0) ∧ Boxed W (w.heap.size + 2) 29 (.int .i64 0) ∧ (∀ x ∈ pre, x ≤ 1000000)) ∧ Below w.heap.size w W)
    (fun c pre W => (c = .ret ∧ (∃ x ∈ pre, (1000000 : Int) < x) ∧ (W.cell? ⟨w.heap.size + 1, 0, none⟩ = some (.int .i64 0) ∧ W.frozen? ⟨w.heap.size + 1, 0, none⟩ = false) ∧ (W.cell? ⟨w.heap.size + 1, 1, none⟩ = some (.slice none 0 0) ∧ W.frozen? ⟨w.heap.size + 1, 1, none⟩ = false) ∧ (W.cell? ⟨w.heap.size + 2, 0, none⟩ = some (.int .i64 8) ∧ W.frozen? ⟨w.heap.size + 2, 0, none⟩ = false)) ∧ Below w.heap.size w W)
    (OwnFrom.and (Own.from (Own.and' (ownBlk2 _ _ _ _ _ _ (fun pre : List Int => pre.length) (fun pre => pre.map (Value.int .i64))) (Own.and' (ownB1 _ _ _) (Own.and' (ownB2 _ _ _ _) (Own.and' (ownB1 _ _ _) (ownPure _))))) _) (ownFrom_below (Nat.le_refl _) (by omega)))
    (fun c => OwnFrom.and (Own.from (Own.and' (ownPure _) (Own.and' (ownPure _) (Own.and' (ownCell _ _) (Own.and' (ownCell _ _) (ownCell _ _))))) _) (ownFrom_below (Nat.le_refl _) (by omega)))
    ⟨⟨⟨_, bl, World.ownsRow_nil _ _ _ _⟩, bk, bz, be, fun x hx => by simp at hx⟩, hb0⟩
    ?a1 ?assign ?body ?done ?stop
  case assign =>
    intro l x W K hK
    gi_wp2
    exact hK
  case body =>
    rintro l pre x W ⟨⟨⟨v, hv, hrow⟩, bk, bz, be, hle⟩, hB⟩ hlt
    have hws := bk.lt
    have c10 := bz.c0; have f10 := bz.f0; have c11 := bz.c1; have f11 := bz.f1; have c20 := be.cell; have f20 := be.frozen
    have hc := hv.c1
    have hc0 := hv.c0
    have HL := Lib.hid hle; clear hle
    gi_wp2_with (gi_at_builtin; refine wpListIn_append_own _ rfl _ _ 22 rfl (w.heap.size + 6) 3 i0 (.int .i64 0) 1 8 Tryz.underlying22 hi hz0 hz1 hz2 rfl (by decide) _ _ _ rfl (hrow.alloc _) ⟨W.heap.size, 0, none⟩ 1 1 [.int .i64 x] rfl rfl (cell_one_new _ _ _) (by simp [Value.oneCell']) (by unfold maxLen; omega) (by omega) (by simp; omega) ?_; intro v' w1 hown' hgrow _; obtain ⟨g', cap', rfl⟩ := ownsRow_succ hown'; obtain ⟨hv1, hv2, hr2, hk2, hb2⟩ := hv.appended (by decide) (own_base hrow (show w.heap.size ≤ _ by omega)) hB.size (by omega) (own_base hown' (by omega)) hgrow; have hc1 := hv1.c1; have hf1 := hv1.f1)
    · have hx : 1000000 < x := by assumption
      refine ⟨?_, ⟨rfl, ⟨x, by simp, hx⟩, ⟨by simp [go_sem, *], by simp [go_sem, *]⟩, ⟨by simp [go_sem, *], by simp [go_sem, *]⟩, ⟨by simp [go_sem, *], by simp [go_sem, *]⟩⟩, ?_⟩
      · exact (((KeepsOthers.setCell _ _ _).trans (KeepsOthers.setCell _ _ _)).trans (KeepsOthers.setCell _ _ _)).from _
      · exact ((hB.setCell (p := ⟨w.heap.size + 1, 0, none⟩) (by simp) _).setCell (p := ⟨w.heap.size + 1, 1, none⟩) (by simp) _).setCell (p := ⟨w.heap.size + 1 + 1, 0, none⟩) (by simp; omega) _
    · have hx : x ≤ 1000000 := by assumption
      have tt : 24 ≠ 3 := by decide
      have te : 29 ≠ 3 := by decide
      have nz := bz.not_row tt hrow
      have ne := be.not_row te hrow
      have nk : some (w.heap.size + 5) ≠ v.ownBlock := fun e => by have := (hrow.lt _ e.symm).1; omega
      have bk2 := ((bk.alloc _).kept hgrow nk).kept (grownBy_setCell1 w1 (w.heap.size + 3) (.slice (some ⟨g', 0, none⟩) (pre.length + 1) cap')) (fun e => by simp at e)
      have hr3 := hown'.kept (grownBy_setCell1 w1 (w.heap.size + 3) (.slice (some ⟨g', 0, none⟩) (pre.length + 1) cap')) (.inr (fun e => by have := (hown'.lt _ e).1; omega))
      have bz2 := ((bz.alloc _).kept hgrow nz).kept (grownBy_setCell1 w1 (w.heap.size + 3) (.slice (some ⟨g', 0, none⟩) (pre.length + 1) cap')) (fun e => by simp at e)
      have be2 := ((be.alloc _).kept hgrow ne).kept (grownBy_setCell1 w1 (w.heap.size + 3) (.slice (some ⟨g', 0, none⟩) (pre.length + 1) cap')) (fun e => by simp at e)
      refine ⟨hk2.from _, ⟨hb2, ?_⟩, ⟨⟨_, hv2, by simpa using hr3⟩, bk2, bz2, be2, fun y hy => ?_⟩, hB.trans hb2⟩
      · exact bk2.trans bk.symm
      · rcases List.mem_append.1 hy with h | h
        · exact HL.out y h
        · simp at h; omega
  case done =>
    rintro D ys W hD rfl ⟨⟨⟨v, hv, hrow⟩, bk, bz, be, hle⟩, hB⟩ hK
    clear bk
    have c10 := bz.c0; have f10 := bz.f0; have c11 := bz.c1; have f11 := bz.f1; have c20 := be.cell; have f20 := be.frozen
    obtain ⟨Av, cv, rfl, _⟩ := own_form hrow
    have hc := hv.c1
    have hc0 := hv.c0
    have ee := Lib.hid (HS.out (fun i hi => hle _ ((UM.out n _).2 ⟨i, hi, rfl⟩)))
    clear hle
    gi_wp2
    have hKc := (((KeepsOthers.setCell W ⟨w.heap.size + 1, 0, none⟩ (.int .i64 a5)).trans (KeepsOthers.setCell _ ⟨w.heap.size + 1, 1, none⟩ (.slice Av (upto f n).length cv))).trans (KeepsOthers.setCell _ ⟨w.heap.size + 1 + 1, 0, none⟩ (.int .i64 0))).same D _ hK rfl
    obtain ⟨e1, e2, e3⟩ := ee.out
    have tt : 24 ≠ 3 := by decide
    have te : 29 ≠ 3 := by decide
    have nz := bz.not_row tt hrow
    have ne := be.not_row te hrow
    have k10 := cell_kept (show (((W.setCell ⟨w.heap.size + 1, 0, none⟩ (.int .i64 a5)).setCell ⟨w.heap.size + 1, 1, none⟩ (.slice Av (upto f n).length cv)).setCell ⟨w.heap.size + 1 + 1, 0, none⟩ (.int .i64 0)).cell? ⟨w.heap.size + 1, 0, none⟩ = some (.int .i64 a5) by simp [go_sem, *]) (grownBy_putObj' _ D (.deferred none)) (fun r e => by cases e; exact ⟨_, hKc, rfl⟩)
    have k11 := cell_kept (show (((W.setCell ⟨w.heap.size + 1, 0, none⟩ (.int .i64 a5)).setCell ⟨w.heap.size + 1, 1, none⟩ (.slice Av (upto f n).length cv)).setCell ⟨w.heap.size + 1 + 1, 0, none⟩ (.int .i64 0)).cell? ⟨w.heap.size + 1, 1, none⟩ = some (.slice Av (upto f n).length cv) by simp [go_sem, *]) (grownBy_putObj' _ D (.deferred none)) (fun r e => by cases e; exact ⟨_, hKc, rfl⟩)
    have k20 := cell_kept (show (((W.setCell ⟨w.heap.size + 1, 0, none⟩ (.int .i64 a5)).setCell ⟨w.heap.size + 1, 1, none⟩ (.slice Av (upto f n).length cv)).setCell ⟨w.heap.size + 1 + 1, 0, none⟩ (.int .i64 0)).cell? ⟨w.heap.size + 1 + 1, 0, none⟩ = some (.int .i64 0) by simp [go_sem, *]) (grownBy_putObj' _ D (.deferred none)) (fun r e => by cases e; exact ⟨_, hKc, rfl⟩)
    refine ⟨by simp, .inl ⟨_, _, rfl, run_takeDeferred hKc, ?_⟩⟩
    refine ⟨.tuple #[.agg #[.int .i64 a5, .slice Av (upto f n).length cv], .int .i64 0], ?_, .slice Av (upto f n).length cv, by rw [e1, e2], ?_, ?_⟩
    · simp [results, Tryz.f50, go_sem, k10, k11, k20]
    · rw [e3]
      refine ownsRow_putObj ?_ _ hKc rfl
      exact (((own_base hrow (show w.heap.size ≤ _ by omega)).kept (grownBy_setCell' W _ _) (.inr nz.symm)).kept (grownBy_setCell1 _ _ _) (.inr nz.symm)).kept (grownBy_setCell' _ _ _) (.inr ne.symm)
    · exact (((hB.setCell (p := ⟨w.heap.size + 1, 0, none⟩) (by simp) _).setCell (p := ⟨w.heap.size + 1, 1, none⟩) (by simp) _).setCell (p := ⟨w.heap.size + 1 + 1, 0, none⟩) (by simp; omega) _).trans (belowK_b (w := w) (Nat.le_refl _) _ D _ _ (by omega) hKc rfl rfl)
  case stop =>
    rintro D c pre W hD ⟨k, hk, rfl⟩ ⟨⟨rfl, hbig, ⟨c10, f10⟩, ⟨c11, f11⟩, ⟨c20, f20⟩⟩, hB⟩ hK
    obtain ⟨x, hx, hb⟩ := hbig
    obtain ⟨i, hi, e0⟩ := (UM.out k x).1 hx
    obtain ⟨e1, e2, e3⟩ := HB.out ⟨i, by omega, by omega⟩
    have ee := Lib.hid (And.intro e1 (And.intro e2 e3)); clear e1 e2 e3 hx hb e0 hi
    gi_wp2
    obtain ⟨e1, e2, e3⟩ := ee.out
    refine ⟨by simp, .inl ⟨_, _, rfl, run_takeDeferred hK, ?_⟩⟩
    have k10 := cell_kept c10 (grownBy_putObj' _ D (.deferred none)) (fun r e => by cases e; exact ⟨_, hK, rfl⟩)
    have k11 := cell_kept c11 (grownBy_putObj' _ D (.deferred none)) (fun r e => by cases e; exact ⟨_, hK, rfl⟩)
    have k20 := cell_kept c20 (grownBy_putObj' _ D (.deferred none)) (fun r e => by cases e; exact ⟨_, hK, rfl⟩)
    refine ⟨.tuple #[.agg #[.int .i64 0, .slice none 0 0], .int .i64 8], ?_, .slice none 0 0, by rw [e1, e2], by rw [e3]; exact World.ownsRow_nil _ _ _ _, hB.trans (belowK_b (w := w) (Nat.le_refl _) _ D _ _ (by omega) hK rfl rfl)⟩
    simp [results, Tryz.f50, go_sem, k10, k11, k20]
end Go.Proofs.YtnckfbejgkdhhaaGreatDoor
