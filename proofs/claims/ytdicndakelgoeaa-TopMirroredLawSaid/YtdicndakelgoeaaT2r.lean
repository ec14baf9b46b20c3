/- TopMirroredLaw: the walk -/
import Derived.Test.YtdicndakelgoeaaV17
namespace Go.Proofs.Ytdicndakelgoeaa
open Go.RowKit Go.Shelf RayM
set_option linter.unusedSimpArgs false
set_option linter.unusedVariables false

/-- a row of places of our own: its cells, and that they may be written -/
def RowS (g n : Nat) (p : Nat → Sp) (w : World) : Prop := ∀ i, i < n → w.cell? ⟨g, i * 2, none⟩ = some (.int .i64 (p i).x) ∧ w.cell? ⟨g, i * 2 + 1, none⟩ = some (.int .i64 (p i).z) ∧ w.frozen? ⟨g, i * 2, none⟩ = false
theorem own_rowS {w : World} {b : Nat} {e : TypeId} {v : Value} {n : Nat} {p : Nat → Sp} (h : w.ownsRow b e 2 v n (svs p n)) (hn : 0 < n) : ∃ g c, v = .slice (some ⟨g, 0, none⟩) n c ∧ b ≤ g ∧ g < w.heap.size ∧ RowS g n p w := by
  rcases h.2 with ⟨q, q2⟩ | ⟨g, cap, cur, rfl, hb, hgb, r⟩
  · omega
  · refine ⟨g, cap, rfl, hb, (Array.getElem?_eq_some_iff.1 hgb).1, fun i hi => ⟨?_, ?_, by simp [World.frozen?, hgb]⟩⟩
    · have := h.cells (g := g) rfl (i * 2) _ (svs_get p n i hi).1
      rwa [add_off] at this
    · have := h.cells (g := g) rfl (i * 2 + 1) _ (svs_get p n i hi).2
      rwa [add_off] at this
theorem RowS.later {g n : Nat} {p : Nat → Sp} {w w' : World} (r : RowS g n p w) (hb : Below w.heap.size w w') : RowS g n p w' := fun i hi => ⟨cell_later hb (r i hi).1, cell_later hb (r i hi).2.1, frozen_after hb (r i hi).1 (r i hi).2.2⟩
theorem RowS.at {g n : Nat} {p : Nat → Sp} {w : World} (r : RowS g n p w) : SpAt (some ⟨g, 0, none⟩) n p w := fun _ => ⟨_, rfl, fun i hi => by rw [add_off, add_off]; exact ⟨(r i hi).1, (r i hi).2.1⟩⟩
theorem RowS.put {g n : Nat} {p q : Nat → Sp} {w : World} (r : RowS g n p w) (i : Nat) (x : Int) (e1 : ∀ j, j < n → (q j).x = if j = i then x else (p j).x) (e2 : ∀ j, j < n → (q j).z = (p j).z) : RowS g n q (w.setCell ⟨g, i * 2, none⟩ (.int .i64 x)) := fun j hj => by
  refine ⟨?_, ?_, setF (r j hj).2.2⟩
  · rw [e1 j hj]
    by_cases k : j = i
    · subst k; rw [if_pos rfl]; exact setS (r j hj).1
    · rw [if_neg k]; exact setO (.inr (by dsimp only; omega)) (r j hj).1
  · rw [e2 j hj]; exact setO (.inr (by dsimp only; omega)) (r j hj).2.1
/-- k of the places are mirrored -/
def curS (p : Nat → Sp) (k i : Nat) : Sp := ⟨if i < k then -(p i).x else (p i).x, (p i).z⟩
theorem upto_mvs (f : Nat → Int) (n : Nat) : (upto f n).map (Value.int .i64) = mvs f n := by simp [upto, mvs, List.map_map, Function.comp_def]
set_option maxRecDepth 100000 in
set_option maxHeartbeats 1000000 in
theorem tml_any (a : La) (f : Sp) (A : Option Addr) (c : Nat) (w : World) (hA : A = none → a.n = 0 ∧ c = 0) (h : SpAt A a.n a.p w) (hn : a.n ≤ 18) :
    Calls Try.prog 20 #[.agg #[.slice A a.n c, .int .i64 a.m.wd, .int .i64 a.m.mt, .int .i64 a.m.sk, .int .i64 a.m.th, .int .i64 a.ck], .agg #[.int .i64 f.x, .int .i64 f.z]] w fun e w' => e = .returned (.bool true) ∧ Below w.heap.size w w' := by
  have HX := Lib.hid h; clear h
  have HCA : Hid (∀ w', SpAt A a.n a.p w' → Calls Try.prog 80 #[.agg #[.slice A a.n c, .int .i64 a.m.wd, .int .i64 a.m.mt, .int .i64 a.m.sk, .int .i64 a.m.th, .int .i64 a.ck]] w' fun e w'' => ∃ A1 c1, e = .returned (.agg #[.slice A1 a.n c1, .int .i64 a.m.wd, .int .i64 a.m.mt, .int .i64 a.m.sk, .int .i64 a.m.th, .int .i64 a.ck]) ∧ SpAt A1 a.n a.p w'' ∧ Below w'.heap.size w' w'') := Lib.hid (fun w' h => (copyArray_any a A c w' (by omega) hA h).mono (fun e w'' ⟨v, e1, ho, hb⟩ => by
    obtain ⟨A1, c1, rfl, _, hs⟩ := own_spots ho
    exact ⟨A1, c1, e1, hs, hb⟩))
  have HFO : Hid (∀ A1 c1 w', SpAt A1 a.n a.p w' → Calls Try.prog 83 #[.agg #[.slice A1 a.n c1, .int .i64 a.m.wd, .int .i64 a.m.mt, .int .i64 a.m.sk, .int .i64 a.m.th, .int .i64 a.ck], .agg #[.int .i64 f.x, .int .i64 f.z]] w' fun e_ w'' => ∃ (A5 : Option Addr) (n5 c5 : Nat), e_ = .returned (.tuple #[.agg #[.int .i64 (a.FLC f), .slice A5 n5 c5], .int .i64 (a.FLE f)]) ∧ (a.FLE f ≠ 0 → n5 = 0) ∧ (a.FLE f = 0 → n5 = a.n ∧ A5 ≠ none ∧ InAt A5 a.n (a.dl f) w'') ∧ (∀ a5, A5 = some a5 → w'.heap.size ≤ a5.block) ∧ (∀ a5, A5 = some a5 → a5.block < w''.heap.size) ∧ Below w'.heap.size w' w'') := Lib.hid (fun A1 c1 w' h => (focus_any a f A1 c1 w' h (by omega)).mono (fun e_ w'' ⟨v, e1, ho, hb⟩ => by
    obtain ⟨A5, c5, rfl, hr⟩ := own_form ho
    refine ⟨A5, _, c5, e1, fun q => by rw [FLX_bad a f q]; rfl, fun q => ?_, fun a5 q => ?_, fun a5 q => ?_, hb⟩
    · obtain ⟨q1, _, _, q4, _, _⟩ := FLE_parts a f q
      have n0 := ((La.E_zero a).1 q1).1.1
      rw [q4] at ho ⊢
      rw [upto_mvs, upto_length] at ho
      obtain ⟨g, c', e3, _, _, hR⟩ := own_row ho n0
      simp at e3
      refine ⟨upto_length _ _, by rw [e3.1]; simp, ?_⟩
      rw [e3.1]; exact hR.at
    · rcases ho.2 with ⟨k, _⟩ | ⟨g, cap, cur, k, hb', hgb, _⟩
      · simp at k; rw [k.1] at q; cases q
      · simp at k; rw [k.1] at q; cases q; exact hb'
    · rcases ho.2 with ⟨k, _⟩ | ⟨g, cap, cur, k, hb', hgb, _⟩
      · simp at k; rw [k.1] at q; cases q
      · simp at k; rw [k.1] at q; cases q; exact (Array.getElem?_eq_some_iff.1 hgb).1))
  have d1 : decide ((18 : Int) < (a.n : Int)) = false := by simp; omega
  go_enter Try.func20, Try.ntmps20
  go_wp2_with fail
  refine (lawed_any _).mono ?_
  rintro e w1 ⟨rfl, hb1⟩
  have qw10 : w1.cell? ⟨w.heap.size, 0, none⟩ = some (.slice A a.n c) := cell_later hb1 (by simp [go_sem])
  have qw11 : w1.cell? ⟨w.heap.size, 1, none⟩ = some (.int .i64 a.m.wd) := cell_later hb1 (by simp [go_sem])
  have qw12 : w1.cell? ⟨w.heap.size, 2, none⟩ = some (.int .i64 a.m.mt) := cell_later hb1 (by simp [go_sem])
  have qw13 : w1.cell? ⟨w.heap.size, 3, none⟩ = some (.int .i64 a.m.sk) := cell_later hb1 (by simp [go_sem])
  have qw14 : w1.cell? ⟨w.heap.size, 4, none⟩ = some (.int .i64 a.m.th) := cell_later hb1 (by simp [go_sem])
  have qw15 : w1.cell? ⟨w.heap.size, 5, none⟩ = some (.int .i64 a.ck) := cell_later hb1 (by simp [go_sem])
  have qw16 : w1.cell? ⟨w.heap.size + 1, 0, none⟩ = some (.int .i64 f.x) := cell_later hb1 (by simp [go_sem])
  have qw17 : w1.cell? ⟨w.heap.size + 1, 1, none⟩ = some (.int .i64 f.z) := cell_later hb1 (by simp [go_sem])
  have zqw1_0 := World.block_lt_of_cell? _ _ qw10
  dsimp only at zqw1_0
  have zqw1_6 := World.block_lt_of_cell? _ _ qw16
  dsimp only at zqw1_6
  have H1 : Hid (Below w.heap.size w w1) := Lib.hid (below_after (by repeat (first | exact Below.refl _ _ | refine Below.drew ?_ | refine below_drewN ?_ _ | refine Below.setCell ?_ (by first | omega | (simp; done) | (simp; omega)) _ | refine Below.alloc ?_ (by first | omega | (simp; done) | (simp; omega)) _)) hb1 (by first | omega | (simp; done) | (simp; omega))); clear hb1
  go_upto_region 5 with fail
  have hS : Below w.heap.size w w1 := H1.out
  go_cut [5, 6] (fun s5 s6 wx => ∃ (P : Nat) (A5 : Option Addr) (n5 c5 : Nat), s5 = .pointer (some ⟨P, 0, none⟩) ∧ s6 = .int .i64 (a.FLE f) ∧ wx.cell? ⟨P, 0, none⟩ = some (.int .i64 (a.FLC f)) ∧ wx.cell? ⟨P, 1, none⟩ = some (.slice A5 n5 c5) ∧ (a.FLE f ≠ 0 → n5 = 0) ∧ (a.FLE f = 0 → n5 = a.n ∧ A5 ≠ none ∧ InAt A5 a.n (a.dl f) wx) ∧ (∀ a5, A5 = some a5 → a5.block < wx.heap.size) ∧ wx.cell? ⟨w.heap.size, 0, none⟩ = some (.slice A a.n c) ∧ wx.cell? ⟨w.heap.size, 1, none⟩ = some (.int .i64 a.m.wd) ∧ wx.cell? ⟨w.heap.size, 2, none⟩ = some (.int .i64 a.m.mt) ∧ wx.cell? ⟨w.heap.size, 3, none⟩ = some (.int .i64 a.m.sk) ∧ wx.cell? ⟨w.heap.size, 4, none⟩ = some (.int .i64 a.m.th) ∧ wx.cell? ⟨w.heap.size, 5, none⟩ = some (.int .i64 a.ck) ∧ wx.cell? ⟨w.heap.size + 1, 0, none⟩ = some (.int .i64 f.x) ∧ wx.cell? ⟨w.heap.size + 1, 1, none⟩ = some (.int .i64 f.z) ∧ Below w.heap.size w wx)
  case first =>
    go_region_held3 (fun w' => w'.cell? ⟨w.heap.size, 0, none⟩ = some (.slice A a.n c) ∧ w'.cell? ⟨w.heap.size, 1, none⟩ = some (.int .i64 a.m.wd) ∧ w'.cell? ⟨w.heap.size, 2, none⟩ = some (.int .i64 a.m.mt) ∧ w'.cell? ⟨w.heap.size, 3, none⟩ = some (.int .i64 a.m.sk) ∧ w'.cell? ⟨w.heap.size, 4, none⟩ = some (.int .i64 a.m.th) ∧ w'.cell? ⟨w.heap.size, 5, none⟩ = some (.int .i64 a.ck) ∧ w'.cell? ⟨w.heap.size + 1, 0, none⟩ = some (.int .i64 f.x) ∧ w'.cell? ⟨w.heap.size + 1, 1, none⟩ = some (.int .i64 f.z) ∧ Below w.heap.size w w') (((go_split_ands; (repeat' apply And.intro) <;> ((repeat (first | (with_reducible assumption) | (with_reducible exact Below.refl _ _) | (with_reducible refine cell_alloc_later ?_ _) | (with_reducible refine cell_drewA ?_) | (with_reducible refine cellA (by with_reducible assumption) ?_) | (with_reducible refine belowA ?_ (by with_reducible assumption)) | (with_reducible refine below_alloc_top ?_ _) | (with_reducible refine Below.drew ?_) | (with_reducible refine cell_set_old ?_ (by with_reducible assumption)) | (with_reducible refine below_set_old ?_ (by with_reducible assumption)) | (with_reducible refine Below.setCell ?_ (by first | omega | (simp; done) | (simp; omega)) _) | (simp [go_sem, World.cell?_alloc_past, *]; done))); done))))
      (first
        | (go_split_ands; go_at_call 80; (with_reducible refine (HCA.out _ (HX.out.later (by with_reducible assumption))).mono ?_); rintro e w' ⟨A1, c1, rfl, hs, hb⟩; have hbA : BelA _ w' := hb; obtain ⟨hc', hf'⟩ := bcell hb; have hz' := hb.size; (try simp at hz'); (first | (have tF' := Nat.lt_of_succ_le hz') | (have tF' := Nat.lt_of_lt_of_le tF' hz') | skip); clear hb)
        | (go_split_ands; go_at_call 83; (with_reducible refine (HFO.out _ _ _ (by repeat (first | (with_reducible assumption) | (with_reducible refine SpAt.laterA (by with_reducible assumption) ?_) | (with_reducible refine SpAt.alloc ?_ _) | (with_reducible refine SpAt.drew ?_)))).mono ?_); rintro e w' ⟨A5, n5, c5, rfl, hg5, hi5, hB5, hL5, hb⟩; have hbA : BelA _ w' := hb; obtain ⟨hc', hf'⟩ := bcell hb; have hz' := hb.size; (try simp at hz'); (first | (have tF' := Nat.lt_of_succ_le hz') | (have tF' := Nat.lt_of_lt_of_le tF' hz') | skip); clear hb))
    all_goals
      go_split_ands
      go_wp2_with fail
      go_meet
      exact ⟨_, A5, n5, c5, rfl, rfl, (by first | (with_reducible assumption) | (simp [go_sem, World.cell?_alloc_past, *]; done)), (by first | (with_reducible assumption) | (simp [go_sem, World.cell?_alloc_past, *]; done)), hg5, (fun hr => ⟨(hi5 hr).1, (hi5 hr).2.1, (by have hi3 := (hi5 hr).2.2; exact (by repeat (first | (with_reducible assumption) | (with_reducible refine InAt.alloc ?_ _) | (with_reducible refine InAt.drew ?_) | (refine InAt.set ?_ _ _ _ (fun a e => by have q1 := hB5 a e; have q2 := hL5 a e; (try simp at q1); omega)))))⟩), (fun a5 q => by have q2 := hL5 a5 q; first | exact q2 | (simp; omega) | (simp; exact q2)), (by first | (with_reducible assumption) | (simp [go_sem, World.cell?_alloc_past, *]; done)), (by first | (with_reducible assumption) | (simp [go_sem, World.cell?_alloc_past, *]; done)), (by first | (with_reducible assumption) | (simp [go_sem, World.cell?_alloc_past, *]; done)), (by first | (with_reducible assumption) | (simp [go_sem, World.cell?_alloc_past, *]; done)), (by first | (with_reducible assumption) | (simp [go_sem, World.cell?_alloc_past, *]; done)), (by first | (with_reducible assumption) | (simp [go_sem, World.cell?_alloc_past, *]; done)), (by first | (with_reducible assumption) | (simp [go_sem, World.cell?_alloc_past, *]; done)), (by first | (with_reducible assumption) | (simp [go_sem, World.cell?_alloc_past, *]; done)), (by first | (with_reducible assumption) | (simp [go_sem, World.cell?_alloc_past, *]; done))⟩
  case rest =>
    obtain ⟨P, A5, n5, c5, rfl, rfl, p0, p1, hg5, hi5, hL5, v0, v1, v2, v3, v4, v5, v6, v7, bel⟩ := hcut
    clear hS H1 qw10 qw11 qw12 qw13 qw14 qw15 qw16 qw17 zqw1_0 zqw1_6
    by_cases hr : a.FLE f = 0
    · obtain ⟨rfl, hA5, hI5⟩ := hi5 hr
      obtain ⟨qE, qf, qc, _, _, qd⟩ := FLE_parts a f hr
      obtain ⟨⟨n0, n1⟩, qel, _, k0, k1⟩ := (La.E_zero a).1 qE
      have he := (fe_all a f).1 qf
      have fb : -100000 ≤ f.x ∧ f.x ≤ 100000 := by
        have o := wyE_zero_ok _ (he 0 n0)
        exact ⟨o.c1, o.c2⟩
      have XB := Lib.hid (fun i (hi : i < a.n) => (show -100000 ≤ (a.p i).x ∧ (a.p i).x ≤ 100000 from ⟨(wyE_zero_ok _ (he i hi)).a1, (wyE_zero_ok _ (he i hi)).a2⟩))
      have MM := Lib.hid (mirrored a f hr)
      obtain ⟨ad, hAd⟩ := HX.out.some n0
      subst hAd
      have HC2 : Hid (∀ w', SpAt (some ad) a.n a.p w' → Calls Try.prog 80 #[.agg #[.slice (some ad) a.n c, .int .i64 a.m.wd, .int .i64 a.m.mt, .int .i64 a.m.sk, .int .i64 a.m.th, .int .i64 a.ck]] w' fun e w'' => ∃ g cg, e = .returned (.agg #[.slice (some ⟨g, 0, none⟩) a.n cg, .int .i64 a.m.wd, .int .i64 a.m.mt, .int .i64 a.m.sk, .int .i64 a.m.th, .int .i64 a.ck]) ∧ w'.heap.size ≤ g ∧ g < w''.heap.size ∧ RowS g a.n a.p w'' ∧ Below w'.heap.size w' w'') := Lib.hid (fun w' h => (copyArray_any a (some ad) c w' (by omega) hA h).mono (fun e w'' ⟨v, e1, ho, hb⟩ => by
        obtain ⟨g, cg, rfl, q1, q2, q3⟩ := own_rowS ho n0
        exact ⟨g, cg, e1, q1, q2, q3, hb⟩))
      have HW1 := Lib.hid (fun w' h => widest_any a f ad c w' h n1 he)
      have HCL : Hid (∀ w', InAt A5 a.n (a.dl f) w' → Calls Try.prog 81 #[.agg #[.int .i64 a.ck, .slice A5 a.n c5]] w' fun e_ w'' => ∃ A1 c1, e_ = .returned (.agg #[.int .i64 a.ck, .slice A1 a.n c1]) ∧ InAt A1 a.n (a.dl f) w'' ∧ Below w'.heap.size w' w'') := Lib.hid (fun w' h => (copyLaw_any (a.fd f) A5 c5 w' (by show a.n ≤ 1000; omega) (fun q => absurd q hA5) h).mono (fun e w'' ⟨v, e1, ho, hb⟩ => by
        obtain ⟨A1, c1, rfl, hz, hs⟩ := own_ints2 ho
        exact ⟨A1, c1, e1, hs, hb⟩))
      have HW2 : Hid (∀ g cg w', SpAt (some ⟨g, 0, none⟩) a.n a.mir.p w' → Calls Try.prog 84 #[.agg #[.slice (some ⟨g, 0, none⟩) a.n cg, .int .i64 a.m.wd, .int .i64 a.m.mt, .int .i64 a.m.sk, .int .i64 a.m.th, .int .i64 a.ck], .agg #[.int .i64 (-f.x), .int .i64 f.z]] w' fun e_ w'' => e_ = .returned (.tuple #[.int .i64 (a.mir.wd f.mir a.n), .bool true]) ∧ Below w'.heap.size w' w'') := Lib.hid (fun g cg w' h => widest_any a.mir f.mir ⟨g, 0, none⟩ cg w' h n1 (fun i hi => mir_e a f i (he i hi)))
      have HS2 : Hid (∀ g cg A1 c1 w', SpAt (some ⟨g, 0, none⟩) a.n a.mir.p w' → InAt A1 a.n (a.dl f) w' → Calls Try.prog 79 #[.agg #[.slice (some ⟨g, 0, none⟩) a.n cg, .int .i64 a.m.wd, .int .i64 a.m.mt, .int .i64 a.m.sk, .int .i64 a.m.th, .int .i64 a.ck], .agg #[.int .i64 a.ck, .slice A1 a.n c1], .agg #[.int .i64 (-f.x), .int .i64 f.z]] w' fun e_ w'' => e_ = .returned (.tuple #[.agg #[.int .i64 (a.mir.SLo (a.fd f) f.mir), .int .i64 (a.mir.SHi (a.fd f) f.mir)], .int .i64 (a.mir.SE (a.fd f) f.mir)]) ∧ Below w'.heap.size w' w'') := Lib.hid (fun g cg A1 c1 w' h k => spreadOf_any a.mir (a.fd f) f.mir (some ⟨g, 0, none⟩) cg A1 c1 w' h k (by show a.n ≤ _; omega) (by show a.n ≤ _; omega))
      rw [qc] at p0
      rw [hr]
      have HN := Lib.hid n0; have HI5 := Lib.hid hI5; have FB := Lib.hid fb
      clear qE qf qc qd qel k0 k1 he fb hr hi5 hg5 hA5 HFO HCA n0 hA
      have HBC := Lib.hid bel
      clear bel hI5
      go_wp2_with fail
      refine (HC2.out _ (HX.out.later HBC.out)).mono ?_
      rintro e w5 ⟨g, cg, rfl, hg0, hg1, hR, hb5⟩
      have gA5 := Lib.hid (fun a5 (q : A5 = some a5) => (show a5.block ≠ g by have := hL5 a5 q; omega))
      have u0 := cell_later hb5 v0
      have u1 := cell_later hb5 v1
      have u2 := cell_later hb5 v2
      have u3 := cell_later hb5 v3
      have u4 := cell_later hb5 v4
      have u5 := cell_later hb5 v5
      have u6 := cell_later hb5 v6
      have u7 := cell_later hb5 v7
      have p0_ := cell_later hb5 p0; have p1_ := cell_later hb5 p1
      have zP := World.block_lt_of_cell? _ _ p0
      dsimp only at zP
      have I5 := HI5.out.later hb5
      have H5 : Hid (Below w.heap.size w w5) := Lib.hid (below_then HBC.out hb5)
      have zz5 := hb5.size
      have zw := HBC.out.size
      have zv := World.block_lt_of_cell? _ _ v6
      dsimp only at zv
      clear hb5 v0 v1 v2 v3 v4 v5 v6 v7 p0 p1 HI5 hL5 HC2
      go_wp2
      obtain ⟨B7, hB7⟩ : ∃ q, q = w5.heap.size := ⟨_, rfl⟩
      rw [← hB7]
      generalize hW6 : w5.alloc (.cells #[.slice (some ⟨g, 0, none⟩) a.n cg, .int .i64 a.m.wd, .int .i64 a.m.mt, .int .i64 a.m.sk, .int .i64 a.m.th, .int .i64 a.ck] 118) = w6 at *
      have b6 : Below w5.heap.size w5 w6 := by rw [← hW6]; exact (Below.refl _ _).alloc (Nat.le_refl _) _
      have y0 : w6.cell? ⟨B7, 0, none⟩ = some (.slice (some ⟨g, 0, none⟩) a.n cg) := by rw [← hW6, hB7]; simp [go_sem]
      have y1 : w6.cell? ⟨B7, 1, none⟩ = some (.int .i64 a.m.wd) := by rw [← hW6, hB7]; simp [go_sem]
      have y2 : w6.cell? ⟨B7, 2, none⟩ = some (.int .i64 a.m.mt) := by rw [← hW6, hB7]; simp [go_sem]
      have y3 : w6.cell? ⟨B7, 3, none⟩ = some (.int .i64 a.m.sk) := by rw [← hW6, hB7]; simp [go_sem]
      have y4 : w6.cell? ⟨B7, 4, none⟩ = some (.int .i64 a.m.th) := by rw [← hW6, hB7]; simp [go_sem]
      have y5 : w6.cell? ⟨B7, 5, none⟩ = some (.int .i64 a.ck) := by rw [← hW6, hB7]; simp [go_sem]
      have R6 := hR.later b6
      have t0 := cell_later b6 u0
      have t1 := cell_later b6 u1
      have t2 := cell_later b6 u2
      have t3 := cell_later b6 u3
      have t4 := cell_later b6 u4
      have t5 := cell_later b6 u5
      have t6 := cell_later b6 u6
      have t7 := cell_later b6 u7
      have x0 := cell_later b6 p0_; have x1 := cell_later b6 p1_
      have I6 := I5.later b6
      have H6 : Hid (Below w.heap.size w w6) := Lib.hid (below_then H5.out b6)
      have zB1 : g < B7 := by omega
      have zB2 : wc.heap.size ≤ B7 := by omega
      clear hW6 b6 hR u0 u1 u2 u3 u4 u5 u6 u7 p0_ p1_ I5 hB7
      have e0 : curS a.p 0 = a.p := by funext i; simp [curS]
      go_loopw [8] (fun s8 wr => ∃ k : Nat, k ≤ a.n ∧ s8 = .int .i64 (k : Int) ∧ RowS g a.n (curS a.p k) wr ∧ wr.cell? ⟨B7, 0, none⟩ = some (.slice (some ⟨g, 0, none⟩) a.n cg) ∧ wr.cell? ⟨B7, 1, none⟩ = some (.int .i64 a.m.wd) ∧ wr.cell? ⟨B7, 2, none⟩ = some (.int .i64 a.m.mt) ∧ wr.cell? ⟨B7, 3, none⟩ = some (.int .i64 a.m.sk) ∧ wr.cell? ⟨B7, 4, none⟩ = some (.int .i64 a.m.th) ∧ wr.cell? ⟨B7, 5, none⟩ = some (.int .i64 a.ck) ∧ wr.cell? ⟨w.heap.size, 0, none⟩ = some (.slice (some ad) a.n c) ∧ wr.cell? ⟨w.heap.size, 1, none⟩ = some (.int .i64 a.m.wd) ∧ wr.cell? ⟨w.heap.size, 2, none⟩ = some (.int .i64 a.m.mt) ∧ wr.cell? ⟨w.heap.size, 3, none⟩ = some (.int .i64 a.m.sk) ∧ wr.cell? ⟨w.heap.size, 4, none⟩ = some (.int .i64 a.m.th) ∧ wr.cell? ⟨w.heap.size, 5, none⟩ = some (.int .i64 a.ck) ∧ wr.cell? ⟨w.heap.size + 1, 0, none⟩ = some (.int .i64 f.x) ∧ wr.cell? ⟨w.heap.size + 1, 1, none⟩ = some (.int .i64 f.z) ∧ wr.cell? ⟨P, 0, none⟩ = some (.int .i64 a.ck) ∧ wr.cell? ⟨P, 1, none⟩ = some (.slice A5 a.n c5) ∧ InAt A5 a.n (a.dl f) wr ∧ Below w.heap.size w wr) (fun s8 _ => a.n - (intOf s8).toNat)
      case atStart => exact ⟨0, Nat.zero_le _, rfl, by rw [e0]; exact R6, y0, y1, y2, y3, y4, y5, t0, t1, t2, t3, t4, t5, t6, t7, x0, x1, I6, H6.out⟩
      case round =>
        clear R6 y0 y1 y2 y3 y4 y5 t0 t1 t2 t3 t4 t5 t6 t7 x0 x1 I6 e0
        obtain ⟨k, hk, rfl, R6, y0, y1, y2, y3, y4, y5, t0, t1, t2, t3, t4, t5, t6, t7, x0, x1, I6, bel⟩ := hrel
        have HB := Lib.hid bel; clear bel
        by_cases hlt : k < a.n
        · have cx := (R6 k hlt).1
          have cf := (R6 k hlt).2.2
          have e1 : (curS a.p k k).x = (a.p k).x := by simp [curS]
          rw [e1] at cx
          have xb := XB.out k hlt
          have e2 : IntKind.i64.wrap (-(a.p k).x) = -(a.p k).x := IntWalk.i64_in _ (by omega)
          have j0 : (0 : Int) ≤ (k : Int) := Int.natCast_nonneg _
          have j1 : (k : Int) < (a.n : Int) := by omega
          have R6' := Lib.hid R6; have I6' := Lib.hid I6
          clear R6 I6 xb e1
          go_wp2
          refine wp_region_still_tail 12 (by kernel_rfl) (by kernel_rfl) ?_
          simp only [List.take_succ_cons, List.take_zero, List.drop_succ_cons, List.drop_zero]
          repeat still_step
          try simp only [e2]
          repeat still_step
          refine wpStill_nil ?_
          change wpList _ _ _ _ _ wr.drew
          have Rd : RowS g a.n (curS a.p k) wr.drew := R6'.out
          have dy0 : wr.drew.cell? ⟨B7, 0, none⟩ = some (.slice (some ⟨g, 0, none⟩) a.n cg) := y0
          have dy1 : wr.drew.cell? ⟨B7, 1, none⟩ = some (.int .i64 a.m.wd) := y1
          have dy2 : wr.drew.cell? ⟨B7, 2, none⟩ = some (.int .i64 a.m.mt) := y2
          have dy3 : wr.drew.cell? ⟨B7, 3, none⟩ = some (.int .i64 a.m.sk) := y3
          have dy4 : wr.drew.cell? ⟨B7, 4, none⟩ = some (.int .i64 a.m.th) := y4
          have dy5 : wr.drew.cell? ⟨B7, 5, none⟩ = some (.int .i64 a.ck) := y5
          have dt0 : wr.drew.cell? ⟨w.heap.size, 0, none⟩ = some (.slice (some ad) a.n c) := t0
          have dt1 : wr.drew.cell? ⟨w.heap.size, 1, none⟩ = some (.int .i64 a.m.wd) := t1
          have dt2 : wr.drew.cell? ⟨w.heap.size, 2, none⟩ = some (.int .i64 a.m.mt) := t2
          have dt3 : wr.drew.cell? ⟨w.heap.size, 3, none⟩ = some (.int .i64 a.m.sk) := t3
          have dt4 : wr.drew.cell? ⟨w.heap.size, 4, none⟩ = some (.int .i64 a.m.th) := t4
          have dt5 : wr.drew.cell? ⟨w.heap.size, 5, none⟩ = some (.int .i64 a.ck) := t5
          have dt6 : wr.drew.cell? ⟨w.heap.size + 1, 0, none⟩ = some (.int .i64 f.x) := t6
          have dt7 : wr.drew.cell? ⟨w.heap.size + 1, 1, none⟩ = some (.int .i64 f.z) := t7
          have dx0 : wr.drew.cell? ⟨P, 0, none⟩ = some (.int .i64 a.ck) := x0
          have dx1 : wr.drew.cell? ⟨P, 1, none⟩ = some (.slice A5 a.n c5) := x1
          have Id : InAt A5 a.n (a.dl f) wr.drew := I6'.out
          have HD : Below w.heap.size w wr.drew := HB.out.drew
          have cf2 : wr.drew.frozen? ⟨g, k * 2, none⟩ = false := cf
          have cx2 : wr.drew.cell? ⟨g, k * 2, none⟩ = some (.int .i64 (a.p k).x) := cx
          clear HB cx cf y0 y1 y2 y3 y4 y5 t0 t1 t2 t3 t4 t5 t6 t7 x0 x1 R6' I6'
          generalize wr.drew = wd at *
          go_upto_region 11 with fail
          generalize hWe : wd.setCell ⟨g, k * 2, none⟩ (.int .i64 (-(a.p k).x)) = we at *
          have Re : RowS g a.n (curS a.p (k + 1)) we := by
            rw [← hWe]
            refine Rd.put k _ (fun j hj => ?_) (fun j hj => rfl)
            unfold curS
            by_cases q : j = k
            · subst q; simp
            · rw [if_neg q]; have q1 : j < k + 1 ↔ j < k := by omega
              dsimp only; simp only [q1]
          have y0 : we.cell? ⟨B7, 0, none⟩ = some (.slice (some ⟨g, 0, none⟩) a.n cg) := by rw [← hWe]; exact setO (.inl (by dsimp only; omega)) dy0
          have y1 : we.cell? ⟨B7, 1, none⟩ = some (.int .i64 a.m.wd) := by rw [← hWe]; exact setO (.inl (by dsimp only; omega)) dy1
          have y2 : we.cell? ⟨B7, 2, none⟩ = some (.int .i64 a.m.mt) := by rw [← hWe]; exact setO (.inl (by dsimp only; omega)) dy2
          have y3 : we.cell? ⟨B7, 3, none⟩ = some (.int .i64 a.m.sk) := by rw [← hWe]; exact setO (.inl (by dsimp only; omega)) dy3
          have y4 : we.cell? ⟨B7, 4, none⟩ = some (.int .i64 a.m.th) := by rw [← hWe]; exact setO (.inl (by dsimp only; omega)) dy4
          have y5 : we.cell? ⟨B7, 5, none⟩ = some (.int .i64 a.ck) := by rw [← hWe]; exact setO (.inl (by dsimp only; omega)) dy5
          have t0 : we.cell? ⟨w.heap.size, 0, none⟩ = some (.slice (some ad) a.n c) := by rw [← hWe]; exact setO (.inl (by dsimp only; omega)) dt0
          have t1 : we.cell? ⟨w.heap.size, 1, none⟩ = some (.int .i64 a.m.wd) := by rw [← hWe]; exact setO (.inl (by dsimp only; omega)) dt1
          have t2 : we.cell? ⟨w.heap.size, 2, none⟩ = some (.int .i64 a.m.mt) := by rw [← hWe]; exact setO (.inl (by dsimp only; omega)) dt2
          have t3 : we.cell? ⟨w.heap.size, 3, none⟩ = some (.int .i64 a.m.sk) := by rw [← hWe]; exact setO (.inl (by dsimp only; omega)) dt3
          have t4 : we.cell? ⟨w.heap.size, 4, none⟩ = some (.int .i64 a.m.th) := by rw [← hWe]; exact setO (.inl (by dsimp only; omega)) dt4
          have t5 : we.cell? ⟨w.heap.size, 5, none⟩ = some (.int .i64 a.ck) := by rw [← hWe]; exact setO (.inl (by dsimp only; omega)) dt5
          have t6 : we.cell? ⟨w.heap.size + 1, 0, none⟩ = some (.int .i64 f.x) := by rw [← hWe]; exact setO (.inl (by dsimp only; omega)) dt6
          have t7 : we.cell? ⟨w.heap.size + 1, 1, none⟩ = some (.int .i64 f.z) := by rw [← hWe]; exact setO (.inl (by dsimp only; omega)) dt7
          have x0 : we.cell? ⟨P, 0, none⟩ = some (.int .i64 a.ck) := by rw [← hWe]; exact setO (.inl (by dsimp only; omega)) dx0
          have x1 : we.cell? ⟨P, 1, none⟩ = some (.slice A5 a.n c5) := by rw [← hWe]; exact setO (.inl (by dsimp only; omega)) dx1
          have Ie : InAt A5 a.n (a.dl f) we := by rw [← hWe]; exact Id.set _ _ _ (fun a5 q => gA5.out a5 q)
          have He : Hid (Below w.heap.size w we) := Lib.hid (by rw [← hWe]; exact HD.setCell (by dsimp only; omega) _)
          have Re' := Lib.hid Re; have Ie' := Lib.hid Ie
          clear hWe Rd dy0 dy1 dy2 dy3 dy4 dy5 dt0 dt1 dt2 dt3 dt4 dt5 dt6 dt7 dx0 dx1 Id HD cf2 cx2 Re Ie
          go_wp2
          go_roundw
          case rel => exact ⟨k + 1, by omega, by go_num, Re'.out, by assumption, by assumption, by assumption, by assumption, by assumption, by assumption, by assumption, by assumption, by assumption, by assumption, by assumption, by assumption, by assumption, by assumption, by assumption, by assumption, Ie'.out, He.out⟩
          case measure => simp [intOf]; omega
        · have hk' : k = a.n := by omega
          have kk : decide ((k : Int) < (a.n : Int)) = false := by simp; omega
          have S6 : SpAt (some ⟨g, 0, none⟩) a.n a.mir.p wr := RowS.at (fun i hi => by
            have q := R6 i hi
            have e : curS a.p k i = a.mir.p i := by unfold curS; rw [if_pos (by omega)]; rfl
            rw [e] at q; exact q)
          have S6' := Lib.hid S6; have I6' := Lib.hid I6
          have fb := FB.out
          have e3 : IntKind.i64.wrap (-f.x) = -f.x := IntWalk.i64_in _ (by omega)
          clear R6 hk' S6 I6 fb
          go_upto_region 14 with fail
          obtain ⟨B8, hB8⟩ : ∃ q, q = wr.heap.size := ⟨_, rfl⟩
          rw [← hB8]
          generalize hW8 : wr.alloc (.cells #[.int .i64 (-f.x), .int .i64 f.z] 23) = w8 at *
          have b8 : Below wr.heap.size wr w8 := by rw [← hW8]; exact (Below.refl _ _).alloc (Nat.le_refl _) _
          have y08 : w8.cell? ⟨B7, 0, none⟩ = some (.slice (some ⟨g, 0, none⟩) a.n cg) := cell_later b8 y0
          have y18 : w8.cell? ⟨B7, 1, none⟩ = some (.int .i64 a.m.wd) := cell_later b8 y1
          have y28 : w8.cell? ⟨B7, 2, none⟩ = some (.int .i64 a.m.mt) := cell_later b8 y2
          have y38 : w8.cell? ⟨B7, 3, none⟩ = some (.int .i64 a.m.sk) := cell_later b8 y3
          have y48 : w8.cell? ⟨B7, 4, none⟩ = some (.int .i64 a.m.th) := cell_later b8 y4
          have y58 : w8.cell? ⟨B7, 5, none⟩ = some (.int .i64 a.ck) := cell_later b8 y5
          have t08 : w8.cell? ⟨w.heap.size, 0, none⟩ = some (.slice (some ad) a.n c) := cell_later b8 t0
          have t18 : w8.cell? ⟨w.heap.size, 1, none⟩ = some (.int .i64 a.m.wd) := cell_later b8 t1
          have t28 : w8.cell? ⟨w.heap.size, 2, none⟩ = some (.int .i64 a.m.mt) := cell_later b8 t2
          have t38 : w8.cell? ⟨w.heap.size, 3, none⟩ = some (.int .i64 a.m.sk) := cell_later b8 t3
          have t48 : w8.cell? ⟨w.heap.size, 4, none⟩ = some (.int .i64 a.m.th) := cell_later b8 t4
          have t58 : w8.cell? ⟨w.heap.size, 5, none⟩ = some (.int .i64 a.ck) := cell_later b8 t5
          have t68 : w8.cell? ⟨w.heap.size + 1, 0, none⟩ = some (.int .i64 f.x) := cell_later b8 t6
          have t78 : w8.cell? ⟨w.heap.size + 1, 1, none⟩ = some (.int .i64 f.z) := cell_later b8 t7
          have x08 : w8.cell? ⟨P, 0, none⟩ = some (.int .i64 a.ck) := cell_later b8 x0
          have x18 : w8.cell? ⟨P, 1, none⟩ = some (.slice A5 a.n c5) := cell_later b8 x1
          have s80 : w8.cell? ⟨B8, 0, none⟩ = some (.int .i64 (-f.x)) := by rw [← hW8, hB8]; simp [go_sem]
          have s81 : w8.cell? ⟨B8, 1, none⟩ = some (.int .i64 f.z) := by rw [← hW8, hB8]; simp [go_sem]
          have S8 := Lib.hid (S6'.out.later b8); have I8 := Lib.hid (I6'.out.later b8)
          have H8 : Hid (Below w.heap.size w w8) := Lib.hid (below_then HB.out b8)
          clear hW8 b8 HB S6' I6' y0 y1 y2 y3 y4 y5 t0 t1 t2 t3 t4 t5 t6 t7 x0 x1 hB8 e3
          go_wp2_with fail
          refine (HW1.out _ (HX.out.later H8.out)).mono ?_
          rintro e w9 ⟨rfl, hb9⟩
          have y09 : w9.cell? ⟨B7, 0, none⟩ = some (.slice (some ⟨g, 0, none⟩) a.n cg) := cell_later hb9 y08
          have y19 : w9.cell? ⟨B7, 1, none⟩ = some (.int .i64 a.m.wd) := cell_later hb9 y18
          have y29 : w9.cell? ⟨B7, 2, none⟩ = some (.int .i64 a.m.mt) := cell_later hb9 y28
          have y39 : w9.cell? ⟨B7, 3, none⟩ = some (.int .i64 a.m.sk) := cell_later hb9 y38
          have y49 : w9.cell? ⟨B7, 4, none⟩ = some (.int .i64 a.m.th) := cell_later hb9 y48
          have y59 : w9.cell? ⟨B7, 5, none⟩ = some (.int .i64 a.ck) := cell_later hb9 y58
          have t09 : w9.cell? ⟨w.heap.size, 0, none⟩ = some (.slice (some ad) a.n c) := cell_later hb9 t08
          have t19 : w9.cell? ⟨w.heap.size, 1, none⟩ = some (.int .i64 a.m.wd) := cell_later hb9 t18
          have t29 : w9.cell? ⟨w.heap.size, 2, none⟩ = some (.int .i64 a.m.mt) := cell_later hb9 t28
          have t39 : w9.cell? ⟨w.heap.size, 3, none⟩ = some (.int .i64 a.m.sk) := cell_later hb9 t38
          have t49 : w9.cell? ⟨w.heap.size, 4, none⟩ = some (.int .i64 a.m.th) := cell_later hb9 t48
          have t59 : w9.cell? ⟨w.heap.size, 5, none⟩ = some (.int .i64 a.ck) := cell_later hb9 t58
          have t69 : w9.cell? ⟨w.heap.size + 1, 0, none⟩ = some (.int .i64 f.x) := cell_later hb9 t68
          have t79 : w9.cell? ⟨w.heap.size + 1, 1, none⟩ = some (.int .i64 f.z) := cell_later hb9 t78
          have x09 : w9.cell? ⟨P, 0, none⟩ = some (.int .i64 a.ck) := cell_later hb9 x08
          have x19 : w9.cell? ⟨P, 1, none⟩ = some (.slice A5 a.n c5) := cell_later hb9 x18
          have s90 := cell_later hb9 s80; have s91 := cell_later hb9 s81
          have S9 := Lib.hid (S8.out.later hb9); have I9 := Lib.hid (I8.out.later hb9)
          have H9 : Hid (Below w.heap.size w w9) := Lib.hid (below_then H8.out hb9)
          clear hb9 S8 I8 y08 y18 y28 y38 y48 y58 t08 t18 t28 t38 t48 t58 t68 t78 x08 x18 s80 s81 H8 HW1
          go_wp2_with fail
          refine (HW2.out g cg _ S9.out).mono ?_
          rintro e wz ⟨rfl, hbz⟩
          have y0z : wz.cell? ⟨B7, 0, none⟩ = some (.slice (some ⟨g, 0, none⟩) a.n cg) := cell_later hbz y09
          have y1z : wz.cell? ⟨B7, 1, none⟩ = some (.int .i64 a.m.wd) := cell_later hbz y19
          have y2z : wz.cell? ⟨B7, 2, none⟩ = some (.int .i64 a.m.mt) := cell_later hbz y29
          have y3z : wz.cell? ⟨B7, 3, none⟩ = some (.int .i64 a.m.sk) := cell_later hbz y39
          have y4z : wz.cell? ⟨B7, 4, none⟩ = some (.int .i64 a.m.th) := cell_later hbz y49
          have y5z : wz.cell? ⟨B7, 5, none⟩ = some (.int .i64 a.ck) := cell_later hbz y59
          have t0z : wz.cell? ⟨w.heap.size, 0, none⟩ = some (.slice (some ad) a.n c) := cell_later hbz t09
          have t1z : wz.cell? ⟨w.heap.size, 1, none⟩ = some (.int .i64 a.m.wd) := cell_later hbz t19
          have t2z : wz.cell? ⟨w.heap.size, 2, none⟩ = some (.int .i64 a.m.mt) := cell_later hbz t29
          have t3z : wz.cell? ⟨w.heap.size, 3, none⟩ = some (.int .i64 a.m.sk) := cell_later hbz t39
          have t4z : wz.cell? ⟨w.heap.size, 4, none⟩ = some (.int .i64 a.m.th) := cell_later hbz t49
          have t5z : wz.cell? ⟨w.heap.size, 5, none⟩ = some (.int .i64 a.ck) := cell_later hbz t59
          have t6z : wz.cell? ⟨w.heap.size + 1, 0, none⟩ = some (.int .i64 f.x) := cell_later hbz t69
          have t7z : wz.cell? ⟨w.heap.size + 1, 1, none⟩ = some (.int .i64 f.z) := cell_later hbz t79
          have x0z : wz.cell? ⟨P, 0, none⟩ = some (.int .i64 a.ck) := cell_later hbz x09
          have x1z : wz.cell? ⟨P, 1, none⟩ = some (.slice A5 a.n c5) := cell_later hbz x19
          have sz0 := cell_later hbz s90; have sz1 := cell_later hbz s91
          have Sz := Lib.hid (S9.out.later hbz); have Iz := Lib.hid (I9.out.later hbz)
          have Hz : Hid (Below w.heap.size w wz) := Lib.hid (below_then H9.out hbz)
          clear hbz S9 I9 y09 y19 y29 y39 y49 y59 t09 t19 t29 t39 t49 t59 t69 t79 x09 x19 s90 s91 H9 HW2
          go_upto_region 16 with fail
          have zB := World.block_lt_of_cell? _ _ y0z
          have zw0 := World.block_lt_of_cell? _ _ t0z
          have zw1 := World.block_lt_of_cell? _ _ t6z
          have zPz := World.block_lt_of_cell? _ _ x0z
          have zBz := World.block_lt_of_cell? _ _ sz0
          dsimp only at zB zw0 zw1 zPz zBz
          have hS : Below w.heap.size w wz := Hz.out
          have hS2 : Below wz.heap.size wz wz := Below.refl _ _
          go_cut [14, 15] (fun s14 s15 wx => ∃ T : Nat, s14 = .pointer (some ⟨T, 0, none⟩) ∧ s15 = .int .i64 (a.mir.SE (a.fd f) f.mir) ∧ wx.cell? ⟨T, 0, none⟩ = some (.int .i64 (a.mir.SLo (a.fd f) f.mir)) ∧ wx.cell? ⟨T, 1, none⟩ = some (.int .i64 (a.mir.SHi (a.fd f) f.mir)) ∧ wx.cell? ⟨w.heap.size, 5, none⟩ = some (.int .i64 a.ck) ∧ Below w.heap.size w wx)
          case first =>
            go_region_held3 (fun w' => w'.cell? ⟨B7, 0, none⟩ = some (.slice (some ⟨g, 0, none⟩) a.n cg) ∧ w'.cell? ⟨B7, 1, none⟩ = some (.int .i64 a.m.wd) ∧ w'.cell? ⟨B7, 2, none⟩ = some (.int .i64 a.m.mt) ∧ w'.cell? ⟨B7, 3, none⟩ = some (.int .i64 a.m.sk) ∧ w'.cell? ⟨B7, 4, none⟩ = some (.int .i64 a.m.th) ∧ w'.cell? ⟨B7, 5, none⟩ = some (.int .i64 a.ck) ∧ w'.cell? ⟨w.heap.size, 0, none⟩ = some (.slice (some ad) a.n c) ∧ w'.cell? ⟨w.heap.size, 1, none⟩ = some (.int .i64 a.m.wd) ∧ w'.cell? ⟨w.heap.size, 2, none⟩ = some (.int .i64 a.m.mt) ∧ w'.cell? ⟨w.heap.size, 3, none⟩ = some (.int .i64 a.m.sk) ∧ w'.cell? ⟨w.heap.size, 4, none⟩ = some (.int .i64 a.m.th) ∧ w'.cell? ⟨w.heap.size, 5, none⟩ = some (.int .i64 a.ck) ∧ w'.cell? ⟨w.heap.size + 1, 0, none⟩ = some (.int .i64 f.x) ∧ w'.cell? ⟨w.heap.size + 1, 1, none⟩ = some (.int .i64 f.z) ∧ w'.cell? ⟨P, 0, none⟩ = some (.int .i64 a.ck) ∧ w'.cell? ⟨P, 1, none⟩ = some (.slice A5 a.n c5) ∧ w'.cell? ⟨B8, 0, none⟩ = some (.int .i64 (-f.x)) ∧ w'.cell? ⟨B8, 1, none⟩ = some (.int .i64 f.z) ∧ Below w.heap.size w w' ∧ Below wz.heap.size wz w') (((go_split_ands; (repeat' apply And.intro) <;> ((repeat (first | (with_reducible assumption) | (with_reducible exact Below.refl _ _) | (with_reducible refine cell_alloc_later ?_ _) | (with_reducible refine cell_drewA ?_) | (with_reducible refine cellA (by with_reducible assumption) ?_) | (with_reducible refine belowA ?_ (by with_reducible assumption)) | (with_reducible refine below_alloc_top ?_ _) | (with_reducible refine Below.drew ?_) | (with_reducible refine cell_set_old ?_ (by with_reducible assumption)) | (with_reducible refine below_set_old ?_ (by with_reducible assumption)) | (with_reducible refine Below.setCell ?_ (by first | omega | (simp; done) | (simp; omega)) _) | (simp [go_sem, World.cell?_alloc_past, *]; done))); done))))
              (first
                | (go_split_ands; go_at_call 81; (with_reducible refine (HCL.out _ (Iz.out.later (by with_reducible assumption))).mono ?_); rintro e w' ⟨A2, c2, rfl, hi, hb⟩; have hbA : BelA _ w' := hb; obtain ⟨hc', hf'⟩ := bcell hb; have hz' := hb.size; (try simp at hz'); (first | (have tF' := Nat.lt_of_succ_le hz') | (have tF' := Nat.lt_of_lt_of_le tF' hz') | skip); clear hb)
                | (go_split_ands; go_at_call 79; (with_reducible refine (HS2.out _ _ _ _ _ (Sz.out.later (by with_reducible assumption)) (by repeat (first | (with_reducible assumption) | (with_reducible refine InAt.laterA (by with_reducible assumption) ?_) | (with_reducible refine InAt.alloc ?_ _) | (with_reducible refine InAt.drew ?_)))).mono ?_); rintro e w' ⟨rfl, hb⟩; have hbA : BelA _ w' := hb; obtain ⟨hc', hf'⟩ := bcell hb; have hz' := hb.size; (try simp at hz'); (first | (have tF' := Nat.lt_of_succ_le hz') | (have tF' := Nat.lt_of_lt_of_le tF' hz') | skip); clear hb))
            all_goals
              go_split_ands
              go_wp2_with fail
              go_meet
              exact ⟨_, rfl, rfl, (by first | (with_reducible assumption) | (simp [go_sem, World.cell?_alloc_past, *]; done)), (by first | (with_reducible assumption) | (simp [go_sem, World.cell?_alloc_past, *]; done)), (by first | (with_reducible assumption) | (simp [go_sem, World.cell?_alloc_past, *]; done)), (by first | (with_reducible assumption) | (simp [go_sem, World.cell?_alloc_past, *]; done))⟩
          case rest =>
            obtain ⟨T, rfl, rfl, r0, r1, r2, bel3⟩ := hcut
            obtain ⟨m0, m1, m2, m3, ⟨m4, m5⟩, ⟨m6, m7⟩, m8, m9⟩ := MM.out
            rw [m0]
            have HB3 := Lib.hid bel3
            clear bel3 hS hS2 HS2 HCL MM y0z y1z y2z y3z y4z y5z t0z t1z t2z t3z t4z t5z t6z t7z x0z x1z sz0 sz1
            generalize a.mir.SHi (a.fd f) f.mir = hi at *
            generalize a.mir.SLo (a.fd f) f.mir = lo at *
            generalize a.wd f a.n = own at *
            generalize a.mir.wd f.mir a.n = oth at *
            have v1 : IntKind.i64.wrap (own + oth) = own + oth := IntWalk.i64_in _ (by omega)
            have v2 : IntKind.i64.wrap (2 * (own + oth)) = 2 * (own + oth) := IntWalk.i64_in _ (by omega)
            have v3 : IntKind.i64.wrap (a.ck + 2 * (own + oth)) = a.ck + 2 * (own + oth) := IntWalk.i64_in _ (by omega)
            have v4 : decide (hi ≤ a.ck + 2 * (own + oth)) = true := by simp; exact m1
            clear m0 m1
            go_wp2
            go_ret
            exact ⟨rfl, (by (repeat (first | (with_reducible exact HB3.out) | (with_reducible refine Below.setCell ?_ ?_ _) | (with_reducible refine below_alloc_top ?_ _) | (with_reducible refine Below.drew ?_))); all_goals (first | omega | (simp; done) | (simp; omega)))⟩
    · obtain rfl := hg5 hr
      have n0 : (a.FLE f != 0) = true := by simpa using hr
      have HB2 := Lib.hid bel
      clear hg5 hi5 hr bel hL5
      go_wp2
      go_ret
      exact ⟨rfl, (by (repeat (first | (with_reducible exact HB2.out) | (with_reducible refine Below.setCell ?_ ?_ _) | (with_reducible refine below_alloc_top ?_ _) | (with_reducible refine Below.drew ?_))); all_goals (first | omega | (simp; done) | (simp; omega)))⟩
end Go.Proofs.Ytdicndakelgoeaa
