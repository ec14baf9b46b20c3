/- TopRecastSpread: the walk -/
import Derived.Test.YtdicndakelgoeaaV15
namespace Go.Proofs.Ytdicndakelgoeaa
open Go.RowKit Go.Shelf RayM
set_option linter.unusedSimpArgs false
set_option linter.unusedVariables false

theorem cut2_ {A B : Prop} (h : A) (f : A → B) : B := f h
/-- what an opaque call leaves: what lay lies -/
def BelA (w w' : World) : Prop := Below w.heap.size w w'
theorem cellA {w w' : World} {a : Addr} {v : Value} (h : BelA w w') (hc : w.cell? a = some v) : w'.cell? a = some v := cell_later h hc
theorem frozenA {w w' : World} {a : Addr} {v : Value} (h : BelA w w') (hc : w.cell? a = some v) (hf : w.frozen? a = false) : w'.frozen? a = false := frozen_after h hc hf
theorem belowA {w0 w w' : World} (h : Below w0.heap.size w0 w) (hb : BelA w w') : Below w0.heap.size w0 w' := below_then h hb
theorem SpAt.laterA {A : Option Addr} {n : Nat} {p : Nat → Sp} {w w' : World} (hb : BelA w w') (r : SpAt A n p w) : SpAt A n p w' := r.later hb
theorem InAt.laterA {A : Option Addr} {n : Nat} {p : Nat → Int} {w w' : World} (hb : BelA w w') (r : InAt A n p w) : InAt A n p w' := r.later hb
theorem SpAt.alloc {A : Option Addr} {n : Nat} {p : Nat → Sp} {w : World} (r : SpAt A n p w) (o : Obj) : SpAt A n p (w.alloc o) := r.later ((Below.refl _ _).alloc (Nat.le_refl _) _)
theorem InAt.alloc {A : Option Addr} {n : Nat} {p : Nat → Int} {w : World} (r : InAt A n p w) (o : Obj) : InAt A n p (w.alloc o) := r.later ((Below.refl _ _).alloc (Nat.le_refl _) _)
theorem SpAt.drew {A : Option Addr} {n : Nat} {p : Nat → Sp} {w : World} (r : SpAt A n p w) : SpAt A n p w.drew := r
theorem InAt.drew {A : Option Addr} {n : Nat} {p : Nat → Int} {w : World} (r : InAt A n p w) : InAt A n p w.drew := r
theorem cell_drewA {w : World} {a : Addr} {v : Value} (h : w.cell? a = some v) : w.drew.cell? a = some v := h
theorem frozen_drewA {w : World} {a : Addr} (h : w.frozen? a = false) : w.drew.frozen? a = false := h
theorem cell_set_old {w wk : World} {a : Addr} {v u x : Value} {i : Nat} (h : w.cell? a = some v) (hk : wk.cell? a = some u) : (w.setCell ⟨wk.heap.size, i, none⟩ x).cell? a = some v := by
  have := World.block_lt_of_cell? _ _ hk
  rw [World.cell?_setCell_other w _ a x (fun e => by rw [← e] at this; exact Nat.lt_irrefl _ this)]; exact h
theorem below_set_old {w0 w wk : World} {x : Value} {i : Nat} (h : Below w0.heap.size w0 w) (hk : Below w0.heap.size w0 wk) : Below w0.heap.size w0 (w.setCell ⟨wk.heap.size, i, none⟩ x) := Below.setCell h hk.size _

theorem rcE_zero1 (d : Dl) (clock : Int) (h : rcE d clock = 0) : rcE1 d clock = 0 := by
  unfold rcE at h
  by_cases q : rcE1 d clock = 0
  · exact q
  · rw [if_neg q] at h; exact h
set_option maxRecDepth 100000 in
set_option maxHeartbeats 1000000 in
theorem trs_any (a : La) (d : Dl) (clock : Int) (f : Sp) (A : Option Addr) (c : Nat) (B : Option Addr) (e : Nat) (w : World) (hA : A = none → a.n = 0 ∧ c = 0) (hB : B = none → d.n = 0 ∧ e = 0) (h : SpAt A a.n a.p w) (g : InAt B d.n d.t w) (hn : a.n ≤ 18) (hd : d.n ≤ 18) :
    Calls Try.prog 19 #[.agg #[.slice A a.n c, .int .i64 a.m.wd, .int .i64 a.m.mt, .int .i64 a.m.sk, .int .i64 a.m.th, .int .i64 a.ck], .agg #[.int .i64 d.ck, .slice B d.n e], .agg #[.int .i64 clock, .int .i64 f.x, .int .i64 f.z]] w fun e w' => e = .returned (.bool true) ∧ Below w.heap.size w w' := by
  have HX := Lib.hid h; clear h
  have HT := Lib.hid g; clear g
  have HCA : Hid (∀ w', SpAt A a.n a.p w' → Calls Try.prog 80 #[.agg #[.slice A a.n c, .int .i64 a.m.wd, .int .i64 a.m.mt, .int .i64 a.m.sk, .int .i64 a.m.th, .int .i64 a.ck]] w' fun e w'' => ∃ A1 c1, e = .returned (.agg #[.slice A1 a.n c1, .int .i64 a.m.wd, .int .i64 a.m.mt, .int .i64 a.m.sk, .int .i64 a.m.th, .int .i64 a.ck]) ∧ SpAt A1 a.n a.p w'' ∧ Below w'.heap.size w' w'') := Lib.hid (fun w' h => (copyArray_any a A c w' (by omega) hA h).mono (fun e w'' ⟨v, e1, ho, hb⟩ => by
    obtain ⟨A1, c1, rfl, _, hs⟩ := own_spots ho
    exact ⟨A1, c1, e1, hs, hb⟩))
  have HCL : Hid (∀ w', InAt B d.n d.t w' → Calls Try.prog 81 #[.agg #[.int .i64 d.ck, .slice B d.n e]] w' fun e_ w'' => ∃ A1 c1, e_ = .returned (.agg #[.int .i64 d.ck, .slice A1 d.n c1]) ∧ (A1 = none → d.n = 0 ∧ c1 = 0) ∧ InAt A1 d.n d.t w'' ∧ Below w'.heap.size w' w'') := Lib.hid (fun w' h => (copyLaw_any d B e w' (by omega) hB h).mono (fun e w'' ⟨v, e1, ho, hb⟩ => by
    obtain ⟨A1, c1, rfl, hz, hs⟩ := own_ints2 ho
    exact ⟨A1, c1, e1, hz, hs, hb⟩))
  have HSP := Lib.hid (fun A1 c1 B1 e1 w' h g => spreadOf_any a d f A1 c1 B1 e1 w' h g (by omega) (by omega))
  have HRC : Hid (∀ A1 c1 w', InAt A1 d.n d.t w' → Calls Try.prog 82 #[.agg #[.int .i64 d.ck, .slice A1 d.n c1], .int .i64 clock] w' fun e_ w'' => ∃ (x : Int) (A3 : Option Addr) (n3 c3 : Nat), e_ = .returned (.tuple #[.agg #[.int .i64 x, .slice A3 n3 c3], .int .i64 (rcE d clock)]) ∧ (rcE d clock = 0 → x = clock ∧ n3 = d.n ∧ A3 ≠ none ∧ InAt A3 d.n (chT d.t (rcF d clock)) w'') ∧ (∀ a, A3 = some a → w'.heap.size ≤ a.block) ∧ (rcE d clock = 0 → ∀ a, A3 = some a → a.block < w''.heap.size) ∧ Below w'.heap.size w' w'') := Lib.hid (fun A1 c1 w' h => (recast_any d clock A1 c1 w' h (by omega)).mono (fun e_ w'' ⟨A3, n3, c3, e1, hg, hbad, hb⟩ => by
    refine ⟨_, A3, n3, c3, e1, fun q => ?_, fun a ha => ?_, fun q a ha => ?_, hb⟩
    · obtain ⟨q1, q2, q3, q4⟩ := hg q
      exact ⟨by rw [if_pos q], q1, q2, q4⟩
    · by_cases q : rcE d clock = 0
      · exact (hg q).2.2.1 a ha
      · rw [(hbad q).1] at ha; cases ha
    · obtain ⟨q1, q2, q3, q4⟩ := hg q
      have qd : 0 < d.n := ((Dl.E_zero d).1 ((rcE1_zero d clock).1 (rcE_zero1 d clock q)).1).2.1.1
      subst ha
      have hh := World.block_lt_of_cell? _ _ (q4.at qd)
      have e0 : a.add 0 = a := by unfold Addr.add; rfl
      rwa [e0] at hh))
  have d1 : decide ((18 : Int) < (a.n : Int)) = false := by simp; omega
  have d2 : decide ((18 : Int) < (d.n : Int)) = false := by simp; omega
  go_enter Try.func19, Try.ntmps19
  go_wp2_with fail
  refine (lawed_any _).mono ?_
  rintro e w1 ⟨rfl, hb1⟩
  have qw10 : w1.cell? ⟨w.heap.size, 0, none⟩ = some (.slice A a.n c) := cell_later hb1 (by simp [go_sem])
  have qw11 : w1.cell? ⟨w.heap.size, 1, none⟩ = some (.int .i64 a.m.wd) := cell_later hb1 (by simp [go_sem])
  have qw12 : w1.cell? ⟨w.heap.size, 2, none⟩ = some (.int .i64 a.m.mt) := cell_later hb1 (by simp [go_sem])
  have qw13 : w1.cell? ⟨w.heap.size, 3, none⟩ = some (.int .i64 a.m.sk) := cell_later hb1 (by simp [go_sem])
  have qw14 : w1.cell? ⟨w.heap.size, 4, none⟩ = some (.int .i64 a.m.th) := cell_later hb1 (by simp [go_sem])
  have qw15 : w1.cell? ⟨w.heap.size, 5, none⟩ = some (.int .i64 a.ck) := cell_later hb1 (by simp [go_sem])
  have qw16 : w1.cell? ⟨w.heap.size + 1, 0, none⟩ = some (.int .i64 d.ck) := cell_later hb1 (by simp [go_sem])
  have qw17 : w1.cell? ⟨w.heap.size + 1, 1, none⟩ = some (.slice B d.n e) := cell_later hb1 (by simp [go_sem])
  have qw18 : w1.cell? ⟨w.heap.size + 1 + 1, 0, none⟩ = some (.int .i64 clock) := cell_later hb1 (by simp [go_sem])
  have qw19 : w1.cell? ⟨w.heap.size + 1 + 1, 1, none⟩ = some (.int .i64 f.x) := cell_later hb1 (by simp [go_sem])
  have qw110 : w1.cell? ⟨w.heap.size + 1 + 1, 2, none⟩ = some (.int .i64 f.z) := cell_later hb1 (by simp [go_sem])
  have zqw1_0 := World.block_lt_of_cell? _ _ qw10
  dsimp only at zqw1_0
  have zqw1_6 := World.block_lt_of_cell? _ _ qw16
  dsimp only at zqw1_6
  have zqw1_8 := World.block_lt_of_cell? _ _ qw18
  dsimp only at zqw1_8
  have H1 : Hid (Below w.heap.size w w1) := Lib.hid (below_after (by repeat (first | exact Below.refl _ _ | refine Below.drew ?_ | refine below_drewN ?_ _ | refine Below.setCell ?_ (by first | omega | (simp; done) | (simp; omega)) _ | refine Below.alloc ?_ (by first | omega | (simp; done) | (simp; omega)) _)) hb1 (by first | omega | (simp; done) | (simp; omega))); clear hb1
  go_upto_region 5 with fail
  have hS : Below w.heap.size w w1 := H1.out
  go_cut [7, 8] (fun s7 s8 wx => ∃ P : Nat, s7 = .pointer (some ⟨P, 0, none⟩) ∧ s8 = .int .i64 (a.SE d f) ∧ wx.cell? ⟨P, 0, none⟩ = some (.int .i64 (a.SLo d f)) ∧ wx.cell? ⟨P, 1, none⟩ = some (.int .i64 (a.SHi d f)) ∧ wx.cell? ⟨w.heap.size, 0, none⟩ = some (.slice A a.n c) ∧ wx.cell? ⟨w.heap.size, 1, none⟩ = some (.int .i64 a.m.wd) ∧ wx.cell? ⟨w.heap.size, 2, none⟩ = some (.int .i64 a.m.mt) ∧ wx.cell? ⟨w.heap.size, 3, none⟩ = some (.int .i64 a.m.sk) ∧ wx.cell? ⟨w.heap.size, 4, none⟩ = some (.int .i64 a.m.th) ∧ wx.cell? ⟨w.heap.size, 5, none⟩ = some (.int .i64 a.ck) ∧ wx.cell? ⟨w.heap.size + 1, 0, none⟩ = some (.int .i64 d.ck) ∧ wx.cell? ⟨w.heap.size + 1, 1, none⟩ = some (.slice B d.n e) ∧ wx.cell? ⟨w.heap.size + 1 + 1, 0, none⟩ = some (.int .i64 clock) ∧ wx.cell? ⟨w.heap.size + 1 + 1, 1, none⟩ = some (.int .i64 f.x) ∧ wx.cell? ⟨w.heap.size + 1 + 1, 2, none⟩ = some (.int .i64 f.z) ∧ Below w.heap.size w wx)
  case first =>
    go_region_held3 (fun w' => w'.cell? ⟨w.heap.size, 0, none⟩ = some (.slice A a.n c) ∧ w'.cell? ⟨w.heap.size, 1, none⟩ = some (.int .i64 a.m.wd) ∧ w'.cell? ⟨w.heap.size, 2, none⟩ = some (.int .i64 a.m.mt) ∧ w'.cell? ⟨w.heap.size, 3, none⟩ = some (.int .i64 a.m.sk) ∧ w'.cell? ⟨w.heap.size, 4, none⟩ = some (.int .i64 a.m.th) ∧ w'.cell? ⟨w.heap.size, 5, none⟩ = some (.int .i64 a.ck) ∧ w'.cell? ⟨w.heap.size + 1, 0, none⟩ = some (.int .i64 d.ck) ∧ w'.cell? ⟨w.heap.size + 1, 1, none⟩ = some (.slice B d.n e) ∧ w'.cell? ⟨w.heap.size + 1 + 1, 0, none⟩ = some (.int .i64 clock) ∧ w'.cell? ⟨w.heap.size + 1 + 1, 1, none⟩ = some (.int .i64 f.x) ∧ w'.cell? ⟨w.heap.size + 1 + 1, 2, none⟩ = some (.int .i64 f.z) ∧ Below w.heap.size w w') (((go_split_ands; (repeat' apply And.intro) <;> ((repeat (first | (with_reducible assumption) | (with_reducible exact Below.refl _ _) | (with_reducible refine cell_alloc_later ?_ _) | (with_reducible refine cell_drewA ?_) | (with_reducible refine cellA (by with_reducible assumption) ?_) | (with_reducible refine belowA ?_ (by with_reducible assumption)) | (with_reducible refine below_alloc_top ?_ _) | (with_reducible refine Below.drew ?_) | (with_reducible refine cell_set_old ?_ (by with_reducible assumption)) | (with_reducible refine below_set_old ?_ (by with_reducible assumption)) | (with_reducible refine Below.setCell ?_ (by first | omega | (simp; done) | (simp; omega)) _) | (simp [go_sem, World.cell?_alloc_past, *]; done))); done))))
      (first
        | (go_split_ands; go_at_call 80; (with_reducible refine (HCA.out _ (HX.out.later (by with_reducible assumption))).mono ?_); rintro e w' ⟨A1, c1, rfl, hs, hb⟩; have hbA : BelA _ w' := hb; obtain ⟨hc', hf'⟩ := bcell hb; have hz' := hb.size; (try simp at hz'); (first | (have tF' := Nat.lt_of_succ_le hz') | (have tF' := Nat.lt_of_lt_of_le tF' hz') | skip); clear hb)
        | (go_split_ands; go_at_call 81; (with_reducible refine (HCL.out _ (HT.out.later (by with_reducible assumption))).mono ?_); rintro e w' ⟨A2, c2, rfl, hz2, hi, hb⟩; have hbA : BelA _ w' := hb; obtain ⟨hc', hf'⟩ := bcell hb; have hz' := hb.size; (try simp at hz'); (first | (have tF' := Nat.lt_of_succ_le hz') | (have tF' := Nat.lt_of_lt_of_le tF' hz') | skip); clear hb)
        | (go_split_ands; go_at_call 79; (with_reducible refine (HSP.out _ _ _ _ _ (by repeat (first | (with_reducible assumption) | (with_reducible refine SpAt.laterA (by with_reducible assumption) ?_) | (with_reducible refine SpAt.alloc ?_ _) | (with_reducible refine SpAt.drew ?_))) (by repeat (first | (with_reducible assumption) | (with_reducible refine InAt.laterA (by with_reducible assumption) ?_) | (with_reducible refine InAt.alloc ?_ _) | (with_reducible refine InAt.drew ?_)))).mono ?_); rintro e w' ⟨rfl, hb⟩; have hbA : BelA _ w' := hb; obtain ⟨hc', hf'⟩ := bcell hb; have hz' := hb.size; (try simp at hz'); (first | (have tF' := Nat.lt_of_succ_le hz') | (have tF' := Nat.lt_of_lt_of_le tF' hz') | skip); clear hb))
    all_goals
      go_split_ands
      go_wp2_with fail
      go_meet
      exact ⟨_, rfl, rfl, (by first | (with_reducible assumption) | (simp [go_sem, World.cell?_alloc_past, *]; done)), (by first | (with_reducible assumption) | (simp [go_sem, World.cell?_alloc_past, *]; done)), (by first | (with_reducible assumption) | (simp [go_sem, World.cell?_alloc_past, *]; done)), (by first | (with_reducible assumption) | (simp [go_sem, World.cell?_alloc_past, *]; done)), (by first | (with_reducible assumption) | (simp [go_sem, World.cell?_alloc_past, *]; done)), (by first | (with_reducible assumption) | (simp [go_sem, World.cell?_alloc_past, *]; done)), (by first | (with_reducible assumption) | (simp [go_sem, World.cell?_alloc_past, *]; done)), (by first | (with_reducible assumption) | (simp [go_sem, World.cell?_alloc_past, *]; done)), (by first | (with_reducible assumption) | (simp [go_sem, World.cell?_alloc_past, *]; done)), (by first | (with_reducible assumption) | (simp [go_sem, World.cell?_alloc_past, *]; done)), (by first | (with_reducible assumption) | (simp [go_sem, World.cell?_alloc_past, *]; done)), (by first | (with_reducible assumption) | (simp [go_sem, World.cell?_alloc_past, *]; done)), (by first | (with_reducible assumption) | (simp [go_sem, World.cell?_alloc_past, *]; done)), (by first | (with_reducible assumption) | (simp [go_sem, World.cell?_alloc_past, *]; done))⟩
  case rest =>
    obtain ⟨P, rfl, rfl, p0, p1, r0, r1, r2, r3, r4, r5, r6, r7, r8, r9, r10, bel⟩ := hcut
    clear hS H1 qw10 qw11 qw12 qw13 qw14 qw15 qw16 qw17 qw18 qw19 qw110 zqw1_0 zqw1_6 zqw1_8
    have zr0 := World.block_lt_of_cell? _ _ r0
    have zr1 := World.block_lt_of_cell? _ _ r6
    have zr2 := World.block_lt_of_cell? _ _ r8
    have zp := World.block_lt_of_cell? _ _ p0
    dsimp only at zr0 zr1 zr2 zp
    go_upto_region 6 with fail
    go_cut [9, 10] (fun s9 s10 wx => ∃ (Q : Nat) (x : Int) (A3 : Option Addr) (n3 c3 : Nat), s9 = .pointer (some ⟨Q, 0, none⟩) ∧ s10 = .int .i64 (rcE d clock) ∧ wx.cell? ⟨Q, 0, none⟩ = some (.int .i64 x) ∧ wx.cell? ⟨Q, 1, none⟩ = some (.slice A3 n3 c3) ∧ (rcE d clock = 0 → x = clock ∧ n3 = d.n ∧ A3 ≠ none ∧ InAt A3 d.n (chT d.t (rcF d clock)) wx) ∧ wx.cell? ⟨w.heap.size, 0, none⟩ = some (.slice A a.n c) ∧ wx.cell? ⟨w.heap.size, 1, none⟩ = some (.int .i64 a.m.wd) ∧ wx.cell? ⟨w.heap.size, 2, none⟩ = some (.int .i64 a.m.mt) ∧ wx.cell? ⟨w.heap.size, 3, none⟩ = some (.int .i64 a.m.sk) ∧ wx.cell? ⟨w.heap.size, 4, none⟩ = some (.int .i64 a.m.th) ∧ wx.cell? ⟨w.heap.size, 5, none⟩ = some (.int .i64 a.ck) ∧ wx.cell? ⟨w.heap.size + 1, 0, none⟩ = some (.int .i64 d.ck) ∧ wx.cell? ⟨w.heap.size + 1, 1, none⟩ = some (.slice B d.n e) ∧ wx.cell? ⟨w.heap.size + 1 + 1, 0, none⟩ = some (.int .i64 clock) ∧ wx.cell? ⟨w.heap.size + 1 + 1, 1, none⟩ = some (.int .i64 f.x) ∧ wx.cell? ⟨w.heap.size + 1 + 1, 2, none⟩ = some (.int .i64 f.z) ∧ wx.cell? ⟨P, 0, none⟩ = some (.int .i64 (a.SLo d f)) ∧ wx.cell? ⟨P, 1, none⟩ = some (.int .i64 (a.SHi d f)) ∧ Below w.heap.size w wx)
    case first =>
      go_region_held3 (fun w' => w'.cell? ⟨w.heap.size, 0, none⟩ = some (.slice A a.n c) ∧ w'.cell? ⟨w.heap.size, 1, none⟩ = some (.int .i64 a.m.wd) ∧ w'.cell? ⟨w.heap.size, 2, none⟩ = some (.int .i64 a.m.mt) ∧ w'.cell? ⟨w.heap.size, 3, none⟩ = some (.int .i64 a.m.sk) ∧ w'.cell? ⟨w.heap.size, 4, none⟩ = some (.int .i64 a.m.th) ∧ w'.cell? ⟨w.heap.size, 5, none⟩ = some (.int .i64 a.ck) ∧ w'.cell? ⟨w.heap.size + 1, 0, none⟩ = some (.int .i64 d.ck) ∧ w'.cell? ⟨w.heap.size + 1, 1, none⟩ = some (.slice B d.n e) ∧ w'.cell? ⟨w.heap.size + 1 + 1, 0, none⟩ = some (.int .i64 clock) ∧ w'.cell? ⟨w.heap.size + 1 + 1, 1, none⟩ = some (.int .i64 f.x) ∧ w'.cell? ⟨w.heap.size + 1 + 1, 2, none⟩ = some (.int .i64 f.z) ∧ w'.cell? ⟨P, 0, none⟩ = some (.int .i64 (a.SLo d f)) ∧ w'.cell? ⟨P, 1, none⟩ = some (.int .i64 (a.SHi d f)) ∧ Below w.heap.size w w') (((go_split_ands; (repeat' apply And.intro) <;> ((repeat (first | (with_reducible assumption) | (with_reducible exact Below.refl _ _) | (with_reducible refine cell_alloc_later ?_ _) | (with_reducible refine cell_drewA ?_) | (with_reducible refine cellA (by with_reducible assumption) ?_) | (with_reducible refine belowA ?_ (by with_reducible assumption)) | (with_reducible refine below_alloc_top ?_ _) | (with_reducible refine Below.drew ?_) | (with_reducible refine cell_set_old ?_ (by with_reducible assumption)) | (with_reducible refine below_set_old ?_ (by with_reducible assumption)) | (with_reducible refine Below.setCell ?_ (by first | omega | (simp; done) | (simp; omega)) _) | (simp [go_sem, World.cell?_alloc_past, *]; done))); done))))
        (first
          | (go_split_ands; go_at_call 81; (with_reducible refine (HCL.out _ (HT.out.later (by with_reducible assumption))).mono ?_); rintro e w' ⟨A2, c2, rfl, hz2, hi, hb⟩; have hbA : BelA _ w' := hb; obtain ⟨hc', hf'⟩ := bcell hb; have hz' := hb.size; (try simp at hz'); (first | (have tF' := Nat.lt_of_succ_le hz') | (have tF' := Nat.lt_of_lt_of_le tF' hz') | skip); clear hb)
          | (go_split_ands; go_at_call 82; (with_reducible refine (HRC.out _ _ _ (by repeat (first | (with_reducible assumption) | (with_reducible refine InAt.laterA (by with_reducible assumption) ?_) | (with_reducible refine InAt.alloc ?_ _) | (with_reducible refine InAt.drew ?_)))).mono ?_); rintro e w' ⟨x3, A3, n3, c3, rfl, hg3, hB3, hL3, hb⟩; have hbA : BelA _ w' := hb; obtain ⟨hc', hf'⟩ := bcell hb; have hz' := hb.size; (try simp at hz'); (first | (have tF' := Nat.lt_of_succ_le hz') | (have tF' := Nat.lt_of_lt_of_le tF' hz') | skip); clear hb))
      all_goals
        go_split_ands
        go_wp2_with fail
        go_meet
        exact ⟨_, x3, A3, n3, c3, rfl, rfl, (by first | (with_reducible assumption) | (simp [go_sem, World.cell?_alloc_past, *]; done)), (by first | (with_reducible assumption) | (simp [go_sem, World.cell?_alloc_past, *]; done)), (fun hr => ⟨(hg3 hr).1, (hg3 hr).2.1, (hg3 hr).2.2.1, (by have hi3 := (hg3 hr).2.2.2; exact (by repeat (first | (with_reducible assumption) | (with_reducible refine InAt.alloc ?_ _) | (with_reducible refine InAt.drew ?_) | (refine InAt.set ?_ _ _ _ (fun a e => by have q1 := hB3 a e; have q2 := hL3 hr a e; (try simp at q1); omega)))))⟩), (by first | (with_reducible assumption) | (simp [go_sem, World.cell?_alloc_past, *]; done)), (by first | (with_reducible assumption) | (simp [go_sem, World.cell?_alloc_past, *]; done)), (by first | (with_reducible assumption) | (simp [go_sem, World.cell?_alloc_past, *]; done)), (by first | (with_reducible assumption) | (simp [go_sem, World.cell?_alloc_past, *]; done)), (by first | (with_reducible assumption) | (simp [go_sem, World.cell?_alloc_past, *]; done)), (by first | (with_reducible assumption) | (simp [go_sem, World.cell?_alloc_past, *]; done)), (by first | (with_reducible assumption) | (simp [go_sem, World.cell?_alloc_past, *]; done)), (by first | (with_reducible assumption) | (simp [go_sem, World.cell?_alloc_past, *]; done)), (by first | (with_reducible assumption) | (simp [go_sem, World.cell?_alloc_past, *]; done)), (by first | (with_reducible assumption) | (simp [go_sem, World.cell?_alloc_past, *]; done)), (by first | (with_reducible assumption) | (simp [go_sem, World.cell?_alloc_past, *]; done)), (by first | (with_reducible assumption) | (simp [go_sem, World.cell?_alloc_past, *]; done)), (by first | (with_reducible assumption) | (simp [go_sem, World.cell?_alloc_past, *]; done)), (by first | (with_reducible assumption) | (simp [go_sem, World.cell?_alloc_past, *]; done))⟩
    case rest =>
      obtain ⟨Q, x3, A3, n3, c3, rfl, rfl, q0, q1, hg, v0, v1, v2, v3, v4, v5, v6, v7, v8, v9, v10, p0', p1', bel2⟩ := hcut
      clear r0 r1 r2 r3 r4 r5 r6 r7 r8 r9 r10 p0 p1 bel zr0 zr1 zr2 zp
      by_cases hs : a.SE d f = 0
      · by_cases hr : rcE d clock = 0
        · obtain ⟨rfl, rfl, hA3, hI3⟩ := hg hr
          have HI3 := Lib.hid hI3
          have HNA := Lib.hid hA3
          have HM := Lib.hid (recast_spread a d x3 f hs hr)
          have HCM : Hid (∀ w', InAt A3 d.n (rcD d x3).t w' → Calls Try.prog 81 #[.agg #[.int .i64 x3, .slice A3 d.n c3]] w' fun e_ w'' => ∃ A1 c1, e_ = .returned (.agg #[.int .i64 x3, .slice A1 d.n c1]) ∧ InAt A1 d.n (rcD d x3).t w'' ∧ Below w'.heap.size w' w'') := Lib.hid (fun w' h => (copyLaw_any (rcD d x3) A3 c3 w' (by show d.n ≤ 1000; omega) (fun q => absurd q HNA.out) h).mono (fun e w'' ⟨v, e1, ho, hb⟩ => by
            obtain ⟨A1, c1, rfl, hz, hs⟩ := own_ints2 ho
            exact ⟨A1, c1, e1, hs, hb⟩))
          have HSM : Hid (∀ A1 c1 B1 e1 w', SpAt A1 a.n a.p w' → InAt B1 d.n (rcD d x3).t w' → Calls Try.prog 79 #[.agg #[.slice A1 a.n c1, .int .i64 a.m.wd, .int .i64 a.m.mt, .int .i64 a.m.sk, .int .i64 a.m.th, .int .i64 a.ck], .agg #[.int .i64 x3, .slice B1 d.n e1], .agg #[.int .i64 f.x, .int .i64 f.z]] w' fun e_ w'' => e_ = .returned (.tuple #[.agg #[.int .i64 (a.SLo (rcD d x3) f), .int .i64 (a.SHi (rcD d x3) f)], .int .i64 (a.SE (rcD d x3) f)]) ∧ Below w'.heap.size w' w'') := Lib.hid (fun A1 c1 B1 e1 w' h g => spreadOf_any a (rcD d x3) f A1 c1 B1 e1 w' h g (by omega) (by show d.n ≤ 9223372036854775807; omega))
          have HI3' : Hid (InAt A3 d.n (rcD d x3).t _) := HI3
          clear hg hA3 hI3
          have HS := Lib.hid hs; have HR := Lib.hid hr
          rw [hs, hr] at *
          clear hs hr
          have zr0 := World.block_lt_of_cell? _ _ v0
          have zr1 := World.block_lt_of_cell? _ _ v6
          have zr2 := World.block_lt_of_cell? _ _ v8
          have zp := World.block_lt_of_cell? _ _ p0'
          have zq := World.block_lt_of_cell? _ _ q0
          dsimp only at zr0 zr1 zr2 zp zq
          go_upto_region 9 with fail
          have hS : Below w.heap.size w wc := bel2
          have hS2 : Below wc.heap.size wc wc := Below.refl _ _
          go_cut [11, 12] (fun s11 s12 wx => ∃ T : Nat, s11 = .pointer (some ⟨T, 0, none⟩) ∧ s12 = .int .i64 (a.SE (rcD d x3) f) ∧ wx.cell? ⟨T, 0, none⟩ = some (.int .i64 (a.SLo (rcD d x3) f)) ∧ wx.cell? ⟨T, 1, none⟩ = some (.int .i64 (a.SHi (rcD d x3) f)) ∧ wx.cell? ⟨P, 0, none⟩ = some (.int .i64 (a.SLo d f)) ∧ wx.cell? ⟨P, 1, none⟩ = some (.int .i64 (a.SHi d f)) ∧ wx.cell? ⟨w.heap.size + 1 + 1, 0, none⟩ = some (.int .i64 x3) ∧ Below w.heap.size w wx)
          case first =>
            go_region_held3 (fun w' => w'.cell? ⟨w.heap.size, 0, none⟩ = some (.slice A a.n c) ∧ w'.cell? ⟨w.heap.size, 1, none⟩ = some (.int .i64 a.m.wd) ∧ w'.cell? ⟨w.heap.size, 2, none⟩ = some (.int .i64 a.m.mt) ∧ w'.cell? ⟨w.heap.size, 3, none⟩ = some (.int .i64 a.m.sk) ∧ w'.cell? ⟨w.heap.size, 4, none⟩ = some (.int .i64 a.m.th) ∧ w'.cell? ⟨w.heap.size, 5, none⟩ = some (.int .i64 a.ck) ∧ w'.cell? ⟨w.heap.size + 1, 0, none⟩ = some (.int .i64 d.ck) ∧ w'.cell? ⟨w.heap.size + 1, 1, none⟩ = some (.slice B d.n e) ∧ w'.cell? ⟨w.heap.size + 1 + 1, 0, none⟩ = some (.int .i64 x3) ∧ w'.cell? ⟨w.heap.size + 1 + 1, 1, none⟩ = some (.int .i64 f.x) ∧ w'.cell? ⟨w.heap.size + 1 + 1, 2, none⟩ = some (.int .i64 f.z) ∧ w'.cell? ⟨P, 0, none⟩ = some (.int .i64 (a.SLo d f)) ∧ w'.cell? ⟨P, 1, none⟩ = some (.int .i64 (a.SHi d f)) ∧ w'.cell? ⟨Q, 0, none⟩ = some (.int .i64 x3) ∧ w'.cell? ⟨Q, 1, none⟩ = some (.slice A3 d.n c3) ∧ Below w.heap.size w w' ∧ Below wc.heap.size wc w') (((go_split_ands; (repeat' apply And.intro) <;> ((repeat (first | (with_reducible assumption) | (with_reducible exact Below.refl _ _) | (with_reducible refine cell_alloc_later ?_ _) | (with_reducible refine cell_drewA ?_) | (with_reducible refine cellA (by with_reducible assumption) ?_) | (with_reducible refine belowA ?_ (by with_reducible assumption)) | (with_reducible refine below_alloc_top ?_ _) | (with_reducible refine Below.drew ?_) | (with_reducible refine cell_set_old ?_ (by with_reducible assumption)) | (with_reducible refine below_set_old ?_ (by with_reducible assumption)) | (with_reducible refine Below.setCell ?_ (by first | omega | (simp; done) | (simp; omega)) _) | (simp [go_sem, World.cell?_alloc_past, *]; done))); done))))
              (first
                | (go_split_ands; go_at_call 80; (with_reducible refine (HCA.out _ (HX.out.later (by with_reducible assumption))).mono ?_); rintro e w' ⟨A1, c1, rfl, hs, hb⟩; have hbA : BelA _ w' := hb; obtain ⟨hc', hf'⟩ := bcell hb; have hz' := hb.size; (try simp at hz'); (first | (have tF' := Nat.lt_of_succ_le hz') | (have tF' := Nat.lt_of_lt_of_le tF' hz') | skip); clear hb)
                | (go_split_ands; go_at_call 81; (with_reducible refine (HCM.out _ (HI3'.out.later (by with_reducible assumption))).mono ?_); rintro e w' ⟨A2, c2, rfl, hi, hb⟩; have hbA : BelA _ w' := hb; obtain ⟨hc', hf'⟩ := bcell hb; have hz' := hb.size; (try simp at hz'); (first | (have tF' := Nat.lt_of_succ_le hz') | (have tF' := Nat.lt_of_lt_of_le tF' hz') | skip); clear hb)
                | (go_split_ands; go_at_call 79; (with_reducible refine (HSM.out _ _ _ _ _ (by repeat (first | (with_reducible assumption) | (with_reducible refine SpAt.laterA (by with_reducible assumption) ?_) | (with_reducible refine SpAt.alloc ?_ _) | (with_reducible refine SpAt.drew ?_))) (by repeat (first | (with_reducible assumption) | (with_reducible refine InAt.laterA (by with_reducible assumption) ?_) | (with_reducible refine InAt.alloc ?_ _) | (with_reducible refine InAt.drew ?_)))).mono ?_); rintro e w' ⟨rfl, hb⟩; have hbA : BelA _ w' := hb; obtain ⟨hc', hf'⟩ := bcell hb; have hz' := hb.size; (try simp at hz'); (first | (have tF' := Nat.lt_of_succ_le hz') | (have tF' := Nat.lt_of_lt_of_le tF' hz') | skip); clear hb))
            all_goals
              go_split_ands
              go_wp2_with fail
              go_meet
              exact ⟨_, rfl, rfl, (by first | (with_reducible assumption) | (simp [go_sem, World.cell?_alloc_past, *]; done)), (by first | (with_reducible assumption) | (simp [go_sem, World.cell?_alloc_past, *]; done)), (by first | (with_reducible assumption) | (simp [go_sem, World.cell?_alloc_past, *]; done)), (by first | (with_reducible assumption) | (simp [go_sem, World.cell?_alloc_past, *]; done)), (by first | (with_reducible assumption) | (simp [go_sem, World.cell?_alloc_past, *]; done)), (by first | (with_reducible assumption) | (simp [go_sem, World.cell?_alloc_past, *]; done))⟩
          case rest =>
            obtain ⟨T, rfl, rfl, t0, t1, P0, P1, P2, bel3⟩ := hcut
            obtain ⟨m0, m1, m2, ⟨m3, m4⟩, m5, m6, m7, m8⟩ := HM.out
            rw [m0]
            have HB3 := Lib.hid bel3
            clear bel3 hS hS2 bel2 v0 v1 v2 v3 v4 v5 v6 v7 v8 v9 v10 p0' p1' q0 q1
            have k0 : (0 : Int) = 0 := rfl
            go_wp2
            go_ret
            exact ⟨rfl, (by (repeat (first | (with_reducible exact HB3.out) | (with_reducible refine Below.setCell ?_ ?_ _) | (with_reducible refine below_alloc_top ?_ _) | (with_reducible refine Below.drew ?_))); all_goals (first | omega | (simp; done) | (simp; omega)))⟩
        · have n0 : (a.SE d f != 0) = false := by simp [hs]
          have n1 : (rcE d clock != 0) = true := by simpa using hr
          have HB2 := Lib.hid bel2
          clear hs hr hg bel2
          go_wp2
          go_ret
          exact ⟨rfl, (by (repeat (first | (with_reducible exact HB2.out) | (with_reducible refine Below.setCell ?_ ?_ _) | (with_reducible refine below_alloc_top ?_ _) | (with_reducible refine Below.drew ?_))); all_goals (first | omega | (simp; done) | (simp; omega)))⟩
      · have n0 : (a.SE d f != 0) = true := by simpa using hs
        have HB2 := Lib.hid bel2
        clear hs hg bel2
        go_wp2
        go_ret
        exact ⟨rfl, (by (repeat (first | (with_reducible exact HB2.out) | (with_reducible refine Below.setCell ?_ ?_ _) | (with_reducible refine below_alloc_top ?_ _) | (with_reducible refine Below.drew ?_))); all_goals (first | omega | (simp; done) | (simp; omega)))⟩
end Go.Proofs.Ytdicndakelgoeaa
