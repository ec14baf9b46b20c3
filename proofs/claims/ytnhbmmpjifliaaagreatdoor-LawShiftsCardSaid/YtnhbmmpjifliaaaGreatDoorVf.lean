/- LawShifts: the walk -/
import Derived.Test.YtnhbmmpjifliaaaGreatDoorVe
import Derived.Test.YtnhbmmpjifliaaaGreatDoorV12
import Derived.Test.YtnhbmmpjifliaaaGreatDoorV9
import Derived.Test.YtnhbmmpjifliaaaGreatDoorU2
import Derived.Test.YtnhbmmpjifliaaaGreatDoorU6
import Derived.Test.YtnhbmmpjifliaaaGreatDoorVx
namespace Go.Proofs.YtnhbmmpjifliaaaGreatDoor
open Go.RowKit Go.Shelf RayM
set_option linter.unusedSimpArgs false
set_option linter.unusedVariables false

theorem cut2_ {A B : Prop} (h : A) (f : A → B) : B := f h
/-- what an opaque call leaves: what lay lies -/
def BelA (w w' : World) : Prop := Below w.heap.size w w'
theorem cellA {w w' : World} {a : Addr} {v : Value} (h : BelA w w') (hc : w.cell? a = some v) : w'.cell? a = some v := cell_later h hc
theorem frozenA {w w' : World} {a : Addr} {v : Value} (h : BelA w w') (hc : w.cell? a = some v) (hf : w.frozen? a = false) : w'.frozen? a = false := frozen_after h hc hf
theorem belowA {w0 w w' : World} (h : Below w0.heap.size w0 w) (hb : BelA w w') : Below w0.heap.size w0 w' := below_then h hb
theorem SpAt.laterA {A : Option Addr} {n : Nat} {p : Nat → Sp} {w w' : World} (hb : BelA w w') (r : SpAt A n p w) : SpAt A n p w' := r.later hb
theorem InAt.laterA {A : Option Addr} {n : Nat} {p : Nat → Int} {w w' : World} (hb : BelA w w') (r : InAt A n p w) : InAt A n p w' := r.later hb
theorem SpAt.alloc {A : Option Addr} {n : Nat} {p : Nat → Sp} {w : World} (r : SpAt A n p w) (o : Obj) : SpAt A n p (w.alloc o) := r.later ((Below.refl _ _).alloc (Nat.le_refl _) _)
theorem InAt.alloc {A : Option Addr} {n : Nat} {p : Nat → Int} {w : World} (r : InAt A n p w) (o : Obj) : InAt A n p (w.alloc o) := r.later ((Below.refl _ _).alloc (Nat.le_refl _) _)
theorem SpAt.drew {A : Option Addr} {n : Nat} {p : Nat → Sp} {w : World} (r : SpAt A n p w) : SpAt A n p w.drew := r
theorem InAt.drew {A : Option Addr} {n : Nat} {p : Nat → Int} {w : World} (r : InAt A n p w) : InAt A n p w.drew := r
theorem cell_drewA {w : World} {a : Addr} {v : Value} (h : w.cell? a = some v) : w.drew.cell? a = some v := h
theorem frozen_drewA {w : World} {a : Addr} (h : w.frozen? a = false) : w.drew.frozen? a = false := h
theorem cell_set_old {w wk : World} {a : Addr} {v u x : Value} {i : Nat} (h : w.cell? a = some v) (hk : wk.cell? a = some u) : (w.setCell ⟨wk.heap.size, i, none⟩ x).cell? a = some v := by
  have := World.block_lt_of_cell? _ _ hk
  rw [World.cell?_setCell_other w _ a x (fun e => by rw [← e] at this; exact Nat.lt_irrefl _ this)]; exact h
theorem below_set_old {w0 w wk : World} {x : Value} {i : Nat} (h : Below w0.heap.size w0 w) (hk : Below w0.heap.size w0 wk) : Below w0.heap.size w0 (w.setCell ⟨wk.heap.size, i, none⟩ x) := Below.setCell h hk.size _
set_option maxRecDepth 100000 in
set_option maxHeartbeats 1000000 in
theorem same_eq (ck : Int) (n : Nat) (A : Option Addr) (c : Nat) (B : Option Addr) (d : Nat) (l m : Nat → Int) (w : World) (hn : n ≤ 1000) (he : ∀ i, i < n → l i = m i) (h : InAt A n l w) (k : InAt B n m w) :
    Calls Tryz.prog 31 #[.agg #[.int .i64 ck, .slice A n c], .agg #[.int .i64 ck, .slice B n d]] w fun e w' => e = .returned (.bool true) ∧ Below w.heap.size w w' := by
  have HA := Lib.hid h; have HB := Lib.hid k
  clear h k
  have HI : Hid (∀ w, InAt A n l w → InAt B n m w → Calls Tryz.prog 77 #[.slice A n c, .slice B n d] w fun e w' => e = .returned (.bool true) ∧ Below w.heap.size w w') := Lib.hid (fun w h k => by have := ints_any A n c l B n d m w hn (by omega) h k; rw [(eqB_iff l n m n).2 ⟨rfl, he⟩] at this; exact this)
  go_enter Tryz.func31, Tryz.ntmps31
  go_wp2_with (go_at_call 77; (with_reducible refine (HI.out _ (HA.out.later (by repeat (first | exact Below.refl _ _ | refine Below.alloc ?_ (by first | omega | (simp; done) | (simp; omega)) _))) (HB.out.later (by repeat (first | exact Below.refl _ _ | refine Below.alloc ?_ (by first | omega | (simp; done) | (simp; omega)) _)))).mono ?_); rintro e w1 ⟨rfl, hb1⟩; have H1 := Lib.hid (Below.trans (by repeat (first | exact Below.refl _ _ | refine Below.alloc ?_ (by first | omega | (simp; done) | (simp; omega)) _)) (hb1.mono (by simp; omega)) : Below w.heap.size w w1); clear hb1)
  go_ret
  exact ⟨rfl, H1.out⟩
set_option maxRecDepth 100000 in
set_option maxHeartbeats 6000000 in
theorem shifts_any (a : La) (d : Dl) (x : Int) (f : Sp) (A : Option Addr) (c : Nat) (B : Option Addr) (e : Nat) (w : World) (hL : Laid w) (AWK : Hid (∀ w, Laid w → Calls Tryz.prog 11 #[] w fun e w' => e = .returned (.bool true) ∧ Below w.heap.size w w')) (hA : A = none → a.n = 0 ∧ c = 0) (hB : B = none → d.n = 0 ∧ e = 0) (h : SpAt A a.n a.p w) (g : InAt B d.n d.t w) :
    Calls Tryz.prog 5 #[.agg #[.slice A a.n c, .int .i64 a.m.wd, .int .i64 a.m.mt, .int .i64 a.m.sk, .int .i64 a.m.th, .int .i64 a.ck], .agg #[.int .i64 d.ck, .slice B d.n e], .agg #[.int .i64 x, .int .i64 f.x, .int .i64 f.z]] w fun e w' => e = .returned (.bool true) ∧ Below w.heap.size w w' := by
  have HX := Lib.hid h; clear h
  have HT := Lib.hid g; clear g
  have LH := Lib.hid hL; clear hL
  by_cases h1 : a.n ≤ 18
  · have FA : Hid (decide ((a.n : Int) ≤ 18) = true) := Lib.hid (by simp; omega)
    by_cases h2 : d.n ≤ 18
    · have FD : Hid (decide ((d.n : Int) ≤ 18) = true) := Lib.hid (by simp; omega)
      by_cases h3 : inB x 0 100000 = true
      · have FX := Lib.hid h3
        have hx : 0 ≤ x ∧ x ≤ 100000 := by simpa [inB] using h3
        obtain ⟨x0, x1⟩ := hx
        obtain ⟨j0_, ji0, jz0, jz1, jz2⟩ := info_parts infoJ
        have JI0 := Lib.hid ji0; have JZ0 := Lib.hid jz0; have JZ1 := Lib.hid jz1; have JZ2 := Lib.hid jz2
        clear ji0 jz0 jz1 jz2
        have HCA : Hid (∀ w', SpAt A a.n a.p w' → Calls Tryz.prog 27 #[.agg #[.slice A a.n c, .int .i64 a.m.wd, .int .i64 a.m.mt, .int .i64 a.m.sk, .int .i64 a.m.th, .int .i64 a.ck]] w' fun e w'' => ∃ A1 c1, e = .returned (.agg #[.slice A1 a.n c1, .int .i64 a.m.wd, .int .i64 a.m.mt, .int .i64 a.m.sk, .int .i64 a.m.th, .int .i64 a.ck]) ∧ SpAt A1 a.n a.p w'' ∧ Below w'.heap.size w' w'') := Lib.hid (fun w' h => (copyArray_any a A c w' (by omega) hA h).mono (fun e w'' ⟨v, e1, ho, hb⟩ => by
          obtain ⟨A1, c1, rfl, _, hs⟩ := own_spots ho
          exact ⟨A1, c1, e1, hs, hb⟩))
        have HCL : Hid (∀ w', InAt B d.n d.t w' → Calls Tryz.prog 28 #[.agg #[.int .i64 d.ck, .slice B d.n e]] w' fun e_ w'' => ∃ A1 c1, e_ = .returned (.agg #[.int .i64 d.ck, .slice A1 d.n c1]) ∧ InAt A1 d.n d.t w'' ∧ Below w'.heap.size w' w'') := Lib.hid (fun w' h => (copyLaw_any d B e w' (by omega) hB h).mono (fun e w'' ⟨v, e1, ho, hb⟩ => by
          obtain ⟨A1, c1, rfl, hz, hs⟩ := own_ints2 ho
          exact ⟨A1, c1, e1, hs, hb⟩))
        have HS0 := Lib.hid (fun A1 c1 B1 e1 w' h g => spreadOf_any a d f A1 c1 B1 e1 w' h g (by omega) (by omega))
        have MZ : Hid (a.SE d f ≠ 0 → a.SLo d f = 0 ∧ a.SHi d f = 0) := Lib.hid (fun q => by
          unfold La.SE at q; unfold La.SLo La.SHi
          by_cases r : paE a d = 0
          · rw [if_pos r] at q; rw [if_pos r, if_pos r]; unfold La.spLo La.spHi; rw [if_neg q, if_neg q]; exact ⟨rfl, rfl⟩
          · rw [if_neg r, if_neg r]; exact ⟨rfl, rfl⟩)
        have MD : Hid (a.SE d f = 0 → d.E = 0 ∧ noM d ≠ 0 ∧ noE d = 0) := Lib.hid (fun q => no_zero a d f q)
        have ME : Hid (a.SE d f = 0 → suE d (smD d x) = 0 ∨ suE d (smD d x) = 8) := Lib.hid (fun q => sm_suE d x (no_zero a d f q).1 x0 x1)
        have MA := Lib.hid (fun q r => adD_spread a d f x q x0 x1 r)
        have MN := Lib.hid (fun q => noD_spread a d f q)
        go_enter Tryz.func5, Tryz.ntmps5
        go_wp2_with fail
        refine (AWK.out _ (LH.out.later (by repeat (first | exact Below.refl _ _ | refine Below.drew ?_ | refine below_drewN ?_ _ | refine Below.setCell ?_ (by first | omega | (simp; done) | (simp; omega)) _ | refine Below.alloc ?_ (by first | omega | (simp; done) | (simp; omega)) _)))).mono ?_
        rintro e w1 ⟨rfl, hb1⟩
        have qw10 : w1.cell? ⟨w.heap.size, 0, none⟩ = some (.slice A a.n c) := cell_later hb1 (by simp [go_sem])
        have qw11 : w1.cell? ⟨w.heap.size, 1, none⟩ = some (.int .i64 a.m.wd) := cell_later hb1 (by simp [go_sem])
        have qw12 : w1.cell? ⟨w.heap.size, 2, none⟩ = some (.int .i64 a.m.mt) := cell_later hb1 (by simp [go_sem])
        have qw13 : w1.cell? ⟨w.heap.size, 3, none⟩ = some (.int .i64 a.m.sk) := cell_later hb1 (by simp [go_sem])
        have qw14 : w1.cell? ⟨w.heap.size, 4, none⟩ = some (.int .i64 a.m.th) := cell_later hb1 (by simp [go_sem])
        have qw15 : w1.cell? ⟨w.heap.size, 5, none⟩ = some (.int .i64 a.ck) := cell_later hb1 (by simp [go_sem])
        have qw16 : w1.cell? ⟨w.heap.size + 1, 0, none⟩ = some (.int .i64 d.ck) := cell_later hb1 (by simp [go_sem])
        have qw17 : w1.cell? ⟨w.heap.size + 1, 1, none⟩ = some (.slice B d.n e) := cell_later hb1 (by simp [go_sem])
        have qw18 : w1.cell? ⟨w.heap.size + 1 + 1, 0, none⟩ = some (.int .i64 x) := cell_later hb1 (by simp [go_sem])
        have qw19 : w1.cell? ⟨w.heap.size + 1 + 1, 1, none⟩ = some (.int .i64 f.x) := cell_later hb1 (by simp [go_sem])
        have qw110 : w1.cell? ⟨w.heap.size + 1 + 1, 2, none⟩ = some (.int .i64 f.z) := cell_later hb1 (by simp [go_sem])
        have zqw1_0 := World.block_lt_of_cell? _ _ qw10
        dsimp only at zqw1_0
        have zqw1_6 := World.block_lt_of_cell? _ _ qw16
        dsimp only at zqw1_6
        have zqw1_8 := World.block_lt_of_cell? _ _ qw18
        dsimp only at zqw1_8
        have H1 : Hid (Below w.heap.size w w1) := Lib.hid (below_after (by repeat (first | exact Below.refl _ _ | refine Below.drew ?_ | refine below_drewN ?_ _ | refine Below.setCell ?_ (by first | omega | (simp; done) | (simp; omega)) _ | refine Below.alloc ?_ (by first | omega | (simp; done) | (simp; omega)) _)) hb1 (by first | omega | (simp; done) | (simp; omega))); clear hb1
        have R1_0 := Lib.hid (HX.out.later H1.out)
        have R1_1 := Lib.hid (HT.out.later H1.out)
        go_upto_region 5 with (first | (go_at_call 25; (with_reducible refine (few_any _ _).mono ?_); (first | rw [FA.out] | rw [FD.out]); rintro e w' ⟨rfl, rfl⟩) | (go_at_call 14; (with_reducible refine (bwithin_any _ _ _ _).mono ?_); rw [FX.out]; rintro e w' ⟨rfl, rfl⟩))
        have hS : Below w1.heap.size w1 w1 := Below.refl _ _
        go_cut [7, 8] (fun s7 s8 wx => ∃ P : Nat, s7 = .pointer (some ⟨P, 0, none⟩) ∧ s8 = .int .i64 (a.SE d f) ∧ wx.cell? ⟨P, 0, none⟩ = some (.int .i64 (a.SLo d f)) ∧ wx.cell? ⟨P, 1, none⟩ = some (.int .i64 (a.SHi d f)) ∧ Below w1.heap.size w1 wx)
        case first =>
          go_region_held3 (fun w' => w'.cell? ⟨w.heap.size, 0, none⟩ = some (.slice A a.n c) ∧ w'.cell? ⟨w.heap.size, 1, none⟩ = some (.int .i64 a.m.wd) ∧ w'.cell? ⟨w.heap.size, 2, none⟩ = some (.int .i64 a.m.mt) ∧ w'.cell? ⟨w.heap.size, 3, none⟩ = some (.int .i64 a.m.sk) ∧ w'.cell? ⟨w.heap.size, 4, none⟩ = some (.int .i64 a.m.th) ∧ w'.cell? ⟨w.heap.size, 5, none⟩ = some (.int .i64 a.ck) ∧ w'.cell? ⟨w.heap.size + 1, 0, none⟩ = some (.int .i64 d.ck) ∧ w'.cell? ⟨w.heap.size + 1, 1, none⟩ = some (.slice B d.n e) ∧ w'.cell? ⟨w.heap.size + 1 + 1, 0, none⟩ = some (.int .i64 x) ∧ w'.cell? ⟨w.heap.size + 1 + 1, 1, none⟩ = some (.int .i64 f.x) ∧ w'.cell? ⟨w.heap.size + 1 + 1, 2, none⟩ = some (.int .i64 f.z) ∧ Below w1.heap.size w1 w') (((go_split_ands; (repeat' apply And.intro) <;> ((repeat (first | (with_reducible assumption) | (with_reducible exact Below.refl _ _) | (with_reducible refine cell_alloc_later ?_ _) | (with_reducible refine cell_drewA ?_) | (with_reducible refine cellA (by with_reducible assumption) ?_) | (with_reducible refine belowA ?_ (by with_reducible assumption)) | (with_reducible refine below_alloc_top ?_ _) | (with_reducible refine Below.drew ?_) | (with_reducible refine cell_set_old ?_ (by with_reducible assumption)) | (with_reducible refine below_set_old ?_ (by with_reducible assumption)) | (with_reducible refine Below.setCell ?_ (by first | omega | (simp; done) | (simp; omega)) _) | (simp [go_sem, World.cell?_alloc_past, *]; done))); done))))
            (first
              | (go_split_ands; go_at_call 27; (with_reducible refine (HCA.out _ (R1_0.out.later (by with_reducible assumption))).mono ?_); rintro e w' ⟨A1, c1, rfl, hs, hb⟩; have hbA : BelA _ w' := hb; obtain ⟨hc', hf'⟩ := bcell hb; have hz' := hb.size; (try simp at hz'); (first | (have tF' := Nat.lt_of_succ_le hz') | (have tF' := Nat.lt_of_lt_of_le tF' hz') | skip); clear hb)
              | (go_split_ands; go_at_call 28; (with_reducible refine (HCL.out _ (R1_1.out.later (by with_reducible assumption))).mono ?_); rintro e w' ⟨A2, c2, rfl, hi, hb⟩; have hbA : BelA _ w' := hb; obtain ⟨hc', hf'⟩ := bcell hb; have hz' := hb.size; (try simp at hz'); (first | (have tF' := Nat.lt_of_succ_le hz') | (have tF' := Nat.lt_of_lt_of_le tF' hz') | skip); clear hb)
              | (go_split_ands; go_at_call 26; (with_reducible refine (HS0.out _ _ _ _ _ (by repeat (first | (with_reducible assumption) | (with_reducible refine SpAt.laterA (by with_reducible assumption) ?_) | (with_reducible refine SpAt.alloc ?_ _) | (with_reducible refine SpAt.drew ?_))) (by repeat (first | (with_reducible assumption) | (with_reducible refine InAt.laterA (by with_reducible assumption) ?_) | (with_reducible refine InAt.alloc ?_ _) | (with_reducible refine InAt.drew ?_)))).mono ?_); rintro e w' ⟨rfl, hb⟩; have hbA : BelA _ w' := hb; obtain ⟨hc', hf'⟩ := bcell hb; have hz' := hb.size; (try simp at hz'); (first | (have tF' := Nat.lt_of_succ_le hz') | (have tF' := Nat.lt_of_lt_of_le tF' hz') | skip); clear hb))
          all_goals
            go_split_ands
            go_wp2_with fail
            go_meet
            exact ⟨_, rfl, rfl, (by first | (with_reducible assumption) | (simp [go_sem, World.cell?_alloc_past, *]; done)), (by first | (with_reducible assumption) | (simp [go_sem, World.cell?_alloc_past, *]; done)), (by first | (with_reducible assumption) | (simp [go_sem, World.cell?_alloc_past, *]; done))⟩
        case rest =>
          obtain ⟨P, rfl, rfl, p0, p1, bel⟩ := hcut
          clear hS
          obtain ⟨wA, hw_⟩ : ∃ q, q = wc := ⟨_, rfl⟩
          subst hw_
          have k2_0 := cell_later bel qw10
          have k2_1 := cell_later bel qw11
          have k2_2 := cell_later bel qw12
          have k2_3 := cell_later bel qw13
          have k2_4 := cell_later bel qw14
          have k2_5 := cell_later bel qw15
          have k2_6 := cell_later bel qw16
          have k2_7 := cell_later bel qw17
          have k2_8 := cell_later bel qw18
          have k2_9 := cell_later bel qw19
          have k2_10 := cell_later bel qw110
          have R2_0 := Lib.hid (R1_0.out.later bel)
          have R2_1 := Lib.hid (R1_1.out.later bel)
          have B2 : Hid (Below w.heap.size w wA) := Lib.hid (below_then H1.out bel)
          clear qw10 qw11 qw12 qw13 qw14 qw15 qw16 qw17 qw18 qw19 qw110 R1_0 R1_1 H1
          have z2_0 := World.block_lt_of_cell? _ _ k2_0
          dsimp only at z2_0
          have z2_6 := World.block_lt_of_cell? _ _ k2_6
          dsimp only at z2_6
          have z2_8 := World.block_lt_of_cell? _ _ k2_8
          dsimp only at z2_8
          clear bel
          by_cases hs : a.SE d f = 0
          · have MD' := MD.out hs
            obtain ⟨hd, hm, hno⟩ := MD'
            have hn0 := ((Dl.E_zero d).1 hd).2.1
            have ME' := ME.out hs
            have HSN : Hid (∀ A1 c1 B1 e1 w', SpAt A1 a.n a.p w' → InAt B1 d.n (noD d).t w' → Calls Tryz.prog 26 #[.agg #[.slice A1 a.n c1, .int .i64 a.m.wd, .int .i64 a.m.mt, .int .i64 a.m.sk, .int .i64 a.m.th, .int .i64 a.ck], .agg #[.int .i64 d.ck, .slice B1 d.n e1], .agg #[.int .i64 f.x, .int .i64 f.z]] w' fun e_ w'' => e_ = .returned (.tuple #[.agg #[.int .i64 (a.SLo d f), .int .i64 (a.SHi d f)], .int .i64 0]) ∧ Below w'.heap.size w' w'') := Lib.hid (fun A1 c1 B1 e1 w' h g => by
              have := spreadOf_any a (noD d) f A1 c1 B1 e1 w' h g (by omega) (by show d.n ≤ 9223372036854775807; omega)
              obtain ⟨q1, q2, q3⟩ := MN.out hs
              rw [q1, q2, q3] at this
              exact this)
            have HSA : Hid (suE d (smD d x) = 0 → ∀ A1 c1 B1 e1 w', SpAt A1 a.n a.p w' → InAt B1 d.n (adD d x).t w' → Calls Tryz.prog 26 #[.agg #[.slice A1 a.n c1, .int .i64 a.m.wd, .int .i64 a.m.mt, .int .i64 a.m.sk, .int .i64 a.m.th, .int .i64 a.ck], .agg #[.int .i64 d.ck, .slice B1 d.n e1], .agg #[.int .i64 f.x, .int .i64 f.z]] w' fun e_ w'' => e_ = .returned (.tuple #[.agg #[.int .i64 (a.SLo d f), .int .i64 (a.SHi d f)], .int .i64 0]) ∧ Below w'.heap.size w' w'') := Lib.hid (fun r A1 c1 B1 e1 w' h g => by
              have := spreadOf_any a (adD d x) f A1 c1 B1 e1 w' h g (by omega) (by show d.n ≤ 9223372036854775807; omega)
              obtain ⟨q1, q2, q3⟩ := MA.out hs r
              rw [q1, q2, q3] at this
              exact this)
            have HNO : Hid (∀ A1 c1 w', InAt A1 d.n d.t w' → Calls Tryz.prog 30 #[.agg #[.int .i64 d.ck, .slice A1 d.n c1]] w' fun e_ w'' => ∃ A3 c3, e_ = .returned (.tuple #[.agg #[.int .i64 d.ck, .slice A3 d.n c3], .int .i64 0]) ∧ A3 ≠ none ∧ InAt A3 d.n (noD d).t w'' ∧ Below w'.heap.size w' w'') := Lib.hid (fun A1 c1 w' h => (normalised_any d A1 c1 w' h (by omega)).mono (fun e_ w'' ⟨A3, n3, c3, e1, hg, hbad, hb⟩ => by
              obtain ⟨q1, q2, q3, q4⟩ := hg hno
              subst q1
              rw [hno, if_pos rfl] at e1
              exact ⟨A3, c3, e1, q2, q4, hb⟩))
            have HNN : Hid (∀ A1 c1 w', InAt A1 d.n (noD d).t w' → Calls Tryz.prog 30 #[.agg #[.int .i64 d.ck, .slice A1 d.n c1]] w' fun e_ w'' => ∃ A3 c3, e_ = .returned (.tuple #[.agg #[.int .i64 d.ck, .slice A3 d.n c3], .int .i64 0]) ∧ InAt A3 d.n (noD (noD d)).t w'' ∧ Below w'.heap.size w' w'') := Lib.hid (fun A1 c1 w' h => (normalised_any (noD d) A1 c1 w' h (by show d.n ≤ 9223372036854775807; omega)).mono (fun e_ w'' ⟨A3, n3, c3, e1, hg, hbad, hb⟩ => by
              obtain ⟨q0, _⟩ := noD_again d hd hm
              obtain ⟨q1, q2, q3, q4⟩ := hg q0
              subst q1
              rw [q0, if_pos rfl] at e1
              exact ⟨A3, c3, e1, q4, hb⟩))
            have HSM : Hid (∀ A1 c1 B1 e1 w', InAt A1 d.n (noD (noD d)).t w' → InAt B1 d.n (noD d).t w' → Calls Tryz.prog 31 #[.agg #[.int .i64 d.ck, .slice A1 d.n c1], .agg #[.int .i64 d.ck, .slice B1 d.n e1]] w' fun e w'' => e = .returned (.bool true) ∧ Below w'.heap.size w' w'') := Lib.hid (fun A1 c1 B1 e1 w' h g => same_eq d.ck d.n A1 c1 B1 e1 _ _ w' (by omega) (noD_again d hd hm).2 h g)
            have HAD : Hid (∀ A1 c1 B1 e1 w', InAt A1 d.n d.t w' → InAt B1 d.n (smD d x).t w' → Calls Tryz.prog 29 #[.agg #[.int .i64 d.ck, .slice A1 d.n c1], .agg #[.int .i64 d.ck, .slice B1 d.n e1]] w' fun e_ w'' => ∃ (x' : Int) (A3 : Option Addr) (n3 c3 : Nat), e_ = .returned (.tuple #[.agg #[.int .i64 x', .slice A3 n3 c3], .int .i64 (suE d (smD d x))]) ∧ (suE d (smD d x) = 0 → x' = d.ck ∧ n3 = d.n ∧ InAt A3 d.n (adD d x).t w'') ∧ (∀ a, A3 = some a → w'.heap.size ≤ a.block) ∧ (suE d (smD d x) = 0 → ∀ a, A3 = some a → a.block < w''.heap.size) ∧ Below w'.heap.size w' w'') := Lib.hid (fun A1 c1 B1 e1 w' h g => (added_any d (smD d x) A1 c1 B1 e1 w' h g (by omega) (by show d.n ≤ 9223372036854775807; omega)).mono (fun e_ w'' ⟨A3, n3, c3, e1, hg, hbad, hb⟩ => by
              refine ⟨_, A3, n3, c3, e1, fun q => ?_, fun a ha => ?_, fun q a ha => ?_, hb⟩
              · obtain ⟨q1, q2, q3, q4⟩ := hg q
                exact ⟨by rw [if_pos q], q1, q4⟩
              · by_cases q : suE d (smD d x) = 0
                · exact (hg q).2.2.1 a ha
                · rw [(hbad q).1] at ha; cases ha
              · obtain ⟨q1, q2, q3, q4⟩ := hg q
                subst ha
                have hh := World.block_lt_of_cell? _ _ (q4.at hn0.1)
                have e0 : a.add 0 = a := by unfold Addr.add; rfl
                rwa [e0] at hh))
            have n0 : (a.SE d f != 0) = false := by rw [hs]; rfl
            have HN0 := Lib.hid hn0.1
            have HN1 := Lib.hid hn0.2
            have XS := Lib.hid (fun k => mvs_next (smD d x).t k)
            have X0 : Hid (mvs (smD d x).t 0 = []) := (rfl : mvs (smD d x).t 0 = [])
            have XL := Lib.hid (fun k => mvs_len (smD d x).t k)
            rw [hs] at HS0
            have HME := Lib.hid ME'
            clear hs hd hm hno hn0 MZ MD ME MA MN ME' hA hB
            generalize a.SLo d f = lo at *
            generalize a.SHi d f = hi at *
            generalize suE d (smD d x) = E5 at *
            go_wp2_with fail
            obtain ⟨wB, hw_⟩ : ∃ q, q = wA.alloc (.cells #[.int .i64 d.ck, .slice none 0 0] 62) := ⟨_, rfl⟩
            rw [← hw_]
            have hbB : Below wA.heap.size wA wB := by rw [hw_]; exact (Below.refl _ _).alloc (Nat.le_refl _) _
            have nn0 : wB.cell? ⟨wA.heap.size, 0, none⟩ = some (.int .i64 d.ck) := by rw [hw_]; simp [go_sem]
            have nn1 : wB.cell? ⟨wA.heap.size, 1, none⟩ = some (.slice none 0 0) := by rw [hw_]; simp [go_sem]
            have nf0 : wB.frozen? ⟨wA.heap.size, 0, none⟩ = false := by rw [hw_]; simp [go_sem]
            have nf1 : wB.frozen? ⟨wA.heap.size, 1, none⟩ = false := by rw [hw_]; simp [go_sem]
            clear hw_
            go_loopw [10] (fun s10 wr => ∃ (k : Nat) (v : Value), k ≤ d.n ∧ s10 = .int .i64 (k : Int) ∧ wr.cell? ⟨wA.heap.size, 0, none⟩ = some (.int .i64 d.ck) ∧ wr.cell? ⟨wA.heap.size, 1, none⟩ = some v ∧ wr.frozen? ⟨wA.heap.size, 0, none⟩ = false ∧ wr.frozen? ⟨wA.heap.size, 1, none⟩ = false ∧ wr.ownsRow (wA.heap.size + 1) 3 1 v k (mvs (smD d x).t k) ∧ Below wA.heap.size wA wr) (fun s10 _ => d.n - (intOf s10).toNat)
            case atStart => exact ⟨0, _, Nat.zero_le _, rfl, nn0, nn1, nf0, nf1, by rw [X0.out]; exact World.ownsRow_nil _ _ _ _, hbB⟩
            case round =>
              clear nn0 nn1 nf0 nf1 hbB
              obtain ⟨k, v, hk, rfl, r0, r1, g0, g1, hown, hb⟩ := hrel
              have HB := Lib.hid hb
              have zr : wA.heap.size < wr.heap.size := World.block_lt_of_cell? _ _ r0
              have k3_0 := cell_later hb k2_0
              have k3_1 := cell_later hb k2_1
              have k3_2 := cell_later hb k2_2
              have k3_3 := cell_later hb k2_3
              have k3_4 := cell_later hb k2_4
              have k3_5 := cell_later hb k2_5
              have k3_6 := cell_later hb k2_6
              have k3_7 := cell_later hb k2_7
              have k3_8 := cell_later hb k2_8
              have k3_9 := cell_later hb k2_9
              have k3_10 := cell_later hb k2_10
              have k3_11 := cell_later hb p0
              have k3_12 := cell_later hb p1
              have R3_0 := Lib.hid (R2_0.out.later hb)
              have R3_1 := Lib.hid (R2_1.out.later hb)
              have B3 : Hid (Below w.heap.size w wr) := Lib.hid (below_then B2.out hb)
              clear k2_0 k2_1 k2_2 k2_3 k2_4 k2_5 k2_6 k2_7 k2_8 k2_9 k2_10 p0 p1 R2_0 R2_1 B2
              have z3_0 := World.block_lt_of_cell? _ _ k3_0
              dsimp only at z3_0
              have z3_6 := World.block_lt_of_cell? _ _ k3_6
              dsimp only at z3_6
              have z3_8 := World.block_lt_of_cell? _ _ k3_8
              dsimp only at z3_8
              have z3_11 := World.block_lt_of_cell? _ _ k3_11
              dsimp only at z3_11
              clear hb
              by_cases hlt : k < d.n
              · have j0 : (0 : Int) ≤ (k : Int) := Int.natCast_nonneg _
                have j1 : (k : Int) < (d.n : Int) := by omega
                have j8 : (k : Int) < 1000 := by have := HN1.out; omega
                have ag := Lib.hid (fun q e => (hown.lt q e).1)
                have bm6 : (k + 1 : Nat) ≤ maxLen := by unfold maxLen; have := HN1.out; omega
                have BM6 := Lib.hid bm6; clear bm6
                have nb6 : ∀ j u, (#[.int .i64 x] : Array Value).toList[j]? = some u → (wr.alloc (.cells #[.int .i64 x] 3)).cell? ((⟨wr.heap.size, 0, none⟩ : Addr).add j) = some u :=
                  World.news_of_block (t := 3) (fr := (0, 0)) (by have h := heap_alloc_new wr (.cells #[.int .i64 x] 3); simpa using h)
                have NB6 := Lib.hid nb6; clear nb6
                go_wp2_with (at_builtin; refine wpList_append_lies _ rfl _ _ _ rfl (wA.heap.size + 1) 3 j0_ _ 1 8 Tryz.underlying60 JI0.out JZ0.out JZ1.out JZ2.out rfl (by omega) v (k) (mvs (smD d x).t k) rfl (hown.alloc _) ⟨wr.heap.size, 0, none⟩ 1 1 [.int .i64 x] rfl rfl NB6.out (by simp [Value.oneCell']) (by omega) BM6.out (by omega) (by simp; omega) (wr.heap.size + 1) (by simp) ?_; intro g6 cap6 w6 hown6 hgrow6 hat6 hlt6; have HG6 : Below (wA.heap.size + 1) wr w6 := ((Below.refl _ _).alloc (by omega) _).grown hgrow6 (by simp; omega) (fun q e => ag.out q e); have d0 := (HG6.cell (p := ⟨wA.heap.size, 0, none⟩) (by dsimp only; omega)).trans r0; have d1 := (HG6.cell (p := ⟨wA.heap.size, 1, none⟩) (by dsimp only; omega)).trans r1; have h0 := (HG6.frozen (p := ⟨wA.heap.size, 0, none⟩) (by dsimp only; omega)).trans g0; have h1 := (HG6.frozen (p := ⟨wA.heap.size, 1, none⟩) (by dsimp only; omega)).trans g1; have H6 := Lib.hid (Below.trans HB.out (HG6.mono (by omega))); have HO6 := Lib.hid hown6; clear hown6 hgrow6 hat6 hlt6 HG6)
                go_roundw
                case rel => exact ⟨k + 1, _, by omega, by go_num, setO (.inr (by dsimp only; omega)) d0, setS d1, setF h0, setF h1, by rw [XS.out]; exact own_set HO6.out wA.heap.size 1 _ (by omega), H6.out.setCell (Nat.le_refl _) _⟩
                case measure => simp [intOf]; omega
              · have hk' : k = d.n := by omega
                have kk : decide ((k : Int) < (d.n : Int)) = false := by simp; omega
                subst hk'
                obtain ⟨A9, c9, rfl, _, I9⟩ := own_ints2 hown
                have I9' := Lib.hid I9
                clear hown I9 g0 g1 HB
                go_upto_region 13 with fail
                have hS : Below wr.heap.size wr wr := Below.refl _ _
                go_cut [11, 12] (fun s11 s12 wx => ∃ (Q : Nat) (x' : Int) (A3 : Option Addr) (n3 c3 : Nat), s11 = .pointer (some ⟨Q, 0, none⟩) ∧ s12 = .int .i64 E5 ∧ wx.cell? ⟨Q, 0, none⟩ = some (.int .i64 x') ∧ wx.cell? ⟨Q, 1, none⟩ = some (.slice A3 n3 c3) ∧ (E5 = 0 → x' = d.ck ∧ n3 = d.n ∧ InAt A3 d.n (adD d x).t wx) ∧ Below wr.heap.size wr wx)
                case first =>
                  go_region_held3 (fun w' => w'.cell? ⟨w.heap.size + 1, 0, none⟩ = some (.int .i64 d.ck) ∧ w'.cell? ⟨w.heap.size + 1, 1, none⟩ = some (.slice B d.n e) ∧ w'.cell? ⟨wA.heap.size, 0, none⟩ = some (.int .i64 d.ck) ∧ w'.cell? ⟨wA.heap.size, 1, none⟩ = some (.slice A9 d.n c9) ∧ Below wr.heap.size wr w') (((go_split_ands; (repeat' apply And.intro) <;> ((repeat (first | (with_reducible assumption) | (with_reducible exact Below.refl _ _) | (with_reducible refine cell_alloc_later ?_ _) | (with_reducible refine cell_drewA ?_) | (with_reducible refine cellA (by with_reducible assumption) ?_) | (with_reducible refine belowA ?_ (by with_reducible assumption)) | (with_reducible refine below_alloc_top ?_ _) | (with_reducible refine Below.drew ?_) | (with_reducible refine cell_set_old ?_ (by with_reducible assumption)) | (with_reducible refine below_set_old ?_ (by with_reducible assumption)) | (with_reducible refine Below.setCell ?_ (by first | omega | (simp; done) | (simp; omega)) _) | (simp [go_sem, World.cell?_alloc_past, *]; done))); done))))
                    (first
                      | (go_split_ands; go_at_call 28; (with_reducible refine (HCL.out _ (R3_1.out.later (by with_reducible assumption))).mono ?_); rintro e w' ⟨A2, c2, rfl, hi, hb⟩; have hbA : BelA _ w' := hb; obtain ⟨hc', hf'⟩ := bcell hb; have hz' := hb.size; (try simp at hz'); (first | (have tF' := Nat.lt_of_succ_le hz') | (have tF' := Nat.lt_of_lt_of_le tF' hz') | skip); clear hb)
                      | (go_split_ands; go_at_call 29; (with_reducible refine (HAD.out _ _ _ _ _ (by repeat (first | (with_reducible assumption) | (with_reducible refine InAt.laterA (by with_reducible assumption) ?_) | (with_reducible refine InAt.alloc ?_ _) | (with_reducible refine InAt.drew ?_))) (I9'.out.later (by with_reducible assumption))).mono ?_); rintro e w' ⟨x3, A3, n3, c3, rfl, hg3, hB3, hL3, hb⟩; have hbA : BelA _ w' := hb; obtain ⟨hc', hf'⟩ := bcell hb; have hz' := hb.size; (try simp at hz'); (first | (have tF' := Nat.lt_of_succ_le hz') | (have tF' := Nat.lt_of_lt_of_le tF' hz') | skip); clear hb))
                  all_goals
                    go_split_ands
                    go_wp2_with fail
                    go_meet
                    exact ⟨_, x3, A3, n3, c3, rfl, rfl, (by first | (with_reducible assumption) | (simp [go_sem, World.cell?_alloc_past, *]; done)), (by first | (with_reducible assumption) | (simp [go_sem, World.cell?_alloc_past, *]; done)), (fun hr => ⟨(hg3 hr).1, (hg3 hr).2.1, (by have hi3 := (hg3 hr).2.2; exact (by repeat (first | (with_reducible assumption) | (with_reducible refine InAt.alloc ?_ _) | (with_reducible refine InAt.drew ?_) | (refine InAt.set ?_ _ _ _ (fun a e => by have q1 := hB3 a e; have q2 := hL3 hr a e; (try simp at q1); omega)))))⟩), (by first | (with_reducible assumption) | (simp [go_sem, World.cell?_alloc_past, *]; done))⟩
                case rest =>
                  obtain ⟨Q, x3, A3, n3, c3, rfl, rfl, q0, q1, hg, bel⟩ := hcut
                  clear hS
                  obtain ⟨wC, hw_⟩ : ∃ q, q = wc := ⟨_, rfl⟩
                  subst hw_
                  have k4_0 := cell_later bel k3_0
                  have k4_1 := cell_later bel k3_1
                  have k4_2 := cell_later bel k3_2
                  have k4_3 := cell_later bel k3_3
                  have k4_4 := cell_later bel k3_4
                  have k4_5 := cell_later bel k3_5
                  have k4_6 := cell_later bel k3_6
                  have k4_7 := cell_later bel k3_7
                  have k4_8 := cell_later bel k3_8
                  have k4_9 := cell_later bel k3_9
                  have k4_10 := cell_later bel k3_10
                  have k4_11 := cell_later bel k3_11
                  have k4_12 := cell_later bel k3_12
                  have k4_13 := cell_later bel r0
                  have k4_14 := cell_later bel r1
                  have R4_0 := Lib.hid (R3_0.out.later bel)
                  have R4_1 := Lib.hid (R3_1.out.later bel)
                  have R4_2 := Lib.hid (I9'.out.later bel)
                  have B4 : Hid (Below w.heap.size w wC) := Lib.hid (below_then B3.out bel)
                  clear k3_0 k3_1 k3_2 k3_3 k3_4 k3_5 k3_6 k3_7 k3_8 k3_9 k3_10 k3_11 k3_12 r0 r1 R3_0 R3_1 I9' B3
                  have z4_0 := World.block_lt_of_cell? _ _ k4_0
                  dsimp only at z4_0
                  have z4_6 := World.block_lt_of_cell? _ _ k4_6
                  dsimp only at z4_6
                  have z4_8 := World.block_lt_of_cell? _ _ k4_8
                  dsimp only at z4_8
                  have z4_11 := World.block_lt_of_cell? _ _ k4_11
                  dsimp only at z4_11
                  have z4_13 := World.block_lt_of_cell? _ _ k4_13
                  dsimp only at z4_13
                  clear bel
                  clear k4_13 k4_14
                  by_cases h5 : E5 = 0
                  · obtain ⟨e1, e2, i3⟩ := hg h5
                    subst e1
                    subst e2
                    subst h5
                    have HSA' := Lib.hid (HSA.out rfl)
                    have I3 := Lib.hid i3
                    clear i3 hg HSA HME
                    go_wp2_with fail
                    refine (HCL.out _ R4_1.out).mono ?_
                    rintro e_ wD ⟨A4, c4, rfl, i4, hb⟩
                    have k5_0 := cell_later hb k4_0
                    have k5_1 := cell_later hb k4_1
                    have k5_2 := cell_later hb k4_2
                    have k5_3 := cell_later hb k4_3
                    have k5_4 := cell_later hb k4_4
                    have k5_5 := cell_later hb k4_5
                    have k5_6 := cell_later hb k4_6
                    have k5_7 := cell_later hb k4_7
                    have k5_8 := cell_later hb k4_8
                    have k5_9 := cell_later hb k4_9
                    have k5_10 := cell_later hb k4_10
                    have k5_11 := cell_later hb k4_11
                    have k5_12 := cell_later hb k4_12
                    have k5_13 := cell_later hb q0
                    have k5_14 := cell_later hb q1
                    have R5_0 := Lib.hid (R4_0.out.later hb)
                    have R5_1 := Lib.hid (R4_1.out.later hb)
                    have R5_2 := Lib.hid (I3.out.later hb)
                    have B5 : Hid (Below w.heap.size w wD) := Lib.hid (below_then B4.out hb)
                    clear k4_0 k4_1 k4_2 k4_3 k4_4 k4_5 k4_6 k4_7 k4_8 k4_9 k4_10 k4_11 k4_12 q0 q1 R4_0 R4_1 I3 B4
                    have z5_0 := World.block_lt_of_cell? _ _ k5_0
                    dsimp only at z5_0
                    have z5_6 := World.block_lt_of_cell? _ _ k5_6
                    dsimp only at z5_6
                    have z5_8 := World.block_lt_of_cell? _ _ k5_8
                    dsimp only at z5_8
                    have z5_11 := World.block_lt_of_cell? _ _ k5_11
                    dsimp only at z5_11
                    have z5_13 := World.block_lt_of_cell? _ _ k5_13
                    dsimp only at z5_13
                    clear hb
                    go_wp2_with fail
                    refine (HNO.out _ _ _ i4).mono ?_
                    rintro e_ wE ⟨A5, c5, rfl, hA5, i5, hb⟩
                    have k6_0 := cell_later hb k5_0
                    have k6_1 := cell_later hb k5_1
                    have k6_2 := cell_later hb k5_2
                    have k6_3 := cell_later hb k5_3
                    have k6_4 := cell_later hb k5_4
                    have k6_5 := cell_later hb k5_5
                    have k6_6 := cell_later hb k5_6
                    have k6_7 := cell_later hb k5_7
                    have k6_8 := cell_later hb k5_8
                    have k6_9 := cell_later hb k5_9
                    have k6_10 := cell_later hb k5_10
                    have k6_11 := cell_later hb k5_11
                    have k6_12 := cell_later hb k5_12
                    have k6_13 := cell_later hb k5_13
                    have k6_14 := cell_later hb k5_14
                    have R6_0 := Lib.hid (R5_0.out.later hb)
                    have R6_1 := Lib.hid (R5_1.out.later hb)
                    have R6_2 := Lib.hid (R5_2.out.later hb)
                    have B6 : Hid (Below w.heap.size w wE) := Lib.hid (below_then B5.out hb)
                    clear k5_0 k5_1 k5_2 k5_3 k5_4 k5_5 k5_6 k5_7 k5_8 k5_9 k5_10 k5_11 k5_12 k5_13 k5_14 R5_0 R5_1 R5_2 B5
                    have z6_0 := World.block_lt_of_cell? _ _ k6_0
                    dsimp only at z6_0
                    have z6_6 := World.block_lt_of_cell? _ _ k6_6
                    dsimp only at z6_6
                    have z6_8 := World.block_lt_of_cell? _ _ k6_8
                    dsimp only at z6_8
                    have z6_11 := World.block_lt_of_cell? _ _ k6_11
                    dsimp only at z6_11
                    have z6_13 := World.block_lt_of_cell? _ _ k6_13
                    dsimp only at z6_13
                    clear hb
                    have I5 := Lib.hid i5
                    clear i4 i5
                    have HCN : Hid (∀ w', InAt A5 d.n (noD d).t w' → Calls Tryz.prog 28 #[.agg #[.int .i64 d.ck, .slice A5 d.n c5]] w' fun e_ w'' => ∃ A1 c1, e_ = .returned (.agg #[.int .i64 d.ck, .slice A1 d.n c1]) ∧ InAt A1 d.n (noD d).t w'' ∧ Below w'.heap.size w' w'') := Lib.hid (fun w' h => (copyLaw_any (noD d) A5 c5 w' (by show d.n ≤ 1000; have := HN1.out; omega) (fun q => absurd q hA5) h).mono (fun e w'' ⟨v, e1, ho, hb⟩ => by
                      obtain ⟨A1, c1, rfl, hz, hs⟩ := own_ints2 ho
                      exact ⟨A1, c1, e1, hs, hb⟩))
                    clear hA5
                    go_upto_region 16 with fail
                    obtain ⟨wF, hw_⟩ : ∃ q, q = wE.alloc (.cells #[.int .i64 d.ck, .slice A5 d.n c5] 62) := ⟨_, rfl⟩
                    rw [← hw_]
                    have hb : Below wE.heap.size wE wF := by rw [hw_]; exact (Below.refl _ _).alloc (Nat.le_refl _) _
                    have n7_0 : wF.cell? ⟨wE.heap.size, 0, none⟩ = some (.int .i64 d.ck) := by rw [hw_]; simp [go_sem]
                    have n7_1 : wF.cell? ⟨wE.heap.size, 1, none⟩ = some (.slice A5 d.n c5) := by rw [hw_]; simp [go_sem]
                    have k7_0 := cell_later hb k6_0
                    have k7_1 := cell_later hb k6_1
                    have k7_2 := cell_later hb k6_2
                    have k7_3 := cell_later hb k6_3
                    have k7_4 := cell_later hb k6_4
                    have k7_5 := cell_later hb k6_5
                    have k7_6 := cell_later hb k6_6
                    have k7_7 := cell_later hb k6_7
                    have k7_8 := cell_later hb k6_8
                    have k7_9 := cell_later hb k6_9
                    have k7_10 := cell_later hb k6_10
                    have k7_11 := cell_later hb k6_11
                    have k7_12 := cell_later hb k6_12
                    have k7_13 := cell_later hb k6_13
                    have k7_14 := cell_later hb k6_14
                    have R7_0 := Lib.hid (R6_0.out.later hb)
                    have R7_1 := Lib.hid (R6_1.out.later hb)
                    have R7_2 := Lib.hid (R6_2.out.later hb)
                    have R7_3 := Lib.hid (I5.out.later hb)
                    have B7 : Hid (Below w.heap.size w wF) := Lib.hid (below_then B6.out hb)
                    clear k6_0 k6_1 k6_2 k6_3 k6_4 k6_5 k6_6 k6_7 k6_8 k6_9 k6_10 k6_11 k6_12 k6_13 k6_14 R6_0 R6_1 R6_2 I5 B6
                    have z7_0 := World.block_lt_of_cell? _ _ k7_0
                    dsimp only at z7_0
                    have z7_6 := World.block_lt_of_cell? _ _ k7_6
                    dsimp only at z7_6
                    have z7_8 := World.block_lt_of_cell? _ _ k7_8
                    dsimp only at z7_8
                    have z7_11 := World.block_lt_of_cell? _ _ k7_11
                    dsimp only at z7_11
                    have z7_13 := World.block_lt_of_cell? _ _ k7_13
                    dsimp only at z7_13
                    have zn7 : wE.heap.size < wF.heap.size := by rw [hw_]; simp
                    clear hb hw_
                    have hS : Below wF.heap.size wF wF := Below.refl _ _
                    go_cut [15, 16] (fun s15 s16 wx => ∃ P2 : Nat, s15 = .pointer (some ⟨P2, 0, none⟩) ∧ s16 = .int .i64 0 ∧ wx.cell? ⟨P2, 0, none⟩ = some (.int .i64 lo) ∧ wx.cell? ⟨P2, 1, none⟩ = some (.int .i64 hi) ∧ Below wF.heap.size wF wx)
                    case first =>
                      go_region_held3 (fun w' => w'.cell? ⟨w.heap.size, 0, none⟩ = some (.slice A a.n c) ∧ w'.cell? ⟨w.heap.size, 1, none⟩ = some (.int .i64 a.m.wd) ∧ w'.cell? ⟨w.heap.size, 2, none⟩ = some (.int .i64 a.m.mt) ∧ w'.cell? ⟨w.heap.size, 3, none⟩ = some (.int .i64 a.m.sk) ∧ w'.cell? ⟨w.heap.size, 4, none⟩ = some (.int .i64 a.m.th) ∧ w'.cell? ⟨w.heap.size, 5, none⟩ = some (.int .i64 a.ck) ∧ w'.cell? ⟨w.heap.size + 1 + 1, 1, none⟩ = some (.int .i64 f.x) ∧ w'.cell? ⟨w.heap.size + 1 + 1, 2, none⟩ = some (.int .i64 f.z) ∧ w'.cell? ⟨Q, 0, none⟩ = some (.int .i64 d.ck) ∧ w'.cell? ⟨Q, 1, none⟩ = some (.slice A3 d.n c3) ∧ Below wF.heap.size wF w') (((go_split_ands; (repeat' apply And.intro) <;> ((repeat (first | (with_reducible assumption) | (with_reducible exact Below.refl _ _) | (with_reducible refine cell_alloc_later ?_ _) | (with_reducible refine cell_drewA ?_) | (with_reducible refine cellA (by with_reducible assumption) ?_) | (with_reducible refine belowA ?_ (by with_reducible assumption)) | (with_reducible refine below_alloc_top ?_ _) | (with_reducible refine Below.drew ?_) | (with_reducible refine cell_set_old ?_ (by with_reducible assumption)) | (with_reducible refine below_set_old ?_ (by with_reducible assumption)) | (with_reducible refine Below.setCell ?_ (by first | omega | (simp; done) | (simp; omega)) _) | (simp [go_sem, World.cell?_alloc_past, *]; done))); done))))
                        (first
                          | (go_split_ands; go_at_call 27; (with_reducible refine (HCA.out _ (R7_0.out.later (by with_reducible assumption))).mono ?_); rintro e w' ⟨A1, c1, rfl, hs, hb⟩; have hbA : BelA _ w' := hb; obtain ⟨hc', hf'⟩ := bcell hb; have hz' := hb.size; (try simp at hz'); (first | (have tF' := Nat.lt_of_succ_le hz') | (have tF' := Nat.lt_of_lt_of_le tF' hz') | skip); clear hb)
                          | (go_split_ands; go_at_call 26; (with_reducible refine (HSA'.out _ _ _ _ _ (by repeat (first | (with_reducible assumption) | (with_reducible refine SpAt.laterA (by with_reducible assumption) ?_) | (with_reducible refine SpAt.alloc ?_ _) | (with_reducible refine SpAt.drew ?_))) (R7_2.out.later (by with_reducible assumption))).mono ?_); rintro e w' ⟨rfl, hb⟩; have hbA : BelA _ w' := hb; obtain ⟨hc', hf'⟩ := bcell hb; have hz' := hb.size; (try simp at hz'); (first | (have tF' := Nat.lt_of_succ_le hz') | (have tF' := Nat.lt_of_lt_of_le tF' hz') | skip); clear hb))
                      all_goals
                        go_split_ands
                        go_wp2_with fail
                        go_meet
                        exact ⟨_, rfl, rfl, (by first | (with_reducible assumption) | (simp [go_sem, World.cell?_alloc_past, *]; done)), (by first | (with_reducible assumption) | (simp [go_sem, World.cell?_alloc_past, *]; done)), (by first | (with_reducible assumption) | (simp [go_sem, World.cell?_alloc_past, *]; done))⟩
                    case rest =>
                      obtain ⟨P2, rfl, rfl, pp0, pp1, bel⟩ := hcut
                      clear hS
                      obtain ⟨wL, hw_⟩ : ∃ q, q = wc := ⟨_, rfl⟩
                      subst hw_
                      have k8_0 := cell_later bel k7_0
                      have k8_1 := cell_later bel k7_1
                      have k8_2 := cell_later bel k7_2
                      have k8_3 := cell_later bel k7_3
                      have k8_4 := cell_later bel k7_4
                      have k8_5 := cell_later bel k7_5
                      have k8_6 := cell_later bel k7_6
                      have k8_7 := cell_later bel k7_7
                      have k8_8 := cell_later bel k7_8
                      have k8_9 := cell_later bel k7_9
                      have k8_10 := cell_later bel k7_10
                      have k8_11 := cell_later bel k7_11
                      have k8_12 := cell_later bel k7_12
                      have k8_13 := cell_later bel k7_13
                      have k8_14 := cell_later bel k7_14
                      have k8_15 := cell_later bel n7_0
                      have k8_16 := cell_later bel n7_1
                      have R8_0 := Lib.hid (R7_0.out.later bel)
                      have R8_1 := Lib.hid (R7_1.out.later bel)
                      have R8_2 := Lib.hid (R7_2.out.later bel)
                      have R8_3 := Lib.hid (R7_3.out.later bel)
                      have B8 : Hid (Below w.heap.size w wL) := Lib.hid (below_then B7.out bel)
                      clear k7_0 k7_1 k7_2 k7_3 k7_4 k7_5 k7_6 k7_7 k7_8 k7_9 k7_10 k7_11 k7_12 k7_13 k7_14 n7_0 n7_1 R7_0 R7_1 R7_2 R7_3 B7
                      have z8_0 := World.block_lt_of_cell? _ _ k8_0
                      dsimp only at z8_0
                      have z8_6 := World.block_lt_of_cell? _ _ k8_6
                      dsimp only at z8_6
                      have z8_8 := World.block_lt_of_cell? _ _ k8_8
                      dsimp only at z8_8
                      have z8_11 := World.block_lt_of_cell? _ _ k8_11
                      dsimp only at z8_11
                      have z8_13 := World.block_lt_of_cell? _ _ k8_13
                      dsimp only at z8_13
                      have z8_15 := World.block_lt_of_cell? _ _ k8_15
                      dsimp only at z8_15
                      clear bel
                      go_wp2_with fail
                      refine (HCN.out _ R8_3.out).mono ?_
                      rintro e_ wG ⟨A6, c6, rfl, i6, hb⟩
                      have k9_0 := cell_later hb k8_0
                      have k9_1 := cell_later hb k8_1
                      have k9_2 := cell_later hb k8_2
                      have k9_3 := cell_later hb k8_3
                      have k9_4 := cell_later hb k8_4
                      have k9_5 := cell_later hb k8_5
                      have k9_6 := cell_later hb k8_6
                      have k9_7 := cell_later hb k8_7
                      have k9_8 := cell_later hb k8_8
                      have k9_9 := cell_later hb k8_9
                      have k9_10 := cell_later hb k8_10
                      have k9_11 := cell_later hb k8_11
                      have k9_12 := cell_later hb k8_12
                      have k9_13 := cell_later hb k8_13
                      have k9_14 := cell_later hb k8_14
                      have k9_15 := cell_later hb k8_15
                      have k9_16 := cell_later hb k8_16
                      have k9_17 := cell_later hb pp0
                      have k9_18 := cell_later hb pp1
                      have R9_0 := Lib.hid (R8_0.out.later hb)
                      have R9_1 := Lib.hid (R8_1.out.later hb)
                      have R9_2 := Lib.hid (R8_2.out.later hb)
                      have R9_3 := Lib.hid (R8_3.out.later hb)
                      have B9 : Hid (Below w.heap.size w wG) := Lib.hid (below_then B8.out hb)
                      clear k8_0 k8_1 k8_2 k8_3 k8_4 k8_5 k8_6 k8_7 k8_8 k8_9 k8_10 k8_11 k8_12 k8_13 k8_14 k8_15 k8_16 pp0 pp1 R8_0 R8_1 R8_2 R8_3 B8
                      have z9_0 := World.block_lt_of_cell? _ _ k9_0
                      dsimp only at z9_0
                      have z9_6 := World.block_lt_of_cell? _ _ k9_6
                      dsimp only at z9_6
                      have z9_8 := World.block_lt_of_cell? _ _ k9_8
                      dsimp only at z9_8
                      have z9_11 := World.block_lt_of_cell? _ _ k9_11
                      dsimp only at z9_11
                      have z9_13 := World.block_lt_of_cell? _ _ k9_13
                      dsimp only at z9_13
                      have z9_15 := World.block_lt_of_cell? _ _ k9_15
                      dsimp only at z9_15
                      have z9_17 := World.block_lt_of_cell? _ _ k9_17
                      dsimp only at z9_17
                      clear hb
                      go_wp2_with fail
                      refine (HNN.out _ _ _ i6).mono ?_
                      rintro e_ wH ⟨A7, c7, rfl, i7, hb⟩
                      have k10_0 := cell_later hb k9_0
                      have k10_1 := cell_later hb k9_1
                      have k10_2 := cell_later hb k9_2
                      have k10_3 := cell_later hb k9_3
                      have k10_4 := cell_later hb k9_4
                      have k10_5 := cell_later hb k9_5
                      have k10_6 := cell_later hb k9_6
                      have k10_7 := cell_later hb k9_7
                      have k10_8 := cell_later hb k9_8
                      have k10_9 := cell_later hb k9_9
                      have k10_10 := cell_later hb k9_10
                      have k10_11 := cell_later hb k9_11
                      have k10_12 := cell_later hb k9_12
                      have k10_13 := cell_later hb k9_13
                      have k10_14 := cell_later hb k9_14
                      have k10_15 := cell_later hb k9_15
                      have k10_16 := cell_later hb k9_16
                      have k10_17 := cell_later hb k9_17
                      have k10_18 := cell_later hb k9_18
                      have R10_0 := Lib.hid (R9_0.out.later hb)
                      have R10_1 := Lib.hid (R9_1.out.later hb)
                      have R10_2 := Lib.hid (R9_2.out.later hb)
                      have R10_3 := Lib.hid (R9_3.out.later hb)
                      have B10 : Hid (Below w.heap.size w wH) := Lib.hid (below_then B9.out hb)
                      clear k9_0 k9_1 k9_2 k9_3 k9_4 k9_5 k9_6 k9_7 k9_8 k9_9 k9_10 k9_11 k9_12 k9_13 k9_14 k9_15 k9_16 k9_17 k9_18 R9_0 R9_1 R9_2 R9_3 B9
                      have z10_0 := World.block_lt_of_cell? _ _ k10_0
                      dsimp only at z10_0
                      have z10_6 := World.block_lt_of_cell? _ _ k10_6
                      dsimp only at z10_6
                      have z10_8 := World.block_lt_of_cell? _ _ k10_8
                      dsimp only at z10_8
                      have z10_11 := World.block_lt_of_cell? _ _ k10_11
                      dsimp only at z10_11
                      have z10_13 := World.block_lt_of_cell? _ _ k10_13
                      dsimp only at z10_13
                      have z10_15 := World.block_lt_of_cell? _ _ k10_15
                      dsimp only at z10_15
                      have z10_17 := World.block_lt_of_cell? _ _ k10_17
                      dsimp only at z10_17
                      clear hb
                      have I7 := Lib.hid i7
                      clear i6 i7
                      go_upto_region 22 with fail
                      obtain ⟨wI, hw_⟩ : ∃ q, q = wH.alloc (.cells #[.int .i64 d.ck, .slice A7 d.n c7] 62) := ⟨_, rfl⟩
                      rw [← hw_]
                      have hb : Below wH.heap.size wH wI := by rw [hw_]; exact (Below.refl _ _).alloc (Nat.le_refl _) _
                      have n11_0 : wI.cell? ⟨wH.heap.size, 0, none⟩ = some (.int .i64 d.ck) := by rw [hw_]; simp [go_sem]
                      have n11_1 : wI.cell? ⟨wH.heap.size, 1, none⟩ = some (.slice A7 d.n c7) := by rw [hw_]; simp [go_sem]
                      have k11_0 := cell_later hb k10_0
                      have k11_1 := cell_later hb k10_1
                      have k11_2 := cell_later hb k10_2
                      have k11_3 := cell_later hb k10_3
                      have k11_4 := cell_later hb k10_4
                      have k11_5 := cell_later hb k10_5
                      have k11_6 := cell_later hb k10_6
                      have k11_7 := cell_later hb k10_7
                      have k11_8 := cell_later hb k10_8
                      have k11_9 := cell_later hb k10_9
                      have k11_10 := cell_later hb k10_10
                      have k11_11 := cell_later hb k10_11
                      have k11_12 := cell_later hb k10_12
                      have k11_13 := cell_later hb k10_13
                      have k11_14 := cell_later hb k10_14
                      have k11_15 := cell_later hb k10_15
                      have k11_16 := cell_later hb k10_16
                      have k11_17 := cell_later hb k10_17
                      have k11_18 := cell_later hb k10_18
                      have R11_0 := Lib.hid (R10_0.out.later hb)
                      have R11_1 := Lib.hid (R10_1.out.later hb)
                      have R11_2 := Lib.hid (R10_2.out.later hb)
                      have R11_3 := Lib.hid (R10_3.out.later hb)
                      have R11_4 := Lib.hid (I7.out.later hb)
                      have B11 : Hid (Below w.heap.size w wI) := Lib.hid (below_then B10.out hb)
                      clear k10_0 k10_1 k10_2 k10_3 k10_4 k10_5 k10_6 k10_7 k10_8 k10_9 k10_10 k10_11 k10_12 k10_13 k10_14 k10_15 k10_16 k10_17 k10_18 R10_0 R10_1 R10_2 R10_3 I7 B10
                      have z11_0 := World.block_lt_of_cell? _ _ k11_0
                      dsimp only at z11_0
                      have z11_6 := World.block_lt_of_cell? _ _ k11_6
                      dsimp only at z11_6
                      have z11_8 := World.block_lt_of_cell? _ _ k11_8
                      dsimp only at z11_8
                      have z11_11 := World.block_lt_of_cell? _ _ k11_11
                      dsimp only at z11_11
                      have z11_13 := World.block_lt_of_cell? _ _ k11_13
                      dsimp only at z11_13
                      have z11_15 := World.block_lt_of_cell? _ _ k11_15
                      dsimp only at z11_15
                      have z11_17 := World.block_lt_of_cell? _ _ k11_17
                      dsimp only at z11_17
                      have zn11 : wH.heap.size < wI.heap.size := by rw [hw_]; simp
                      clear hb hw_
                      have hS : Below wI.heap.size wI wI := Below.refl _ _
                      go_cut [19, 20] (fun s19 s20 wx => ∃ T : Nat, s19 = .pointer (some ⟨T, 0, none⟩) ∧ s20 = .int .i64 0 ∧ wx.cell? ⟨T, 0, none⟩ = some (.int .i64 lo) ∧ wx.cell? ⟨T, 1, none⟩ = some (.int .i64 hi) ∧ Below wI.heap.size wI wx)
                      case first =>
                        go_region_held3 (fun w' => w'.cell? ⟨w.heap.size, 0, none⟩ = some (.slice A a.n c) ∧ w'.cell? ⟨w.heap.size, 1, none⟩ = some (.int .i64 a.m.wd) ∧ w'.cell? ⟨w.heap.size, 2, none⟩ = some (.int .i64 a.m.mt) ∧ w'.cell? ⟨w.heap.size, 3, none⟩ = some (.int .i64 a.m.sk) ∧ w'.cell? ⟨w.heap.size, 4, none⟩ = some (.int .i64 a.m.th) ∧ w'.cell? ⟨w.heap.size, 5, none⟩ = some (.int .i64 a.ck) ∧ w'.cell? ⟨w.heap.size + 1 + 1, 1, none⟩ = some (.int .i64 f.x) ∧ w'.cell? ⟨w.heap.size + 1 + 1, 2, none⟩ = some (.int .i64 f.z) ∧ w'.cell? ⟨wE.heap.size, 0, none⟩ = some (.int .i64 d.ck) ∧ w'.cell? ⟨wE.heap.size, 1, none⟩ = some (.slice A5 d.n c5) ∧ Below wI.heap.size wI w') (((go_split_ands; (repeat' apply And.intro) <;> ((repeat (first | (with_reducible assumption) | (with_reducible exact Below.refl _ _) | (with_reducible refine cell_alloc_later ?_ _) | (with_reducible refine cell_drewA ?_) | (with_reducible refine cellA (by with_reducible assumption) ?_) | (with_reducible refine belowA ?_ (by with_reducible assumption)) | (with_reducible refine below_alloc_top ?_ _) | (with_reducible refine Below.drew ?_) | (with_reducible refine cell_set_old ?_ (by with_reducible assumption)) | (with_reducible refine below_set_old ?_ (by with_reducible assumption)) | (with_reducible refine Below.setCell ?_ (by first | omega | (simp; done) | (simp; omega)) _) | (simp [go_sem, World.cell?_alloc_past, *]; done))); done))))
                          (first
                            | (go_split_ands; go_at_call 27; (with_reducible refine (HCA.out _ (R11_0.out.later (by with_reducible assumption))).mono ?_); rintro e w' ⟨A1, c1, rfl, hs, hb⟩; have hbA : BelA _ w' := hb; obtain ⟨hc', hf'⟩ := bcell hb; have hz' := hb.size; (try simp at hz'); (first | (have tF' := Nat.lt_of_succ_le hz') | (have tF' := Nat.lt_of_lt_of_le tF' hz') | skip); clear hb)
                            | (go_split_ands; go_at_call 28; (with_reducible refine (HCN.out _ (R11_3.out.later (by with_reducible assumption))).mono ?_); rintro e w' ⟨A2, c2, rfl, hi, hb⟩; have hbA : BelA _ w' := hb; obtain ⟨hc', hf'⟩ := bcell hb; have hz' := hb.size; (try simp at hz'); (first | (have tF' := Nat.lt_of_succ_le hz') | (have tF' := Nat.lt_of_lt_of_le tF' hz') | skip); clear hb)
                            | (go_split_ands; go_at_call 26; (with_reducible refine (HSN.out _ _ _ _ _ (by repeat (first | (with_reducible assumption) | (with_reducible refine SpAt.laterA (by with_reducible assumption) ?_) | (with_reducible refine SpAt.alloc ?_ _) | (with_reducible refine SpAt.drew ?_))) (by repeat (first | (with_reducible assumption) | (with_reducible refine InAt.laterA (by with_reducible assumption) ?_) | (with_reducible refine InAt.alloc ?_ _) | (with_reducible refine InAt.drew ?_)))).mono ?_); rintro e w' ⟨rfl, hb⟩; have hbA : BelA _ w' := hb; obtain ⟨hc', hf'⟩ := bcell hb; have hz' := hb.size; (try simp at hz'); (first | (have tF' := Nat.lt_of_succ_le hz') | (have tF' := Nat.lt_of_lt_of_le tF' hz') | skip); clear hb))
                        all_goals
                          go_split_ands
                          go_wp2_with fail
                          go_meet
                          exact ⟨_, rfl, rfl, (by first | (with_reducible assumption) | (simp [go_sem, World.cell?_alloc_past, *]; done)), (by first | (with_reducible assumption) | (simp [go_sem, World.cell?_alloc_past, *]; done)), (by first | (with_reducible assumption) | (simp [go_sem, World.cell?_alloc_past, *]; done))⟩
                      case rest =>
                        obtain ⟨T, rfl, rfl, t0, t1, bel⟩ := hcut
                        clear hS
                        obtain ⟨wJ, hw_⟩ : ∃ q, q = wc := ⟨_, rfl⟩
                        subst hw_
                        have k12_0 := cell_later bel k11_0
                        have k12_1 := cell_later bel k11_1
                        have k12_2 := cell_later bel k11_2
                        have k12_3 := cell_later bel k11_3
                        have k12_4 := cell_later bel k11_4
                        have k12_5 := cell_later bel k11_5
                        have k12_6 := cell_later bel k11_6
                        have k12_7 := cell_later bel k11_7
                        have k12_8 := cell_later bel k11_8
                        have k12_9 := cell_later bel k11_9
                        have k12_10 := cell_later bel k11_10
                        have k12_11 := cell_later bel k11_11
                        have k12_12 := cell_later bel k11_12
                        have k12_13 := cell_later bel k11_13
                        have k12_14 := cell_later bel k11_14
                        have k12_15 := cell_later bel k11_15
                        have k12_16 := cell_later bel k11_16
                        have k12_17 := cell_later bel k11_17
                        have k12_18 := cell_later bel k11_18
                        have k12_19 := cell_later bel n11_0
                        have k12_20 := cell_later bel n11_1
                        have R12_0 := Lib.hid (R11_0.out.later bel)
                        have R12_1 := Lib.hid (R11_1.out.later bel)
                        have R12_2 := Lib.hid (R11_2.out.later bel)
                        have R12_3 := Lib.hid (R11_3.out.later bel)
                        have R12_4 := Lib.hid (R11_4.out.later bel)
                        have B12 : Hid (Below w.heap.size w wJ) := Lib.hid (below_then B11.out bel)
                        clear k11_0 k11_1 k11_2 k11_3 k11_4 k11_5 k11_6 k11_7 k11_8 k11_9 k11_10 k11_11 k11_12 k11_13 k11_14 k11_15 k11_16 k11_17 k11_18 n11_0 n11_1 R11_0 R11_1 R11_2 R11_3 R11_4 B11
                        have z12_0 := World.block_lt_of_cell? _ _ k12_0
                        dsimp only at z12_0
                        have z12_6 := World.block_lt_of_cell? _ _ k12_6
                        dsimp only at z12_6
                        have z12_8 := World.block_lt_of_cell? _ _ k12_8
                        dsimp only at z12_8
                        have z12_11 := World.block_lt_of_cell? _ _ k12_11
                        dsimp only at z12_11
                        have z12_13 := World.block_lt_of_cell? _ _ k12_13
                        dsimp only at z12_13
                        have z12_15 := World.block_lt_of_cell? _ _ k12_15
                        dsimp only at z12_15
                        have z12_17 := World.block_lt_of_cell? _ _ k12_17
                        dsimp only at z12_17
                        have z12_19 := World.block_lt_of_cell? _ _ k12_19
                        dsimp only at z12_19
                        clear bel
                        go_wp2_with fail
                        refine (HSM.out _ _ _ _ _ R12_4.out R12_3.out).mono ?_
                        rintro e_ wK ⟨rfl, hb⟩
                        have k13_0 := cell_later hb k12_0
                        have k13_1 := cell_later hb k12_1
                        have k13_2 := cell_later hb k12_2
                        have k13_3 := cell_later hb k12_3
                        have k13_4 := cell_later hb k12_4
                        have k13_5 := cell_later hb k12_5
                        have k13_6 := cell_later hb k12_6
                        have k13_7 := cell_later hb k12_7
                        have k13_8 := cell_later hb k12_8
                        have k13_9 := cell_later hb k12_9
                        have k13_10 := cell_later hb k12_10
                        have k13_11 := cell_later hb k12_11
                        have k13_12 := cell_later hb k12_12
                        have k13_13 := cell_later hb k12_13
                        have k13_14 := cell_later hb k12_14
                        have k13_15 := cell_later hb k12_15
                        have k13_16 := cell_later hb k12_16
                        have k13_17 := cell_later hb k12_17
                        have k13_18 := cell_later hb k12_18
                        have k13_19 := cell_later hb k12_19
                        have k13_20 := cell_later hb k12_20
                        have k13_21 := cell_later hb t0
                        have k13_22 := cell_later hb t1
                        have R13_0 := Lib.hid (R12_0.out.later hb)
                        have R13_1 := Lib.hid (R12_1.out.later hb)
                        have R13_2 := Lib.hid (R12_2.out.later hb)
                        have R13_3 := Lib.hid (R12_3.out.later hb)
                        have R13_4 := Lib.hid (R12_4.out.later hb)
                        have B13 : Hid (Below w.heap.size w wK) := Lib.hid (below_then B12.out hb)
                        clear k12_0 k12_1 k12_2 k12_3 k12_4 k12_5 k12_6 k12_7 k12_8 k12_9 k12_10 k12_11 k12_12 k12_13 k12_14 k12_15 k12_16 k12_17 k12_18 k12_19 k12_20 t0 t1 R12_0 R12_1 R12_2 R12_3 R12_4 B12
                        have z13_0 := World.block_lt_of_cell? _ _ k13_0
                        dsimp only at z13_0
                        have z13_6 := World.block_lt_of_cell? _ _ k13_6
                        dsimp only at z13_6
                        have z13_8 := World.block_lt_of_cell? _ _ k13_8
                        dsimp only at z13_8
                        have z13_11 := World.block_lt_of_cell? _ _ k13_11
                        dsimp only at z13_11
                        have z13_13 := World.block_lt_of_cell? _ _ k13_13
                        dsimp only at z13_13
                        have z13_15 := World.block_lt_of_cell? _ _ k13_15
                        dsimp only at z13_15
                        have z13_17 := World.block_lt_of_cell? _ _ k13_17
                        dsimp only at z13_17
                        have z13_19 := World.block_lt_of_cell? _ _ k13_19
                        dsimp only at z13_19
                        have z13_21 := World.block_lt_of_cell? _ _ k13_21
                        dsimp only at z13_21
                        clear hb
                        go_wp2
                        go_ret
                        exact ⟨by simp, B13.out⟩
                  · have e8 := HME.out.resolve_left h5
                    subst e8
                    clear hg HSA HME h5
                    go_wp2_with fail
                    refine (HCL.out _ R4_1.out).mono ?_
                    rintro e_ wD ⟨A4, c4, rfl, i4, hb⟩
                    have k5_0 := cell_later hb k4_0
                    have k5_1 := cell_later hb k4_1
                    have k5_2 := cell_later hb k4_2
                    have k5_3 := cell_later hb k4_3
                    have k5_4 := cell_later hb k4_4
                    have k5_5 := cell_later hb k4_5
                    have k5_6 := cell_later hb k4_6
                    have k5_7 := cell_later hb k4_7
                    have k5_8 := cell_later hb k4_8
                    have k5_9 := cell_later hb k4_9
                    have k5_10 := cell_later hb k4_10
                    have k5_11 := cell_later hb k4_11
                    have k5_12 := cell_later hb k4_12
                    have k5_13 := cell_later hb q0
                    have k5_14 := cell_later hb q1
                    have R5_0 := Lib.hid (R4_0.out.later hb)
                    have R5_1 := Lib.hid (R4_1.out.later hb)
                    have B5 : Hid (Below w.heap.size w wD) := Lib.hid (below_then B4.out hb)
                    clear k4_0 k4_1 k4_2 k4_3 k4_4 k4_5 k4_6 k4_7 k4_8 k4_9 k4_10 k4_11 k4_12 q0 q1 R4_0 R4_1 B4
                    have z5_0 := World.block_lt_of_cell? _ _ k5_0
                    dsimp only at z5_0
                    have z5_6 := World.block_lt_of_cell? _ _ k5_6
                    dsimp only at z5_6
                    have z5_8 := World.block_lt_of_cell? _ _ k5_8
                    dsimp only at z5_8
                    have z5_11 := World.block_lt_of_cell? _ _ k5_11
                    dsimp only at z5_11
                    have z5_13 := World.block_lt_of_cell? _ _ k5_13
                    dsimp only at z5_13
                    clear hb
                    go_wp2_with fail
                    refine (HNO.out _ _ _ i4).mono ?_
                    rintro e_ wE ⟨A5, c5, rfl, hA5, i5, hb⟩
                    have k6_0 := cell_later hb k5_0
                    have k6_1 := cell_later hb k5_1
                    have k6_2 := cell_later hb k5_2
                    have k6_3 := cell_later hb k5_3
                    have k6_4 := cell_later hb k5_4
                    have k6_5 := cell_later hb k5_5
                    have k6_6 := cell_later hb k5_6
                    have k6_7 := cell_later hb k5_7
                    have k6_8 := cell_later hb k5_8
                    have k6_9 := cell_later hb k5_9
                    have k6_10 := cell_later hb k5_10
                    have k6_11 := cell_later hb k5_11
                    have k6_12 := cell_later hb k5_12
                    have k6_13 := cell_later hb k5_13
                    have k6_14 := cell_later hb k5_14
                    have R6_0 := Lib.hid (R5_0.out.later hb)
                    have R6_1 := Lib.hid (R5_1.out.later hb)
                    have B6 : Hid (Below w.heap.size w wE) := Lib.hid (below_then B5.out hb)
                    clear k5_0 k5_1 k5_2 k5_3 k5_4 k5_5 k5_6 k5_7 k5_8 k5_9 k5_10 k5_11 k5_12 k5_13 k5_14 R5_0 R5_1 B5
                    have z6_0 := World.block_lt_of_cell? _ _ k6_0
                    dsimp only at z6_0
                    have z6_6 := World.block_lt_of_cell? _ _ k6_6
                    dsimp only at z6_6
                    have z6_8 := World.block_lt_of_cell? _ _ k6_8
                    dsimp only at z6_8
                    have z6_11 := World.block_lt_of_cell? _ _ k6_11
                    dsimp only at z6_11
                    have z6_13 := World.block_lt_of_cell? _ _ k6_13
                    dsimp only at z6_13
                    clear hb
                    have I5 := Lib.hid i5
                    clear i4 i5
                    have HCN : Hid (∀ w', InAt A5 d.n (noD d).t w' → Calls Tryz.prog 28 #[.agg #[.int .i64 d.ck, .slice A5 d.n c5]] w' fun e_ w'' => ∃ A1 c1, e_ = .returned (.agg #[.int .i64 d.ck, .slice A1 d.n c1]) ∧ InAt A1 d.n (noD d).t w'' ∧ Below w'.heap.size w' w'') := Lib.hid (fun w' h => (copyLaw_any (noD d) A5 c5 w' (by show d.n ≤ 1000; have := HN1.out; omega) (fun q => absurd q hA5) h).mono (fun e w'' ⟨v, e1, ho, hb⟩ => by
                      obtain ⟨A1, c1, rfl, hz, hs⟩ := own_ints2 ho
                      exact ⟨A1, c1, e1, hs, hb⟩))
                    clear hA5
                    go_wp2_with fail
                    obtain ⟨wF, hw_⟩ : ∃ q, q = wE.alloc (.cells #[.int .i64 d.ck, .slice A5 d.n c5] 62) := ⟨_, rfl⟩
                    rw [← hw_]
                    have hb : Below wE.heap.size wE wF := by rw [hw_]; exact (Below.refl _ _).alloc (Nat.le_refl _) _
                    have n7_0 : wF.cell? ⟨wE.heap.size, 0, none⟩ = some (.int .i64 d.ck) := by rw [hw_]; simp [go_sem]
                    have n7_1 : wF.cell? ⟨wE.heap.size, 1, none⟩ = some (.slice A5 d.n c5) := by rw [hw_]; simp [go_sem]
                    have k7_0 := cell_later hb k6_0
                    have k7_1 := cell_later hb k6_1
                    have k7_2 := cell_later hb k6_2
                    have k7_3 := cell_later hb k6_3
                    have k7_4 := cell_later hb k6_4
                    have k7_5 := cell_later hb k6_5
                    have k7_6 := cell_later hb k6_6
                    have k7_7 := cell_later hb k6_7
                    have k7_8 := cell_later hb k6_8
                    have k7_9 := cell_later hb k6_9
                    have k7_10 := cell_later hb k6_10
                    have k7_11 := cell_later hb k6_11
                    have k7_12 := cell_later hb k6_12
                    have k7_13 := cell_later hb k6_13
                    have k7_14 := cell_later hb k6_14
                    have R7_0 := Lib.hid (R6_0.out.later hb)
                    have R7_1 := Lib.hid (R6_1.out.later hb)
                    have R7_2 := Lib.hid (I5.out.later hb)
                    have B7 : Hid (Below w.heap.size w wF) := Lib.hid (below_then B6.out hb)
                    clear k6_0 k6_1 k6_2 k6_3 k6_4 k6_5 k6_6 k6_7 k6_8 k6_9 k6_10 k6_11 k6_12 k6_13 k6_14 R6_0 R6_1 I5 B6
                    have z7_0 := World.block_lt_of_cell? _ _ k7_0
                    dsimp only at z7_0
                    have z7_6 := World.block_lt_of_cell? _ _ k7_6
                    dsimp only at z7_6
                    have z7_8 := World.block_lt_of_cell? _ _ k7_8
                    dsimp only at z7_8
                    have z7_11 := World.block_lt_of_cell? _ _ k7_11
                    dsimp only at z7_11
                    have z7_13 := World.block_lt_of_cell? _ _ k7_13
                    dsimp only at z7_13
                    have zn7 : wE.heap.size < wF.heap.size := by rw [hw_]; simp
                    clear hb hw_
                    go_wp2_with fail
                    refine (HCN.out _ R7_2.out).mono ?_
                    rintro e_ wG ⟨A6, c6, rfl, i6, hb⟩
                    have k8_0 := cell_later hb k7_0
                    have k8_1 := cell_later hb k7_1
                    have k8_2 := cell_later hb k7_2
                    have k8_3 := cell_later hb k7_3
                    have k8_4 := cell_later hb k7_4
                    have k8_5 := cell_later hb k7_5
                    have k8_6 := cell_later hb k7_6
                    have k8_7 := cell_later hb k7_7
                    have k8_8 := cell_later hb k7_8
                    have k8_9 := cell_later hb k7_9
                    have k8_10 := cell_later hb k7_10
                    have k8_11 := cell_later hb k7_11
                    have k8_12 := cell_later hb k7_12
                    have k8_13 := cell_later hb k7_13
                    have k8_14 := cell_later hb k7_14
                    have k8_15 := cell_later hb n7_0
                    have k8_16 := cell_later hb n7_1
                    have R8_0 := Lib.hid (R7_0.out.later hb)
                    have R8_1 := Lib.hid (R7_1.out.later hb)
                    have R8_2 := Lib.hid (R7_2.out.later hb)
                    have B8 : Hid (Below w.heap.size w wG) := Lib.hid (below_then B7.out hb)
                    clear k7_0 k7_1 k7_2 k7_3 k7_4 k7_5 k7_6 k7_7 k7_8 k7_9 k7_10 k7_11 k7_12 k7_13 k7_14 n7_0 n7_1 R7_0 R7_1 R7_2 B7
                    have z8_0 := World.block_lt_of_cell? _ _ k8_0
                    dsimp only at z8_0
                    have z8_6 := World.block_lt_of_cell? _ _ k8_6
                    dsimp only at z8_6
                    have z8_8 := World.block_lt_of_cell? _ _ k8_8
                    dsimp only at z8_8
                    have z8_11 := World.block_lt_of_cell? _ _ k8_11
                    dsimp only at z8_11
                    have z8_13 := World.block_lt_of_cell? _ _ k8_13
                    dsimp only at z8_13
                    have z8_15 := World.block_lt_of_cell? _ _ k8_15
                    dsimp only at z8_15
                    clear hb
                    go_wp2_with fail
                    refine (HNN.out _ _ _ i6).mono ?_
                    rintro e_ wH ⟨A7, c7, rfl, i7, hb⟩
                    have k9_0 := cell_later hb k8_0
                    have k9_1 := cell_later hb k8_1
                    have k9_2 := cell_later hb k8_2
                    have k9_3 := cell_later hb k8_3
                    have k9_4 := cell_later hb k8_4
                    have k9_5 := cell_later hb k8_5
                    have k9_6 := cell_later hb k8_6
                    have k9_7 := cell_later hb k8_7
                    have k9_8 := cell_later hb k8_8
                    have k9_9 := cell_later hb k8_9
                    have k9_10 := cell_later hb k8_10
                    have k9_11 := cell_later hb k8_11
                    have k9_12 := cell_later hb k8_12
                    have k9_13 := cell_later hb k8_13
                    have k9_14 := cell_later hb k8_14
                    have k9_15 := cell_later hb k8_15
                    have k9_16 := cell_later hb k8_16
                    have R9_0 := Lib.hid (R8_0.out.later hb)
                    have R9_1 := Lib.hid (R8_1.out.later hb)
                    have R9_2 := Lib.hid (R8_2.out.later hb)
                    have B9 : Hid (Below w.heap.size w wH) := Lib.hid (below_then B8.out hb)
                    clear k8_0 k8_1 k8_2 k8_3 k8_4 k8_5 k8_6 k8_7 k8_8 k8_9 k8_10 k8_11 k8_12 k8_13 k8_14 k8_15 k8_16 R8_0 R8_1 R8_2 B8
                    have z9_0 := World.block_lt_of_cell? _ _ k9_0
                    dsimp only at z9_0
                    have z9_6 := World.block_lt_of_cell? _ _ k9_6
                    dsimp only at z9_6
                    have z9_8 := World.block_lt_of_cell? _ _ k9_8
                    dsimp only at z9_8
                    have z9_11 := World.block_lt_of_cell? _ _ k9_11
                    dsimp only at z9_11
                    have z9_13 := World.block_lt_of_cell? _ _ k9_13
                    dsimp only at z9_13
                    have z9_15 := World.block_lt_of_cell? _ _ k9_15
                    dsimp only at z9_15
                    clear hb
                    have I7 := Lib.hid i7
                    clear i6 i7
                    go_upto_region 22 with fail
                    obtain ⟨wI, hw_⟩ : ∃ q, q = wH.alloc (.cells #[.int .i64 d.ck, .slice A7 d.n c7] 62) := ⟨_, rfl⟩
                    rw [← hw_]
                    have hb : Below wH.heap.size wH wI := by rw [hw_]; exact (Below.refl _ _).alloc (Nat.le_refl _) _
                    have n10_0 : wI.cell? ⟨wH.heap.size, 0, none⟩ = some (.int .i64 d.ck) := by rw [hw_]; simp [go_sem]
                    have n10_1 : wI.cell? ⟨wH.heap.size, 1, none⟩ = some (.slice A7 d.n c7) := by rw [hw_]; simp [go_sem]
                    have k10_0 := cell_later hb k9_0
                    have k10_1 := cell_later hb k9_1
                    have k10_2 := cell_later hb k9_2
                    have k10_3 := cell_later hb k9_3
                    have k10_4 := cell_later hb k9_4
                    have k10_5 := cell_later hb k9_5
                    have k10_6 := cell_later hb k9_6
                    have k10_7 := cell_later hb k9_7
                    have k10_8 := cell_later hb k9_8
                    have k10_9 := cell_later hb k9_9
                    have k10_10 := cell_later hb k9_10
                    have k10_11 := cell_later hb k9_11
                    have k10_12 := cell_later hb k9_12
                    have k10_13 := cell_later hb k9_13
                    have k10_14 := cell_later hb k9_14
                    have k10_15 := cell_later hb k9_15
                    have k10_16 := cell_later hb k9_16
                    have R10_0 := Lib.hid (R9_0.out.later hb)
                    have R10_1 := Lib.hid (R9_1.out.later hb)
                    have R10_2 := Lib.hid (R9_2.out.later hb)
                    have R10_3 := Lib.hid (I7.out.later hb)
                    have B10 : Hid (Below w.heap.size w wI) := Lib.hid (below_then B9.out hb)
                    clear k9_0 k9_1 k9_2 k9_3 k9_4 k9_5 k9_6 k9_7 k9_8 k9_9 k9_10 k9_11 k9_12 k9_13 k9_14 k9_15 k9_16 R9_0 R9_1 R9_2 I7 B9
                    have z10_0 := World.block_lt_of_cell? _ _ k10_0
                    dsimp only at z10_0
                    have z10_6 := World.block_lt_of_cell? _ _ k10_6
                    dsimp only at z10_6
                    have z10_8 := World.block_lt_of_cell? _ _ k10_8
                    dsimp only at z10_8
                    have z10_11 := World.block_lt_of_cell? _ _ k10_11
                    dsimp only at z10_11
                    have z10_13 := World.block_lt_of_cell? _ _ k10_13
                    dsimp only at z10_13
                    have z10_15 := World.block_lt_of_cell? _ _ k10_15
                    dsimp only at z10_15
                    have zn10 : wH.heap.size < wI.heap.size := by rw [hw_]; simp
                    clear hb hw_
                    have hS : Below wI.heap.size wI wI := Below.refl _ _
                    go_cut [19, 20] (fun s19 s20 wx => ∃ T : Nat, s19 = .pointer (some ⟨T, 0, none⟩) ∧ s20 = .int .i64 0 ∧ wx.cell? ⟨T, 0, none⟩ = some (.int .i64 lo) ∧ wx.cell? ⟨T, 1, none⟩ = some (.int .i64 hi) ∧ Below wI.heap.size wI wx)
                    case first =>
                      go_region_held3 (fun w' => w'.cell? ⟨w.heap.size, 0, none⟩ = some (.slice A a.n c) ∧ w'.cell? ⟨w.heap.size, 1, none⟩ = some (.int .i64 a.m.wd) ∧ w'.cell? ⟨w.heap.size, 2, none⟩ = some (.int .i64 a.m.mt) ∧ w'.cell? ⟨w.heap.size, 3, none⟩ = some (.int .i64 a.m.sk) ∧ w'.cell? ⟨w.heap.size, 4, none⟩ = some (.int .i64 a.m.th) ∧ w'.cell? ⟨w.heap.size, 5, none⟩ = some (.int .i64 a.ck) ∧ w'.cell? ⟨w.heap.size + 1 + 1, 1, none⟩ = some (.int .i64 f.x) ∧ w'.cell? ⟨w.heap.size + 1 + 1, 2, none⟩ = some (.int .i64 f.z) ∧ w'.cell? ⟨wE.heap.size, 0, none⟩ = some (.int .i64 d.ck) ∧ w'.cell? ⟨wE.heap.size, 1, none⟩ = some (.slice A5 d.n c5) ∧ Below wI.heap.size wI w') (((go_split_ands; (repeat' apply And.intro) <;> ((repeat (first | (with_reducible assumption) | (with_reducible exact Below.refl _ _) | (with_reducible refine cell_alloc_later ?_ _) | (with_reducible refine cell_drewA ?_) | (with_reducible refine cellA (by with_reducible assumption) ?_) | (with_reducible refine belowA ?_ (by with_reducible assumption)) | (with_reducible refine below_alloc_top ?_ _) | (with_reducible refine Below.drew ?_) | (with_reducible refine cell_set_old ?_ (by with_reducible assumption)) | (with_reducible refine below_set_old ?_ (by with_reducible assumption)) | (with_reducible refine Below.setCell ?_ (by first | omega | (simp; done) | (simp; omega)) _) | (simp [go_sem, World.cell?_alloc_past, *]; done))); done))))
                        (first
                          | (go_split_ands; go_at_call 27; (with_reducible refine (HCA.out _ (R10_0.out.later (by with_reducible assumption))).mono ?_); rintro e w' ⟨A1, c1, rfl, hs, hb⟩; have hbA : BelA _ w' := hb; obtain ⟨hc', hf'⟩ := bcell hb; have hz' := hb.size; (try simp at hz'); (first | (have tF' := Nat.lt_of_succ_le hz') | (have tF' := Nat.lt_of_lt_of_le tF' hz') | skip); clear hb)
                          | (go_split_ands; go_at_call 28; (with_reducible refine (HCN.out _ (R10_2.out.later (by with_reducible assumption))).mono ?_); rintro e w' ⟨A2, c2, rfl, hi, hb⟩; have hbA : BelA _ w' := hb; obtain ⟨hc', hf'⟩ := bcell hb; have hz' := hb.size; (try simp at hz'); (first | (have tF' := Nat.lt_of_succ_le hz') | (have tF' := Nat.lt_of_lt_of_le tF' hz') | skip); clear hb)
                          | (go_split_ands; go_at_call 26; (with_reducible refine (HSN.out _ _ _ _ _ (by repeat (first | (with_reducible assumption) | (with_reducible refine SpAt.laterA (by with_reducible assumption) ?_) | (with_reducible refine SpAt.alloc ?_ _) | (with_reducible refine SpAt.drew ?_))) (by repeat (first | (with_reducible assumption) | (with_reducible refine InAt.laterA (by with_reducible assumption) ?_) | (with_reducible refine InAt.alloc ?_ _) | (with_reducible refine InAt.drew ?_)))).mono ?_); rintro e w' ⟨rfl, hb⟩; have hbA : BelA _ w' := hb; obtain ⟨hc', hf'⟩ := bcell hb; have hz' := hb.size; (try simp at hz'); (first | (have tF' := Nat.lt_of_succ_le hz') | (have tF' := Nat.lt_of_lt_of_le tF' hz') | skip); clear hb))
                      all_goals
                        go_split_ands
                        go_wp2_with fail
                        go_meet
                        exact ⟨_, rfl, rfl, (by first | (with_reducible assumption) | (simp [go_sem, World.cell?_alloc_past, *]; done)), (by first | (with_reducible assumption) | (simp [go_sem, World.cell?_alloc_past, *]; done)), (by first | (with_reducible assumption) | (simp [go_sem, World.cell?_alloc_past, *]; done))⟩
                    case rest =>
                      obtain ⟨T, rfl, rfl, t0, t1, bel⟩ := hcut
                      clear hS
                      obtain ⟨wJ, hw_⟩ : ∃ q, q = wc := ⟨_, rfl⟩
                      subst hw_
                      have k11_0 := cell_later bel k10_0
                      have k11_1 := cell_later bel k10_1
                      have k11_2 := cell_later bel k10_2
                      have k11_3 := cell_later bel k10_3
                      have k11_4 := cell_later bel k10_4
                      have k11_5 := cell_later bel k10_5
                      have k11_6 := cell_later bel k10_6
                      have k11_7 := cell_later bel k10_7
                      have k11_8 := cell_later bel k10_8
                      have k11_9 := cell_later bel k10_9
                      have k11_10 := cell_later bel k10_10
                      have k11_11 := cell_later bel k10_11
                      have k11_12 := cell_later bel k10_12
                      have k11_13 := cell_later bel k10_13
                      have k11_14 := cell_later bel k10_14
                      have k11_15 := cell_later bel k10_15
                      have k11_16 := cell_later bel k10_16
                      have k11_17 := cell_later bel n10_0
                      have k11_18 := cell_later bel n10_1
                      have R11_0 := Lib.hid (R10_0.out.later bel)
                      have R11_1 := Lib.hid (R10_1.out.later bel)
                      have R11_2 := Lib.hid (R10_2.out.later bel)
                      have R11_3 := Lib.hid (R10_3.out.later bel)
                      have B11 : Hid (Below w.heap.size w wJ) := Lib.hid (below_then B10.out bel)
                      clear k10_0 k10_1 k10_2 k10_3 k10_4 k10_5 k10_6 k10_7 k10_8 k10_9 k10_10 k10_11 k10_12 k10_13 k10_14 k10_15 k10_16 n10_0 n10_1 R10_0 R10_1 R10_2 R10_3 B10
                      have z11_0 := World.block_lt_of_cell? _ _ k11_0
                      dsimp only at z11_0
                      have z11_6 := World.block_lt_of_cell? _ _ k11_6
                      dsimp only at z11_6
                      have z11_8 := World.block_lt_of_cell? _ _ k11_8
                      dsimp only at z11_8
                      have z11_11 := World.block_lt_of_cell? _ _ k11_11
                      dsimp only at z11_11
                      have z11_13 := World.block_lt_of_cell? _ _ k11_13
                      dsimp only at z11_13
                      have z11_15 := World.block_lt_of_cell? _ _ k11_15
                      dsimp only at z11_15
                      have z11_17 := World.block_lt_of_cell? _ _ k11_17
                      dsimp only at z11_17
                      clear bel
                      go_wp2_with fail
                      refine (HSM.out _ _ _ _ _ R11_3.out R11_2.out).mono ?_
                      rintro e_ wK ⟨rfl, hb⟩
                      have k12_0 := cell_later hb k11_0
                      have k12_1 := cell_later hb k11_1
                      have k12_2 := cell_later hb k11_2
                      have k12_3 := cell_later hb k11_3
                      have k12_4 := cell_later hb k11_4
                      have k12_5 := cell_later hb k11_5
                      have k12_6 := cell_later hb k11_6
                      have k12_7 := cell_later hb k11_7
                      have k12_8 := cell_later hb k11_8
                      have k12_9 := cell_later hb k11_9
                      have k12_10 := cell_later hb k11_10
                      have k12_11 := cell_later hb k11_11
                      have k12_12 := cell_later hb k11_12
                      have k12_13 := cell_later hb k11_13
                      have k12_14 := cell_later hb k11_14
                      have k12_15 := cell_later hb k11_15
                      have k12_16 := cell_later hb k11_16
                      have k12_17 := cell_later hb k11_17
                      have k12_18 := cell_later hb k11_18
                      have k12_19 := cell_later hb t0
                      have k12_20 := cell_later hb t1
                      have R12_0 := Lib.hid (R11_0.out.later hb)
                      have R12_1 := Lib.hid (R11_1.out.later hb)
                      have R12_2 := Lib.hid (R11_2.out.later hb)
                      have R12_3 := Lib.hid (R11_3.out.later hb)
                      have B12 : Hid (Below w.heap.size w wK) := Lib.hid (below_then B11.out hb)
                      clear k11_0 k11_1 k11_2 k11_3 k11_4 k11_5 k11_6 k11_7 k11_8 k11_9 k11_10 k11_11 k11_12 k11_13 k11_14 k11_15 k11_16 k11_17 k11_18 t0 t1 R11_0 R11_1 R11_2 R11_3 B11
                      have z12_0 := World.block_lt_of_cell? _ _ k12_0
                      dsimp only at z12_0
                      have z12_6 := World.block_lt_of_cell? _ _ k12_6
                      dsimp only at z12_6
                      have z12_8 := World.block_lt_of_cell? _ _ k12_8
                      dsimp only at z12_8
                      have z12_11 := World.block_lt_of_cell? _ _ k12_11
                      dsimp only at z12_11
                      have z12_13 := World.block_lt_of_cell? _ _ k12_13
                      dsimp only at z12_13
                      have z12_15 := World.block_lt_of_cell? _ _ k12_15
                      dsimp only at z12_15
                      have z12_17 := World.block_lt_of_cell? _ _ k12_17
                      dsimp only at z12_17
                      have z12_19 := World.block_lt_of_cell? _ _ k12_19
                      dsimp only at z12_19
                      clear hb
                      go_wp2
                      go_ret
                      exact ⟨by simp, B12.out⟩
          · have n0 : (a.SE d f != 0) = true := by simpa using hs
            obtain ⟨z0, z1⟩ := MZ.out hs
            rw [z0] at p0
            rw [z1] at p1
            clear hs MZ MD ME MA MN z0 z1
            go_wp2
            go_ret
            exact ⟨by simp, B2.out⟩
      · have FX : Hid (inB x 0 100000 = false) := Lib.hid (by simpa using h3)
        clear h1 h2 h3 hA hB
        go_enter Tryz.func5, Tryz.ntmps5
        go_wp2_with fail
        refine (AWK.out _ (LH.out.later (by repeat (first | exact Below.refl _ _ | refine Below.drew ?_ | refine below_drewN ?_ _ | refine Below.setCell ?_ (by first | omega | (simp; done) | (simp; omega)) _ | refine Below.alloc ?_ (by first | omega | (simp; done) | (simp; omega)) _)))).mono ?_
        rintro e w1 ⟨rfl, hb1⟩
        have qw10 : w1.cell? ⟨w.heap.size, 0, none⟩ = some (.slice A a.n c) := cell_later hb1 (by simp [go_sem])
        have qw11 : w1.cell? ⟨w.heap.size, 1, none⟩ = some (.int .i64 a.m.wd) := cell_later hb1 (by simp [go_sem])
        have qw12 : w1.cell? ⟨w.heap.size, 2, none⟩ = some (.int .i64 a.m.mt) := cell_later hb1 (by simp [go_sem])
        have qw13 : w1.cell? ⟨w.heap.size, 3, none⟩ = some (.int .i64 a.m.sk) := cell_later hb1 (by simp [go_sem])
        have qw14 : w1.cell? ⟨w.heap.size, 4, none⟩ = some (.int .i64 a.m.th) := cell_later hb1 (by simp [go_sem])
        have qw15 : w1.cell? ⟨w.heap.size, 5, none⟩ = some (.int .i64 a.ck) := cell_later hb1 (by simp [go_sem])
        have qw16 : w1.cell? ⟨w.heap.size + 1, 0, none⟩ = some (.int .i64 d.ck) := cell_later hb1 (by simp [go_sem])
        have qw17 : w1.cell? ⟨w.heap.size + 1, 1, none⟩ = some (.slice B d.n e) := cell_later hb1 (by simp [go_sem])
        have qw18 : w1.cell? ⟨w.heap.size + 1 + 1, 0, none⟩ = some (.int .i64 x) := cell_later hb1 (by simp [go_sem])
        have qw19 : w1.cell? ⟨w.heap.size + 1 + 1, 1, none⟩ = some (.int .i64 f.x) := cell_later hb1 (by simp [go_sem])
        have qw110 : w1.cell? ⟨w.heap.size + 1 + 1, 2, none⟩ = some (.int .i64 f.z) := cell_later hb1 (by simp [go_sem])
        have zqw1_0 := World.block_lt_of_cell? _ _ qw10
        dsimp only at zqw1_0
        have zqw1_6 := World.block_lt_of_cell? _ _ qw16
        dsimp only at zqw1_6
        have zqw1_8 := World.block_lt_of_cell? _ _ qw18
        dsimp only at zqw1_8
        have H1 : Hid (Below w.heap.size w w1) := Lib.hid (below_after (by repeat (first | exact Below.refl _ _ | refine Below.drew ?_ | refine below_drewN ?_ _ | refine Below.setCell ?_ (by first | omega | (simp; done) | (simp; omega)) _ | refine Below.alloc ?_ (by first | omega | (simp; done) | (simp; omega)) _)) hb1 (by first | omega | (simp; done) | (simp; omega))); clear hb1
        go_wp2_with (first | (go_at_call 25; (with_reducible refine (few_any _ _).mono ?_); (first | rw [FA.out] | rw [FD.out]); rintro e w' ⟨rfl, rfl⟩) | (go_at_call 14; (with_reducible refine (bwithin_any _ _ _ _).mono ?_); rw [FX.out]; rintro e w' ⟨rfl, rfl⟩))
        go_ret
        exact ⟨rfl, H1.out⟩
    · have FD : Hid (decide ((d.n : Int) ≤ 18) = false) := Lib.hid (by simp; omega)
      clear h1 h2 hA hB
      go_enter Tryz.func5, Tryz.ntmps5
      go_wp2_with fail
      refine (AWK.out _ (LH.out.later (by repeat (first | exact Below.refl _ _ | refine Below.drew ?_ | refine below_drewN ?_ _ | refine Below.setCell ?_ (by first | omega | (simp; done) | (simp; omega)) _ | refine Below.alloc ?_ (by first | omega | (simp; done) | (simp; omega)) _)))).mono ?_
      rintro e w1 ⟨rfl, hb1⟩
      have qw10 : w1.cell? ⟨w.heap.size, 0, none⟩ = some (.slice A a.n c) := cell_later hb1 (by simp [go_sem])
      have qw11 : w1.cell? ⟨w.heap.size, 1, none⟩ = some (.int .i64 a.m.wd) := cell_later hb1 (by simp [go_sem])
      have qw12 : w1.cell? ⟨w.heap.size, 2, none⟩ = some (.int .i64 a.m.mt) := cell_later hb1 (by simp [go_sem])
      have qw13 : w1.cell? ⟨w.heap.size, 3, none⟩ = some (.int .i64 a.m.sk) := cell_later hb1 (by simp [go_sem])
      have qw14 : w1.cell? ⟨w.heap.size, 4, none⟩ = some (.int .i64 a.m.th) := cell_later hb1 (by simp [go_sem])
      have qw15 : w1.cell? ⟨w.heap.size, 5, none⟩ = some (.int .i64 a.ck) := cell_later hb1 (by simp [go_sem])
      have qw16 : w1.cell? ⟨w.heap.size + 1, 0, none⟩ = some (.int .i64 d.ck) := cell_later hb1 (by simp [go_sem])
      have qw17 : w1.cell? ⟨w.heap.size + 1, 1, none⟩ = some (.slice B d.n e) := cell_later hb1 (by simp [go_sem])
      have qw18 : w1.cell? ⟨w.heap.size + 1 + 1, 0, none⟩ = some (.int .i64 x) := cell_later hb1 (by simp [go_sem])
      have qw19 : w1.cell? ⟨w.heap.size + 1 + 1, 1, none⟩ = some (.int .i64 f.x) := cell_later hb1 (by simp [go_sem])
      have qw110 : w1.cell? ⟨w.heap.size + 1 + 1, 2, none⟩ = some (.int .i64 f.z) := cell_later hb1 (by simp [go_sem])
      have zqw1_0 := World.block_lt_of_cell? _ _ qw10
      dsimp only at zqw1_0
      have zqw1_6 := World.block_lt_of_cell? _ _ qw16
      dsimp only at zqw1_6
      have zqw1_8 := World.block_lt_of_cell? _ _ qw18
      dsimp only at zqw1_8
      have H1 : Hid (Below w.heap.size w w1) := Lib.hid (below_after (by repeat (first | exact Below.refl _ _ | refine Below.drew ?_ | refine below_drewN ?_ _ | refine Below.setCell ?_ (by first | omega | (simp; done) | (simp; omega)) _ | refine Below.alloc ?_ (by first | omega | (simp; done) | (simp; omega)) _)) hb1 (by first | omega | (simp; done) | (simp; omega))); clear hb1
      go_wp2_with (go_at_call 25; (with_reducible refine (few_any _ _).mono ?_); (first | rw [FA.out] | rw [FD.out]); rintro e w' ⟨rfl, rfl⟩)
      go_ret
      exact ⟨rfl, H1.out⟩
  · have FA : Hid (decide ((a.n : Int) ≤ 18) = false) := Lib.hid (by simp; omega)
    clear h1 hA hB
    go_enter Tryz.func5, Tryz.ntmps5
    go_wp2_with fail
    refine (AWK.out _ (LH.out.later (by repeat (first | exact Below.refl _ _ | refine Below.drew ?_ | refine below_drewN ?_ _ | refine Below.setCell ?_ (by first | omega | (simp; done) | (simp; omega)) _ | refine Below.alloc ?_ (by first | omega | (simp; done) | (simp; omega)) _)))).mono ?_
    rintro e w1 ⟨rfl, hb1⟩
    have qw10 : w1.cell? ⟨w.heap.size, 0, none⟩ = some (.slice A a.n c) := cell_later hb1 (by simp [go_sem])
    have qw11 : w1.cell? ⟨w.heap.size, 1, none⟩ = some (.int .i64 a.m.wd) := cell_later hb1 (by simp [go_sem])
    have qw12 : w1.cell? ⟨w.heap.size, 2, none⟩ = some (.int .i64 a.m.mt) := cell_later hb1 (by simp [go_sem])
    have qw13 : w1.cell? ⟨w.heap.size, 3, none⟩ = some (.int .i64 a.m.sk) := cell_later hb1 (by simp [go_sem])
    have qw14 : w1.cell? ⟨w.heap.size, 4, none⟩ = some (.int .i64 a.m.th) := cell_later hb1 (by simp [go_sem])
    have qw15 : w1.cell? ⟨w.heap.size, 5, none⟩ = some (.int .i64 a.ck) := cell_later hb1 (by simp [go_sem])
    have qw16 : w1.cell? ⟨w.heap.size + 1, 0, none⟩ = some (.int .i64 d.ck) := cell_later hb1 (by simp [go_sem])
    have qw17 : w1.cell? ⟨w.heap.size + 1, 1, none⟩ = some (.slice B d.n e) := cell_later hb1 (by simp [go_sem])
    have qw18 : w1.cell? ⟨w.heap.size + 1 + 1, 0, none⟩ = some (.int .i64 x) := cell_later hb1 (by simp [go_sem])
    have qw19 : w1.cell? ⟨w.heap.size + 1 + 1, 1, none⟩ = some (.int .i64 f.x) := cell_later hb1 (by simp [go_sem])
    have qw110 : w1.cell? ⟨w.heap.size + 1 + 1, 2, none⟩ = some (.int .i64 f.z) := cell_later hb1 (by simp [go_sem])
    have zqw1_0 := World.block_lt_of_cell? _ _ qw10
    dsimp only at zqw1_0
    have zqw1_6 := World.block_lt_of_cell? _ _ qw16
    dsimp only at zqw1_6
    have zqw1_8 := World.block_lt_of_cell? _ _ qw18
    dsimp only at zqw1_8
    have H1 : Hid (Below w.heap.size w w1) := Lib.hid (below_after (by repeat (first | exact Below.refl _ _ | refine Below.drew ?_ | refine below_drewN ?_ _ | refine Below.setCell ?_ (by first | omega | (simp; done) | (simp; omega)) _ | refine Below.alloc ?_ (by first | omega | (simp; done) | (simp; omega)) _)) hb1 (by first | omega | (simp; done) | (simp; omega))); clear hb1
    go_wp2_with (go_at_call 25; (with_reducible refine (few_any _ _).mono ?_); (first | rw [FA.out]); rintro e w' ⟨rfl, rfl⟩)
    go_ret
    exact ⟨rfl, H1.out⟩
end Go.Proofs.YtnhbmmpjifliaaaGreatDoor
