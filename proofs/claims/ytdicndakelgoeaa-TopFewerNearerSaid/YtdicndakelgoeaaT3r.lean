/- TopFewerNearer: the walk -/
import Derived.Test.YtdicndakelgoeaaV22
namespace Go.Proofs.Ytdicndakelgoeaa
open Go.RowKit Go.Shelf RayM
set_option linter.unusedSimpArgs false
set_option linter.unusedVariables false
attribute [local irreducible] apLo apHi apE apM nfE nfLo nfHi woC
set_option maxRecDepth 100000 in
set_option maxHeartbeats 6000000 in
theorem tfn_any (a : La) (d : Dl) (dd : Nat → Int) (nd : Nat) (sp kh : Int) (A : Option Addr) (c : Nat) (B : Option Addr) (e : Nat) (C : Option Addr) (g0 : Nat) (w : World) (hA : A = none → a.n = 0 ∧ c = 0) (hB : B = none → d.n = 0 ∧ e = 0) (hC : C = none → nd = 0 ∧ g0 = 0) (h : SpAt A a.n a.p w) (g : InAt B d.n d.t w) (k : InAt C nd dd w) (hn : a.n ≤ 18) (hd : d.n ≤ 18) (hc : nd ≤ 16) :
    Calls Try.prog 21 #[.agg #[.slice A a.n c, .int .i64 a.m.wd, .int .i64 a.m.mt, .int .i64 a.m.sk, .int .i64 a.m.th, .int .i64 a.ck], .agg #[.int .i64 d.ck, .slice B d.n e], .agg #[.slice C nd g0, .int .i64 sp, .int .i64 kh]] w fun e w' => e = .returned (.bool true) ∧ Below w.heap.size w w' := by
  have HX := Lib.hid h; clear h
  have HT := Lib.hid g; clear g
  have HD := Lib.hid k; clear k
  have HCA : Hid (∀ w', SpAt A a.n a.p w' → Calls Try.prog 80 #[.agg #[.slice A a.n c, .int .i64 a.m.wd, .int .i64 a.m.mt, .int .i64 a.m.sk, .int .i64 a.m.th, .int .i64 a.ck]] w' fun e w'' => ∃ A1 c1, e = .returned (.agg #[.slice A1 a.n c1, .int .i64 a.m.wd, .int .i64 a.m.mt, .int .i64 a.m.sk, .int .i64 a.m.th, .int .i64 a.ck]) ∧ SpAt A1 a.n a.p w'' ∧ Below w'.heap.size w' w'') := Lib.hid (fun w' h => (copyArray_any a A c w' (by omega) hA h).mono (fun e w'' ⟨v, e1, ho, hb⟩ => by
    obtain ⟨A1, c1, rfl, _, hs⟩ := own_spots ho
    exact ⟨A1, c1, e1, hs, hb⟩))
  have HCL : Hid (∀ w', InAt B d.n d.t w' → Calls Try.prog 81 #[.agg #[.int .i64 d.ck, .slice B d.n e]] w' fun e_ w'' => ∃ A1 c1, e_ = .returned (.agg #[.int .i64 d.ck, .slice A1 d.n c1]) ∧ InAt A1 d.n d.t w'' ∧ Below w'.heap.size w' w'') := Lib.hid (fun w' h => (copyLaw_any d B e w' (by omega) hB h).mono (fun e w'' ⟨v, e1, ho, hb⟩ => by
    obtain ⟨A1, c1, rfl, hz, hs⟩ := own_ints2 ho
    exact ⟨A1, c1, e1, hs, hb⟩))
  have HCI : Hid (∀ w', InAt C nd dd w' → Calls Try.prog 87 #[.slice C nd g0] w' fun e_ w'' => ∃ A1 c1, e_ = .returned (.slice A1 nd c1) ∧ InAt A1 nd dd w'' ∧ Below w'.heap.size w' w'') := Lib.hid (fun w' h => (copyInts_any C nd g0 dd w' (by omega) hC h).mono (fun e w'' ⟨v, e1, ho, hb⟩ => by
    obtain ⟨A1, c1, rfl, hz, hs⟩ := own_ints2 ho
    exact ⟨A1, c1, e1, hs, hb⟩))
  have HAP := Lib.hid (fun A1 c1 B1 e1 w' h g => aperture_any a d A1 c1 B1 e1 w' h g (by omega) (by omega))
  have HWO : Hid (∀ A1 c1 B1 e1 w', InAt A1 d.n d.t w' → InAt B1 nd dd w' → Calls Try.prog 86 #[.agg #[.int .i64 d.ck, .slice A1 d.n c1], .slice B1 nd e1] w' fun e_ w'' => ∃ (x : Int) (A3 : Option Addr) (n3 c3 : Nat), e_ = .returned (.tuple #[.agg #[.int .i64 x, .slice A3 n3 c3], .int .i64 (woE d dd nd)]) ∧ (woE d dd nd = 0 → x = d.ck ∧ n3 = d.n ∧ A3 ≠ none ∧ InAt A3 d.n (woC d.t dd nd) w'') ∧ (woE d dd nd = 0 → ∀ a, A3 = some a → w'.heap.size ≤ a.block) ∧ (woE d dd nd = 0 → ∀ a, A3 = some a → a.block < w''.heap.size) ∧ Below w'.heap.size w' w'') := Lib.hid (fun A1 c1 B1 e1 w' h g => (without_any d dd nd A1 c1 B1 e1 w' h g (by omega) hc).mono (fun e_ w'' ⟨x, A3, n3, c3, e1, hg, hb⟩ => by
    refine ⟨x, A3, n3, c3, e1, fun q => ?_, fun q a ha => ?_, fun q a ha => ?_, hb⟩
    · obtain ⟨q1, q2, ⟨g, q3, _⟩, q4⟩ := hg q
      exact ⟨q1, q2, by rw [q3]; simp, q4⟩
    · obtain ⟨q1, q2, ⟨g, q3, q5, _⟩, q4⟩ := hg q
      rw [q3] at ha; cases ha; exact q5
    · obtain ⟨q1, q2, ⟨g, q3, _, q5⟩, q4⟩ := hg q
      rw [q3] at ha; cases ha; exact q5))
  have d1 : decide ((18 : Int) < (a.n : Int)) = false := by simp; omega
  have d2 : decide ((18 : Int) < (d.n : Int)) = false := by simp; omega
  have d3 : decide ((16 : Int) < (nd : Int)) = false := by simp; omega
  go_enter Try.func21, Try.ntmps21
  go_wp2_with fail
  refine (lawed_any _).mono ?_
  rintro e w1 ⟨rfl, hb1⟩
  have qw10 : w1.cell? ⟨w.heap.size, 0, none⟩ = some (.slice A a.n c) := cell_later hb1 (by simp [go_sem])
  have qw11 : w1.cell? ⟨w.heap.size, 1, none⟩ = some (.int .i64 a.m.wd) := cell_later hb1 (by simp [go_sem])
  have qw12 : w1.cell? ⟨w.heap.size, 2, none⟩ = some (.int .i64 a.m.mt) := cell_later hb1 (by simp [go_sem])
  have qw13 : w1.cell? ⟨w.heap.size, 3, none⟩ = some (.int .i64 a.m.sk) := cell_later hb1 (by simp [go_sem])
  have qw14 : w1.cell? ⟨w.heap.size, 4, none⟩ = some (.int .i64 a.m.th) := cell_later hb1 (by simp [go_sem])
  have qw15 : w1.cell? ⟨w.heap.size, 5, none⟩ = some (.int .i64 a.ck) := cell_later hb1 (by simp [go_sem])
  have qw16 : w1.cell? ⟨w.heap.size + 1, 0, none⟩ = some (.int .i64 d.ck) := cell_later hb1 (by simp [go_sem])
  have qw17 : w1.cell? ⟨w.heap.size + 1, 1, none⟩ = some (.slice B d.n e) := cell_later hb1 (by simp [go_sem])
  have qw18 : w1.cell? ⟨w.heap.size + 1 + 1, 0, none⟩ = some (.slice C nd g0) := cell_later hb1 (by simp [go_sem])
  have qw19 : w1.cell? ⟨w.heap.size + 1 + 1, 1, none⟩ = some (.int .i64 sp) := cell_later hb1 (by simp [go_sem])
  have qw110 : w1.cell? ⟨w.heap.size + 1 + 1, 2, none⟩ = some (.int .i64 kh) := cell_later hb1 (by simp [go_sem])
  have zqw1_0 := World.block_lt_of_cell? _ _ qw10
  dsimp only at zqw1_0
  have zqw1_6 := World.block_lt_of_cell? _ _ qw16
  dsimp only at zqw1_6
  have zqw1_8 := World.block_lt_of_cell? _ _ qw18
  dsimp only at zqw1_8
  have H1 : Hid (Below w.heap.size w w1) := Lib.hid (below_after (by repeat (first | exact Below.refl _ _ | refine Below.drew ?_ | refine below_drewN ?_ _ | refine Below.setCell ?_ (by first | omega | (simp; done) | (simp; omega)) _ | refine Below.alloc ?_ (by first | omega | (simp; done) | (simp; omega)) _)) hb1 (by first | omega | (simp; done) | (simp; omega))); clear hb1
  go_upto_region 5 with fail
  have hS : Below w.heap.size w w1 := H1.out
  go_cut [7, 8] (fun s7 s8 wx => ∃ P : Nat, s7 = .pointer (some ⟨P, 0, none⟩) ∧ s8 = .int .i64 (apE a d) ∧ wx.cell? ⟨P, 0, none⟩ = some (.int .i64 (apLo a d)) ∧ wx.cell? ⟨P, 1, none⟩ = some (.int .i64 (apHi a d)) ∧ wx.cell? ⟨w.heap.size, 0, none⟩ = some (.slice A a.n c) ∧ wx.cell? ⟨w.heap.size, 1, none⟩ = some (.int .i64 a.m.wd) ∧ wx.cell? ⟨w.heap.size, 2, none⟩ = some (.int .i64 a.m.mt) ∧ wx.cell? ⟨w.heap.size, 3, none⟩ = some (.int .i64 a.m.sk) ∧ wx.cell? ⟨w.heap.size, 4, none⟩ = some (.int .i64 a.m.th) ∧ wx.cell? ⟨w.heap.size, 5, none⟩ = some (.int .i64 a.ck) ∧ wx.cell? ⟨w.heap.size + 1, 0, none⟩ = some (.int .i64 d.ck) ∧ wx.cell? ⟨w.heap.size + 1, 1, none⟩ = some (.slice B d.n e) ∧ wx.cell? ⟨w.heap.size + 1 + 1, 0, none⟩ = some (.slice C nd g0) ∧ wx.cell? ⟨w.heap.size + 1 + 1, 1, none⟩ = some (.int .i64 sp) ∧ wx.cell? ⟨w.heap.size + 1 + 1, 2, none⟩ = some (.int .i64 kh) ∧ Below w.heap.size w wx)
  case first =>
    as_aux_lemma =>
      go_region_held3 (fun w' => w'.cell? ⟨w.heap.size, 0, none⟩ = some (.slice A a.n c) ∧ w'.cell? ⟨w.heap.size, 1, none⟩ = some (.int .i64 a.m.wd) ∧ w'.cell? ⟨w.heap.size, 2, none⟩ = some (.int .i64 a.m.mt) ∧ w'.cell? ⟨w.heap.size, 3, none⟩ = some (.int .i64 a.m.sk) ∧ w'.cell? ⟨w.heap.size, 4, none⟩ = some (.int .i64 a.m.th) ∧ w'.cell? ⟨w.heap.size, 5, none⟩ = some (.int .i64 a.ck) ∧ w'.cell? ⟨w.heap.size + 1, 0, none⟩ = some (.int .i64 d.ck) ∧ w'.cell? ⟨w.heap.size + 1, 1, none⟩ = some (.slice B d.n e) ∧ w'.cell? ⟨w.heap.size + 1 + 1, 0, none⟩ = some (.slice C nd g0) ∧ w'.cell? ⟨w.heap.size + 1 + 1, 1, none⟩ = some (.int .i64 sp) ∧ w'.cell? ⟨w.heap.size + 1 + 1, 2, none⟩ = some (.int .i64 kh) ∧ Below w.heap.size w w') (((go_split_ands; (repeat' apply And.intro) <;> ((repeat (first | (with_reducible assumption) | (with_reducible exact Below.refl _ _) | (with_reducible refine cell_alloc_later ?_ _) | (with_reducible refine cell_drewA ?_) | (with_reducible refine cellA (by with_reducible assumption) ?_) | (with_reducible refine belowA ?_ (by with_reducible assumption)) | (with_reducible refine below_alloc_top ?_ _) | (with_reducible refine Below.drew ?_) | (with_reducible refine cell_set_old ?_ (by with_reducible assumption)) | (with_reducible refine below_set_old ?_ (by with_reducible assumption)) | (with_reducible refine Below.setCell ?_ (by first | omega | (simp; done) | (simp; omega)) _) | (simp [go_sem, World.cell?_alloc_past, *]; done))); done))))
        (first
          | (go_split_ands; go_at_call 80; (with_reducible refine (HCA.out _ (HX.out.later (by with_reducible assumption))).mono ?_); rintro e w' ⟨A1, c1, rfl, hs, hb⟩; have hbA : BelA _ w' := hb; obtain ⟨hc', hf'⟩ := bcell hb; have hz' := hb.size; (try simp at hz'); (first | (have tF' := Nat.lt_of_succ_le hz') | (have tF' := Nat.lt_of_lt_of_le tF' hz') | skip); clear hb)
          | (go_split_ands; go_at_call 81; (with_reducible refine (HCL.out _ (HT.out.later (by with_reducible assumption))).mono ?_); rintro e w' ⟨A2, c2, rfl, hi, hb⟩; have hbA : BelA _ w' := hb; obtain ⟨hc', hf'⟩ := bcell hb; have hz' := hb.size; (try simp at hz'); (first | (have tF' := Nat.lt_of_succ_le hz') | (have tF' := Nat.lt_of_lt_of_le tF' hz') | skip); clear hb)
          | (go_split_ands; go_at_call 85; (with_reducible refine (HAP.out _ _ _ _ _ (by repeat (first | (with_reducible assumption) | (with_reducible refine SpAt.laterA (by with_reducible assumption) ?_) | (with_reducible refine SpAt.alloc ?_ _) | (with_reducible refine SpAt.drew ?_))) (by repeat (first | (with_reducible assumption) | (with_reducible refine InAt.laterA (by with_reducible assumption) ?_) | (with_reducible refine InAt.alloc ?_ _) | (with_reducible refine InAt.drew ?_)))).mono ?_); rintro e w' ⟨rfl, hb⟩; have hbA : BelA _ w' := hb; obtain ⟨hc', hf'⟩ := bcell hb; have hz' := hb.size; (try simp at hz'); (first | (have tF' := Nat.lt_of_succ_le hz') | (have tF' := Nat.lt_of_lt_of_le tF' hz') | skip); clear hb))
      all_goals
        go_split_ands
        go_wp2_with fail
        go_meet
        exact ⟨_, rfl, rfl, (by first | (with_reducible assumption) | (simp [go_sem, World.cell?_alloc_past, *]; done)), (by first | (with_reducible assumption) | (simp [go_sem, World.cell?_alloc_past, *]; done)), (by first | (with_reducible assumption) | (simp [go_sem, World.cell?_alloc_past, *]; done)), (by first | (with_reducible assumption) | (simp [go_sem, World.cell?_alloc_past, *]; done)), (by first | (with_reducible assumption) | (simp [go_sem, World.cell?_alloc_past, *]; done)), (by first | (with_reducible assumption) | (simp [go_sem, World.cell?_alloc_past, *]; done)), (by first | (with_reducible assumption) | (simp [go_sem, World.cell?_alloc_past, *]; done)), (by first | (with_reducible assumption) | (simp [go_sem, World.cell?_alloc_past, *]; done)), (by first | (with_reducible assumption) | (simp [go_sem, World.cell?_alloc_past, *]; done)), (by first | (with_reducible assumption) | (simp [go_sem, World.cell?_alloc_past, *]; done)), (by first | (with_reducible assumption) | (simp [go_sem, World.cell?_alloc_past, *]; done)), (by first | (with_reducible assumption) | (simp [go_sem, World.cell?_alloc_past, *]; done)), (by first | (with_reducible assumption) | (simp [go_sem, World.cell?_alloc_past, *]; done)), (by first | (with_reducible assumption) | (simp [go_sem, World.cell?_alloc_past, *]; done))⟩
  case rest =>
    obtain ⟨P, rfl, rfl, p0, p1, r0, r1, r2, r3, r4, r5, r6, r7, r8, r9, r10, bel⟩ := hcut
    clear hS H1 qw10 qw11 qw12 qw13 qw14 qw15 qw16 qw17 qw18 qw19 qw110 zqw1_0 zqw1_6 zqw1_8
    have zr0 := World.block_lt_of_cell? _ _ r0
    have zr1 := World.block_lt_of_cell? _ _ r6
    have zr2 := World.block_lt_of_cell? _ _ r8
    have zp := World.block_lt_of_cell? _ _ p0
    dsimp only at zr0 zr1 zr2 zp
    go_upto_region 6 with fail
    go_cut [9, 10] (fun s9 s10 wx => ∃ (Q : Nat) (x : Int) (A3 : Option Addr) (n3 c3 : Nat), s9 = .pointer (some ⟨Q, 0, none⟩) ∧ s10 = .int .i64 (woE d dd nd) ∧ wx.cell? ⟨Q, 0, none⟩ = some (.int .i64 x) ∧ wx.cell? ⟨Q, 1, none⟩ = some (.slice A3 n3 c3) ∧ (woE d dd nd = 0 → x = d.ck ∧ n3 = d.n ∧ A3 ≠ none ∧ InAt A3 d.n (woC d.t dd nd) wx) ∧ wx.cell? ⟨w.heap.size, 0, none⟩ = some (.slice A a.n c) ∧ wx.cell? ⟨w.heap.size, 1, none⟩ = some (.int .i64 a.m.wd) ∧ wx.cell? ⟨w.heap.size, 2, none⟩ = some (.int .i64 a.m.mt) ∧ wx.cell? ⟨w.heap.size, 3, none⟩ = some (.int .i64 a.m.sk) ∧ wx.cell? ⟨w.heap.size, 4, none⟩ = some (.int .i64 a.m.th) ∧ wx.cell? ⟨w.heap.size, 5, none⟩ = some (.int .i64 a.ck) ∧ wx.cell? ⟨w.heap.size + 1, 0, none⟩ = some (.int .i64 d.ck) ∧ wx.cell? ⟨w.heap.size + 1, 1, none⟩ = some (.slice B d.n e) ∧ wx.cell? ⟨w.heap.size + 1 + 1, 0, none⟩ = some (.slice C nd g0) ∧ wx.cell? ⟨w.heap.size + 1 + 1, 1, none⟩ = some (.int .i64 sp) ∧ wx.cell? ⟨w.heap.size + 1 + 1, 2, none⟩ = some (.int .i64 kh) ∧ wx.cell? ⟨P, 0, none⟩ = some (.int .i64 (apLo a d)) ∧ wx.cell? ⟨P, 1, none⟩ = some (.int .i64 (apHi a d)) ∧ Below w.heap.size w wx)
    case first =>
      as_aux_lemma =>
        go_region_held3 (fun w' => w'.cell? ⟨w.heap.size, 0, none⟩ = some (.slice A a.n c) ∧ w'.cell? ⟨w.heap.size, 1, none⟩ = some (.int .i64 a.m.wd) ∧ w'.cell? ⟨w.heap.size, 2, none⟩ = some (.int .i64 a.m.mt) ∧ w'.cell? ⟨w.heap.size, 3, none⟩ = some (.int .i64 a.m.sk) ∧ w'.cell? ⟨w.heap.size, 4, none⟩ = some (.int .i64 a.m.th) ∧ w'.cell? ⟨w.heap.size, 5, none⟩ = some (.int .i64 a.ck) ∧ w'.cell? ⟨w.heap.size + 1, 0, none⟩ = some (.int .i64 d.ck) ∧ w'.cell? ⟨w.heap.size + 1, 1, none⟩ = some (.slice B d.n e) ∧ w'.cell? ⟨w.heap.size + 1 + 1, 0, none⟩ = some (.slice C nd g0) ∧ w'.cell? ⟨w.heap.size + 1 + 1, 1, none⟩ = some (.int .i64 sp) ∧ w'.cell? ⟨w.heap.size + 1 + 1, 2, none⟩ = some (.int .i64 kh) ∧ w'.cell? ⟨P, 0, none⟩ = some (.int .i64 (apLo a d)) ∧ w'.cell? ⟨P, 1, none⟩ = some (.int .i64 (apHi a d)) ∧ Below w.heap.size w w') (((go_split_ands; (repeat' apply And.intro) <;> ((repeat (first | (with_reducible assumption) | (with_reducible exact Below.refl _ _) | (with_reducible refine cell_alloc_later ?_ _) | (with_reducible refine cell_drewA ?_) | (with_reducible refine cellA (by with_reducible assumption) ?_) | (with_reducible refine belowA ?_ (by with_reducible assumption)) | (with_reducible refine below_alloc_top ?_ _) | (with_reducible refine Below.drew ?_) | (with_reducible refine cell_set_old ?_ (by with_reducible assumption)) | (with_reducible refine below_set_old ?_ (by with_reducible assumption)) | (with_reducible refine Below.setCell ?_ (by first | omega | (simp; done) | (simp; omega)) _) | (simp [go_sem, World.cell?_alloc_past, *]; done))); done))))
          (first
            | (go_split_ands; go_at_call 81; (with_reducible refine (HCL.out _ (HT.out.later (by with_reducible assumption))).mono ?_); rintro e w' ⟨A2, c2, rfl, hi, hb⟩; have hbA : BelA _ w' := hb; obtain ⟨hc', hf'⟩ := bcell hb; have hz' := hb.size; (try simp at hz'); (first | (have tF' := Nat.lt_of_succ_le hz') | (have tF' := Nat.lt_of_lt_of_le tF' hz') | skip); clear hb)
            | (go_split_ands; go_at_call 87; (with_reducible refine (HCI.out _ (HD.out.later (by with_reducible assumption))).mono ?_); rintro e w' ⟨A4, c4, rfl, hj, hb⟩; have hbA : BelA _ w' := hb; obtain ⟨hc', hf'⟩ := bcell hb; have hz' := hb.size; (try simp at hz'); (first | (have tF' := Nat.lt_of_succ_le hz') | (have tF' := Nat.lt_of_lt_of_le tF' hz') | skip); clear hb)
            | (go_split_ands; go_at_call 86; (with_reducible refine (HWO.out _ _ _ _ _ (by repeat (first | (with_reducible assumption) | (with_reducible refine InAt.laterA (by with_reducible assumption) ?_) | (with_reducible refine InAt.alloc ?_ _) | (with_reducible refine InAt.drew ?_))) (by repeat (first | (with_reducible assumption) | (with_reducible refine InAt.laterA (by with_reducible assumption) ?_) | (with_reducible refine InAt.alloc ?_ _) | (with_reducible refine InAt.drew ?_)))).mono ?_); rintro e w' ⟨x3, A3, n3, c3, rfl, hg3, hB3, hL3, hb⟩; have hbA : BelA _ w' := hb; obtain ⟨hc', hf'⟩ := bcell hb; have hz' := hb.size; (try simp at hz'); (first | (have tF' := Nat.lt_of_succ_le hz') | (have tF' := Nat.lt_of_lt_of_le tF' hz') | skip); clear hb))
        all_goals
          go_split_ands
          go_wp2_with fail
          go_meet
          exact ⟨_, x3, A3, n3, c3, rfl, rfl, (by first | (with_reducible assumption) | (simp [go_sem, World.cell?_alloc_past, *]; done)), (by first | (with_reducible assumption) | (simp [go_sem, World.cell?_alloc_past, *]; done)), (fun hr => ⟨(hg3 hr).1, (hg3 hr).2.1, (hg3 hr).2.2.1, (by have hi3 := (hg3 hr).2.2.2; exact (by repeat (first | (with_reducible assumption) | (with_reducible refine InAt.alloc ?_ _) | (with_reducible refine InAt.drew ?_) | (refine InAt.set ?_ _ _ _ (fun a e => by have q1 := hB3 hr a e; have q2 := hL3 hr a e; (try simp at q1); omega)))))⟩), (by first | (with_reducible assumption) | (simp [go_sem, World.cell?_alloc_past, *]; done)), (by first | (with_reducible assumption) | (simp [go_sem, World.cell?_alloc_past, *]; done)), (by first | (with_reducible assumption) | (simp [go_sem, World.cell?_alloc_past, *]; done)), (by first | (with_reducible assumption) | (simp [go_sem, World.cell?_alloc_past, *]; done)), (by first | (with_reducible assumption) | (simp [go_sem, World.cell?_alloc_past, *]; done)), (by first | (with_reducible assumption) | (simp [go_sem, World.cell?_alloc_past, *]; done)), (by first | (with_reducible assumption) | (simp [go_sem, World.cell?_alloc_past, *]; done)), (by first | (with_reducible assumption) | (simp [go_sem, World.cell?_alloc_past, *]; done)), (by first | (with_reducible assumption) | (simp [go_sem, World.cell?_alloc_past, *]; done)), (by first | (with_reducible assumption) | (simp [go_sem, World.cell?_alloc_past, *]; done)), (by first | (with_reducible assumption) | (simp [go_sem, World.cell?_alloc_past, *]; done)), (by first | (with_reducible assumption) | (simp [go_sem, World.cell?_alloc_past, *]; done)), (by first | (with_reducible assumption) | (simp [go_sem, World.cell?_alloc_past, *]; done)), (by first | (with_reducible assumption) | (simp [go_sem, World.cell?_alloc_past, *]; done))⟩
    case rest =>
      obtain ⟨Q, x3, A3, n3, c3, rfl, rfl, q0, q1, hg, v0, v1, v2, v3, v4, v5, v6, v7, v8, v9, v10, p0', p1', bel2⟩ := hcut
      clear r0 r1 r2 r3 r4 r5 r6 r7 r8 r9 r10 p0 p1 bel zr0 zr1 zr2 zp
      by_cases hs : apE a d = 0
      · by_cases hr : woE d dd nd = 0
        · obtain ⟨rfl, rfl, hA3, hI3⟩ := hg hr
          obtain ⟨⟨dn, dE, dE2⟩, mm1, mm2⟩ := fewer a d dd nd hs
          have HI3 := Lib.hid hI3
          have HNA := Lib.hid hA3
          have HFM1 := Lib.hid mm1; have HFM2 := Lib.hid mm2
          have HSN : Hid (∀ A1 c1 w', InAt A1 d.n d.t w' → Calls Try.prog 88 #[.agg #[.int .i64 d.ck, .slice A1 d.n c1]] w' fun e_ w'' => ∃ A5 c5, e_ = .returned (.tuple #[.slice A5 (sdL d.t d.n).length c5, .int .i64 0]) ∧ InAt A5 (sdL d.t d.n).length (sdF d.t d.n) w'' ∧ Below w'.heap.size w' w'') := Lib.hid (fun A1 c1 w' h => (sendingOf_any d A1 c1 w' h (by omega)).mono (fun e_ w'' ⟨v, e1, ho, hb⟩ => by
            have f1 : d.sL = sdL d.t d.n := by unfold Dl.sL; rw [if_pos dE]
            have f2 : d.sF = sdF d.t d.n := by funext j; unfold Dl.sF sdF; rw [f1]
            rw [f1, f2] at ho
            obtain ⟨A5, c5, rfl, _, hs⟩ := own_ints2 ho
            exact ⟨A5, c5, by rw [e1, dE], hs, hb⟩))
          have HCM : Hid (∀ w', InAt A3 d.n (woC d.t dd nd) w' → Calls Try.prog 81 #[.agg #[.int .i64 d.ck, .slice A3 d.n c3]] w' fun e_ w'' => ∃ A1 c1, e_ = .returned (.agg #[.int .i64 d.ck, .slice A1 d.n c1]) ∧ InAt A1 d.n (woC d.t dd nd) w'' ∧ Below w'.heap.size w' w'') := Lib.hid (fun w' h => (copyLaw_any (d.wo dd nd) A3 c3 w' (by show d.n ≤ 1000; omega) (fun q => absurd q HNA.out) h).mono (fun e w'' ⟨v, e1, ho, hb⟩ => by
            obtain ⟨A1, c1, rfl, hz, hs⟩ := own_ints2 ho
            exact ⟨A1, c1, e1, hs, hb⟩))
          have HSM : Hid (∀ A1 c1 w', InAt A1 d.n (woC d.t dd nd) w' → Calls Try.prog 88 #[.agg #[.int .i64 d.ck, .slice A1 d.n c1]] w' fun e_ w'' => ∃ A5 c5, e_ = .returned (.tuple #[.slice A5 (sdL (woC d.t dd nd) d.n).length c5, .int .i64 0]) ∧ InAt A5 (sdL (woC d.t dd nd) d.n).length (sdF (woC d.t dd nd) d.n) w'' ∧ Below w'.heap.size w' w'') := Lib.hid (fun A1 c1 w' h => (sendingOf_any (d.wo dd nd) A1 c1 w' h (by show d.n ≤ _; omega)).mono (fun e_ w'' ⟨v, e1, ho, hb⟩ => by
            have f1 : (d.wo dd nd).sL = sdL (woC d.t dd nd) d.n := by unfold Dl.sL; rw [if_pos dE2]; rfl
            have f2 : (d.wo dd nd).sF = sdF (woC d.t dd nd) d.n := by funext j; unfold Dl.sF sdF; rw [f1]
            rw [f1, f2] at ho
            obtain ⟨A5, c5, rfl, _, hs⟩ := own_ints2 ho
            exact ⟨A5, c5, by rw [e1, dE2], hs, hb⟩))
          have HAM : Hid (∀ A1 c1 B1 e1 w', SpAt A1 a.n a.p w' → InAt B1 d.n (woC d.t dd nd) w' → Calls Try.prog 85 #[.agg #[.slice A1 a.n c1, .int .i64 a.m.wd, .int .i64 a.m.mt, .int .i64 a.m.sk, .int .i64 a.m.th, .int .i64 a.ck], .agg #[.int .i64 d.ck, .slice B1 d.n e1]] w' fun e_ w'' => e_ = .returned (.tuple #[.agg #[.int .i64 (apLo a (d.wo dd nd)), .int .i64 (apHi a (d.wo dd nd))], .int .i64 (apE a (d.wo dd nd))]) ∧ Below w'.heap.size w' w'') := Lib.hid (fun A1 c1 B1 e1 w' h g => aperture_any a (d.wo dd nd) A1 c1 B1 e1 w' h g (by omega) (by show d.n ≤ _; omega))
          rw [hs, hr]
          have MML := sdL_len d.t d.n
          have MML2 := sdL_len (woC d.t dd nd) d.n
          have HB2 := Lib.hid bel2
          clear hg hA3 hI3 mm1 mm2 dE dE2 hs hr HAP HWO HCI bel2
          go_wp2_with fail
          refine (HCL.out _ (HT.out.later HB2.out)).mono ?_
          rintro e w3 ⟨A4, c4, rfl, hi4, hb3⟩
          have v0_3 : w3.cell? ⟨w.heap.size, 0, none⟩ = some (.slice A a.n c) := cell_later hb3 v0
          have v1_3 : w3.cell? ⟨w.heap.size, 1, none⟩ = some (.int .i64 a.m.wd) := cell_later hb3 v1
          have v2_3 : w3.cell? ⟨w.heap.size, 2, none⟩ = some (.int .i64 a.m.mt) := cell_later hb3 v2
          have v3_3 : w3.cell? ⟨w.heap.size, 3, none⟩ = some (.int .i64 a.m.sk) := cell_later hb3 v3
          have v4_3 : w3.cell? ⟨w.heap.size, 4, none⟩ = some (.int .i64 a.m.th) := cell_later hb3 v4
          have v5_3 : w3.cell? ⟨w.heap.size, 5, none⟩ = some (.int .i64 a.ck) := cell_later hb3 v5
          have v6_3 : w3.cell? ⟨w.heap.size + 1, 0, none⟩ = some (.int .i64 d.ck) := cell_later hb3 v6
          have v7_3 : w3.cell? ⟨w.heap.size + 1, 1, none⟩ = some (.slice B d.n e) := cell_later hb3 v7
          have v8_3 : w3.cell? ⟨w.heap.size + 1 + 1, 0, none⟩ = some (.slice C nd g0) := cell_later hb3 v8
          have v9_3 : w3.cell? ⟨w.heap.size + 1 + 1, 1, none⟩ = some (.int .i64 sp) := cell_later hb3 v9
          have v10_3 : w3.cell? ⟨w.heap.size + 1 + 1, 2, none⟩ = some (.int .i64 kh) := cell_later hb3 v10
          have p0__3 : w3.cell? ⟨P, 0, none⟩ = some (.int .i64 (apLo a d)) := cell_later hb3 p0'
          have p1__3 : w3.cell? ⟨P, 1, none⟩ = some (.int .i64 (apHi a d)) := cell_later hb3 p1'
          have q0_3 : w3.cell? ⟨Q, 0, none⟩ = some (.int .i64 d.ck) := cell_later hb3 q0
          have q1_3 : w3.cell? ⟨Q, 1, none⟩ = some (.slice A3 d.n c3) := cell_later hb3 q1
          have I3 := Lib.hid (HI3.out.later hb3)
          have H3 : Hid (Below w.heap.size w w3) := Lib.hid (below_then HB2.out hb3)
          clear hb3 HI3 v0 v1 v2 v3 v4 v5 v6 v7 v8 v9 v10 p0' p1' q0 q1 HB2
          go_wp2_with fail
          refine (HSN.out _ _ _ hi4).mono ?_
          rintro e w4 ⟨A5, c5, rfl, hi5, hb4⟩
          have v0_4 : w4.cell? ⟨w.heap.size, 0, none⟩ = some (.slice A a.n c) := cell_later hb4 v0_3
          have v1_4 : w4.cell? ⟨w.heap.size, 1, none⟩ = some (.int .i64 a.m.wd) := cell_later hb4 v1_3
          have v2_4 : w4.cell? ⟨w.heap.size, 2, none⟩ = some (.int .i64 a.m.mt) := cell_later hb4 v2_3
          have v3_4 : w4.cell? ⟨w.heap.size, 3, none⟩ = some (.int .i64 a.m.sk) := cell_later hb4 v3_3
          have v4_4 : w4.cell? ⟨w.heap.size, 4, none⟩ = some (.int .i64 a.m.th) := cell_later hb4 v4_3
          have v5_4 : w4.cell? ⟨w.heap.size, 5, none⟩ = some (.int .i64 a.ck) := cell_later hb4 v5_3
          have v6_4 : w4.cell? ⟨w.heap.size + 1, 0, none⟩ = some (.int .i64 d.ck) := cell_later hb4 v6_3
          have v7_4 : w4.cell? ⟨w.heap.size + 1, 1, none⟩ = some (.slice B d.n e) := cell_later hb4 v7_3
          have v8_4 : w4.cell? ⟨w.heap.size + 1 + 1, 0, none⟩ = some (.slice C nd g0) := cell_later hb4 v8_3
          have v9_4 : w4.cell? ⟨w.heap.size + 1 + 1, 1, none⟩ = some (.int .i64 sp) := cell_later hb4 v9_3
          have v10_4 : w4.cell? ⟨w.heap.size + 1 + 1, 2, none⟩ = some (.int .i64 kh) := cell_later hb4 v10_3
          have p0__4 : w4.cell? ⟨P, 0, none⟩ = some (.int .i64 (apLo a d)) := cell_later hb4 p0__3
          have p1__4 : w4.cell? ⟨P, 1, none⟩ = some (.int .i64 (apHi a d)) := cell_later hb4 p1__3
          have q0_4 : w4.cell? ⟨Q, 0, none⟩ = some (.int .i64 d.ck) := cell_later hb4 q0_3
          have q1_4 : w4.cell? ⟨Q, 1, none⟩ = some (.slice A3 d.n c3) := cell_later hb4 q1_3
          have I4 := Lib.hid (I3.out.later hb4)
          have H4 : Hid (Below w.heap.size w w4) := Lib.hid (below_then H3.out hb4)
          clear hb4 I3 v0_3 v1_3 v2_3 v3_3 v4_3 v5_3 v6_3 v7_3 v8_3 v9_3 v10_3 p0__3 p1__3 q0_3 q1_3 H3 hi4
          have I5 := Lib.hid hi5; clear hi5
          go_wp2_with fail
          refine (HCM.out _ I4.out).mono ?_
          rintro e w5 ⟨A6, c6, rfl, hi6, hb5⟩
          have v0_5 : w5.cell? ⟨w.heap.size, 0, none⟩ = some (.slice A a.n c) := cell_later hb5 v0_4
          have v1_5 : w5.cell? ⟨w.heap.size, 1, none⟩ = some (.int .i64 a.m.wd) := cell_later hb5 v1_4
          have v2_5 : w5.cell? ⟨w.heap.size, 2, none⟩ = some (.int .i64 a.m.mt) := cell_later hb5 v2_4
          have v3_5 : w5.cell? ⟨w.heap.size, 3, none⟩ = some (.int .i64 a.m.sk) := cell_later hb5 v3_4
          have v4_5 : w5.cell? ⟨w.heap.size, 4, none⟩ = some (.int .i64 a.m.th) := cell_later hb5 v4_4
          have v5_5 : w5.cell? ⟨w.heap.size, 5, none⟩ = some (.int .i64 a.ck) := cell_later hb5 v5_4
          have v6_5 : w5.cell? ⟨w.heap.size + 1, 0, none⟩ = some (.int .i64 d.ck) := cell_later hb5 v6_4
          have v7_5 : w5.cell? ⟨w.heap.size + 1, 1, none⟩ = some (.slice B d.n e) := cell_later hb5 v7_4
          have v8_5 : w5.cell? ⟨w.heap.size + 1 + 1, 0, none⟩ = some (.slice C nd g0) := cell_later hb5 v8_4
          have v9_5 : w5.cell? ⟨w.heap.size + 1 + 1, 1, none⟩ = some (.int .i64 sp) := cell_later hb5 v9_4
          have v10_5 : w5.cell? ⟨w.heap.size + 1 + 1, 2, none⟩ = some (.int .i64 kh) := cell_later hb5 v10_4
          have p0__5 : w5.cell? ⟨P, 0, none⟩ = some (.int .i64 (apLo a d)) := cell_later hb5 p0__4
          have p1__5 : w5.cell? ⟨P, 1, none⟩ = some (.int .i64 (apHi a d)) := cell_later hb5 p1__4
          have q0_5 : w5.cell? ⟨Q, 0, none⟩ = some (.int .i64 d.ck) := cell_later hb5 q0_4
          have q1_5 : w5.cell? ⟨Q, 1, none⟩ = some (.slice A3 d.n c3) := cell_later hb5 q1_4
          have I6 := Lib.hid (I4.out.later hb5); have I7 := Lib.hid (I5.out.later hb5)
          have H5 : Hid (Below w.heap.size w w5) := Lib.hid (below_then H4.out hb5)
          clear hb5 I4 I5 v0_4 v1_4 v2_4 v3_4 v4_4 v5_4 v6_4 v7_4 v8_4 v9_4 v10_4 p0__4 p1__4 q0_4 q1_4 H4
          go_wp2_with fail
          refine (HSM.out _ _ _ hi6).mono ?_
          rintro e w6 ⟨A7, c7, rfl, hi7, hb6⟩
          have v0_6 : w6.cell? ⟨w.heap.size, 0, none⟩ = some (.slice A a.n c) := cell_later hb6 v0_5
          have v1_6 : w6.cell? ⟨w.heap.size, 1, none⟩ = some (.int .i64 a.m.wd) := cell_later hb6 v1_5
          have v2_6 : w6.cell? ⟨w.heap.size, 2, none⟩ = some (.int .i64 a.m.mt) := cell_later hb6 v2_5
          have v3_6 : w6.cell? ⟨w.heap.size, 3, none⟩ = some (.int .i64 a.m.sk) := cell_later hb6 v3_5
          have v4_6 : w6.cell? ⟨w.heap.size, 4, none⟩ = some (.int .i64 a.m.th) := cell_later hb6 v4_5
          have v5_6 : w6.cell? ⟨w.heap.size, 5, none⟩ = some (.int .i64 a.ck) := cell_later hb6 v5_5
          have v6_6 : w6.cell? ⟨w.heap.size + 1, 0, none⟩ = some (.int .i64 d.ck) := cell_later hb6 v6_5
          have v7_6 : w6.cell? ⟨w.heap.size + 1, 1, none⟩ = some (.slice B d.n e) := cell_later hb6 v7_5
          have v8_6 : w6.cell? ⟨w.heap.size + 1 + 1, 0, none⟩ = some (.slice C nd g0) := cell_later hb6 v8_5
          have v9_6 : w6.cell? ⟨w.heap.size + 1 + 1, 1, none⟩ = some (.int .i64 sp) := cell_later hb6 v9_5
          have v10_6 : w6.cell? ⟨w.heap.size + 1 + 1, 2, none⟩ = some (.int .i64 kh) := cell_later hb6 v10_5
          have p0__6 : w6.cell? ⟨P, 0, none⟩ = some (.int .i64 (apLo a d)) := cell_later hb6 p0__5
          have p1__6 : w6.cell? ⟨P, 1, none⟩ = some (.int .i64 (apHi a d)) := cell_later hb6 p1__5
          have q0_6 : w6.cell? ⟨Q, 0, none⟩ = some (.int .i64 d.ck) := cell_later hb6 q0_5
          have q1_6 : w6.cell? ⟨Q, 1, none⟩ = some (.slice A3 d.n c3) := cell_later hb6 q1_5
          have I8 := Lib.hid (I6.out.later hb6); have I9 := Lib.hid (I7.out.later hb6)
          have I10 := Lib.hid hi7
          have H6 : Hid (Below w.heap.size w w6) := Lib.hid (below_then H5.out hb6)
          clear hb6 I6 I7 v0_5 v1_5 v2_5 v3_5 v4_5 v5_5 v6_5 v7_5 v8_5 v9_5 v10_5 p0__5 p1__5 q0_5 q1_5 H5 hi6 hi7 HSN HSM
          have z6 := H6.out.size
          have SG := Lib.hid (sdF_get d.t d.n)
          have WE := Lib.hid (wnV_end d.t dd nd d.n)
          have WY := Lib.hid (fun k i h q => wnV_yes d.t dd nd d.n k i h q)
          have WN := Lib.hid (fun k i h q => wnV_no d.t dd nd d.n k i h q)
          have WL := Lib.hid (fun k => wnV_len d.t dd nd d.n k)
          have W0 := Lib.hid (wnV_zero d.t dd nd d.n)
          have HAPM : Hid (apM (d.wo dd nd) = (sdL (woC d.t dd nd) d.n).length) := Lib.hid (apM_wo d dd nd)
          generalize hml : (sdL d.t d.n).length = m at *
          generalize hml2 : (sdL (woC d.t dd nd) d.n).length = m' at *
          clear hml hml2
          obtain ⟨j0_, ji0, jz0, jz1, jz2⟩ := info_parts infoJ
          have JI0 := Lib.hid ji0; have JZ0 := Lib.hid jz0; have JZ1 := Lib.hid jz1; have JZ2 := Lib.hid jz2
          clear ji0 jz0 jz1 jz2
          go_wp2_with fail
          go_loopw [15, 16] (fun s15 s16 wr => ∃ (k : Nat) (v : Value), v = s15 ∧ k ≤ m ∧ s16 = .int .i64 (k : Int) ∧ wr.ownsRow w6.heap.size 3 1 v (wnV d.t dd nd d.n k).length (wnV d.t dd nd d.n k) ∧ Below w6.heap.size w6 wr) (fun _ s16 _ => m - (intOf s16).toNat)
          case atStart => exact ⟨0, _, rfl, Nat.zero_le _, rfl, by rw [W0.out]; exact World.ownsRow_nil _ _ _ _, Below.refl _ _⟩
          case round =>
            obtain ⟨k, v, rfl, hk, rfl, hown, hb⟩ := hrel
            have sz := hb.size
            have HB := Lib.hid hb
            have HW : Hid (Below w.heap.size w wr) := Lib.hid (Below.trans H6.out (hb.mono H6.out.size))
            have r8 := cell_later hb v8_6
            have ag := Lib.hid (fun q e => (hown.lt q e).1)
            by_cases hlt : k < m
            · obtain ⟨ad5, rfl⟩ := I9.out.some (by omega)
              obtain ⟨i, ei, hi, _, hs⟩ := SG.out k hlt
              have e0 := (I9.out.later hb).at hlt
              rw [ei] at e0
              have j0 : (0 : Int) ≤ (k : Int) := Int.natCast_nonneg _
              have j1 : (k : Int) < (m : Int) := by omega
              have j8 : (k : Int) < 1000 := by omega
              have HH : Hid (∀ n, Calls Try.prog 89 #[.slice C nd g0, .int .i64 (i : Int)] (wr.drewN n) fun e_ w' => e_ = .returned (.bool (hasB dd nd i)) ∧ w' = wr.drewN n) := Lib.hid (fun n => (has_any C nd g0 dd i (wr.drewN n) (by omega) (HD.out.later (below_drewN HW.out n))).mono (fun e_ w' h => ⟨h.1, h.2.symm⟩))
              have HS := Lib.hid hs
              clear hb ei hs
              by_cases hg : hasB dd nd i = true
              · have FE := Lib.hid (WN.out k i HS.out hg)
                rw [hg] at HH
                clear hg
                go_wp2_with fail
                go_quiet ((go_at_call 89; first | exact Calls.quiet_of_same (HH.out _) | exact Calls.quiet_of_same (HH.out 0)))
                go_wp2
                go_roundw
                case rel => exact ⟨k + 1, _, rfl, by omega, by go_num, by rw [FE.out]; exact own_later hown (below_drewN (Below.refl _ _) _), below_drewN HB.out _⟩
                case measure => simp [intOf]; omega
              · have hg2 : hasB dd nd i = false := by simpa using hg
                have FE := Lib.hid (WY.out k i HS.out hg2)
                rw [hg2] at HH
                clear hg hg2
                have fl := WL.out k
                go_wp2_with fail
                go_quiet ((go_at_call 89; first | exact Calls.quiet_of_same (HH.out _) | exact Calls.quiet_of_same (HH.out 0)))
                generalize hw9 : wr.drewN nq = w9 at *
                have b9 : Below wr.heap.size wr w9 := by rw [← hw9]; exact below_drewN (Below.refl _ _) _
                have e9 := cell_later b9 e0
                have hown9 := own_later hown b9
                have H9 : Hid (Below w6.heap.size w6 w9) := Lib.hid (below_then HB.out b9)
                have sz9 : w6.heap.size ≤ w9.heap.size := H9.out.size
                clear hw9 b9 e0 r8 hown
                have bm6 : ((wnV d.t dd nd d.n k).length + 1 : Nat) ≤ maxLen := by unfold maxLen; omega
                have BM6 := Lib.hid bm6; clear bm6
                have nb6 : ∀ j u, (#[.int .i64 (i : Int)] : Array Value).toList[j]? = some u → (w9.alloc (.cells #[.int .i64 (i : Int)] 3)).cell? ((⟨w9.heap.size, 0, none⟩ : Addr).add j) = some u :=
                  World.news_of_block (t := 3) (fr := (0, 0)) (by have h := heap_alloc_new w9 (.cells #[.int .i64 (i : Int)] 3); simpa using h)
                have NB6 := Lib.hid nb6; clear nb6
                go_wp2_with (at_builtin; refine wpList_append_lies _ rfl _ _ _ rfl w6.heap.size 3 j0_ _ 1 8 Try.underlying89 JI0.out JZ0.out JZ1.out JZ2.out rfl (by omega) v ((wnV d.t dd nd d.n k).length) (wnV d.t dd nd d.n k) rfl (hown9.alloc _) ⟨w9.heap.size, 0, none⟩ 1 1 [.int .i64 (i : Int)] rfl rfl NB6.out (by simp [Value.oneCell']) (by omega) BM6.out (by omega) (by simp; omega) (w9.heap.size + 1) (by simp) ?_; intro g6 cap6 w6 hown6 hgrow6 hat6 hlt6)
                have HO6 := Lib.hid hown6; clear hown6
                have HG6 := Lib.hid hgrow6; clear hgrow6 hat6 hlt6
                go_roundw
                case rel => exact ⟨k + 1, _, rfl, by omega, by go_num, by rw [FE.out, List.length_append]; exact HO6.out, (H9.out.alloc (by omega) _).grown HG6.out (by simp; omega) (fun q e => ag.out q e)⟩
                case measure => simp [intOf]; omega
            · have hk' : k = m := by omega
              have kk : decide ((k : Int) < (m : Int)) = false := by simp; omega
              rw [hk', WE.out, mvs_len] at hown
              obtain ⟨A8, c8, rfl, _, I11⟩ := own_ints2 hown
              have ET : eqB (sdF (woC d.t dd nd) d.n) m' (sdF (woC d.t dd nd) d.n) m' = true := (eqB_iff _ _ _ _).2 ⟨rfl, fun _ _ => rfl⟩
              have HIN := ints_any A7 m' c7 (sdF (woC d.t dd nd) d.n) A8 m' c8 (sdF (woC d.t dd nd) d.n) wr (by omega) (by omega) (I10.out.later hb) I11
              rw [ET] at HIN
              have HIN' := Lib.hid HIN
              have Ir := Lib.hid (I8.out.later hb)
              have v0_r : wr.cell? ⟨w.heap.size, 0, none⟩ = some (.slice A a.n c) := cell_later hb v0_6
              have v1_r : wr.cell? ⟨w.heap.size, 1, none⟩ = some (.int .i64 a.m.wd) := cell_later hb v1_6
              have v2_r : wr.cell? ⟨w.heap.size, 2, none⟩ = some (.int .i64 a.m.mt) := cell_later hb v2_6
              have v3_r : wr.cell? ⟨w.heap.size, 3, none⟩ = some (.int .i64 a.m.sk) := cell_later hb v3_6
              have v4_r : wr.cell? ⟨w.heap.size, 4, none⟩ = some (.int .i64 a.m.th) := cell_later hb v4_6
              have v5_r : wr.cell? ⟨w.heap.size, 5, none⟩ = some (.int .i64 a.ck) := cell_later hb v5_6
              have v6_r : wr.cell? ⟨w.heap.size + 1, 0, none⟩ = some (.int .i64 d.ck) := cell_later hb v6_6
              have v7_r : wr.cell? ⟨w.heap.size + 1, 1, none⟩ = some (.slice B d.n e) := cell_later hb v7_6
              have v8_r : wr.cell? ⟨w.heap.size + 1 + 1, 0, none⟩ = some (.slice C nd g0) := cell_later hb v8_6
              have v9_r : wr.cell? ⟨w.heap.size + 1 + 1, 1, none⟩ = some (.int .i64 sp) := cell_later hb v9_6
              have v10_r : wr.cell? ⟨w.heap.size + 1 + 1, 2, none⟩ = some (.int .i64 kh) := cell_later hb v10_6
              have p0__r : wr.cell? ⟨P, 0, none⟩ = some (.int .i64 (apLo a d)) := cell_later hb p0__6
              have p1__r : wr.cell? ⟨P, 1, none⟩ = some (.int .i64 (apHi a d)) := cell_later hb p1__6
              have q0_r : wr.cell? ⟨Q, 0, none⟩ = some (.int .i64 d.ck) := cell_later hb q0_6
              have q1_r : wr.cell? ⟨Q, 1, none⟩ = some (.slice A3 d.n c3) := cell_later hb q1_6
              clear HIN ET hown hb I11 hk' r8 ag I8 I9 I10 v0_6 v1_6 v2_6 v3_6 v4_6 v5_6 v6_6 v7_6 v8_6 v9_6 v10_6 p0__6 p1__6 q0_6 q1_6 SG WE WY WN WL W0
              go_wp2_with fail
              refine (HIN'.out).mono ?_
              rintro e wz ⟨rfl, hbz⟩
              have v0_z : wz.cell? ⟨w.heap.size, 0, none⟩ = some (.slice A a.n c) := cell_later hbz v0_r
              have v1_z : wz.cell? ⟨w.heap.size, 1, none⟩ = some (.int .i64 a.m.wd) := cell_later hbz v1_r
              have v2_z : wz.cell? ⟨w.heap.size, 2, none⟩ = some (.int .i64 a.m.mt) := cell_later hbz v2_r
              have v3_z : wz.cell? ⟨w.heap.size, 3, none⟩ = some (.int .i64 a.m.sk) := cell_later hbz v3_r
              have v4_z : wz.cell? ⟨w.heap.size, 4, none⟩ = some (.int .i64 a.m.th) := cell_later hbz v4_r
              have v5_z : wz.cell? ⟨w.heap.size, 5, none⟩ = some (.int .i64 a.ck) := cell_later hbz v5_r
              have v6_z : wz.cell? ⟨w.heap.size + 1, 0, none⟩ = some (.int .i64 d.ck) := cell_later hbz v6_r
              have v7_z : wz.cell? ⟨w.heap.size + 1, 1, none⟩ = some (.slice B d.n e) := cell_later hbz v7_r
              have v8_z : wz.cell? ⟨w.heap.size + 1 + 1, 0, none⟩ = some (.slice C nd g0) := cell_later hbz v8_r
              have v9_z : wz.cell? ⟨w.heap.size + 1 + 1, 1, none⟩ = some (.int .i64 sp) := cell_later hbz v9_r
              have v10_z : wz.cell? ⟨w.heap.size + 1 + 1, 2, none⟩ = some (.int .i64 kh) := cell_later hbz v10_r
              have p0__z : wz.cell? ⟨P, 0, none⟩ = some (.int .i64 (apLo a d)) := cell_later hbz p0__r
              have p1__z : wz.cell? ⟨P, 1, none⟩ = some (.int .i64 (apHi a d)) := cell_later hbz p1__r
              have q0_z : wz.cell? ⟨Q, 0, none⟩ = some (.int .i64 d.ck) := cell_later hbz q0_r
              have q1_z : wz.cell? ⟨Q, 1, none⟩ = some (.slice A3 d.n c3) := cell_later hbz q1_r
              have Iz := Lib.hid (Ir.out.later hbz)
              have Hz : Hid (Below w.heap.size w wz) := Lib.hid (below_then HW.out hbz)
              clear hbz Ir v0_r v1_r v2_r v3_r v4_r v5_r v6_r v7_r v8_r v9_r v10_r p0__r p1__r q0_r q1_r HIN' HB HW H6 sz z6
              go_upto_region 21 with fail
              have zB := World.block_lt_of_cell? _ _ v0_z
              have zw0 := World.block_lt_of_cell? _ _ v6_z
              have zw1 := World.block_lt_of_cell? _ _ v8_z
              have zPz := World.block_lt_of_cell? _ _ p0__z
              have zQz := World.block_lt_of_cell? _ _ q0_z
              dsimp only at zB zw0 zw1 zPz zQz
              have hS : Below w.heap.size w wz := Hz.out
              have hS2 : Below wz.heap.size wz wz := Below.refl _ _
              go_cut [17, 18] (fun s17 s18 wx => ∃ (T : Nat) (EE l hh L H : Int), s17 = .pointer (some ⟨T, 0, none⟩) ∧ s18 = .int .i64 EE ∧ (m' = 0 → EE = 12) ∧ (m' ≠ 0 → EE = 0 ∧ L ≤ l ∧ hh ≤ H ∧ l ≤ hh ∧ -100000 ≤ L ∧ H ≤ 100000) ∧ wx.cell? ⟨T, 0, none⟩ = some (.int .i64 l) ∧ wx.cell? ⟨T, 1, none⟩ = some (.int .i64 hh) ∧ wx.cell? ⟨P, 0, none⟩ = some (.int .i64 L) ∧ wx.cell? ⟨P, 1, none⟩ = some (.int .i64 H) ∧ wx.cell? ⟨w.heap.size + 1 + 1, 1, none⟩ = some (.int .i64 sp) ∧ wx.cell? ⟨w.heap.size + 1 + 1, 2, none⟩ = some (.int .i64 kh) ∧ Below w.heap.size w wx)
              case first =>
                as_aux_lemma =>
                  go_region_held3 (fun w' => w'.cell? ⟨w.heap.size, 0, none⟩ = some (.slice A a.n c) ∧ w'.cell? ⟨w.heap.size, 1, none⟩ = some (.int .i64 a.m.wd) ∧ w'.cell? ⟨w.heap.size, 2, none⟩ = some (.int .i64 a.m.mt) ∧ w'.cell? ⟨w.heap.size, 3, none⟩ = some (.int .i64 a.m.sk) ∧ w'.cell? ⟨w.heap.size, 4, none⟩ = some (.int .i64 a.m.th) ∧ w'.cell? ⟨w.heap.size, 5, none⟩ = some (.int .i64 a.ck) ∧ w'.cell? ⟨w.heap.size + 1, 0, none⟩ = some (.int .i64 d.ck) ∧ w'.cell? ⟨w.heap.size + 1, 1, none⟩ = some (.slice B d.n e) ∧ w'.cell? ⟨w.heap.size + 1 + 1, 0, none⟩ = some (.slice C nd g0) ∧ w'.cell? ⟨w.heap.size + 1 + 1, 1, none⟩ = some (.int .i64 sp) ∧ w'.cell? ⟨w.heap.size + 1 + 1, 2, none⟩ = some (.int .i64 kh) ∧ w'.cell? ⟨P, 0, none⟩ = some (.int .i64 (apLo a d)) ∧ w'.cell? ⟨P, 1, none⟩ = some (.int .i64 (apHi a d)) ∧ w'.cell? ⟨Q, 0, none⟩ = some (.int .i64 d.ck) ∧ w'.cell? ⟨Q, 1, none⟩ = some (.slice A3 d.n c3) ∧ Below w.heap.size w w' ∧ Below wz.heap.size wz w') (((go_split_ands; (repeat' apply And.intro) <;> ((repeat (first | (with_reducible assumption) | (with_reducible exact Below.refl _ _) | (with_reducible refine cell_alloc_later ?_ _) | (with_reducible refine cell_drewA ?_) | (with_reducible refine cellA (by with_reducible assumption) ?_) | (with_reducible refine belowA ?_ (by with_reducible assumption)) | (with_reducible refine below_alloc_top ?_ _) | (with_reducible refine Below.drew ?_) | (with_reducible refine cell_set_old ?_ (by with_reducible assumption)) | (with_reducible refine below_set_old ?_ (by with_reducible assumption)) | (with_reducible refine Below.setCell ?_ (by first | omega | (simp; done) | (simp; omega)) _) | (simp [go_sem, World.cell?_alloc_past, *]; done))); done))))
                    (first
                      | (go_split_ands; go_at_call 80; (with_reducible refine (HCA.out _ (HX.out.later (by with_reducible assumption))).mono ?_); rintro e w' ⟨A1, c1, rfl, hs, hb⟩; have hbA : BelA _ w' := hb; obtain ⟨hc', hf'⟩ := bcell hb; have hz' := hb.size; (try simp at hz'); (first | (have tF' := Nat.lt_of_succ_le hz') | (have tF' := Nat.lt_of_lt_of_le tF' hz') | skip); clear hb)
                      | (go_split_ands; go_at_call 81; (with_reducible refine (HCM.out _ (Iz.out.later (by with_reducible assumption))).mono ?_); rintro e w' ⟨A2, c2, rfl, hi, hb⟩; have hbA : BelA _ w' := hb; obtain ⟨hc', hf'⟩ := bcell hb; have hz' := hb.size; (try simp at hz'); (first | (have tF' := Nat.lt_of_succ_le hz') | (have tF' := Nat.lt_of_lt_of_le tF' hz') | skip); clear hb)
                      | (go_split_ands; go_at_call 85; (with_reducible refine (HAM.out _ _ _ _ _ (by repeat (first | (with_reducible assumption) | (with_reducible refine SpAt.laterA (by with_reducible assumption) ?_) | (with_reducible refine SpAt.alloc ?_ _) | (with_reducible refine SpAt.drew ?_))) (by repeat (first | (with_reducible assumption) | (with_reducible refine InAt.laterA (by with_reducible assumption) ?_) | (with_reducible refine InAt.alloc ?_ _) | (with_reducible refine InAt.drew ?_)))).mono ?_); rintro e w' ⟨rfl, hb⟩; have hbA : BelA _ w' := hb; obtain ⟨hc', hf'⟩ := bcell hb; have hz' := hb.size; (try simp at hz'); (first | (have tF' := Nat.lt_of_succ_le hz') | (have tF' := Nat.lt_of_lt_of_le tF' hz') | skip); clear hb))
                  all_goals
                    go_split_ands
                    go_wp2_with fail
                    go_meet
                    exact ⟨_, apE a (d.wo dd nd), apLo a (d.wo dd nd), apHi a (d.wo dd nd), apLo a d, apHi a d, rfl, rfl, fun q => HFM1.out (HAPM.out.trans q), fun q => HFM2.out (fun q' => q (HAPM.out.symm.trans q')), (by first | (with_reducible assumption) | (simp [go_sem, World.cell?_alloc_past, *]; done)), (by first | (with_reducible assumption) | (simp [go_sem, World.cell?_alloc_past, *]; done)), (by first | (with_reducible assumption) | (simp [go_sem, World.cell?_alloc_past, *]; done)), (by first | (with_reducible assumption) | (simp [go_sem, World.cell?_alloc_past, *]; done)), (by first | (with_reducible assumption) | (simp [go_sem, World.cell?_alloc_past, *]; done)), (by first | (with_reducible assumption) | (simp [go_sem, World.cell?_alloc_past, *]; done)), (by first | (with_reducible assumption) | (simp [go_sem, World.cell?_alloc_past, *]; done))⟩
              case rest =>
                obtain ⟨T, EE, l, hh, L, H, rfl, rfl, gz, gn, t0, t1, P0, P1, X1, X2, bel3⟩ := hcut
                have HB3 := Lib.hid bel3
                clear bel3 hS hS2 v0_z v1_z v2_z v3_z v4_z v5_z v6_z v7_z v8_z v9_z v10_z p0__z p1__z q0_z q1_z Hz HAM HCM HCA HCL HFM1 HFM2 HAPM zB zw0 zw1 zPz zQz
                by_cases hm0 : m' = 0
                · have e12 := gz hm0
                  rw [e12, hm0]
                  clear e12 hm0 gz gn
                  go_wp2
                  go_ret
                  exact ⟨rfl, (by (repeat (first | (with_reducible exact HB3.out) | (with_reducible refine Below.setCell ?_ ?_ _) | (with_reducible refine below_alloc_top ?_ _) | (with_reducible refine Below.drew ?_))); all_goals (first | omega | (simp; done) | (simp; omega)))⟩
                · obtain ⟨y1, y2, y3, y4, y5, y6⟩ := gn hm0
                  rw [y1]
                  clear gz gn y1
                  have b0 : ((m' : Int) == 0) = false := by simp; exact hm0
                  have u1 : IntKind.i64.wrap (H - L) = H - L := IntWalk.i64_in _ (by omega)
                  have u2 : IntKind.i64.wrap (hh - l) = hh - l := IntWalk.i64_in _ (by omega)
                  have u3 : decide (l < L) = false := decide_eq_false (by omega)
                  have u4 : decide (H < hh) = false := decide_eq_false (by omega)
                  have u5 : decide (hh < l) = false := decide_eq_false (by omega)
                  obtain ⟨E1, L1, H1, E2, L2, H2, nf1, nf2, km1⟩ := near_both (H - L) (hh - l) sp kh (by omega) (by omega)
                  have KM1 := Lib.hid km1; have NF1 := Lib.hid nf1; have NF2 := Lib.hid nf2
                  clear nf1 nf2 km1
                  clear hm0 y2 y3 y4 y5 y6
                  go_wp2_with fail
                  refine (NF1.out _).mono ?_
                  rintro e wa ⟨rfl, hba⟩
                  have t0a := cell_later hba t0; have t1a := cell_later hba t1
                  have X1a := cell_later hba X1; have X2a := cell_later hba X2
                  have HBa : Hid (Below w.heap.size w wa) := Lib.hid (below_then HB3.out hba)
                  clear hba t0 t1 P0 P1 X1 X2 HB3
                  go_upto_region 27 with fail
                  obtain ⟨B9, hB9⟩ : ∃ q, q = wa.heap.size := ⟨_, rfl⟩
                  rw [← hB9]
                  generalize hW9 : wa.alloc (.cells #[.int .i64 L1, .int .i64 H1] 26) = wb at *
                  have bb : Below wa.heap.size wa wb := by rw [← hW9]; exact (Below.refl _ _).alloc (Nat.le_refl _) _
                  have s0 : wb.cell? ⟨B9, 0, none⟩ = some (.int .i64 L1) := by rw [← hW9, hB9]; simp [go_sem]
                  have s1 : wb.cell? ⟨B9, 1, none⟩ = some (.int .i64 H1) := by rw [← hW9, hB9]; simp [go_sem]
                  have t0b := cell_later bb t0a; have t1b := cell_later bb t1a
                  have X1b := cell_later bb X1a; have X2b := cell_later bb X2a
                  have HBb : Hid (Below w.heap.size w wb) := Lib.hid (below_then HBa.out bb)
                  clear hW9 bb t0a t1a X1a X2a HBa hB9
                  go_wp2_with fail
                  refine (NF2.out _).mono ?_
                  rintro e wc' ⟨rfl, hbc⟩
                  have s0c := cell_later hbc s0; have s1c := cell_later hbc s1
                  have HBc : Hid (Below w.heap.size w wc') := Lib.hid (below_then HBb.out hbc)
                  have zs := World.block_lt_of_cell? _ _ s0c
                  dsimp only at zs
                  clear hbc s0 s1 t0b t1b X1b X2b HBb NF1 NF2
                  by_cases hz : E1 = 0
                  · obtain ⟨z1, z2, z3⟩ := KM1.out hz
                    rw [hz, z1]
                    have d7 : decide (L2 ≤ L1) = true := by simpa using z2
                    have d8 : decide (H2 ≤ H1) = true := by simpa using z3
                    clear hz z1 z2 z3 KM1
                    go_wp2
                    go_ret
                    exact ⟨rfl, (by (repeat (first | (with_reducible exact HBc.out) | (with_reducible refine Below.setCell ?_ ?_ _) | (with_reducible refine below_alloc_top ?_ _) | (with_reducible refine Below.drew ?_))); all_goals (first | omega | (simp; done) | (simp; omega)))⟩
                  · have n1 : (E1 != 0) = true := by simpa using hz
                    clear hz KM1
                    go_wp2
                    go_ret
                    exact ⟨rfl, (by (repeat (first | (with_reducible exact HBc.out) | (with_reducible refine Below.setCell ?_ ?_ _) | (with_reducible refine below_alloc_top ?_ _) | (with_reducible refine Below.drew ?_))); all_goals (first | omega | (simp; done) | (simp; omega)))⟩
        · have n0 : (apE a d != 0) = false := by simp [hs]
          have n1 : (woE d dd nd != 0) = true := by simpa using hr
          have HB2 := Lib.hid bel2
          clear hs hr hg bel2
          go_wp2
          go_ret
          exact ⟨rfl, (by (repeat (first | (with_reducible exact HB2.out) | (with_reducible refine Below.setCell ?_ ?_ _) | (with_reducible refine below_alloc_top ?_ _) | (with_reducible refine Below.drew ?_))); all_goals (first | omega | (simp; done) | (simp; omega)))⟩
      · have n0 : (apE a d != 0) = true := by simpa using hs
        have HB2 := Lib.hid bel2
        clear hs hg bel2
        go_wp2
        go_ret
        exact ⟨rfl, (by (repeat (first | (with_reducible exact HB2.out) | (with_reducible refine Below.setCell ?_ ?_ _) | (with_reducible refine below_alloc_top ?_ _) | (with_reducible refine Below.drew ?_))); all_goals (first | omega | (simp; done) | (simp; omega)))⟩
end Go.Proofs.Ytdicndakelgoeaa
