/- LawClocks: the reference's coarsest clock, and the walk -/
import Derived.Test.YtkkaomgdlnejcaaGreatDoorTx
import Derived.Test.YtkkaomgdlnejcaaGreatDoorV9
import Derived.Test.YtkkaomgdlnejcaaGreatDoorU2
namespace Go.Proofs.YtkkaomgdlnejcaaGreatDoor
open Go.RowKit Go.Shelf RayM
set_option linter.unusedSimpArgs false
set_option linter.unusedVariables false
theorem ctE20_none : ctE ((0 : Nat) : Int) 20 = 10 := rfl
theorem ctE20_big (m : Nat) (h : 20 < m) : ctE m 20 = 8 := by
  have h1 : decide ((0 : Int) < (m : Int)) = true := by simp; omega
  have h2 : decide ((m : Int) ≤ 20) = false := by simp; omega
  unfold ctE; rw [h1, h2]; rfl
theorem wck_E (a : La) (c : Int) (h : a.E = 0) (c0 : 1 ≤ c) (c1 : c ≤ 1000000) : (a.wck c).E = 0 := by
  obtain ⟨h1, h2, h3, _, _⟩ := (La.E_zero a).1 h
  exact (La.E_zero _).2 ⟨h1, h2, h3, c0, c1⟩
theorem coE1_ct (a : La) (f : Sp) (cs : Nat → Int) (m : Nat) (mo : Int) (hp : plE a f = 0) (h : ctE m 20 ≠ 0) : coE1 a f cs m mo = ctE m 20 := by
  have e : ckE cs m = ctE m 20 := by unfold ckE; simp [fst, h]
  unfold coE1; rw [hp, e]; simp [fst, h]
theorem coE1_ff (a : La) (f : Sp) (cs : Nat → Int) (m : Nat) (mo : Int) (hp : plE a f = 0) (h : ctE m 20 = 0) (k : ffE (ckG cs) 0 m ≠ 0) : coE1 a f cs m mo = ffE (ckG cs) 0 m := by
  have e : ckE cs m = ffE (ckG cs) 0 m := by unfold ckE; rw [h]; simp [fst]; omega
  unfold coE1; rw [hp, e]; simp [fst, k]
theorem coE1_mo (a : La) (f : Sp) (cs : Nat → Int) (m : Nat) (mo : Int) (hp : plE a f = 0) (h : ctE m 20 = 0) (k : ffE (ckG cs) 0 m = 0) : coE1 a f cs m mo = unl (inB mo 0 1000000000000) 2 := by
  have e : ckE cs m = 0 := by unfold ckE; rw [h, k]; rfl
  unfold coE1; rw [hp, e]; simp [fst]; omega
theorem co_bad (a : La) (f : Sp) (cs : Nat → Int) (m : Nat) (mo : Int) (hE : a.E = 0) (h : coE1 a f cs m mo ≠ 0) : coE a f cs m mo = coE1 a f cs m mo ∧ coN a f cs m mo = 0 := by
  unfold coE coN; rw [if_pos hE, if_pos hE, if_neg h, if_neg h]; exact ⟨rfl, rfl⟩
set_option maxRecDepth 100000 in
set_option maxHeartbeats 6000000 in
theorem rCoarse_any (a : La) (f : Sp) (cs : Nat → Int) (m : Nat) (mo : Int) (A : Option Addr) (c : Nat) (D : Option Addr) (k : Nat) (w : World) (hE : a.E = 0) (hp : plE a f = 0) (h : SpAt A a.n a.p w) (g : InAt D m cs w) (hq : m ≤ 1000) :
    Calls Tryz.prog 25 #[.agg #[.slice A a.n c, .int .i64 a.m.wd, .int .i64 a.m.mt, .int .i64 a.m.sk, .int .i64 a.m.th, .int .i64 a.ck], .agg #[.int .i64 f.x, .int .i64 f.z], .agg #[.slice D m k, .int .i64 mo]] w fun e_ w' => e_ = .returned (.tuple #[.int .i64 (coN a f cs m mo), .int .i64 (coE a f cs m mo)]) ∧ Below w.heap.size w w' := by
  have HX := Lib.hid h; clear h
  have HT := Lib.hid g; clear g
  obtain ⟨⟨n0, n1⟩, _⟩ := (La.E_zero a).1 hE
  have CB := Lib.hid (co_bad a f cs m mo hE)
  by_cases m0 : m = 0
  · have q1 := coE1_ct a f cs m mo hp (by rw [m0]; decide)
    have q2 : ctE m 20 = 10 := by rw [m0]; rfl
    obtain ⟨e1, e2⟩ := CB.out (by rw [q1, q2]; decide)
    rw [e1, e2, q1, q2]
    have b0 : ((m : Int) == 0) = true := by simp; omega
    clear q1 q2 e1 e2 HX HT CB hE hp
    subst m0
    go_enter Tryz.func25, Tryz.ntmps25
    go_wp2
    go_ret2
    exact ⟨rfl, (by repeat (first | exact Below.refl _ _ | refine Below.drew ?_ | refine below_drewN ?_ _ | refine Below.setCell ?_ (by first | omega | (simp; done) | (simp; omega)) _ | refine Below.alloc ?_ (by first | omega | (simp; done) | (simp; omega)) _))⟩
  · have b0 : ((m : Int) == 0) = false := by simp; omega
    by_cases m1 : 20 < m
    · have q2 := ctE20_big m m1
      have q1 := coE1_ct a f cs m mo hp (by rw [q2]; decide)
      obtain ⟨e1, e2⟩ := CB.out (by rw [q1, q2]; decide)
      rw [e1, e2, q1, q2]
      have b1 : decide ((m : Int) > 20) = true := by simp; omega
      have b2 : decide ((20 : Int) < (m : Int)) = true := by simp; omega
      have b3 : decide (20 < m) = true := by simp; omega
      clear q1 q2 e1 e2 HX HT CB hE hp m0
      go_enter Tryz.func25, Tryz.ntmps25
      go_wp2
      go_ret2
      exact ⟨rfl, (by repeat (first | exact Below.refl _ _ | refine Below.drew ?_ | refine below_drewN ?_ _ | refine Below.setCell ?_ (by first | omega | (simp; done) | (simp; omega)) _ | refine Below.alloc ?_ (by first | omega | (simp; done) | (simp; omega)) _))⟩
    · have b1 : decide ((m : Int) > 20) = false := by simp; omega
      have b2 : decide ((20 : Int) < (m : Int)) = false := by simp; omega
      have b3 : decide (20 < m) = false := by simp; omega
      have ct : ctE m 20 = 0 := (ctE_zero _ _).2 ⟨by omega, by omega⟩
      have XF : Hid (ffE (ckG cs) 0 m ≠ 0 → coE a f cs m mo = ffE (ckG cs) 0 m ∧ coN a f cs m mo = 0) := Lib.hid (fun q => by
        have e := coE1_ff a f cs m mo hp ct q
        obtain ⟨e1, e2⟩ := CB.out (by rw [e]; exact q)
        exact ⟨e1.trans e, e2⟩)
      have XM : Hid (ffE (ckG cs) 0 m = 0 → inB mo 0 1000000000000 = false → coE a f cs m mo = 2 ∧ coN a f cs m mo = 0) := Lib.hid (fun q r => by
        have e := coE1_mo a f cs m mo hp ct q
        rw [r] at e
        obtain ⟨e1, e2⟩ := CB.out (by rw [e]; decide)
        exact ⟨e1.trans e, e2⟩)
      have XG : Hid (ffE (ckG cs) 0 m = 0 → inB mo 0 1000000000000 = true → (coE a f cs m mo = if topI (coB a f cs mo) m = none then 12 else 0) ∧ (coN a f cs m mo = match topI (coB a f cs mo) m with | some i => cs i | none => 0) ∧ ∀ i, i < m → 1 ≤ cs i ∧ cs i ≤ 1000000) := Lib.hid (fun q r => by
        have e := coE1_mo a f cs m mo hp ct q
        rw [r] at e
        have e0 : coE1 a f cs m mo = 0 := e
        obtain ⟨_, _, _, hc, _⟩ := coE1_zero a f cs m mo e0
        refine ⟨by unfold coE; rw [if_pos hE, if_pos e0], by unfold coN; rw [if_pos hE, if_pos e0]; cases topI (coB a f cs mo) m <;> rfl, fun i hi => (hc i hi).1⟩)
      have F0 : Hid (∀ z, z = m → ffE (ckG cs) 0 z = ffE (ckG cs) 0 m) := Lib.hid (fun z hz => by rw [hz])
      have FS := Lib.hid (ffE_step (ckG cs))
      have GC : Hid (∀ i, ckG cs i = if inB (cs i) 1 1000000 = true then (if i = 0 ∨ cs (i - 1) < cs i then 0 else 9) else 2) := Lib.hid (fun i => by
        unfold ckG ascB
        cases inB (cs i) 1 1000000
        · simp [fst, unl]
        · by_cases q : i = 0 ∨ cs (i - 1) < cs i
          · rw [if_pos q]; simp [fst, unl, q]
          · rw [if_neg q]; simp [fst, unl, q])
      have HCK := Lib.hid (fun v w => rClock_any v w)
      have HWI := Lib.hid (fun w => within_any mo 0 1000000000000 w)
      have FE0 : a.fe f = 0 := by rw [fe_place a f hE]; exact hp
      have HFO : Hid (∀ v, 1 ≤ v → v ≤ 1000000 → ∀ w', SpAt A a.n a.p w' → Calls Tryz.prog 62 #[.agg #[.slice A a.n c, .int .i64 a.m.wd, .int .i64 a.m.mt, .int .i64 a.m.sk, .int .i64 a.m.th, .int .i64 v], .agg #[.int .i64 f.x, .int .i64 f.z]] w' fun e_ w'' => ∃ (x : Int) (A5 : Option Addr) (n5 c5 : Nat), e_ = .returned (.tuple #[.agg #[.int .i64 x, .slice A5 n5 c5], .int .i64 ((a.wck v).FE f)]) ∧ ((a.wck v).FE f = 0 → x = v ∧ n5 = a.n ∧ InAt A5 a.n ((a.wck v).dl f) w'') ∧ Below w'.heap.size w' w'') := Lib.hid (fun v v0 v1 w' h => by
        obtain ⟨ad, rfl⟩ := h.some n0
        have q := wck_E a v hE v0 v1
        have eF : (a.wck v).FLE f = (a.wck v).FE f := by unfold La.FLE; rw [if_pos q]
        refine (rFocus_any (a.wck v) f ad c w' q FE0 h).mono (fun e_ w'' hh => ?_)
        rw [eF] at hh
        obtain ⟨A5, m5, c5, e1, hg, _, _, _, hb⟩ := hh
        refine ⟨_, A5, m5, c5, e1, fun q => ?_, hb⟩
        rw [if_pos q]
        exact ⟨rfl, (hg q).1, (hg q).2⟩)
      have HSP : Hid (∀ v, 1 ≤ v → v ≤ 1000000 → (a.wck v).FE f = 0 → ∀ B_ e_ w', SpAt A a.n a.p w' → InAt B_ a.n ((a.wck v).dl f) w' → Calls Tryz.prog 56 #[.agg #[.slice A a.n c, .int .i64 a.m.wd, .int .i64 a.m.mt, .int .i64 a.m.sk, .int .i64 a.m.th, .int .i64 v], .agg #[.int .i64 v, .slice B_ a.n e_], .agg #[.int .i64 f.x, .int .i64 f.z]] w' fun e_ w'' => e_ = .returned (.tuple #[.agg #[.int .i64 ((a.wck v).spLo (cD (a.wck v) f) f), .int .i64 ((a.wck v).spHi (cD (a.wck v) f) f)], .int .i64 ((a.wck v).spE (cD (a.wck v) f) f)]) ∧ Below w'.heap.size w' w'') := Lib.hid (fun v v0 v1 q B_ e_ w' h g => rSpread_any (a.wck v) (cD (a.wck v) f) f A c B_ e_ w' n1 FE0 v0 v1 (dl_in (a.wck v) f n0 v0 q).2.2.2 h g)
      have MT : Hid (∀ i, coB a f cs mo i = (decide ((a.wck (cs i)).FE f = 0) && (decide ((a.wck (cs i)).spE (cD (a.wck (cs i)) f) f = 0) && decide ((a.wck (cs i)).spHi (cD (a.wck (cs i)) f) f ≤ mo)))) := Lib.hid (fun i => rfl)
      have TN := Lib.hid (fun n h => topI_none (coB a f cs mo) n h)
      have TS := Lib.hid (fun j hj n h1 h2 => topI_some (coB a f cs mo) j hj n h1 h2)
      have F9 : Hid (∀ n, ffE (ckG cs) n (n - n) = 0) := Lib.hid (fun n => by rw [Nat.sub_self]; rfl)
      generalize coE a f cs m mo = E at *
      generalize coN a f cs m mo = N at *
      generalize hEF : ffE (ckG cs) 0 m = EF at *
      generalize coB a f cs mo = B at *
      generalize ckG cs = gg at *
      clear hE hp ct FE0 CB hEF
      go_enter Tryz.func25, Tryz.ntmps25
      go_wp2_with fail
      obtain ⟨w1, hw_w1⟩ : ∃ q_, q_ = (((w.alloc (.cells #[.slice A a.n c, .int .i64 a.m.wd, .int .i64 a.m.mt, .int .i64 a.m.sk, .int .i64 a.m.th, .int .i64 a.ck] 26)).alloc (.cells #[.int .i64 f.x, .int .i64 f.z] 45)).alloc (.cells #[.slice D m k, .int .i64 mo] 56)) := ⟨_, rfl⟩
      rw [← hw_w1]
      have q10 : w1.cell? ⟨w.heap.size, 0, none⟩ = some (.slice A a.n c) := by rw [hw_w1]; simp [go_sem]
      have q11 : w1.cell? ⟨w.heap.size, 1, none⟩ = some (.int .i64 a.m.wd) := by rw [hw_w1]; simp [go_sem]
      have q12 : w1.cell? ⟨w.heap.size, 2, none⟩ = some (.int .i64 a.m.mt) := by rw [hw_w1]; simp [go_sem]
      have q13 : w1.cell? ⟨w.heap.size, 3, none⟩ = some (.int .i64 a.m.sk) := by rw [hw_w1]; simp [go_sem]
      have q14 : w1.cell? ⟨w.heap.size, 4, none⟩ = some (.int .i64 a.m.th) := by rw [hw_w1]; simp [go_sem]
      have q15 : w1.cell? ⟨w.heap.size, 5, none⟩ = some (.int .i64 a.ck) := by rw [hw_w1]; simp [go_sem]
      have q16 : w1.cell? ⟨w.heap.size + 1, 0, none⟩ = some (.int .i64 f.x) := by rw [hw_w1]; simp [go_sem]
      have q17 : w1.cell? ⟨w.heap.size + 1, 1, none⟩ = some (.int .i64 f.z) := by rw [hw_w1]; simp [go_sem]
      have q18 : w1.cell? ⟨w.heap.size + 1 + 1, 0, none⟩ = some (.slice D m k) := by rw [hw_w1]; simp [go_sem]
      have q19 : w1.cell? ⟨w.heap.size + 1 + 1, 1, none⟩ = some (.int .i64 mo) := by rw [hw_w1]; simp [go_sem]
      have qf10 : w1.frozen? ⟨w.heap.size, 5, none⟩ = false := by rw [hw_w1]; simp [go_sem]
      have H1 : Hid (Below w.heap.size w w1) := Lib.hid (by rw [hw_w1]; exact (by repeat (first | exact Below.refl _ _ | refine Below.drew ?_ | refine below_drewN ?_ _ | refine Below.setCell ?_ (by first | omega | (simp; done) | (simp; omega)) _ | refine Below.alloc ?_ (by first | omega | (simp; done) | (simp; omega)) _)))
      have z1 : w1.heap.size = w.heap.size + 3 := by rw [hw_w1]; simp
      clear hw_w1
      have zw1 : w.heap.size + 1 + 1 < w1.heap.size := by omega
      clear z1
      go_loopw [8] (fun s8 wr => ∃ j : Nat, j ≤ m ∧ s8 = .int .i64 (j : Int) ∧ ffE gg j (m - j) = EF ∧ Below w1.heap.size w1 wr) (fun s8 _ => m - (intOf s8).toNat)
      case atStart => exact ⟨0, Nat.zero_le _, rfl, F0.out _ (Nat.sub_zero m), Below.refl _ _⟩
      case round =>
        obtain ⟨j, hj, rfl, hf, hb⟩ := hrel
        have HF := Lib.hid hf
        have HBw := Lib.hid hb
        have HW : Hid (Below w.heap.size w wr) := Lib.hid (below_then H1.out hb)
        have r0 : wr.cell? ⟨w.heap.size, 0, none⟩ = some (.slice A a.n c) := cell_later hb q10
        have r1 : wr.cell? ⟨w.heap.size, 1, none⟩ = some (.int .i64 a.m.wd) := cell_later hb q11
        have r2 : wr.cell? ⟨w.heap.size, 2, none⟩ = some (.int .i64 a.m.mt) := cell_later hb q12
        have r3 : wr.cell? ⟨w.heap.size, 3, none⟩ = some (.int .i64 a.m.sk) := cell_later hb q13
        have r4 : wr.cell? ⟨w.heap.size, 4, none⟩ = some (.int .i64 a.m.th) := cell_later hb q14
        have r5 : wr.cell? ⟨w.heap.size, 5, none⟩ = some (.int .i64 a.ck) := cell_later hb q15
        have r6 : wr.cell? ⟨w.heap.size + 1, 0, none⟩ = some (.int .i64 f.x) := cell_later hb q16
        have r7 : wr.cell? ⟨w.heap.size + 1, 1, none⟩ = some (.int .i64 f.z) := cell_later hb q17
        have r8 : wr.cell? ⟨w.heap.size + 1 + 1, 0, none⟩ = some (.slice D m k) := cell_later hb q18
        have r9 : wr.cell? ⟨w.heap.size + 1 + 1, 1, none⟩ = some (.int .i64 mo) := cell_later hb q19
        have rf : wr.frozen? ⟨w.heap.size, 5, none⟩ = false := frozen_after hb q15 qf10
        have zr0 := World.block_lt_of_cell? _ _ r0
        have zr6 := World.block_lt_of_cell? _ _ r6
        have zr8 := World.block_lt_of_cell? _ _ r8
        dsimp only at zr0 zr6 zr8
        clear hb hf
        by_cases hlt : j < m
        · obtain ⟨aD, rfl⟩ := HT.out.some (by omega)
          have c0 := (HT.out.later HW.out).at hlt
          have j0 : (0 : Int) ≤ (j : Int) := Int.natCast_nonneg _
          have j1 : (j : Int) < (m : Int) := by omega
          have j8 : (j : Int) < 1000 := by omega
          have FJ := Lib.hid (FS.out j m hlt)
          have GJ := Lib.hid (GC.out j)
          have HCJ := Lib.hid (fun w => HCK.out (cs j) w)
          by_cases hin : inB (cs j) 1 1000000 = true
          · have gj := GJ.out
            rw [if_pos hin] at gj
            have GK := Lib.hid gj
            have HCZ : Hid (∀ w, Calls Tryz.prog 31 #[.int .i64 (cs j)] w fun e w' => e = .returned (.int .i64 0) ∧ w = w') := Lib.hid (fun w => by have := HCJ.out w; rw [hin] at this; exact this)
            clear gj hin GJ HCJ
            go_wp2_with (go_at_call 31; (with_reducible refine (HCZ.out _).mono ?_); rintro e w' ⟨rfl, rfl⟩)
            by_cases hj0 : j = 0
            · have HG : Hid (ffE gg (j + 1) (m - (j + 1)) = EF) := Lib.hid (by rw [← HF.out, FJ.out, if_pos (by rw [GK.out, if_pos (.inl hj0)])])
              have d0 : decide ((j : Int) > 0) = false := by simp; omega
              have d1 : decide ((0 : Int) < (j : Int)) = false := by simp; omega
              have d2 : decide (0 < j) = false := by simp; omega
              clear hj0
              go_quiet (fail)
              obtain ⟨wq, hwq⟩ : ∃ q_, q_ = wr.drewN nq := ⟨_, rfl⟩
              rw [← hwq]
              have HB2 : Hid (Below w1.heap.size w1 wq) := Lib.hid (by rw [hwq]; exact below_drewN HBw.out _)
              clear hwq
              go_wp2
              go_roundw
              case rel => exact ⟨j + 1, by omega, by go_num, HG.out, HB2.out⟩
              case measure => simp [intOf]; omega
            · have e5 := (HT.out.later HW.out).at (show j - 1 < m by omega)
              have d0 : decide ((j : Int) > 0) = true := by simp; omega
              have d1 : decide ((0 : Int) < (j : Int)) = true := by simp; omega
              have d2 : decide (0 < j) = true := by simp; omega
              have p0 : (0 : Int) ≤ (j : Int) - 1 := by omega
              have p1 : (j : Int) - 1 < (m : Int) := by omega
              have p2 : ((j : Int) - 1).toNat = j - 1 := by omega
              have hj9 : 0 < j := by omega
              by_cases hl : cs (j - 1) < cs j
              · have HG : Hid (ffE gg (j + 1) (m - (j + 1)) = EF) := Lib.hid (by rw [← HF.out, FJ.out, if_pos (by rw [GK.out, if_pos (.inr hl)])])
                have d3 : decide (cs j ≤ cs (j - 1)) = false := by simp; omega
                generalize cs (j - 1) = cp at *
                go_quiet (fail)
                obtain ⟨wq, hwq⟩ : ∃ q_, q_ = wr.drewN nq := ⟨_, rfl⟩
                rw [← hwq]
                have HB2 : Hid (Below w1.heap.size w1 wq) := Lib.hid (by rw [hwq]; exact below_drewN HBw.out _)
                clear hwq
                go_wp2
                go_roundw
                case rel => exact ⟨j + 1, by omega, by go_num, HG.out, HB2.out⟩
                case measure => simp [intOf]; omega
              · have EQ : EF = 9 := by
                  have q9 : gg j = 9 := by rw [GK.out, if_neg (by omega)]
                  rw [← HF.out, FJ.out, if_neg (by rw [q9]; decide), q9]
                obtain ⟨x1, x2⟩ := XF.out (by rw [EQ]; decide)
                rw [EQ] at x1
                have QE := Lib.hid x1; have QN := Lib.hid x2
                have d3 : decide (cs j ≤ cs (j - 1)) = true := by simp; omega
                clear x1 x2 EQ hl GK FJ
                generalize cs (j - 1) = cp at *
                go_quiet (fail)
                obtain ⟨wq, hwq⟩ : ∃ q_, q_ = wr.drewN nq := ⟨_, rfl⟩
                rw [← hwq]
                have HB2 : Hid (Below w.heap.size w wq) := Lib.hid (by rw [hwq]; exact below_drewN HW.out _)
                clear hwq
                go_wp2
                go_ret2
                exact ⟨by rw [QE.out, QN.out] <;> rfl, (by (repeat (first | (with_reducible exact HB2.out) | (with_reducible refine Below.setCell ?_ ?_ _) | (with_reducible refine below_alloc_top ?_ _) | (with_reducible refine Below.drew ?_))); all_goals (first | omega | (simp; done) | (simp; omega)))⟩
          · have gj := GJ.out
            rw [if_neg hin] at gj
            have hin' : inB (cs j) 1 1000000 = false := by simpa using hin
            have EQ : EF = 2 := by rw [← HF.out, FJ.out, if_neg (by rw [gj]; decide), gj]
            obtain ⟨x1, x2⟩ := XF.out (by rw [EQ]; decide)
            rw [EQ] at x1
            have QE := Lib.hid x1; have QN := Lib.hid x2
            have HCZ : Hid (∀ w, Calls Tryz.prog 31 #[.int .i64 (cs j)] w fun e w' => e = .returned (.int .i64 2) ∧ w = w') := Lib.hid (fun w => by have := HCJ.out w; rw [hin'] at this; exact this)
            clear x1 x2 EQ gj hin hin' GJ HCJ FJ
            go_wp2_with (go_at_call 31; (with_reducible refine (HCZ.out _).mono ?_); rintro e w' ⟨rfl, rfl⟩)
            go_ret2
            exact ⟨by rw [QE.out, QN.out] <;> rfl, (by (repeat (first | (with_reducible exact HW.out) | (with_reducible refine Below.setCell ?_ ?_ _) | (with_reducible refine below_alloc_top ?_ _) | (with_reducible refine Below.drew ?_))); all_goals (first | omega | (simp; done) | (simp; omega)))⟩
        · have hk' : j = m := by omega
          have kk : decide ((j : Int) < (m : Int)) = false := by simp; omega
          have EP0 : EF = 0 := by rw [← HF.out, hk']; exact F9.out m
          subst hk'
          clear HF F0 FS GC XF HCK
          by_cases hmo : inB mo 0 1000000000000 = true
          · obtain ⟨xe, xn, xc⟩ := XG.out EP0 hmo
            have XE := Lib.hid xe; have XN := Lib.hid xn; have XC := Lib.hid xc
            have HWT : Hid (∀ w, Calls Tryz.prog 16 #[.int .i64 mo, .int .i64 0, .int .i64 1000000000000] w fun e w' => e = .returned (.bool true) ∧ w = w') := Lib.hid (fun w => by have := HWI.out w; rw [hmo] at this; exact this)
            clear xe xn xc hmo XG XM HWI EP0
            have w0 : IntKind.i64.wrap ((j : Int) - 1) = (j : Int) - 1 := IntWalk.i64_in _ (by omega)
            obtain ⟨wp, hwp⟩ : ∃ q_, q_ = wr := ⟨_, rfl⟩
            subst hwp
            go_wp2_with (go_at_call 16; (with_reducible refine (HWT.out _).mono ?_); rintro e w' ⟨rfl, rfl⟩)
            go_loopw [10] (fun s10 wr => ∃ (q : Nat) (u : Int), q ≤ j ∧ s10 = .int .i64 ((j : Int) - 1 - q) ∧ (∀ i, j - q ≤ i → i < j → B i = false) ∧ wr.cell? ⟨w.heap.size, 0, none⟩ = some (.slice A a.n c) ∧ wr.cell? ⟨w.heap.size, 1, none⟩ = some (.int .i64 a.m.wd) ∧ wr.cell? ⟨w.heap.size, 2, none⟩ = some (.int .i64 a.m.mt) ∧ wr.cell? ⟨w.heap.size, 3, none⟩ = some (.int .i64 a.m.sk) ∧ wr.cell? ⟨w.heap.size, 4, none⟩ = some (.int .i64 a.m.th) ∧ wr.cell? ⟨w.heap.size, 5, none⟩ = some (.int .i64 u) ∧ wr.cell? ⟨w.heap.size + 1, 0, none⟩ = some (.int .i64 f.x) ∧ wr.cell? ⟨w.heap.size + 1, 1, none⟩ = some (.int .i64 f.z) ∧ wr.cell? ⟨w.heap.size + 1 + 1, 0, none⟩ = some (.slice D j k) ∧ wr.cell? ⟨w.heap.size + 1 + 1, 1, none⟩ = some (.int .i64 mo) ∧ wr.frozen? ⟨w.heap.size, 5, none⟩ = false ∧ Below w.heap.size w wr) (fun s10 _ => (intOf s10 + 1).toNat)
            case atStart => exact ⟨0, a.ck, Nat.zero_le _, by simp, fun i h1 h2 => absurd h2 (by omega), r0, r1, r2, r3, r4, r5, r6, r7, r8, r9, rf, HW.out⟩
            case round =>
              clear r0 r1 r2 r3 r4 r5 r6 r7 r8 r9 rf
              obtain ⟨q, u, hqj, rfl, hall, t0, t1, t2, t3, t4, t5, t6, t7, t8, t9, tf, hb⟩ := hrel
              have HA := Lib.hid hall
              have HWq := Lib.hid hb
              have zt0 := World.block_lt_of_cell? _ _ t0
              have zt6 := World.block_lt_of_cell? _ _ t6
              have zt8 := World.block_lt_of_cell? _ _ t8
              dsimp only at zt0 zt6 zt8
              clear hb hall
              by_cases hlt : q < j
              · obtain ⟨aD, rfl⟩ := HT.out.some (by omega)
                have hx : j - 1 - q < j := by omega
                have c0 := (HT.out.later HWq.out).at hx
                have zaD := World.block_lt_of_cell? _ _ (HT.out.at hx)
                obtain ⟨v0, v1⟩ := XC.out (j - 1 - q) hx
                have dd : decide ((j : Int) - 1 - q ≥ 0) = true := by simp; omega
                have d2 : decide ((0 : Int) ≤ (j : Int) - 1 - q) = true := by simp; omega
                have j0 : (0 : Int) ≤ (j : Int) - 1 - q := by omega
                have j1 : (j : Int) - 1 - q < (j : Int) := by omega
                have j2 : ((j : Int) - 1 - q).toNat = j - 1 - q := by omega
                have w2 : IntKind.i64.wrap ((j : Int) - 1 - q - 1) = (j : Int) - 1 - q - 1 := IntWalk.i64_in _ (by omega)
                have HFQ := Lib.hid (fun w' h => HFO.out _ v0 v1 w' h)
                have HSQ := Lib.hid (fun h0 B_ e_ w' h g => HSP.out _ v0 v1 h0 B_ e_ w' h g)
                have MQ := Lib.hid (MT.out (j - 1 - q))
                generalize hxx : cs (j - 1 - q) = v at *
                have HXX := Lib.hid hxx
                clear hxx
                generalize (a.wck v).FE f = fe at *
                generalize (a.wck v).dl f = dl at *
                generalize (a.wck v).spE (cD (a.wck v) f) f = es at *
                generalize (a.wck v).spHi (cD (a.wck v) f) f = hi at *
                generalize (a.wck v).spLo (cD (a.wck v) f) f = lo at *
                go_upto_region 19 with fail
                obtain ⟨wS, hw_⟩ : ∃ q_, q_ = wr.setCell ⟨w.heap.size, 5, none⟩ (.int .i64 v) := ⟨_, rfl⟩
                rw [← hw_]
                have u0 : wS.cell? ⟨w.heap.size, 0, none⟩ = some (.slice A a.n c) := by rw [hw_]; exact setO (.inr (by dsimp only; omega)) t0
                have u1 : wS.cell? ⟨w.heap.size, 1, none⟩ = some (.int .i64 a.m.wd) := by rw [hw_]; exact setO (.inr (by dsimp only; omega)) t1
                have u2 : wS.cell? ⟨w.heap.size, 2, none⟩ = some (.int .i64 a.m.mt) := by rw [hw_]; exact setO (.inr (by dsimp only; omega)) t2
                have u3 : wS.cell? ⟨w.heap.size, 3, none⟩ = some (.int .i64 a.m.sk) := by rw [hw_]; exact setO (.inr (by dsimp only; omega)) t3
                have u4 : wS.cell? ⟨w.heap.size, 4, none⟩ = some (.int .i64 a.m.th) := by rw [hw_]; exact setO (.inr (by dsimp only; omega)) t4
                have u5 : wS.cell? ⟨w.heap.size, 5, none⟩ = some (.int .i64 v) := by rw [hw_]; exact setS t5
                have u6 : wS.cell? ⟨w.heap.size + 1, 0, none⟩ = some (.int .i64 f.x) := by rw [hw_]; exact setO (.inl (by dsimp only; omega)) t6
                have u7 : wS.cell? ⟨w.heap.size + 1, 1, none⟩ = some (.int .i64 f.z) := by rw [hw_]; exact setO (.inl (by dsimp only; omega)) t7
                have u8 : wS.cell? ⟨w.heap.size + 1 + 1, 0, none⟩ = some (.slice (some aD) j k) := by rw [hw_]; exact setO (.inl (by dsimp only; omega)) t8
                have u9 : wS.cell? ⟨w.heap.size + 1 + 1, 1, none⟩ = some (.int .i64 mo) := by rw [hw_]; exact setO (.inl (by dsimp only; omega)) t9
                have uf : wS.frozen? ⟨w.heap.size, 5, none⟩ = false := by rw [hw_]; exact setF tf
                have HWS : Hid (Below w.heap.size w wS) := Lib.hid (by rw [hw_]; exact HWq.out.setCell (Nat.le_refl _) _)
                have c0 : wS.cell? (aD.add (j - 1 - q)) = some (.int .i64 v) := by rw [hw_]; exact setO (.inl (by dsimp only; omega)) c0
                have zu0 := World.block_lt_of_cell? _ _ u0
                have zu6 := World.block_lt_of_cell? _ _ u6
                have zu8 := World.block_lt_of_cell? _ _ u8
                dsimp only at zu0 zu6 zu8
                clear hw_ t0 t1 t2 t3 t4 t5 t6 t7 t8 t9 tf zt0 zt6 zt8
                go_wp2_with fail
                refine (HFQ.out _ (HX.out.later HWS.out)).mono ?_
                rintro e_ wA ⟨x5, A5, m5, c5, rfl, hg, hb⟩
                have k61_0 := cell_later hb u0
                have k61_1 := cell_later hb u1
                have k61_2 := cell_later hb u2
                have k61_3 := cell_later hb u3
                have k61_4 := cell_later hb u4
                have k61_5 := cell_later hb u5
                have k61_6 := cell_later hb u6
                have k61_7 := cell_later hb u7
                have k61_8 := cell_later hb u8
                have k61_9 := cell_later hb u9
                have k61_10 := cell_later hb c0
                have f61_0 := frozen_after hb u5 uf
                have B61 : Hid (Below w.heap.size w wA) := Lib.hid (below_then HWS.out hb)
                clear u0 u1 u2 u3 u4 u5 u6 u7 u8 u9 c0 uf HWS
                have z61_0 := World.block_lt_of_cell? _ _ k61_0
                (try dsimp only at z61_0)
                have z61_6 := World.block_lt_of_cell? _ _ k61_6
                (try dsimp only at z61_6)
                have z61_8 := World.block_lt_of_cell? _ _ k61_8
                (try dsimp only at z61_8)
                have z61_10 := World.block_lt_of_cell? _ _ k61_10
                (try dsimp only at z61_10)
                clear hb
                go_upto_region 20 with fail
                obtain ⟨wB, hw_⟩ : ∃ q_, q_ = wA.alloc (.cells #[.int .i64 x5, .slice A5 m5 c5] 33) := ⟨_, rfl⟩
                rw [← hw_]
                have hb : Below wA.heap.size wA wB := by rw [hw_]; exact (Below.refl _ _).alloc (Nat.le_refl _) _
                have n62_0 : wB.cell? ⟨wA.heap.size, 0, none⟩ = some (.int .i64 x5) := by rw [hw_]; simp [go_sem]
                have n62_1 : wB.cell? ⟨wA.heap.size, 1, none⟩ = some (.slice A5 m5 c5) := by rw [hw_]; simp [go_sem]
                have k62_0 := cell_later hb k61_0
                have k62_1 := cell_later hb k61_1
                have k62_2 := cell_later hb k61_2
                have k62_3 := cell_later hb k61_3
                have k62_4 := cell_later hb k61_4
                have k62_5 := cell_later hb k61_5
                have k62_6 := cell_later hb k61_6
                have k62_7 := cell_later hb k61_7
                have k62_8 := cell_later hb k61_8
                have k62_9 := cell_later hb k61_9
                have k62_10 := cell_later hb k61_10
                have f62_0 := frozen_after hb k61_5 f61_0
                have B62 : Hid (Below w.heap.size w wB) := Lib.hid (below_then B61.out hb)
                clear k61_0 k61_1 k61_2 k61_3 k61_4 k61_5 k61_6 k61_7 k61_8 k61_9 k61_10 f61_0 B61
                have z62_0 := World.block_lt_of_cell? _ _ k62_0
                (try dsimp only at z62_0)
                have z62_6 := World.block_lt_of_cell? _ _ k62_6
                (try dsimp only at z62_6)
                have z62_8 := World.block_lt_of_cell? _ _ k62_8
                (try dsimp only at z62_8)
                have z62_10 := World.block_lt_of_cell? _ _ k62_10
                (try dsimp only at z62_10)
                have zn62 : wA.heap.size < wB.heap.size := by rw [hw_]; simp
                have HBB := Lib.hid hb
                clear hb hw_
                by_cases hE : fe = 0
                · obtain ⟨p1, p2, ig⟩ := hg hE
                  have p1' := p1.symm
                  clear p1
                  subst p1'
                  subst p2
                  have HSZ := Lib.hid (HSQ.out hE)
                  subst hE
                  have IG := Lib.hid (ig.later HBB.out)
                  clear ig hg HSQ
                  go_wp2_with fail
                  refine (HSZ.out _ _ _ (HX.out.later B62.out) IG.out).mono ?_
                  rintro e_ wC ⟨rfl, hb⟩
                  have k63_0 := cell_later hb k62_0
                  have k63_1 := cell_later hb k62_1
                  have k63_2 := cell_later hb k62_2
                  have k63_3 := cell_later hb k62_3
                  have k63_4 := cell_later hb k62_4
                  have k63_5 := cell_later hb k62_5
                  have k63_6 := cell_later hb k62_6
                  have k63_7 := cell_later hb k62_7
                  have k63_8 := cell_later hb k62_8
                  have k63_9 := cell_later hb k62_9
                  have k63_10 := cell_later hb k62_10
                  have k63_11 := cell_later hb n62_0
                  have k63_12 := cell_later hb n62_1
                  have f63_0 := frozen_after hb k62_5 f62_0
                  have B63 : Hid (Below w.heap.size w wC) := Lib.hid (below_then B62.out hb)
                  clear k62_0 k62_1 k62_2 k62_3 k62_4 k62_5 k62_6 k62_7 k62_8 k62_9 k62_10 n62_0 n62_1 f62_0 B62
                  have z63_0 := World.block_lt_of_cell? _ _ k63_0
                  (try dsimp only at z63_0)
                  have z63_6 := World.block_lt_of_cell? _ _ k63_6
                  (try dsimp only at z63_6)
                  have z63_8 := World.block_lt_of_cell? _ _ k63_8
                  (try dsimp only at z63_8)
                  have z63_10 := World.block_lt_of_cell? _ _ k63_10
                  (try dsimp only at z63_10)
                  have z63_11 := World.block_lt_of_cell? _ _ k63_11
                  (try dsimp only at z63_11)
                  clear hb
                  go_upto_region 22 with fail
                  obtain ⟨wD, hw_⟩ : ∃ q_, q_ = wC.alloc (.cells #[.int .i64 lo, .int .i64 hi] 74) := ⟨_, rfl⟩
                  rw [← hw_]
                  have hb : Below wC.heap.size wC wD := by rw [hw_]; exact (Below.refl _ _).alloc (Nat.le_refl _) _
                  have n64_0 : wD.cell? ⟨wC.heap.size, 0, none⟩ = some (.int .i64 lo) := by rw [hw_]; simp [go_sem]
                  have n64_1 : wD.cell? ⟨wC.heap.size, 1, none⟩ = some (.int .i64 hi) := by rw [hw_]; simp [go_sem]
                  have k64_0 := cell_later hb k63_0
                  have k64_1 := cell_later hb k63_1
                  have k64_2 := cell_later hb k63_2
                  have k64_3 := cell_later hb k63_3
                  have k64_4 := cell_later hb k63_4
                  have k64_5 := cell_later hb k63_5
                  have k64_6 := cell_later hb k63_6
                  have k64_7 := cell_later hb k63_7
                  have k64_8 := cell_later hb k63_8
                  have k64_9 := cell_later hb k63_9
                  have k64_10 := cell_later hb k63_10
                  have k64_11 := cell_later hb k63_11
                  have k64_12 := cell_later hb k63_12
                  have f64_0 := frozen_after hb k63_5 f63_0
                  have B64 : Hid (Below w.heap.size w wD) := Lib.hid (below_then B63.out hb)
                  clear k63_0 k63_1 k63_2 k63_3 k63_4 k63_5 k63_6 k63_7 k63_8 k63_9 k63_10 k63_11 k63_12 f63_0 B63
                  have z64_0 := World.block_lt_of_cell? _ _ k64_0
                  (try dsimp only at z64_0)
                  have z64_6 := World.block_lt_of_cell? _ _ k64_6
                  (try dsimp only at z64_6)
                  have z64_8 := World.block_lt_of_cell? _ _ k64_8
                  (try dsimp only at z64_8)
                  have z64_10 := World.block_lt_of_cell? _ _ k64_10
                  (try dsimp only at z64_10)
                  have z64_11 := World.block_lt_of_cell? _ _ k64_11
                  (try dsimp only at z64_11)
                  have zn64 : wC.heap.size < wD.heap.size := by rw [hw_]; simp
                  clear hb hw_
                  by_cases h1 : es = 0
                  · subst h1
                    by_cases h2 : hi ≤ mo
                    · have d9 : decide (hi ≤ mo) = true := by simpa using h2
                      have BT : B (j - 1 - q) = true := by rw [MQ.out]; simp [h2]
                      have T0 := TS.out (j - 1 - q) BT j hx (fun i h3 h4 => HA.out i (by omega) h4)
                      have e1 := XE.out; have e2 := XN.out
                      rw [T0] at e1 e2
                      rw [if_neg (by simp)] at e1
                      dsimp only at e2
                      rw [HXX.out] at e2
                      have QE := Lib.hid e1; have QN := Lib.hid e2
                      clear e1 e2 T0 BT h2 MQ
                      go_wp2
                      go_ret2
                      exact ⟨by rw [QE.out, QN.out] <;> rfl, (by (repeat (first | (with_reducible exact B64.out) | (with_reducible refine Below.setCell ?_ ?_ _) | (with_reducible refine below_alloc_top ?_ _) | (with_reducible refine Below.drew ?_))); all_goals (first | omega | (simp; done) | (simp; omega)))⟩
                    · have d9 : decide (hi ≤ mo) = false := by simp; omega
                      have BF : Hid (B (j - 1 - q) = false) := Lib.hid (by rw [MQ.out]; simp [h2])
                      clear h2 MQ
                      go_wp2
                      go_roundw
                      case rel => exact ⟨q + 1, v, by omega, by congr 1; omega, fun i h1 h2 => (by
                          by_cases qq : i = j - 1 - q
                          · rw [qq]; exact BF.out
                          · exact HA.out i (by omega) h2), k64_0, k64_1, k64_2, k64_3, k64_4, k64_5, k64_6, k64_7, k64_8, k64_9, f64_0, B64.out⟩
                      case measure => simp [intOf]; omega
                  · have d1 : (es == 0) = false := by simpa using h1
                    have BF : Hid (B (j - 1 - q) = false) := Lib.hid (by rw [MQ.out]; simp [h1])
                    clear h1 MQ
                    go_wp2
                    go_roundw
                    case rel => exact ⟨q + 1, v, by omega, by congr 1; omega, fun i h1 h2 => (by
                        by_cases qq : i = j - 1 - q
                        · rw [qq]; exact BF.out
                        · exact HA.out i (by omega) h2), k64_0, k64_1, k64_2, k64_3, k64_4, k64_5, k64_6, k64_7, k64_8, k64_9, f64_0, B64.out⟩
                    case measure => simp [intOf]; omega
                · have BF : Hid (B (j - 1 - q) = false) := Lib.hid (by rw [MQ.out]; simp [hE])
                  have n2 : (fe != 0) = true := by simpa using hE
                  clear hg HSQ hE MQ
                  go_wp2
                  go_roundw
                  case rel => exact ⟨q + 1, v, by omega, by congr 1; omega, fun i h1 h2 => (by
                      by_cases qq : i = j - 1 - q
                      · rw [qq]; exact BF.out
                      · exact HA.out i (by omega) h2), k62_0, k62_1, k62_2, k62_3, k62_4, k62_5, k62_6, k62_7, k62_8, k62_9, f62_0, B62.out⟩
                  case measure => simp [intOf]; omega
              · have hk2 : q = j := by omega
                have dd : decide ((j : Int) - 1 - q ≥ 0) = false := by simp; omega
                have d2 : decide ((0 : Int) ≤ (j : Int) - 1 - q) = false := by simp; omega
                have T0 := TN.out j (fun i hi => HA.out i (by omega) hi)
                have e1 := XE.out; have e2 := XN.out
                rw [T0] at e1 e2
                rw [if_pos rfl] at e1
                have QE := Lib.hid e1; have QN := Lib.hid e2
                clear e1 e2 T0
                go_wp2
                go_ret2
                exact ⟨by rw [QE.out, QN.out] <;> rfl, (by (repeat (first | (with_reducible exact HWq.out) | (with_reducible refine Below.setCell ?_ ?_ _) | (with_reducible refine below_alloc_top ?_ _) | (with_reducible refine Below.drew ?_))); all_goals (first | omega | (simp; done) | (simp; omega)))⟩
          · have hmo' : inB mo 0 1000000000000 = false := by simpa using hmo
            obtain ⟨x1, x2⟩ := XM.out EP0 hmo'
            have QE := Lib.hid x1; have QN := Lib.hid x2
            have HWT : Hid (∀ w, Calls Tryz.prog 16 #[.int .i64 mo, .int .i64 0, .int .i64 1000000000000] w fun e w' => e = .returned (.bool false) ∧ w = w') := Lib.hid (fun w => by have := HWI.out w; rw [hmo'] at this; exact this)
            clear x1 x2 hmo hmo' XG XM HWI EP0
            go_wp2_with (go_at_call 16; (with_reducible refine (HWT.out _).mono ?_); rintro e w' ⟨rfl, rfl⟩)
            go_ret2
            exact ⟨by rw [QE.out, QN.out] <;> rfl, (by (repeat (first | (with_reducible exact HW.out) | (with_reducible refine Below.setCell ?_ ?_ _) | (with_reducible refine below_alloc_top ?_ _) | (with_reducible refine Below.drew ?_))); all_goals (first | omega | (simp; done) | (simp; omega)))⟩
set_option maxRecDepth 100000 in
set_option maxHeartbeats 1000000 in
theorem few_any (n : Int) (w : World) :
    Calls Tryz.prog 9 #[.int .i64 n] w fun e w' => e = .returned (.bool (decide (n ≤ 18))) ∧ w = w' := by
  go_enter Tryz.func9, Tryz.ntmps9
  go_wp2
  go_ret
  exact ⟨rfl, rfl⟩
theorem co_E (a : La) (f : Sp) (cs : Nat → Int) (m : Nat) (mo : Int) (h : a.E ≠ 0) : coE a f cs m mo = a.E ∧ coN a f cs m mo = 0 := by
  unfold coE coN; rw [if_neg h, if_neg h]; exact ⟨rfl, rfl⟩
theorem co_P (a : La) (f : Sp) (cs : Nat → Int) (m : Nat) (mo : Int) (h : a.E = 0) (k : plE a f ≠ 0) : coE a f cs m mo = plE a f ∧ coN a f cs m mo = 0 := by
  have e : coE1 a f cs m mo = plE a f := by unfold coE1; simp [fst, k]
  unfold coE coN; rw [if_pos h, if_pos h, e, if_neg k, if_neg k]; exact ⟨rfl, rfl⟩
set_option maxRecDepth 100000 in
set_option maxHeartbeats 6000000 in
theorem clocks_any (a : La) (f : Sp) (cs : Nat → Int) (m : Nat) (mo : Int) (A : Option Addr) (c : Nat) (D : Option Addr) (k : Nat) (w : World) (hL : Laid w) (AWK : Hid (∀ w, Laid w → Calls Tryz.prog 8 #[] w fun e w' => e = .returned (.bool true) ∧ Below w.heap.size w w')) (hA : A = none → a.n = 0 ∧ c = 0) (hD : D = none → m = 0 ∧ k = 0) (h : SpAt A a.n a.p w) (g : InAt D m cs w) :
    Calls Tryz.prog 5 #[.agg #[.slice A a.n c, .int .i64 a.m.wd, .int .i64 a.m.mt, .int .i64 a.m.sk, .int .i64 a.m.th, .int .i64 a.ck], .agg #[.int .i64 f.x, .int .i64 f.z], .agg #[.slice D m k, .int .i64 mo]] w fun e w' => e = .returned (.bool true) ∧ Below w.heap.size w w' := by
  have HX := Lib.hid h; clear h
  have HT := Lib.hid g; clear g
  have LH := Lib.hid hL; clear hL
  by_cases h1 : a.n ≤ 18
  · have FA : Hid (decide ((a.n : Int) ≤ 18) = true) := Lib.hid (by simp; omega)
    by_cases h6 : m ≤ 6
    · have g6a : decide ((m : Int) > 6) = false := by simp; omega
      have k6 : decide ((6 : Int) < (m : Int)) = false := by simp; omega
      have l6 : decide (6 < m) = false := by simp; omega
      have g22a : decide ((m : Int) > 22) = false := by simp; omega
      have k22 : decide ((22 : Int) < (m : Int)) = false := by simp; omega
      have l22 : decide (22 < m) = false := by simp; omega
      have HCA : Hid (∀ w', SpAt A a.n a.p w' → Calls Tryz.prog 11 #[.agg #[.slice A a.n c, .int .i64 a.m.wd, .int .i64 a.m.mt, .int .i64 a.m.sk, .int .i64 a.m.th, .int .i64 a.ck]] w' fun e w'' => ∃ A1 c1, e = .returned (.agg #[.slice A1 a.n c1, .int .i64 a.m.wd, .int .i64 a.m.mt, .int .i64 a.m.sk, .int .i64 a.m.th, .int .i64 a.ck]) ∧ SpAt A1 a.n a.p w'' ∧ Below w'.heap.size w' w'') := Lib.hid (fun w' h => (copyArray_any a A c w' (by omega) hA h).mono (fun e w'' ⟨v, e1, ho, hb⟩ => by
        obtain ⟨A1, c1, rfl, _, hs⟩ := own_spots ho
        exact ⟨A1, c1, e1, hs, hb⟩))
      have HCI : Hid (∀ w', InAt D m cs w' → Calls Tryz.prog 23 #[.slice D m k] w' fun e_ w'' => ∃ A1 c1, e_ = .returned (.slice A1 m c1) ∧ InAt A1 m cs w'' ∧ Below w'.heap.size w' w'') := Lib.hid (fun w' h => (copyInts_any D m k cs w' (by omega) hD h).mono (fun e_ w'' ⟨v, e1, ho, hb⟩ => by
        obtain ⟨A1, c1, rfl, _, hs⟩ := own_ints2 ho
        exact ⟨A1, c1, e1, hs, hb⟩))
      have HCO := Lib.hid (fun A1 c1 D1 k1 w' h g => coarse_any a f cs m mo A1 c1 D1 k1 w' h g (by omega) (by omega))
      have HAE := Lib.hid (fun w h => wArrayErr_any a A c w h (by omega))
      have HPE : Hid (a.E = 0 → ∀ w', Calls Tryz.prog 24 #[.agg #[.slice A a.n c, .int .i64 a.m.wd, .int .i64 a.m.mt, .int .i64 a.m.sk, .int .i64 a.m.th, .int .i64 a.ck], .agg #[.int .i64 f.x, .int .i64 f.z]] w' fun e_ w'' => e_ = .returned (.int .i64 (plE a f)) ∧ Below w'.heap.size w' w'') := Lib.hid (fun q w' => rPlace_any a f A c w' ((La.E_zero a).1 q).2.2.1)
      have HRC : Hid (a.E = 0 → plE a f = 0 → ∀ w', SpAt A a.n a.p w' → InAt D m cs w' → Calls Tryz.prog 25 #[.agg #[.slice A a.n c, .int .i64 a.m.wd, .int .i64 a.m.mt, .int .i64 a.m.sk, .int .i64 a.m.th, .int .i64 a.ck], .agg #[.int .i64 f.x, .int .i64 f.z], .agg #[.slice D m k, .int .i64 mo]] w' fun e_ w'' => e_ = .returned (.tuple #[.int .i64 (coN a f cs m mo), .int .i64 (coE a f cs m mo)]) ∧ Below w'.heap.size w' w'') := Lib.hid (fun q r w' h g => rCoarse_any a f cs m mo A c D k w' q r h g (by omega))
      have P1 := Lib.hid (co_E a f cs m mo)
      have P2 := Lib.hid (co_P a f cs m mo)
      generalize coE a f cs m mo = E5 at *
      generalize coN a f cs m mo = N5 at *
      generalize plE a f = pe at *
      generalize a.E = ea at *
      clear hA hD
      go_enter Tryz.func5, Tryz.ntmps5
      go_wp2_with fail
      refine (AWK.out _ (LH.out.later (by repeat (first | exact Below.refl _ _ | refine Below.drew ?_ | refine below_drewN ?_ _ | refine Below.setCell ?_ (by first | omega | (simp; done) | (simp; omega)) _ | refine Below.alloc ?_ (by first | omega | (simp; done) | (simp; omega)) _)))).mono ?_
      rintro e w1 ⟨rfl, hb1⟩
      have qw10 : w1.cell? ⟨w.heap.size, 0, none⟩ = some (.slice A a.n c) := cell_later hb1 (by simp [go_sem])
      have qw11 : w1.cell? ⟨w.heap.size, 1, none⟩ = some (.int .i64 a.m.wd) := cell_later hb1 (by simp [go_sem])
      have qw12 : w1.cell? ⟨w.heap.size, 2, none⟩ = some (.int .i64 a.m.mt) := cell_later hb1 (by simp [go_sem])
      have qw13 : w1.cell? ⟨w.heap.size, 3, none⟩ = some (.int .i64 a.m.sk) := cell_later hb1 (by simp [go_sem])
      have qw14 : w1.cell? ⟨w.heap.size, 4, none⟩ = some (.int .i64 a.m.th) := cell_later hb1 (by simp [go_sem])
      have qw15 : w1.cell? ⟨w.heap.size, 5, none⟩ = some (.int .i64 a.ck) := cell_later hb1 (by simp [go_sem])
      have qw16 : w1.cell? ⟨w.heap.size + 1, 0, none⟩ = some (.int .i64 f.x) := cell_later hb1 (by simp [go_sem])
      have qw17 : w1.cell? ⟨w.heap.size + 1, 1, none⟩ = some (.int .i64 f.z) := cell_later hb1 (by simp [go_sem])
      have qw18 : w1.cell? ⟨w.heap.size + 1 + 1, 0, none⟩ = some (.slice D m k) := cell_later hb1 (by simp [go_sem])
      have qw19 : w1.cell? ⟨w.heap.size + 1 + 1, 1, none⟩ = some (.int .i64 mo) := cell_later hb1 (by simp [go_sem])
      have zqw1_0 := World.block_lt_of_cell? _ _ qw10
      dsimp only at zqw1_0
      have zqw1_6 := World.block_lt_of_cell? _ _ qw16
      dsimp only at zqw1_6
      have zqw1_8 := World.block_lt_of_cell? _ _ qw18
      dsimp only at zqw1_8
      have H1 : Hid (Below w.heap.size w w1) := Lib.hid (below_after (by repeat (first | exact Below.refl _ _ | refine Below.drew ?_ | refine below_drewN ?_ _ | refine Below.setCell ?_ (by first | omega | (simp; done) | (simp; omega)) _ | refine Below.alloc ?_ (by first | omega | (simp; done) | (simp; omega)) _)) hb1 (by first | omega | (simp; done) | (simp; omega))); clear hb1
      have R1_0 := Lib.hid (HX.out.later H1.out)
      have R1_1 := Lib.hid (HT.out.later H1.out)
      go_upto_region 5 with (go_at_call 9; (with_reducible refine (few_any _ _).mono ?_); rw [FA.out]; rintro e w' ⟨rfl, rfl⟩)
      have hS : Below w1.heap.size w1 w1 := Below.refl _ _
      go_cut [7, 8] (fun s7 s8 wx => s7 = .int .i64 N5 ∧ s8 = .int .i64 E5 ∧ Below w1.heap.size w1 wx)
      case first =>
        as_aux_lemma =>
          go_region_held3 (fun w' => w'.cell? ⟨w.heap.size, 0, none⟩ = some (.slice A a.n c) ∧ w'.cell? ⟨w.heap.size, 1, none⟩ = some (.int .i64 a.m.wd) ∧ w'.cell? ⟨w.heap.size, 2, none⟩ = some (.int .i64 a.m.mt) ∧ w'.cell? ⟨w.heap.size, 3, none⟩ = some (.int .i64 a.m.sk) ∧ w'.cell? ⟨w.heap.size, 4, none⟩ = some (.int .i64 a.m.th) ∧ w'.cell? ⟨w.heap.size, 5, none⟩ = some (.int .i64 a.ck) ∧ w'.cell? ⟨w.heap.size + 1, 0, none⟩ = some (.int .i64 f.x) ∧ w'.cell? ⟨w.heap.size + 1, 1, none⟩ = some (.int .i64 f.z) ∧ w'.cell? ⟨w.heap.size + 1 + 1, 0, none⟩ = some (.slice D m k) ∧ w'.cell? ⟨w.heap.size + 1 + 1, 1, none⟩ = some (.int .i64 mo) ∧ Below w1.heap.size w1 w') (((go_split_ands; (repeat' apply And.intro) <;> ((repeat (first | (with_reducible assumption) | (with_reducible exact Below.refl _ _) | (with_reducible refine cell_alloc_later ?_ _) | (with_reducible refine cell_drewA ?_) | (with_reducible refine cellA (by with_reducible assumption) ?_) | (with_reducible refine belowA ?_ (by with_reducible assumption)) | (with_reducible refine below_alloc_top ?_ _) | (with_reducible refine Below.drew ?_) | (with_reducible refine cell_set_old ?_ (by with_reducible assumption)) | (with_reducible refine below_set_old ?_ (by with_reducible assumption)) | (with_reducible refine Below.setCell ?_ (by first | omega | (simp; done) | (simp; omega)) _) | (simp [go_sem, World.cell?_alloc_past, *]; done))); done))))
            (first
              | (go_split_ands; go_at_call 11; (with_reducible refine (HCA.out _ (R1_0.out.later (by with_reducible assumption))).mono ?_); rintro e w' ⟨A1, c1, rfl, hs, hb⟩; have hbA : BelA _ w' := hb; obtain ⟨hc', hf'⟩ := bcell hb; have hz' := hb.size; (try simp at hz'); (first | (have tF' := Nat.lt_of_succ_le hz') | (have tF' := Nat.lt_of_lt_of_le tF' hz') | skip); clear hb)
              | (go_split_ands; go_at_call 23; (with_reducible refine (HCI.out _ (R1_1.out.later (by with_reducible assumption))).mono ?_); rintro e w' ⟨A2, c2, rfl, hi_, hb⟩; have hbA : BelA _ w' := hb; obtain ⟨hc', hf'⟩ := bcell hb; have hz' := hb.size; (try simp at hz'); (first | (have tF' := Nat.lt_of_succ_le hz') | (have tF' := Nat.lt_of_lt_of_le tF' hz') | skip); clear hb)
              | (go_split_ands; go_at_call 22; (with_reducible refine (HCO.out _ _ _ _ _ (by repeat (first | (with_reducible assumption) | (with_reducible refine SpAt.laterA (by with_reducible assumption) ?_) | (with_reducible refine SpAt.alloc ?_ _) | (with_reducible refine SpAt.drew ?_))) (by repeat (first | (with_reducible assumption) | (with_reducible refine InAt.laterA (by with_reducible assumption) ?_) | (with_reducible refine InAt.alloc ?_ _) | (with_reducible refine InAt.drew ?_)))).mono ?_); rintro e w' ⟨rfl, hb⟩; have hbA : BelA _ w' := hb; obtain ⟨hc', hf'⟩ := bcell hb; have hz' := hb.size; (try simp at hz'); (first | (have tF' := Nat.lt_of_succ_le hz') | (have tF' := Nat.lt_of_lt_of_le tF' hz') | skip); clear hb))
          all_goals
            go_split_ands
            go_wp2_with fail
            go_meet
            exact ⟨rfl, rfl, (by first | (with_reducible assumption) | (simp [go_sem, World.cell?_alloc_past, *]; done))⟩
      case rest =>
        obtain ⟨rfl, rfl, bel⟩ := hcut
        clear hS
        obtain ⟨wB, hw_⟩ : ∃ q_, q_ = wc := ⟨_, rfl⟩
        subst hw_
        have k2_0 := cell_later bel qw10
        have k2_1 := cell_later bel qw11
        have k2_2 := cell_later bel qw12
        have k2_3 := cell_later bel qw13
        have k2_4 := cell_later bel qw14
        have k2_5 := cell_later bel qw15
        have k2_6 := cell_later bel qw16
        have k2_7 := cell_later bel qw17
        have k2_8 := cell_later bel qw18
        have k2_9 := cell_later bel qw19
        have R2_0 := Lib.hid (R1_0.out.later bel)
        have R2_1 := Lib.hid (R1_1.out.later bel)
        have B2 : Hid (Below w.heap.size w wB) := Lib.hid (below_then H1.out bel)
        clear qw10 qw11 qw12 qw13 qw14 qw15 qw16 qw17 qw18 qw19 R1_0 R1_1 H1
        have z2_0 := World.block_lt_of_cell? _ _ k2_0
        (try dsimp only at z2_0)
        have z2_6 := World.block_lt_of_cell? _ _ k2_6
        (try dsimp only at z2_6)
        have z2_8 := World.block_lt_of_cell? _ _ k2_8
        (try dsimp only at z2_8)
        clear bel
        go_wp2_with fail
        refine (HAE.out _ R2_0.out).mono ?_
        rintro e_ wC ⟨rfl, hb⟩
        have k3_0 := cell_later hb k2_0
        have k3_1 := cell_later hb k2_1
        have k3_2 := cell_later hb k2_2
        have k3_3 := cell_later hb k2_3
        have k3_4 := cell_later hb k2_4
        have k3_5 := cell_later hb k2_5
        have k3_6 := cell_later hb k2_6
        have k3_7 := cell_later hb k2_7
        have k3_8 := cell_later hb k2_8
        have k3_9 := cell_later hb k2_9
        have R3_0 := Lib.hid (R2_0.out.later hb)
        have R3_1 := Lib.hid (R2_1.out.later hb)
        have B3 : Hid (Below w.heap.size w wC) := Lib.hid (below_then B2.out hb)
        clear k2_0 k2_1 k2_2 k2_3 k2_4 k2_5 k2_6 k2_7 k2_8 k2_9 R2_0 R2_1 B2
        have z3_0 := World.block_lt_of_cell? _ _ k3_0
        (try dsimp only at z3_0)
        have z3_6 := World.block_lt_of_cell? _ _ k3_6
        (try dsimp only at z3_6)
        have z3_8 := World.block_lt_of_cell? _ _ k3_8
        (try dsimp only at z3_8)
        clear hb
        by_cases hE : ea = 0
        · have HPE' := Lib.hid (HPE.out hE)
          have HRC' := Lib.hid (HRC.out hE)
          have P2' := Lib.hid (P2.out hE)
          subst hE
          clear HRC HPE P1 P2 HCO
          go_wp2_with fail
          refine (HPE'.out _).mono ?_
          rintro e_ wD ⟨rfl, hb⟩
          have k4_0 := cell_later hb k3_0
          have k4_1 := cell_later hb k3_1
          have k4_2 := cell_later hb k3_2
          have k4_3 := cell_later hb k3_3
          have k4_4 := cell_later hb k3_4
          have k4_5 := cell_later hb k3_5
          have k4_6 := cell_later hb k3_6
          have k4_7 := cell_later hb k3_7
          have k4_8 := cell_later hb k3_8
          have k4_9 := cell_later hb k3_9
          have R4_0 := Lib.hid (R3_0.out.later hb)
          have R4_1 := Lib.hid (R3_1.out.later hb)
          have B4 : Hid (Below w.heap.size w wD) := Lib.hid (below_then B3.out hb)
          clear k3_0 k3_1 k3_2 k3_3 k3_4 k3_5 k3_6 k3_7 k3_8 k3_9 R3_0 R3_1 B3
          have z4_0 := World.block_lt_of_cell? _ _ k4_0
          (try dsimp only at z4_0)
          have z4_6 := World.block_lt_of_cell? _ _ k4_6
          (try dsimp only at z4_6)
          have z4_8 := World.block_lt_of_cell? _ _ k4_8
          (try dsimp only at z4_8)
          clear hb
          by_cases hG : pe = 0
          · have HRZ := Lib.hid (HRC'.out hG)
            subst hG
            clear HRC' HPE' P2'
            go_wp2_with fail
            refine (HRZ.out _ R4_0.out R4_1.out).mono ?_
            rintro e_ wE ⟨rfl, hb⟩
            have k5_0 := cell_later hb k4_0
            have k5_1 := cell_later hb k4_1
            have k5_2 := cell_later hb k4_2
            have k5_3 := cell_later hb k4_3
            have k5_4 := cell_later hb k4_4
            have k5_5 := cell_later hb k4_5
            have k5_6 := cell_later hb k4_6
            have k5_7 := cell_later hb k4_7
            have k5_8 := cell_later hb k4_8
            have k5_9 := cell_later hb k4_9
            have R5_0 := Lib.hid (R4_0.out.later hb)
            have R5_1 := Lib.hid (R4_1.out.later hb)
            have B5 : Hid (Below w.heap.size w wE) := Lib.hid (below_then B4.out hb)
            clear k4_0 k4_1 k4_2 k4_3 k4_4 k4_5 k4_6 k4_7 k4_8 k4_9 R4_0 R4_1 B4
            have z5_0 := World.block_lt_of_cell? _ _ k5_0
            (try dsimp only at z5_0)
            have z5_6 := World.block_lt_of_cell? _ _ k5_6
            (try dsimp only at z5_6)
            have z5_8 := World.block_lt_of_cell? _ _ k5_8
            (try dsimp only at z5_8)
            clear hb
            go_wp2
            go_ret
            exact ⟨by simp, B5.out⟩
          · obtain ⟨q1, q2⟩ := P2'.out hG
            have q1' := q1.symm
            clear q1
            subst q2
            subst q1'
            have n1 : (pe == 0) = false := by simpa using hG
            have n2 : (pe != 0) = true := by simpa using hG
            clear HRC' HPE' P2' hG
            go_wp2
            go_ret
            exact ⟨by simp, B4.out⟩
        · obtain ⟨q1, q2⟩ := P1.out hE
          have q1' := q1.symm
          clear q1
          subst q2
          subst q1'
          have n1 : (ea == 0) = false := by simpa using hE
          have n2 : (ea != 0) = true := by simpa using hE
          clear HRC HPE P1 P2 HCO hE
          go_wp2
          go_ret
          exact ⟨by simp, B3.out⟩
    · by_cases h20 : m ≤ 20
      · have g6a : decide ((m : Int) > 6) = true := by simp; omega
        have k6 : decide ((6 : Int) < (m : Int)) = true := by simp; omega
        have l6 : decide (6 < m) = true := by simp; omega
        have g20b : decide ((m : Int) ≤ 20) = true := by simp; omega
        have l20b : decide (m ≤ 20) = true := by simp; omega
        clear h1 h6 h20 hA hD
        go_enter Tryz.func5, Tryz.ntmps5
        go_wp2_with fail
        refine (AWK.out _ (LH.out.later (by repeat (first | exact Below.refl _ _ | refine Below.drew ?_ | refine below_drewN ?_ _ | refine Below.setCell ?_ (by first | omega | (simp; done) | (simp; omega)) _ | refine Below.alloc ?_ (by first | omega | (simp; done) | (simp; omega)) _)))).mono ?_
        rintro e w1 ⟨rfl, hb1⟩
        have qw10 : w1.cell? ⟨w.heap.size, 0, none⟩ = some (.slice A a.n c) := cell_later hb1 (by simp [go_sem])
        have qw11 : w1.cell? ⟨w.heap.size, 1, none⟩ = some (.int .i64 a.m.wd) := cell_later hb1 (by simp [go_sem])
        have qw12 : w1.cell? ⟨w.heap.size, 2, none⟩ = some (.int .i64 a.m.mt) := cell_later hb1 (by simp [go_sem])
        have qw13 : w1.cell? ⟨w.heap.size, 3, none⟩ = some (.int .i64 a.m.sk) := cell_later hb1 (by simp [go_sem])
        have qw14 : w1.cell? ⟨w.heap.size, 4, none⟩ = some (.int .i64 a.m.th) := cell_later hb1 (by simp [go_sem])
        have qw15 : w1.cell? ⟨w.heap.size, 5, none⟩ = some (.int .i64 a.ck) := cell_later hb1 (by simp [go_sem])
        have qw16 : w1.cell? ⟨w.heap.size + 1, 0, none⟩ = some (.int .i64 f.x) := cell_later hb1 (by simp [go_sem])
        have qw17 : w1.cell? ⟨w.heap.size + 1, 1, none⟩ = some (.int .i64 f.z) := cell_later hb1 (by simp [go_sem])
        have qw18 : w1.cell? ⟨w.heap.size + 1 + 1, 0, none⟩ = some (.slice D m k) := cell_later hb1 (by simp [go_sem])
        have qw19 : w1.cell? ⟨w.heap.size + 1 + 1, 1, none⟩ = some (.int .i64 mo) := cell_later hb1 (by simp [go_sem])
        have zqw1_0 := World.block_lt_of_cell? _ _ qw10
        dsimp only at zqw1_0
        have zqw1_6 := World.block_lt_of_cell? _ _ qw16
        dsimp only at zqw1_6
        have zqw1_8 := World.block_lt_of_cell? _ _ qw18
        dsimp only at zqw1_8
        have H1 : Hid (Below w.heap.size w w1) := Lib.hid (below_after (by repeat (first | exact Below.refl _ _ | refine Below.drew ?_ | refine below_drewN ?_ _ | refine Below.setCell ?_ (by first | omega | (simp; done) | (simp; omega)) _ | refine Below.alloc ?_ (by first | omega | (simp; done) | (simp; omega)) _)) hb1 (by first | omega | (simp; done) | (simp; omega))); clear hb1
        go_wp2_with (go_at_call 9; (with_reducible refine (few_any _ _).mono ?_); rw [FA.out]; rintro e w' ⟨rfl, rfl⟩)
        go_ret
        exact ⟨by simp [*], H1.out⟩
      · by_cases h22 : m ≤ 22
        · have g6a : decide ((m : Int) > 6) = true := by simp; omega
          have k6 : decide ((6 : Int) < (m : Int)) = true := by simp; omega
          have l6 : decide (6 < m) = true := by simp; omega
          have g20b : decide ((m : Int) ≤ 20) = false := by simp; omega
          have l20b : decide (m ≤ 20) = false := by simp; omega
          have g22a : decide ((m : Int) > 22) = false := by simp; omega
          have k22 : decide ((22 : Int) < (m : Int)) = false := by simp; omega
          have l22 : decide (22 < m) = false := by simp; omega
          have HCA : Hid (∀ w', SpAt A a.n a.p w' → Calls Tryz.prog 11 #[.agg #[.slice A a.n c, .int .i64 a.m.wd, .int .i64 a.m.mt, .int .i64 a.m.sk, .int .i64 a.m.th, .int .i64 a.ck]] w' fun e w'' => ∃ A1 c1, e = .returned (.agg #[.slice A1 a.n c1, .int .i64 a.m.wd, .int .i64 a.m.mt, .int .i64 a.m.sk, .int .i64 a.m.th, .int .i64 a.ck]) ∧ SpAt A1 a.n a.p w'' ∧ Below w'.heap.size w' w'') := Lib.hid (fun w' h => (copyArray_any a A c w' (by omega) hA h).mono (fun e w'' ⟨v, e1, ho, hb⟩ => by
            obtain ⟨A1, c1, rfl, _, hs⟩ := own_spots ho
            exact ⟨A1, c1, e1, hs, hb⟩))
          have HCI : Hid (∀ w', InAt D m cs w' → Calls Tryz.prog 23 #[.slice D m k] w' fun e_ w'' => ∃ A1 c1, e_ = .returned (.slice A1 m c1) ∧ InAt A1 m cs w'' ∧ Below w'.heap.size w' w'') := Lib.hid (fun w' h => (copyInts_any D m k cs w' (by omega) hD h).mono (fun e_ w'' ⟨v, e1, ho, hb⟩ => by
            obtain ⟨A1, c1, rfl, _, hs⟩ := own_ints2 ho
            exact ⟨A1, c1, e1, hs, hb⟩))
          have HCO := Lib.hid (fun A1 c1 D1 k1 w' h g => coarse_any a f cs m mo A1 c1 D1 k1 w' h g (by omega) (by omega))
          have HAE := Lib.hid (fun w h => wArrayErr_any a A c w h (by omega))
          have HPE : Hid (a.E = 0 → ∀ w', Calls Tryz.prog 24 #[.agg #[.slice A a.n c, .int .i64 a.m.wd, .int .i64 a.m.mt, .int .i64 a.m.sk, .int .i64 a.m.th, .int .i64 a.ck], .agg #[.int .i64 f.x, .int .i64 f.z]] w' fun e_ w'' => e_ = .returned (.int .i64 (plE a f)) ∧ Below w'.heap.size w' w'') := Lib.hid (fun q w' => rPlace_any a f A c w' ((La.E_zero a).1 q).2.2.1)
          have HRC : Hid (a.E = 0 → plE a f = 0 → ∀ w', SpAt A a.n a.p w' → InAt D m cs w' → Calls Tryz.prog 25 #[.agg #[.slice A a.n c, .int .i64 a.m.wd, .int .i64 a.m.mt, .int .i64 a.m.sk, .int .i64 a.m.th, .int .i64 a.ck], .agg #[.int .i64 f.x, .int .i64 f.z], .agg #[.slice D m k, .int .i64 mo]] w' fun e_ w'' => e_ = .returned (.tuple #[.int .i64 (coN a f cs m mo), .int .i64 (coE a f cs m mo)]) ∧ Below w'.heap.size w' w'') := Lib.hid (fun q r w' h g => rCoarse_any a f cs m mo A c D k w' q r h g (by omega))
          have P1 := Lib.hid (co_E a f cs m mo)
          have P2 := Lib.hid (co_P a f cs m mo)
          generalize coE a f cs m mo = E5 at *
          generalize coN a f cs m mo = N5 at *
          generalize plE a f = pe at *
          generalize a.E = ea at *
          clear hA hD
          go_enter Tryz.func5, Tryz.ntmps5
          go_wp2_with fail
          refine (AWK.out _ (LH.out.later (by repeat (first | exact Below.refl _ _ | refine Below.drew ?_ | refine below_drewN ?_ _ | refine Below.setCell ?_ (by first | omega | (simp; done) | (simp; omega)) _ | refine Below.alloc ?_ (by first | omega | (simp; done) | (simp; omega)) _)))).mono ?_
          rintro e w1 ⟨rfl, hb1⟩
          have qw10 : w1.cell? ⟨w.heap.size, 0, none⟩ = some (.slice A a.n c) := cell_later hb1 (by simp [go_sem])
          have qw11 : w1.cell? ⟨w.heap.size, 1, none⟩ = some (.int .i64 a.m.wd) := cell_later hb1 (by simp [go_sem])
          have qw12 : w1.cell? ⟨w.heap.size, 2, none⟩ = some (.int .i64 a.m.mt) := cell_later hb1 (by simp [go_sem])
          have qw13 : w1.cell? ⟨w.heap.size, 3, none⟩ = some (.int .i64 a.m.sk) := cell_later hb1 (by simp [go_sem])
          have qw14 : w1.cell? ⟨w.heap.size, 4, none⟩ = some (.int .i64 a.m.th) := cell_later hb1 (by simp [go_sem])
          have qw15 : w1.cell? ⟨w.heap.size, 5, none⟩ = some (.int .i64 a.ck) := cell_later hb1 (by simp [go_sem])
          have qw16 : w1.cell? ⟨w.heap.size + 1, 0, none⟩ = some (.int .i64 f.x) := cell_later hb1 (by simp [go_sem])
          have qw17 : w1.cell? ⟨w.heap.size + 1, 1, none⟩ = some (.int .i64 f.z) := cell_later hb1 (by simp [go_sem])
          have qw18 : w1.cell? ⟨w.heap.size + 1 + 1, 0, none⟩ = some (.slice D m k) := cell_later hb1 (by simp [go_sem])
          have qw19 : w1.cell? ⟨w.heap.size + 1 + 1, 1, none⟩ = some (.int .i64 mo) := cell_later hb1 (by simp [go_sem])
          have zqw1_0 := World.block_lt_of_cell? _ _ qw10
          dsimp only at zqw1_0
          have zqw1_6 := World.block_lt_of_cell? _ _ qw16
          dsimp only at zqw1_6
          have zqw1_8 := World.block_lt_of_cell? _ _ qw18
          dsimp only at zqw1_8
          have H1 : Hid (Below w.heap.size w w1) := Lib.hid (below_after (by repeat (first | exact Below.refl _ _ | refine Below.drew ?_ | refine below_drewN ?_ _ | refine Below.setCell ?_ (by first | omega | (simp; done) | (simp; omega)) _ | refine Below.alloc ?_ (by first | omega | (simp; done) | (simp; omega)) _)) hb1 (by first | omega | (simp; done) | (simp; omega))); clear hb1
          have R1_0 := Lib.hid (HX.out.later H1.out)
          have R1_1 := Lib.hid (HT.out.later H1.out)
          go_upto_region 5 with (go_at_call 9; (with_reducible refine (few_any _ _).mono ?_); rw [FA.out]; rintro e w' ⟨rfl, rfl⟩)
          have hS : Below w1.heap.size w1 w1 := Below.refl _ _
          go_cut [7, 8] (fun s7 s8 wx => s7 = .int .i64 N5 ∧ s8 = .int .i64 E5 ∧ Below w1.heap.size w1 wx)
          case first =>
            as_aux_lemma =>
              go_region_held3 (fun w' => w'.cell? ⟨w.heap.size, 0, none⟩ = some (.slice A a.n c) ∧ w'.cell? ⟨w.heap.size, 1, none⟩ = some (.int .i64 a.m.wd) ∧ w'.cell? ⟨w.heap.size, 2, none⟩ = some (.int .i64 a.m.mt) ∧ w'.cell? ⟨w.heap.size, 3, none⟩ = some (.int .i64 a.m.sk) ∧ w'.cell? ⟨w.heap.size, 4, none⟩ = some (.int .i64 a.m.th) ∧ w'.cell? ⟨w.heap.size, 5, none⟩ = some (.int .i64 a.ck) ∧ w'.cell? ⟨w.heap.size + 1, 0, none⟩ = some (.int .i64 f.x) ∧ w'.cell? ⟨w.heap.size + 1, 1, none⟩ = some (.int .i64 f.z) ∧ w'.cell? ⟨w.heap.size + 1 + 1, 0, none⟩ = some (.slice D m k) ∧ w'.cell? ⟨w.heap.size + 1 + 1, 1, none⟩ = some (.int .i64 mo) ∧ Below w1.heap.size w1 w') (((go_split_ands; (repeat' apply And.intro) <;> ((repeat (first | (with_reducible assumption) | (with_reducible exact Below.refl _ _) | (with_reducible refine cell_alloc_later ?_ _) | (with_reducible refine cell_drewA ?_) | (with_reducible refine cellA (by with_reducible assumption) ?_) | (with_reducible refine belowA ?_ (by with_reducible assumption)) | (with_reducible refine below_alloc_top ?_ _) | (with_reducible refine Below.drew ?_) | (with_reducible refine cell_set_old ?_ (by with_reducible assumption)) | (with_reducible refine below_set_old ?_ (by with_reducible assumption)) | (with_reducible refine Below.setCell ?_ (by first | omega | (simp; done) | (simp; omega)) _) | (simp [go_sem, World.cell?_alloc_past, *]; done))); done))))
                (first
                  | (go_split_ands; go_at_call 11; (with_reducible refine (HCA.out _ (R1_0.out.later (by with_reducible assumption))).mono ?_); rintro e w' ⟨A1, c1, rfl, hs, hb⟩; have hbA : BelA _ w' := hb; obtain ⟨hc', hf'⟩ := bcell hb; have hz' := hb.size; (try simp at hz'); (first | (have tF' := Nat.lt_of_succ_le hz') | (have tF' := Nat.lt_of_lt_of_le tF' hz') | skip); clear hb)
                  | (go_split_ands; go_at_call 23; (with_reducible refine (HCI.out _ (R1_1.out.later (by with_reducible assumption))).mono ?_); rintro e w' ⟨A2, c2, rfl, hi_, hb⟩; have hbA : BelA _ w' := hb; obtain ⟨hc', hf'⟩ := bcell hb; have hz' := hb.size; (try simp at hz'); (first | (have tF' := Nat.lt_of_succ_le hz') | (have tF' := Nat.lt_of_lt_of_le tF' hz') | skip); clear hb)
                  | (go_split_ands; go_at_call 22; (with_reducible refine (HCO.out _ _ _ _ _ (by repeat (first | (with_reducible assumption) | (with_reducible refine SpAt.laterA (by with_reducible assumption) ?_) | (with_reducible refine SpAt.alloc ?_ _) | (with_reducible refine SpAt.drew ?_))) (by repeat (first | (with_reducible assumption) | (with_reducible refine InAt.laterA (by with_reducible assumption) ?_) | (with_reducible refine InAt.alloc ?_ _) | (with_reducible refine InAt.drew ?_)))).mono ?_); rintro e w' ⟨rfl, hb⟩; have hbA : BelA _ w' := hb; obtain ⟨hc', hf'⟩ := bcell hb; have hz' := hb.size; (try simp at hz'); (first | (have tF' := Nat.lt_of_succ_le hz') | (have tF' := Nat.lt_of_lt_of_le tF' hz') | skip); clear hb))
              all_goals
                go_split_ands
                go_wp2_with fail
                go_meet
                exact ⟨rfl, rfl, (by first | (with_reducible assumption) | (simp [go_sem, World.cell?_alloc_past, *]; done))⟩
          case rest =>
            obtain ⟨rfl, rfl, bel⟩ := hcut
            clear hS
            obtain ⟨wB, hw_⟩ : ∃ q_, q_ = wc := ⟨_, rfl⟩
            subst hw_
            have k2_0 := cell_later bel qw10
            have k2_1 := cell_later bel qw11
            have k2_2 := cell_later bel qw12
            have k2_3 := cell_later bel qw13
            have k2_4 := cell_later bel qw14
            have k2_5 := cell_later bel qw15
            have k2_6 := cell_later bel qw16
            have k2_7 := cell_later bel qw17
            have k2_8 := cell_later bel qw18
            have k2_9 := cell_later bel qw19
            have R2_0 := Lib.hid (R1_0.out.later bel)
            have R2_1 := Lib.hid (R1_1.out.later bel)
            have B2 : Hid (Below w.heap.size w wB) := Lib.hid (below_then H1.out bel)
            clear qw10 qw11 qw12 qw13 qw14 qw15 qw16 qw17 qw18 qw19 R1_0 R1_1 H1
            have z2_0 := World.block_lt_of_cell? _ _ k2_0
            (try dsimp only at z2_0)
            have z2_6 := World.block_lt_of_cell? _ _ k2_6
            (try dsimp only at z2_6)
            have z2_8 := World.block_lt_of_cell? _ _ k2_8
            (try dsimp only at z2_8)
            clear bel
            go_wp2_with fail
            refine (HAE.out _ R2_0.out).mono ?_
            rintro e_ wC ⟨rfl, hb⟩
            have k3_0 := cell_later hb k2_0
            have k3_1 := cell_later hb k2_1
            have k3_2 := cell_later hb k2_2
            have k3_3 := cell_later hb k2_3
            have k3_4 := cell_later hb k2_4
            have k3_5 := cell_later hb k2_5
            have k3_6 := cell_later hb k2_6
            have k3_7 := cell_later hb k2_7
            have k3_8 := cell_later hb k2_8
            have k3_9 := cell_later hb k2_9
            have R3_0 := Lib.hid (R2_0.out.later hb)
            have R3_1 := Lib.hid (R2_1.out.later hb)
            have B3 : Hid (Below w.heap.size w wC) := Lib.hid (below_then B2.out hb)
            clear k2_0 k2_1 k2_2 k2_3 k2_4 k2_5 k2_6 k2_7 k2_8 k2_9 R2_0 R2_1 B2
            have z3_0 := World.block_lt_of_cell? _ _ k3_0
            (try dsimp only at z3_0)
            have z3_6 := World.block_lt_of_cell? _ _ k3_6
            (try dsimp only at z3_6)
            have z3_8 := World.block_lt_of_cell? _ _ k3_8
            (try dsimp only at z3_8)
            clear hb
            by_cases hE : ea = 0
            · have HPE' := Lib.hid (HPE.out hE)
              have HRC' := Lib.hid (HRC.out hE)
              have P2' := Lib.hid (P2.out hE)
              subst hE
              clear HRC HPE P1 P2 HCO
              go_wp2_with fail
              refine (HPE'.out _).mono ?_
              rintro e_ wD ⟨rfl, hb⟩
              have k4_0 := cell_later hb k3_0
              have k4_1 := cell_later hb k3_1
              have k4_2 := cell_later hb k3_2
              have k4_3 := cell_later hb k3_3
              have k4_4 := cell_later hb k3_4
              have k4_5 := cell_later hb k3_5
              have k4_6 := cell_later hb k3_6
              have k4_7 := cell_later hb k3_7
              have k4_8 := cell_later hb k3_8
              have k4_9 := cell_later hb k3_9
              have R4_0 := Lib.hid (R3_0.out.later hb)
              have R4_1 := Lib.hid (R3_1.out.later hb)
              have B4 : Hid (Below w.heap.size w wD) := Lib.hid (below_then B3.out hb)
              clear k3_0 k3_1 k3_2 k3_3 k3_4 k3_5 k3_6 k3_7 k3_8 k3_9 R3_0 R3_1 B3
              have z4_0 := World.block_lt_of_cell? _ _ k4_0
              (try dsimp only at z4_0)
              have z4_6 := World.block_lt_of_cell? _ _ k4_6
              (try dsimp only at z4_6)
              have z4_8 := World.block_lt_of_cell? _ _ k4_8
              (try dsimp only at z4_8)
              clear hb
              by_cases hG : pe = 0
              · have HRZ := Lib.hid (HRC'.out hG)
                subst hG
                clear HRC' HPE' P2'
                go_wp2_with fail
                refine (HRZ.out _ R4_0.out R4_1.out).mono ?_
                rintro e_ wE ⟨rfl, hb⟩
                have k5_0 := cell_later hb k4_0
                have k5_1 := cell_later hb k4_1
                have k5_2 := cell_later hb k4_2
                have k5_3 := cell_later hb k4_3
                have k5_4 := cell_later hb k4_4
                have k5_5 := cell_later hb k4_5
                have k5_6 := cell_later hb k4_6
                have k5_7 := cell_later hb k4_7
                have k5_8 := cell_later hb k4_8
                have k5_9 := cell_later hb k4_9
                have R5_0 := Lib.hid (R4_0.out.later hb)
                have R5_1 := Lib.hid (R4_1.out.later hb)
                have B5 : Hid (Below w.heap.size w wE) := Lib.hid (below_then B4.out hb)
                clear k4_0 k4_1 k4_2 k4_3 k4_4 k4_5 k4_6 k4_7 k4_8 k4_9 R4_0 R4_1 B4
                have z5_0 := World.block_lt_of_cell? _ _ k5_0
                (try dsimp only at z5_0)
                have z5_6 := World.block_lt_of_cell? _ _ k5_6
                (try dsimp only at z5_6)
                have z5_8 := World.block_lt_of_cell? _ _ k5_8
                (try dsimp only at z5_8)
                clear hb
                go_wp2
                go_ret
                exact ⟨by simp, B5.out⟩
              · obtain ⟨q1, q2⟩ := P2'.out hG
                have q1' := q1.symm
                clear q1
                subst q2
                subst q1'
                have n1 : (pe == 0) = false := by simpa using hG
                have n2 : (pe != 0) = true := by simpa using hG
                clear HRC' HPE' P2' hG
                go_wp2
                go_ret
                exact ⟨by simp, B4.out⟩
            · obtain ⟨q1, q2⟩ := P1.out hE
              have q1' := q1.symm
              clear q1
              subst q2
              subst q1'
              have n1 : (ea == 0) = false := by simpa using hE
              have n2 : (ea != 0) = true := by simpa using hE
              clear HRC HPE P1 P2 HCO hE
              go_wp2
              go_ret
              exact ⟨by simp, B3.out⟩
        · have g6a : decide ((m : Int) > 6) = true := by simp; omega
          have k6 : decide ((6 : Int) < (m : Int)) = true := by simp; omega
          have l6 : decide (6 < m) = true := by simp; omega
          have g20b : decide ((m : Int) ≤ 20) = false := by simp; omega
          have l20b : decide (m ≤ 20) = false := by simp; omega
          have g22a : decide ((m : Int) > 22) = true := by simp; omega
          have k22 : decide ((22 : Int) < (m : Int)) = true := by simp; omega
          have l22 : decide (22 < m) = true := by simp; omega
          clear h1 h6 h20 h22 hA hD
          go_enter Tryz.func5, Tryz.ntmps5
          go_wp2_with fail
          refine (AWK.out _ (LH.out.later (by repeat (first | exact Below.refl _ _ | refine Below.drew ?_ | refine below_drewN ?_ _ | refine Below.setCell ?_ (by first | omega | (simp; done) | (simp; omega)) _ | refine Below.alloc ?_ (by first | omega | (simp; done) | (simp; omega)) _)))).mono ?_
          rintro e w1 ⟨rfl, hb1⟩
          have qw10 : w1.cell? ⟨w.heap.size, 0, none⟩ = some (.slice A a.n c) := cell_later hb1 (by simp [go_sem])
          have qw11 : w1.cell? ⟨w.heap.size, 1, none⟩ = some (.int .i64 a.m.wd) := cell_later hb1 (by simp [go_sem])
          have qw12 : w1.cell? ⟨w.heap.size, 2, none⟩ = some (.int .i64 a.m.mt) := cell_later hb1 (by simp [go_sem])
          have qw13 : w1.cell? ⟨w.heap.size, 3, none⟩ = some (.int .i64 a.m.sk) := cell_later hb1 (by simp [go_sem])
          have qw14 : w1.cell? ⟨w.heap.size, 4, none⟩ = some (.int .i64 a.m.th) := cell_later hb1 (by simp [go_sem])
          have qw15 : w1.cell? ⟨w.heap.size, 5, none⟩ = some (.int .i64 a.ck) := cell_later hb1 (by simp [go_sem])
          have qw16 : w1.cell? ⟨w.heap.size + 1, 0, none⟩ = some (.int .i64 f.x) := cell_later hb1 (by simp [go_sem])
          have qw17 : w1.cell? ⟨w.heap.size + 1, 1, none⟩ = some (.int .i64 f.z) := cell_later hb1 (by simp [go_sem])
          have qw18 : w1.cell? ⟨w.heap.size + 1 + 1, 0, none⟩ = some (.slice D m k) := cell_later hb1 (by simp [go_sem])
          have qw19 : w1.cell? ⟨w.heap.size + 1 + 1, 1, none⟩ = some (.int .i64 mo) := cell_later hb1 (by simp [go_sem])
          have zqw1_0 := World.block_lt_of_cell? _ _ qw10
          dsimp only at zqw1_0
          have zqw1_6 := World.block_lt_of_cell? _ _ qw16
          dsimp only at zqw1_6
          have zqw1_8 := World.block_lt_of_cell? _ _ qw18
          dsimp only at zqw1_8
          have H1 : Hid (Below w.heap.size w w1) := Lib.hid (below_after (by repeat (first | exact Below.refl _ _ | refine Below.drew ?_ | refine below_drewN ?_ _ | refine Below.setCell ?_ (by first | omega | (simp; done) | (simp; omega)) _ | refine Below.alloc ?_ (by first | omega | (simp; done) | (simp; omega)) _)) hb1 (by first | omega | (simp; done) | (simp; omega))); clear hb1
          go_wp2_with (go_at_call 9; (with_reducible refine (few_any _ _).mono ?_); rw [FA.out]; rintro e w' ⟨rfl, rfl⟩)
          go_ret
          exact ⟨by simp [*], H1.out⟩
  · have FA : Hid (decide ((a.n : Int) ≤ 18) = false) := Lib.hid (by simp; omega)
    clear h1 hA hD
    go_enter Tryz.func5, Tryz.ntmps5
    go_wp2_with fail
    refine (AWK.out _ (LH.out.later (by repeat (first | exact Below.refl _ _ | refine Below.drew ?_ | refine below_drewN ?_ _ | refine Below.setCell ?_ (by first | omega | (simp; done) | (simp; omega)) _ | refine Below.alloc ?_ (by first | omega | (simp; done) | (simp; omega)) _)))).mono ?_
    rintro e w1 ⟨rfl, hb1⟩
    have qw10 : w1.cell? ⟨w.heap.size, 0, none⟩ = some (.slice A a.n c) := cell_later hb1 (by simp [go_sem])
    have qw11 : w1.cell? ⟨w.heap.size, 1, none⟩ = some (.int .i64 a.m.wd) := cell_later hb1 (by simp [go_sem])
    have qw12 : w1.cell? ⟨w.heap.size, 2, none⟩ = some (.int .i64 a.m.mt) := cell_later hb1 (by simp [go_sem])
    have qw13 : w1.cell? ⟨w.heap.size, 3, none⟩ = some (.int .i64 a.m.sk) := cell_later hb1 (by simp [go_sem])
    have qw14 : w1.cell? ⟨w.heap.size, 4, none⟩ = some (.int .i64 a.m.th) := cell_later hb1 (by simp [go_sem])
    have qw15 : w1.cell? ⟨w.heap.size, 5, none⟩ = some (.int .i64 a.ck) := cell_later hb1 (by simp [go_sem])
    have qw16 : w1.cell? ⟨w.heap.size + 1, 0, none⟩ = some (.int .i64 f.x) := cell_later hb1 (by simp [go_sem])
    have qw17 : w1.cell? ⟨w.heap.size + 1, 1, none⟩ = some (.int .i64 f.z) := cell_later hb1 (by simp [go_sem])
    have qw18 : w1.cell? ⟨w.heap.size + 1 + 1, 0, none⟩ = some (.slice D m k) := cell_later hb1 (by simp [go_sem])
    have qw19 : w1.cell? ⟨w.heap.size + 1 + 1, 1, none⟩ = some (.int .i64 mo) := cell_later hb1 (by simp [go_sem])
    have zqw1_0 := World.block_lt_of_cell? _ _ qw10
    dsimp only at zqw1_0
    have zqw1_6 := World.block_lt_of_cell? _ _ qw16
    dsimp only at zqw1_6
    have zqw1_8 := World.block_lt_of_cell? _ _ qw18
    dsimp only at zqw1_8
    have H1 : Hid (Below w.heap.size w w1) := Lib.hid (below_after (by repeat (first | exact Below.refl _ _ | refine Below.drew ?_ | refine below_drewN ?_ _ | refine Below.setCell ?_ (by first | omega | (simp; done) | (simp; omega)) _ | refine Below.alloc ?_ (by first | omega | (simp; done) | (simp; omega)) _)) hb1 (by first | omega | (simp; done) | (simp; omega))); clear hb1
    go_wp2_with (go_at_call 9; (with_reducible refine (few_any _ _).mono ?_); rw [FA.out]; rintro e w' ⟨rfl, rfl⟩)
    go_ret
    exact ⟨rfl, H1.out⟩
end Go.Proofs.YtkkaomgdlnejcaaGreatDoor
