/- MayBeFirst: the reference -/
import Derived.Test.YtdicndakelgoeaaB6
import Derived.Test.YtdicndakelgoeaaG2
import Derived.Test.YtdicndakelgoeaaK1
namespace Go.Proofs.Ytdicndakelgoeaa
open Go.RowKit RayM
set_option linter.unusedSimpArgs false
set_option linter.unusedVariables false

/-- what stands where several modes are looked at -/
structure MbI (x : Mb) (a : Addr) (w wr : World) : Prop where
  r0 : wr.cell? ⟨w.heap.size, 0, none⟩ = some (.int .i64 x.fx)
  r1 : wr.cell? ⟨w.heap.size, 1, none⟩ = some (.int .i64 x.fz)
  r2 : wr.cell? ⟨w.heap.size + 1, 0, none⟩ = some (.int .i64 x.tx)
  r3 : wr.cell? ⟨w.heap.size + 1, 1, none⟩ = some (.int .i64 x.tz)
  m : MoAt x a wr
  b : Below w.heap.size w wr
theorem MbI.later {x : Mb} {a : Addr} {w wr w' : World} (r : MbI x a w wr) (hb : Below wr.heap.size wr w') : MbI x a w w' :=
  ⟨cell_later hb r.r0, cell_later hb r.r1, cell_later hb r.r2, cell_later hb r.r3, r.m.later hb, Below.trans r.b (hb.mono r.b.size)⟩
theorem MbI.of {x : Mb} {a : Addr} {w w' : World} (hx : MoAt x a w) (hb : Below w.heap.size w w') (h0 : w'.cell? ⟨w.heap.size, 0, none⟩ = some (.int .i64 x.fx)) (h1 : w'.cell? ⟨w.heap.size, 1, none⟩ = some (.int .i64 x.fz)) (h2 : w'.cell? ⟨w.heap.size + 1, 0, none⟩ = some (.int .i64 x.tx)) (h3 : w'.cell? ⟨w.heap.size + 1, 1, none⟩ = some (.int .i64 x.tz)) : MbI x a w w' :=
  ⟨h0, h1, h2, h3, hx.later hb, hb⟩
theorem g_mode (x : Mb) (k : Nat) (h : moE (x.ms k) ≠ 0) : x.g k = moE (x.ms k) := by
  show wyE (x.y k) = _
  unfold wyE; simp only [fst]
  show (if moE (x.ms k) = 0 then _ else moE (x.ms k)) = _
  rw [if_neg h]
theorem g_way (x : Mb) (k : Nat) (h : moE (x.ms k) = 0) : x.g k = waE (x.y k) := by
  have hm : moE (x.y k).m = 0 := h
  show wyE (x.y k) = _
  unfold wyE; rw [hm]; simp only [fst]; simp
  intro hh; exact hh.symm
set_option maxRecDepth 100000 in
set_option maxHeartbeats 1000000 in
theorem rmb_short (A : Option Addr) (n c : Nat) (fx fz tx tz : Int) (h : n = 0 ∨ 8 < n) (w : World) :
    Calls Try.prog 65 #[.slice A n c, .agg #[.int .i64 fx, .int .i64 fz], .agg #[.int .i64 tx, .int .i64 tz]] w fun e w' => e = .returned (.tuple #[.slice none 0 0, .int .i64 (if n = 0 then 10 else 8)]) ∧ Below w.heap.size w w' := by
  rcases h with h | h
  · subst h
    go_enter Try.func65, Try.ntmps65
    go_wp2
    go_ret2
    exact ⟨rfl, (by repeat (first | exact Below.refl _ _ | refine Below.drew ?_ | refine below_drewN ?_ _ | refine Below.setCell ?_ (by first | omega | (simp; done) | (simp; omega)) _ | refine Below.alloc ?_ (by first | omega | (simp; done) | (simp; omega)) _))⟩
  · rw [if_neg (by omega)]
    have n1 : ((n : Int) == 0) = false := by simp; omega
    have n2 : decide (8 < (n : Int)) = true := by simp; omega
    go_enter Try.func65, Try.ntmps65
    go_wp2
    go_ret2
    exact ⟨rfl, (by repeat (first | exact Below.refl _ _ | refine Below.drew ?_ | refine below_drewN ?_ _ | refine Below.setCell ?_ (by first | omega | (simp; done) | (simp; omega)) _ | refine Below.alloc ?_ (by first | omega | (simp; done) | (simp; omega)) _))⟩
set_option maxRecDepth 100000 in
set_option maxHeartbeats 1000000 in
theorem rmb_loops (x : Mb) (a : Addr) (c : Nat) (w : World) (hn : 0 < x.n) (hn8 : x.n ≤ 8) (hx : MoAt x a w) :
    Calls Try.prog 65 #[.slice (some a) x.n c, .agg #[.int .i64 x.fx, .int .i64 x.fz], .agg #[.int .i64 x.tx, .int .i64 x.tz]] w fun e w' => ∃ v : Value, e = .returned (.tuple #[v, .int .i64 x.E]) ∧ w'.ownsRow w.heap.size 3 1 v x.L.length x.L ∧ Below w.heap.size w w' := by
  obtain ⟨j0_, ji0, jz0, jz1, jz2⟩ := info_parts infoInt
  have JI0 := Lib.hid ji0; have JZ0 := Lib.hid jz0; have JZ1 := Lib.hid jz1; have JZ2 := Lib.hid jz2
  clear ji0 jz0 jz1 jz2
  have hf1 : ∀ (p q : Int) (w : World), (Instr.field 26 (.agg #[.int .i64 p, .int .i64 q]) 1).run Try.prog w = .ok (.int .i64 q) w := fun _ _ _ => by kernel_rfl
  have hf0 : ∀ (p q : Int) (w : World), (Instr.field 26 (.agg #[.int .i64 p, .int .i64 q]) 0).run Try.prog w = .ok (.int .i64 p) w := fun _ _ _ => by kernel_rfl
  have FS := Lib.hid (first_step x.g)
  have HXm := Lib.hid hx; clear hx
  generalize hEq : x.E = E0 at *
  generalize hLq : x.L = L0 at *
  have EQ := Lib.hid hEq; have LQ := Lib.hid hLq; clear hEq hLq
  have n1 : ((x.n : Int) == 0) = false := by simp; omega
  have n2 : decide (8 < (x.n : Int)) = false := by simp; omega
  go_enter Try.func65, Try.ntmps65
  go_wp2
  clear n1 n2
  go_loopw [8] (fun s8 wr => ∃ k : Nat, k ≤ x.n ∧ s8 = .int .i64 (k : Int) ∧ firstFrom x.g k (x.n - k) = E0 ∧ (∀ i, i < k → x.g i = 0) ∧ MbI x a w wr) (fun s8 _ => x.n - (intOf s8).toNat)
  case atStart =>
    have hb0 : Below w.heap.size w ((w.alloc (.cells #[.int .i64 x.fx, .int .i64 x.fz] 23)).alloc (.cells #[.int .i64 x.tx, .int .i64 x.tz] 23)) := (by repeat (first | exact Below.refl _ _ | refine Below.drew ?_ | refine below_drewN ?_ _ | refine Below.setCell ?_ (by first | omega | (simp; done) | (simp; omega)) _ | refine Below.alloc ?_ (by first | omega | (simp; done) | (simp; omega)) _))
    exact ⟨0, Nat.zero_le _, rfl, by rw [← EQ.out]; rfl, fun i hi => absurd hi (Nat.not_lt_zero i), MbI.of HXm.out hb0 (by simp [go_sem]) (by simp [go_sem]) (by simp [go_sem]) (by simp [go_sem])⟩
  case round =>
    obtain ⟨k, hk, rfl, hE, hZ, inv⟩ := hrel
    have HE := Lib.hid hE; have HZ := Lib.hid hZ; have INV := Lib.hid inv; clear hE hZ
    obtain ⟨r0, r1, r2, r3, mo, bel⟩ := inv
    have zr0 := World.block_lt_of_cell? _ _ r0
    have zr1 := World.block_lt_of_cell? _ _ r2
    dsimp only at zr0 zr1
    by_cases hlt : k < x.n
    · obtain ⟨e0, e1, e2, e3⟩ := mo.cells hlt
      have j0 : (0 : Int) ≤ (k : Int) := Int.natCast_nonneg _
      have j1 : (k : Int) < (x.n : Int) := by omega
      have j8 : (k : Int) < 8 := by omega
      have MO := Lib.hid mo; clear mo
      have HM := Lib.hid (fun w => refMode_any (x.ms k) w)
      by_cases hm : moE (x.ms k) = 0
      · rw [hm] at HM
        have HW : Hid (∀ w, Calls Try.prog 118 #[.agg #[.int .i64 (x.ms k).wd, .int .i64 (x.ms k).mt, .int .i64 (x.ms k).sk, .int .i64 (x.ms k).th], .agg #[.int .i64 x.fx, .int .i64 x.fz], .agg #[.int .i64 x.tx, .int .i64 x.tz]] w fun e w' => e = .returned (.int .i64 (x.g k)) ∧ Below w.heap.size w w') := Lib.hid (fun w => by rw [g_way x k hm]; exact refWayErr_any (x.y k) ((moE_ok _).1 hm) w)
        clear hm
        have BEL := Lib.hid bel; clear bel
        go_wp2_with fail
        refine (HM.out _).mono ?_
        rintro e w5 ⟨rfl, hb5⟩
        have s0 := cell_later hb5 r0; have s1 := cell_later hb5 r1; have s2 := cell_later hb5 r2; have s3 := cell_later hb5 r3
        have f0 := cell_later hb5 e0; have f1 := cell_later hb5 e1; have f2 := cell_later hb5 e2; have f3 := cell_later hb5 e3
        have INV5 := Lib.hid (INV.out.later hb5)
        have bel5 : Below w5.heap.size w5 w5 := Below.refl _ _
        clear hb5
        by_cases hg : x.g k = 0
        · have HG := Lib.hid hg
          rw [hg] at HW
          clear hg
          go_wp2_with fail
          go_region_held3 (fun w' => w'.cell? ⟨w.heap.size, 0, none⟩ = some (.int .i64 x.fx) ∧ w'.cell? ⟨w.heap.size, 1, none⟩ = some (.int .i64 x.fz) ∧ w'.cell? ⟨w.heap.size + 1, 0, none⟩ = some (.int .i64 x.tx) ∧ w'.cell? ⟨w.heap.size + 1, 1, none⟩ = some (.int .i64 x.tz) ∧ w'.cell? (a.add (k * 4)) = some (.int .i64 (x.ms k).wd) ∧ w'.cell? ⟨(a.add (k * 4)).block, (a.add (k * 4)).off + 1, none⟩ = some (.int .i64 (x.ms k).mt) ∧ w'.cell? ⟨(a.add (k * 4)).block, (a.add (k * 4)).off + 2, none⟩ = some (.int .i64 (x.ms k).sk) ∧ w'.cell? ⟨(a.add (k * 4)).block, (a.add (k * 4)).off + 3, none⟩ = some (.int .i64 (x.ms k).th) ∧ Below w5.heap.size w5 w') (((go_split_ands; (repeat' apply And.intro) <;> first | (with_reducible assumption) | exact cell_later (by assumption) (by assumption) | exact frozen_after (by assumption) (by assumption) (by assumption) | exact below_then (by assumption) (by assumption) | exact below_alloc_top (by assumption) _ | exact cell_alloc_later (by assumption) _ | exact frozen_alloc_later (by assumption) (by assumption) _ | exact Below.drew (by assumption) | (simp [go_sem, World.cell?_alloc_past, *]; done))))
              (first
                | (go_at_call 118; (with_reducible refine (HW.out _).mono ?_); rintro e w' ⟨rfl, hb⟩))
          go_split_ands
          have b6 : Below w5.heap.size w5 w' := by with_reducible assumption
          have INV6 := Lib.hid (INV5.out.later b6)
          go_wp2
          go_roundw
          case rel => exact ⟨k + 1, by omega, by go_num, by rw [← HE.out, FS.out k x.n hlt, if_pos HG.out], fun i hi => by rcases Nat.lt_succ_iff_lt_or_eq.1 hi with h | h; exact HZ.out i h; rw [h]; exact HG.out, INV6.out⟩
          case measure => simp [intOf]; omega
        · have n1 : (x.g k != 0) = true := by simpa using hg
          have EE : Hid (E0 = x.g k) := by show _ = _; rw [← HE.out, FS.out k x.n hlt, if_neg hg]
          have LL : Hid (L0 = []) := by show _ = _; rw [← LQ.out]; unfold Mb.L; rw [EQ.out, EE.out, if_neg hg]
          clear hg
          go_wp2_with fail
          go_region_held3 (fun w' => w'.cell? ⟨w.heap.size, 0, none⟩ = some (.int .i64 x.fx) ∧ w'.cell? ⟨w.heap.size, 1, none⟩ = some (.int .i64 x.fz) ∧ w'.cell? ⟨w.heap.size + 1, 0, none⟩ = some (.int .i64 x.tx) ∧ w'.cell? ⟨w.heap.size + 1, 1, none⟩ = some (.int .i64 x.tz) ∧ w'.cell? (a.add (k * 4)) = some (.int .i64 (x.ms k).wd) ∧ w'.cell? ⟨(a.add (k * 4)).block, (a.add (k * 4)).off + 1, none⟩ = some (.int .i64 (x.ms k).mt) ∧ w'.cell? ⟨(a.add (k * 4)).block, (a.add (k * 4)).off + 2, none⟩ = some (.int .i64 (x.ms k).sk) ∧ w'.cell? ⟨(a.add (k * 4)).block, (a.add (k * 4)).off + 3, none⟩ = some (.int .i64 (x.ms k).th) ∧ Below w5.heap.size w5 w') (((go_split_ands; (repeat' apply And.intro) <;> first | (with_reducible assumption) | exact cell_later (by assumption) (by assumption) | exact frozen_after (by assumption) (by assumption) (by assumption) | exact below_then (by assumption) (by assumption) | exact below_alloc_top (by assumption) _ | exact cell_alloc_later (by assumption) _ | exact frozen_alloc_later (by assumption) (by assumption) _ | exact Below.drew (by assumption) | (simp [go_sem, World.cell?_alloc_past, *]; done))))
              (first
                | (go_at_call 118; (with_reducible refine (HW.out _).mono ?_); rintro e w' ⟨rfl, hb⟩))
          go_split_ands
          have b6 : Below w5.heap.size w5 w' := by with_reducible assumption
          have INV6 := Lib.hid (INV5.out.later b6)
          go_wp2
          go_ret2
          exact ⟨.slice none 0 0, by rw [EE.out]; rfl, by rw [LL.out]; exact World.ownsRow_nil _ _ _ _, INV6.out.b⟩
      · have hg := g_mode x k hm
        have n1 : (moE (x.ms k) != 0) = true := by simpa using hm
        have hg0 : x.g k ≠ 0 := by rw [hg]; exact hm
        have EE : Hid (E0 = moE (x.ms k)) := by show _ = _; rw [← HE.out, FS.out k x.n hlt, if_neg hg0, hg]
        have LL : Hid (L0 = []) := by show _ = _; rw [← LQ.out]; unfold Mb.L; rw [EQ.out, EE.out, if_neg hm]
        clear hm hg hg0
        go_wp2_with fail
        refine (HM.out _).mono ?_
        rintro e w5 ⟨rfl, hb5⟩
        have INV5 := Lib.hid (INV.out.later hb5)
        clear hb5
        go_wp2
        go_ret2
        exact ⟨.slice none 0 0, by rw [EE.out]; rfl, by rw [LL.out]; exact World.ownsRow_nil _ _ _ _, INV5.out.b⟩
    · obtain ⟨wa, rfl⟩ : ∃ q : World, q = wr := ⟨_, rfl⟩
      have hk' : k = x.n := by omega
      have HK := Lib.hid hk'
      have hE0 : E0 = 0 := by rw [← HE.out, HK.out, Nat.sub_self]; rfl
      have hL0 : L0 = x.fv x.n := by rw [← LQ.out]; unfold Mb.L; rw [EQ.out, if_pos hE0]
      have HE0 := Lib.hid hE0; have HL0 := Lib.hid hL0
      have kk : decide ((k : Int) < (x.n : Int)) = false := by simp; omega
      have LT : Hid (∀ i, i < x.n → ∀ w, Calls Try.prog 54 #[.agg #[.int .i64 (x.ms i).wd, .int .i64 (x.ms i).mt, .int .i64 (x.ms i).sk, .int .i64 (x.ms i).th], .agg #[.int .i64 x.fx, .int .i64 x.fz], .agg #[.int .i64 x.tx, .int .i64 x.tz]] w fun e w' => e = .returned (.agg #[.int .i64 (x.lo i), .int .i64 (x.hi i)]) ∧ Below w.heap.size w w') := Lib.hid (fun i hi w => refLeastTime_any (x.y i) ((wyE_ok _).1 (HZ.out i (by rw [HK.out]; exact hi))) w)
      have ee := mo.cells hn
      rw [show a.add (0 * 4) = a from rfl] at ee
      obtain ⟨e0, e1, e2, e3⟩ := ee
      have L00 := Lib.hid (LT.out 0 hn)
      have M0 : Hid (x.mn 0 = x.hi 0) := (rfl : x.mn 0 = x.hi 0)
      have i0' : (0 : Int) < (x.n : Int) := by omega
      have bela : Below wa.heap.size wa wa := Below.refl _ _
      clear hE0 hL0 hk' mo bel
      go_wp2_with fail
      go_region_held3 (fun w' => w'.cell? ⟨w.heap.size, 0, none⟩ = some (.int .i64 x.fx) ∧ w'.cell? ⟨w.heap.size, 1, none⟩ = some (.int .i64 x.fz) ∧ w'.cell? ⟨w.heap.size + 1, 0, none⟩ = some (.int .i64 x.tx) ∧ w'.cell? ⟨w.heap.size + 1, 1, none⟩ = some (.int .i64 x.tz) ∧ w'.cell? a = some (.int .i64 (x.ms 0).wd) ∧ w'.cell? ⟨a.block, a.off + 1, none⟩ = some (.int .i64 (x.ms 0).mt) ∧ w'.cell? ⟨a.block, a.off + 2, none⟩ = some (.int .i64 (x.ms 0).sk) ∧ w'.cell? ⟨a.block, a.off + 3, none⟩ = some (.int .i64 (x.ms 0).th) ∧ Below wa.heap.size wa w') (((go_split_ands; (repeat' apply And.intro) <;> first | (with_reducible assumption) | exact cell_later (by assumption) (by assumption) | exact frozen_after (by assumption) (by assumption) (by assumption) | exact below_then (by assumption) (by assumption) | exact below_alloc_top (by assumption) _ | exact cell_alloc_later (by assumption) _ | exact frozen_alloc_later (by assumption) (by assumption) _ | exact Below.drew (by assumption) | (simp [go_sem, World.cell?_alloc_past, *]; done))))
          (first
            | (go_at_call 54; (with_reducible refine (L00.out _).mono ?_); rintro e w' ⟨rfl, hb⟩))
      go_split_ands
      have b6 : Below wa.heap.size wa w' := by with_reducible assumption
      have INV6 := Lib.hid (INV.out.later b6)
      obtain ⟨w4, rfl⟩ : ∃ q : World, q = w' := ⟨_, rfl⟩
      go_wp2
      go_loopw [11, 12] (fun s11 s12 wr => ∃ k : Nat, k ≤ x.n ∧ s12 = .int .i64 (k : Int) ∧ s11 = .int .i64 (x.mn k) ∧ MbI x a w wr) (fun _ s12 _ => x.n - (intOf s12).toNat)
      case atStart => exact ⟨0, Nat.zero_le _, rfl, by rw [M0.out], INV6.out⟩
      case round =>
        obtain ⟨k2, hk2, rfl, rfl, inv2⟩ := hrel
        obtain ⟨w2, rfl⟩ : ∃ q : World, q = wr := ⟨_, rfl⟩
        have INV2 := Lib.hid inv2
        obtain ⟨r0, r1, r2, r3, mo, bel⟩ := inv2
        have zr0 := World.block_lt_of_cell? _ _ r0
        have zr1 := World.block_lt_of_cell? _ _ r2
        dsimp only at zr0 zr1
        have MO := Lib.hid mo; have BEL := Lib.hid bel; clear mo bel
        by_cases hlt2 : k2 < x.n
        · obtain ⟨e0, e1, e2, e3⟩ := MO.out.cells hlt2
          have HL := Lib.hid (LT.out k2 hlt2)
          have j0 : (0 : Int) ≤ (k2 : Int) := Int.natCast_nonneg _
          have j1 : (k2 : Int) < (x.n : Int) := by omega
          have MS : Hid (x.mn (k2 + 1) = min (x.mn k2) (x.hi k2)) := (rfl : x.mn (k2 + 1) = _)
          have bel2 : Below w2.heap.size w2 w2 := Below.refl _ _
          go_wp2_with fail
          go_region_held3 (fun w' => w'.cell? ⟨w.heap.size, 0, none⟩ = some (.int .i64 x.fx) ∧ w'.cell? ⟨w.heap.size, 1, none⟩ = some (.int .i64 x.fz) ∧ w'.cell? ⟨w.heap.size + 1, 0, none⟩ = some (.int .i64 x.tx) ∧ w'.cell? ⟨w.heap.size + 1, 1, none⟩ = some (.int .i64 x.tz) ∧ w'.cell? (a.add (k2 * 4)) = some (.int .i64 (x.ms k2).wd) ∧ w'.cell? ⟨(a.add (k2 * 4)).block, (a.add (k2 * 4)).off + 1, none⟩ = some (.int .i64 (x.ms k2).mt) ∧ w'.cell? ⟨(a.add (k2 * 4)).block, (a.add (k2 * 4)).off + 2, none⟩ = some (.int .i64 (x.ms k2).sk) ∧ w'.cell? ⟨(a.add (k2 * 4)).block, (a.add (k2 * 4)).off + 3, none⟩ = some (.int .i64 (x.ms k2).th) ∧ Below w2.heap.size w2 w') (((go_split_ands; (repeat' apply And.intro) <;> first | (with_reducible assumption) | exact cell_later (by assumption) (by assumption) | exact frozen_after (by assumption) (by assumption) (by assumption) | exact below_then (by assumption) (by assumption) | exact below_alloc_top (by assumption) _ | exact cell_alloc_later (by assumption) _ | exact frozen_alloc_later (by assumption) (by assumption) _ | exact Below.drew (by assumption) | (simp [go_sem, World.cell?_alloc_past, *]; done))))
              (first
                | (go_at_call 54; (with_reducible refine (HL.out _).mono ?_); rintro e w' ⟨rfl, hb⟩))
          go_split_ands
          have b7 : Below w2.heap.size w2 w' := by with_reducible assumption
          have INV7 := Lib.hid (INV2.out.later b7)
          go_wp2
          go_roundw
          case rel => exact ⟨k2 + 1, by omega, by go_num, by rw [MS.out], INV7.out⟩
          case measure => simp [intOf]; omega
        · have hk2' : k2 = x.n := by omega
          have HK2 := Lib.hid hk2'
          have kk2 : decide ((k2 : Int) < (x.n : Int)) = false := by simp; omega
          have MN : Hid (x.mn k2 = x.mn x.n) := by show _ = _; rw [HK2.out]
          have FY := Lib.hid (fun k (h : x.lo k ≤ x.mn x.n) => fv_yes x k h)
          have FN := Lib.hid (fun k (h : x.mn x.n < x.lo k) => fv_no x k (by omega))
          have FL := Lib.hid (fv_len x)
          have F0 : Hid (x.fv 0 = []) := (rfl : x.fv 0 = [])
          clear hk2'
          rw [MN.out] at *
          generalize x.mn x.n = mn at *
          go_wp2
          go_loopw [13, 14] (fun s13 s14 wr => ∃ (k : Nat) (v3 : Value), v3 = s13 ∧ k ≤ x.n ∧ s14 = .int .i64 (k : Int) ∧ wr.ownsRow w2.heap.size 3 1 v3 (x.fv k).length (x.fv k) ∧ Below w2.heap.size w2 wr) (fun _ s14 _ => x.n - (intOf s14).toNat)
          case atStart => exact ⟨0, _, rfl, Nat.zero_le _, rfl, by rw [F0.out]; exact World.ownsRow_nil _ _ _ _, Below.refl _ _⟩
          case round =>
            obtain ⟨k3, v3, rfl, hk3, rfl, hown3, hb3⟩ := hrel
            obtain ⟨w3, rfl⟩ : ∃ q : World, q = wr := ⟨_, rfl⟩
            have HB3 := Lib.hid hb3
            have sz3 := hb3.size
            have inv3 := INV2.out.later hb3
            obtain ⟨r0, r1, r2, r3, mo, bel⟩ := inv3
            have MO3 := Lib.hid mo; clear mo bel hb3
            by_cases hlt3 : k3 < x.n
            · obtain ⟨e0, e1, e2, e3⟩ := MO3.out.cells hlt3
              have HL := Lib.hid (LT.out k3 hlt3)
              have j0 : (0 : Int) ≤ (k3 : Int) := Int.natCast_nonneg _
              have j1 : (k3 : Int) < (x.n : Int) := by omega
              have bel3 : Below w3.heap.size w3 w3 := Below.refl _ _
              have HO3 := Lib.hid hown3; clear hown3
              go_wp2_with fail
              go_region_held3 (fun w' => w'.cell? ⟨w.heap.size, 0, none⟩ = some (.int .i64 x.fx) ∧ w'.cell? ⟨w.heap.size, 1, none⟩ = some (.int .i64 x.fz) ∧ w'.cell? ⟨w.heap.size + 1, 0, none⟩ = some (.int .i64 x.tx) ∧ w'.cell? ⟨w.heap.size + 1, 1, none⟩ = some (.int .i64 x.tz) ∧ w'.cell? (a.add (k3 * 4)) = some (.int .i64 (x.ms k3).wd) ∧ w'.cell? ⟨(a.add (k3 * 4)).block, (a.add (k3 * 4)).off + 1, none⟩ = some (.int .i64 (x.ms k3).mt) ∧ w'.cell? ⟨(a.add (k3 * 4)).block, (a.add (k3 * 4)).off + 2, none⟩ = some (.int .i64 (x.ms k3).sk) ∧ w'.cell? ⟨(a.add (k3 * 4)).block, (a.add (k3 * 4)).off + 3, none⟩ = some (.int .i64 (x.ms k3).th) ∧ Below w3.heap.size w3 w') (((go_split_ands; (repeat' apply And.intro) <;> first | (with_reducible assumption) | exact cell_later (by assumption) (by assumption) | exact frozen_after (by assumption) (by assumption) (by assumption) | exact below_then (by assumption) (by assumption) | exact below_alloc_top (by assumption) _ | exact cell_alloc_later (by assumption) _ | exact frozen_alloc_later (by assumption) (by assumption) _ | exact Below.drew (by assumption) | (simp [go_sem, World.cell?_alloc_past, *]; done))))
                  (first
                    | (go_at_call 54; (with_reducible refine (HL.out _).mono ?_); rintro e w' ⟨rfl, hb⟩))
              go_split_ands
              have b8 : Below w3.heap.size w3 w' := by with_reducible assumption
              obtain ⟨w5, rfl⟩ : ∃ q : World, q = w' := ⟨_, rfl⟩
              have HO5 := Lib.hid (own_below HO3.out b8)
              have HB5 := Lib.hid (below_then HB3.out b8)
              have sz5 := HB5.out.size
              have ag5 := Lib.hid (fun q e => (HO5.out.lt q e).1)
              by_cases hle : x.lo k3 ≤ mn
              · have fl := FL.out k3
                have bm : ((x.fv k3).length + 1 : Nat) ≤ maxLen := by unfold maxLen; omega
                have BM := Lib.hid bm; clear bm
                have FE := Lib.hid (FY.out k3 hle)
                have nb : ∀ j u, (#[Value.int .i64 (k3 : Int)] : Array Value).toList[j]? = some u → (w5.alloc (.cells #[.int .i64 (k3 : Int)] 3)).cell? ((⟨w5.heap.size, 0, none⟩ : Addr).add j) = some u :=
                  World.news_of_block (t := 3) (fr := (0, 0)) (heap_alloc_new w5 _)
                have NB := Lib.hid nb; clear nb
                go_wp2_with (at_builtin; refine wpList_append_lies _ rfl _ _ _ rfl w2.heap.size 3 j0_ _ 1 8 Try.underlying89 JI0.out JZ0.out JZ1.out JZ2.out rfl (by omega) v3 (x.fv k3).length (x.fv k3) rfl (HO5.out.alloc _) ⟨w5.heap.size, 0, none⟩ 1 1 [.int .i64 (k3 : Int)] rfl rfl NB.out (by simp [Value.oneCell']) (by omega) BM.out (by omega) (by simp; omega) (w5.heap.size + 1) (by simp) ?_; intro g6 cap w6 hown6 hgrow6 hat6 hlt6)
                have HO6 := Lib.hid hown6; clear hown6
                have HG6 := Lib.hid hgrow6; clear hgrow6 hat6 hlt6
                go_roundw
                case rel => exact ⟨k3 + 1, _, rfl, by omega, by go_num, by rw [FE.out, List.length_append]; exact HO6.out, (HB5.out.alloc (by omega) _).grown HG6.out (by simp; omega) (fun q e => ag5.out q e)⟩
                case measure => simp [intOf]; omega
              · have hle' : mn < x.lo k3 := by omega
                have d1 : decide (x.lo k3 ≤ mn) = false := by simp; omega
                have FE := Lib.hid (FN.out k3 hle')
                clear hle
                go_wp2
                go_roundw
                case rel => exact ⟨k3 + 1, _, rfl, by omega, by go_num, by rw [FE.out]; exact HO5.out, HB5.out⟩
                case measure => simp [intOf]; omega
            · have hk3' : k3 = x.n := by omega
              have HK3 := Lib.hid hk3'
              have kk3 : decide ((k3 : Int) < (x.n : Int)) = false := by simp; omega
              clear hk3'
              go_wp2
              go_ret2
              exact ⟨v3, by rw [HE0.out]; rfl, by rw [HL0.out, ← HK3.out]; exact own_mono hown3 BEL.out.size, Below.trans BEL.out (HB3.out.mono BEL.out.size)⟩
end Go.Proofs.Ytdicndakelgoeaa
