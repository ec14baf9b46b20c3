/- Without: the law, or nothing -/
import Derived.Test.YtkkaomgdlnejcaaGreatDoorVk
import Derived.Test.YtkkaomgdlnejcaaGreatDoorTl
namespace Go.Proofs.YtkkaomgdlnejcaaGreatDoor
open Go.RowKit Go.Shelf RayM
set_option linter.unusedSimpArgs false
set_option linter.unusedVariables false
set_option maxRecDepth 100000 in
set_option maxHeartbeats 2000000 in
theorem withoutL_any (d : Dl) (dd : Nat → Int) (nd : Nat) (B : Option Addr) (e : Nat) (A : Option Addr) (c : Nat) (w : World) (h : InAt B d.n d.t w) (k : InAt A nd dd w) (hm : d.n ≤ 1000) (hd : nd ≤ 1000) :
    Calls Tryz.prog 26 #[.agg #[.int .i64 d.ck, .slice B d.n e], .slice A nd c] w fun e w' => LwP d.ck (woC d.t dd nd) d.n (woE d dd nd) w e w' := by
  have HT := Lib.hid h; clear h
  have HX := Lib.hid k; clear k
  have HE := Lib.hid (fun w h => lawErr_any d B e w h (by omega))
  have HD := Lib.hid (fun w h => dead_any dd nd d.n A c w h hd hm)
  have EF : Hid (fst [d.E, ffE (wcE d.n dd) 0 nd] = woE d dd nd) := Lib.hid (by
    unfold woE; by_cases q : d.E = 0
    · rw [if_pos q, q]; by_cases r : ffE (wcE d.n dd) 0 nd = 0 <;> simp [fst, r]
    · rw [if_neg q]; simp [fst, q])
  by_cases hz : woE d dd nd = 0
  · have hE : d.E = 0 := by
      unfold woE at hz; by_cases q : d.E = 0
      · exact q
      · rw [if_neg q] at hz; exact absurd hz q
    have h2 : ffE (wcE d.n dd) 0 nd = 0 := by unfold woE at hz; rw [if_pos hE] at hz; exact hz
    obtain ⟨_, ⟨n0, n1⟩, _⟩ := (Dl.E_zero d).1 hE
    obtain ⟨ad, rfl⟩ := HT.out.some n0
    have HK := Lib.hid (fun w h => clone_any (some ad) d.n e d.t w (by omega) (fun q => by cases q) h)
    have DB : Hid (∀ j, j < nd → ∃ i : Nat, dd j = i ∧ i < d.n) := Lib.hid (fun j hj => by
      obtain ⟨⟨q1, q2⟩, _⟩ := (wcE_zero d.n dd j).1 ((ffE_zero (wcE d.n dd) nd).1 h2 j hj)
      exact ⟨(dd j).toNat, by omega, by omega⟩)
    have W0 := Lib.hid (woC_zero d.t dd)
    have WN := Lib.hid (fun k i j h => woC_next d.t dd k i j h)
    rw [hz] at EF ⊢
    generalize d.E = u0 at *
    generalize ffE (wcE d.n dd) 0 nd = E2 at *
    clear hz hE h2
    go_enter Tryz.func26, Tryz.ntmps26
    go_wp2
    have hS : Below w.heap.size w ((w.alloc (.cells #[.int .i64 d.ck, .slice (some ad) d.n e] 33)).alloc (.cells #[.int .i64 0, .slice none 0 0] 33)) := (by repeat (first | exact Below.refl _ _ | refine Below.drew ?_ | refine below_drewN ?_ _ | refine Below.setCell ?_ (by first | omega | (simp; done) | (simp; omega)) _ | refine Below.alloc ?_ (by first | omega | (simp; done) | (simp; omega)) _))
    go_region_held3 (fun w' => w'.cell? ⟨w.heap.size, 0, none⟩ = some (.int .i64 d.ck) ∧ w'.cell? ⟨w.heap.size, 1, none⟩ = some (.slice (some ad) d.n e) ∧ w'.cell? ⟨w.heap.size + 1, 0, none⟩ = some (.int .i64 0) ∧ w'.cell? ⟨w.heap.size + 1, 1, none⟩ = some (.slice none 0 0) ∧ w'.frozen? ⟨w.heap.size, 1, none⟩ = false ∧ w'.frozen? ⟨w.heap.size + 1, 0, none⟩ = false ∧ w'.frozen? ⟨w.heap.size + 1, 1, none⟩ = false ∧ Below w.heap.size w w') (((go_split_ands; (repeat' apply And.intro) <;> first | (with_reducible assumption) | exact cell_later (by assumption) (by assumption) | exact frozen_after (by assumption) (by assumption) (by assumption) | exact below_then (by assumption) (by assumption) | exact below_alloc_top (by assumption) _ | exact cell_alloc_later (by assumption) _ | exact frozen_alloc_later (by assumption) (by assumption) _ | exact Below.drew (by assumption) | (simp [go_sem, World.cell?_alloc_past, *]; done))))
      (first
        | (go_split_ands; go_at_call 63; (with_reducible refine (HE.out _ (HT.out.later (by with_reducible assumption))).mono ?_); rintro e w' ⟨rfl, hb⟩)
        | (go_split_ands; go_at_call 64; (with_reducible refine (HD.out _ (HX.out.later (by with_reducible assumption))).mono ?_); rintro e w' ⟨rfl, hb⟩)
        | (go_at_call 42; refine (firstError_any _ [u0, E2] _ (by simp) (by first | exact cells_drew _ _ (by simp) _ _ | exact cells_new _ _ (by simp) _ _)).mono ?_; rw [EF.out]; rintro e w' ⟨rfl, rfl⟩))
    go_split_ands
    generalize hW : w'.alloc (Obj.cells #[.int .i64 u0, .int .i64 E2] 34) = W1 at *
    clear hW
    have y0 : W1.cell? ⟨w.heap.size, 0, none⟩ = some (.int .i64 d.ck)   := by with_reducible assumption
    have y1 : W1.cell? ⟨w.heap.size, 1, none⟩ = some (.slice (some ad) d.n e)   := by with_reducible assumption
    have y2 : W1.cell? ⟨w.heap.size + 1, 0, none⟩ = some (.int .i64 0)   := by with_reducible assumption
    have y3 : W1.cell? ⟨w.heap.size + 1, 1, none⟩ = some (.slice none 0 0)   := by with_reducible assumption
    have yf0 : W1.frozen? ⟨w.heap.size, 1, none⟩ = false   := by with_reducible assumption
    have yf1 : W1.frozen? ⟨w.heap.size + 1, 0, none⟩ = false   := by with_reducible assumption
    have yf2 : W1.frozen? ⟨w.heap.size + 1, 1, none⟩ = false   := by with_reducible assumption
    have yB0 : Below w.heap.size w W1 := by with_reducible assumption
    have yB := Lib.hid yB0; clear yB0
    have yz0 := World.block_lt_of_cell? _ _ y0
    dsimp only at yz0
    have yz1 := World.block_lt_of_cell? _ _ y2
    dsimp only at yz1
    go_wp2_with fail
    refine (HK.out _ (HT.out.later yB.out)).mono ?_
    rintro e w3 ⟨v3, rfl, hown3, hb3⟩
    have qw30 : w3.cell? ⟨w.heap.size, 0, none⟩ = some (.int .i64 d.ck) := cell_later hb3 y0
    have qw31 : w3.cell? ⟨w.heap.size, 1, none⟩ = some (.slice (some ad) d.n e) := cell_later hb3 y1
    have qw32 : w3.cell? ⟨w.heap.size + 1, 0, none⟩ = some (.int .i64 0) := cell_later hb3 y2
    have qw33 : w3.cell? ⟨w.heap.size + 1, 1, none⟩ = some (.slice none 0 0) := cell_later hb3 y3
    have qw3f0 := frozen_after hb3 y1 yf0
    have qw3f1 := frozen_after hb3 y2 yf1
    have qw3f2 := frozen_after hb3 y3 yf2
    have zqw3_0 := World.block_lt_of_cell? _ _ qw30
    dsimp only at zqw3_0
    have zqw3_2 := World.block_lt_of_cell? _ _ qw32
    dsimp only at zqw3_2
    have H3 : Hid (Below w.heap.size w w3) := Lib.hid (below_then yB.out hb3); clear hb3
    have zz3 := yB.out.size
    obtain ⟨g, cg, rfl, hg0, hg1, hR⟩ := own_row hown3 n0
    clear hown3
    go_upto_region 5 with fail
    generalize hW4 : w3.setCell ⟨w.heap.size, 1, none⟩ (.slice (some ⟨g, 0, none⟩) d.n cg) = w4 at *
    have R4 : RowW g d.n d.t w4 := by rw [← hW4]; exact hR.set _ _ _ (by omega)
    have a0 : w4.cell? ⟨w.heap.size, 0, none⟩ = some (.int .i64 d.ck) := by rw [← hW4]; exact setO (.inr (by dsimp only; omega)) qw30
    have a1 : w4.cell? ⟨w.heap.size, 1, none⟩ = some (.slice (some ⟨g, 0, none⟩) d.n cg) := by rw [← hW4]; exact setS qw31
    have a3 : w4.cell? ⟨w.heap.size + 1, 0, none⟩ = some (.int .i64 0) := by rw [← hW4]; exact setO (.inl (by dsimp only; omega)) qw32
    have a4 : w4.cell? ⟨w.heap.size + 1, 1, none⟩ = some (.slice none 0 0) := by rw [← hW4]; exact setO (.inl (by dsimp only; omega)) qw33
    have f3 : w4.frozen? ⟨w.heap.size + 1, 0, none⟩ = false := by rw [← hW4]; exact setF qw3f1
    have f4 : w4.frozen? ⟨w.heap.size + 1, 1, none⟩ = false := by rw [← hW4]; exact setF qw3f2
    have H4 : Hid (Below w.heap.size w w4) := Lib.hid (by rw [← hW4]; exact H3.out.setCell (Nat.le_refl _) _)
    have zg : w.heap.size + 1 < g := by omega
    clear hW4 hR qw30 qw31 qw32 qw33 qw3f0 qw3f1 qw3f2
    go_wp2
    go_loopw [28] (fun s28 wr => ∃ k : Nat, k ≤ nd ∧ s28 = .int .i64 (k : Int) ∧ RowW g d.n (woC d.t dd k) wr ∧ wr.cell? ⟨w.heap.size, 0, none⟩ = some (.int .i64 d.ck) ∧ wr.cell? ⟨w.heap.size, 1, none⟩ = some (.slice (some ⟨g, 0, none⟩) d.n cg) ∧ wr.cell? ⟨w.heap.size + 1, 0, none⟩ = some (.int .i64 0) ∧ wr.cell? ⟨w.heap.size + 1, 1, none⟩ = some (.slice none 0 0) ∧ wr.frozen? ⟨w.heap.size + 1, 0, none⟩ = false ∧ wr.frozen? ⟨w.heap.size + 1, 1, none⟩ = false ∧ Below w.heap.size w wr) (fun s28 _ => nd - (intOf s28).toNat)
    case atStart => exact ⟨0, Nat.zero_le _, rfl, by rw [W0.out]; exact R4, a0, a1, a3, a4, f3, f4, H4.out⟩
    case round =>
      clear R4 a0 a1 a3 a4 f3 f4
      obtain ⟨k, hk, rfl, R3, b0, b1, b2, b3, fb2, fb3, hb⟩ := hrel
      have HB := Lib.hid hb; clear hb
      have zr := HB.out.size
      have zr2 := World.block_lt_of_cell? _ _ b2
      dsimp only at zr2
      by_cases hlt : k < nd
      · obtain ⟨aA, rfl⟩ := HX.out.some (by omega)
        obtain ⟨i, ei, hi⟩ := DB.out k hlt
        have e0 := (HX.out.later HB.out).at hlt
        rw [ei] at e0
        have ci := (R3 i hi).1
        have fi := (R3 i hi).2
        have j0 : (0 : Int) ≤ (k : Int) := Int.natCast_nonneg _
        have j1 : (k : Int) < (nd : Int) := by omega
        have j8 : (k : Int) < 1000 := by omega
        have i0 : (0 : Int) ≤ (i : Int) := Int.natCast_nonneg _
        have i1 : (i : Int) < (d.n : Int) := by omega
        have EI := Lib.hid ei
        have R3' := Lib.hid R3
        clear R3 ei
        go_upto_region 9 with fail
        generalize hW5 : wr.setCell ⟨g, i, none⟩ (.int .i64 (-1)) = w5 at *
        have R5 : RowW g d.n (woC d.t dd (k + 1)) w5 := by rw [← hW5]; exact R3'.out.put i _ hi (fun j _ => WN.out k i j EI.out)
        have c0 : w5.cell? ⟨w.heap.size, 0, none⟩ = some (.int .i64 d.ck) := by rw [← hW5]; exact setO (.inl (by dsimp only; omega)) b0
        have c1 : w5.cell? ⟨w.heap.size, 1, none⟩ = some (.slice (some ⟨g, 0, none⟩) d.n cg) := by rw [← hW5]; exact setO (.inl (by dsimp only; omega)) b1
        have c2 : w5.cell? ⟨w.heap.size + 1, 0, none⟩ = some (.int .i64 0) := by rw [← hW5]; exact setO (.inl (by dsimp only; omega)) b2
        have c3 : w5.cell? ⟨w.heap.size + 1, 1, none⟩ = some (.slice none 0 0) := by rw [← hW5]; exact setO (.inl (by dsimp only; omega)) b3
        have fc2 : w5.frozen? ⟨w.heap.size + 1, 0, none⟩ = false := by rw [← hW5]; exact setF fb2
        have fc3 : w5.frozen? ⟨w.heap.size + 1, 1, none⟩ = false := by rw [← hW5]; exact setF fb3
        have H5 : Hid (Below w.heap.size w w5) := Lib.hid (by rw [← hW5]; exact HB.out.setCell (by dsimp only; omega) _)
        have R5' := Lib.hid R5
        clear hW5 R3' b0 b1 b2 b3 fb2 fb3 ci fi e0 R5
        go_wp2
        go_roundw
        case rel => exact ⟨k + 1, by omega, by go_num, R5'.out, by assumption, by assumption, by assumption, by assumption, by assumption, by assumption, H5.out⟩
        case measure => simp [intOf]; omega
      · have hk' : k = nd := by omega
        have kk : decide ((k : Int) < (nd : Int)) = false := by simp; omega
        have R7 : Hid (RowW g d.n (woC d.t dd nd) wr) := Lib.hid (by rw [← hk']; exact R3)
        have zg1 := World.block_lt_of_cell? _ _ (R3 0 n0).1
        dsimp only at zg1
        clear R3 hk'
        go_wp2
        exact bodyPost_ret (v := .tuple #[.agg #[.int .i64 d.ck, .slice (some ⟨g, 0, none⟩) d.n cg], .int .i64 0]) (by simp [results, Tryz.results26, go_sem, World.cell?_alloc_past, *]) rfl (LwP.good rfl (by omega) (by simp; omega) ((R7.out.set _ _ _ (by omega)).set _ _ _ (by omega)).at (by (repeat (first | (with_reducible exact HB.out) | (with_reducible refine Below.setCell ?_ ?_ _) | (with_reducible refine below_alloc_top ?_ _) | (with_reducible refine Below.drew ?_))); all_goals (first | omega | (simp; done) | (simp; omega))))
  · have NE := Lib.hid hz
    have n2 : (woE d dd nd != 0) = true := by simpa using hz
    generalize d.E = u0 at *
    generalize ffE (wcE d.n dd) 0 nd = E2 at *
    generalize woE d dd nd = E3 at *
    clear hz
    go_enter Tryz.func26, Tryz.ntmps26
    go_wp2
    have hS : Below w.heap.size w ((w.alloc (.cells #[.int .i64 d.ck, .slice B d.n e] 33)).alloc (.cells #[.int .i64 0, .slice none 0 0] 33)) := (by repeat (first | exact Below.refl _ _ | refine Below.drew ?_ | refine below_drewN ?_ _ | refine Below.setCell ?_ (by first | omega | (simp; done) | (simp; omega)) _ | refine Below.alloc ?_ (by first | omega | (simp; done) | (simp; omega)) _))
    go_region_held3 (fun w' => w'.cell? ⟨w.heap.size, 0, none⟩ = some (.int .i64 d.ck) ∧ w'.cell? ⟨w.heap.size, 1, none⟩ = some (.slice B d.n e) ∧ w'.cell? ⟨w.heap.size + 1, 0, none⟩ = some (.int .i64 0) ∧ w'.cell? ⟨w.heap.size + 1, 1, none⟩ = some (.slice none 0 0) ∧ w'.frozen? ⟨w.heap.size, 1, none⟩ = false ∧ w'.frozen? ⟨w.heap.size + 1, 0, none⟩ = false ∧ w'.frozen? ⟨w.heap.size + 1, 1, none⟩ = false ∧ Below w.heap.size w w') (((go_split_ands; (repeat' apply And.intro) <;> first | (with_reducible assumption) | exact cell_later (by assumption) (by assumption) | exact frozen_after (by assumption) (by assumption) (by assumption) | exact below_then (by assumption) (by assumption) | exact below_alloc_top (by assumption) _ | exact cell_alloc_later (by assumption) _ | exact frozen_alloc_later (by assumption) (by assumption) _ | exact Below.drew (by assumption) | (simp [go_sem, World.cell?_alloc_past, *]; done))))
      (first
        | (go_split_ands; go_at_call 63; (with_reducible refine (HE.out _ (HT.out.later (by with_reducible assumption))).mono ?_); rintro e w' ⟨rfl, hb⟩)
        | (go_split_ands; go_at_call 64; (with_reducible refine (HD.out _ (HX.out.later (by with_reducible assumption))).mono ?_); rintro e w' ⟨rfl, hb⟩)
        | (go_at_call 42; refine (firstError_any _ [u0, E2] _ (by simp) (by first | exact cells_drew _ _ (by simp) _ _ | exact cells_new _ _ (by simp) _ _)).mono ?_; rw [EF.out]; rintro e w' ⟨rfl, rfl⟩))
    go_split_ands
    generalize hW : w'.alloc (Obj.cells #[.int .i64 u0, .int .i64 E2] 34) = W1 at *
    clear hW
    have y0 : W1.cell? ⟨w.heap.size, 0, none⟩ = some (.int .i64 d.ck)   := by with_reducible assumption
    have y1 : W1.cell? ⟨w.heap.size, 1, none⟩ = some (.slice B d.n e)   := by with_reducible assumption
    have y2 : W1.cell? ⟨w.heap.size + 1, 0, none⟩ = some (.int .i64 0)   := by with_reducible assumption
    have y3 : W1.cell? ⟨w.heap.size + 1, 1, none⟩ = some (.slice none 0 0)   := by with_reducible assumption
    have yf0 : W1.frozen? ⟨w.heap.size, 1, none⟩ = false   := by with_reducible assumption
    have yf1 : W1.frozen? ⟨w.heap.size + 1, 0, none⟩ = false   := by with_reducible assumption
    have yf2 : W1.frozen? ⟨w.heap.size + 1, 1, none⟩ = false   := by with_reducible assumption
    have yB0 : Below w.heap.size w W1 := by with_reducible assumption
    have yB := Lib.hid yB0; clear yB0
    have yz0 := World.block_lt_of_cell? _ _ y0
    dsimp only at yz0
    have yz1 := World.block_lt_of_cell? _ _ y2
    dsimp only at yz1
    go_wp2
    exact bodyPost_ret (v := .tuple #[.agg #[.int .i64 0, .slice none 0 0], .int .i64 E3]) (by simp [results, Tryz.results26, go_sem, World.cell?_alloc_past, *]) rfl (LwP.bad NE.out rfl (by (repeat (first | (with_reducible exact yB.out) | (with_reducible refine Below.setCell ?_ ?_ _) | (with_reducible refine below_alloc_top ?_ _) | (with_reducible refine Below.drew ?_))); all_goals (first | omega | (simp; done) | (simp; omega))))
end Go.Proofs.YtkkaomgdlnejcaaGreatDoor
