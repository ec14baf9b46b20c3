/- Without -/
import Derived.Test.YtdicndakelgoeaaV19
namespace Go.Proofs.Ytdicndakelgoeaa
open Go.RowKit Go.Shelf RayM
set_option linter.unusedSimpArgs false
set_option linter.unusedVariables false
set_option maxRecDepth 100000 in
set_option maxHeartbeats 1000000 in
theorem without_any (d : Dl) (dd : Nat → Int) (nd : Nat) (B : Option Addr) (e : Nat) (A : Option Addr) (c : Nat) (w : World) (h : InAt B d.n d.t w) (k : InAt A nd dd w) (hm : d.n ≤ 9223372036854775807) (hd : nd ≤ 16) :
    Calls Try.prog 86 #[.agg #[.int .i64 d.ck, .slice B d.n e], .slice A nd c] w fun e w' => woPost d.ck (woC d.t dd nd) d.n (woE d dd nd) w e w' := by
  have HT := Lib.hid h; clear h
  have HX := Lib.hid k; clear k
  have HE := Lib.hid (fun w h => lawErr_any d B e w h hm)
  by_cases hE : d.E = 0
  · obtain ⟨_, ⟨n0, n1⟩, _⟩ := (Dl.E_zero d).1 hE
    obtain ⟨ad, rfl⟩ := HT.out.some n0
    have HEA : Hid (∀ w', w'.cell? ⟨w.heap.size, 1, none⟩ = some (.slice (some ad) d.n e) → w'.cell? ⟨w.heap.size + 1, 0, none⟩ = some (.slice A nd c) → InAt A nd dd w' → Calls Try.prog 147 #[.slice A nd c, .func (.func 148) #[] #[.pointer (some ⟨w.heap.size, 0, none⟩), .pointer (some ⟨w.heap.size + 1, 0, none⟩)]] w' fun e' w'' => e' = .returned (.tuple #[.int .i64 (ffI (wcE d.n dd) 0 nd : Nat), .int .i64 (ffE (wcE d.n dd) 0 nd)]) ∧ Below w'.heap.size w' w'') := Lib.hid (fun w' c1 c2 h => each_wo A nd c dd (wcE d.n dd) w.heap.size (w.heap.size + 1) w' (by omega) h (fun i hi W hW => wo1_any (some ad) d.n e d.ck A nd c dd i (dd i) w.heap.size (w.heap.size + 1) W (cell_later hW c1) (cell_later hW c2) (h.later hW) hi rfl (by omega) (by omega)))
    have HK := Lib.hid (fun w h => clone_any (some ad) d.n e d.t w (by omega) (fun q => by cases q) h)
    have FZ := Lib.hid (ffE_zero (wcE d.n dd) nd)
    have e1 : woE d dd nd = ffE (wcE d.n dd) 0 nd := by unfold woE; rw [if_pos hE]
    rw [e1]; rw [hE] at HE
    generalize ffI (wcE d.n dd) 0 nd = I2 at *
    generalize ffE (wcE d.n dd) 0 nd = E2 at *
    clear hE e1
    by_cases h2 : E2 = 0
    · have DB : Hid (∀ j, j < nd → ∃ i : Nat, dd j = i ∧ i < d.n) := Lib.hid (fun j hj => by
        obtain ⟨⟨q1, q2⟩, _⟩ := (wcE_zero d.n dd j).1 (FZ.out.1 h2 j hj)
        exact ⟨(dd j).toNat, by omega, by omega⟩)
      rw [h2] at HEA ⊢
      clear h2 FZ
      have W0 := Lib.hid (woC_zero d.t dd)
      have WN := Lib.hid (fun k i j h => woC_next d.t dd k i j h)
      go_enter Try.func86, Try.ntmps86
      go_wp2_with fail
      refine (HE.out _ (HT.out.later (by repeat (first | exact Below.refl _ _ | refine Below.drew ?_ | refine below_drewN ?_ _ | refine Below.setCell ?_ (by first | omega | (simp; done) | (simp; omega)) _ | refine Below.alloc ?_ (by first | omega | (simp; done) | (simp; omega)) _)))).mono ?_
      rintro e w1 ⟨rfl, hb1⟩
      have qw10 : w1.cell? ⟨w.heap.size, 0, none⟩ = some (.int .i64 d.ck) := cell_later hb1 (by simp [go_sem])
      have qw11 : w1.cell? ⟨w.heap.size, 1, none⟩ = some (.slice (some ad) d.n e) := cell_later hb1 (by simp [go_sem])
      have qw12 : w1.cell? ⟨w.heap.size + 1, 0, none⟩ = some (.slice A nd c) := cell_later hb1 (by simp [go_sem])
      have qw13 : w1.cell? ⟨w.heap.size + 1 + 1, 0, none⟩ = some (.int .i64 0) := cell_later hb1 (by simp [go_sem])
      have qw14 : w1.cell? ⟨w.heap.size + 1 + 1, 1, none⟩ = some (.slice none 0 0) := cell_later hb1 (by simp [go_sem])
      have qw1f0 : w1.frozen? ⟨w.heap.size, 1, none⟩ = false := frozen_after hb1 (v := .slice (some ad) d.n e) (by simp [go_sem]) (by simp [go_sem])
      have qw1f1 : w1.frozen? ⟨w.heap.size + 1 + 1, 0, none⟩ = false := frozen_after hb1 (v := .int .i64 0) (by simp [go_sem]) (by simp [go_sem])
      have qw1f2 : w1.frozen? ⟨w.heap.size + 1 + 1, 1, none⟩ = false := frozen_after hb1 (v := .slice none 0 0) (by simp [go_sem]) (by simp [go_sem])
      have zqw1_0 := World.block_lt_of_cell? _ _ qw10
      dsimp only at zqw1_0
      have zqw1_2 := World.block_lt_of_cell? _ _ qw12
      dsimp only at zqw1_2
      have zqw1_3 := World.block_lt_of_cell? _ _ qw13
      dsimp only at zqw1_3
      have H1 : Hid (Below w.heap.size w w1) := Lib.hid (below_after (by repeat (first | exact Below.refl _ _ | refine Below.drew ?_ | refine below_drewN ?_ _ | refine Below.setCell ?_ (by first | omega | (simp; done) | (simp; omega)) _ | refine Below.alloc ?_ (by first | omega | (simp; done) | (simp; omega)) _)) hb1 (by first | omega | (simp; done) | (simp; omega))); clear hb1
      go_wp2_with fail
      refine (HEA.out _ qw11 qw12 (HX.out.later H1.out)).mono ?_
      rintro e w2 ⟨rfl, hb2⟩
      have qw20 : w2.cell? ⟨w.heap.size, 0, none⟩ = some (.int .i64 d.ck) := cell_later hb2 (by simp [go_sem, World.cell?_alloc_past, World.frozen?_alloc_past, *])
      have qw21 : w2.cell? ⟨w.heap.size, 1, none⟩ = some (.slice (some ad) d.n e) := cell_later hb2 (by simp [go_sem, World.cell?_alloc_past, World.frozen?_alloc_past, *])
      have qw22 : w2.cell? ⟨w.heap.size + 1, 0, none⟩ = some (.slice A nd c) := cell_later hb2 (by simp [go_sem, World.cell?_alloc_past, World.frozen?_alloc_past, *])
      have qw23 : w2.cell? ⟨w.heap.size + 1 + 1, 0, none⟩ = some (.int .i64 0) := cell_later hb2 (by simp [go_sem, World.cell?_alloc_past, World.frozen?_alloc_past, *])
      have qw24 : w2.cell? ⟨w.heap.size + 1 + 1, 1, none⟩ = some (.slice none 0 0) := cell_later hb2 (by simp [go_sem, World.cell?_alloc_past, World.frozen?_alloc_past, *])
      have qw2f0 : w2.frozen? ⟨w.heap.size, 1, none⟩ = false := frozen_after hb2 (v := .slice (some ad) d.n e) (by simp [go_sem, World.cell?_alloc_past, World.frozen?_alloc_past, *]) (by simp [go_sem, World.cell?_alloc_past, World.frozen?_alloc_past, *])
      have qw2f1 : w2.frozen? ⟨w.heap.size + 1 + 1, 0, none⟩ = false := frozen_after hb2 (v := .int .i64 0) (by simp [go_sem, World.cell?_alloc_past, World.frozen?_alloc_past, *]) (by simp [go_sem, World.cell?_alloc_past, World.frozen?_alloc_past, *])
      have qw2f2 : w2.frozen? ⟨w.heap.size + 1 + 1, 1, none⟩ = false := frozen_after hb2 (v := .slice none 0 0) (by simp [go_sem, World.cell?_alloc_past, World.frozen?_alloc_past, *]) (by simp [go_sem, World.cell?_alloc_past, World.frozen?_alloc_past, *])
      have zqw2_0 := World.block_lt_of_cell? _ _ qw20
      dsimp only at zqw2_0
      have zqw2_2 := World.block_lt_of_cell? _ _ qw22
      dsimp only at zqw2_2
      have zqw2_3 := World.block_lt_of_cell? _ _ qw23
      dsimp only at zqw2_3
      have H2 : Hid (Below w.heap.size w w2) := Lib.hid (below_then (by (repeat (first | (with_reducible exact H1.out) | (with_reducible refine Below.setCell ?_ ?_ _) | (with_reducible refine below_alloc_top ?_ _) | (with_reducible refine Below.drew ?_))); all_goals (first | omega | (simp; done) | (simp; omega))) hb2); clear hb2
      go_wp2_with fail
      refine (HK.out _ (HT.out.later H2.out)).mono ?_
      rintro e w3 ⟨v3, rfl, hown3, hb3⟩
      have qw30 : w3.cell? ⟨w.heap.size, 0, none⟩ = some (.int .i64 d.ck) := cell_later hb3 (by simp [go_sem, World.cell?_alloc_past, World.frozen?_alloc_past, *])
      have qw31 : w3.cell? ⟨w.heap.size, 1, none⟩ = some (.slice (some ad) d.n e) := cell_later hb3 (by simp [go_sem, World.cell?_alloc_past, World.frozen?_alloc_past, *])
      have qw32 : w3.cell? ⟨w.heap.size + 1, 0, none⟩ = some (.slice A nd c) := cell_later hb3 (by simp [go_sem, World.cell?_alloc_past, World.frozen?_alloc_past, *])
      have qw33 : w3.cell? ⟨w.heap.size + 1 + 1, 0, none⟩ = some (.int .i64 0) := cell_later hb3 (by simp [go_sem, World.cell?_alloc_past, World.frozen?_alloc_past, *])
      have qw34 : w3.cell? ⟨w.heap.size + 1 + 1, 1, none⟩ = some (.slice none 0 0) := cell_later hb3 (by simp [go_sem, World.cell?_alloc_past, World.frozen?_alloc_past, *])
      have qw3f0 : w3.frozen? ⟨w.heap.size, 1, none⟩ = false := frozen_after hb3 (v := .slice (some ad) d.n e) (by simp [go_sem, World.cell?_alloc_past, World.frozen?_alloc_past, *]) (by simp [go_sem, World.cell?_alloc_past, World.frozen?_alloc_past, *])
      have qw3f1 : w3.frozen? ⟨w.heap.size + 1 + 1, 0, none⟩ = false := frozen_after hb3 (v := .int .i64 0) (by simp [go_sem, World.cell?_alloc_past, World.frozen?_alloc_past, *]) (by simp [go_sem, World.cell?_alloc_past, World.frozen?_alloc_past, *])
      have qw3f2 : w3.frozen? ⟨w.heap.size + 1 + 1, 1, none⟩ = false := frozen_after hb3 (v := .slice none 0 0) (by simp [go_sem, World.cell?_alloc_past, World.frozen?_alloc_past, *]) (by simp [go_sem, World.cell?_alloc_past, World.frozen?_alloc_past, *])
      have zqw3_0 := World.block_lt_of_cell? _ _ qw30
      dsimp only at zqw3_0
      have zqw3_2 := World.block_lt_of_cell? _ _ qw32
      dsimp only at zqw3_2
      have zqw3_3 := World.block_lt_of_cell? _ _ qw33
      dsimp only at zqw3_3
      have H3 : Hid (Below w.heap.size w w3) := Lib.hid (below_then (by (repeat (first | (with_reducible exact H2.out) | (with_reducible refine Below.setCell ?_ ?_ _) | (with_reducible refine below_alloc_top ?_ _) | (with_reducible refine Below.drew ?_))); all_goals (first | omega | (simp; done) | (simp; omega))) hb3); clear hb3
      have zz3 := H2.out.size
      obtain ⟨g, cg, rfl, hg0, hg1, hR⟩ := own_row hown3 n0
      clear hown3
      go_upto_region 8 with fail
      generalize hW4 : w3.setCell ⟨w.heap.size, 1, none⟩ (.slice (some ⟨g, 0, none⟩) d.n cg) = w4 at *
      have R4 : RowW g d.n d.t w4 := by rw [← hW4]; exact hR.set _ _ _ (by omega)
      have a0 : w4.cell? ⟨w.heap.size, 0, none⟩ = some (.int .i64 d.ck) := by rw [← hW4]; exact setO (.inr (by dsimp only; omega)) qw30
      have a1 : w4.cell? ⟨w.heap.size, 1, none⟩ = some (.slice (some ⟨g, 0, none⟩) d.n cg) := by rw [← hW4]; exact setS qw31
      have a2 : w4.cell? ⟨w.heap.size + 1, 0, none⟩ = some (.slice A nd c) := by rw [← hW4]; exact setO (.inl (by dsimp only; omega)) qw32
      have a3 : w4.cell? ⟨w.heap.size + 1 + 1, 0, none⟩ = some (.int .i64 0) := by rw [← hW4]; exact setO (.inl (by dsimp only; omega)) qw33
      have a4 : w4.cell? ⟨w.heap.size + 1 + 1, 1, none⟩ = some (.slice none 0 0) := by rw [← hW4]; exact setO (.inl (by dsimp only; omega)) qw34
      have f3 : w4.frozen? ⟨w.heap.size + 1 + 1, 0, none⟩ = false := by rw [← hW4]; exact setF qw3f1
      have f4 : w4.frozen? ⟨w.heap.size + 1 + 1, 1, none⟩ = false := by rw [← hW4]; exact setF qw3f2
      have H4 : Hid (Below w.heap.size w w4) := Lib.hid (by rw [← hW4]; exact H3.out.setCell (Nat.le_refl _) _)
      have zg : w.heap.size + 1 + 1 < g := by omega
      clear hW4 hR qw30 qw31 qw32 qw33 qw34 qw3f0 qw3f1 qw3f2
      go_wp2
      go_loopw [33] (fun s33 wr => ∃ k : Nat, k ≤ nd ∧ s33 = .int .i64 (k : Int) ∧ RowW g d.n (woC d.t dd k) wr ∧ wr.cell? ⟨w.heap.size, 0, none⟩ = some (.int .i64 d.ck) ∧ wr.cell? ⟨w.heap.size, 1, none⟩ = some (.slice (some ⟨g, 0, none⟩) d.n cg) ∧ wr.cell? ⟨w.heap.size + 1 + 1, 0, none⟩ = some (.int .i64 0) ∧ wr.cell? ⟨w.heap.size + 1 + 1, 1, none⟩ = some (.slice none 0 0) ∧ wr.frozen? ⟨w.heap.size + 1 + 1, 0, none⟩ = false ∧ wr.frozen? ⟨w.heap.size + 1 + 1, 1, none⟩ = false ∧ Below w.heap.size w wr) (fun s33 _ => nd - (intOf s33).toNat)
      case atStart => exact ⟨0, Nat.zero_le _, rfl, by rw [W0.out]; exact R4, a0, a1, a3, a4, f3, f4, H4.out⟩
      case round =>
        clear R4 a0 a1 a2 a3 a4 f3 f4
        obtain ⟨k, hk, rfl, R3, b0, b1, b2, b3, fb2, fb3, hb⟩ := hrel
        have HB := Lib.hid hb; clear hb
        have zr := HB.out.size
        have zr2 := World.block_lt_of_cell? _ _ b2
        dsimp only at zr2
        by_cases hlt : k < nd
        · obtain ⟨aA, rfl⟩ := HX.out.some (by omega)
          obtain ⟨i, ei, hi⟩ := DB.out k hlt
          have e0 := (HX.out.later HB.out).at hlt
          rw [ei] at e0
          have ci := (R3 i hi).1
          have fi := (R3 i hi).2
          have j0 : (0 : Int) ≤ (k : Int) := Int.natCast_nonneg _
          have j1 : (k : Int) < (nd : Int) := by omega
          have j8 : (k : Int) < 1000 := by omega
          have i0 : (0 : Int) ≤ (i : Int) := Int.natCast_nonneg _
          have i1 : (i : Int) < (d.n : Int) := by omega
          have EI := Lib.hid ei
          have R3' := Lib.hid R3
          clear R3 ei
          go_upto_region 12 with fail
          generalize hW5 : wr.setCell ⟨g, i, none⟩ (.int .i64 (-1)) = w5 at *
          have R5 : RowW g d.n (woC d.t dd (k + 1)) w5 := by rw [← hW5]; exact R3'.out.put i _ hi (fun j _ => WN.out k i j EI.out)
          have c0 : w5.cell? ⟨w.heap.size, 0, none⟩ = some (.int .i64 d.ck) := by rw [← hW5]; exact setO (.inl (by dsimp only; omega)) b0
          have c1 : w5.cell? ⟨w.heap.size, 1, none⟩ = some (.slice (some ⟨g, 0, none⟩) d.n cg) := by rw [← hW5]; exact setO (.inl (by dsimp only; omega)) b1
          have c2 : w5.cell? ⟨w.heap.size + 1 + 1, 0, none⟩ = some (.int .i64 0) := by rw [← hW5]; exact setO (.inl (by dsimp only; omega)) b2
          have c3 : w5.cell? ⟨w.heap.size + 1 + 1, 1, none⟩ = some (.slice none 0 0) := by rw [← hW5]; exact setO (.inl (by dsimp only; omega)) b3
          have fc2 : w5.frozen? ⟨w.heap.size + 1 + 1, 0, none⟩ = false := by rw [← hW5]; exact setF fb2
          have fc3 : w5.frozen? ⟨w.heap.size + 1 + 1, 1, none⟩ = false := by rw [← hW5]; exact setF fb3
          have H5 : Hid (Below w.heap.size w w5) := Lib.hid (by rw [← hW5]; exact HB.out.setCell (by dsimp only; omega) _)
          have R5' := Lib.hid R5
          clear hW5 R3' b0 b1 b2 b3 fb2 fb3 ci fi e0 R5
          go_wp2
          go_roundw
          case rel => exact ⟨k + 1, by omega, by go_num, R5'.out, by assumption, by assumption, by assumption, by assumption, by assumption, by assumption, H5.out⟩
          case measure => simp [intOf]; omega
        · have hk' : k = nd := by omega
          have kk : decide ((k : Int) < (nd : Int)) = false := by simp; omega
          have R7 : Hid (RowW g d.n (woC d.t dd nd) wr) := Lib.hid (by rw [← hk']; exact R3)
          have zg1 := World.block_lt_of_cell? _ _ (R3 0 n0).1
          dsimp only at zg1
          clear R3 hk'
          go_wp2
          exact bodyPost_ret (v := .tuple #[.agg #[.int .i64 d.ck, .slice (some ⟨g, 0, none⟩) d.n cg], .int .i64 0]) (by simp [results, Try.results86, go_sem, World.cell?_alloc_past, *]) rfl ⟨d.ck, some ⟨g, 0, none⟩, d.n, cg, rfl, fun _ => ⟨rfl, rfl, ⟨g, rfl, by omega, by simp; omega⟩, ((R7.out.set _ _ _ (by omega)).set _ _ _ (by omega)).at⟩, (by (repeat (first | (with_reducible exact HB.out) | (with_reducible refine Below.setCell ?_ ?_ _) | (with_reducible refine below_alloc_top ?_ _) | (with_reducible refine Below.drew ?_))); all_goals (first | omega | (simp; done) | (simp; omega)))⟩
    · have n2 : (E2 != 0) = true := by simpa using h2
      have NE := Lib.hid h2
      clear h2 FZ
      go_enter Try.func86, Try.ntmps86
      go_wp2_with fail
      refine (HE.out _ (HT.out.later (by repeat (first | exact Below.refl _ _ | refine Below.drew ?_ | refine below_drewN ?_ _ | refine Below.setCell ?_ (by first | omega | (simp; done) | (simp; omega)) _ | refine Below.alloc ?_ (by first | omega | (simp; done) | (simp; omega)) _)))).mono ?_
      rintro e w1 ⟨rfl, hb1⟩
      have qw10 : w1.cell? ⟨w.heap.size, 0, none⟩ = some (.int .i64 d.ck) := cell_later hb1 (by simp [go_sem])
      have qw11 : w1.cell? ⟨w.heap.size, 1, none⟩ = some (.slice (some ad) d.n e) := cell_later hb1 (by simp [go_sem])
      have qw12 : w1.cell? ⟨w.heap.size + 1, 0, none⟩ = some (.slice A nd c) := cell_later hb1 (by simp [go_sem])
      have qw13 : w1.cell? ⟨w.heap.size + 1 + 1, 0, none⟩ = some (.int .i64 0) := cell_later hb1 (by simp [go_sem])
      have qw14 : w1.cell? ⟨w.heap.size + 1 + 1, 1, none⟩ = some (.slice none 0 0) := cell_later hb1 (by simp [go_sem])
      have qw1f0 : w1.frozen? ⟨w.heap.size, 1, none⟩ = false := frozen_after hb1 (v := .slice (some ad) d.n e) (by simp [go_sem]) (by simp [go_sem])
      have qw1f1 : w1.frozen? ⟨w.heap.size + 1 + 1, 0, none⟩ = false := frozen_after hb1 (v := .int .i64 0) (by simp [go_sem]) (by simp [go_sem])
      have qw1f2 : w1.frozen? ⟨w.heap.size + 1 + 1, 1, none⟩ = false := frozen_after hb1 (v := .slice none 0 0) (by simp [go_sem]) (by simp [go_sem])
      have zqw1_0 := World.block_lt_of_cell? _ _ qw10
      dsimp only at zqw1_0
      have zqw1_2 := World.block_lt_of_cell? _ _ qw12
      dsimp only at zqw1_2
      have zqw1_3 := World.block_lt_of_cell? _ _ qw13
      dsimp only at zqw1_3
      have H1 : Hid (Below w.heap.size w w1) := Lib.hid (below_after (by repeat (first | exact Below.refl _ _ | refine Below.drew ?_ | refine below_drewN ?_ _ | refine Below.setCell ?_ (by first | omega | (simp; done) | (simp; omega)) _ | refine Below.alloc ?_ (by first | omega | (simp; done) | (simp; omega)) _)) hb1 (by first | omega | (simp; done) | (simp; omega))); clear hb1
      go_wp2_with fail
      refine (HEA.out _ qw11 qw12 (HX.out.later H1.out)).mono ?_
      rintro e w2 ⟨rfl, hb2⟩
      have qw20 : w2.cell? ⟨w.heap.size, 0, none⟩ = some (.int .i64 d.ck) := cell_later hb2 (by simp [go_sem, World.cell?_alloc_past, World.frozen?_alloc_past, *])
      have qw21 : w2.cell? ⟨w.heap.size, 1, none⟩ = some (.slice (some ad) d.n e) := cell_later hb2 (by simp [go_sem, World.cell?_alloc_past, World.frozen?_alloc_past, *])
      have qw22 : w2.cell? ⟨w.heap.size + 1, 0, none⟩ = some (.slice A nd c) := cell_later hb2 (by simp [go_sem, World.cell?_alloc_past, World.frozen?_alloc_past, *])
      have qw23 : w2.cell? ⟨w.heap.size + 1 + 1, 0, none⟩ = some (.int .i64 0) := cell_later hb2 (by simp [go_sem, World.cell?_alloc_past, World.frozen?_alloc_past, *])
      have qw24 : w2.cell? ⟨w.heap.size + 1 + 1, 1, none⟩ = some (.slice none 0 0) := cell_later hb2 (by simp [go_sem, World.cell?_alloc_past, World.frozen?_alloc_past, *])
      have qw2f0 : w2.frozen? ⟨w.heap.size, 1, none⟩ = false := frozen_after hb2 (v := .slice (some ad) d.n e) (by simp [go_sem, World.cell?_alloc_past, World.frozen?_alloc_past, *]) (by simp [go_sem, World.cell?_alloc_past, World.frozen?_alloc_past, *])
      have qw2f1 : w2.frozen? ⟨w.heap.size + 1 + 1, 0, none⟩ = false := frozen_after hb2 (v := .int .i64 0) (by simp [go_sem, World.cell?_alloc_past, World.frozen?_alloc_past, *]) (by simp [go_sem, World.cell?_alloc_past, World.frozen?_alloc_past, *])
      have qw2f2 : w2.frozen? ⟨w.heap.size + 1 + 1, 1, none⟩ = false := frozen_after hb2 (v := .slice none 0 0) (by simp [go_sem, World.cell?_alloc_past, World.frozen?_alloc_past, *]) (by simp [go_sem, World.cell?_alloc_past, World.frozen?_alloc_past, *])
      have zqw2_0 := World.block_lt_of_cell? _ _ qw20
      dsimp only at zqw2_0
      have zqw2_2 := World.block_lt_of_cell? _ _ qw22
      dsimp only at zqw2_2
      have zqw2_3 := World.block_lt_of_cell? _ _ qw23
      dsimp only at zqw2_3
      have H2 : Hid (Below w.heap.size w w2) := Lib.hid (below_then (by (repeat (first | (with_reducible exact H1.out) | (with_reducible refine Below.setCell ?_ ?_ _) | (with_reducible refine below_alloc_top ?_ _) | (with_reducible refine Below.drew ?_))); all_goals (first | omega | (simp; done) | (simp; omega))) hb2); clear hb2
      go_wp2
      exact bodyPost_ret (v := .tuple #[.agg #[.int .i64 0, .slice none 0 0], .int .i64 E2]) (by simp [results, Try.results86, go_sem, World.cell?_alloc_past, *]) rfl ⟨0, none, 0, 0, rfl, fun q => absurd q NE.out, (by (repeat (first | (with_reducible exact H2.out) | (with_reducible refine Below.setCell ?_ ?_ _) | (with_reducible refine below_alloc_top ?_ _) | (with_reducible refine Below.drew ?_))); all_goals (first | omega | (simp; done) | (simp; omega)))⟩
  · have e1 : woE d dd nd = d.E := by unfold woE; rw [if_neg hE]
    rw [e1]
    generalize d.E = u0 at *
    have n2 : (u0 != 0) = true := by simpa using hE
    have NE := Lib.hid hE
    clear hE e1
    go_enter Try.func86, Try.ntmps86
    go_wp2_with fail
    refine (HE.out _ (HT.out.later (by repeat (first | exact Below.refl _ _ | refine Below.drew ?_ | refine below_drewN ?_ _ | refine Below.setCell ?_ (by first | omega | (simp; done) | (simp; omega)) _ | refine Below.alloc ?_ (by first | omega | (simp; done) | (simp; omega)) _)))).mono ?_
    rintro e w1 ⟨rfl, hb1⟩
    have qw10 : w1.cell? ⟨w.heap.size, 0, none⟩ = some (.int .i64 d.ck) := cell_later hb1 (by simp [go_sem])
    have qw11 : w1.cell? ⟨w.heap.size, 1, none⟩ = some (.slice B d.n e) := cell_later hb1 (by simp [go_sem])
    have qw12 : w1.cell? ⟨w.heap.size + 1, 0, none⟩ = some (.slice A nd c) := cell_later hb1 (by simp [go_sem])
    have qw13 : w1.cell? ⟨w.heap.size + 1 + 1, 0, none⟩ = some (.int .i64 0) := cell_later hb1 (by simp [go_sem])
    have qw14 : w1.cell? ⟨w.heap.size + 1 + 1, 1, none⟩ = some (.slice none 0 0) := cell_later hb1 (by simp [go_sem])
    have qw1f0 : w1.frozen? ⟨w.heap.size, 1, none⟩ = false := frozen_after hb1 (v := .slice B d.n e) (by simp [go_sem]) (by simp [go_sem])
    have qw1f1 : w1.frozen? ⟨w.heap.size + 1 + 1, 0, none⟩ = false := frozen_after hb1 (v := .int .i64 0) (by simp [go_sem]) (by simp [go_sem])
    have qw1f2 : w1.frozen? ⟨w.heap.size + 1 + 1, 1, none⟩ = false := frozen_after hb1 (v := .slice none 0 0) (by simp [go_sem]) (by simp [go_sem])
    have zqw1_0 := World.block_lt_of_cell? _ _ qw10
    dsimp only at zqw1_0
    have zqw1_2 := World.block_lt_of_cell? _ _ qw12
    dsimp only at zqw1_2
    have zqw1_3 := World.block_lt_of_cell? _ _ qw13
    dsimp only at zqw1_3
    have H1 : Hid (Below w.heap.size w w1) := Lib.hid (below_after (by repeat (first | exact Below.refl _ _ | refine Below.drew ?_ | refine below_drewN ?_ _ | refine Below.setCell ?_ (by first | omega | (simp; done) | (simp; omega)) _ | refine Below.alloc ?_ (by first | omega | (simp; done) | (simp; omega)) _)) hb1 (by first | omega | (simp; done) | (simp; omega))); clear hb1
    go_wp2
    exact bodyPost_ret (v := .tuple #[.agg #[.int .i64 0, .slice none 0 0], .int .i64 u0]) (by simp [results, Try.results86, go_sem, World.cell?_alloc_past, *]) rfl ⟨0, none, 0, 0, rfl, fun q => absurd q NE.out, (by (repeat (first | (with_reducible exact H1.out) | (with_reducible refine Below.setCell ?_ ?_ _) | (with_reducible refine below_alloc_top ?_ _) | (with_reducible refine Below.drew ?_))); all_goals (first | omega | (simp; done) | (simp; omega)))⟩
end Go.Proofs.Ytdicndakelgoeaa
