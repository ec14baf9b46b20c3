/- the reference's law of any text -/
import Derived.Test.YtnckfbejgkdhhaaGreatDoorSf
import Derived.Test.YtnckfbejgkdhhaaGreatDoorSi
import Derived.Test.YtnckfbejgkdhhaaGreatDoorSj
import Derived.Test.YtnckfbejgkdhhaaGreatDoorVc
namespace Go.Proofs.YtnckfbejgkdhhaaGreatDoor
open Go.RowKit RayM
set_option linter.unusedSimpArgs false
set_option linter.unusedVariables false
theorem wOk_false (W : Nat → ByteArray) (j : Nat) (h : wOk W j = false) : ∀ n, j ≤ n → wOk W n = false
  | 0, hn => by
    have : j = 0 := by omega
    rw [← this]; exact h
  | n + 1, hn => by
    rcases Nat.lt_or_ge n j with q | q
    · have : j = n + 1 := by omega
      rw [← this]; exact h
    · show (wOk W n && (wT W n).2) = false
      rw [wOk_false W j h n q]; rfl
theorem fst_bad (x : Int) : fst [unl false 7, x] = 7 := by simp [fst, unl]
theorem fst_good (x : Int) : fst [unl true 7, x] = x := by by_cases h : x = 0 <;> simp [fst, unl, h]
theorem pcE_bad (s : ByteArray) (j : Nat) (h : wOk (pcs s) j = false) (hj : j ≤ pcn s) : pcE s = 7 := by
  unfold pcE; rw [wOk_false _ _ h _ hj]; exact fst_bad _
theorem pcE_good (s : ByteArray) (h : wOk (pcs s) (pcn s) = true) : pcE s = (pcL s).E := by
  unfold pcE; rw [h]; exact fst_good _
theorem pcs_bytes (s x : ByteArray) (j : Nat) (h : x.data.toList = (Tb.cut 32 s.data.toList).getD j []) : x = pcs s j := by
  unfold pcs; rw [← h]
theorem pieces_at (s : ByteArray) (P : List ByteArray) (h : pls P = Tb.cut 32 s.data.toList) (j : Nat) (hj : j < pcn s + 1) : P[j]? = some (pcs s j) ∧ P.length = pcn s + 1 := by
  have hl : P.length = pcn s + 1 := by
    have := congrArg List.length h
    rw [Tb.cut_length] at this
    unfold pls at this
    rw [List.length_map] at this
    exact this
  refine ⟨?_, hl⟩
  rw [List.getElem?_eq_getElem (by omega)]
  congr 1
  apply pcs_bytes
  rw [← h]
  unfold pls
  rw [List.getD_eq_getElem?_getD, List.getElem?_map, List.getElem?_eq_getElem (by omega)]
  rfl
set_option maxRecDepth 100000 in
set_option maxHeartbeats 8000000 in
theorem rParse_any (s : ByteArray) (w : World) (hs : s.size ≤ 1000) :
    Calls Tryz.prog 9 #[.string s] w fun e w' => LwP (pcL s).ck (pcL s).t (pcn s) (pcE s) w e w' := by
  obtain ⟨j0_, ji0, jz0, jz1, jz2⟩ := info_parts infoJ
  have JI0 := Lib.hid ji0; have JZ0 := Lib.hid jz0; have JZ1 := Lib.hid jz1; have JZ2 := Lib.hid jz2
  clear ji0 jz0 jz1 jz2
  have HPOS := Lib.hid (pc_pos s)
  have hpn := pcn_le s
  have HN := Lib.hid (fun j w => rNumber_any (pcs s j) w (Nat.le_trans (pcs_size s j) hs))
  have HBAD := Lib.hid (pcE_bad s)
  have HGOOD := Lib.hid (pcE_good s)
  go_enter Tryz.func9, Tryz.ntmps9
  go_wp2_with (go_at_call 25; (with_reducible refine (cut_any s _ hs).mono ?_); rintro e w1 ⟨v, P, rfl, hown, hP, hb1⟩; have c0 : w1.cell? ⟨w.heap.size, 0, none⟩ = some (.int .i64 0) := cell_later hb1 (by simp [go_sem]); have c1 : w1.cell? ⟨w.heap.size, 1, none⟩ = some (.slice none 0 0) := cell_later hb1 (by simp [go_sem]); have c2 : w1.cell? ⟨w.heap.size + 1, 0, none⟩ = some (.int .i64 0) := cell_later hb1 (by simp [go_sem]); have c3 : w1.cell? ⟨w.heap.size + 1, 1, none⟩ = some (.slice none 0 0) := cell_later hb1 (by simp [go_sem]); have f0 : w1.frozen? ⟨w.heap.size, 0, none⟩ = false := frozen_after hb1 (v := .int .i64 0) (by simp [go_sem]) (by simp [go_sem]); have f1 : w1.frozen? ⟨w.heap.size, 1, none⟩ = false := frozen_after hb1 (v := .slice none 0 0) (by simp [go_sem]) (by simp [go_sem]); have f2 : w1.frozen? ⟨w.heap.size + 1, 0, none⟩ = false := frozen_after hb1 (v := .int .i64 0) (by simp [go_sem]) (by simp [go_sem]); have f3 : w1.frozen? ⟨w.heap.size + 1, 1, none⟩ = false := frozen_after hb1 (v := .slice none 0 0) (by simp [go_sem]) (by simp [go_sem]); have z1 := hb1.size; simp at z1; have H1 : Hid (Below w.heap.size w w1) := Lib.hid (Below.trans (((Below.refl _ _).alloc (Nat.le_refl _) _).alloc (by simp) _) (hb1.mono (by simp; omega))); clear hb1)
  have hPl := (pieces_at s P hP 0 (by omega)).2
  obtain ⟨gw, cw, rfl, hgw0, hgw1, hy⟩ : ∃ gw cw, v = .slice (some ⟨gw, 0, none⟩) (pcn s + 1) cw ∧ w.heap.size + 2 ≤ gw ∧ gw < w1.heap.size ∧ WsAt gw (pcn s + 1) (pcs s) w1 := by
    obtain ⟨A, c, e, r⟩ := own_form hown
    obtain ⟨g, rfl, q1, q2, q3⟩ := r (by omega)
    rw [hPl] at e
    refine ⟨g, c, e, by simpa using q1, q2, fun j hj => q3 j _ ?_⟩
    unfold pvs
    rw [List.getElem?_map, (pieces_at s P hP j hj).1]; rfl
  have Y1 := Lib.hid hy
  clear hown hP hPl hy P
  go_loopw [6] (fun s6 wr => ∃ (i : Nat) (v : Value), i ≤ pcn s + 1 ∧ s6 = .int .i64 (i : Int) ∧ wr.cell? ⟨w.heap.size, 0, none⟩ = some (.int .i64 0) ∧ wr.cell? ⟨w.heap.size, 1, none⟩ = some (.slice none 0 0) ∧ wr.cell? ⟨w.heap.size + 1, 0, none⟩ = some (.int .i64 (if i = 0 then 0 else (wN (pcs s)).1)) ∧ wr.cell? ⟨w.heap.size + 1, 1, none⟩ = some v ∧ wr.frozen? ⟨w.heap.size, 0, none⟩ = false ∧ wr.frozen? ⟨w.heap.size, 1, none⟩ = false ∧ wr.frozen? ⟨w.heap.size + 1, 0, none⟩ = false ∧ wr.frozen? ⟨w.heap.size + 1, 1, none⟩ = false ∧ wr.ownsRow w1.heap.size 3 1 v (i - 1) (wVs (pcs s) (i - 1)) ∧ Hid (WsAt gw (pcn s + 1) (pcs s) wr) ∧ (0 < i → wOk (pcs s) (i - 1) = true) ∧ w1.heap.size ≤ wr.heap.size ∧ Below w.heap.size w wr) (fun s6 _ => pcn s + 1 - (intOf s6).toNat)
  case atStart => exact ⟨0, _, by omega, rfl, c0, c1, c2, c3, f0, f1, f2, f3, World.ownsRow_nil _ _ _ _, Y1, fun h => absurd h (by omega), Nat.le_refl _, H1.out⟩
  case round =>
    clear c0 c1 c2 c3 f0 f1 f2 f3 Y1 H1
    obtain ⟨i, v, hi, rfl, r0, r1, r2, r3, g0, g1, g2, g3, hown, Y, hok, hwr, hb⟩ := hrel
    have HB := Lib.hid hb
    have hsz := hb.size
    have zr : w.heap.size + 1 < wr.heap.size := World.block_lt_of_cell? _ _ r2
    clear hb
    obtain ⟨C, d, rfl, hcl⟩ := own_form hown
    rcases i with _ | k
    · have y0 := Y.out 0 (by omega)
      have HW : Hid (Tb.nb (pcs s 0).data.toList = wN (pcs s)) := Lib.hid rfl
      have hw0 : wOk (pcs s) 0 = (wN (pcs s)).2 := rfl
      have HN0 := Lib.hid (HN.out 0)
      rw [HW.out] at HN0
      simp only [if_true] at r2
      simp only [Nat.zero_sub] at hown
      clear hcl hok
      generalize hcb : wN (pcs s) = cb at *
      obtain ⟨cv, cok⟩ := cb
      have HCB := Lib.hid hcb; clear hcb
      dsimp only at *
      cases cok
      · have he := HBAD.out 0 hw0 (by omega)
        clear hown
        go_wp2_with (go_at_call 26; (with_reducible refine (HN0.out _).mono ?_); rintro e w5 ⟨rfl, rfl⟩)
        exact bodyPost_ret (v := .tuple #[.agg #[.int .i64 0, .slice none 0 0], .int .i64 7]) (by simp [results, Tryz.results9, go_sem, World.cell?_alloc_past, *]) rfl (by rw [he]; exact LwP.bad (by decide) rfl ((HB.out.setCell (Nat.le_refl _) _).setCell (Nat.le_refl _) _))
      · go_wp2_with (go_at_call 26; (with_reducible refine (HN0.out _).mono ?_); rintro e w5 ⟨rfl, rfl⟩)
        go_roundw
        case rel => exact ⟨1, _, by omega, rfl, setO (.inl (by dsimp only; omega)) r0, setO (.inl (by dsimp only; omega)) r1, setS r2, setO (.inr (by dsimp only; omega)) r3, setF g0, setF g1, setF g2, setF g3, own_set hown (w.heap.size + 1) 0 _ (by omega), Lib.hid (fun j hj => setO (.inl (by dsimp only; omega)) (Y.out j hj)), fun _ => hw0, by simp; omega, HB.out.setCell (Nat.le_add_right _ 1) _⟩
        case measure => first | (simp [intOf]; done) | (simp [intOf]; omega)
    · have hok' := hok (by omega)
      rw [if_neg (by omega)] at r2
      have e1 : k + 1 - 1 = k := by omega
      rw [e1] at hown hok' hcl
      clear hok
      have bm6 : (k + 1 : Nat) ≤ maxLen := by unfold maxLen; omega
      have BM6 := Lib.hid bm6; clear bm6
      have ag5 := Lib.hid (fun q e => (hown.lt q e).1)
      by_cases hlt : k + 1 < pcn s + 1
      · have y0 := Y.out (k + 1) hlt
        have HOK := Lib.hid hok'
        have HNk := Lib.hid (HN.out (k + 1))
        clear hcl hok'
        by_cases hda : (pcs s (k + 1)).data.toList = [45]
        · have hp : pcs s (k + 1) = ⟨#[45]⟩ := by rw [dash_list]; exact hda
          have HWT : Hid (wT (pcs s) k = (-1, true)) := Lib.hid (by unfold wT Tb.tk; rw [if_pos hda])
          rw [hp] at y0
          clear hda hp
          have nb6 : ∀ j u, (#[.int .i64 (-1)] : Array Value).toList[j]? = some u → (wr.alloc (.cells #[.int .i64 (-1)] 3)).cell? ((⟨wr.heap.size, 0, none⟩ : Addr).add j) = some u :=
            World.news_of_block (t := 3) (fr := (0, 0)) (by have h := heap_alloc_new wr (.cells #[.int .i64 (-1)] 3); simpa using h)
          have NB6 := Lib.hid nb6; clear nb6
          go_wp2_with (at_builtin; refine wpList_append_lies _ rfl _ _ _ rfl w1.heap.size 3 j0_ _ 1 8 Tryz.underlying22 JI0.out JZ0.out JZ1.out JZ2.out rfl (by omega) (.slice C k d) k (wVs (pcs s) k) rfl (hown.alloc _) ⟨wr.heap.size, 0, none⟩ 1 1 [.int .i64 (-1)] rfl rfl NB6.out (by simp [Value.oneCell']) (by omega) BM6.out (by omega) (by simp; omega) (wr.heap.size + 1) (by simp) ?_; intro g6 cap6 w6 hown6 hgrow6 hat6 hlt6; have HG6 : Below w1.heap.size wr w6 := ((Below.refl _ _).alloc (by omega) _).grown hgrow6 (by simp; omega) (fun q e => ag5.out q e); have d0 := (HG6.cell (p := ⟨w.heap.size, 0, none⟩) (by dsimp only; omega)).trans r0; have d1 := (HG6.cell (p := ⟨w.heap.size, 1, none⟩) (by dsimp only; omega)).trans r1; have d2 := (HG6.cell (p := ⟨w.heap.size + 1, 0, none⟩) (by dsimp only; omega)).trans r2; have d3 := (HG6.cell (p := ⟨w.heap.size + 1, 1, none⟩) (by dsimp only; omega)).trans r3; have h0 := (HG6.frozen (p := ⟨w.heap.size, 0, none⟩) (by dsimp only; omega)).trans g0; have h1 := (HG6.frozen (p := ⟨w.heap.size, 1, none⟩) (by dsimp only; omega)).trans g1; have h2 := (HG6.frozen (p := ⟨w.heap.size + 1, 0, none⟩) (by dsimp only; omega)).trans g2; have h3 := (HG6.frozen (p := ⟨w.heap.size + 1, 1, none⟩) (by dsimp only; omega)).trans g3; have Y6 : Hid (WsAt gw (pcn s + 1) (pcs s) w6) := Lib.hid (fun j hj => (HG6.cell (p := ⟨gw, j, none⟩) (by dsimp only; omega)).trans (Y.out j hj)); have z6 := HG6.size; have H6 := Lib.hid (Below.trans HB.out (HG6.mono (by omega))); have HO6 := Lib.hid (show w6.ownsRow w1.heap.size 3 1 _ (k + 1) (wVs (pcs s) (k + 1)) by rw [wVs_succ, HWT.out]; exact hown6); clear hown6 hgrow6 hat6 hlt6 HG6)
          go_roundw
          case rel => exact ⟨k + 2, _, by omega, by go_num, setO (.inl (by dsimp only; omega)) d0, setO (.inl (by dsimp only; omega)) d1, setO (.inr (by dsimp only; omega)) d2, setS d3, setF h0, setF h1, setF h2, setF h3, own_set HO6.out (w.heap.size + 1) 1 _ (by omega), Lib.hid (fun j hj => setO (.inl (by dsimp only; omega)) (Y6.out j hj)), fun _ => by rw [show k + 2 - 1 = k + 1 by omega]; show (wOk (pcs s) k && (wT (pcs s) k).2) = true; rw [HWT.out, HOK.out]; first | rfl | simp, by simp; omega, H6.out.setCell (Nat.le_add_right _ 1) _⟩
          case measure => first | (simp [intOf]; done) | (simp [intOf]; omega)
        · have hne : ((pcs s (k + 1)).toList == [45]) = false := by rw [ByteArray.toList_eq]; simpa using hda
          have hwt : wT (pcs s) k = ((Tb.nb (pcs s (k + 1)).data.toList).1, (Tb.nb (pcs s (k + 1)).data.toList).2 && decide (0 ≤ (Tb.nb (pcs s (k + 1)).data.toList).1)) := tk_number _ hda
          have hbk : wOk (pcs s) (k + 1) = (wOk (pcs s) k && (wT (pcs s) k).2) := rfl
          clear hda
          generalize Tb.nb (pcs s (k + 1)).data.toList = cb at *
          obtain ⟨cv, cok⟩ := cb
          dsimp only at hwt HNk
          cases cok
          · have he := HBAD.out (k + 1) (by rw [hbk, hwt, HOK.out]; rfl) (by omega)
            clear hown hwt hbk
            go_wp2_with (go_at_call 26; (with_reducible refine (HNk.out _).mono ?_); rintro e w5 ⟨rfl, rfl⟩)
            exact bodyPost_ret (v := .tuple #[.agg #[.int .i64 0, .slice none 0 0], .int .i64 7]) (by simp [results, Tryz.results9, go_sem, World.cell?_alloc_past, *]) rfl (by rw [he]; exact LwP.bad (by decide) rfl ((HB.out.setCell (Nat.le_refl _) _).setCell (Nat.le_refl _) _))
          · by_cases hv : 0 ≤ cv
            · have hv' : ¬ cv < 0 := by omega
              have HWT : Hid (wT (pcs s) k = (cv, true)) := Lib.hid (by rw [hwt]; simp [hv])
              clear hwt hbk
              have nbx : Hid (∀ w, Calls Tryz.prog 26 #[.string (pcs s (k + 1)), .int .i64 9] w fun e w' => e = .returned (.tuple #[.int .i64 cv, .bool true]) ∧ w = w') := HNk
              have nb6 : ∀ j u, (#[.int .i64 (cv)] : Array Value).toList[j]? = some u → (wr.alloc (.cells #[.int .i64 (cv)] 3)).cell? ((⟨wr.heap.size, 0, none⟩ : Addr).add j) = some u :=
                World.news_of_block (t := 3) (fr := (0, 0)) (by have h := heap_alloc_new wr (.cells #[.int .i64 (cv)] 3); simpa using h)
              have NB6 := Lib.hid nb6; clear nb6
              go_wp2_with (first | (go_at_call 26; (with_reducible refine (HNk.out _).mono ?_); rintro e w5 ⟨rfl, rfl⟩) | (at_builtin; refine wpList_append_lies _ rfl _ _ _ rfl w1.heap.size 3 j0_ _ 1 8 Tryz.underlying22 JI0.out JZ0.out JZ1.out JZ2.out rfl (by omega) (.slice C k d) k (wVs (pcs s) k) rfl (hown.alloc _) ⟨wr.heap.size, 0, none⟩ 1 1 [.int .i64 (cv)] rfl rfl NB6.out (by simp [Value.oneCell']) (by omega) BM6.out (by omega) (by simp; omega) (wr.heap.size + 1) (by simp) ?_; intro g6 cap6 w6 hown6 hgrow6 hat6 hlt6; have HG6 : Below w1.heap.size wr w6 := ((Below.refl _ _).alloc (by omega) _).grown hgrow6 (by simp; omega) (fun q e => ag5.out q e); have d0 := (HG6.cell (p := ⟨w.heap.size, 0, none⟩) (by dsimp only; omega)).trans r0; have d1 := (HG6.cell (p := ⟨w.heap.size, 1, none⟩) (by dsimp only; omega)).trans r1; have d2 := (HG6.cell (p := ⟨w.heap.size + 1, 0, none⟩) (by dsimp only; omega)).trans r2; have d3 := (HG6.cell (p := ⟨w.heap.size + 1, 1, none⟩) (by dsimp only; omega)).trans r3; have h0 := (HG6.frozen (p := ⟨w.heap.size, 0, none⟩) (by dsimp only; omega)).trans g0; have h1 := (HG6.frozen (p := ⟨w.heap.size, 1, none⟩) (by dsimp only; omega)).trans g1; have h2 := (HG6.frozen (p := ⟨w.heap.size + 1, 0, none⟩) (by dsimp only; omega)).trans g2; have h3 := (HG6.frozen (p := ⟨w.heap.size + 1, 1, none⟩) (by dsimp only; omega)).trans g3; have Y6 : Hid (WsAt gw (pcn s + 1) (pcs s) w6) := Lib.hid (fun j hj => (HG6.cell (p := ⟨gw, j, none⟩) (by dsimp only; omega)).trans (Y.out j hj)); have z6 := HG6.size; have H6 := Lib.hid (Below.trans HB.out (HG6.mono (by omega))); have HO6 := Lib.hid (show w6.ownsRow w1.heap.size 3 1 _ (k + 1) (wVs (pcs s) (k + 1)) by rw [wVs_succ, HWT.out]; exact hown6); clear hown6 hgrow6 hat6 hlt6 HG6))
              go_roundw
              case rel => exact ⟨k + 2, _, by omega, by go_num, setO (.inl (by dsimp only; omega)) d0, setO (.inl (by dsimp only; omega)) d1, setO (.inr (by dsimp only; omega)) d2, setS d3, setF h0, setF h1, setF h2, setF h3, own_set HO6.out (w.heap.size + 1) 1 _ (by omega), Lib.hid (fun j hj => setO (.inl (by dsimp only; omega)) (Y6.out j hj)), fun _ => by rw [show k + 2 - 1 = k + 1 by omega]; show (wOk (pcs s) k && (wT (pcs s) k).2) = true; rw [HWT.out, HOK.out]; first | rfl | simp, by simp; omega, H6.out.setCell (Nat.le_add_right _ 1) _⟩
              case measure => first | (simp [intOf]; done) | (simp [intOf]; omega)
            · have hv' : cv < 0 := by omega
              have he := HBAD.out (k + 1) (by rw [hbk, hwt, HOK.out]; simp [hv]) (by omega)
              clear hown hwt hbk
              go_wp2_with (go_at_call 26; (with_reducible refine (HNk.out _).mono ?_); rintro e w5 ⟨rfl, rfl⟩)
              exact bodyPost_ret (v := .tuple #[.agg #[.int .i64 0, .slice none 0 0], .int .i64 7]) (by simp [results, Tryz.results9, go_sem, World.cell?_alloc_past, *]) rfl (by rw [he]; exact LwP.bad (by decide) rfl ((HB.out.setCell (Nat.le_refl _) _).setCell (Nat.le_refl _) _))
      · have hk : k = pcn s := by omega
        subst hk
        have hE := HGOOD.out hok'
        have hget : ∀ i, i < pcn s → (wVs (pcs s) (pcn s))[i]? = some (.int .i64 ((pcL s).t i)) := fun i hi => wVs_get (pcs s) (pcn s) i hi
        have hI : InAt C (pcn s) (pcL s).t wr := by
          obtain ⟨A', c', e', hi⟩ := own_ints hget hown
          injection e' with e1 e2 e3
          subst e1
          exact hi
        have hck : (wN (pcs s)).1 = (pcL s).ck := rfl
        rw [hck] at r2
        have HCL : Hid (pcE s = 0 → ∃ g', C = some ⟨g', 0, none⟩ ∧ w1.heap.size ≤ g' ∧ g' < wr.heap.size) := Lib.hid (fun q => by
          obtain ⟨g', q1, q2, q3, _⟩ := hcl (HPOS.out q)
          exact ⟨g', q1, q2, q3⟩)
        have HI := Lib.hid hI
        have HCK : Hid (∀ w, InAt C (pcn s) (pcL s).t w → Calls Tryz.prog 27 #[.agg #[.int .i64 (pcL s).ck, .slice C (pcn s) d]] w fun e w' => e = .returned (.tuple #[.int .i64 ((pcL s).I : Nat), .int .i64 (pcE s)]) ∧ Below w.heap.size w w') := Lib.hid (fun w h => by rw [hE]; exact rCheckLaw_any (pcL s) C d w h (by show pcn s ≤ _; omega))
        clear hown hcl hok' hE hget hI hck
        generalize ((pcL s).I : Int) = vi at *
        go_wp2_with fail
        refine (HCK.out wr HI.out).mono ?_
        rintro e w5 ⟨rfl, hb5⟩
        have d0 := cell_later hb5 r0; have d1 := cell_later hb5 r1; have d2 := cell_later hb5 r2; have d3 := cell_later hb5 r3
        have h0 := frozen_after hb5 r0 g0; have h1 := frozen_after hb5 r1 g1; have h2 := frozen_after hb5 r2 g2; have h3 := frozen_after hb5 r3 g3
        have HI5 := Lib.hid (HI.out.later hb5)
        have H5 := Lib.hid (below_then HB.out hb5)
        have z5 := hb5.size
        clear hb5 r0 r1 r2 r3 g0 g1 g2 g3 HI HB HCK
        by_cases hE0 : pcE s = 0
        · obtain ⟨g', rfl, hg1, hg2⟩ := HCL.out hE0
          go_wp2
          exact bodyPost_ret (v := .tuple #[.agg #[.int .i64 (pcL s).ck, .slice (some ⟨g', 0, none⟩) (pcn s) d], .int .i64 0]) (by simp [results, Tryz.results9, go_sem, World.cell?_alloc_past, *]) rfl
            (by rw [hE0]; exact LwP.good rfl (by omega) (by simp; omega) ((HI5.out.set w.heap.size 0 _ (fun a ha => by cases ha; dsimp only; omega)).set w.heap.size 1 _ (fun a ha => by cases ha; dsimp only; omega)) ((H5.out.setCell (Nat.le_refl _) _).setCell (Nat.le_refl _) _))
        · go_wp2
          exact bodyPost_ret (v := .tuple #[.agg #[.int .i64 0, .slice none 0 0], .int .i64 (pcE s)]) (by simp [results, Tryz.results9, go_sem, World.cell?_alloc_past, *]) rfl
            (LwP.bad hE0 rfl ((H5.out.setCell (Nat.le_refl _) _).setCell (Nat.le_refl _) _))
end Go.Proofs.YtnckfbejgkdhhaaGreatDoor
