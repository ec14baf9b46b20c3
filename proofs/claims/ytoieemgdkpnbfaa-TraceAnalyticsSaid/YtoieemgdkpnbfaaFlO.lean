/- the analytic samples: the walk -/
import Derived.Test.YtoieemgdkpnbfaaFn4
namespace Go.Proofs.Ytoieemgdkpnbfaa
open Go.RowKit RayM
set_option linter.unusedSimpArgs false
set_option linter.unusedVariables false
set_option maxRecDepth 100000 in
set_option maxHeartbeats 6000000 in
theorem an_ok' (A : Option Addr) (n c : Nat) (l F : Nat → Int) (i0 : Int) (w : World) (hn : n ≤ 64) (h : InAt A n l w) (MA : Hid (∀ w, InAt A n l w → Calls Try.prog 13 #[.slice A n c] w fun e w' => e = .returned (.agg (vls 64 (fv F)).toArray) ∧ Below w.heap.size w w')) (AN : Hid (∀ w, Calls Try.prog 25 #[.agg (vls 64 (fv F)).toArray] w fun e w' => e = .returned (.tuple #[.agg (vls 61 (anv F)).toArray, .int .i64 0]) ∧ Below w.heap.size w w')) (EV : Hid (∀ w, Calls Try.prog 26 #[.agg (vls 64 (fv F)).toArray] w fun e w' => e = .returned (.tuple #[.agg (vls 61 (sqv F)).toArray, .int .i64 0]) ∧ Below w.heap.size w w')) (CK : Hid (∀ w, Calls Try.prog 16 #[.agg (vls 64 (fv F)).toArray] w fun e w' => e = .returned (.tuple #[.int .i64 i0, .int .i64 0]) ∧ Below w.heap.size w w')) (RA : Hid (∀ w, Calls Try.prog 27 #[.agg (vls 64 (fv F)).toArray] w fun e w' => e = .returned (.agg (vls 61 (anv F)).toArray) ∧ Below w.heap.size w w')) (RE : Hid (∀ w, Calls Try.prog 28 #[.agg (vls 64 (fv F)).toArray] w fun e w' => e = .returned (.agg (vls 61 (sqv F)).toArray) ∧ Below w.heap.size w w')) (HB : Hid (∀ i, i < 61 → (reA F i).natAbs < 8192 ∧ (imA F i).natAbs < 8192)) :
    Calls Try.prog 5 #[.slice A n c] w fun e w' => e = .returned (.bool true) ∧ Below w.heap.size w w' := by
  have HX := Lib.hid h; clear h
  have j2 : (n : Int) ≤ 64 := by omega
  go_enter Try.func5, Try.ntmps5
  go_wp2_with (first
    | (go_at_call 12; (with_reducible refine (awake_any _).mono ?_); rintro e w1 ⟨rfl, hb1⟩; have b1 : Hid (Below w.heap.size w w1) := Lib.hid hb1; have s1' := hb1.size; clear hb1)
    | (go_at_call 13; (with_reducible refine (MA.out _ (HX.out.later b1.out)).mono ?_); rintro e w2 ⟨rfl, hb2⟩; have b2 : Hid (Below w.heap.size w w2) := Lib.hid (below_then b1.out hb2); have s2' := hb2.size; clear hb2)
    | ((with_reducible refine wpList_alloc_named rfl 26 rfl 3 rfl 64 (fv fun _ => 0) zeroT ?_); intro w3 N3; have s3 := N3.size; have ct3 := N3.at'; have zt3 := N3.free; have b3 : Hid (Below w.heap.size w w3) := Lib.hid (below_then b2.out N3.below); clear N3; have s3' := Nat.le_of_eq s3.symm; clear s3)
    | ((with_reducible refine wpList_store_at rfl 26 _ _ rfl _ 64 _ (fv F) rfl rfl ct3 zt3 (fv_one _) infoV ?_); intro w4 S4 B4 ct4 zt4 O4 P4; have b4 : Hid (Below w.heap.size w w4) := Lib.hid (B4 _ _ (by omega) b3.out); have s4' := Nat.le_of_eq S4.symm; clear S4 B4 O4 P4)
    | (with_reducible refine wpList_load_at rfl 26 _ rfl _ 64 (fv F) rfl ct4 _ Try.underlying26 rfl infoV ?_)
    | (go_at_call 25; (with_reducible refine (AN.out _).mono ?_); rintro e w5 ⟨rfl, hb5⟩; have ct5 := ct4.later hb5; have zt5 := zt4.later ct4 hb5; have b5 : Hid (Below w.heap.size w w5) := Lib.hid (below_then b4.out hb5); have s5' := hb5.size; clear hb5)
    | ((with_reducible refine wpList_alloc_named rfl 49 rfl 4 rfl 61 (zcv) zeroC ?_); intro w6 N6; have s6 := N6.size; have ct6 := ct5.later N6.below; have zt6 := zt5.later ct5 N6.below; have ca6 := N6.at'; have za6 := N6.free; have b6 : Hid (Below w.heap.size w w6) := Lib.hid (below_then b5.out N6.below); clear N6; have s6' := Nat.le_of_eq s6.symm; clear s6)
    | ((with_reducible refine wpList_store_at rfl 49 _ _ rfl _ 61 _ (anv F) rfl rfl ca6 za6 (fun _ _ => rfl) infoC ?_); intro w7 S7 B7 ca7 za7 O7 P7; have ct7 := O7 _ _ _ (by omega) ct6; have zt7 := P7 _ _ zt6; have b7 : Hid (Below w.heap.size w w7) := Lib.hid (B7 _ _ (by omega) b6.out); have s7' := Nat.le_of_eq S7.symm; clear S7 B7 O7 P7)
    | (with_reducible refine wpList_load_at rfl 26 _ rfl _ 64 (fv F) rfl ct7 _ Try.underlying26 rfl infoV ?_)
    | (go_at_call 26; (with_reducible refine (EV.out _).mono ?_); rintro e w8 ⟨rfl, hb8⟩; have ct8 := ct7.later hb8; have zt8 := zt7.later ct7 hb8; have ca8 := ca7.later hb8; have za8 := za7.later ca7 hb8; have b8 : Hid (Below w.heap.size w w8) := Lib.hid (below_then b7.out hb8); have s8' := hb8.size; clear hb8)
    | ((with_reducible refine wpList_alloc_named rfl 52 rfl 6 rfl 61 (ziv) zeroI ?_); intro w9 N9; have s9 := N9.size; have ct9 := ct8.later N9.below; have zt9 := zt8.later ct8 N9.below; have ca9 := ca8.later N9.below; have za9 := za8.later ca8 N9.below; have cs9 := N9.at'; have zs9 := N9.free; have b9 : Hid (Below w.heap.size w w9) := Lib.hid (below_then b8.out N9.below); clear N9; have s9' := Nat.le_of_eq s9.symm; clear s9)
    | ((with_reducible refine wpList_store_at rfl 52 _ _ rfl _ 61 _ (sqv F) rfl rfl cs9 zs9 (fun _ _ => rfl) infoI ?_); intro w10 S10 B10 cs10 zs10 O10 P10; have ct10 := O10 _ _ _ (by omega) ct9; have zt10 := P10 _ _ zt9; have ca10 := O10 _ _ _ (by omega) ca9; have za10 := P10 _ _ za9; have b10 : Hid (Below w.heap.size w w10) := Lib.hid (B10 _ _ (by omega) b9.out); have s10' := Nat.le_of_eq S10.symm; clear S10 B10 O10 P10)
    | (with_reducible refine wpList_load_at rfl 26 _ rfl _ 64 (fv F) rfl ct10 _ Try.underlying26 rfl infoV ?_)
    | (go_at_call 16; (with_reducible refine (CK.out _).mono ?_); rintro e w11 ⟨rfl, hb11⟩; have ct11 := ct10.later hb11; have zt11 := zt10.later ct10 hb11; have ca11 := ca10.later hb11; have za11 := za10.later ca10 hb11; have cs11 := cs10.later hb11; have zs11 := zs10.later cs10 hb11; have b11 : Hid (Below w.heap.size w w11) := Lib.hid (below_then b10.out hb11); have s11' := hb11.size; clear hb11))
  go_cut [10, 11] (fun s10 s11 wx => ∃ X Y : Nat, s10 = .pointer (some ⟨X, 0, none⟩) ∧ s11 = .pointer (some ⟨Y, 0, none⟩) ∧ VAt X 61 (anv F) wx ∧ VAt Y 61 (sqv F) wx ∧ VAt (w5.heap.size) 61 (anv F) wx ∧ VAt (w8.heap.size) 61 (sqv F) wx ∧ Hid (Below w.heap.size w wx))
  case first =>
    refine wp_region_held_drew (S := fun w' => VAt (w2.heap.size) 64 (fv F) w') (by kernel_rfl) (ct11.drew) (fun hHeld => ?_)
    have hHeld' := hHeld
    clear hHeld
    try clear b1
    try clear b2
    try clear ct3
    try clear zt3
    try clear b3
    try clear b4
    try clear ct5
    try clear zt5
    try clear b5
    try clear ct6
    try clear zt6
    try clear ca6
    try clear za6
    try clear b6
    try clear ct7
    try clear zt7
    try clear b7
    try clear ct8
    try clear zt8
    try clear ca8
    try clear za8
    try clear b8
    try clear ct9
    try clear zt9
    try clear ca9
    try clear za9
    try clear cs9
    try clear zs9
    try clear b9
    try clear ct10
    try clear zt10
    try clear ca10
    try clear za10
    try clear b10
    generalize hwd : World.drew w11 = wd
    have hbd : Below w11.heap.size w11 wd := by rw [← hwd]; exact (Below.refl _ _).drew
    have ct12 := ct11.later hbd
    have zt12 := zt11.later ct11 hbd
    have ca12 := ca11.later hbd
    have za12 := za11.later ca11 hbd
    have cs12 := cs11.later hbd
    have zs12 := zs11.later cs11 hbd
    have b12 : Hid (Below w.heap.size w wd) := Lib.hid (below_then b11.out hbd)
    have s12' := hbd.size
    refine' takeH (i := 0) (d := 54) (v := .agg (vls 64 (fv F)).toArray) rfl rfl (by kernel_rfl) (by kernel_rfl) (by kernel_rfl) (fun _ _ _ h => h) (yieldsIf_load_mid (by rfl) _ _ rfl _ _ rfl (vls 64 (fv F)) _ (fun w' h => h.range) Try.underlying26 rfl (by rw [vls_length]; exact infoV)) (ct12 : VAt (w2.heap.size) 64 (fv F) wd) ?_
    try simp only [Act.put, List.setIfInBounds_toArray, List.set_cons_zero, List.set_cons_succ]
    refine' takeH (i := 2) (d := 56) (v := .agg (vls 64 (fv F)).toArray) rfl rfl (by kernel_rfl) (by kernel_rfl) (by kernel_rfl) (fun _ _ _ h => h) (yieldsIf_load_mid (by rfl) _ _ rfl _ _ rfl (vls 64 (fv F)) _ (fun w' h => h.range) Try.underlying26 rfl (by rw [vls_length]; exact infoV)) (ct12 : VAt (w2.heap.size) 64 (fv F) wd) ?_
    try simp only [Act.put, List.setIfInBounds_toArray, List.set_cons_zero, List.set_cons_succ]
    refine wpAnyH_ready (rs := [1, 4, 5]) (by kernel_rfl) (by simp) ?_
    refine AllReadyH.cons rfl (fun K hK => ?_) ?_
    · go_simp
      (go_at_call 27; (with_reducible refine (RA.out _).mono ?_); rintro e wd13 ⟨rfl, hbx⟩)
      have ct13 := ct12.later hbx
      have zt13 := zt12.later ct12 hbx
      have ca13 := ca12.later hbx
      have za13 := za12.later ca12 hbx
      have cs13 := cs12.later hbx
      have zs13 := zs12.later cs12 hbx
      have b13 : Hid (Below w.heap.size w wd13) := Lib.hid (below_then b12.out hbx)
      have s13' := hbx.size
      refine hK.out _ _ ct13 (fun _ => ?_)
      clear hK K
      try simp only [Act.put, List.setIfInBounds_toArray, List.set_cons_zero, List.set_cons_succ]
      refine wpAnyH_ready (rs := [3, 4, 5]) (by kernel_rfl) (by simp) ?_
      refine AllReadyH.cons rfl (fun K hK => ?_) ?_
      · go_simp
        (go_at_call 28; (with_reducible refine (RE.out _).mono ?_); rintro e wd14 ⟨rfl, hbx⟩)
        have ct14 := ct13.later hbx
        have zt14 := zt13.later ct13 hbx
        have ca14 := ca13.later hbx
        have za14 := za13.later ca13 hbx
        have cs14 := cs13.later hbx
        have zs14 := zs13.later cs13 hbx
        have b14 : Hid (Below w.heap.size w wd14) := Lib.hid (below_then b13.out hbx)
        have s14' := hbx.size
        refine hK.out _ _ ct14 (fun _ => ?_)
        clear hK K
        try simp only [Act.put, List.setIfInBounds_toArray, List.set_cons_zero, List.set_cons_succ]
        refine wpAnyH_ready (rs := [4, 5]) (by kernel_rfl) (by simp) ?_
        refine ready_alloc rfl (by rfl) 49 rfl 10 rfl 61 (zcv) zeroC (fun wd15 Nx => ?_) ?_
        · have ct15 := ct14.later Nx.below
          have zt15 := zt14.later ct14 Nx.below
          have ca15 := ca14.later Nx.below
          have za15 := za14.later ca14 Nx.below
          have cs15 := cs14.later Nx.below
          have zs15 := zs14.later cs14 Nx.below
          have cX15 := Nx.at'
          have zX15 := Nx.free
          have b15 : Hid (Below w.heap.size w wd15) := Lib.hid (below_then b14.out Nx.below)
          have s15' := Nat.le_of_eq Nx.size.symm
          clear Nx
          refine ⟨ct15, ?_⟩
          try simp only [Act.put, List.setIfInBounds_toArray, List.set_cons_zero, List.set_cons_succ]
          refine wpAnyH_ready (rs := [5]) (by kernel_rfl) (by simp) ?_
          refine ready_alloc rfl (by rfl) 52 rfl 11 rfl 61 (ziv) zeroI (fun wd16 Nx => ?_) ?_
          · have ct16 := ct15.later Nx.below
            have zt16 := zt15.later ct15 Nx.below
            have ca16 := ca15.later Nx.below
            have za16 := za15.later ca15 Nx.below
            have cs16 := cs15.later Nx.below
            have zs16 := zs15.later cs15 Nx.below
            have cX16 := cX15.later Nx.below
            have zX16 := zX15.later cX15 Nx.below
            have cY16 := Nx.at'
            have zY16 := Nx.free
            have b16 : Hid (Below w.heap.size w wd16) := Lib.hid (below_then b15.out Nx.below)
            have s16' := Nat.le_of_eq Nx.size.symm
            clear Nx
            refine ⟨ct16, ?_⟩
            try simp only [Act.put, List.setIfInBounds_toArray, List.set_cons_zero, List.set_cons_succ]
            have ne1 : wd14.heap.size ≠ wd15.heap.size := by omega
            have ne2 : w2.heap.size ≠ wd14.heap.size := by omega
            have ne3 : w2.heap.size ≠ wd15.heap.size := by omega
            have ne4 : w5.heap.size ≠ wd14.heap.size := by omega
            have ne5 : w5.heap.size ≠ wd15.heap.size := by omega
            have ne6 : w8.heap.size ≠ wd14.heap.size := by omega
            have ne7 : w8.heap.size ≠ wd15.heap.size := by omega
            have ge1 : w.heap.size ≤ wd14.heap.size := by omega
            have ge2 : w.heap.size ≤ wd15.heap.size := by omega
            refine wpAnyH_ready (rs := [6]) (by kernel_rfl) (by simp) ?_
            refine ready_store rfl (by rfl) 49 _ _ rfl rfl _ 61 zcv (anv F) rfl rfl cX16 zX16 (fun _ _ => rfl) infoC (fun wA sA bA cA zA oA pA => ⟨oA _ _ _ ne2 ct16, ?_⟩) AllReadyH.nil
            try simp only [Act.put, List.setIfInBounds_toArray, List.set_cons_zero, List.set_cons_succ]
            refine wpAnyH_ready (rs := [7]) (by kernel_rfl) (by simp) ?_
            refine ready_store rfl (by rfl) 52 _ _ rfl rfl _ 61 ziv (sqv F) rfl rfl (oA _ _ _ (Ne.symm ne1) cY16) (pA _ _ zY16) (fun _ _ => rfl) infoI (fun wB sB bB cB zB oB pB => ⟨oB _ _ _ ne3 (oA _ _ _ ne2 ct16), ?_⟩) AllReadyH.nil
            try simp only [Act.put, List.setIfInBounds_toArray, List.set_cons_zero, List.set_cons_succ]
            refine wpAnyH_done (by kernel_rfl) ?_ _
            have BB : Hid (Below w.heap.size w wB) := Lib.hid (bB _ _ ge2 (bA _ _ ge1 b16.out))
            go_wp2_with fail
            go_meet
            exact ⟨_, _, rfl, rfl, oB _ _ _ ne1 cA, cB, oB _ _ _ ne5 (oA _ _ _ ne4 ca16), oB _ _ _ ne7 (oA _ _ _ ne6 cs16), BB⟩
          exact AllReadyH.nil
        refine ready_alloc rfl (by rfl) 52 rfl 11 rfl 61 (ziv) zeroI (fun wd15 Nx => ?_) ?_
        · have ct15 := ct14.later Nx.below
          have zt15 := zt14.later ct14 Nx.below
          have ca15 := ca14.later Nx.below
          have za15 := za14.later ca14 Nx.below
          have cs15 := cs14.later Nx.below
          have zs15 := zs14.later cs14 Nx.below
          have cY15 := Nx.at'
          have zY15 := Nx.free
          have b15 : Hid (Below w.heap.size w wd15) := Lib.hid (below_then b14.out Nx.below)
          have s15' := Nat.le_of_eq Nx.size.symm
          clear Nx
          refine ⟨ct15, ?_⟩
          try simp only [Act.put, List.setIfInBounds_toArray, List.set_cons_zero, List.set_cons_succ]
          refine wpAnyH_ready (rs := [4]) (by kernel_rfl) (by simp) ?_
          refine ready_alloc rfl (by rfl) 49 rfl 10 rfl 61 (zcv) zeroC (fun wd16 Nx => ?_) ?_
          · have ct16 := ct15.later Nx.below
            have zt16 := zt15.later ct15 Nx.below
            have ca16 := ca15.later Nx.below
            have za16 := za15.later ca15 Nx.below
            have cs16 := cs15.later Nx.below
            have zs16 := zs15.later cs15 Nx.below
            have cY16 := cY15.later Nx.below
            have zY16 := zY15.later cY15 Nx.below
            have cX16 := Nx.at'
            have zX16 := Nx.free
            have b16 : Hid (Below w.heap.size w wd16) := Lib.hid (below_then b15.out Nx.below)
            have s16' := Nat.le_of_eq Nx.size.symm
            clear Nx
            refine ⟨ct16, ?_⟩
            try simp only [Act.put, List.setIfInBounds_toArray, List.set_cons_zero, List.set_cons_succ]
            have ne1 : wd15.heap.size ≠ wd14.heap.size := by omega
            have ne2 : w2.heap.size ≠ wd15.heap.size := by omega
            have ne3 : w2.heap.size ≠ wd14.heap.size := by omega
            have ne4 : w5.heap.size ≠ wd15.heap.size := by omega
            have ne5 : w5.heap.size ≠ wd14.heap.size := by omega
            have ne6 : w8.heap.size ≠ wd15.heap.size := by omega
            have ne7 : w8.heap.size ≠ wd14.heap.size := by omega
            have ge1 : w.heap.size ≤ wd15.heap.size := by omega
            have ge2 : w.heap.size ≤ wd14.heap.size := by omega
            refine wpAnyH_ready (rs := [6]) (by kernel_rfl) (by simp) ?_
            refine ready_store rfl (by rfl) 49 _ _ rfl rfl _ 61 zcv (anv F) rfl rfl cX16 zX16 (fun _ _ => rfl) infoC (fun wA sA bA cA zA oA pA => ⟨oA _ _ _ ne2 ct16, ?_⟩) AllReadyH.nil
            try simp only [Act.put, List.setIfInBounds_toArray, List.set_cons_zero, List.set_cons_succ]
            refine wpAnyH_ready (rs := [7]) (by kernel_rfl) (by simp) ?_
            refine ready_store rfl (by rfl) 52 _ _ rfl rfl _ 61 ziv (sqv F) rfl rfl (oA _ _ _ (Ne.symm ne1) cY16) (pA _ _ zY16) (fun _ _ => rfl) infoI (fun wB sB bB cB zB oB pB => ⟨oB _ _ _ ne3 (oA _ _ _ ne2 ct16), ?_⟩) AllReadyH.nil
            try simp only [Act.put, List.setIfInBounds_toArray, List.set_cons_zero, List.set_cons_succ]
            refine wpAnyH_done (by kernel_rfl) ?_ _
            have BB : Hid (Below w.heap.size w wB) := Lib.hid (bB _ _ ge2 (bA _ _ ge1 b16.out))
            go_wp2_with fail
            go_meet
            exact ⟨_, _, rfl, rfl, oB _ _ _ ne1 cA, cB, oB _ _ _ ne5 (oA _ _ _ ne4 ca16), oB _ _ _ ne7 (oA _ _ _ ne6 cs16), BB⟩
          exact AllReadyH.nil
        exact AllReadyH.nil
      refine ready_alloc rfl (by rfl) 49 rfl 10 rfl 61 (zcv) zeroC (fun wd14 Nx => ?_) ?_
      · have ct14 := ct13.later Nx.below
        have zt14 := zt13.later ct13 Nx.below
        have ca14 := ca13.later Nx.below
        have za14 := za13.later ca13 Nx.below
        have cs14 := cs13.later Nx.below
        have zs14 := zs13.later cs13 Nx.below
        have cX14 := Nx.at'
        have zX14 := Nx.free
        have b14 : Hid (Below w.heap.size w wd14) := Lib.hid (below_then b13.out Nx.below)
        have s14' := Nat.le_of_eq Nx.size.symm
        clear Nx
        refine ⟨ct14, ?_⟩
        try simp only [Act.put, List.setIfInBounds_toArray, List.set_cons_zero, List.set_cons_succ]
        refine wpAnyH_ready (rs := [3, 5]) (by kernel_rfl) (by simp) ?_
        refine AllReadyH.cons rfl (fun K hK => ?_) ?_
        · go_simp
          (go_at_call 28; (with_reducible refine (RE.out _).mono ?_); rintro e wd15 ⟨rfl, hbx⟩)
          have ct15 := ct14.later hbx
          have zt15 := zt14.later ct14 hbx
          have ca15 := ca14.later hbx
          have za15 := za14.later ca14 hbx
          have cs15 := cs14.later hbx
          have zs15 := zs14.later cs14 hbx
          have cX15 := cX14.later hbx
          have zX15 := zX14.later cX14 hbx
          have b15 : Hid (Below w.heap.size w wd15) := Lib.hid (below_then b14.out hbx)
          have s15' := hbx.size
          refine hK.out _ _ ct15 (fun _ => ?_)
          clear hK K
          try simp only [Act.put, List.setIfInBounds_toArray, List.set_cons_zero, List.set_cons_succ]
          refine wpAnyH_ready (rs := [5]) (by kernel_rfl) (by simp) ?_
          refine ready_alloc rfl (by rfl) 52 rfl 11 rfl 61 (ziv) zeroI (fun wd16 Nx => ?_) ?_
          · have ct16 := ct15.later Nx.below
            have zt16 := zt15.later ct15 Nx.below
            have ca16 := ca15.later Nx.below
            have za16 := za15.later ca15 Nx.below
            have cs16 := cs15.later Nx.below
            have zs16 := zs15.later cs15 Nx.below
            have cX16 := cX15.later Nx.below
            have zX16 := zX15.later cX15 Nx.below
            have cY16 := Nx.at'
            have zY16 := Nx.free
            have b16 : Hid (Below w.heap.size w wd16) := Lib.hid (below_then b15.out Nx.below)
            have s16' := Nat.le_of_eq Nx.size.symm
            clear Nx
            refine ⟨ct16, ?_⟩
            try simp only [Act.put, List.setIfInBounds_toArray, List.set_cons_zero, List.set_cons_succ]
            have ne1 : wd13.heap.size ≠ wd15.heap.size := by omega
            have ne2 : w2.heap.size ≠ wd13.heap.size := by omega
            have ne3 : w2.heap.size ≠ wd15.heap.size := by omega
            have ne4 : w5.heap.size ≠ wd13.heap.size := by omega
            have ne5 : w5.heap.size ≠ wd15.heap.size := by omega
            have ne6 : w8.heap.size ≠ wd13.heap.size := by omega
            have ne7 : w8.heap.size ≠ wd15.heap.size := by omega
            have ge1 : w.heap.size ≤ wd13.heap.size := by omega
            have ge2 : w.heap.size ≤ wd15.heap.size := by omega
            refine wpAnyH_ready (rs := [6]) (by kernel_rfl) (by simp) ?_
            refine ready_store rfl (by rfl) 49 _ _ rfl rfl _ 61 zcv (anv F) rfl rfl cX16 zX16 (fun _ _ => rfl) infoC (fun wA sA bA cA zA oA pA => ⟨oA _ _ _ ne2 ct16, ?_⟩) AllReadyH.nil
            try simp only [Act.put, List.setIfInBounds_toArray, List.set_cons_zero, List.set_cons_succ]
            refine wpAnyH_ready (rs := [7]) (by kernel_rfl) (by simp) ?_
            refine ready_store rfl (by rfl) 52 _ _ rfl rfl _ 61 ziv (sqv F) rfl rfl (oA _ _ _ (Ne.symm ne1) cY16) (pA _ _ zY16) (fun _ _ => rfl) infoI (fun wB sB bB cB zB oB pB => ⟨oB _ _ _ ne3 (oA _ _ _ ne2 ct16), ?_⟩) AllReadyH.nil
            try simp only [Act.put, List.setIfInBounds_toArray, List.set_cons_zero, List.set_cons_succ]
            refine wpAnyH_done (by kernel_rfl) ?_ _
            have BB : Hid (Below w.heap.size w wB) := Lib.hid (bB _ _ ge2 (bA _ _ ge1 b16.out))
            go_wp2_with fail
            go_meet
            exact ⟨_, _, rfl, rfl, oB _ _ _ ne1 cA, cB, oB _ _ _ ne5 (oA _ _ _ ne4 ca16), oB _ _ _ ne7 (oA _ _ _ ne6 cs16), BB⟩
          exact AllReadyH.nil
        refine ready_alloc rfl (by rfl) 52 rfl 11 rfl 61 (ziv) zeroI (fun wd15 Nx => ?_) ?_
        · have ct15 := ct14.later Nx.below
          have zt15 := zt14.later ct14 Nx.below
          have ca15 := ca14.later Nx.below
          have za15 := za14.later ca14 Nx.below
          have cs15 := cs14.later Nx.below
          have zs15 := zs14.later cs14 Nx.below
          have cX15 := cX14.later Nx.below
          have zX15 := zX14.later cX14 Nx.below
          have cY15 := Nx.at'
          have zY15 := Nx.free
          have b15 : Hid (Below w.heap.size w wd15) := Lib.hid (below_then b14.out Nx.below)
          have s15' := Nat.le_of_eq Nx.size.symm
          clear Nx
          refine ⟨ct15, ?_⟩
          try simp only [Act.put, List.setIfInBounds_toArray, List.set_cons_zero, List.set_cons_succ]
          refine wpAnyH_ready (rs := [3]) (by kernel_rfl) (by simp) ?_
          refine AllReadyH.cons rfl (fun K hK => ?_) ?_
          · go_simp
            (go_at_call 28; (with_reducible refine (RE.out _).mono ?_); rintro e wd16 ⟨rfl, hbx⟩)
            have ct16 := ct15.later hbx
            have zt16 := zt15.later ct15 hbx
            have ca16 := ca15.later hbx
            have za16 := za15.later ca15 hbx
            have cs16 := cs15.later hbx
            have zs16 := zs15.later cs15 hbx
            have cX16 := cX15.later hbx
            have zX16 := zX15.later cX15 hbx
            have cY16 := cY15.later hbx
            have zY16 := zY15.later cY15 hbx
            have b16 : Hid (Below w.heap.size w wd16) := Lib.hid (below_then b15.out hbx)
            have s16' := hbx.size
            refine hK.out _ _ ct16 (fun _ => ?_)
            clear hK K
            try simp only [Act.put, List.setIfInBounds_toArray, List.set_cons_zero, List.set_cons_succ]
            have ne1 : wd13.heap.size ≠ wd14.heap.size := by omega
            have ne2 : w2.heap.size ≠ wd13.heap.size := by omega
            have ne3 : w2.heap.size ≠ wd14.heap.size := by omega
            have ne4 : w5.heap.size ≠ wd13.heap.size := by omega
            have ne5 : w5.heap.size ≠ wd14.heap.size := by omega
            have ne6 : w8.heap.size ≠ wd13.heap.size := by omega
            have ne7 : w8.heap.size ≠ wd14.heap.size := by omega
            have ge1 : w.heap.size ≤ wd13.heap.size := by omega
            have ge2 : w.heap.size ≤ wd14.heap.size := by omega
            refine wpAnyH_ready (rs := [6]) (by kernel_rfl) (by simp) ?_
            refine ready_store rfl (by rfl) 49 _ _ rfl rfl _ 61 zcv (anv F) rfl rfl cX16 zX16 (fun _ _ => rfl) infoC (fun wA sA bA cA zA oA pA => ⟨oA _ _ _ ne2 ct16, ?_⟩) AllReadyH.nil
            try simp only [Act.put, List.setIfInBounds_toArray, List.set_cons_zero, List.set_cons_succ]
            refine wpAnyH_ready (rs := [7]) (by kernel_rfl) (by simp) ?_
            refine ready_store rfl (by rfl) 52 _ _ rfl rfl _ 61 ziv (sqv F) rfl rfl (oA _ _ _ (Ne.symm ne1) cY16) (pA _ _ zY16) (fun _ _ => rfl) infoI (fun wB sB bB cB zB oB pB => ⟨oB _ _ _ ne3 (oA _ _ _ ne2 ct16), ?_⟩) AllReadyH.nil
            try simp only [Act.put, List.setIfInBounds_toArray, List.set_cons_zero, List.set_cons_succ]
            refine wpAnyH_done (by kernel_rfl) ?_ _
            have BB : Hid (Below w.heap.size w wB) := Lib.hid (bB _ _ ge2 (bA _ _ ge1 b16.out))
            go_wp2_with fail
            go_meet
            exact ⟨_, _, rfl, rfl, oB _ _ _ ne1 cA, cB, oB _ _ _ ne5 (oA _ _ _ ne4 ca16), oB _ _ _ ne7 (oA _ _ _ ne6 cs16), BB⟩
          exact AllReadyH.nil
        exact AllReadyH.nil
      refine ready_alloc rfl (by rfl) 52 rfl 11 rfl 61 (ziv) zeroI (fun wd14 Nx => ?_) ?_
      · have ct14 := ct13.later Nx.below
        have zt14 := zt13.later ct13 Nx.below
        have ca14 := ca13.later Nx.below
        have za14 := za13.later ca13 Nx.below
        have cs14 := cs13.later Nx.below
        have zs14 := zs13.later cs13 Nx.below
        have cY14 := Nx.at'
        have zY14 := Nx.free
        have b14 : Hid (Below w.heap.size w wd14) := Lib.hid (below_then b13.out Nx.below)
        have s14' := Nat.le_of_eq Nx.size.symm
        clear Nx
        refine ⟨ct14, ?_⟩
        try simp only [Act.put, List.setIfInBounds_toArray, List.set_cons_zero, List.set_cons_succ]
        refine wpAnyH_ready (rs := [3, 4]) (by kernel_rfl) (by simp) ?_
        refine AllReadyH.cons rfl (fun K hK => ?_) ?_
        · go_simp
          (go_at_call 28; (with_reducible refine (RE.out _).mono ?_); rintro e wd15 ⟨rfl, hbx⟩)
          have ct15 := ct14.later hbx
          have zt15 := zt14.later ct14 hbx
          have ca15 := ca14.later hbx
          have za15 := za14.later ca14 hbx
          have cs15 := cs14.later hbx
          have zs15 := zs14.later cs14 hbx
          have cY15 := cY14.later hbx
          have zY15 := zY14.later cY14 hbx
          have b15 : Hid (Below w.heap.size w wd15) := Lib.hid (below_then b14.out hbx)
          have s15' := hbx.size
          refine hK.out _ _ ct15 (fun _ => ?_)
          clear hK K
          try simp only [Act.put, List.setIfInBounds_toArray, List.set_cons_zero, List.set_cons_succ]
          refine wpAnyH_ready (rs := [4]) (by kernel_rfl) (by simp) ?_
          refine ready_alloc rfl (by rfl) 49 rfl 10 rfl 61 (zcv) zeroC (fun wd16 Nx => ?_) ?_
          · have ct16 := ct15.later Nx.below
            have zt16 := zt15.later ct15 Nx.below
            have ca16 := ca15.later Nx.below
            have za16 := za15.later ca15 Nx.below
            have cs16 := cs15.later Nx.below
            have zs16 := zs15.later cs15 Nx.below
            have cY16 := cY15.later Nx.below
            have zY16 := zY15.later cY15 Nx.below
            have cX16 := Nx.at'
            have zX16 := Nx.free
            have b16 : Hid (Below w.heap.size w wd16) := Lib.hid (below_then b15.out Nx.below)
            have s16' := Nat.le_of_eq Nx.size.symm
            clear Nx
            refine ⟨ct16, ?_⟩
            try simp only [Act.put, List.setIfInBounds_toArray, List.set_cons_zero, List.set_cons_succ]
            have ne1 : wd15.heap.size ≠ wd13.heap.size := by omega
            have ne2 : w2.heap.size ≠ wd15.heap.size := by omega
            have ne3 : w2.heap.size ≠ wd13.heap.size := by omega
            have ne4 : w5.heap.size ≠ wd15.heap.size := by omega
            have ne5 : w5.heap.size ≠ wd13.heap.size := by omega
            have ne6 : w8.heap.size ≠ wd15.heap.size := by omega
            have ne7 : w8.heap.size ≠ wd13.heap.size := by omega
            have ge1 : w.heap.size ≤ wd15.heap.size := by omega
            have ge2 : w.heap.size ≤ wd13.heap.size := by omega
            refine wpAnyH_ready (rs := [6]) (by kernel_rfl) (by simp) ?_
            refine ready_store rfl (by rfl) 49 _ _ rfl rfl _ 61 zcv (anv F) rfl rfl cX16 zX16 (fun _ _ => rfl) infoC (fun wA sA bA cA zA oA pA => ⟨oA _ _ _ ne2 ct16, ?_⟩) AllReadyH.nil
            try simp only [Act.put, List.setIfInBounds_toArray, List.set_cons_zero, List.set_cons_succ]
            refine wpAnyH_ready (rs := [7]) (by kernel_rfl) (by simp) ?_
            refine ready_store rfl (by rfl) 52 _ _ rfl rfl _ 61 ziv (sqv F) rfl rfl (oA _ _ _ (Ne.symm ne1) cY16) (pA _ _ zY16) (fun _ _ => rfl) infoI (fun wB sB bB cB zB oB pB => ⟨oB _ _ _ ne3 (oA _ _ _ ne2 ct16), ?_⟩) AllReadyH.nil
            try simp only [Act.put, List.setIfInBounds_toArray, List.set_cons_zero, List.set_cons_succ]
            refine wpAnyH_done (by kernel_rfl) ?_ _
            have BB : Hid (Below w.heap.size w wB) := Lib.hid (bB _ _ ge2 (bA _ _ ge1 b16.out))
            go_wp2_with fail
            go_meet
            exact ⟨_, _, rfl, rfl, oB _ _ _ ne1 cA, cB, oB _ _ _ ne5 (oA _ _ _ ne4 ca16), oB _ _ _ ne7 (oA _ _ _ ne6 cs16), BB⟩
          exact AllReadyH.nil
        refine ready_alloc rfl (by rfl) 49 rfl 10 rfl 61 (zcv) zeroC (fun wd15 Nx => ?_) ?_
        · have ct15 := ct14.later Nx.below
          have zt15 := zt14.later ct14 Nx.below
          have ca15 := ca14.later Nx.below
          have za15 := za14.later ca14 Nx.below
          have cs15 := cs14.later Nx.below
          have zs15 := zs14.later cs14 Nx.below
          have cY15 := cY14.later Nx.below
          have zY15 := zY14.later cY14 Nx.below
          have cX15 := Nx.at'
          have zX15 := Nx.free
          have b15 : Hid (Below w.heap.size w wd15) := Lib.hid (below_then b14.out Nx.below)
          have s15' := Nat.le_of_eq Nx.size.symm
          clear Nx
          refine ⟨ct15, ?_⟩
          try simp only [Act.put, List.setIfInBounds_toArray, List.set_cons_zero, List.set_cons_succ]
          refine wpAnyH_ready (rs := [3]) (by kernel_rfl) (by simp) ?_
          refine AllReadyH.cons rfl (fun K hK => ?_) ?_
          · go_simp
            (go_at_call 28; (with_reducible refine (RE.out _).mono ?_); rintro e wd16 ⟨rfl, hbx⟩)
            have ct16 := ct15.later hbx
            have zt16 := zt15.later ct15 hbx
            have ca16 := ca15.later hbx
            have za16 := za15.later ca15 hbx
            have cs16 := cs15.later hbx
            have zs16 := zs15.later cs15 hbx
            have cY16 := cY15.later hbx
            have zY16 := zY15.later cY15 hbx
            have cX16 := cX15.later hbx
            have zX16 := zX15.later cX15 hbx
            have b16 : Hid (Below w.heap.size w wd16) := Lib.hid (below_then b15.out hbx)
            have s16' := hbx.size
            refine hK.out _ _ ct16 (fun _ => ?_)
            clear hK K
            try simp only [Act.put, List.setIfInBounds_toArray, List.set_cons_zero, List.set_cons_succ]
            have ne1 : wd14.heap.size ≠ wd13.heap.size := by omega
            have ne2 : w2.heap.size ≠ wd14.heap.size := by omega
            have ne3 : w2.heap.size ≠ wd13.heap.size := by omega
            have ne4 : w5.heap.size ≠ wd14.heap.size := by omega
            have ne5 : w5.heap.size ≠ wd13.heap.size := by omega
            have ne6 : w8.heap.size ≠ wd14.heap.size := by omega
            have ne7 : w8.heap.size ≠ wd13.heap.size := by omega
            have ge1 : w.heap.size ≤ wd14.heap.size := by omega
            have ge2 : w.heap.size ≤ wd13.heap.size := by omega
            refine wpAnyH_ready (rs := [6]) (by kernel_rfl) (by simp) ?_
            refine ready_store rfl (by rfl) 49 _ _ rfl rfl _ 61 zcv (anv F) rfl rfl cX16 zX16 (fun _ _ => rfl) infoC (fun wA sA bA cA zA oA pA => ⟨oA _ _ _ ne2 ct16, ?_⟩) AllReadyH.nil
            try simp only [Act.put, List.setIfInBounds_toArray, List.set_cons_zero, List.set_cons_succ]
            refine wpAnyH_ready (rs := [7]) (by kernel_rfl) (by simp) ?_
            refine ready_store rfl (by rfl) 52 _ _ rfl rfl _ 61 ziv (sqv F) rfl rfl (oA _ _ _ (Ne.symm ne1) cY16) (pA _ _ zY16) (fun _ _ => rfl) infoI (fun wB sB bB cB zB oB pB => ⟨oB _ _ _ ne3 (oA _ _ _ ne2 ct16), ?_⟩) AllReadyH.nil
            try simp only [Act.put, List.setIfInBounds_toArray, List.set_cons_zero, List.set_cons_succ]
            refine wpAnyH_done (by kernel_rfl) ?_ _
            have BB : Hid (Below w.heap.size w wB) := Lib.hid (bB _ _ ge2 (bA _ _ ge1 b16.out))
            go_wp2_with fail
            go_meet
            exact ⟨_, _, rfl, rfl, oB _ _ _ ne1 cA, cB, oB _ _ _ ne5 (oA _ _ _ ne4 ca16), oB _ _ _ ne7 (oA _ _ _ ne6 cs16), BB⟩
          exact AllReadyH.nil
        exact AllReadyH.nil
      exact AllReadyH.nil
    refine ready_alloc rfl (by rfl) 49 rfl 10 rfl 61 (zcv) zeroC (fun wd13 Nx => ?_) ?_
    · have ct13 := ct12.later Nx.below
      have zt13 := zt12.later ct12 Nx.below
      have ca13 := ca12.later Nx.below
      have za13 := za12.later ca12 Nx.below
      have cs13 := cs12.later Nx.below
      have zs13 := zs12.later cs12 Nx.below
      have cX13 := Nx.at'
      have zX13 := Nx.free
      have b13 : Hid (Below w.heap.size w wd13) := Lib.hid (below_then b12.out Nx.below)
      have s13' := Nat.le_of_eq Nx.size.symm
      clear Nx
      refine ⟨ct13, ?_⟩
      try simp only [Act.put, List.setIfInBounds_toArray, List.set_cons_zero, List.set_cons_succ]
      refine wpAnyH_ready (rs := [1, 5]) (by kernel_rfl) (by simp) ?_
      refine AllReadyH.cons rfl (fun K hK => ?_) ?_
      · go_simp
        (go_at_call 27; (with_reducible refine (RA.out _).mono ?_); rintro e wd14 ⟨rfl, hbx⟩)
        have ct14 := ct13.later hbx
        have zt14 := zt13.later ct13 hbx
        have ca14 := ca13.later hbx
        have za14 := za13.later ca13 hbx
        have cs14 := cs13.later hbx
        have zs14 := zs13.later cs13 hbx
        have cX14 := cX13.later hbx
        have zX14 := zX13.later cX13 hbx
        have b14 : Hid (Below w.heap.size w wd14) := Lib.hid (below_then b13.out hbx)
        have s14' := hbx.size
        refine hK.out _ _ ct14 (fun _ => ?_)
        clear hK K
        try simp only [Act.put, List.setIfInBounds_toArray, List.set_cons_zero, List.set_cons_succ]
        refine wpAnyH_ready (rs := [3, 5]) (by kernel_rfl) (by simp) ?_
        refine AllReadyH.cons rfl (fun K hK => ?_) ?_
        · go_simp
          (go_at_call 28; (with_reducible refine (RE.out _).mono ?_); rintro e wd15 ⟨rfl, hbx⟩)
          have ct15 := ct14.later hbx
          have zt15 := zt14.later ct14 hbx
          have ca15 := ca14.later hbx
          have za15 := za14.later ca14 hbx
          have cs15 := cs14.later hbx
          have zs15 := zs14.later cs14 hbx
          have cX15 := cX14.later hbx
          have zX15 := zX14.later cX14 hbx
          have b15 : Hid (Below w.heap.size w wd15) := Lib.hid (below_then b14.out hbx)
          have s15' := hbx.size
          refine hK.out _ _ ct15 (fun _ => ?_)
          clear hK K
          try simp only [Act.put, List.setIfInBounds_toArray, List.set_cons_zero, List.set_cons_succ]
          refine wpAnyH_ready (rs := [5]) (by kernel_rfl) (by simp) ?_
          refine ready_alloc rfl (by rfl) 52 rfl 11 rfl 61 (ziv) zeroI (fun wd16 Nx => ?_) ?_
          · have ct16 := ct15.later Nx.below
            have zt16 := zt15.later ct15 Nx.below
            have ca16 := ca15.later Nx.below
            have za16 := za15.later ca15 Nx.below
            have cs16 := cs15.later Nx.below
            have zs16 := zs15.later cs15 Nx.below
            have cX16 := cX15.later Nx.below
            have zX16 := zX15.later cX15 Nx.below
            have cY16 := Nx.at'
            have zY16 := Nx.free
            have b16 : Hid (Below w.heap.size w wd16) := Lib.hid (below_then b15.out Nx.below)
            have s16' := Nat.le_of_eq Nx.size.symm
            clear Nx
            refine ⟨ct16, ?_⟩
            try simp only [Act.put, List.setIfInBounds_toArray, List.set_cons_zero, List.set_cons_succ]
            have ne1 : wd.heap.size ≠ wd15.heap.size := by omega
            have ne2 : w2.heap.size ≠ wd.heap.size := by omega
            have ne3 : w2.heap.size ≠ wd15.heap.size := by omega
            have ne4 : w5.heap.size ≠ wd.heap.size := by omega
            have ne5 : w5.heap.size ≠ wd15.heap.size := by omega
            have ne6 : w8.heap.size ≠ wd.heap.size := by omega
            have ne7 : w8.heap.size ≠ wd15.heap.size := by omega
            have ge1 : w.heap.size ≤ wd.heap.size := by omega
            have ge2 : w.heap.size ≤ wd15.heap.size := by omega
            refine wpAnyH_ready (rs := [6]) (by kernel_rfl) (by simp) ?_
            refine ready_store rfl (by rfl) 49 _ _ rfl rfl _ 61 zcv (anv F) rfl rfl cX16 zX16 (fun _ _ => rfl) infoC (fun wA sA bA cA zA oA pA => ⟨oA _ _ _ ne2 ct16, ?_⟩) AllReadyH.nil
            try simp only [Act.put, List.setIfInBounds_toArray, List.set_cons_zero, List.set_cons_succ]
            refine wpAnyH_ready (rs := [7]) (by kernel_rfl) (by simp) ?_
            refine ready_store rfl (by rfl) 52 _ _ rfl rfl _ 61 ziv (sqv F) rfl rfl (oA _ _ _ (Ne.symm ne1) cY16) (pA _ _ zY16) (fun _ _ => rfl) infoI (fun wB sB bB cB zB oB pB => ⟨oB _ _ _ ne3 (oA _ _ _ ne2 ct16), ?_⟩) AllReadyH.nil
            try simp only [Act.put, List.setIfInBounds_toArray, List.set_cons_zero, List.set_cons_succ]
            refine wpAnyH_done (by kernel_rfl) ?_ _
            have BB : Hid (Below w.heap.size w wB) := Lib.hid (bB _ _ ge2 (bA _ _ ge1 b16.out))
            go_wp2_with fail
            go_meet
            exact ⟨_, _, rfl, rfl, oB _ _ _ ne1 cA, cB, oB _ _ _ ne5 (oA _ _ _ ne4 ca16), oB _ _ _ ne7 (oA _ _ _ ne6 cs16), BB⟩
          exact AllReadyH.nil
        refine ready_alloc rfl (by rfl) 52 rfl 11 rfl 61 (ziv) zeroI (fun wd15 Nx => ?_) ?_
        · have ct15 := ct14.later Nx.below
          have zt15 := zt14.later ct14 Nx.below
          have ca15 := ca14.later Nx.below
          have za15 := za14.later ca14 Nx.below
          have cs15 := cs14.later Nx.below
          have zs15 := zs14.later cs14 Nx.below
          have cX15 := cX14.later Nx.below
          have zX15 := zX14.later cX14 Nx.below
          have cY15 := Nx.at'
          have zY15 := Nx.free
          have b15 : Hid (Below w.heap.size w wd15) := Lib.hid (below_then b14.out Nx.below)
          have s15' := Nat.le_of_eq Nx.size.symm
          clear Nx
          refine ⟨ct15, ?_⟩
          try simp only [Act.put, List.setIfInBounds_toArray, List.set_cons_zero, List.set_cons_succ]
          refine wpAnyH_ready (rs := [3]) (by kernel_rfl) (by simp) ?_
          refine AllReadyH.cons rfl (fun K hK => ?_) ?_
          · go_simp
            (go_at_call 28; (with_reducible refine (RE.out _).mono ?_); rintro e wd16 ⟨rfl, hbx⟩)
            have ct16 := ct15.later hbx
            have zt16 := zt15.later ct15 hbx
            have ca16 := ca15.later hbx
            have za16 := za15.later ca15 hbx
            have cs16 := cs15.later hbx
            have zs16 := zs15.later cs15 hbx
            have cX16 := cX15.later hbx
            have zX16 := zX15.later cX15 hbx
            have cY16 := cY15.later hbx
            have zY16 := zY15.later cY15 hbx
            have b16 : Hid (Below w.heap.size w wd16) := Lib.hid (below_then b15.out hbx)
            have s16' := hbx.size
            refine hK.out _ _ ct16 (fun _ => ?_)
            clear hK K
            try simp only [Act.put, List.setIfInBounds_toArray, List.set_cons_zero, List.set_cons_succ]
            have ne1 : wd.heap.size ≠ wd14.heap.size := by omega
            have ne2 : w2.heap.size ≠ wd.heap.size := by omega
            have ne3 : w2.heap.size ≠ wd14.heap.size := by omega
            have ne4 : w5.heap.size ≠ wd.heap.size := by omega
            have ne5 : w5.heap.size ≠ wd14.heap.size := by omega
            have ne6 : w8.heap.size ≠ wd.heap.size := by omega
            have ne7 : w8.heap.size ≠ wd14.heap.size := by omega
            have ge1 : w.heap.size ≤ wd.heap.size := by omega
            have ge2 : w.heap.size ≤ wd14.heap.size := by omega
            refine wpAnyH_ready (rs := [6]) (by kernel_rfl) (by simp) ?_
            refine ready_store rfl (by rfl) 49 _ _ rfl rfl _ 61 zcv (anv F) rfl rfl cX16 zX16 (fun _ _ => rfl) infoC (fun wA sA bA cA zA oA pA => ⟨oA _ _ _ ne2 ct16, ?_⟩) AllReadyH.nil
            try simp only [Act.put, List.setIfInBounds_toArray, List.set_cons_zero, List.set_cons_succ]
            refine wpAnyH_ready (rs := [7]) (by kernel_rfl) (by simp) ?_
            refine ready_store rfl (by rfl) 52 _ _ rfl rfl _ 61 ziv (sqv F) rfl rfl (oA _ _ _ (Ne.symm ne1) cY16) (pA _ _ zY16) (fun _ _ => rfl) infoI (fun wB sB bB cB zB oB pB => ⟨oB _ _ _ ne3 (oA _ _ _ ne2 ct16), ?_⟩) AllReadyH.nil
            try simp only [Act.put, List.setIfInBounds_toArray, List.set_cons_zero, List.set_cons_succ]
            refine wpAnyH_done (by kernel_rfl) ?_ _
            have BB : Hid (Below w.heap.size w wB) := Lib.hid (bB _ _ ge2 (bA _ _ ge1 b16.out))
            go_wp2_with fail
            go_meet
            exact ⟨_, _, rfl, rfl, oB _ _ _ ne1 cA, cB, oB _ _ _ ne5 (oA _ _ _ ne4 ca16), oB _ _ _ ne7 (oA _ _ _ ne6 cs16), BB⟩
          exact AllReadyH.nil
        exact AllReadyH.nil
      refine ready_alloc rfl (by rfl) 52 rfl 11 rfl 61 (ziv) zeroI (fun wd14 Nx => ?_) ?_
      · have ct14 := ct13.later Nx.below
        have zt14 := zt13.later ct13 Nx.below
        have ca14 := ca13.later Nx.below
        have za14 := za13.later ca13 Nx.below
        have cs14 := cs13.later Nx.below
        have zs14 := zs13.later cs13 Nx.below
        have cX14 := cX13.later Nx.below
        have zX14 := zX13.later cX13 Nx.below
        have cY14 := Nx.at'
        have zY14 := Nx.free
        have b14 : Hid (Below w.heap.size w wd14) := Lib.hid (below_then b13.out Nx.below)
        have s14' := Nat.le_of_eq Nx.size.symm
        clear Nx
        refine ⟨ct14, ?_⟩
        try simp only [Act.put, List.setIfInBounds_toArray, List.set_cons_zero, List.set_cons_succ]
        refine wpAnyH_ready (rs := [1]) (by kernel_rfl) (by simp) ?_
        refine AllReadyH.cons rfl (fun K hK => ?_) ?_
        · go_simp
          (go_at_call 27; (with_reducible refine (RA.out _).mono ?_); rintro e wd15 ⟨rfl, hbx⟩)
          have ct15 := ct14.later hbx
          have zt15 := zt14.later ct14 hbx
          have ca15 := ca14.later hbx
          have za15 := za14.later ca14 hbx
          have cs15 := cs14.later hbx
          have zs15 := zs14.later cs14 hbx
          have cX15 := cX14.later hbx
          have zX15 := zX14.later cX14 hbx
          have cY15 := cY14.later hbx
          have zY15 := zY14.later cY14 hbx
          have b15 : Hid (Below w.heap.size w wd15) := Lib.hid (below_then b14.out hbx)
          have s15' := hbx.size
          refine hK.out _ _ ct15 (fun _ => ?_)
          clear hK K
          try simp only [Act.put, List.setIfInBounds_toArray, List.set_cons_zero, List.set_cons_succ]
          refine wpAnyH_ready (rs := [3]) (by kernel_rfl) (by simp) ?_
          refine AllReadyH.cons rfl (fun K hK => ?_) ?_
          · go_simp
            (go_at_call 28; (with_reducible refine (RE.out _).mono ?_); rintro e wd16 ⟨rfl, hbx⟩)
            have ct16 := ct15.later hbx
            have zt16 := zt15.later ct15 hbx
            have ca16 := ca15.later hbx
            have za16 := za15.later ca15 hbx
            have cs16 := cs15.later hbx
            have zs16 := zs15.later cs15 hbx
            have cX16 := cX15.later hbx
            have zX16 := zX15.later cX15 hbx
            have cY16 := cY15.later hbx
            have zY16 := zY15.later cY15 hbx
            have b16 : Hid (Below w.heap.size w wd16) := Lib.hid (below_then b15.out hbx)
            have s16' := hbx.size
            refine hK.out _ _ ct16 (fun _ => ?_)
            clear hK K
            try simp only [Act.put, List.setIfInBounds_toArray, List.set_cons_zero, List.set_cons_succ]
            have ne1 : wd.heap.size ≠ wd13.heap.size := by omega
            have ne2 : w2.heap.size ≠ wd.heap.size := by omega
            have ne3 : w2.heap.size ≠ wd13.heap.size := by omega
            have ne4 : w5.heap.size ≠ wd.heap.size := by omega
            have ne5 : w5.heap.size ≠ wd13.heap.size := by omega
            have ne6 : w8.heap.size ≠ wd.heap.size := by omega
            have ne7 : w8.heap.size ≠ wd13.heap.size := by omega
            have ge1 : w.heap.size ≤ wd.heap.size := by omega
            have ge2 : w.heap.size ≤ wd13.heap.size := by omega
            refine wpAnyH_ready (rs := [6]) (by kernel_rfl) (by simp) ?_
            refine ready_store rfl (by rfl) 49 _ _ rfl rfl _ 61 zcv (anv F) rfl rfl cX16 zX16 (fun _ _ => rfl) infoC (fun wA sA bA cA zA oA pA => ⟨oA _ _ _ ne2 ct16, ?_⟩) AllReadyH.nil
            try simp only [Act.put, List.setIfInBounds_toArray, List.set_cons_zero, List.set_cons_succ]
            refine wpAnyH_ready (rs := [7]) (by kernel_rfl) (by simp) ?_
            refine ready_store rfl (by rfl) 52 _ _ rfl rfl _ 61 ziv (sqv F) rfl rfl (oA _ _ _ (Ne.symm ne1) cY16) (pA _ _ zY16) (fun _ _ => rfl) infoI (fun wB sB bB cB zB oB pB => ⟨oB _ _ _ ne3 (oA _ _ _ ne2 ct16), ?_⟩) AllReadyH.nil
            try simp only [Act.put, List.setIfInBounds_toArray, List.set_cons_zero, List.set_cons_succ]
            refine wpAnyH_done (by kernel_rfl) ?_ _
            have BB : Hid (Below w.heap.size w wB) := Lib.hid (bB _ _ ge2 (bA _ _ ge1 b16.out))
            go_wp2_with fail
            go_meet
            exact ⟨_, _, rfl, rfl, oB _ _ _ ne1 cA, cB, oB _ _ _ ne5 (oA _ _ _ ne4 ca16), oB _ _ _ ne7 (oA _ _ _ ne6 cs16), BB⟩
          exact AllReadyH.nil
        exact AllReadyH.nil
      exact AllReadyH.nil
    refine ready_alloc rfl (by rfl) 52 rfl 11 rfl 61 (ziv) zeroI (fun wd13 Nx => ?_) ?_
    · have ct13 := ct12.later Nx.below
      have zt13 := zt12.later ct12 Nx.below
      have ca13 := ca12.later Nx.below
      have za13 := za12.later ca12 Nx.below
      have cs13 := cs12.later Nx.below
      have zs13 := zs12.later cs12 Nx.below
      have cY13 := Nx.at'
      have zY13 := Nx.free
      have b13 : Hid (Below w.heap.size w wd13) := Lib.hid (below_then b12.out Nx.below)
      have s13' := Nat.le_of_eq Nx.size.symm
      clear Nx
      refine ⟨ct13, ?_⟩
      try simp only [Act.put, List.setIfInBounds_toArray, List.set_cons_zero, List.set_cons_succ]
      refine wpAnyH_ready (rs := [1, 4]) (by kernel_rfl) (by simp) ?_
      refine AllReadyH.cons rfl (fun K hK => ?_) ?_
      · go_simp
        (go_at_call 27; (with_reducible refine (RA.out _).mono ?_); rintro e wd14 ⟨rfl, hbx⟩)
        have ct14 := ct13.later hbx
        have zt14 := zt13.later ct13 hbx
        have ca14 := ca13.later hbx
        have za14 := za13.later ca13 hbx
        have cs14 := cs13.later hbx
        have zs14 := zs13.later cs13 hbx
        have cY14 := cY13.later hbx
        have zY14 := zY13.later cY13 hbx
        have b14 : Hid (Below w.heap.size w wd14) := Lib.hid (below_then b13.out hbx)
        have s14' := hbx.size
        refine hK.out _ _ ct14 (fun _ => ?_)
        clear hK K
        try simp only [Act.put, List.setIfInBounds_toArray, List.set_cons_zero, List.set_cons_succ]
        refine wpAnyH_ready (rs := [3, 4]) (by kernel_rfl) (by simp) ?_
        refine AllReadyH.cons rfl (fun K hK => ?_) ?_
        · go_simp
          (go_at_call 28; (with_reducible refine (RE.out _).mono ?_); rintro e wd15 ⟨rfl, hbx⟩)
          have ct15 := ct14.later hbx
          have zt15 := zt14.later ct14 hbx
          have ca15 := ca14.later hbx
          have za15 := za14.later ca14 hbx
          have cs15 := cs14.later hbx
          have zs15 := zs14.later cs14 hbx
          have cY15 := cY14.later hbx
          have zY15 := zY14.later cY14 hbx
          have b15 : Hid (Below w.heap.size w wd15) := Lib.hid (below_then b14.out hbx)
          have s15' := hbx.size
          refine hK.out _ _ ct15 (fun _ => ?_)
          clear hK K
          try simp only [Act.put, List.setIfInBounds_toArray, List.set_cons_zero, List.set_cons_succ]
          refine wpAnyH_ready (rs := [4]) (by kernel_rfl) (by simp) ?_
          refine ready_alloc rfl (by rfl) 49 rfl 10 rfl 61 (zcv) zeroC (fun wd16 Nx => ?_) ?_
          · have ct16 := ct15.later Nx.below
            have zt16 := zt15.later ct15 Nx.below
            have ca16 := ca15.later Nx.below
            have za16 := za15.later ca15 Nx.below
            have cs16 := cs15.later Nx.below
            have zs16 := zs15.later cs15 Nx.below
            have cY16 := cY15.later Nx.below
            have zY16 := zY15.later cY15 Nx.below
            have cX16 := Nx.at'
            have zX16 := Nx.free
            have b16 : Hid (Below w.heap.size w wd16) := Lib.hid (below_then b15.out Nx.below)
            have s16' := Nat.le_of_eq Nx.size.symm
            clear Nx
            refine ⟨ct16, ?_⟩
            try simp only [Act.put, List.setIfInBounds_toArray, List.set_cons_zero, List.set_cons_succ]
            have ne1 : wd15.heap.size ≠ wd.heap.size := by omega
            have ne2 : w2.heap.size ≠ wd15.heap.size := by omega
            have ne3 : w2.heap.size ≠ wd.heap.size := by omega
            have ne4 : w5.heap.size ≠ wd15.heap.size := by omega
            have ne5 : w5.heap.size ≠ wd.heap.size := by omega
            have ne6 : w8.heap.size ≠ wd15.heap.size := by omega
            have ne7 : w8.heap.size ≠ wd.heap.size := by omega
            have ge1 : w.heap.size ≤ wd15.heap.size := by omega
            have ge2 : w.heap.size ≤ wd.heap.size := by omega
            refine wpAnyH_ready (rs := [6]) (by kernel_rfl) (by simp) ?_
            refine ready_store rfl (by rfl) 49 _ _ rfl rfl _ 61 zcv (anv F) rfl rfl cX16 zX16 (fun _ _ => rfl) infoC (fun wA sA bA cA zA oA pA => ⟨oA _ _ _ ne2 ct16, ?_⟩) AllReadyH.nil
            try simp only [Act.put, List.setIfInBounds_toArray, List.set_cons_zero, List.set_cons_succ]
            refine wpAnyH_ready (rs := [7]) (by kernel_rfl) (by simp) ?_
            refine ready_store rfl (by rfl) 52 _ _ rfl rfl _ 61 ziv (sqv F) rfl rfl (oA _ _ _ (Ne.symm ne1) cY16) (pA _ _ zY16) (fun _ _ => rfl) infoI (fun wB sB bB cB zB oB pB => ⟨oB _ _ _ ne3 (oA _ _ _ ne2 ct16), ?_⟩) AllReadyH.nil
            try simp only [Act.put, List.setIfInBounds_toArray, List.set_cons_zero, List.set_cons_succ]
            refine wpAnyH_done (by kernel_rfl) ?_ _
            have BB : Hid (Below w.heap.size w wB) := Lib.hid (bB _ _ ge2 (bA _ _ ge1 b16.out))
            go_wp2_with fail
            go_meet
            exact ⟨_, _, rfl, rfl, oB _ _ _ ne1 cA, cB, oB _ _ _ ne5 (oA _ _ _ ne4 ca16), oB _ _ _ ne7 (oA _ _ _ ne6 cs16), BB⟩
          exact AllReadyH.nil
        refine ready_alloc rfl (by rfl) 49 rfl 10 rfl 61 (zcv) zeroC (fun wd15 Nx => ?_) ?_
        · have ct15 := ct14.later Nx.below
          have zt15 := zt14.later ct14 Nx.below
          have ca15 := ca14.later Nx.below
          have za15 := za14.later ca14 Nx.below
          have cs15 := cs14.later Nx.below
          have zs15 := zs14.later cs14 Nx.below
          have cY15 := cY14.later Nx.below
          have zY15 := zY14.later cY14 Nx.below
          have cX15 := Nx.at'
          have zX15 := Nx.free
          have b15 : Hid (Below w.heap.size w wd15) := Lib.hid (below_then b14.out Nx.below)
          have s15' := Nat.le_of_eq Nx.size.symm
          clear Nx
          refine ⟨ct15, ?_⟩
          try simp only [Act.put, List.setIfInBounds_toArray, List.set_cons_zero, List.set_cons_succ]
          refine wpAnyH_ready (rs := [3]) (by kernel_rfl) (by simp) ?_
          refine AllReadyH.cons rfl (fun K hK => ?_) ?_
          · go_simp
            (go_at_call 28; (with_reducible refine (RE.out _).mono ?_); rintro e wd16 ⟨rfl, hbx⟩)
            have ct16 := ct15.later hbx
            have zt16 := zt15.later ct15 hbx
            have ca16 := ca15.later hbx
            have za16 := za15.later ca15 hbx
            have cs16 := cs15.later hbx
            have zs16 := zs15.later cs15 hbx
            have cY16 := cY15.later hbx
            have zY16 := zY15.later cY15 hbx
            have cX16 := cX15.later hbx
            have zX16 := zX15.later cX15 hbx
            have b16 : Hid (Below w.heap.size w wd16) := Lib.hid (below_then b15.out hbx)
            have s16' := hbx.size
            refine hK.out _ _ ct16 (fun _ => ?_)
            clear hK K
            try simp only [Act.put, List.setIfInBounds_toArray, List.set_cons_zero, List.set_cons_succ]
            have ne1 : wd14.heap.size ≠ wd.heap.size := by omega
            have ne2 : w2.heap.size ≠ wd14.heap.size := by omega
            have ne3 : w2.heap.size ≠ wd.heap.size := by omega
            have ne4 : w5.heap.size ≠ wd14.heap.size := by omega
            have ne5 : w5.heap.size ≠ wd.heap.size := by omega
            have ne6 : w8.heap.size ≠ wd14.heap.size := by omega
            have ne7 : w8.heap.size ≠ wd.heap.size := by omega
            have ge1 : w.heap.size ≤ wd14.heap.size := by omega
            have ge2 : w.heap.size ≤ wd.heap.size := by omega
            refine wpAnyH_ready (rs := [6]) (by kernel_rfl) (by simp) ?_
            refine ready_store rfl (by rfl) 49 _ _ rfl rfl _ 61 zcv (anv F) rfl rfl cX16 zX16 (fun _ _ => rfl) infoC (fun wA sA bA cA zA oA pA => ⟨oA _ _ _ ne2 ct16, ?_⟩) AllReadyH.nil
            try simp only [Act.put, List.setIfInBounds_toArray, List.set_cons_zero, List.set_cons_succ]
            refine wpAnyH_ready (rs := [7]) (by kernel_rfl) (by simp) ?_
            refine ready_store rfl (by rfl) 52 _ _ rfl rfl _ 61 ziv (sqv F) rfl rfl (oA _ _ _ (Ne.symm ne1) cY16) (pA _ _ zY16) (fun _ _ => rfl) infoI (fun wB sB bB cB zB oB pB => ⟨oB _ _ _ ne3 (oA _ _ _ ne2 ct16), ?_⟩) AllReadyH.nil
            try simp only [Act.put, List.setIfInBounds_toArray, List.set_cons_zero, List.set_cons_succ]
            refine wpAnyH_done (by kernel_rfl) ?_ _
            have BB : Hid (Below w.heap.size w wB) := Lib.hid (bB _ _ ge2 (bA _ _ ge1 b16.out))
            go_wp2_with fail
            go_meet
            exact ⟨_, _, rfl, rfl, oB _ _ _ ne1 cA, cB, oB _ _ _ ne5 (oA _ _ _ ne4 ca16), oB _ _ _ ne7 (oA _ _ _ ne6 cs16), BB⟩
          exact AllReadyH.nil
        exact AllReadyH.nil
      refine ready_alloc rfl (by rfl) 49 rfl 10 rfl 61 (zcv) zeroC (fun wd14 Nx => ?_) ?_
      · have ct14 := ct13.later Nx.below
        have zt14 := zt13.later ct13 Nx.below
        have ca14 := ca13.later Nx.below
        have za14 := za13.later ca13 Nx.below
        have cs14 := cs13.later Nx.below
        have zs14 := zs13.later cs13 Nx.below
        have cY14 := cY13.later Nx.below
        have zY14 := zY13.later cY13 Nx.below
        have cX14 := Nx.at'
        have zX14 := Nx.free
        have b14 : Hid (Below w.heap.size w wd14) := Lib.hid (below_then b13.out Nx.below)
        have s14' := Nat.le_of_eq Nx.size.symm
        clear Nx
        refine ⟨ct14, ?_⟩
        try simp only [Act.put, List.setIfInBounds_toArray, List.set_cons_zero, List.set_cons_succ]
        refine wpAnyH_ready (rs := [1]) (by kernel_rfl) (by simp) ?_
        refine AllReadyH.cons rfl (fun K hK => ?_) ?_
        · go_simp
          (go_at_call 27; (with_reducible refine (RA.out _).mono ?_); rintro e wd15 ⟨rfl, hbx⟩)
          have ct15 := ct14.later hbx
          have zt15 := zt14.later ct14 hbx
          have ca15 := ca14.later hbx
          have za15 := za14.later ca14 hbx
          have cs15 := cs14.later hbx
          have zs15 := zs14.later cs14 hbx
          have cY15 := cY14.later hbx
          have zY15 := zY14.later cY14 hbx
          have cX15 := cX14.later hbx
          have zX15 := zX14.later cX14 hbx
          have b15 : Hid (Below w.heap.size w wd15) := Lib.hid (below_then b14.out hbx)
          have s15' := hbx.size
          refine hK.out _ _ ct15 (fun _ => ?_)
          clear hK K
          try simp only [Act.put, List.setIfInBounds_toArray, List.set_cons_zero, List.set_cons_succ]
          refine wpAnyH_ready (rs := [3]) (by kernel_rfl) (by simp) ?_
          refine AllReadyH.cons rfl (fun K hK => ?_) ?_
          · go_simp
            (go_at_call 28; (with_reducible refine (RE.out _).mono ?_); rintro e wd16 ⟨rfl, hbx⟩)
            have ct16 := ct15.later hbx
            have zt16 := zt15.later ct15 hbx
            have ca16 := ca15.later hbx
            have za16 := za15.later ca15 hbx
            have cs16 := cs15.later hbx
            have zs16 := zs15.later cs15 hbx
            have cY16 := cY15.later hbx
            have zY16 := zY15.later cY15 hbx
            have cX16 := cX15.later hbx
            have zX16 := zX15.later cX15 hbx
            have b16 : Hid (Below w.heap.size w wd16) := Lib.hid (below_then b15.out hbx)
            have s16' := hbx.size
            refine hK.out _ _ ct16 (fun _ => ?_)
            clear hK K
            try simp only [Act.put, List.setIfInBounds_toArray, List.set_cons_zero, List.set_cons_succ]
            have ne1 : wd13.heap.size ≠ wd.heap.size := by omega
            have ne2 : w2.heap.size ≠ wd13.heap.size := by omega
            have ne3 : w2.heap.size ≠ wd.heap.size := by omega
            have ne4 : w5.heap.size ≠ wd13.heap.size := by omega
            have ne5 : w5.heap.size ≠ wd.heap.size := by omega
            have ne6 : w8.heap.size ≠ wd13.heap.size := by omega
            have ne7 : w8.heap.size ≠ wd.heap.size := by omega
            have ge1 : w.heap.size ≤ wd13.heap.size := by omega
            have ge2 : w.heap.size ≤ wd.heap.size := by omega
            refine wpAnyH_ready (rs := [6]) (by kernel_rfl) (by simp) ?_
            refine ready_store rfl (by rfl) 49 _ _ rfl rfl _ 61 zcv (anv F) rfl rfl cX16 zX16 (fun _ _ => rfl) infoC (fun wA sA bA cA zA oA pA => ⟨oA _ _ _ ne2 ct16, ?_⟩) AllReadyH.nil
            try simp only [Act.put, List.setIfInBounds_toArray, List.set_cons_zero, List.set_cons_succ]
            refine wpAnyH_ready (rs := [7]) (by kernel_rfl) (by simp) ?_
            refine ready_store rfl (by rfl) 52 _ _ rfl rfl _ 61 ziv (sqv F) rfl rfl (oA _ _ _ (Ne.symm ne1) cY16) (pA _ _ zY16) (fun _ _ => rfl) infoI (fun wB sB bB cB zB oB pB => ⟨oB _ _ _ ne3 (oA _ _ _ ne2 ct16), ?_⟩) AllReadyH.nil
            try simp only [Act.put, List.setIfInBounds_toArray, List.set_cons_zero, List.set_cons_succ]
            refine wpAnyH_done (by kernel_rfl) ?_ _
            have BB : Hid (Below w.heap.size w wB) := Lib.hid (bB _ _ ge2 (bA _ _ ge1 b16.out))
            go_wp2_with fail
            go_meet
            exact ⟨_, _, rfl, rfl, oB _ _ _ ne1 cA, cB, oB _ _ _ ne5 (oA _ _ _ ne4 ca16), oB _ _ _ ne7 (oA _ _ _ ne6 cs16), BB⟩
          exact AllReadyH.nil
        exact AllReadyH.nil
      exact AllReadyH.nil
    exact AllReadyH.nil
  case rest =>
    obtain ⟨X, Y, rfl, rfl, cX, cY, ca, cs, bq⟩ := hcut
    try clear b1
    try clear s1'
    try clear b2
    try clear s2'
    try clear s3
    try clear ct3
    try clear zt3
    try clear b3
    try clear s3'
    try clear b4
    try clear s4'
    try clear ct5
    try clear zt5
    try clear b5
    try clear s5'
    try clear s6
    try clear ct6
    try clear zt6
    try clear ca6
    try clear za6
    try clear b6
    try clear s6'
    try clear ct7
    try clear zt7
    try clear b7
    try clear s7'
    try clear ct8
    try clear zt8
    try clear ca8
    try clear za8
    try clear b8
    try clear s8'
    try clear s9
    try clear ct9
    try clear zt9
    try clear ca9
    try clear za9
    try clear cs9
    try clear zs9
    try clear b9
    try clear s9'
    try clear ct10
    try clear zt10
    try clear ca10
    try clear za10
    try clear b10
    try clear s10'
    try clear ct11
    try clear zt11
    try clear ca11
    try clear za11
    try clear cs11
    try clear zs11
    try clear b11
    try clear s11'
    go_wp2
    refine wp_region_held_drew (S := fun w' => VAt (w5.heap.size) 61 (anv F) w' ∧ VAt X 61 (anv F) w' ∧ VAt (w8.heap.size) 61 (sqv F) w' ∧ VAt Y 61 (sqv F) w' ∧ Hid (Below w.heap.size w w')) (by kernel_rfl) ⟨ca.drew, cX.drew, cs.drew, cY.drew, Lib.hid bq.out.drew⟩ (fun hHeld => ?_)
    refine takeH (i := 0) (d := 58) (v := .int .i64 0) rfl rfl (by kernel_rfl) (by kernel_rfl) (by kernel_rfl) (fun _ _ _ h => h) (Or.inl ⟨by first | kernel_rfl | rfl, ?_⟩) hHeld ?_
    · intro w' hSw; go_simp
    try simp only [Act.put, List.setIfInBounds_toArray, List.set_cons_zero, List.set_cons_succ]
    refine takeH (i := 1) (d := 59) (v := .bool true) rfl rfl (by kernel_rfl) (by kernel_rfl) (by kernel_rfl) (fun _ _ _ h => h) (Or.inl ⟨by first | kernel_rfl | rfl, ?_⟩) hHeld ?_
    · intro w' hSw; go_simp
    try simp only [Act.put, List.setIfInBounds_toArray, List.set_cons_zero, List.set_cons_succ]
    refine takeH (i := 2) (d := 60) (v := .bool true) rfl rfl (by kernel_rfl) (by kernel_rfl) (by kernel_rfl) (fun _ _ _ h => h) (Or.inl ⟨by first | kernel_rfl | rfl, ?_⟩) hHeld ?_
    · intro w' hSw; go_simp
    try simp only [Act.put, List.setIfInBounds_toArray, List.set_cons_zero, List.set_cons_succ]
    refine takeH (i := 3) (d := 61) (v := .slice (some ⟨w5.heap.size, 0, none⟩) 61 61) rfl rfl (by kernel_rfl) (by kernel_rfl) (by kernel_rfl) (fun _ _ _ h => h) (Or.inl ⟨by first | kernel_rfl | rfl, ?_⟩) hHeld ?_
    · intro w' hSw; go_simp
    try simp only [Act.put, List.setIfInBounds_toArray, List.set_cons_zero, List.set_cons_succ]
    refine takeH (i := 4) (d := 62) (v := .slice (some ⟨X, 0, none⟩) 61 61) rfl rfl (by kernel_rfl) (by kernel_rfl) (by kernel_rfl) (fun _ _ _ h => h) (Or.inl ⟨by first | kernel_rfl | rfl, ?_⟩) hHeld ?_
    · intro w' hSw; go_simp
    try simp only [Act.put, List.setIfInBounds_toArray, List.set_cons_zero, List.set_cons_succ]
    refine wpAnyH_ready (rs := [5]) (by kernel_rfl) (by simp) ?_
    refine AllReadyH.cons rfl (fun K hK => ?_) AllReadyH.nil
    go_simp
    (go_at_call 29; (with_reducible refine (sameSamples_any _ _ 61 61 61 (reA F) (imA F) _ (by decide) (fun i hi => (HB.out i hi).1) (fun i hi => (HB.out i hi).2) (cx_of hHeld.1) (cx_of hHeld.2.1)).mono ?_); rintro e w' ⟨rfl, hb'⟩)
    refine hK.out _ _ ⟨hHeld.1.later hb', hHeld.2.1.later hb', hHeld.2.2.1.later hb', hHeld.2.2.2.1.later hb', Lib.hid (below_then hHeld.2.2.2.2.out hb')⟩ (fun hHeld => ?_)
    clear hK K
    try simp only [Act.put, List.setIfInBounds_toArray, List.set_cons_zero, List.set_cons_succ]
    refine takeH (i := 6) (d := 64) (v := .bool true) rfl rfl (by kernel_rfl) (by kernel_rfl) (by kernel_rfl) (fun _ _ _ h => h) (Or.inl ⟨by first | kernel_rfl | rfl, ?_⟩) hHeld ?_
    · intro w' hSw; go_simp
    try simp only [Act.put, List.setIfInBounds_toArray, List.set_cons_zero, List.set_cons_succ]
    refine takeH (i := 7) (d := 65) (v := .bool true) rfl rfl (by kernel_rfl) (by kernel_rfl) (by kernel_rfl) (fun _ _ _ h => h) (Or.inl ⟨by first | kernel_rfl | rfl, ?_⟩) hHeld ?_
    · intro w' hSw; go_simp
    try simp only [Act.put, List.setIfInBounds_toArray, List.set_cons_zero, List.set_cons_succ]
    refine takeH (i := 8) (d := 66) (v := .int .i64 0) rfl rfl (by kernel_rfl) (by kernel_rfl) (by kernel_rfl) (fun _ _ _ h => h) (Or.inl ⟨by first | kernel_rfl | rfl, ?_⟩) hHeld ?_
    · intro w' hSw; go_simp
    try simp only [Act.put, List.setIfInBounds_toArray, List.set_cons_zero, List.set_cons_succ]
    refine takeH (i := 9) (d := 67) (v := .bool true) rfl rfl (by kernel_rfl) (by kernel_rfl) (by kernel_rfl) (fun _ _ _ h => h) (Or.inl ⟨by first | kernel_rfl | rfl, ?_⟩) hHeld ?_
    · intro w' hSw; go_simp
    try simp only [Act.put, List.setIfInBounds_toArray, List.set_cons_zero, List.set_cons_succ]
    refine takeH (i := 10) (d := 68) (v := .bool true) rfl rfl (by kernel_rfl) (by kernel_rfl) (by kernel_rfl) (fun _ _ _ h => h) (Or.inl ⟨by first | kernel_rfl | rfl, ?_⟩) hHeld ?_
    · intro w' hSw; go_simp
    try simp only [Act.put, List.setIfInBounds_toArray, List.set_cons_zero, List.set_cons_succ]
    refine takeH (i := 11) (d := 69) (v := .bool true) rfl rfl (by kernel_rfl) (by kernel_rfl) (by kernel_rfl) (fun _ _ _ h => h) (Or.inl ⟨by first | kernel_rfl | rfl, ?_⟩) hHeld ?_
    · intro w' hSw; go_simp
    try simp only [Act.put, List.setIfInBounds_toArray, List.set_cons_zero, List.set_cons_succ]
    refine' takeH (i := 12) (d := 70) (v := .agg (vls 61 (sqv F)).toArray) rfl rfl (by kernel_rfl) (by kernel_rfl) (by kernel_rfl) (fun _ _ _ h => h) (yieldsIf_load_mid (by first | kernel_rfl | rfl) _ _ rfl _ _ rfl (vls 61 (sqv F)) _ (fun w' h => h.2.2.1.range) Try.underlying52 rfl (by rw [vls_length]; exact infoI)) hHeld ?_
    try simp only [Act.put, List.setIfInBounds_toArray, List.set_cons_zero, List.set_cons_succ]
    refine' takeH (i := 13) (d := 71) (v := .agg (vls 61 (sqv F)).toArray) rfl rfl (by kernel_rfl) (by kernel_rfl) (by kernel_rfl) (fun _ _ _ h => h) (yieldsIf_load_mid (by first | kernel_rfl | rfl) _ _ rfl _ _ rfl (vls 61 (sqv F)) _ (fun w' h => h.2.2.2.1.range) Try.underlying52 rfl (by rw [vls_length]; exact infoI)) hHeld ?_
    try simp only [Act.put, List.setIfInBounds_toArray, List.set_cons_zero, List.set_cons_succ]
    refine takeH (i := 14) (d := 72) (v := .bool true) rfl rfl (by kernel_rfl) (by kernel_rfl) (by kernel_rfl) (fun _ _ _ h => h) (Or.inl ⟨by first | kernel_rfl | rfl, ?_⟩) hHeld ?_
    · intro w' hSw; have EI := eqSq F w'; go_simp
    try simp only [Act.put, List.setIfInBounds_toArray, List.set_cons_zero, List.set_cons_succ]
    refine takeH (i := 15) (d := 73) (v := .bool true) rfl rfl (by kernel_rfl) (by kernel_rfl) (by kernel_rfl) (fun _ _ _ h => h) (Or.inl ⟨by first | kernel_rfl | rfl, ?_⟩) hHeld ?_
    · intro w' hSw; go_simp
    try simp only [Act.put, List.setIfInBounds_toArray, List.set_cons_zero, List.set_cons_succ]
    refine takeH (i := 16) (d := 2) (v := .bool true) rfl rfl (by kernel_rfl) (by kernel_rfl) (by kernel_rfl) (fun _ _ _ h => h) (Or.inl ⟨by first | kernel_rfl | rfl, ?_⟩) hHeld ?_
    · intro w' hSw; go_simp
    try simp only [Act.put, List.setIfInBounds_toArray, List.set_cons_zero, List.set_cons_succ]
    refine wpAnyH_done (by kernel_rfl) ?_ _
    go_wp2
    go_ret
    exact ⟨rfl, hHeld.2.2.2.2.out⟩
end Go.Proofs.Ytoieemgdkpnbfaa
