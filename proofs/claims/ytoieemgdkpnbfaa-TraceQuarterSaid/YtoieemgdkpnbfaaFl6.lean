/- the squares of a trace -/
import Derived.Test.YtoieemgdkpnbfaaFl5
namespace Go.Proofs.Ytoieemgdkpnbfaa
open Go.RowKit RayM
set_option linter.unusedSimpArgs false
set_option linter.unusedVariables false
theorem toInt_run (a : Int) (ha : a.natAbs < 2 ^ 24) (w : World) : (convert 24 3 (.float .f32 (fs a))).run Try.prog w = .ok (.int .i64 a) w := by
  refine run_convert_float_int w _ _ .f32 .i64 _ _ (by kernel_rfl) (by kernel_rfl) ?_
  have e : (FloatKind.f32.decode (fs a)).toInt .zero = some a := Fl.toInt_fl Fl.good32 a ha
  unfold floatToIntVal
  rw [e]
  dsimp only
  rw [if_pos ?_]
  have h1 : IntKind.i64.min = -9223372036854775808 := by decide
  have h2 : IntKind.i64.max = 9223372036854775807 := by decide
  rw [h1, h2]; omega
theorem sq_in (a : Int) (ha : a.natAbs < 8192) : 0 ≤ a * a ∧ a * a < 67108864 := by
  have h1 : a * a = ((a.natAbs * a.natAbs : Nat) : Int) := by rw [← Int.natAbs_mul_self]
  have h2 := Nat.mul_lt_mul'' ha ha
  omega
set_option maxRecDepth 100000 in
set_option maxHeartbeats 1000000 in
theorem squareOf_any (a b : Int) (w : World) (ha : a.natAbs < 8192) (hb : b.natAbs < 8192) :
    Calls Try.prog 63 #[.complex .f32 (fs a) (fs b)] w fun e w' => e = .returned (.int .i64 (a * a + b * b)) ∧ w = w' := by
  have t1 := toInt_run a (Nat.lt_trans ha (by decide))
  have t2 := toInt_run b (Nat.lt_trans hb (by decide))
  have s1 := sq_in a ha
  have s2 := sq_in b hb
  have e1 : IntKind.i64.wrap (a * a) = a * a := IntWalk.i64_in _ (by omega)
  have e2 : IntKind.i64.wrap (b * b) = b * b := IntWalk.i64_in _ (by omega)
  have e3 : IntKind.i64.wrap (a * a + b * b) = a * a + b * b := IntWalk.i64_in _ (by omega)
  clear s1 s2
  go_enter Try.func63, Try.ntmps63
  go_wp2
  go_ret
  exact ⟨rfl, rfl⟩
/-- the squares of analytic samples -/
def sqA (l : Nat → Int) (k : Nat) : Int := (l k - l (k + 2)) * (l k - l (k + 2)) + (l (k + 1) - l (k + 3)) * (l (k + 1) - l (k + 3))
def sqv (l : Nat → Int) (k : Nat) : Value := .int .i64 (sqA l k)
def ziv (_ : Nat) : Value := .int .i64 0
def sqS (l : Nat → Int) (k i : Nat) : Value := if i < k then sqv l i else ziv i
theorem sqS_zero (l : Nat → Int) : sqS l 0 = ziv := by funext i; simp [sqS]
theorem sqS_step (l : Nat → Int) (k : Nat) (v : Value) (h : v = sqv l k) : ∀ i, i < 61 → upd (sqS l k) k v i = sqS l (k + 1) i := fun i _ => by
  unfold upd sqS
  by_cases e : i = k
  · subst e; rw [if_pos rfl, if_pos (by omega), h]
  · rw [if_neg e]
    by_cases e2 : i < k
    · rw [if_pos e2, if_pos (by omega)]
    · rw [if_neg e2, if_neg (by omega)]
theorem sqS_all (l : Nat → Int) : ∀ i, i < 61 → sqS l 61 i = sqv l i := fun i hi => by unfold sqS; rw [if_pos hi]
theorem zeroI : (Try.prog.info? 52).map (fun i => (i.zero, i.size)) = some (some (.agg (vls 61 ziv).toArray), 61) := by kernel_rfl
theorem infoI : (Try.prog.info? 52).map (·.size) = some 61 := by kernel_rfl
theorem infoc1 : (Try.prog.info? 48).map (·.size) = some 1 := by kernel_rfl
theorem anv_at (l : Nat → Int) (k : Nat) : anv l (k : Int).toNat = .complex .f32 (fs (l k - l (k + 2))) (fs (l (k + 1) - l (k + 3))) := rfl
set_option maxRecDepth 100000 in
set_option maxHeartbeats 1000000 in
theorem envelope_any (l : Nat → Int) (hl : Few l) (w : World) :
    Calls Try.prog 26 #[.agg (vls 64 (fv l)).toArray] w fun e w' => e = .returned (.tuple #[.agg (vls 61 (if ctE l = 0 then sqv l else ziv)).toArray, .int .i64 (ctE l)]) ∧ Below w.heap.size w w' := by
  have HA := Lib.hid (fun w => analytic_any l hl w)
  have HZ : Hid (ctE l = 0 → ∀ i, i < 64 → -2047 ≤ l i ∧ l i ≤ 2047) := (ctE_zero l).1
  clear hl
  generalize hE : ctE l = E0 at *
  clear hE
  by_cases hz : E0 = 0
  · have HB := Lib.hid (HZ.out hz)
    subst hz
    simp only [if_true] at HA ⊢
    go_enter Try.func26, Try.ntmps26
    go_wp2_with (first
      | (with_reducible refine wpList_box_named rfl 26 _ rfl 1 rfl 64 (fv l) rfl ?_; intro w1 N1; have s1 := N1.size; have ct1 := N1.at'; have zt1 := N1.free; have b1 : Hid (Below w.heap.size w w1) := Lib.hid N1.below; clear N1)
      | (with_reducible refine wpList_alloc_named rfl 52 rfl 2 rfl 61 (ziv) zeroI ?_; intro w2 N2; have s2 := N2.size; have ct2 := ct1.later N2.below; have zt2 := zt1.later ct1 N2.below; have cr2 := N2.at'; have zr2 := N2.free; have b2 : Hid (Below w.heap.size w w2) := Lib.hid (below_then b1.out N2.below); clear N2; rw [s1] at s2 cr2 zr2)
      | (with_reducible refine wpList_alloc_named rfl 52 rfl 4 rfl 61 (ziv) zeroI ?_; intro w3 N3; have s3 := N3.size; have ct3 := ct2.later N3.below; have zt3 := zt2.later ct2 N3.below; have cr3 := cr2.later N3.below; have zr3 := zr2.later cr2 N3.below; have cq3 := N3.at'; have zq3 := N3.free; have b3 : Hid (Below w.heap.size w w3) := Lib.hid (below_then b2.out N3.below); clear N3; rw [s2] at s3 cq3 zq3)
      | (with_reducible refine wpList_load_at rfl 26 _ rfl _ 64 (fv l) rfl ct3 _ Try.underlying26 rfl infoV ?_)
      | (go_at_call 25; (with_reducible refine (HA.out _).mono ?_); rintro e w4 ⟨rfl, hb4⟩; have ct4 := ct3.later hb4; have zt4 := zt3.later ct3 hb4; have cr4 := cr3.later hb4; have zr4 := zr3.later cr3 hb4; have cq4 := cq3.later hb4; have zq4 := zq3.later cq3 hb4; have b4 : Hid (Below w.heap.size w w4) := Lib.hid (below_then b3.out hb4); have s4' := hb4.size; rw [s3] at s4'; clear hb4)
      | (with_reducible refine wpList_alloc_named rfl 49 rfl 5 rfl 61 (zcv) zeroC ?_; intro w5 N5; have s5 := N5.size; have ct5 := ct4.later N5.below; have zt5 := zt4.later ct4 N5.below; have cr5 := cr4.later N5.below; have zr5 := zr4.later cr4 N5.below; have cq5 := cq4.later N5.below; have zq5 := zq4.later cq4 N5.below; have ca5 := N5.at'; have za5 := N5.free; have b5 : Hid (Below w.heap.size w w5) := Lib.hid (below_then b4.out N5.below); clear N5; have s5' := Nat.le_of_eq s5.symm)
      | (with_reducible refine wpList_store_at rfl 49 _ _ rfl _ 61 _ (anv l) rfl rfl ca5 za5 (fun _ _ => rfl) infoC ?_; intro w6 S6 B6 ca6 za6 O6 P6; have ct6 := O6 _ _ _ (by omega) ct5; have zt6 := P6 _ _ zt5; have cr6 := O6 _ _ _ (by omega) cr5; have zr6 := P6 _ _ zr5; have cq6 := O6 _ _ _ (by omega) cq5; have zq6 := P6 _ _ zq5; have b6 : Hid (Below w.heap.size w w6) := Lib.hid (B6 _ _ (by omega) b5.out); have s6' := Nat.le_of_eq S6.symm; clear S6 B6 O6 P6)
      | (with_reducible refine wpList_load_at rfl 49 _ rfl _ 61 (anv l) rfl ca6 _ Try.underlying49 rfl infoC ?_))
    rw [← sqS_zero l] at cq6
    go_loopw [19] (fun s19 wr => ∃ k : Nat, k ≤ 61 ∧ s19 = .int .i64 (k : Int) ∧ VAt (w.heap.size + 1) 61 ziv wr ∧ Fz (w.heap.size + 1) 61 wr ∧ VAt (w.heap.size + 1 + 1) 61 (sqS l k) wr ∧ Fz (w.heap.size + 1 + 1) 61 wr ∧ Hid (Below w.heap.size w wr)) (fun s19 _ => 61 - (intOf s19).toNat)
    case atStart => exact ⟨0, by omega, rfl, cr6, zr6, cq6, zq6, b6⟩
    case round =>
      clear cr6 zr6 cq6 zq6 b6 s6' ct6 zt6 ca6 za6 b5 ca5 za5 cq5 zq5 cr5 zr5 ct5 zt5 s5 s5' s4' b4 cq4 zq4 cr4 zr4 ct4 zt4 b3 cq3 zq3 cr3 zr3 ct3 zt3 s3 b2 cr2 zr2 ct2 zt2 s2 b1 ct1 zt1 s1 HA HZ
      obtain ⟨k, hk, rfl, rk, fk, ak, gk, bk⟩ := hrel
      have j0 : (0 : Int) ≤ (k : Int) := Int.natCast_nonneg _
      by_cases hlt : k < 61
      · have j1 : (k : Int) < 61 := by omega
        have J1 : (k : Int) < ((61 : Nat) : Int) := by omega
        have y0 := ak k hlt
        have y1 := gk k hlt
        have h0 := HB.out k (by omega)
        have h1 := HB.out (k + 1) (by omega)
        have h2 := HB.out (k + 2) (by omega)
        have h3 := HB.out (k + 3) (by omega)
        have SQ := Lib.hid (fun w => squareOf_any (l k - l (k + 2)) (l (k + 1) - l (k + 3)) w (by omega) (by omega))
        have V : Hid (sqA l k = (l k - l (k + 2)) * (l k - l (k + 2)) + (l (k + 1) - l (k + 3)) * (l (k + 1) - l (k + 3))) := (rfl : _ = _)
        clear h0 h1 h2 h3
        go_wp2_with (first
          | (with_reducible refine wpList_index_any rfl 49 _ _ rfl 61 (anv l) (k : Int) rfl rfl 48 Try.underlying49 _ Try.underlying48 rfl infoc1 j0 J1 _ (anv_at l k) ?_)
          | (go_at_call 63; (with_reducible refine (SQ.out _).mono ?_); rw [← V.out]; rintro e w' ⟨rfl, rfl⟩))
        go_roundw
        case rel => exact ⟨k + 1, by omega, by go_num, rk.other _ _ (by omega) _, fk.set _ _, (ak.set k hlt _).congr (sqS_step l k _ rfl), gk.set _ _, Lib.hid (bk.out.setCell (by dsimp only; omega) _)⟩
        case measure => simp [intOf]; omega
      · obtain rfl : k = 61 := by omega
        have al := ak.congr (sqS_all l)
        clear ak
        go_wp2_with (first
          | (with_reducible refine wpList_load_at rfl 52 _ rfl _ 61 (sqv l) rfl al _ Try.underlying52 rfl infoI ?_)
          | (with_reducible refine wpList_store_at rfl 52 _ _ rfl _ 61 _ (sqv l) rfl rfl rk fk (fun _ _ => rfl) infoI ?_; intro w9 S9 B9 C9 Z9 O9 P9))
        refine bodyPost_ret (v := .tuple #[.agg (vls 61 (sqv l)).toArray, .int .i64 0]) ?_ rfl ⟨rfl, B9 _ _ (by omega) bk.out⟩
        have hld := load_var_at 52 _ 61 (sqv l) C9 _ Try.underlying52 rfl infoI
        simp [results, Try.results26, asAddr, Act.put, Result.andThen, hld]
  · have nz : (E0 != 0) = true := by simpa using hz
    simp only [if_neg hz] at HA ⊢
    clear hz
    go_enter Try.func26, Try.ntmps26
    go_wp2_with (first
      | (with_reducible refine wpList_box_named rfl 26 _ rfl 1 rfl 64 (fv l) rfl ?_; intro w1 N1; have s1 := N1.size; have ct1 := N1.at'; have zt1 := N1.free; have b1 : Hid (Below w.heap.size w w1) := Lib.hid N1.below; clear N1)
      | (with_reducible refine wpList_alloc_named rfl 52 rfl 2 rfl 61 (ziv) zeroI ?_; intro w2 N2; have s2 := N2.size; have ct2 := ct1.later N2.below; have zt2 := zt1.later ct1 N2.below; have cr2 := N2.at'; have zr2 := N2.free; have b2 : Hid (Below w.heap.size w w2) := Lib.hid (below_then b1.out N2.below); clear N2; rw [s1] at s2 cr2 zr2)
      | (with_reducible refine wpList_alloc_named rfl 52 rfl 4 rfl 61 (ziv) zeroI ?_; intro w3 N3; have s3 := N3.size; have ct3 := ct2.later N3.below; have zt3 := zt2.later ct2 N3.below; have cr3 := cr2.later N3.below; have zr3 := zr2.later cr2 N3.below; have cq3 := N3.at'; have zq3 := N3.free; have b3 : Hid (Below w.heap.size w w3) := Lib.hid (below_then b2.out N3.below); clear N3; rw [s2] at s3 cq3 zq3)
      | (with_reducible refine wpList_load_at rfl 26 _ rfl _ 64 (fv l) rfl ct3 _ Try.underlying26 rfl infoV ?_)
      | (go_at_call 25; (with_reducible refine (HA.out _).mono ?_); rintro e w4 ⟨rfl, hb4⟩; have ct4 := ct3.later hb4; have zt4 := zt3.later ct3 hb4; have cr4 := cr3.later hb4; have zr4 := zr3.later cr3 hb4; have cq4 := cq3.later hb4; have zq4 := zq3.later cq3 hb4; have b4 : Hid (Below w.heap.size w w4) := Lib.hid (below_then b3.out hb4); have s4' := hb4.size; rw [s3] at s4'; clear hb4)
      | (with_reducible refine wpList_alloc_named rfl 49 rfl 5 rfl 61 (zcv) zeroC ?_; intro w5 N5; have s5 := N5.size; have ct5 := ct4.later N5.below; have zt5 := zt4.later ct4 N5.below; have cr5 := cr4.later N5.below; have zr5 := zr4.later cr4 N5.below; have cq5 := cq4.later N5.below; have zq5 := zq4.later cq4 N5.below; have ca5 := N5.at'; have za5 := N5.free; have b5 : Hid (Below w.heap.size w w5) := Lib.hid (below_then b4.out N5.below); clear N5; have s5' := Nat.le_of_eq s5.symm)
      | (with_reducible refine wpList_store_at rfl 49 _ _ rfl _ 61 _ (zcv) rfl rfl ca5 za5 (fun _ _ => rfl) infoC ?_; intro w6 S6 B6 ca6 za6 O6 P6; have ct6 := O6 _ _ _ (by omega) ct5; have zt6 := P6 _ _ zt5; have cr6 := O6 _ _ _ (by omega) cr5; have zr6 := P6 _ _ zr5; have cq6 := O6 _ _ _ (by omega) cq5; have zq6 := P6 _ _ zq5; have b6 : Hid (Below w.heap.size w w6) := Lib.hid (B6 _ _ (by omega) b5.out); have s6' := Nat.le_of_eq S6.symm; clear S6 B6 O6 P6)
      | (with_reducible refine wpList_load_at rfl 52 _ rfl _ 61 (ziv) rfl cq6 _ Try.underlying52 rfl infoI ?_)
      | (with_reducible refine wpList_store_at rfl 52 _ _ rfl _ 61 _ (ziv) rfl rfl cr6 zr6 (fun _ _ => rfl) infoI ?_; intro w7 S7 B7 cr7 zr7 O7 P7; have ct7 := O7 _ _ _ (by omega) ct6; have zt7 := P7 _ _ zt6; have cq7 := O7 _ _ _ (by omega) cq6; have zq7 := P7 _ _ zq6; have ca7 := O7 _ _ _ (by omega) ca6; have za7 := P7 _ _ za6; have b7 : Hid (Below w.heap.size w w7) := Lib.hid (B7 _ _ (by omega) b6.out); have s7' := Nat.le_of_eq S7.symm; clear S7 B7 O7 P7))
    refine bodyPost_ret (v := .tuple #[.agg (vls 61 ziv).toArray, .int .i64 E0]) ?_ rfl ⟨rfl, b7.out⟩
    have hld := load_var_at 52 _ 61 (ziv) cr7 _ Try.underlying52 rfl infoI
    simp [results, Try.results26, asAddr, Act.put, Result.andThen, hld]
end Go.Proofs.Ytoieemgdkpnbfaa
