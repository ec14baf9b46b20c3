/- lists of whole numbers, traces of them -/
import Derived.Test.YtoieemgdkpnbfaaFl10
import Derived.Deep.AppendLies
import Derived.OwnWalk
import Derived.OwnWalkIn
namespace Go.Proofs.Ytoieemgdkpnbfaa
open Go.RowKit RayM
set_option linter.unusedSimpArgs false
set_option linter.unusedVariables false
def InAt (A : Option Addr) (n : Nat) (l : Nat → Int) (w : World) : Prop := 0 < n → ∃ a, A = some a ∧ ∀ i, i < n → w.cell? (a.add i) = some (.int .i64 (l i))
theorem InAt.later {A : Option Addr} {n : Nat} {l : Nat → Int} {w w' : World} (r : InAt A n l w) (hb : Below w.heap.size w w') : InAt A n l w' := fun hn => by
  obtain ⟨g, e, hc⟩ := r hn
  exact ⟨g, e, fun i hi => cell_later hb (hc i hi)⟩
theorem InAt.at {a : Addr} {n : Nat} {l : Nat → Int} {w : World} {k : Nat} (r : InAt (some a) n l w) (h : k < n) : w.cell? (a.add k) = some (.int .i64 (l k)) := by
  obtain ⟨a', e, hc⟩ := r (by omega)
  obtain rfl : a = a' := by simpa using e
  exact hc k h
theorem InAt.some {A : Option Addr} {n : Nat} {l : Nat → Int} {w : World} (r : InAt A n l w) (h : 0 < n) : ∃ a, A = some a := by
  obtain ⟨a, e, _⟩ := r h
  exact ⟨a, e⟩
theorem InAt.zero (A : Option Addr) (l : Nat → Int) (w : World) : InAt A 0 l w := fun h => absurd h (by omega)
theorem own_ints {w : World} {b : Nat} {e : TypeId} {v : Value} {n : Nat} {xs : List Value} {l : Nat → Int} (hl : ∀ i, i < n → xs[i]? = .some (.int .i64 (l i))) (h : w.ownsRow b e 1 v n xs) : ∃ A c, v = .slice A n c ∧ InAt A n l w := by
  obtain ⟨A, c, e, r⟩ := own_form h
  refine ⟨A, c, e, fun hn => ?_⟩
  obtain ⟨g, e', _, _, hc⟩ := r hn
  exact ⟨_, e', fun i hi => by rw [add_off]; exact hc _ _ (hl i hi)⟩
theorem infoJ : (Try.prog.info? 3).map (fun i => (i.zero, i.size, i.bytes)) = some (some (.int .i64 0), 1, 8) := by kernel_rfl
def mvs (l : Nat → Int) (k : Nat) : List Value := (List.range k).map fun i => Value.int .i64 (l i)
theorem mvs_succ (l : Nat → Int) (k : Nat) : mvs l (k + 1) = mvs l k ++ [.int .i64 (l k)] := by simp [mvs, List.range_succ]
theorem mvs_len (l : Nat → Int) (k : Nat) : (mvs l k).length = k := by simp [mvs]
theorem mvs_get (l : Nat → Int) (n i : Nat) (h : i < n) : (mvs l n)[i]? = some (.int .i64 (l i)) := by simp [mvs, h]
def trS (l : Nat → Int) (k i : Nat) : Int := if i < k then l i else 0
theorem trS_zero (l : Nat → Int) : trS l 0 = fun _ => 0 := by funext i; simp [trS]
theorem trS_step (l : Nat → Int) (k : Nat) (v : Value) (h : v = .float .f32 (fs (l k))) : ∀ i, i < 64 → upd (fv (trS l k)) k v i = fv (trS l (k + 1)) i := fun i _ => by
  unfold upd fv trS
  by_cases e : i = k
  · subst e; rw [if_pos rfl, if_pos (by omega), h]
  · rw [if_neg e]
    by_cases e2 : i < k
    · rw [if_pos e2, if_pos (by omega)]
    · rw [if_neg e2, if_neg (by omega)]
theorem fo_fs (n : Int) : floatOfInt .f32 n = fs n := rfl
set_option maxRecDepth 100000 in
set_option maxHeartbeats 1000000 in
theorem rTrace_any (A : Option Addr) (n c : Nat) (l : Nat → Int) (w : World) (hm : n ≤ 64) (h : InAt A n l w) :
    Calls Try.prog 47 #[.slice A n c] w fun e w' => e = .returned (.agg (vls 64 (fv (trS l n))).toArray) ∧ Below w.heap.size w w' := by
  have SF := @run_store_float Try.prog
  have FO := fo_fs
  have HX := Lib.hid h; clear h
  go_enter Try.func47, Try.ntmps47
  go_wp2_with (first
    | ((with_reducible refine wpList_alloc_named rfl 26 rfl 2 rfl 64 (fv fun _ => 0) zeroT ?_); intro w1 N1; have s1 := N1.size; have cr1 := N1.at'; have zr1 := N1.free; have b1 : Hid (Below w.heap.size w w1) := Lib.hid N1.below; clear N1)
    | ((with_reducible refine wpList_alloc_named rfl 26 rfl 3 rfl 64 (fv fun _ => 0) zeroT ?_); intro w2 N2; have s2 := N2.size; have cr2 := cr1.later N2.below; have zr2 := zr1.later cr1 N2.below; have ct2 := N2.at'; have zt2 := N2.free; have b2 : Hid (Below w.heap.size w w2) := Lib.hid (below_then b1.out N2.below); clear N2; rw [s1] at s2 ct2 zt2))
  rw [← trS_zero l] at ct2
  go_loopw [4] (fun s4 wr => ∃ k : Nat, k ≤ n ∧ s4 = .int .i64 (k : Int) ∧ VAt w.heap.size 64 (fv fun _ => 0) wr ∧ Fz w.heap.size 64 wr ∧ VAt (w.heap.size + 1) 64 (fv (trS l k)) wr ∧ Fz (w.heap.size + 1) 64 wr ∧ Hid (Below w.heap.size w wr)) (fun s4 _ => n - (intOf s4).toNat)
  case atStart => exact ⟨0, by omega, rfl, cr2, zr2, ct2, zt2, b2⟩
  case round =>
    obtain ⟨k, hk, rfl, ck, rk, tk, zk, bk⟩ := hrel
    have j0 : (0 : Int) ≤ (k : Int) := Int.natCast_nonneg _
    by_cases hlt : k < n
    · have j1 : (k : Int) < 64 := by omega
      have j2 : (k : Int) < (n : Int) := by omega
      obtain ⟨a, rfl⟩ := HX.out.some (by omega)
      have q2 := (HX.out.later bk.out).at hlt
      have q0 := tk k (by omega)
      have q1 := zk k (by omega)
      go_wp2
      go_roundw
      case rel => exact ⟨k + 1, by omega, by go_num, ck.other _ _ (by omega) _, rk.set _ _, (tk.set k (by omega) _).congr (trS_step l k _ rfl), zk.set _ _, Lib.hid (bk.out.setCell (by dsimp only; omega) _)⟩
      case measure => simp [intOf]; omega
    · obtain rfl : k = n := by omega
      have EX : Hid True := Lib.hid trivial
      clear hlt
      by_cases h6 : k < 64
      · have j1 : (k : Int) < 64 := by omega
        have j2 : ¬ (k : Int) < (k : Int) := by omega
        have cr20 := ck
        have zr20 := rk
        have ct20 := tk
        have zt20 := zk
        have b20 := bk
        clear ck rk tk zk bk
        go_wp2_with (first
          | (with_reducible refine wpList_load_at rfl 26 _ rfl _ 64 (fv (trS l k)) rfl ct20 _ Try.underlying26 rfl infoV ?_)
          | ((with_reducible refine wpList_store_at rfl 26 _ _ rfl _ 64 _ (fv (trS l k)) rfl rfl cr20 zr20 (fv_one _) infoV ?_); intro w21 S21 B21 cr21 zr21 O21 P21; have ct21 := O21 _ _ _ (by omega) ct20; have zt21 := P21 _ _ zt20; have b21 : Hid (Below w.heap.size w w21) := Lib.hid (B21 _ _ (by omega) b20.out); have s21' := Nat.le_of_eq S21.symm; clear S21 B21 O21 P21))
        refine bodyPost_ret (v := .agg (vls 64 (fv (trS l k))).toArray) ?_ rfl ⟨rfl, b21.out⟩
        have hld := load_var_at 26 _ 64 (fv (trS l k)) cr21 _ Try.underlying26 rfl infoV
        simp [results, Try.results47, asAddr, Act.put, Result.andThen, hld]
      · obtain rfl : k = 64 := by omega
        have cr20 := ck
        have zr20 := rk
        have ct20 := tk
        have zt20 := zk
        have b20 := bk
        clear ck rk tk zk bk
        go_wp2_with (first
          | (with_reducible refine wpList_load_at rfl 26 _ rfl _ 64 (fv (trS l 64)) rfl ct20 _ Try.underlying26 rfl infoV ?_)
          | ((with_reducible refine wpList_store_at rfl 26 _ _ rfl _ 64 _ (fv (trS l 64)) rfl rfl cr20 zr20 (fv_one _) infoV ?_); intro w21 S21 B21 cr21 zr21 O21 P21; have ct21 := O21 _ _ _ (by omega) ct20; have zt21 := P21 _ _ zt20; have b21 : Hid (Below w.heap.size w w21) := Lib.hid (B21 _ _ (by omega) b20.out); have s21' := Nat.le_of_eq S21.symm; clear S21 B21 O21 P21))
        refine bodyPost_ret (v := .agg (vls 64 (fv (trS l 64))).toArray) ?_ rfl ⟨rfl, b21.out⟩
        have hld := load_var_at 26 _ 64 (fv (trS l 64)) cr21 _ Try.underlying26 rfl infoV
        simp [results, Try.results47, asAddr, Act.put, Result.andThen, hld]
end Go.Proofs.Ytoieemgdkpnbfaa
