/- the delays of moments: a function over which a loop ranges -/
import Derived.Test.YtnckfbejgkdhhaaGreatDoorV0
import Derived.RangeFuncBox
import Derived.RangeFuncNested
import Derived.RangeFuncBound
import Derived.RangeFuncCalls
import Derived.RangeFuncLeaves
import Derived.Shelf.Abstract
import Derived.Shelf.RegionOpen
import Derived.WalkKit
import Derived.OwnWalkIn
import Derived.TacticsInMore
import Derived.LoopNIn
import Derived.LoopIn
namespace Go.Proofs.YtnckfbejgkdhhaaGreatDoor
open Go.RowKit Go.Shelf RayM
set_option linter.unusedSimpArgs false
set_option linter.unusedVariables false

attribute [local go_sem] Oper.semAt_some
/-- what has come when k rounds are over -/
def upto (f : Nat → Int) (k : Nat) : List Int := (List.range k).map f
theorem upto_succ (f : Nat → Int) (k : Nat) : upto f (k + 1) = upto f k ++ [f k] := by simp [upto, List.range_succ]
theorem upto_length (f : Nat → Int) (k : Nat) : (upto f k).length = k := by simp [upto]
/-- what a round of the delays' loop keeps: what lay below, and the clock's box -/
def KpD (n₀ Bt : Nat) (W W' : World) : Prop := Below n₀ W W' ∧ W'.heap[Bt]? = W.heap[Bt]?
theorem KpD.refl (n₀ Bt : Nat) (W : World) : KpD n₀ Bt W W := ⟨Below.refl _ _, rfl⟩
theorem KpD.trans {n₀ Bt : Nat} {A B C : World} (h : KpD n₀ Bt A B) (k : KpD n₀ Bt B C) : KpD n₀ Bt A C := ⟨h.1.trans k.1, k.2.trans h.2⟩
theorem KpD.tick {n₀ Bt : Nat} {A B : World} (h : KpD n₀ Bt A B) {v : Value} (e : A.cell? ⟨Bt, 0, none⟩ = some v) : B.cell? ⟨Bt, 0, none⟩ = some v := by
  have h2 := h.2
  unfold World.cell? at e ⊢
  rw [h2]; exact e
theorem KpD.put {n₀ Bt : Nat} {w : World} (hn : n₀ ≤ w.heap.size) (ht : Bt < w.heap.size) (W : World) (l : Nat) (o o' : Obj) (h : w.heap.size ≤ l) (hl : W.heap[l]? = some o) (hc : o.isCells = false) (hw : o.isWalk = false) : KpD n₀ Bt W (W.putObj l o') :=
  ⟨belowK_b hn W l o o' h hl hc hw, World.putObj_heap_other (by omega)⟩
/-- the delay of a moment behind the first one, in ticks -/
def dly (l : Nat → Int) (n : Nat) (t : Int) (i : Nat) : Int := (2 * (l i - mnL l n) + t) / (2 * t)
set_option maxRecDepth 100000 in
set_option maxHeartbeats 1000000 in
theorem delays1_in (l Bm Bt n₀ : Nat) (A : Option Addr) (n c : Nat) (ms : Nat → Int) (t : Int) (hn : 0 < n) (hm : n ≤ 1000) (hb : ∀ a, A = some a → a.block < n₀)
    (hl : ∀ i, i < n → -100000000000000000 ≤ ms i ∧ ms i ≤ 100000000000000000) (t0 : 1 ≤ t) (t1 : t ≤ 100000000000000000) (J Jx : List Int → World → Prop) (N : Nat) (hN : 1 ≤ N)
    (hY : ∀ pre x W, J pre W → pre.length < n → YieldAt Fence.wide (N - 1) Tryz.prog l #[.int .i64 x] W fun e W' =>
      (e = .returned (.bool true) ∧ J (pre ++ [x]) W' ∧ KpD n₀ Bt W W') ∨ (e = .returned (.bool false) ∧ Jx (pre ++ [x]) W'))
    (W : World) (hBm : W.cell? ⟨Bm, 0, none⟩ = some (.slice A n c)) (hBt : W.cell? ⟨Bt, 0, none⟩ = some (.int .i64 t)) (hI : InAt A n ms W) (h0 : J [] W) :
    CallsIn Fence.wide N Tryz.prog 91 #[.func (.yield l) #[] #[], .pointer (some ⟨Bm, 0, none⟩), .pointer (some ⟨Bt, 0, none⟩)] W fun e W' => (∃ v, e = .returned v) ∧
      ((∃ ys, ys = upto (dly ms n t) n ∧ J ys W') ∨ (∃ pre, (∃ k, k ≤ n ∧ pre = upto (dly ms n t) k) ∧ Jx pre W')) := by
  obtain ⟨a, rfl⟩ := hI.some hn
  have hab := hb a rfl
  have mn1 := mnL_mem ms n hn
  obtain ⟨im, him, hmn⟩ := mn1
  have hmb := hl im him
  rw [← hmn] at hmb
  have MIN := Lib.hid (fun w h => min_any (some a) n c ms w hn hm h)
  have DF : Hid (∀ i, dly ms n t i = (2 * (ms i - mnL ms n) + t) / (2 * t)) := fun i => rfl
  generalize mnL ms n = mn at *
  generalize dly ms n t = f at *
  have HI := Lib.hid hI; have HL := Lib.hid hl
  clear hI hl hmn him
  have n0 : (0 : Int) < (n : Int) := by omega
  refine callsIn_of_wp Tryz.func91 rfl trivial ?_ rfl
  simp only [Tryz.ntmps91, List.size_toArray, List.length_cons, List.length_nil, Nat.reduceAdd, Nat.reduceSub, Array.replicate_succ, Array.replicate_zero, List.push_toArray, List.append_toArray, List.nil_append, List.cons_append]
  gi_wp2_with (refine ⟨trivial, ?_⟩; gi_at_call 92; refine (callsIn_wide.2 (MIN.out _ (by exact HI.out))).mono ?_; rintro e w' ⟨rfl, rfl⟩)
  gi_loopw [11] (fun i wr => ∃ k : Nat, k ≤ n ∧ i = .int .i64 (k : Int) ∧ J (upto f k) wr ∧ KpD n₀ Bt W wr) (fun i _ => n - (intOf i).toNat)
  case atStart => exact ⟨0, Nat.zero_le _, rfl, h0, KpD.refl _ _ _⟩
  case round =>
    obtain ⟨k, hk, rfl, hJs, hnx⟩ := hrel
    by_cases hlt : k < n
    · have hcx : wr.cell? (a.add k) = some (.int .i64 (ms k)) := (hnx.1.cell (p := a.add k) (by show (a.add k).block < n₀; unfold Addr.add; split <;> exact hab)).trans (HI.out.at hlt)
      have htx : wr.cell? ⟨Bt, 0, none⟩ = some (.int .i64 t) := hnx.tick hBt
      have hk1 := HL.out k hlt
      have e1 : IntKind.i64.wrap (ms k - mn) = ms k - mn := IntWalk.i64_in _ (by omega)
      have j0 : (0 : Int) ≤ (k : Int) := Int.natCast_nonneg _
      have j1 : (k : Int) < (n : Int) := by omega
      have NE := Lib.hid (fun w => nearest_any (ms k - mn) t w (by omega) (by omega) (by omega) (by omega))
      rw [← DF.out k] at NE
      obtain ⟨fn, tmps, assign, body, hy, hR⟩ := hY _ (f k) wr hJs (by rw [upto_length]; exact hlt)
      gi_wp2_with (refine ⟨trivial, ?_⟩; gi_at_call 93; refine (callsIn_wide.2 (NE.out _)).mono ?_; rintro e w' ⟨rfl, rfl⟩)
      refine hR.mono ?_
      rintro e W3 (⟨rfl, hJ3, hk3⟩ | ⟨rfl, hJx3⟩)
      · gi_wp2
        go_roundw
        case rel => exact ⟨k + 1, by omega, by go_num, by rw [upto_succ]; exact hJ3, hnx.trans hk3⟩
        case measure => simp [intOf]; omega
      · gi_wp2
        refine bodyPost_ret (results_none rfl _ _ _) rfl ?_
        exact ⟨⟨_, rfl⟩, .inr ⟨_, ⟨k + 1, by omega, (upto_succ _ _).symm⟩, hJx3⟩⟩
    · obtain rfl : k = n := by omega
      gi_wp2
      go_end0
      exact ⟨⟨_, rfl⟩, .inl ⟨_, rfl, hJs⟩⟩
set_option maxRecDepth 100000 in
set_option maxHeartbeats 1000000 in
theorem delays_any (N0 : Nat) (A : Option Addr) (n c : Nat) (t : Int) (w : World) :
    CallsIn Fence.wide N0 Tryz.prog 70 #[.slice A n c, .int .i64 t] w fun e w' => e = .returned (.func (.func 91) #[] #[.pointer (some ⟨w.heap.size, 0, none⟩), .pointer (some ⟨w.heap.size + 1, 0, none⟩)]) ∧ w' = (w.alloc (.cells #[.slice A n c] 22)).alloc (.cells #[.int .i64 t] 3) := by
  refine callsIn_of_wp Tryz.func70 rfl trivial ?_ rfl
  simp only [Tryz.ntmps70, List.size_toArray, List.length_cons, List.length_nil, Nat.reduceAdd, Nat.reduceSub, Array.replicate_succ, Array.replicate_zero, List.push_toArray, List.append_toArray, List.nil_append, List.cons_append]
  gi_wp2
  go_ret
  exact ⟨rfl, rfl⟩
theorem delays_stops (N : Nat) (hN : 1 ≤ N) (Bm Bt n₀ : Nat) (A : Option Addr) (n c : Nat) (ms : Nat → Int) (t : Int) (hn : 0 < n) (hm : n ≤ 1000) (hb : ∀ a, A = some a → a.block < n₀)
    (hl : ∀ i, i < n → -100000000000000000 ≤ ms i ∧ ms i ≤ 100000000000000000) (t0 : 1 ≤ t) (t1 : t ≤ 100000000000000000) (w : World) (hBm : w.cell? ⟨Bm, 0, none⟩ = some (.slice A n c)) (hBt : w.cell? ⟨Bt, 0, none⟩ = some (.int .i64 t)) (hI : InAt A n ms w) :
    SeqStopsK Fence.wide N Tryz.prog 91 #[.pointer (some ⟨Bm, 0, none⟩), .pointer (some ⟨Bt, 0, none⟩)] (fun x : Int => #[Value.int .i64 x]) (KpD n₀ Bt) (fun ys => ys = upto (dly ms n t) n) (fun pre => ∃ k, k ≤ n ∧ pre = upto (dly ms n t) k) n w := fun l J Jx W hW _ _ hY h0 =>
  delays1_in l Bm Bt n₀ A n c ms t hn hm hb hl t0 t1 J Jx N hN hY W (cell_later hW hBm) (cell_later hW hBt) (hI.later hW) h0
end Go.Proofs.YtnckfbejgkdhhaaGreatDoor
