/- traces: which are right -/
import Derived.Test.YtoieemgdkpnbfaaFl2
namespace Go.Proofs.Ytoieemgdkpnbfaa
open Go.RowKit RayM
set_option linter.unusedSimpArgs false
set_option linter.unusedVariables false

/-- the first error of some, and its number -/
def ffE (g : Nat → Int) : Nat → Nat → Int
  | _, 0 => 0
  | i, m + 1 => if g i = 0 then ffE g (i + 1) m else g i
def ffI (g : Nat → Int) : Nat → Nat → Nat
  | _, 0 => 0
  | i, m + 1 => if g i = 0 then ffI g (i + 1) m else i
theorem ffE_step (g : Nat → Int) (k n : Nat) (h : k < n) : ffE g k (n - k) = if g k = 0 then ffE g (k + 1) (n - (k + 1)) else g k := by
  rw [show n - k = (n - (k + 1)) + 1 by omega]; rfl
theorem ffI_step (g : Nat → Int) (k n : Nat) (h : k < n) : ffI g k (n - k) = if g k = 0 then ffI g (k + 1) (n - (k + 1)) else k := by
  rw [show n - k = (n - (k + 1)) + 1 by omega]; rfl
theorem ffE_from (g : Nat → Int) : ∀ m i, ffE g i m = 0 ↔ ∀ j, i ≤ j → j < i + m → g j = 0
  | 0, i => ⟨fun _ j h1 h2 => by omega, fun _ => rfl⟩
  | m + 1, i => by
    show (if g i = 0 then ffE g (i + 1) m else g i) = 0 ↔ _
    by_cases h : g i = 0
    · rw [if_pos h, ffE_from g m (i + 1)]
      exact ⟨fun q j h1 h2 => by
        by_cases e : j = i
        · rw [e]; exact h
        · exact q j (by omega) (by omega), fun q j h1 h2 => q j (by omega) (by omega)⟩
    · rw [if_neg h]
      exact ⟨fun q => absurd q h, fun q => q i (by omega) (by omega)⟩
theorem ffE_zero (g : Nat → Int) (n : Nat) : ffE g 0 n = 0 ↔ ∀ j, j < n → g j = 0 := by
  rw [ffE_from]; exact ⟨fun q j h => q j (by omega) (by omega), fun q j _ h => q j (by omega)⟩
theorem ffE_congr {g h : Nat → Int} : ∀ m i, (∀ j, i ≤ j → j < i + m → g j = h j) → ffE g i m = ffE h i m
  | 0, _, _ => rfl
  | m + 1, i, e => by
    show (if g i = 0 then ffE g (i + 1) m else g i) = (if h i = 0 then ffE h (i + 1) m else h i)
    rw [e i (by omega) (by omega), ffE_congr m (i + 1) (fun j h1 h2 => e j (by omega) (by omega))]
theorem ffI_congr {g h : Nat → Int} : ∀ m i, (∀ j, i ≤ j → j < i + m → g j = h j) → ffI g i m = ffI h i m
  | 0, _, _ => rfl
  | m + 1, i, e => by
    show (if g i = 0 then ffI g (i + 1) m else i) = (if h i = 0 then ffI h (i + 1) m else i)
    rw [e i (by omega) (by omega), ffI_congr m (i + 1) (fun j h1 h2 => e j (by omega) (by omega))]
/-- samples lie in a block from its head on -/
def FlAt (b n : Nat) (l : Nat → Int) (w : World) : Prop := ∀ i, i < n → w.cell? ⟨b, i, none⟩ = some (.float .f32 (fs (l i)))
/-- samples as values, a trace -/
def fls (n : Nat) (l : Nat → Int) : List Value := (List.range n).map fun i => .float .f32 (fs (l i))
def trV (l : Nat → Int) : Value := .agg (fls 64 l).toArray
theorem fls_length (n : Nat) (l : Nat → Int) : (fls n l).length = n := by simp [fls]
theorem fls_get (n : Nat) (l : Nat → Int) (i : Nat) (h : i < n) : (fls n l)[i]? = some (.float .f32 (fs (l i))) := by simp [fls, h]
theorem FlAt.later {b n : Nat} {l : Nat → Int} {w w' : World} (r : FlAt b n l w) (hb : Below w.heap.size w w') : FlAt b n l w' := fun i hi => cell_later hb (r i hi)
theorem FlAt.range {b n : Nat} {l : Nat → Int} {w : World} (r : FlAt b n l w) : w.rangeAt b 0 (fls n l) := fun j v hv => by
  have hj : j < n := by
    have := (List.getElem?_eq_some_iff.1 hv).1
    rwa [fls_length] at this
  rw [fls_get n l j hj] at hv
  obtain rfl := Option.some.inj hv
  rw [Nat.zero_add]
  exact r j hj
theorem FlAt.new (w : World) (n : Nat) (l : Nat → Int) (t : TypeId) : FlAt w.heap.size n l (w.alloc (.cells (fls n l).toArray t)) := fun i hi => by
  rw [World.cell?_alloc_at _ _ _ _ rfl]
  simpa using fls_get n l i hi
theorem fls_congr {n : Nat} {l m : Nat → Int} (h : ∀ i, i < n → l i = m i) : fls n l = fls n m := by
  unfold fls
  refine List.map_congr_left fun i hi => ?_
  rw [h i (by simpa using hi)]
theorem trV_congr {l m : Nat → Int} (h : ∀ i, i < 64 → l i = m i) : trV l = trV m := by unfold trV; rw [fls_congr h]
set_option maxRecDepth 100000 in
set_option maxHeartbeats 1000000 in
theorem each_fl (b n c : Nat) (p : Nat → Int) (g : Nat → Int) (w : World) (hm : n ≤ 20000) (h : FlAt b n p w)
    (HC : ∀ i, i < n → ∀ W, Below w.heap.size w W → Calls Try.prog 85 #[.int .i64 (i : Int), .float .f32 (fs (p i))] W fun e w' => e = .returned (.int .i64 (g i)) ∧ Below W.heap.size W w') :
    Calls Try.prog 84 #[.slice (some ⟨b, 0, none⟩) n c, .func (.func 85) #[] #[]] w fun e w' => e = .returned (.tuple #[.int .i64 (ffI g 0 n : Nat), .int .i64 (ffE g 0 n)]) ∧ Below w.heap.size w w' := by
  have HX := Lib.hid h; have HC' := Lib.hid HC; clear h HC
  have FS := Lib.hid (ffE_step g); have IS := Lib.hid (ffI_step g)
  generalize hEq : ffE g 0 n = E0 at *
  generalize hIq : ffI g 0 n = I0 at *
  have EQ := Lib.hid hEq; have IQ := Lib.hid hIq; clear hEq hIq
  go_enter Try.func84, Try.ntmps84
  go_wp2
  go_loopw [11] (fun s11 wr => ∃ k : Nat, k ≤ n ∧ s11 = .int .i64 (k : Int) ∧ ffE g k (n - k) = E0 ∧ ffI g k (n - k) = I0 ∧ Below w.heap.size w wr) (fun s11 _ => n - (intOf s11).toNat)
  case atStart => exact ⟨0, Nat.zero_le _, rfl, EQ.out, IQ.out, Below.refl _ _⟩
  case round =>
    obtain ⟨k, hk, rfl, hE, hI, hb⟩ := hrel
    have HE := Lib.hid hE; have HI := Lib.hid hI; clear hE hI
    have sz := hb.size
    have HB := Lib.hid hb
    by_cases hlt : k < n
    · have e0 := (HX.out.later hb) k hlt
      have j0 : (0 : Int) ≤ (k : Int) := Int.natCast_nonneg _
      have j1 : (k : Int) < (n : Int) := by omega
      have j8 : (k : Int) < 20000 := by omega
      clear hb
      have HL := Lib.hid (fun W => HC'.out k hlt W)
      by_cases hg : g k = 0
      · have HG := Lib.hid hg
        rw [hg] at HL
        clear hg
        go_wp2_with fail
        refine (HL.out _ (by (repeat (first | (with_reducible exact HB.out) | (with_reducible refine Below.setCell ?_ ?_ _) | (with_reducible refine below_alloc_top ?_ _) | (with_reducible refine Below.drew ?_))); all_goals (first | omega | (simp; done) | (simp; omega)))).mono ?_
        rintro e w5 ⟨rfl, hb5⟩
        have H5 : Hid (Below w.heap.size w w5) := Lib.hid (below_then (by (repeat (first | (with_reducible exact HB.out) | (with_reducible refine Below.setCell ?_ ?_ _) | (with_reducible refine below_alloc_top ?_ _) | (with_reducible refine Below.drew ?_))); all_goals (first | omega | (simp; done) | (simp; omega))) hb5)
        clear hb5
        go_wp2
        go_roundw
        case rel => exact ⟨k + 1, by omega, by go_num, by rw [← HE.out, FS.out k n hlt, if_pos HG.out], by rw [← HI.out, IS.out k n hlt, if_pos HG.out], H5.out⟩
        case measure => simp [intOf]; omega
      · have n1 : (g k != 0) = true := by simpa using hg
        have EE : Hid (E0 = g k) := by show _ = _; rw [← HE.out, FS.out k n hlt, if_neg hg]
        have II : Hid (I0 = k) := by show _ = _; rw [← HI.out, IS.out k n hlt, if_neg hg]
        clear hg
        go_wp2_with fail
        refine (HL.out _ (by (repeat (first | (with_reducible exact HB.out) | (with_reducible refine Below.setCell ?_ ?_ _) | (with_reducible refine below_alloc_top ?_ _) | (with_reducible refine Below.drew ?_))); all_goals (first | omega | (simp; done) | (simp; omega)))).mono ?_
        rintro e w5 ⟨rfl, hb5⟩
        have H5 : Hid (Below w.heap.size w w5) := Lib.hid (below_then (by (repeat (first | (with_reducible exact HB.out) | (with_reducible refine Below.setCell ?_ ?_ _) | (with_reducible refine below_alloc_top ?_ _) | (with_reducible refine Below.drew ?_))); all_goals (first | omega | (simp; done) | (simp; omega))) hb5)
        clear hb5
        go_wp2
        go_ret2
        exact ⟨by rw [EE.out, II.out]; rfl, H5.out⟩
    · have hk' : k = n := by omega
      have hE0 : E0 = 0 := by rw [← HE.out, hk', Nat.sub_self]; rfl
      have hI0 : I0 = 0 := by rw [← HI.out, hk', Nat.sub_self]; rfl
      have HE0 := Lib.hid hE0; have HI0 := Lib.hid hI0
      have kk : decide ((k : Int) < (n : Int)) = false := by simp; omega
      clear hE0 hI0 hk'
      go_wp2
      go_ret2
      exact ⟨by rw [HE0.out, HI0.out]; rfl, HB.out⟩
/-- the error of a trace, and its place -/
def ctE (l : Nat → Int) : Int := ffE (fun i => smE (l i)) 0 64
def ctI (l : Nat → Int) : Nat := ffI (fun i => smE (l i)) 0 64
/-- no sample of a trace is beyond reach -/
def Few (l : Nat → Int) : Prop := ∀ i, i < 64 → (l i).natAbs < 8192
theorem ctE_zero (l : Nat → Int) : ctE l = 0 ↔ ∀ i, i < 64 → -2047 ≤ l i ∧ l i ≤ 2047 := by
  unfold ctE
  rw [ffE_zero]
  exact ⟨fun h i hi => (unl_inB _ _ _ _ (by decide)).1 (h i hi), fun h i hi => (unl_inB _ _ _ _ (by decide)).2 (h i hi)⟩
set_option maxRecDepth 100000 in
set_option maxHeartbeats 1000000 in
theorem checkTrace_any (l : Nat → Int) (hl : Few l) (w : World) :
    Calls Try.prog 78 #[trV l] w fun e w' => e = .returned (.tuple #[.int .i64 (ctI l), .int .i64 (ctE l)]) ∧ Below w.heap.size w w' := by
  unfold trV
  have hf := FlAt.new w 64 l 26
  have EA := Lib.hid (fun b w h => each_fl b 64 64 l (fun i => smE (l i)) w (by omega) h (fun i hi W _ => sampleErr_any i (l i) W (hl i hi)))
  have hB : Below w.heap.size w (w.alloc (.cells (fls 64 l).toArray 26)) := (Below.refl _ _).alloc (Nat.le_refl _) _
  unfold ctI ctE
  generalize hE : ffE (fun i => smE (l i)) 0 64 = E0 at *
  generalize hI : ffI (fun i => smE (l i)) 0 64 = I0 at *
  clear hE hI
  go_enter Try.func78, Try.ntmps78
  go_wp2_with (go_at_call 84; (with_reducible refine (EA.out _ _ hf).mono ?_); rintro e w' ⟨rfl, hb⟩)
  go_ret2
  exact ⟨rfl, below_then hB hb⟩
theorem infoT (l : Nat → Int) : (Try.prog.info? 26).map (·.size) = some (fls 64 l).length := by rw [fls_length]; kernel_rfl
theorem below_new (w : World) (o : Obj) : Below w.heap.size w (w.alloc o) := (Below.refl _ _).alloc (Nat.le_refl _) _
set_option maxRecDepth 100000 in
set_option maxHeartbeats 1000000 in
theorem traceErr_any (l : Nat → Int) (hl : Few l) (w : World) :
    Calls Try.prog 51 #[trV l] w fun e w' => e = .returned (.int .i64 (ctE l)) ∧ Below w.heap.size w w' := by
  have HC := Lib.hid (fun w => checkTrace_any l hl w)
  have hf := FlAt.new w 64 l 26
  have hB := below_new w (.cells (fls 64 l).toArray 26)
  unfold trV at *
  generalize ctE l = E0 at *
  go_enter Try.func51, Try.ntmps51
  go_wp2_with (first | (with_reducible refine wpList_load_mid rfl 26 _ rfl _ 0 rfl (fls 64 l) _ hf.range Try.underlying26 rfl (infoT l) ?_) | (go_at_call 78; (with_reducible refine (HC.out _).mono ?_); rintro e w' ⟨rfl, hb⟩))
  go_ret
  exact ⟨rfl, below_then hB hb⟩
end Go.Proofs.Ytoieemgdkpnbfaa
