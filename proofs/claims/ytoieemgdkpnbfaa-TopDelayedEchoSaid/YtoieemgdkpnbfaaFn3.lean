/- regions that draw their order: free variables and stores of whole arrays -/
import Derived.Test.YtoieemgdkpnbfaaFlN
import Derived.Deep.RegionHeld3
namespace Go.Proofs.Ytoieemgdkpnbfaa
open Go.RowKit RayM
set_option linter.unusedSimpArgs false
set_option linter.unusedVariables false
section
variable {P : Program} {ops : Array Oper} {Q : Exit → Act → World → Prop} {md : Region.Mode} {S : World → Prop}
theorem wp_alloc_one {op : Oper} {a : Act} {w : World} {K : Act → World → Prop} {Q : Exit → Act → World → Prop} (t : TypeId) (ho : op.op = .alloc t)
    (n : Nat) (f : Nat → Value) (hz : (P.info? t).map (fun i => (i.zero, i.size)) = some (some (.agg (vls n f).toArray), n))
    (h : ∀ w0, New w w0 n f → K (a.put op.dst (.pointer (some ⟨w.heap.size, 0, none⟩))) w0) : op.wp P a w K Q := by
  unfold Oper.wp execOp
  have hr : (zeroValue t).run P w = .ok (.agg (vls n f).toArray) w := by
    cases hq : P.info? t with
    | none => simp [hq] at hz
    | some i =>
      simp [hq] at hz
      simp [zeroValue, typeInfo, hq, hz.1]
  simp only [ho]
  have hi : (Instr.alloc t true (.tuple #[])).run P w = .ok (.pointer (some ⟨w.heap.size, 0, none⟩)) (w.alloc (.cells (vls n f).toArray t)) := by
    simp [Instr.alloc, hr, Result.andThen, newVar, newRow, Value.cells, newObj, Sem.run, go_sem]
  simp only [Sem.run_bind, Sem.run_pure, Result.andThen_ok, hi]
  exact h _ (New.mk' _ _ _ _)
/-- take an operation first, its slot named -/
theorem takeH {i d : Nat} {oi : Oper} {v : Value} {fuel : Nat} {listed : Array Bool} {a : Act} {w : World} (hi : ops[i]? = some oi) (hd : oi.dst = some d)
    (hs : Region.noSelect ops = true) (hf : Region.free md ops listed i = true) (hr : (Region.ready md ops listed).contains i = true)
    (hQ : ∀ c a w, Q (.panic c) (a.put oi.dst v) w → Q (.panic c) a w) (hy : YieldsIf P ops S oi v a) (hS : S w)
    (h : wpAnyH P md ops Q S fuel (listed.setIfInBounds i true) (a.put (some d) v) w) : wpAnyH P md ops Q S (fuel + 1) listed a w :=
  wpAnyH_take hi hs hf hr hQ hy hS (by rw [hd]; exact h)
/-- a free variable, in a region that draws its order -/
theorem ready_alloc {fuel : Nat} {listed : Array Bool} {a : Act} {w : World} {i : Nat} {o : Oper} {rs : List Nat} (ho : ops[i]? = some o) (hw : Region.wanted o (yielded ops a.tmps) = true)
    (t : TypeId) (hop : o.op = .alloc t) (d : Nat) (hd : o.dst = some d) (n : Nat) (f : Nat → Value) (hz : (P.info? t).map (fun i => (i.zero, i.size)) = some (some (.agg (vls n f).toArray), n))
    (h : ∀ w0, New w w0 n f → S w0 ∧ wpAnyH P md ops Q S fuel (listed.setIfInBounds i true) (a.put (some d) (.pointer (some ⟨w.heap.size, 0, none⟩))) w0)
    (hs : AllReadyH P md ops Q S fuel listed a w rs) : AllReadyH P md ops Q S fuel listed a w (i :: rs) :=
  AllReadyH.cons ho (fun K hK => by
    rw [if_pos hw]
    exact wp_alloc_one t hop n f hz (fun w0 N => by rw [hd]; exact hK.out _ _ (h w0 N).1 (fun _ => (h w0 N).2))) hs
/-- a whole array that is stored, in a region that draws its order -/
theorem ready_store {fuel : Nat} {listed : Array Bool} {a : Act} {w : World} {i : Nat} {o : Oper} {rs : List Nat} (ho : ops[i]? = some o) (hw : Region.wanted o (yielded ops a.tmps) = true)
    (t : TypeId) (x y : Operand) (hop : o.op = .store t x y) (hd : o.dst = none) (b n : Nat) (f g : Nat → Value) (hx : a.eval x = .pointer (some ⟨b, 0, none⟩)) (hy : a.eval y = .agg (vls n g).toArray) (c : VAt b n f w) (z : Fz b n w) (h1 : ∀ i, i < n → (g i).oneCell' = true) (hi : (P.info? t).map (·.size) = some n)
    (h : ∀ w0, w0.heap.size = w.heap.size → (∀ B W, B ≤ b → Below B W w → Below B W w0) → VAt b n g w0 → Fz b n w0 → (∀ b' n' f', b' ≠ b → VAt b' n' f' w → VAt b' n' f' w0) → (∀ b' n', Fz b' n' w → Fz b' n' w0) → S w0 ∧ wpAnyH P md ops Q S fuel (listed.setIfInBounds i true) a w0)
    (hs : AllReadyH P md ops Q S fuel listed a w rs) : AllReadyH P md ops Q S fuel listed a w (i :: rs) :=
  AllReadyH.cons ho (fun K hK => by
    rw [if_pos hw]
    refine wp_store_mid t x y hop b 0 (vls n g).toArray hx hy (by simpa [vls_length] using c.there z) (by simpa [vls_length] using hi) (vls_one h1) ?_
    have k := h (w.setCells b 0 (vls n g).toArray.toList) (World.heap_size_setCells ..) (fun B W hB hb => below_setCells' b hB _ _ _ hb) (by simpa using c.sets z g) (by simpa using z.sets b 0 _) (fun b' n' f' hne c' => by simpa using c'.sets_other _ hne) (fun b' n' z' => z'.sets _ _ _)
    rw [hd]
    exact hK.out _ _ k.1 (fun _ => k.2)) hs
end
end Go.Proofs.Ytoieemgdkpnbfaa
