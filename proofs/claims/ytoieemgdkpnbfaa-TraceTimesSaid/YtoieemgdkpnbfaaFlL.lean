/- whole arrays in a walk: a cell of a value, a new variable -/
import Derived.Test.YtoieemgdkpnbfaaFl3
namespace Go.Proofs.Ytoieemgdkpnbfaa
open Go.RowKit RayM
set_option linter.unusedSimpArgs false
set_option linter.unusedVariables false

/-- some values, in order -/
def vls (n : Nat) (f : Nat → Value) : List Value := (List.range n).map f
theorem vls_length (n : Nat) (f : Nat → Value) : (vls n f).length = n := by simp [vls]
theorem vls_get (n : Nat) (f : Nat → Value) (i : Nat) (h : i < n) : (vls n f)[i]? = some (f i) := by simp [vls, h]
/-- values lie in a block from its head on; its cells may be written -/
def VAt (b n : Nat) (f : Nat → Value) (w : World) : Prop := ∀ i, i < n → w.cell? ⟨b, i, none⟩ = some (f i)
def Fz (b n : Nat) (w : World) : Prop := ∀ i, i < n → w.frozen? ⟨b, i, none⟩ = false
def upd (f : Nat → Value) (i : Nat) (v : Value) (j : Nat) : Value := if j = i then v else f j
theorem VAt.later {b n : Nat} {f : Nat → Value} {w w' : World} (r : VAt b n f w) (hb : Below w.heap.size w w') : VAt b n f w' := fun i hi => cell_later hb (r i hi)
theorem Fz.later {b n : Nat} {f : Nat → Value} {w w' : World} (r : Fz b n w) (c : VAt b n f w) (hb : Below w.heap.size w w') : Fz b n w' := fun i hi => frozen_after hb (c i hi) (r i hi)
theorem VAt.range {b n : Nat} {f : Nat → Value} {w : World} (r : VAt b n f w) : w.rangeAt b 0 (vls n f) := fun j v hv => by
  have hj : j < n := by
    have := (List.getElem?_eq_some_iff.1 hv).1
    rwa [vls_length] at this
  rw [vls_get n f j hj] at hv
  obtain rfl := Option.some.inj hv
  rw [Nat.zero_add]
  exact r j hj
theorem VAt.of_range {b n : Nat} {f : Nat → Value} {w : World} (r : w.rangeAt b 0 (vls n f)) : VAt b n f w := fun i hi => by
  have := r i _ (vls_get n f i hi)
  rwa [Nat.zero_add] at this
theorem VAt.there {b n : Nat} {f : Nat → Value} {w : World} (r : VAt b n f w) (z : Fz b n w) : w.there b 0 n := fun j hj => by
  rw [Nat.zero_add]
  exact ⟨by rw [r j hj]; rfl, z j hj⟩
theorem VAt.new (w : World) (n : Nat) (f : Nat → Value) (t : TypeId) : VAt w.heap.size n f (w.alloc (.cells (vls n f).toArray t)) := fun i hi => by
  rw [World.cell?_alloc_at _ _ _ _ rfl]
  simpa using vls_get n f i hi
theorem Fz.new (w : World) (n : Nat) (o : Obj) (h : ∃ c t, o = .cells c t) : Fz w.heap.size n (w.alloc o) := fun i hi => by
  obtain ⟨c, t, rfl⟩ := h
  simp [go_sem]
theorem VAt.alloc {b n : Nat} {f : Nat → Value} {w : World} (r : VAt b n f w) (o : Obj) : VAt b n f (w.alloc o) := fun i hi => cell_alloc_later (r i hi) o
theorem Fz.alloc {b n : Nat} {f : Nat → Value} {w : World} (r : Fz b n w) (c : VAt b n f w) (o : Obj) : Fz b n (w.alloc o) := fun i hi => frozen_alloc_later (c i hi) (r i hi) o
theorem VAt.set {b n : Nat} {f : Nat → Value} {w : World} (r : VAt b n f w) (i : Nat) (hi : i < n) (v : Value) : VAt b n (upd f i v) (w.setCell ⟨b, i, none⟩ v) := fun j hj => by
  unfold upd
  by_cases h : j = i
  · subst h; rw [if_pos rfl]; exact setS (r j hj)
  · rw [if_neg h]; exact setO (.inr h) (r j hj)
theorem VAt.other {b n : Nat} {f : Nat → Value} {w : World} (r : VAt b n f w) (b' i : Nat) (hb : b ≠ b') (v : Value) : VAt b n f (w.setCell ⟨b', i, none⟩ v) := fun j hj => setO (.inl hb) (r j hj)
theorem Fz.set {b n : Nat} {w : World} (r : Fz b n w) (a : Addr) (v : Value) : Fz b n (w.setCell a v) := fun j hj => by rw [World.frozen?_setCell]; exact r j hj
theorem VAt.sets {b n : Nat} {f : Nat → Value} {w : World} (r : VAt b n f w) (z : Fz b n w) (g : Nat → Value) : VAt b n g (w.setCells b 0 (vls n g)) :=
  VAt.of_range (World.rangeAt_setCells_same _ _ _ _ (by rw [vls_length]; exact r.there z))
theorem VAt.sets_other {b n b' : Nat} {f : Nat → Value} {w : World} (r : VAt b n f w) (vs : List Value) (h : b ≠ b') : VAt b n f (w.setCells b' 0 vs) :=
  VAt.of_range (World.rangeAt_setCells_apart r.range _ _ _ (.inl h))
theorem Fz.sets {b n : Nat} {w : World} (r : Fz b n w) (b' o : Nat) (vs : List Value) : Fz b n (w.setCells b' o vs) := fun j hj => by rw [World.frozen?_setCells]; exact r j hj
theorem World.heap_size_setCells (b : Nat) : ∀ (vs : List Value) (o : Nat) (w : World), (w.setCells b o vs).heap.size = w.heap.size
  | [], _, _ => rfl
  | v :: vs, o, w => by rw [World.setCells, World.heap_size_setCells b vs]; simp [go_sem]
theorem below_setCells' {B : Nat} {w : World} (b : Nat) (h : B ≤ b) : ∀ (vs : List Value) (o : Nat) (w' : World), Below B w w' → Below B w (w'.setCells b o vs)
  | [], _, _, hb => hb
  | v :: vs, o, w', hb => by
    rw [World.setCells]
    exact below_setCells' b h vs (o + 1) _ (hb.setCell (by dsimp only; omega) v)
theorem below_setCells {B : Nat} {w : World} (b : Nat) (h : B ≤ b) : ∀ (vs : List Value) (o : Nat) (w' : World), Below B w w' → Below B w (w'.setCells b o vs)
  | [], _, _, hb => hb
  | v :: vs, o, w', hb => by
    rw [World.setCells]
    exact below_setCells b h vs (o + 1) _ (hb.setCell (by dsimp only; omega) v)
theorem VAt.drew {b n : Nat} {f : Nat → Value} {w : World} (r : VAt b n f w) : VAt b n f w.drew := fun i hi => by simpa [go_sem] using r i hi
theorem Fz.drew {b n : Nat} {w : World} (r : Fz b n w) : Fz b n w.drew := fun i hi => by simpa [go_sem] using r i hi
theorem vls_congr {n : Nat} {f g : Nat → Value} (h : ∀ i, i < n → f i = g i) : vls n f = vls n g := by
  unfold vls
  refine List.map_congr_left fun i hi => ?_
  rw [h i (by simpa using hi)]
theorem VAt.congr {b n : Nat} {f g : Nat → Value} {w : World} (r : VAt b n f w) (h : ∀ i, i < n → f i = g i) : VAt b n g w := fun i hi => by rw [r i hi, h i hi]
theorem vls_one {n : Nat} {f : Nat → Value} (h : ∀ i, i < n → (f i).oneCell' = true) : (vls n f).toArray.all (·.oneCell') = true :=
  all_oneCell_toArray (fun v hv => by
    unfold vls at hv
    obtain ⟨i, hi, rfl⟩ := List.mem_map.1 hv
    exact h i (by simpa using hi))
section
variable {P : Program}
/-- a cell of an array by value -/
theorem wpList_index_any {ops : Array Oper} {rest : List Oper} {op : Oper} {a : Act} {w : World} {Q : Exit → Act → World → Prop} (hgd : op.guard = none) (t : TypeId) (x y : Operand) (ho : op.op = .index t x y)
    (n : Nat) (f : Nat → Value) (k : Int) (hx : a.eval x = .agg (vls n f).toArray) (hy : a.eval y = .int .i64 k) (e : TypeId) (hu : P.underlying t = some (.array n e)) (d : TypeDesc) (he : P.underlying e = some d) (hd : d.isRow = false) (hs : (P.info? e).map (·.size) = some 1)
    (h0 : 0 ≤ k) (hn : k < n) (v : Value) (hv0 : f k.toNat = v) (h : wpList P ops Q rest (a.put op.dst v) w) : wpList P ops Q (op :: rest) a w := by
  subst hv0
  refine wpList_plain hgd fun _ hK => ?_
  unfold Oper.wp execOp
  have hv : (vls n f)[k.toNat]? = some (f k.toNat) := vls_get n f k.toNat (by omega)
  have hag : (isAgg e).run P w = .ok false w := by
    unfold isAgg
    rw [Sem.run_bind, run_underlying he w]
    cases d <;> simp_all
  have hsz : (sizeOf e).run P w = .ok 1 w := by
    cases hq : P.info? e with
    | none => simp [hq] at hs
    | some i => 
      have : i.size = 1 := by simpa [hq] using hs
      simp [sizeOf, typeInfo, hq, this]
  have hi : (Instr.index t (.agg (vls n f).toArray) (.int .i64 k)).run P w = .ok (f k.toNat) w := by
    simp [Instr.index, asIntOf, run_underlying hu, Result.andThen, h0, hn, hsz, part, hag, hv]
  simp only [ho, hx, hy, Sem.run_bind, Sem.run_pure, Result.andThen_ok, hi]
  exact hK _ _ h
/-- a cell of an array by value -/
theorem wpList_index_lit {ops : Array Oper} {rest : List Oper} {op : Oper} {a : Act} {w : World} {Q : Exit → Act → World → Prop} (hgd : op.guard = none) (t : TypeId) (x y : Operand) (ho : op.op = .index t x y)
    (n : Nat) (c : Array Value) (k : Int) (hx : a.eval x = .agg c) (hy : a.eval y = .int .i64 k) (e : TypeId) (hu : P.underlying t = some (.array n e)) (d : TypeDesc) (he : P.underlying e = some d) (hd : d.isRow = false) (hs : (P.info? e).map (·.size) = some 1)
    (h0 : 0 ≤ k) (hn : k < n) (v : Value) (hv : c[k.toNat]? = some v) (h : wpList P ops Q rest (a.put op.dst v) w) : wpList P ops Q (op :: rest) a w := by
  refine wpList_plain hgd fun _ hK => ?_
  unfold Oper.wp execOp
  have hag : (isAgg e).run P w = .ok false w := by
    unfold isAgg
    rw [Sem.run_bind, run_underlying he w]
    cases d <;> simp_all
  have hsz : (sizeOf e).run P w = .ok 1 w := by
    cases hq : P.info? e with
    | none => simp [hq] at hs
    | some i => 
      have : i.size = 1 := by simpa [hq] using hs
      simp [sizeOf, typeInfo, hq, this]
  have hi : (Instr.index t (.agg c) (.int .i64 k)).run P w = .ok v w := by
    simp [Instr.index, asIntOf, run_underlying hu, Result.andThen, h0, hn, hsz, part, hag, hv]
  simp only [ho, hx, hy, Sem.run_bind, Sem.run_pure, Result.andThen_ok, hi]
  exact hK _ _ h
/-- a new variable -/
theorem wpList_alloc_any {ops : Array Oper} {rest : List Oper} {op : Oper} {a : Act} {w : World} {Q : Exit → Act → World → Prop} (hgd : op.guard = none) (t : TypeId) (ho : op.op = .alloc t)
    (n : Nat) (f : Nat → Value) (hz : (P.info? t).map (fun i => (i.zero, i.size)) = some (some (.agg (vls n f).toArray), n))
    (h : wpList P ops Q rest (a.put op.dst (.pointer (some ⟨w.heap.size, 0, none⟩))) (w.alloc (.cells (vls n f).toArray t))) : wpList P ops Q (op :: rest) a w := by
  refine wpList_plain hgd fun _ hK => ?_
  unfold Oper.wp execOp
  have hr : (zeroValue t).run P w = .ok (.agg (vls n f).toArray) w := by
    cases hq : P.info? t with
    | none => simp [hq] at hz
    | some i =>
      simp [hq] at hz
      simp [zeroValue, typeInfo, hq, hz.1]
  simp only [ho]
  have hi : (Instr.alloc t true (.tuple #[])).run P w = .ok (.pointer (some ⟨w.heap.size, 0, none⟩)) (w.alloc (.cells (vls n f).toArray t)) := by
    simp [Instr.alloc, hr, Result.andThen, newVar, newRow, Value.cells, newObj, Sem.run, go_sem]
  simp only [Sem.run_bind, Sem.run_pure, Result.andThen_ok, hi]
  exact hK _ _ h
/-- what a new block leaves -/
structure New (w w0 : World) (n : Nat) (f : Nat → Value) : Prop where
  size : w0.heap.size = w.heap.size + 1
  below : Below w.heap.size w w0
  at' : VAt w.heap.size n f w0
  free : Fz w.heap.size n w0
theorem New.mk' (w : World) (n : Nat) (f : Nat → Value) (t : TypeId) : New w (w.alloc (.cells (vls n f).toArray t)) n f :=
  ⟨by simp, below_new _ _, VAt.new _ _ _ _, Fz.new _ _ _ ⟨_, _, rfl⟩⟩
theorem wpList_alloc_named {ops : Array Oper} {rest : List Oper} {op : Oper} {a : Act} {w : World} {Q : Exit → Act → World → Prop} (hgd : op.guard = none) (t : TypeId) (ho : op.op = .alloc t) (k : Nat) (hd : op.dst = some k)
    (n : Nat) (f : Nat → Value) (hz : (P.info? t).map (fun i => (i.zero, i.size)) = some (some (.agg (vls n f).toArray), n))
    (h : ∀ w0, New w w0 n f → wpList P ops Q rest (a.put op.dst (.pointer (some ⟨w.heap.size, 0, none⟩))) w0) : wpList P ops Q (op :: rest) a w :=
  wpList_alloc_any hgd t ho n f hz (h _ (New.mk' _ _ _ _))
theorem wpList_box_named {ops : Array Oper} {rest : List Oper} {op : Oper} {a : Act} {w : World} {Q : Exit → Act → World → Prop} (hgd : op.guard = none) (t : TypeId) (x : Operand) (ho : op.op = .box t x) (k : Nat) (hd : op.dst = some k)
    (n : Nat) (f : Nat → Value) (hx : a.eval x = .agg (vls n f).toArray)
    (h : ∀ w0, New w w0 n f → wpList P ops Q rest (a.put op.dst (.pointer (some ⟨w.heap.size, 0, none⟩))) w0) : wpList P ops Q (op :: rest) a w := by
  refine wpList_plain hgd fun _ hK => ?_
  unfold Oper.wp execOp
  simp only [ho, hx]
  have hi : (Instr.box t (.agg (vls n f).toArray)).run P w = .ok (.pointer (some ⟨w.heap.size, 0, none⟩)) (w.alloc (.cells (vls n f).toArray t)) := by
    simp [Instr.box, Result.andThen, newVar, newRow, Value.cells, go_sem]
  simp only [Sem.run_bind, Sem.run_pure, Result.andThen_ok, hi]
  exact hK _ _ (h _ (New.mk' _ _ _ _))
/-- the cells of a struct -/
def cel (c : Array Value) (i : Nat) : Value := c.getD i undef
theorem vls_cel (c : Array Value) : (vls c.size (cel c)).toArray = c := by
  apply Array.ext
  · simp [vls]
  · intro i h1 h2
    simp [vls, cel, Array.getD, h2]
theorem VAt.newc (w : World) (c : Array Value) (t : TypeId) : VAt w.heap.size c.size (cel c) (w.alloc (.cells c t)) := by
  have := VAt.new w c.size (cel c) t
  rwa [vls_cel] at this
theorem wpList_alloc_lit {ops : Array Oper} {rest : List Oper} {op : Oper} {a : Act} {w : World} {Q : Exit → Act → World → Prop} (hgd : op.guard = none) (t : TypeId) (ho : op.op = .alloc t) (k : Nat) (hd : op.dst = some k)
    (c : Array Value) (hz : (P.info? t).map (fun i => (i.zero, i.size)) = some (some (.agg c), c.size))
    (h : ∀ w0, New w w0 c.size (cel c) → wpList P ops Q rest (a.put op.dst (.pointer (some ⟨w.heap.size, 0, none⟩))) w0) : wpList P ops Q (op :: rest) a w :=
  wpList_alloc_named hgd t ho k hd c.size (cel c) (by rw [vls_cel]; exact hz) h
theorem wpList_box_lit {ops : Array Oper} {rest : List Oper} {op : Oper} {a : Act} {w : World} {Q : Exit → Act → World → Prop} (hgd : op.guard = none) (t : TypeId) (x : Operand) (ho : op.op = .box t x) (k : Nat) (hd : op.dst = some k)
    (c : Array Value) (hx : a.eval x = .agg c)
    (h : ∀ w0, New w w0 c.size (cel c) → wpList P ops Q rest (a.put op.dst (.pointer (some ⟨w.heap.size, 0, none⟩))) w0) : wpList P ops Q (op :: rest) a w :=
  wpList_box_named hgd t x ho k hd c.size (cel c) (by rw [vls_cel]; exact hx) h
/-- a whole array out of a block that is known -/
theorem wpList_load_at {ops : Array Oper} {rest : List Oper} {op : Oper} {a : Act} {w : World} {Q : Exit → Act → World → Prop} (hgd : op.guard = none) (t : TypeId) (x : Operand) (ho : op.op = .load t x)
    (b n : Nat) (f : Nat → Value) (hx : a.eval x = .pointer (some ⟨b, 0, none⟩)) (c : VAt b n f w) (d : TypeDesc) (hu : P.underlying t = some d) (hd : d.isRow = true) (hi : (P.info? t).map (·.size) = some n)
    (h : wpList P ops Q rest (a.put op.dst (.agg (vls n f).toArray)) w) : wpList P ops Q (op :: rest) a w :=
  wpList_load_mid hgd t x ho b 0 hx (vls n f) d c.range hu hd (by rw [vls_length]; exact hi) h
/-- a result that is an array in a cell -/
theorem load_var_at {w : World} (t : TypeId) (b n : Nat) (f : Nat → Value) (c : VAt b n f w) (d : TypeDesc) (hu : P.underlying t = some d) (hd : d.isRow = true) (hi : (P.info? t).map (·.size) = some n) :
    (loadVar t ⟨b, 0, none⟩).run P w = .ok (.agg (vls n f).toArray) w :=
  run_loadVar_mid w b 0 t (vls n f) d c.range hu hd (by rw [vls_length]; exact hi)
/-- a whole array into a block that is known -/
theorem wpList_store_at {ops : Array Oper} {rest : List Oper} {op : Oper} {a : Act} {w : World} {Q : Exit → Act → World → Prop} (hgd : op.guard = none) (t : TypeId) (x y : Operand) (ho : op.op = .store t x y)
    (b n : Nat) (f g : Nat → Value) (hx : a.eval x = .pointer (some ⟨b, 0, none⟩)) (hy : a.eval y = .agg (vls n g).toArray) (c : VAt b n f w) (z : Fz b n w) (h1 : ∀ i, i < n → (g i).oneCell' = true) (hi : (P.info? t).map (·.size) = some n)
    (h : ∀ w0, w0.heap.size = w.heap.size → (∀ B W, B ≤ b → Below B W w → Below B W w0) → VAt b n g w0 → Fz b n w0 → (∀ b' n' f', b' ≠ b → VAt b' n' f' w → VAt b' n' f' w0) → (∀ b' n', Fz b' n' w → Fz b' n' w0) → wpList P ops Q rest (a.put op.dst undef) w0) : wpList P ops Q (op :: rest) a w := by
  refine wpList_store_mid hgd t x y ho b 0 (vls n g).toArray hx hy (by simpa [vls_length] using c.there z) (by simpa [vls_length] using hi) (vls_one h1) ?_
  refine h _ ?_ ?_ ?_ ?_ ?_ ?_
  · exact World.heap_size_setCells ..
  · intro B W hB hb
    exact below_setCells' b hB _ _ _ hb
  · simpa using c.sets z g
  · simpa using z.sets b 0 _
  · intro b' n' f' hne c'
    simpa using c'.sets_other _ hne
  · intro b' n' z'
    exact z'.sets _ _ _
end
theorem cell_drew' {w : World} {a : Addr} {v : Value} (h : w.cell? a = some v) : w.drew.cell? a = some v := by simpa [go_sem] using h
/-- a trace's samples as values -/
def fv (l : Nat → Int) (i : Nat) : Value := .float .f32 (fs (l i))
theorem fls_eq (n : Nat) (l : Nat → Int) : fls n l = vls n (fv l) := rfl
theorem zeroT : (Try.prog.info? 26).map (fun i => (i.zero, i.size)) = some (some (.agg (vls 64 (fv fun _ => 0)).toArray), 64) := by kernel_rfl
theorem infoV : (Try.prog.info? 26).map (·.size) = some 64 := by kernel_rfl
theorem run_store_float {P : Program} {w : World} {a : Addr} {m : Mode} (k : FloatKind) (b : Nat) : (store a (.float k b) m).run P w = stored P w a (.float k b) m := run_store P w a _ m rfl
theorem run_store_complex {P : Program} {w : World} {a : Addr} {m : Mode} (k : FloatKind) (x y : Nat) : (store a (.complex k x y) m).run P w = stored P w a (.complex k x y) m := run_store P w a _ m rfl
theorem info1 : (Try.prog.info? 24).map (·.size) = some 1 := by kernel_rfl
end Go.Proofs.Ytoieemgdkpnbfaa
