/- RayFirst: the walk -/
import Derived.Test.YtdicndakelgoeaaB9
import Derived.Test.YtdicndakelgoeaaB5
import Derived.Laws.AppendOwnNone
namespace Go.Proofs.Ytdicndakelgoeaa
open Go.RowKit RayM
set_option linter.unusedSimpArgs false
set_option linter.unusedVariables false

/-- a slice of whole numbers lies there -/
def IntsAt (A : Option Addr) (n : Nat) (l : Nat → Int) (w : World) : Prop := 0 < n → ∃ g, A = some ⟨g, 0, none⟩ ∧ ∀ i, i < n → w.cell? ⟨g, i, none⟩ = some (.int .i64 (l i))
theorem IntsAt.later {A : Option Addr} {n : Nat} {l : Nat → Int} {w w' : World} (r : IntsAt A n l w) (hb : Below w.heap.size w w') : IntsAt A n l w' := fun hn => by
  obtain ⟨g, e, hc⟩ := r hn
  exact ⟨g, e, fun i hi => cell_later hb (hc i hi)⟩
theorem ints_form {w : World} {b : Nat} {v : Value} {xs : List Value} {l : Nat → Int} (hl : ∀ i, i < xs.length → xs[i]? = some (.int .i64 (l i))) (h : w.ownsRow b 3 1 v xs.length xs) : ∃ A c, v = .slice A xs.length c ∧ IntsAt A xs.length l w := by
  obtain ⟨A, c, e, r⟩ := row_form h
  refine ⟨A, c, e, fun hn => ?_⟩
  obtain ⟨g, e', _, hc⟩ := r hn
  exact ⟨g, e', fun i hi => hc _ _ (hl i hi)⟩
theorem wp_append_own_none {P : Program} {o : Oper} {a : Act} {w : World} {K : Act → World → Prop} {Q : Exit → Act → World → Prop} (s x : Operand) (t : TypeId)
    (ho : o.op = .call { callee := .builtin .append, args := #[s, x], argTypes := #[t, t] })
    (base : Nat) (e : TypeId) (i : TypeInfo) (size : Nat) (ht : P.underlying t = some (.slice e)) (hi : P.info? e = some i)
    (v : Value) (n : Nat) (xs : List Value) (hs : a.eval s = v) (hown : w.ownsRow base e size v n xs) (hx : a.eval x = .slice none 0 0)
    (h : K (a.put o.dst v) w) : o.wp P a w K Q := by
  have hrun := run_append_owned_none (P := P) (w := w) base t o.type e i size ht hi v n xs hown
  unfold Oper.wp execOp
  simp only [ho, resolve, invoke, builtin, Sem.run_bind, Sem.run_pure, Result.andThen_ok, List.map_toArray, List.map_cons, List.map_nil, hs, hx, hrun]
  exact h
theorem mb_none (x : Mb) (hz : x.n = 0) (v : Value) (b : Nat) (w : World) (h : w.ownsRow b 54 4 v 0 []) :
    Calls Try.prog 64 #[v, .agg #[.int .i64 x.fx, .int .i64 x.fz], .agg #[.int .i64 x.tx, .int .i64 x.tz]] w fun e w' => ∃ r : Value, e = .returned (.tuple #[r, .int .i64 x.EE]) ∧ w'.ownsRow w.heap.size 3 1 r x.LL.length x.LL ∧ Below w.heap.size w w' :=
  mb_any x v b w (by rw [hz]; exact h)
theorem rmb_none (x : Mb) (hz : x.n = 0) (w : World) :
    Calls Try.prog 65 #[.slice none 0 0, .agg #[.int .i64 x.fx, .int .i64 x.fz], .agg #[.int .i64 x.tx, .int .i64 x.tz]] w fun e w' => ∃ r : Value, e = .returned (.tuple #[r, .int .i64 x.EE]) ∧ w'.ownsRow w.heap.size 3 1 r x.LL.length x.LL ∧ Below w.heap.size w w' := by
  have q := rmb_any x none 0 w (fun h => by omega)
  rw [hz] at q; exact q
set_option maxRecDepth 100000 in
set_option maxHeartbeats 1000000 in
theorem firsts_many (x : Mb) (A : Option Addr) (c : Nat) (h : 10 < x.n) (hm : x.n ≤ maxLen) (w : World) :
    Calls Try.prog 13 #[.slice A x.n c, .agg #[.int .i64 x.fx, .int .i64 x.fz], .agg #[.int .i64 x.tx, .int .i64 x.tz]] w fun e w' => e = .returned (.bool true) ∧ Below w.heap.size w w' := by
  have hd : decide (10 < (x.n : Int)) = true := by simp; omega
  have HD := Lib.hid hd
  unfold maxLen at hm
  clear hd
  go_enter Try.func13, Try.ntmps13
  go_wp2_with fail
  refine (awake_any _).mono ?_
  rintro e w1 ⟨rfl, hb1⟩
  have qw10 : w1.cell? ⟨w.heap.size, 0, none⟩ = some (.int .i64 x.fx) := cell_later hb1 (by simp [go_sem])
  have qw11 : w1.cell? ⟨w.heap.size, 1, none⟩ = some (.int .i64 x.fz) := cell_later hb1 (by simp [go_sem])
  have qw12 : w1.cell? ⟨w.heap.size + 1, 0, none⟩ = some (.int .i64 x.tx) := cell_later hb1 (by simp [go_sem])
  have qw13 : w1.cell? ⟨w.heap.size + 1, 1, none⟩ = some (.int .i64 x.tz) := cell_later hb1 (by simp [go_sem])
  have zqw1_0 := World.block_lt_of_cell? _ _ qw10
  dsimp only at zqw1_0
  have zqw1_2 := World.block_lt_of_cell? _ _ qw12
  dsimp only at zqw1_2
  have H1 : Hid (Below w.heap.size w w1) := Lib.hid (below_after (by repeat (first | exact Below.refl _ _ | refine Below.drew ?_ | refine below_drewN ?_ _ | refine Below.setCell ?_ (by first | omega | (simp; done) | (simp; omega)) _ | refine Below.alloc ?_ (by first | omega | (simp; done) | (simp; omega)) _)) hb1 (by first | omega | (simp; done) | (simp; omega))); clear hb1
  have hd := HD.out
  go_wp2
  go_ret
  exact ⟨rfl, (by (repeat (first | (with_reducible exact H1.out) | (with_reducible refine Below.setCell ?_ ?_ _) | (with_reducible refine below_alloc_top ?_ _) | (with_reducible refine Below.drew ?_))); all_goals (first | omega | (simp; done) | (simp; omega)))⟩
set_option maxRecDepth 100000 in
set_option maxHeartbeats 1000000 in
theorem firsts_some (x : Mb) (a : Addr) (c : Nat) (h : x.n ≤ 10) (w : World) (hx : MoAt x a w) :
    Calls Try.prog 13 #[.slice (some a) x.n c, .agg #[.int .i64 x.fx, .int .i64 x.fz], .agg #[.int .i64 x.tx, .int .i64 x.tz]] w fun e w' => e = .returned (.bool true) ∧ Below w.heap.size w w' := by
  obtain ⟨i0, hi0, hz0, hz1, hz2⟩ := info_parts infoMode
  have HI0 := Lib.hid hi0; have HZ0 := Lib.hid hz0; have HZ1 := Lib.hid hz1; have HZ2 := Lib.hid hz2
  clear hi0 hz0 hz1 hz2
  have hd : decide (10 < (x.n : Int)) = false := by simp; omega
  have HD := Lib.hid hd; clear hd
  have HX := Lib.hid hx; clear hx
  obtain ⟨l, hl⟩ := LL_int x
  have HLn := Lib.hid (LL_len x)
  have HLs := Lib.hid (LL_some x)
  have HLI := Lib.hid hl; clear hl
  go_enter Try.func13, Try.ntmps13
  go_wp2_with fail
  refine (awake_any _).mono ?_
  rintro e w1 ⟨rfl, hb1⟩
  have qw10 : w1.cell? ⟨w.heap.size, 0, none⟩ = some (.int .i64 x.fx) := cell_later hb1 (by simp [go_sem])
  have qw11 : w1.cell? ⟨w.heap.size, 1, none⟩ = some (.int .i64 x.fz) := cell_later hb1 (by simp [go_sem])
  have qw12 : w1.cell? ⟨w.heap.size + 1, 0, none⟩ = some (.int .i64 x.tx) := cell_later hb1 (by simp [go_sem])
  have qw13 : w1.cell? ⟨w.heap.size + 1, 1, none⟩ = some (.int .i64 x.tz) := cell_later hb1 (by simp [go_sem])
  have zqw1_0 := World.block_lt_of_cell? _ _ qw10
  dsimp only at zqw1_0
  have zqw1_2 := World.block_lt_of_cell? _ _ qw12
  dsimp only at zqw1_2
  have H1 : Hid (Below w.heap.size w w1) := Lib.hid (below_after (by repeat (first | exact Below.refl _ _ | refine Below.drew ?_ | refine below_drewN ?_ _ | refine Below.setCell ?_ (by first | omega | (simp; done) | (simp; omega)) _ | refine Below.alloc ?_ (by first | omega | (simp; done) | (simp; omega)) _)) hb1 (by first | omega | (simp; done) | (simp; omega))); clear hb1
  have hd := HD.out
  go_wp2_with fail
  clear hd
  have bel1 : Below w.heap.size w w1 := H1.out
  go_region_held3 (fun w' => w'.cell? ⟨w.heap.size, 0, none⟩ = some (.int .i64 x.fx) ∧ w'.cell? ⟨w.heap.size, 1, none⟩ = some (.int .i64 x.fz) ∧ w'.cell? ⟨w.heap.size + 1, 0, none⟩ = some (.int .i64 x.tx) ∧ w'.cell? ⟨w.heap.size + 1, 1, none⟩ = some (.int .i64 x.tz) ∧ Below w.heap.size w w') ((first
      | (go_split_ands; (repeat' apply And.intro) <;> first | (with_reducible assumption) | exact hgrow7.cell (by with_reducible assumption) (by simp [Value.ownBlock]; omega) | exact Below.grown (by with_reducible assumption) hgrow7 (by first | (simp; done) | (simp; omega)) (fun q e => by simp [Value.ownBlock] at e; omega) | exact cell_later (by assumption) (by assumption) | exact below_then (by assumption) (by assumption) | exact cell_alloc_later (by assumption) _ | exact below_alloc_top (by assumption) _ | exact Below.drew (by assumption) | (simp [go_sem, World.cell?_alloc_past, *]; done))))
    (first
      | (rw [if_pos (by rfl)]; refine wp_append_own _ _ _ _ (by rfl) w1.heap.size 54 i0 _ 4 32 Try.underlying88 HI0.out HZ0.out HZ1.out HZ2.out rfl (by omega) (.slice (some ⟨w1.heap.size, 0, none⟩) 0 0) 0 [] (by rfl) (by first | exact World.ownsRow_made _ #[] 0 (by simp) (by unfold maxLen; omega) rfl | exact (World.ownsRow_made _ #[] 0 (by simp) (by unfold maxLen; omega) rfl)) a x.n c (x.mc x.n) (by rfl) (by rw [mc_len]) (fun j u hu => by have hc1 := cell_later H1.out (mc_at x x.n a w HX.out (Nat.le_refl _) j u hu); first | exact cell_alloc_later hc1 _ | exact hc1) (mc_one x x.n) (by unfold maxLen; omega) (by omega) (by first | (simp; done) | (simp; omega)) ?_; intro v7 w7 hown7 hgrow7 _)
      | (go_at_call 64; refine (mb_any x v7 w1.heap.size _ (by simpa using hown7)).mono ?_; rintro e w' ⟨r8, rfl, hown8, hb8⟩))
  go_split_ands
  have y0 : w'.cell? ⟨w.heap.size, 0, none⟩ = some (.int .i64 x.fx)   := by with_reducible assumption
  have y1 : w'.cell? ⟨w.heap.size, 1, none⟩ = some (.int .i64 x.fz)   := by with_reducible assumption
  have y2 : w'.cell? ⟨w.heap.size + 1, 0, none⟩ = some (.int .i64 x.tx)   := by with_reducible assumption
  have y3 : w'.cell? ⟨w.heap.size + 1, 1, none⟩ = some (.int .i64 x.tz)   := by with_reducible assumption
  have H2 : Hid (Below w.heap.size w w') := Lib.hid (by with_reducible assumption)
  have yz0 := World.block_lt_of_cell? _ _ y0
  have yz2 := World.block_lt_of_cell? _ _ y2
  dsimp only at yz0 yz2
  obtain ⟨A8, c8, rfl, ia8⟩ := ints_form HLI.out hown8
  have IA8 := Lib.hid ia8
  clear ia8 hown8 hb8 hgrow7 hown7
  go_wp2_with fail
  refine (rmb_any x (some a) c _ (fun _ => ⟨a, rfl, HX.out.later H2.out⟩)).mono ?_
  rintro e w3 ⟨r9, rfl, hown9, hb3⟩
  have qw30 : w3.cell? ⟨w.heap.size, 0, none⟩ = some (.int .i64 x.fx) := cell_later hb3 (by simp [go_sem, World.cell?_alloc_past, World.frozen?_alloc_past, *])
  have qw31 : w3.cell? ⟨w.heap.size, 1, none⟩ = some (.int .i64 x.fz) := cell_later hb3 (by simp [go_sem, World.cell?_alloc_past, World.frozen?_alloc_past, *])
  have qw32 : w3.cell? ⟨w.heap.size + 1, 0, none⟩ = some (.int .i64 x.tx) := cell_later hb3 (by simp [go_sem, World.cell?_alloc_past, World.frozen?_alloc_past, *])
  have qw33 : w3.cell? ⟨w.heap.size + 1, 1, none⟩ = some (.int .i64 x.tz) := cell_later hb3 (by simp [go_sem, World.cell?_alloc_past, World.frozen?_alloc_past, *])
  have zqw3_0 := World.block_lt_of_cell? _ _ qw30
  dsimp only at zqw3_0
  have zqw3_2 := World.block_lt_of_cell? _ _ qw32
  dsimp only at zqw3_2
  obtain ⟨A9, c9, rfl, ia9⟩ := ints_form HLI.out hown9
  have IA9 := Lib.hid ia9
  have IB8 := Lib.hid (IA8.out.later hb3)
  clear ia9 hown9
  have H3 : Hid (Below w.heap.size w w3) := Lib.hid (below_then (by (repeat (first | (with_reducible exact H2.out) | (with_reducible refine Below.setCell ?_ ?_ _) | (with_reducible refine below_alloc_top ?_ _) | (with_reducible refine Below.drew ?_))); all_goals (first | omega | (simp; done) | (simp; omega))) hb3); clear hb3
  have n3 : (x.EE != x.EE) = false := by simp
  go_wp2_with fail
  refine (ints_same A8 A9 x.LL.length c8 c9 l _ (by have := HLn.out; omega) IB8.out IA9.out).mono ?_
  rintro e w4 ⟨rfl, hb4⟩

  have H4 : Hid (Below w.heap.size w w4) := Lib.hid (below_then (by (repeat (first | (with_reducible exact H3.out) | (with_reducible refine Below.setCell ?_ ?_ _) | (with_reducible refine below_alloc_top ?_ _) | (with_reducible refine Below.drew ?_))); all_goals (first | omega | (simp; done) | (simp; omega))) hb4); clear hb4
  by_cases h0 : x.EE = 0
  · have e1 : (x.EE != 0) = false := by simp [h0]
    have hl := HLs.out h0
    have e2 : decide (0 < x.LL.length) = true := by simpa using hl
    clear h0 hl
    go_wp2
    go_ret
    exact ⟨rfl, (by (repeat (first | (with_reducible exact H4.out) | (with_reducible refine Below.setCell ?_ ?_ _) | (with_reducible refine below_alloc_top ?_ _) | (with_reducible refine Below.drew ?_))); all_goals (first | omega | (simp; done) | (simp; omega)))⟩
  · have e1 : (x.EE != 0) = true := by simpa using h0
    clear h0
    go_wp2
    go_ret
    exact ⟨rfl, (by (repeat (first | (with_reducible exact H4.out) | (with_reducible refine Below.setCell ?_ ?_ _) | (with_reducible refine below_alloc_top ?_ _) | (with_reducible refine Below.drew ?_))); all_goals (first | omega | (simp; done) | (simp; omega)))⟩
set_option maxRecDepth 100000 in
set_option maxHeartbeats 1000000 in
theorem firsts_none (x : Mb) (hz : x.n = 0) (w : World) :
    Calls Try.prog 13 #[.slice none 0 0, .agg #[.int .i64 x.fx, .int .i64 x.fz], .agg #[.int .i64 x.tx, .int .i64 x.tz]] w fun e w' => e = .returned (.bool true) ∧ Below w.heap.size w w' := by
  obtain ⟨i0, hi0, hz0, hz1, hz2⟩ := info_parts infoMode
  have HI0 := Lib.hid hi0; have HZ0 := Lib.hid hz0; have HZ1 := Lib.hid hz1; have HZ2 := Lib.hid hz2
  clear hi0 hz0 hz1 hz2
  have hd : decide ((10 : Int) < ((0 : Nat) : Int)) = false := by decide
  have HD := Lib.hid hd; clear hd
  have HN := Lib.hid hz; clear hz
  obtain ⟨l, hl⟩ := LL_int x
  have HLn := Lib.hid (LL_len x)
  have HLs := Lib.hid (LL_some x)
  have HLI := Lib.hid hl; clear hl
  go_enter Try.func13, Try.ntmps13
  go_wp2_with fail
  refine (awake_any _).mono ?_
  rintro e w1 ⟨rfl, hb1⟩
  have qw10 : w1.cell? ⟨w.heap.size, 0, none⟩ = some (.int .i64 x.fx) := cell_later hb1 (by simp [go_sem])
  have qw11 : w1.cell? ⟨w.heap.size, 1, none⟩ = some (.int .i64 x.fz) := cell_later hb1 (by simp [go_sem])
  have qw12 : w1.cell? ⟨w.heap.size + 1, 0, none⟩ = some (.int .i64 x.tx) := cell_later hb1 (by simp [go_sem])
  have qw13 : w1.cell? ⟨w.heap.size + 1, 1, none⟩ = some (.int .i64 x.tz) := cell_later hb1 (by simp [go_sem])
  have zqw1_0 := World.block_lt_of_cell? _ _ qw10
  dsimp only at zqw1_0
  have zqw1_2 := World.block_lt_of_cell? _ _ qw12
  dsimp only at zqw1_2
  have H1 : Hid (Below w.heap.size w w1) := Lib.hid (below_after (by repeat (first | exact Below.refl _ _ | refine Below.drew ?_ | refine below_drewN ?_ _ | refine Below.setCell ?_ (by first | omega | (simp; done) | (simp; omega)) _ | refine Below.alloc ?_ (by first | omega | (simp; done) | (simp; omega)) _)) hb1 (by first | omega | (simp; done) | (simp; omega))); clear hb1
  have hd := HD.out
  go_wp2_with fail
  clear hd
  have bel1 : Below w.heap.size w w1 := H1.out
  go_region_held3 (fun w' => w'.cell? ⟨w.heap.size, 0, none⟩ = some (.int .i64 x.fx) ∧ w'.cell? ⟨w.heap.size, 1, none⟩ = some (.int .i64 x.fz) ∧ w'.cell? ⟨w.heap.size + 1, 0, none⟩ = some (.int .i64 x.tx) ∧ w'.cell? ⟨w.heap.size + 1, 1, none⟩ = some (.int .i64 x.tz) ∧ Below w.heap.size w w') ((first
      | (go_split_ands; (repeat' apply And.intro) <;> first | (with_reducible assumption) | exact hgrow7.cell (by with_reducible assumption) (by simp [Value.ownBlock]; omega) | exact Below.grown (by with_reducible assumption) hgrow7 (by first | (simp; done) | (simp; omega)) (fun q e => by simp [Value.ownBlock] at e; omega) | exact cell_later (by assumption) (by assumption) | exact below_then (by assumption) (by assumption) | exact cell_alloc_later (by assumption) _ | exact below_alloc_top (by assumption) _ | exact Below.drew (by assumption) | (simp [go_sem, World.cell?_alloc_past, *]; done))))
    (first
      | (rw [if_pos (by rfl)]; refine wp_append_own_none _ _ _ (by rfl) w1.heap.size 54 i0 4 Try.underlying88 HI0.out (.slice (some ⟨w1.heap.size, 0, none⟩) 0 0) 0 [] (by rfl) (by first | exact World.ownsRow_made _ #[] 0 (by simp) (by unfold maxLen; omega) rfl | exact (World.ownsRow_made _ #[] 0 (by simp) (by unfold maxLen; omega) rfl)) (by rfl) ?_)
      | (go_at_call 64; refine (mb_none x HN.out (.slice (some ⟨w1.heap.size, 0, none⟩) 0 0) w1.heap.size _ (by first | exact World.ownsRow_made _ #[] 0 (by simp) (by unfold maxLen; omega) rfl | exact (World.ownsRow_made _ #[] 0 (by simp) (by unfold maxLen; omega) rfl))).mono ?_; rintro e w' ⟨r8, rfl, hown8, hb8⟩))
  go_split_ands
  have y0 : w'.cell? ⟨w.heap.size, 0, none⟩ = some (.int .i64 x.fx)   := by with_reducible assumption
  have y1 : w'.cell? ⟨w.heap.size, 1, none⟩ = some (.int .i64 x.fz)   := by with_reducible assumption
  have y2 : w'.cell? ⟨w.heap.size + 1, 0, none⟩ = some (.int .i64 x.tx)   := by with_reducible assumption
  have y3 : w'.cell? ⟨w.heap.size + 1, 1, none⟩ = some (.int .i64 x.tz)   := by with_reducible assumption
  have H2 : Hid (Below w.heap.size w w') := Lib.hid (by with_reducible assumption)
  have yz0 := World.block_lt_of_cell? _ _ y0
  have yz2 := World.block_lt_of_cell? _ _ y2
  dsimp only at yz0 yz2
  obtain ⟨A8, c8, rfl, ia8⟩ := ints_form HLI.out hown8
  have IA8 := Lib.hid ia8
  clear ia8 hown8 hb8
  go_wp2_with fail
  refine (rmb_none x HN.out _).mono ?_
  rintro e w3 ⟨r9, rfl, hown9, hb3⟩
  have qw30 : w3.cell? ⟨w.heap.size, 0, none⟩ = some (.int .i64 x.fx) := cell_later hb3 (by simp [go_sem, World.cell?_alloc_past, World.frozen?_alloc_past, *])
  have qw31 : w3.cell? ⟨w.heap.size, 1, none⟩ = some (.int .i64 x.fz) := cell_later hb3 (by simp [go_sem, World.cell?_alloc_past, World.frozen?_alloc_past, *])
  have qw32 : w3.cell? ⟨w.heap.size + 1, 0, none⟩ = some (.int .i64 x.tx) := cell_later hb3 (by simp [go_sem, World.cell?_alloc_past, World.frozen?_alloc_past, *])
  have qw33 : w3.cell? ⟨w.heap.size + 1, 1, none⟩ = some (.int .i64 x.tz) := cell_later hb3 (by simp [go_sem, World.cell?_alloc_past, World.frozen?_alloc_past, *])
  have zqw3_0 := World.block_lt_of_cell? _ _ qw30
  dsimp only at zqw3_0
  have zqw3_2 := World.block_lt_of_cell? _ _ qw32
  dsimp only at zqw3_2
  obtain ⟨A9, c9, rfl, ia9⟩ := ints_form HLI.out hown9
  have IA9 := Lib.hid ia9
  have IB8 := Lib.hid (IA8.out.later hb3)
  clear ia9 hown9
  have H3 : Hid (Below w.heap.size w w3) := Lib.hid (below_then (by (repeat (first | (with_reducible exact H2.out) | (with_reducible refine Below.setCell ?_ ?_ _) | (with_reducible refine below_alloc_top ?_ _) | (with_reducible refine Below.drew ?_))); all_goals (first | omega | (simp; done) | (simp; omega))) hb3); clear hb3
  have n3 : (x.EE != x.EE) = false := by simp
  go_wp2_with fail
  refine (ints_same A8 A9 x.LL.length c8 c9 l _ (by have := HLn.out; omega) IB8.out IA9.out).mono ?_
  rintro e w4 ⟨rfl, hb4⟩

  have H4 : Hid (Below w.heap.size w w4) := Lib.hid (below_then (by (repeat (first | (with_reducible exact H3.out) | (with_reducible refine Below.setCell ?_ ?_ _) | (with_reducible refine below_alloc_top ?_ _) | (with_reducible refine Below.drew ?_))); all_goals (first | omega | (simp; done) | (simp; omega))) hb4); clear hb4
  by_cases h0 : x.EE = 0
  · have e1 : (x.EE != 0) = false := by simp [h0]
    have hl := HLs.out h0
    have e2 : decide (0 < x.LL.length) = true := by simpa using hl
    clear h0 hl
    go_wp2
    go_ret
    exact ⟨rfl, (by (repeat (first | (with_reducible exact H4.out) | (with_reducible refine Below.setCell ?_ ?_ _) | (with_reducible refine below_alloc_top ?_ _) | (with_reducible refine Below.drew ?_))); all_goals (first | omega | (simp; done) | (simp; omega)))⟩
  · have e1 : (x.EE != 0) = true := by simpa using h0
    clear h0
    go_wp2
    go_ret
    exact ⟨rfl, (by (repeat (first | (with_reducible exact H4.out) | (with_reducible refine Below.setCell ?_ ?_ _) | (with_reducible refine below_alloc_top ?_ _) | (with_reducible refine Below.drew ?_))); all_goals (first | omega | (simp; done) | (simp; omega)))⟩
theorem firsts_any (x : Mb) (A : Option Addr) (c : Nat) (hm : x.n ≤ maxLen) (w : World) (h : (A = none ∧ x.n = 0 ∧ c = 0) ∨ ∃ a, A = some a ∧ MoAt x a w) :
    Calls Try.prog 13 #[.slice A x.n c, .agg #[.int .i64 x.fx, .int .i64 x.fz], .agg #[.int .i64 x.tx, .int .i64 x.tz]] w fun e w' => e = .returned (.bool true) ∧ Below w.heap.size w w' := by
  rcases h with ⟨rfl, hz, rfl⟩ | ⟨a, rfl, hx⟩
  · rw [hz]; exact firsts_none x hz w
  · by_cases h : x.n ≤ 10
    · exact firsts_some x a c h w hx
    · exact firsts_many x (some a) c (by omega) hm w
end Go.Proofs.Ytdicndakelgoeaa
