/- LawPlanes: the walk -/
import Derived.Test.YtkkaomgdlnejcaaGreatDoorTg
import Derived.Test.YtkkaomgdlnejcaaGreatDoorV9
import Derived.Test.YtkkaomgdlnejcaaGreatDoorU2
namespace Go.Proofs.YtkkaomgdlnejcaaGreatDoor
open Go.RowKit Go.Shelf RayM
set_option linter.unusedSimpArgs false
set_option linter.unusedVariables false
set_option maxRecDepth 100000 in
set_option maxHeartbeats 1000000 in
theorem few_any (n : Int) (w : World) :
    Calls Tryz.prog 9 #[.int .i64 n] w fun e w' => e = .returned (.bool (decide (n ≤ 18))) ∧ w = w' := by
  go_enter Tryz.func9, Tryz.ntmps9
  go_wp2
  go_ret
  exact ⟨rfl, rfl⟩
/-- an array moved along the section -/
def La.shf (a : La) (b : Int) : La := ⟨fun i => ⟨(a.p i).x + b, (a.p i).z⟩, a.n, a.m, a.ck⟩
theorem elE_shf (a : La) (b : Int) (i : Nat) (h : elE (a.p i) = 0) : elE ((a.shf b).p i) = 0 ∨ elE ((a.shf b).p i) = 2 := by
  obtain ⟨_, z0, z1⟩ := el_in _ h
  have h2 : inB (a.p i).z (-100000) 100000 = true := by simp [inB]; omega
  have h3 : decide ((a.p i).z < 0) = true := by simpa using z1
  show elE ⟨(a.p i).x + b, (a.p i).z⟩ = 0 ∨ elE ⟨(a.p i).x + b, (a.p i).z⟩ = 2
  unfold elE placeE
  dsimp only
  rw [h2, h3]
  cases inB ((a.p i).x + b) (-100000) 100000
  · right; simp [fst, unl]
  · left; simp [fst, unl]
theorem ffE_two (g : Nat → Int) : ∀ m i, (∀ j, i ≤ j → j < i + m → g j = 0 ∨ g j = 2) → ffE g i m = 0 ∨ ffE g i m = 2
  | 0, i, _ => .inl rfl
  | m + 1, i, h => by
    have e : ffE g i (m + 1) = if g i = 0 then ffE g (i + 1) m else g i := rfl
    rw [e]
    by_cases q : g i = 0
    · rw [if_pos q]; exact ffE_two g m (i + 1) (fun j h0 h1 => h j (by omega) (by omega))
    · rw [if_neg q]; exact h i (by omega) (by omega)
theorem shf_E (a : La) (b : Int) (hE : a.E = 0) : (a.shf b).E = 0 ∨ (a.shf b).E = 2 := by
  obtain ⟨⟨n0, n1⟩, he, om, k0, k1⟩ := (La.E_zero a).1 hE
  rw [La.E_loop (a.shf b) (ctE_ok a.n n0 n1)]
  have e1 : moE (a.shf b).m = 0 := (moE_ok _).2 om
  have e2 : unl (inB (a.shf b).ck 1 1000000) 2 = 0 := by
    show unl (inB a.ck 1 1000000) 2 = 0
    have : inB a.ck 1 1000000 = true := by simp [inB]; omega
    rw [this]; rfl
  rcases ffE_two (a.shf b).g a.n 0 (fun j _ hj => elE_shf a b j (he j (by omega))) with h | h
  · left
    rw [if_pos (show ffE (a.shf b).g 0 (a.shf b).n = 0 from h), if_pos e1, e2]
  · right
    rw [if_neg (show ¬ ffE (a.shf b).g 0 (a.shf b).n = 0 from fun q => by rw [show ffE (a.shf b).g 0 (a.shf b).n = 2 from h] at q; cases q)]
    exact h
theorem mnL_add9 (f g : Nat → Int) (C : Int) (h : ∀ i, g i = f i + C) : ∀ n, mnL g n = mnL f n + C
  | 0 => h 0
  | n + 1 => by
    have ih := mnL_add9 f g C h n
    have e1 : mnL g (n + 1) = min (mnL g n) (g n) := rfl
    have e2 : mnL f (n + 1) = min (mnL f n) (f n) := rfl
    rw [e1, e2, ih, h n]
    omega
theorem shf_pm (a : La) (b p q : Int) (i : Nat) : (a.shf b).pm p q i = a.pm p q i + b * p * 10000000 := by
  show ((((a.p i).x + b) * p + (a.p i).z * q) * 10000000 : Int) = ((a.p i).x * p + (a.p i).z * q) * 10000000 + b * p * 10000000
  rw [Int.add_mul (a.p i).x b p]
  omega
theorem shf_pl (a : La) (b p q r : Int) : (a.shf b).pl p q r = a.pl p q r := by
  funext i
  show (2 * ((a.shf b).pm p q i - mnL ((a.shf b).pm p q) a.n) + a.pu r) / (2 * a.pu r) = (2 * (a.pm p q i - mnL (a.pm p q) a.n) + a.pu r) / (2 * a.pu r)
  rw [mnL_add9 _ _ _ (fun i => shf_pm a b p q i) a.n, shf_pm]
  congr 2
  omega
theorem shf_pnE (a : La) (b p q r : Int) (hE : a.E = 0) (ht : tuE p q r = 0) (hz : a.pnE p q r = 0) : (a.shf b).pnE p q r = 0 ∨ (a.shf b).pnE p q r = 2 := by
  have e0 : a.pnE p q r = loE (a.pl p q r) a.n := by unfold La.pnE; rw [if_pos ((La.pnE1_zero a p q r).2 ⟨hE, ht⟩)]
  rcases shf_E a b hE with h | h
  · left
    unfold La.pnE
    rw [if_pos ((La.pnE1_zero _ p q r).2 ⟨h, ht⟩), shf_pl]
    show loE (a.pl p q r) a.n = 0
    rw [← e0]; exact hz
  · right
    have e1 : (a.shf b).pnE1 p q r = 2 := by unfold La.pnE1; rw [h]; rfl
    unfold La.pnE
    rw [e1, if_neg (by decide)]
theorem pnE_E (a : La) (p q r : Int) (h : a.E ≠ 0) : a.pnE p q r = a.E := by
  have e1 : a.pnE1 p q r = a.E := by unfold La.pnE1; simp [fst, h]
  unfold La.pnE; rw [e1, if_neg h]
theorem pnE_t (a : La) (p q r : Int) (h : a.E = 0) (k : tuE p q r ≠ 0) : a.pnE p q r = tuE p q r := by
  have e1 : a.pnE1 p q r = tuE p q r := by unfold La.pnE1; rw [h]; simp [fst]; omega
  unfold La.pnE; rw [e1, if_neg k]
/-- a row of spots of one's own -/
def SpW (g n : Nat) (p : Nat → Sp) (w : World) : Prop := ∀ i, i < n → (w.cell? ⟨g, i * 2, none⟩ = some (.int .i64 (p i).x) ∧ w.cell? ⟨g, i * 2 + 1, none⟩ = some (.int .i64 (p i).z)) ∧ (w.frozen? ⟨g, i * 2, none⟩ = false)
theorem own_rowS {w : World} {b : Nat} {e : TypeId} {v : Value} {n : Nat} {p : Nat → Sp} (h : w.ownsRow b e 2 v n (svs p n)) (hn : 0 < n) : ∃ g c, v = .slice (some ⟨g, 0, none⟩) n c ∧ b ≤ g ∧ g < w.heap.size ∧ SpW g n p w := by
  have h2 := h.2
  rcases h2 with ⟨q, q2⟩ | ⟨g, cap, cur, rfl, hb, hgb, r⟩
  · omega
  · refine ⟨g, cap, rfl, hb, (Array.getElem?_eq_some_iff.1 hgb).1, fun i hi => ⟨⟨?_, ?_⟩, by simp [World.frozen?, hgb]⟩⟩
    · have := h.cells (g := g) rfl (i * 2) _ (svs_get p n i hi).1
      rwa [add_off] at this
    · have := h.cells (g := g) rfl (i * 2 + 1) _ (svs_get p n i hi).2
      rwa [add_off] at this
theorem SpW.later {g n : Nat} {p : Nat → Sp} {w w' : World} (r : SpW g n p w) (hb : Below w.heap.size w w') : SpW g n p w' := fun i hi => ⟨⟨cell_later hb (r i hi).1.1, cell_later hb (r i hi).1.2⟩, frozen_after hb (r i hi).1.1 (r i hi).2⟩
theorem SpW.at {g n : Nat} {p : Nat → Sp} {w : World} (r : SpW g n p w) : SpAt (some ⟨g, 0, none⟩) n p w := fun _ => ⟨_, rfl, fun i hi => by rw [add_off, add_off]; exact (r i hi).1⟩
theorem SpW.put {g n : Nat} {p p' : Nat → Sp} {w : World} (r : SpW g n p w) (k : Nat) (x : Int) (hk : k < n) (e : ∀ j, j < n → (p' j).x = (if j = k then x else (p j).x) ∧ (p' j).z = (p j).z) : SpW g n p' (w.setCell ⟨g, k * 2, none⟩ (.int .i64 x)) := fun j hj => by
  obtain ⟨e1, e2⟩ := e j hj
  obtain ⟨⟨c0, c1⟩, f⟩ := r j hj
  refine ⟨⟨?_, ?_⟩, setF f⟩
  · rw [e1]
    by_cases q : j = k
    · subst q; rw [if_pos rfl]; exact setS c0
    · rw [if_neg q]; exact setO (.inr (by dsimp only; omega)) c0
  · rw [e2]; exact setO (.inr (by dsimp only; omega)) c1
/-- the first k ones moved -/
def shk (a : La) (b : Int) (k i : Nat) : Sp := if i < k then ⟨(a.p i).x + b, (a.p i).z⟩ else a.p i
theorem shk_zero (a : La) (b : Int) : shk a b 0 = a.p := by funext i; unfold shk; rw [if_neg (by omega)]
theorem shk_next (a : La) (b : Int) (k j : Nat) : (shk a b (k + 1) j).x = (if j = k then (a.p k).x + b else (shk a b k j).x) ∧ (shk a b (k + 1) j).z = (shk a b k j).z := by
  unfold shk
  by_cases q : j = k
  · subst q; rw [if_pos (by omega), if_pos rfl, if_neg (by omega)]; exact ⟨rfl, rfl⟩
  · rw [if_neg q]
    by_cases h : j < k
    · rw [if_pos (by omega), if_pos h]; exact ⟨rfl, rfl⟩
    · rw [if_neg (by omega), if_neg h]; exact ⟨rfl, rfl⟩
theorem shk_at (a : La) (b : Int) (k : Nat) : shk a b k k = a.p k := by unfold shk; rw [if_neg (by omega)]
theorem Lw.over {ck : Int} {l : Nat → Int} {n : Nat} {E x : Int} {A : Option Addr} {m c : Nat} {w w' : World} (r : Lw ck l n E x A m c w) (g : Nat) (h : ∀ a, A = some a → a.block ≠ g) (hs : ∀ x_, x_ ≠ g → x_ < w.heap.size → w'.heap[x_]? = w.heap[x_]?) : Lw ck l n E x A m c w' := by
  refine ⟨r.1, fun q => ⟨(r.2.1 q).1, fun hn => ?_⟩, r.2.2⟩
  obtain ⟨a, e, hc⟩ := (r.2.1 q).2 hn
  refine ⟨a, e, fun i hi => ?_⟩
  have h1 := hc i hi
  have hl := World.block_lt_of_cell? _ _ h1
  have hb : (a.add i).block = a.block := by unfold Addr.add; split <;> rfl
  unfold World.cell? at h1 ⊢
  rw [hs _ (by rw [hb]; exact h a e) hl]; exact h1
theorem Lw.block {ck : Int} {l : Nat → Int} {n : Nat} {x : Int} {A : Option Addr} {m c : Nat} {w : World} (r : Lw ck l n 0 x A m c w) (hn : 0 < n) : ∀ a, A = some a → a.block < w.heap.size := fun a e => by
  have hh := World.block_lt_of_cell? _ _ (show w.cell? (a.add 0) = _ from by subst e; exact ((r.2.1 rfl).2).at hn)
  have e0 : a.add 0 = a := by unfold Addr.add; rfl
  rwa [e0] at hh
theorem SpAt.shk {A : Option Addr} {a : La} {b : Int} {w : World} (h : SpAt A a.n (shk a b a.n) w) : SpAt A a.n (a.shf b).p w := fun hn => by
  obtain ⟨ad, e, hc⟩ := h hn
  refine ⟨ad, e, fun i hi => ?_⟩
  have := hc i hi
  unfold _root_.Go.Proofs.YtkkaomgdlnejcaaGreatDoor.shk at this
  rw [if_pos hi] at this
  exact this
set_option maxRecDepth 100000 in
set_option maxHeartbeats 6000000 in
theorem planes_any (a : La) (p q r b : Int) (A : Option Addr) (c : Nat) (w : World) (hL : Laid w) (AWK : Hid (∀ w, Laid w → Calls Tryz.prog 8 #[] w fun e w' => e = .returned (.bool true) ∧ Below w.heap.size w w')) (hA : A = none → a.n = 0 ∧ c = 0) (h : SpAt A a.n a.p w) :
    Calls Tryz.prog 3 #[.agg #[.slice A a.n c, .int .i64 a.m.wd, .int .i64 a.m.mt, .int .i64 a.m.sk, .int .i64 a.m.th, .int .i64 a.ck], .agg #[.int .i64 p, .int .i64 q, .int .i64 r], .int .i64 b] w fun e w' => e = .returned (.bool true) ∧ Below w.heap.size w w' := by
  have HX := Lib.hid h; clear h
  have LH := Lib.hid hL; clear hL
  by_cases h1 : a.n ≤ 18
  · have FA : Hid (decide ((a.n : Int) ≤ 18) = true) := Lib.hid (by simp; omega)
    have HCA : Hid (∀ w', SpAt A a.n a.p w' → Calls Tryz.prog 11 #[.agg #[.slice A a.n c, .int .i64 a.m.wd, .int .i64 a.m.mt, .int .i64 a.m.sk, .int .i64 a.m.th, .int .i64 a.ck]] w' fun e w'' => ∃ A1 c1, e = .returned (.agg #[.slice A1 a.n c1, .int .i64 a.m.wd, .int .i64 a.m.mt, .int .i64 a.m.sk, .int .i64 a.m.th, .int .i64 a.ck]) ∧ SpAt A1 a.n a.p w'' ∧ Below w'.heap.size w' w'') := Lib.hid (fun w' h => (copyArray_any a A c w' (by omega) hA h).mono (fun e w'' ⟨v, e1, ho, hb⟩ => by
      obtain ⟨A1, c1, rfl, _, hs⟩ := own_spots ho
      exact ⟨A1, c1, e1, hs, hb⟩))
    have HCO : Hid (0 < a.n → ∀ w', SpAt A a.n a.p w' → Calls Tryz.prog 11 #[.agg #[.slice A a.n c, .int .i64 a.m.wd, .int .i64 a.m.mt, .int .i64 a.m.sk, .int .i64 a.m.th, .int .i64 a.ck]] w' fun e w'' => ∃ g c1, e = .returned (.agg #[.slice (some ⟨g, 0, none⟩) a.n c1, .int .i64 a.m.wd, .int .i64 a.m.mt, .int .i64 a.m.sk, .int .i64 a.m.th, .int .i64 a.ck]) ∧ w'.heap.size ≤ g ∧ g < w''.heap.size ∧ SpW g a.n a.p w'' ∧ Below w'.heap.size w' w'') := Lib.hid (fun n0 w' h => (copyArray_any a A c w' (by omega) hA h).mono (fun e w'' ⟨v, e1, ho, hb⟩ => by
      obtain ⟨g, c1, rfl, g0, g1, hs⟩ := own_rowS ho n0
      exact ⟨g, c1, e1, g0, g1, hs, hb⟩))
    have HPL : Hid (∀ A1 c1 w', SpAt A1 a.n a.p w' → Calls Tryz.prog 10 #[.agg #[.slice A1 a.n c1, .int .i64 a.m.wd, .int .i64 a.m.mt, .int .i64 a.m.sk, .int .i64 a.m.th, .int .i64 a.ck], .agg #[.int .i64 p, .int .i64 q, .int .i64 r]] w' fun e_ w'' => ∃ (x : Int) (A3 : Option Addr) (m3 c3 : Nat), e_ = .returned (.tuple #[.agg #[.int .i64 x, .slice A3 m3 c3], .int .i64 (a.pnE p q r)]) ∧ Lw a.ck (a.pl p q r) a.n (a.pnE p q r) x A3 m3 c3 w'' ∧ (∀ a, A3 = some a → w'.heap.size ≤ a.block) ∧ (∀ a, A3 = some a → a.block < w''.heap.size) ∧ Below w'.heap.size w' w'') := Lib.hid (fun A1 c1 w' h => plane_any a p q r A1 c1 w' h (by omega))
    have HPM : Hid (∀ A1 c1 w', SpAt A1 a.n (shk a b a.n) w' → Calls Tryz.prog 10 #[.agg #[.slice A1 a.n c1, .int .i64 a.m.wd, .int .i64 a.m.mt, .int .i64 a.m.sk, .int .i64 a.m.th, .int .i64 a.ck], .agg #[.int .i64 p, .int .i64 q, .int .i64 r]] w' fun e_ w'' => ∃ (x : Int) (A3 : Option Addr) (m3 c3 : Nat), e_ = .returned (.tuple #[.agg #[.int .i64 x, .slice A3 m3 c3], .int .i64 ((a.shf b).pnE p q r)]) ∧ Lw a.ck (a.pl p q r) a.n ((a.shf b).pnE p q r) x A3 m3 c3 w'' ∧ (∀ a, A3 = some a → w'.heap.size ≤ a.block) ∧ (∀ a, A3 = some a → a.block < w''.heap.size) ∧ Below w'.heap.size w' w'') := Lib.hid (fun A1 c1 w' h => by
      have := plane_any (a.shf b) p q r A1 c1 w' h.shk (by show a.n ≤ 1000; omega)
      rwa [shf_pl] at this)
    have HAE := Lib.hid (fun w h => wArrayErr_any a A c w h (by omega))
    have HTE := Lib.hid (fun w => rTurn_any p q r w)
    have HRP : Hid (a.E = 0 → tuE p q r = 0 → ∀ w', SpAt A a.n a.p w' → Calls Tryz.prog 14 #[.agg #[.slice A a.n c, .int .i64 a.m.wd, .int .i64 a.m.mt, .int .i64 a.m.sk, .int .i64 a.m.th, .int .i64 a.ck], .agg #[.int .i64 p, .int .i64 q, .int .i64 r]] w' fun e_ w'' => ∃ (x : Int) (A3 : Option Addr) (m3 c3 : Nat), e_ = .returned (.tuple #[.agg #[.int .i64 x, .slice A3 m3 c3], .int .i64 (a.pnE p q r)]) ∧ Lw a.ck (a.pl p q r) a.n (a.pnE p q r) x A3 m3 c3 w'' ∧ (∀ a, A3 = some a → w'.heap.size ≤ a.block) ∧ (∀ a, A3 = some a → a.block < w''.heap.size) ∧ Below w'.heap.size w' w'') := Lib.hid (fun q0 r0 w' h => by
      obtain ⟨ad, rfl⟩ := h.some ((La.E_zero a).1 q0).1.1
      exact rPlane_any a p q r ad c w' q0 r0 h)
    have HSM : Hid (∀ x A3 m3 c3 x' A' m' c' w', Lw a.ck (a.pl p q r) a.n (a.pnE p q r) x A3 m3 c3 w' → Lw a.ck (a.pl p q r) a.n (a.pnE p q r) x' A' m' c' w' → Calls Tryz.prog 15 #[.agg #[.int .i64 x, .slice A3 m3 c3], .agg #[.int .i64 x', .slice A' m' c']] w' fun e w'' => e = .returned (.bool true) ∧ Below w'.heap.size w' w'') := Lib.hid (fun x A3 m3 c3 x' A' m' c' w' h k => same_lw h k (by omega))
    have PA : Hid (a.E ≠ 0 → a.pnE p q r = a.E) := Lib.hid (fun h => pnE_E a p q r h)
    have PT : Hid (a.E = 0 → tuE p q r ≠ 0 → a.pnE p q r = tuE p q r) := Lib.hid (fun h k => pnE_t a p q r h k)
    have PS : Hid (a.E = 0 → tuE p q r = 0 → a.pnE p q r = 0 → (a.shf b).pnE p q r = 0 ∨ (a.shf b).pnE p q r = 2) := Lib.hid (fun h k j => shf_pnE a b p q r h k j)
    have XB : Hid (a.E = 0 → 0 < a.n ∧ a.n ≤ 16 ∧ ∀ i, i < a.n → -100000 ≤ (a.p i).x ∧ (a.p i).x ≤ 100000) := Lib.hid (fun h => by
      obtain ⟨⟨n0, n1⟩, he, _⟩ := (La.E_zero a).1 h
      exact ⟨n0, n1, fun i hi => (el_in _ (he i hi)).1⟩)
    have S0 := Lib.hid (shk_zero a b); have SN := Lib.hid (fun k j => shk_next a b k j); have SA := Lib.hid (fun k => shk_at a b k)
    generalize a.pl p q r = u at *
    generalize a.pnE p q r = E5 at *
    generalize (a.shf b).pnE p q r = E9 at *
    generalize shk a b = sk at *
    generalize tuE p q r = et at *
    generalize a.E = ea at *
    clear hA
    go_enter Tryz.func3, Tryz.ntmps3
    go_wp2_with fail
    refine (AWK.out _ (LH.out.later (by repeat (first | exact Below.refl _ _ | refine Below.drew ?_ | refine below_drewN ?_ _ | refine Below.setCell ?_ (by first | omega | (simp; done) | (simp; omega)) _ | refine Below.alloc ?_ (by first | omega | (simp; done) | (simp; omega)) _)))).mono ?_
    rintro e w1 ⟨rfl, hb1⟩
    have qw10 : w1.cell? ⟨w.heap.size, 0, none⟩ = some (.slice A a.n c) := cell_later hb1 (by simp [go_sem])
    have qw11 : w1.cell? ⟨w.heap.size, 1, none⟩ = some (.int .i64 a.m.wd) := cell_later hb1 (by simp [go_sem])
    have qw12 : w1.cell? ⟨w.heap.size, 2, none⟩ = some (.int .i64 a.m.mt) := cell_later hb1 (by simp [go_sem])
    have qw13 : w1.cell? ⟨w.heap.size, 3, none⟩ = some (.int .i64 a.m.sk) := cell_later hb1 (by simp [go_sem])
    have qw14 : w1.cell? ⟨w.heap.size, 4, none⟩ = some (.int .i64 a.m.th) := cell_later hb1 (by simp [go_sem])
    have qw15 : w1.cell? ⟨w.heap.size, 5, none⟩ = some (.int .i64 a.ck) := cell_later hb1 (by simp [go_sem])
    have qw16 : w1.cell? ⟨w.heap.size + 1, 0, none⟩ = some (.int .i64 p) := cell_later hb1 (by simp [go_sem])
    have qw17 : w1.cell? ⟨w.heap.size + 1, 1, none⟩ = some (.int .i64 q) := cell_later hb1 (by simp [go_sem])
    have qw18 : w1.cell? ⟨w.heap.size + 1, 2, none⟩ = some (.int .i64 r) := cell_later hb1 (by simp [go_sem])
    have zqw1_0 := World.block_lt_of_cell? _ _ qw10
    dsimp only at zqw1_0
    have zqw1_6 := World.block_lt_of_cell? _ _ qw16
    dsimp only at zqw1_6
    have H1 : Hid (Below w.heap.size w w1) := Lib.hid (below_after (by repeat (first | exact Below.refl _ _ | refine Below.drew ?_ | refine below_drewN ?_ _ | refine Below.setCell ?_ (by first | omega | (simp; done) | (simp; omega)) _ | refine Below.alloc ?_ (by first | omega | (simp; done) | (simp; omega)) _)) hb1 (by first | omega | (simp; done) | (simp; omega))); clear hb1
    have R1_0 := Lib.hid (HX.out.later H1.out)
    go_upto_region 5 with (go_at_call 9; (with_reducible refine (few_any _ _).mono ?_); (first | rw [FA.out]); rintro e w' ⟨rfl, rfl⟩)
    have hS : Below w1.heap.size w1 w1 := Below.refl _ _
    go_cut [7, 8] (fun s7 s8 wx => ∃ (Q : Nat) (x' : Int) (A3 : Option Addr) (m3 c3 : Nat), s7 = .pointer (some ⟨Q, 0, none⟩) ∧ s8 = .int .i64 E5 ∧ wx.cell? ⟨Q, 0, none⟩ = some (.int .i64 x') ∧ wx.cell? ⟨Q, 1, none⟩ = some (.slice A3 m3 c3) ∧ Lw a.ck u a.n E5 x' A3 m3 c3 wx ∧ Below w1.heap.size w1 wx)
    case first =>
      as_aux_lemma =>
        go_region_held3 (fun w' => w'.cell? ⟨w.heap.size, 0, none⟩ = some (.slice A a.n c) ∧ w'.cell? ⟨w.heap.size, 1, none⟩ = some (.int .i64 a.m.wd) ∧ w'.cell? ⟨w.heap.size, 2, none⟩ = some (.int .i64 a.m.mt) ∧ w'.cell? ⟨w.heap.size, 3, none⟩ = some (.int .i64 a.m.sk) ∧ w'.cell? ⟨w.heap.size, 4, none⟩ = some (.int .i64 a.m.th) ∧ w'.cell? ⟨w.heap.size, 5, none⟩ = some (.int .i64 a.ck) ∧ w'.cell? ⟨w.heap.size + 1, 0, none⟩ = some (.int .i64 p) ∧ w'.cell? ⟨w.heap.size + 1, 1, none⟩ = some (.int .i64 q) ∧ w'.cell? ⟨w.heap.size + 1, 2, none⟩ = some (.int .i64 r) ∧ Below w1.heap.size w1 w') (((go_split_ands; (repeat' apply And.intro) <;> ((repeat (first | (with_reducible assumption) | (with_reducible exact Below.refl _ _) | (with_reducible refine cell_alloc_later ?_ _) | (with_reducible refine cell_drewA ?_) | (with_reducible refine cellA (by with_reducible assumption) ?_) | (with_reducible refine belowA ?_ (by with_reducible assumption)) | (with_reducible refine below_alloc_top ?_ _) | (with_reducible refine Below.drew ?_) | (with_reducible refine cell_set_old ?_ (by with_reducible assumption)) | (with_reducible refine below_set_old ?_ (by with_reducible assumption)) | (with_reducible refine Below.setCell ?_ (by first | omega | (simp; done) | (simp; omega)) _) | (simp [go_sem, World.cell?_alloc_past, *]; done))); done))))
          (first
            | (go_split_ands; go_at_call 11; (with_reducible refine (HCA.out _ (R1_0.out.later (by with_reducible assumption))).mono ?_); rintro e w' ⟨A1, c1, rfl, hs, hb⟩; have hbA : BelA _ w' := hb; obtain ⟨hc', hf'⟩ := bcell hb; have hz' := hb.size; (try simp at hz'); (first | (have tF' := Nat.lt_of_succ_le hz') | (have tF' := Nat.lt_of_lt_of_le tF' hz') | skip); clear hb)
            | (go_split_ands; go_at_call 10; (with_reducible refine (HPL.out _ _ _ (by repeat (first | (with_reducible assumption) | (with_reducible refine SpAt.laterA (by with_reducible assumption) ?_) | (with_reducible refine SpAt.alloc ?_ _) | (with_reducible refine SpAt.drew ?_)))).mono ?_); rintro e w' ⟨x3, A3, m3, c3, rfl, hg3, hB3, hL3, hb⟩; have hbA : BelA _ w' := hb; obtain ⟨hc', hf'⟩ := bcell hb; have hz' := hb.size; (try simp at hz'); (first | (have tF' := Nat.lt_of_succ_le hz') | (have tF' := Nat.lt_of_lt_of_le tF' hz') | skip); clear hb))
        all_goals
          go_split_ands
          go_wp2_with fail
          go_meet
          exact ⟨_, x3, A3, m3, c3, rfl, rfl, (by first | (with_reducible assumption) | (simp [go_sem, World.cell?_alloc_past, *]; done)), (by first | (with_reducible assumption) | (simp [go_sem, World.cell?_alloc_past, *]; done)), (by repeat (first | (with_reducible assumption) | (with_reducible refine Lw.alloc ?_ _) | (with_reducible refine Lw.drew ?_) | (refine Lw.set ?_ _ _ _ (fun a e => by have q1 := hB3 a e; have q2 := hL3 a e; (try simp at q1); omega)))), (by first | (with_reducible assumption) | (simp [go_sem, World.cell?_alloc_past, *]; done))⟩
    case rest =>
      obtain ⟨Q, x3, A3, m3, c3, rfl, rfl, q0, q1, lw3, bel⟩ := hcut
      clear hS
      obtain ⟨wA, hw_⟩ : ∃ q_, q_ = wc := ⟨_, rfl⟩
      subst hw_
      have k2_0 := cell_later bel qw10
      have k2_1 := cell_later bel qw11
      have k2_2 := cell_later bel qw12
      have k2_3 := cell_later bel qw13
      have k2_4 := cell_later bel qw14
      have k2_5 := cell_later bel qw15
      have k2_6 := cell_later bel qw16
      have k2_7 := cell_later bel qw17
      have k2_8 := cell_later bel qw18
      have R2_0 := Lib.hid (R1_0.out.later bel)
      have B2 : Hid (Below w.heap.size w wA) := Lib.hid (below_then H1.out bel)
      clear qw10 qw11 qw12 qw13 qw14 qw15 qw16 qw17 qw18 R1_0 H1
      have z2_0 := World.block_lt_of_cell? _ _ k2_0
      (try dsimp only at z2_0)
      have z2_6 := World.block_lt_of_cell? _ _ k2_6
      (try dsimp only at z2_6)
      clear bel
      have L3 := Lib.hid lw3
      clear lw3
      go_wp2_with fail
      refine (HAE.out _ R2_0.out).mono ?_
      rintro e_ wB ⟨rfl, hb⟩
      have k3_0 := cell_later hb k2_0
      have k3_1 := cell_later hb k2_1
      have k3_2 := cell_later hb k2_2
      have k3_3 := cell_later hb k2_3
      have k3_4 := cell_later hb k2_4
      have k3_5 := cell_later hb k2_5
      have k3_6 := cell_later hb k2_6
      have k3_7 := cell_later hb k2_7
      have k3_8 := cell_later hb k2_8
      have k3_9 := cell_later hb q0
      have k3_10 := cell_later hb q1
      have R3_0 := Lib.hid (R2_0.out.later hb)
      have R3_1 := Lib.hid (L3.out.later hb)
      have B3 : Hid (Below w.heap.size w wB) := Lib.hid (below_then B2.out hb)
      clear k2_0 k2_1 k2_2 k2_3 k2_4 k2_5 k2_6 k2_7 k2_8 q0 q1 R2_0 L3 B2
      have z3_0 := World.block_lt_of_cell? _ _ k3_0
      (try dsimp only at z3_0)
      have z3_6 := World.block_lt_of_cell? _ _ k3_6
      (try dsimp only at z3_6)
      have z3_9 := World.block_lt_of_cell? _ _ k3_9
      (try dsimp only at z3_9)
      clear hb
      by_cases hE : ea = 0
      · have HRP' := Lib.hid (HRP.out hE)
        have PT' := Lib.hid (PT.out hE)
        have PS' := Lib.hid (PS.out hE)
        obtain ⟨n0, n16, xb⟩ := XB.out hE
        have HCO' := Lib.hid (HCO.out n0)
        have XB' := Lib.hid xb
        subst hE
        clear HRP PA PT PS HPL HCO XB xb
        go_wp2_with fail
        refine (HTE.out _).mono ?_
        rintro e_ wC ⟨rfl, hb⟩
        have k4_0 := cell_later hb k3_0
        have k4_1 := cell_later hb k3_1
        have k4_2 := cell_later hb k3_2
        have k4_3 := cell_later hb k3_3
        have k4_4 := cell_later hb k3_4
        have k4_5 := cell_later hb k3_5
        have k4_6 := cell_later hb k3_6
        have k4_7 := cell_later hb k3_7
        have k4_8 := cell_later hb k3_8
        have k4_9 := cell_later hb k3_9
        have k4_10 := cell_later hb k3_10
        have R4_0 := Lib.hid (R3_0.out.later hb)
        have R4_1 := Lib.hid (R3_1.out.later hb)
        have B4 : Hid (Below w.heap.size w wC) := Lib.hid (below_then B3.out hb)
        clear k3_0 k3_1 k3_2 k3_3 k3_4 k3_5 k3_6 k3_7 k3_8 k3_9 k3_10 R3_0 R3_1 B3
        have z4_0 := World.block_lt_of_cell? _ _ k4_0
        (try dsimp only at z4_0)
        have z4_6 := World.block_lt_of_cell? _ _ k4_6
        (try dsimp only at z4_6)
        have z4_9 := World.block_lt_of_cell? _ _ k4_9
        (try dsimp only at z4_9)
        clear hb
        by_cases hG : et = 0
        · have HRG := Lib.hid (HRP'.out hG)
          have PS2 := Lib.hid (PS'.out hG)
          subst hG
          clear HRP' PT' PS'
          go_wp2_with fail
          obtain ⟨wZa, hz_⟩ : ∃ q, q = wC.alloc (.cells #[.int .i64 0, .slice none 0 0] 33) := ⟨_, rfl⟩
          rw [← hz_]
          have hb0 : Below wC.heap.size wC wZa := by rw [hz_]; exact (Below.refl _ _).alloc (Nat.le_refl _) _
          have y0 : wZa.cell? ⟨wC.heap.size, 0, none⟩ = some (.int .i64 0) := by rw [hz_]; simp [go_sem]
          have yf0 : wZa.frozen? ⟨wC.heap.size, 0, none⟩ = false := by rw [hz_]; simp [go_sem]
          have y1 : wZa.cell? ⟨wC.heap.size, 1, none⟩ = some (.slice none 0 0) := by rw [hz_]; simp [go_sem]
          have yf1 : wZa.frozen? ⟨wC.heap.size, 1, none⟩ = false := by rw [hz_]; simp [go_sem]
          have yz : wC.heap.size < wZa.heap.size := by rw [hz_]; simp
          clear hz_
          refine (HRG.out _ (R4_0.out.later hb0)).mono ?_
          rintro e_ wNa ⟨xl, Al, ml, cl, rfl, lw_, hB_, hL_, hb⟩
          have yn0 := cell_later hb y0
          have yg0 := frozen_after hb y0 yf0
          have yn1 := cell_later hb y1
          have yg1 := frozen_after hb y1 yf1
          have yz2 := hb.size
          go_upto_region 12 with fail
          obtain ⟨wF, hw_⟩ : ∃ q, q = (wNa.setCell ⟨wC.heap.size, 0, none⟩ (.int .i64 xl)).setCell ⟨wC.heap.size, 1, none⟩ (.slice Al ml cl) := ⟨_, rfl⟩
          rw [← hw_]
          have hM : Below wC.heap.size wC wF := by rw [hw_]; exact ((Below.trans hb0 (hb.mono (by omega))).setCell (Nat.le_refl _) _).setCell (Nat.le_refl _) _
          have pa0 : wF.cell? ⟨wC.heap.size, 0, none⟩ = some (.int .i64 xl) := by rw [hw_]; exact setO (.inr (by dsimp only; omega)) (setS yn0)
          have pa1 : wF.cell? ⟨wC.heap.size, 1, none⟩ = some (.slice Al ml cl) := by rw [hw_]; exact setS (setO (.inr (by dsimp only; omega)) yn1)
          have LL := Lib.hid (show Lw _ _ _ _ _ _ _ _ wF by rw [hw_]; exact ((lw_.set _ _ _ (fun a e => by have := hB_ a e; omega)).set _ _ _ (fun a e => by have := hB_ a e; omega)))
          clear y0 y1 yf0 yf1 yn0 yn1 yg0 yg1 hb hb0 lw_ hB_ hL_ hw_ yz yz2
          have k5_0 := cell_later hM k4_0
          have k5_1 := cell_later hM k4_1
          have k5_2 := cell_later hM k4_2
          have k5_3 := cell_later hM k4_3
          have k5_4 := cell_later hM k4_4
          have k5_5 := cell_later hM k4_5
          have k5_6 := cell_later hM k4_6
          have k5_7 := cell_later hM k4_7
          have k5_8 := cell_later hM k4_8
          have k5_9 := cell_later hM k4_9
          have k5_10 := cell_later hM k4_10
          have R5_0 := Lib.hid (R4_0.out.later hM)
          have R5_1 := Lib.hid (R4_1.out.later hM)
          have B5 : Hid (Below w.heap.size w wF) := Lib.hid (below_then B4.out hM)
          clear k4_0 k4_1 k4_2 k4_3 k4_4 k4_5 k4_6 k4_7 k4_8 k4_9 k4_10 R4_0 R4_1 B4
          have z5_0 := World.block_lt_of_cell? _ _ k5_0
          (try dsimp only at z5_0)
          have z5_6 := World.block_lt_of_cell? _ _ k5_6
          (try dsimp only at z5_6)
          have z5_9 := World.block_lt_of_cell? _ _ k5_9
          (try dsimp only at z5_9)
          clear hM
          go_wp2_with fail
          refine (HSM.out _ _ _ _ _ _ _ _ _ R5_1.out LL.out).mono ?_
          rintro e_ wG ⟨rfl, hb⟩
          have k6_0 := cell_later hb k5_0
          have k6_1 := cell_later hb k5_1
          have k6_2 := cell_later hb k5_2
          have k6_3 := cell_later hb k5_3
          have k6_4 := cell_later hb k5_4
          have k6_5 := cell_later hb k5_5
          have k6_6 := cell_later hb k5_6
          have k6_7 := cell_later hb k5_7
          have k6_8 := cell_later hb k5_8
          have k6_9 := cell_later hb k5_9
          have k6_10 := cell_later hb k5_10
          have k6_11 := cell_later hb pa0
          have k6_12 := cell_later hb pa1
          have R6_0 := Lib.hid (R5_0.out.later hb)
          have R6_1 := Lib.hid (R5_1.out.later hb)
          have R6_2 := Lib.hid (LL.out.later hb)
          have B6 : Hid (Below w.heap.size w wG) := Lib.hid (below_then B5.out hb)
          clear k5_0 k5_1 k5_2 k5_3 k5_4 k5_5 k5_6 k5_7 k5_8 k5_9 k5_10 pa0 pa1 R5_0 R5_1 LL B5
          have z6_0 := World.block_lt_of_cell? _ _ k6_0
          (try dsimp only at z6_0)
          have z6_6 := World.block_lt_of_cell? _ _ k6_6
          (try dsimp only at z6_6)
          have z6_9 := World.block_lt_of_cell? _ _ k6_9
          (try dsimp only at z6_9)
          have z6_11 := World.block_lt_of_cell? _ _ k6_11
          (try dsimp only at z6_11)
          clear hb
          by_cases h5 : E5 = 0
          · have PS3 := PS2.out h5
            subst h5
            clear PS2
            cases h3 : inB b (-1000) 1000
            · have FX := Lib.hid h3
              clear PS3 HPM HCO' XB' h3
              go_wp2_with (go_at_call 16; (with_reducible refine (within_any _ _ _ _).mono ?_); rw [FX.out]; rintro e w' ⟨rfl, rfl⟩)
              go_ret
              exact ⟨by simp, B6.out⟩
            · have FX := Lib.hid h3
              have hx : -1000 ≤ b ∧ b ≤ 1000 := by simpa [inB] using h3
              clear h3
              have szG := B6.out.size
              have LBK := Lib.hid (Lw.block R6_1.out n0)
              go_wp2_with (go_at_call 16; (with_reducible refine (within_any _ _ _ _).mono ?_); rw [FX.out]; rintro e w' ⟨rfl, rfl⟩)
              refine (HCO'.out _ R6_0.out).mono ?_
              rintro e_ wH ⟨gm, cm, rfl, gm0, gm1, spw, hb⟩
              have k7_0 := cell_later hb k6_0
              have k7_1 := cell_later hb k6_1
              have k7_2 := cell_later hb k6_2
              have k7_3 := cell_later hb k6_3
              have k7_4 := cell_later hb k6_4
              have k7_5 := cell_later hb k6_5
              have k7_6 := cell_later hb k6_6
              have k7_7 := cell_later hb k6_7
              have k7_8 := cell_later hb k6_8
              have k7_9 := cell_later hb k6_9
              have k7_10 := cell_later hb k6_10
              have k7_11 := cell_later hb k6_11
              have k7_12 := cell_later hb k6_12
              have R7_0 := Lib.hid (R6_0.out.later hb)
              have R7_1 := Lib.hid (R6_1.out.later hb)
              have R7_2 := Lib.hid (R6_2.out.later hb)
              have B7 : Hid (Below w.heap.size w wH) := Lib.hid (below_then B6.out hb)
              clear k6_0 k6_1 k6_2 k6_3 k6_4 k6_5 k6_6 k6_7 k6_8 k6_9 k6_10 k6_11 k6_12 R6_0 R6_1 R6_2 B6
              have z7_0 := World.block_lt_of_cell? _ _ k7_0
              (try dsimp only at z7_0)
              have z7_6 := World.block_lt_of_cell? _ _ k7_6
              (try dsimp only at z7_6)
              have z7_9 := World.block_lt_of_cell? _ _ k7_9
              (try dsimp only at z7_9)
              have z7_11 := World.block_lt_of_cell? _ _ k7_11
              (try dsimp only at z7_11)
              clear hb
              have RS := Lib.hid spw
              clear spw
              have zgm : wG.heap.size ≤ gm := gm0
              have zgm1 := gm1
              clear gm0 gm1
              go_wp2_with fail
              obtain ⟨wI, hw_⟩ : ∃ q_, q_ = wH.alloc (.cells #[.slice (some ⟨gm, 0, none⟩) a.n cm, .int .i64 a.m.wd, .int .i64 a.m.mt, .int .i64 a.m.sk, .int .i64 a.m.th, .int .i64 a.ck] 26) := ⟨_, rfl⟩
              rw [← hw_]
              have hb : Below wH.heap.size wH wI := by rw [hw_]; exact (Below.refl _ _).alloc (Nat.le_refl _) _
              have n8_0 : wI.cell? ⟨wH.heap.size, 0, none⟩ = some (.slice (some ⟨gm, 0, none⟩) a.n cm) := by rw [hw_]; simp [go_sem]
              have n8_1 : wI.cell? ⟨wH.heap.size, 1, none⟩ = some (.int .i64 a.m.wd) := by rw [hw_]; simp [go_sem]
              have n8_2 : wI.cell? ⟨wH.heap.size, 2, none⟩ = some (.int .i64 a.m.mt) := by rw [hw_]; simp [go_sem]
              have n8_3 : wI.cell? ⟨wH.heap.size, 3, none⟩ = some (.int .i64 a.m.sk) := by rw [hw_]; simp [go_sem]
              have n8_4 : wI.cell? ⟨wH.heap.size, 4, none⟩ = some (.int .i64 a.m.th) := by rw [hw_]; simp [go_sem]
              have n8_5 : wI.cell? ⟨wH.heap.size, 5, none⟩ = some (.int .i64 a.ck) := by rw [hw_]; simp [go_sem]
              have k8_0 := cell_later hb k7_0
              have k8_1 := cell_later hb k7_1
              have k8_2 := cell_later hb k7_2
              have k8_3 := cell_later hb k7_3
              have k8_4 := cell_later hb k7_4
              have k8_5 := cell_later hb k7_5
              have k8_6 := cell_later hb k7_6
              have k8_7 := cell_later hb k7_7
              have k8_8 := cell_later hb k7_8
              have k8_9 := cell_later hb k7_9
              have k8_10 := cell_later hb k7_10
              have k8_11 := cell_later hb k7_11
              have k8_12 := cell_later hb k7_12
              have R8_0 := Lib.hid (R7_0.out.later hb)
              have R8_1 := Lib.hid (R7_1.out.later hb)
              have R8_2 := Lib.hid (R7_2.out.later hb)
              have R8_3 := Lib.hid (RS.out.later hb)
              have B8 : Hid (Below w.heap.size w wI) := Lib.hid (below_then B7.out hb)
              clear k7_0 k7_1 k7_2 k7_3 k7_4 k7_5 k7_6 k7_7 k7_8 k7_9 k7_10 k7_11 k7_12 R7_0 R7_1 R7_2 RS B7
              have z8_0 := World.block_lt_of_cell? _ _ k8_0
              (try dsimp only at z8_0)
              have z8_6 := World.block_lt_of_cell? _ _ k8_6
              (try dsimp only at z8_6)
              have z8_9 := World.block_lt_of_cell? _ _ k8_9
              (try dsimp only at z8_9)
              have z8_11 := World.block_lt_of_cell? _ _ k8_11
              (try dsimp only at z8_11)
              have zn8 : wH.heap.size < wI.heap.size := by rw [hw_]; simp
              clear hb hw_
              go_wp2_with fail
              go_loopw [12] (fun s12 wr => ∃ k : Nat, k ≤ a.n ∧ s12 = .int .i64 (k : Int) ∧ SpW gm a.n (sk k) wr ∧ Below wG.heap.size wI wr ∧ (∀ x_, x_ ≠ gm → x_ < wI.heap.size → wr.heap[x_]? = wI.heap[x_]?)) (fun s12 _ => a.n - (intOf s12).toNat)
              case atStart => exact ⟨0, Nat.zero_le _, rfl, by rw [S0.out]; exact R8_3.out, Below.refl _ _, fun _ _ _ => rfl⟩
              case round =>
                obtain ⟨k, hk, rfl, hR, hb, hk9⟩ := hrel
                have KC : Hid (∀ (x_ o_ : Nat) (v_ : Value), x_ ≠ gm → wI.cell? ⟨x_, o_, none⟩ = some v_ → wr.cell? ⟨x_, o_, none⟩ = some v_) := Lib.hid (fun x_ o_ v_ h0 h1 => by
                  have hl := World.block_lt_of_cell? _ _ h1
                  unfold World.cell? at h1 ⊢
                  rw [hk9 x_ h0 hl]; exact h1)
                have d0 := KC.out _ _ _ (by omega) k8_0
                have d1 := KC.out _ _ _ (by omega) k8_1
                have d2 := KC.out _ _ _ (by omega) k8_2
                have d3 := KC.out _ _ _ (by omega) k8_3
                have d4 := KC.out _ _ _ (by omega) k8_4
                have d5 := KC.out _ _ _ (by omega) k8_5
                have d6 := KC.out _ _ _ (by omega) k8_6
                have d7 := KC.out _ _ _ (by omega) k8_7
                have d8 := KC.out _ _ _ (by omega) k8_8
                have d9 := KC.out _ _ _ (by omega) k8_9
                have d10 := KC.out _ _ _ (by omega) k8_10
                have d11 := KC.out _ _ _ (by omega) k8_11
                have d12 := KC.out _ _ _ (by omega) k8_12
                have d13 := KC.out _ _ _ (by omega) n8_0
                have d14 := KC.out _ _ _ (by omega) n8_1
                have d15 := KC.out _ _ _ (by omega) n8_2
                have d16 := KC.out _ _ _ (by omega) n8_3
                have d17 := KC.out _ _ _ (by omega) n8_4
                have d18 := KC.out _ _ _ (by omega) n8_5
                have HR := Lib.hid hR
                have szr := hb.size
                clear KC hR
                by_cases hlt : k < a.n
                · obtain ⟨⟨c0, c1⟩, f0⟩ := HR.out k hlt
                  rw [SA.out] at c0 c1
                  have j0 : (0 : Int) ≤ (k : Int) := Int.natCast_nonneg _
                  have j1 : (k : Int) < (a.n : Int) := by omega
                  have j8 : (k : Int) < 1000 := by omega
                  obtain ⟨x0, x1⟩ := XB'.out k hlt
                  have NX : Hid (∀ j, (sk (k + 1) j).x = (if j = k then (a.p k).x + b else (sk k j).x) ∧ (sk (k + 1) j).z = (sk k j).z) := Lib.hid (fun j => SN.out k j)
                  generalize (a.p k).x = px at *
                  generalize (a.p k).z = pz at *
                  have v1 : IntKind.i64.wrap (px + b) = px + b := IntWalk.i64_in _ (by omega)
                  go_upto_region 20 with fail
                  refine wp_region_still_tail 13 (by kernel_rfl) (by kernel_rfl) ?_
                  simp only [List.take_succ_cons, List.take_zero, List.drop_succ_cons, List.drop_zero]
                  repeat still_step
                  refine wpStill_nil ?_
                  change wpList _ _ _ _ _ wr.drew
                  have f0 : wr.drew.frozen? ⟨gm, k * 2, none⟩ = false := f0
                  have c0 : wr.drew.cell? ⟨gm, k * 2, none⟩ = some (.int .i64 px) := c0
                  have HR2 : Hid (SpW gm a.n (sk k) wr.drew) := HR
                  have hb : Below wG.heap.size wI wr.drew := hb.drew
                  have hk9 : ∀ x_, x_ ≠ gm → x_ < wI.heap.size → wr.drew.heap[x_]? = wI.heap[x_]? := hk9
                  clear HR d0 d1 d2 d3 d4 d5 d6 d7 d8 d9 d10 d11 d12 d13 d14 d15 d16 d17 d18 c1
                  generalize wr.drew = wd at *
                  go_wp2_with fail
                  obtain ⟨wN, hw_⟩ : ∃ q_, q_ = wd.setCell ⟨gm, k * 2, none⟩ (.int .i64 (px + b)) := ⟨_, rfl⟩
                  rw [← hw_]
                  have R3 : SpW gm a.n (sk (k + 1)) wN := by rw [hw_]; exact HR2.out.put k (px + b) hlt (fun j _ => NX.out j)
                  have hb0 := hb
                  have hb : Below wG.heap.size wI wN := by rw [hw_]; exact hb.setCell (by dsimp only; omega) _
                  have hk9 : ∀ x_, x_ ≠ gm → x_ < wI.heap.size → wN.heap[x_]? = wI.heap[x_]? := by
                    rw [hw_]; exact fun x_ h0 h1 => ((grownBy_setCellI wd gm (k * 2) _).block x_ (by have := hb0.size; omega) (fun q => h0 (by cases q; rfl))).trans (hk9 x_ h0 h1)
                  clear hw_ hb0
                  go_roundw
                  case rel => exact ⟨k + 1, by omega, by go_num, R3, hb, hk9⟩
                  case measure => simp [intOf]; omega
                · have hk' : k = a.n := by omega
                  have kk : decide ((k : Int) < (a.n : Int)) = false := by simp; omega
                  subst hk'
                  have LR := Lib.hid (R8_1.out.over gm (fun a_ e_ => by have := LBK.out a_ e_; omega) hk9)
                  have HWR : Hid (Below w.heap.size w wr) := Lib.hid (B8.out.trans (hb.mono szG))
                  have SPR := Lib.hid HR.out.at
                  clear hb hk9 HR k8_0 k8_1 k8_2 k8_3 k8_4 k8_5 k8_6 k8_7 k8_8 k8_9 k8_10 k8_11 k8_12 n8_0 n8_1 n8_2 n8_3 n8_4 n8_5 R8_0 R8_1 R8_2 R8_3 B8
                  go_wp2_with fail
                  refine (HPM.out _ _ _ SPR.out).mono ?_
                  rintro e_ wK ⟨x9, A9, m9, c9, rfl, lw9, hB9, hL9, hb⟩
                  have k9_0 := cell_later hb d0
                  have k9_1 := cell_later hb d1
                  have k9_2 := cell_later hb d2
                  have k9_3 := cell_later hb d3
                  have k9_4 := cell_later hb d4
                  have k9_5 := cell_later hb d5
                  have k9_6 := cell_later hb d6
                  have k9_7 := cell_later hb d7
                  have k9_8 := cell_later hb d8
                  have k9_9 := cell_later hb d9
                  have k9_10 := cell_later hb d10
                  have k9_11 := cell_later hb d11
                  have k9_12 := cell_later hb d12
                  have k9_13 := cell_later hb d13
                  have k9_14 := cell_later hb d14
                  have k9_15 := cell_later hb d15
                  have k9_16 := cell_later hb d16
                  have k9_17 := cell_later hb d17
                  have k9_18 := cell_later hb d18
                  have R9_0 := Lib.hid (LR.out.later hb)
                  have B9 : Hid (Below w.heap.size w wK) := Lib.hid (below_then HWR.out hb)
                  clear d0 d1 d2 d3 d4 d5 d6 d7 d8 d9 d10 d11 d12 d13 d14 d15 d16 d17 d18 LR HWR
                  have z9_0 := World.block_lt_of_cell? _ _ k9_0
                  (try dsimp only at z9_0)
                  have z9_6 := World.block_lt_of_cell? _ _ k9_6
                  (try dsimp only at z9_6)
                  have z9_9 := World.block_lt_of_cell? _ _ k9_9
                  (try dsimp only at z9_9)
                  have z9_11 := World.block_lt_of_cell? _ _ k9_11
                  (try dsimp only at z9_11)
                  have z9_13 := World.block_lt_of_cell? _ _ k9_13
                  (try dsimp only at z9_13)
                  clear hb
                  have L9 := Lib.hid lw9
                  clear lw9 hB9 hL9
                  go_upto_region 22 with fail
                  obtain ⟨wL, hw_⟩ : ∃ q_, q_ = wK.alloc (.cells #[.int .i64 x9, .slice A9 m9 c9] 33) := ⟨_, rfl⟩
                  rw [← hw_]
                  have hb : Below wK.heap.size wK wL := by rw [hw_]; exact (Below.refl _ _).alloc (Nat.le_refl _) _
                  have n10_0 : wL.cell? ⟨wK.heap.size, 0, none⟩ = some (.int .i64 x9) := by rw [hw_]; simp [go_sem]
                  have n10_1 : wL.cell? ⟨wK.heap.size, 1, none⟩ = some (.slice A9 m9 c9) := by rw [hw_]; simp [go_sem]
                  have k10_0 := cell_later hb k9_0
                  have k10_1 := cell_later hb k9_1
                  have k10_2 := cell_later hb k9_2
                  have k10_3 := cell_later hb k9_3
                  have k10_4 := cell_later hb k9_4
                  have k10_5 := cell_later hb k9_5
                  have k10_6 := cell_later hb k9_6
                  have k10_7 := cell_later hb k9_7
                  have k10_8 := cell_later hb k9_8
                  have k10_9 := cell_later hb k9_9
                  have k10_10 := cell_later hb k9_10
                  have k10_11 := cell_later hb k9_11
                  have k10_12 := cell_later hb k9_12
                  have k10_13 := cell_later hb k9_13
                  have k10_14 := cell_later hb k9_14
                  have k10_15 := cell_later hb k9_15
                  have k10_16 := cell_later hb k9_16
                  have k10_17 := cell_later hb k9_17
                  have k10_18 := cell_later hb k9_18
                  have R10_0 := Lib.hid (R9_0.out.later hb)
                  have R10_1 := Lib.hid (L9.out.later hb)
                  have B10 : Hid (Below w.heap.size w wL) := Lib.hid (below_then B9.out hb)
                  clear k9_0 k9_1 k9_2 k9_3 k9_4 k9_5 k9_6 k9_7 k9_8 k9_9 k9_10 k9_11 k9_12 k9_13 k9_14 k9_15 k9_16 k9_17 k9_18 R9_0 L9 B9
                  have z10_0 := World.block_lt_of_cell? _ _ k10_0
                  (try dsimp only at z10_0)
                  have z10_6 := World.block_lt_of_cell? _ _ k10_6
                  (try dsimp only at z10_6)
                  have z10_9 := World.block_lt_of_cell? _ _ k10_9
                  (try dsimp only at z10_9)
                  have z10_11 := World.block_lt_of_cell? _ _ k10_11
                  (try dsimp only at z10_11)
                  have z10_13 := World.block_lt_of_cell? _ _ k10_13
                  (try dsimp only at z10_13)
                  have zn10 : wK.heap.size < wL.heap.size := by rw [hw_]; simp
                  clear hb hw_
                  rcases PS3 with h9 | h9
                  · subst h9
                    go_wp2_with fail
                    refine (HSM.out _ _ _ _ _ _ _ _ _ R10_1.out R10_0.out).mono ?_
                    rintro e_ wM ⟨rfl, hb⟩
                    have k11_0 := cell_later hb k10_0
                    have k11_1 := cell_later hb k10_1
                    have k11_2 := cell_later hb k10_2
                    have k11_3 := cell_later hb k10_3
                    have k11_4 := cell_later hb k10_4
                    have k11_5 := cell_later hb k10_5
                    have k11_6 := cell_later hb k10_6
                    have k11_7 := cell_later hb k10_7
                    have k11_8 := cell_later hb k10_8
                    have k11_9 := cell_later hb k10_9
                    have k11_10 := cell_later hb k10_10
                    have k11_11 := cell_later hb k10_11
                    have k11_12 := cell_later hb k10_12
                    have k11_13 := cell_later hb k10_13
                    have k11_14 := cell_later hb k10_14
                    have k11_15 := cell_later hb k10_15
                    have k11_16 := cell_later hb k10_16
                    have k11_17 := cell_later hb k10_17
                    have k11_18 := cell_later hb k10_18
                    have k11_19 := cell_later hb n10_0
                    have k11_20 := cell_later hb n10_1
                    have R11_0 := Lib.hid (R10_0.out.later hb)
                    have R11_1 := Lib.hid (R10_1.out.later hb)
                    have B11 : Hid (Below w.heap.size w wM) := Lib.hid (below_then B10.out hb)
                    clear k10_0 k10_1 k10_2 k10_3 k10_4 k10_5 k10_6 k10_7 k10_8 k10_9 k10_10 k10_11 k10_12 k10_13 k10_14 k10_15 k10_16 k10_17 k10_18 n10_0 n10_1 R10_0 R10_1 B10
                    have z11_0 := World.block_lt_of_cell? _ _ k11_0
                    (try dsimp only at z11_0)
                    have z11_6 := World.block_lt_of_cell? _ _ k11_6
                    (try dsimp only at z11_6)
                    have z11_9 := World.block_lt_of_cell? _ _ k11_9
                    (try dsimp only at z11_9)
                    have z11_11 := World.block_lt_of_cell? _ _ k11_11
                    (try dsimp only at z11_11)
                    have z11_13 := World.block_lt_of_cell? _ _ k11_13
                    (try dsimp only at z11_13)
                    have z11_19 := World.block_lt_of_cell? _ _ k11_19
                    (try dsimp only at z11_19)
                    clear hb
                    go_wp2
                    go_ret
                    exact ⟨by simp, B11.out⟩
                  · subst h9
                    go_wp2
                    go_ret
                    exact ⟨by simp, B10.out⟩
          · have n1 : (E5 != 0) = true := by simpa using h5
            clear PS2 HPM HCO' XB' h5
            go_wp2
            go_ret
            exact ⟨by simp, B6.out⟩
        · have e5 := (PT'.out hG).symm
          subst e5
          have hne := hG
          have n1 : (et == 0) = false := by simpa using hG
          have n2 : (et != 0) = true := by simpa using hG
          clear HRP' PT' PS' HPM HCO' XB' hG
          go_wp2_with fail
          obtain ⟨wF, hw_⟩ : ∃ q_, q_ = wC.alloc (.cells #[.int .i64 0, .slice none 0 0] 33) := ⟨_, rfl⟩
          rw [← hw_]
          have hb : Below wC.heap.size wC wF := by rw [hw_]; exact (Below.refl _ _).alloc (Nat.le_refl _) _
          have n5_0 : wF.cell? ⟨wC.heap.size, 0, none⟩ = some (.int .i64 0) := by rw [hw_]; simp [go_sem]
          have n5_1 : wF.cell? ⟨wC.heap.size, 1, none⟩ = some (.slice none 0 0) := by rw [hw_]; simp [go_sem]
          have k5_0 := cell_later hb k4_0
          have k5_1 := cell_later hb k4_1
          have k5_2 := cell_later hb k4_2
          have k5_3 := cell_later hb k4_3
          have k5_4 := cell_later hb k4_4
          have k5_5 := cell_later hb k4_5
          have k5_6 := cell_later hb k4_6
          have k5_7 := cell_later hb k4_7
          have k5_8 := cell_later hb k4_8
          have k5_9 := cell_later hb k4_9
          have k5_10 := cell_later hb k4_10
          have R5_0 := Lib.hid (R4_0.out.later hb)
          have R5_1 := Lib.hid (R4_1.out.later hb)
          have B5 : Hid (Below w.heap.size w wF) := Lib.hid (below_then B4.out hb)
          clear k4_0 k4_1 k4_2 k4_3 k4_4 k4_5 k4_6 k4_7 k4_8 k4_9 k4_10 R4_0 R4_1 B4
          have z5_0 := World.block_lt_of_cell? _ _ k5_0
          (try dsimp only at z5_0)
          have z5_6 := World.block_lt_of_cell? _ _ k5_6
          (try dsimp only at z5_6)
          have z5_9 := World.block_lt_of_cell? _ _ k5_9
          (try dsimp only at z5_9)
          have zn5 : wC.heap.size < wF.heap.size := by rw [hw_]; simp
          clear hb hw_
          have Lz := Lib.hid (Lw.none a.ck u a.n et wF hne)
          refine (HSM.out _ _ _ _ _ _ _ _ _ R5_1.out Lz.out).mono ?_
          rintro e_ wG ⟨rfl, hb⟩
          have k6_0 := cell_later hb k5_0
          have k6_1 := cell_later hb k5_1
          have k6_2 := cell_later hb k5_2
          have k6_3 := cell_later hb k5_3
          have k6_4 := cell_later hb k5_4
          have k6_5 := cell_later hb k5_5
          have k6_6 := cell_later hb k5_6
          have k6_7 := cell_later hb k5_7
          have k6_8 := cell_later hb k5_8
          have k6_9 := cell_later hb k5_9
          have k6_10 := cell_later hb k5_10
          have k6_11 := cell_later hb n5_0
          have k6_12 := cell_later hb n5_1
          have R6_0 := Lib.hid (R5_0.out.later hb)
          have R6_1 := Lib.hid (R5_1.out.later hb)
          have R6_2 := Lib.hid (Lz.out.later hb)
          have B6 : Hid (Below w.heap.size w wG) := Lib.hid (below_then B5.out hb)
          clear k5_0 k5_1 k5_2 k5_3 k5_4 k5_5 k5_6 k5_7 k5_8 k5_9 k5_10 n5_0 n5_1 R5_0 R5_1 Lz B5
          have z6_0 := World.block_lt_of_cell? _ _ k6_0
          (try dsimp only at z6_0)
          have z6_6 := World.block_lt_of_cell? _ _ k6_6
          (try dsimp only at z6_6)
          have z6_9 := World.block_lt_of_cell? _ _ k6_9
          (try dsimp only at z6_9)
          have z6_11 := World.block_lt_of_cell? _ _ k6_11
          (try dsimp only at z6_11)
          clear hb
          go_wp2
          go_ret
          exact ⟨by simp, B6.out⟩
      · have e5 := (PA.out hE).symm
        subst e5
        have hne := hE
        have n1 : (ea == 0) = false := by simpa using hE
        have n2 : (ea != 0) = true := by simpa using hE
        clear HRP HTE PA PT PS HPL HPM HCO XB hE
        go_wp2_with fail
        obtain ⟨wF, hw_⟩ : ∃ q_, q_ = wB.alloc (.cells #[.int .i64 0, .slice none 0 0] 33) := ⟨_, rfl⟩
        rw [← hw_]
        have hb : Below wB.heap.size wB wF := by rw [hw_]; exact (Below.refl _ _).alloc (Nat.le_refl _) _
        have n4_0 : wF.cell? ⟨wB.heap.size, 0, none⟩ = some (.int .i64 0) := by rw [hw_]; simp [go_sem]
        have n4_1 : wF.cell? ⟨wB.heap.size, 1, none⟩ = some (.slice none 0 0) := by rw [hw_]; simp [go_sem]
        have k4_0 := cell_later hb k3_0
        have k4_1 := cell_later hb k3_1
        have k4_2 := cell_later hb k3_2
        have k4_3 := cell_later hb k3_3
        have k4_4 := cell_later hb k3_4
        have k4_5 := cell_later hb k3_5
        have k4_6 := cell_later hb k3_6
        have k4_7 := cell_later hb k3_7
        have k4_8 := cell_later hb k3_8
        have k4_9 := cell_later hb k3_9
        have k4_10 := cell_later hb k3_10
        have R4_0 := Lib.hid (R3_0.out.later hb)
        have R4_1 := Lib.hid (R3_1.out.later hb)
        have B4 : Hid (Below w.heap.size w wF) := Lib.hid (below_then B3.out hb)
        clear k3_0 k3_1 k3_2 k3_3 k3_4 k3_5 k3_6 k3_7 k3_8 k3_9 k3_10 R3_0 R3_1 B3
        have z4_0 := World.block_lt_of_cell? _ _ k4_0
        (try dsimp only at z4_0)
        have z4_6 := World.block_lt_of_cell? _ _ k4_6
        (try dsimp only at z4_6)
        have z4_9 := World.block_lt_of_cell? _ _ k4_9
        (try dsimp only at z4_9)
        have zn4 : wB.heap.size < wF.heap.size := by rw [hw_]; simp
        clear hb hw_
        have Lz := Lib.hid (Lw.none a.ck u a.n ea wF hne)
        refine (HSM.out _ _ _ _ _ _ _ _ _ R4_1.out Lz.out).mono ?_
        rintro e_ wG ⟨rfl, hb⟩
        have k5_0 := cell_later hb k4_0
        have k5_1 := cell_later hb k4_1
        have k5_2 := cell_later hb k4_2
        have k5_3 := cell_later hb k4_3
        have k5_4 := cell_later hb k4_4
        have k5_5 := cell_later hb k4_5
        have k5_6 := cell_later hb k4_6
        have k5_7 := cell_later hb k4_7
        have k5_8 := cell_later hb k4_8
        have k5_9 := cell_later hb k4_9
        have k5_10 := cell_later hb k4_10
        have k5_11 := cell_later hb n4_0
        have k5_12 := cell_later hb n4_1
        have R5_0 := Lib.hid (R4_0.out.later hb)
        have R5_1 := Lib.hid (R4_1.out.later hb)
        have R5_2 := Lib.hid (Lz.out.later hb)
        have B5 : Hid (Below w.heap.size w wG) := Lib.hid (below_then B4.out hb)
        clear k4_0 k4_1 k4_2 k4_3 k4_4 k4_5 k4_6 k4_7 k4_8 k4_9 k4_10 n4_0 n4_1 R4_0 R4_1 Lz B4
        have z5_0 := World.block_lt_of_cell? _ _ k5_0
        (try dsimp only at z5_0)
        have z5_6 := World.block_lt_of_cell? _ _ k5_6
        (try dsimp only at z5_6)
        have z5_9 := World.block_lt_of_cell? _ _ k5_9
        (try dsimp only at z5_9)
        have z5_11 := World.block_lt_of_cell? _ _ k5_11
        (try dsimp only at z5_11)
        clear hb
        go_wp2
        go_ret
        exact ⟨by simp, B5.out⟩
  · have FA : Hid (decide ((a.n : Int) ≤ 18) = false) := Lib.hid (by simp; omega)
    clear h1 hA
    go_enter Tryz.func3, Tryz.ntmps3
    go_wp2_with fail
    refine (AWK.out _ (LH.out.later (by repeat (first | exact Below.refl _ _ | refine Below.drew ?_ | refine below_drewN ?_ _ | refine Below.setCell ?_ (by first | omega | (simp; done) | (simp; omega)) _ | refine Below.alloc ?_ (by first | omega | (simp; done) | (simp; omega)) _)))).mono ?_
    rintro e w1 ⟨rfl, hb1⟩
    have qw10 : w1.cell? ⟨w.heap.size, 0, none⟩ = some (.slice A a.n c) := cell_later hb1 (by simp [go_sem])
    have qw11 : w1.cell? ⟨w.heap.size, 1, none⟩ = some (.int .i64 a.m.wd) := cell_later hb1 (by simp [go_sem])
    have qw12 : w1.cell? ⟨w.heap.size, 2, none⟩ = some (.int .i64 a.m.mt) := cell_later hb1 (by simp [go_sem])
    have qw13 : w1.cell? ⟨w.heap.size, 3, none⟩ = some (.int .i64 a.m.sk) := cell_later hb1 (by simp [go_sem])
    have qw14 : w1.cell? ⟨w.heap.size, 4, none⟩ = some (.int .i64 a.m.th) := cell_later hb1 (by simp [go_sem])
    have qw15 : w1.cell? ⟨w.heap.size, 5, none⟩ = some (.int .i64 a.ck) := cell_later hb1 (by simp [go_sem])
    have qw16 : w1.cell? ⟨w.heap.size + 1, 0, none⟩ = some (.int .i64 p) := cell_later hb1 (by simp [go_sem])
    have qw17 : w1.cell? ⟨w.heap.size + 1, 1, none⟩ = some (.int .i64 q) := cell_later hb1 (by simp [go_sem])
    have qw18 : w1.cell? ⟨w.heap.size + 1, 2, none⟩ = some (.int .i64 r) := cell_later hb1 (by simp [go_sem])
    have zqw1_0 := World.block_lt_of_cell? _ _ qw10
    dsimp only at zqw1_0
    have zqw1_6 := World.block_lt_of_cell? _ _ qw16
    dsimp only at zqw1_6
    have H1 : Hid (Below w.heap.size w w1) := Lib.hid (below_after (by repeat (first | exact Below.refl _ _ | refine Below.drew ?_ | refine below_drewN ?_ _ | refine Below.setCell ?_ (by first | omega | (simp; done) | (simp; omega)) _ | refine Below.alloc ?_ (by first | omega | (simp; done) | (simp; omega)) _)) hb1 (by first | omega | (simp; done) | (simp; omega))); clear hb1
    go_wp2_with (go_at_call 9; (with_reducible refine (few_any _ _).mono ?_); (first | rw [FA.out]); rintro e w' ⟨rfl, rfl⟩)
    go_ret
    exact ⟨rfl, H1.out⟩
end Go.Proofs.YtkkaomgdlnejcaaGreatDoor
