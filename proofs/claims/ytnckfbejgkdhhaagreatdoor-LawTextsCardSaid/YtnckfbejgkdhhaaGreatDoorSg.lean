/- the reference's decimals -/
import Derived.Test.YtnckfbejgkdhhaaGreatDoorA5
import Derived.Test.YtnckfbejgkdhhaaGreatDoorSo
namespace Go.Proofs.YtnckfbejgkdhhaaGreatDoor
open Go.RowKit RayM
set_option linter.unusedSimpArgs false
set_option linter.unusedVariables false
set_option maxRecDepth 100000 in
set_option maxHeartbeats 1000000 in
theorem bSize_any (n : Int) (w : World) (h : n.natAbs < 65536) :
    Calls Tryz.prog 47 #[.int .i64 n] w fun e w' => e = .returned (.int .i64 (n.natAbs : Int)) ∧ w = w' := by
  have ew : IntKind.i64.wrap (-n) = -n := IntWalk.i64_in _ (by omega)
  have hm : (n.natAbs : Int) = max n (-n) := by omega
  rw [hm]
  go_enter Tryz.func47, Tryz.ntmps47
  go_wp2
  go_ret
  exact ⟨rfl, rfl⟩
theorem conv_byte (W : World) (g : Nat) (b : UInt8) (x : Int) (hx : x = (b.toNat : Int)) (h : W.cell? ⟨g, 0, none⟩ = some (.int .u8 x)) :
    (convert 77 9 (.slice (some ⟨g, 0, none⟩) 1 1)).run Tryz.prog W = .ok (.string ⟨#[b]⟩) W := by
  subst hx
  exact run_convert_bytes_back W _ _ _ ⟨g, 0, none⟩ 1 [b] Tryz.underlying77 (by kernel_rfl) (by kernel_rfl) (fun j hj => by
    have : j = 0 := by simpa using hj
    subst this
    exact h)
theorem tmod_abs (m : Int) : (Int.tmod m 10).natAbs = m.natAbs % 10 := by
  rw [Int.natAbs_tmod]
  exact Eq.refl _
theorem tdiv_abs (m : Int) : (Int.tdiv m 10).natAbs = m.natAbs / 10 := by
  rw [Int.natAbs_tdiv]
  exact Eq.refl _
theorem tdiv_bound (m : Int) (h0 : -9223372036854775808 ≤ m) (h1 : m ≤ 9223372036854775807) : -9223372036854775808 ≤ Int.tdiv m 10 ∧ Int.tdiv m 10 ≤ 9223372036854775807 := by
  have := tdiv_abs m
  omega
theorem app_bytes (a b : List UInt8) : (⟨a.toArray⟩ : ByteArray) ++ ⟨b.toArray⟩ = ⟨(a ++ b).toArray⟩ := by
  apply ByteArray.ext
  simp
theorem dd_zero (x : List UInt8) : Tb.dd 0 x = x := by simp [Tb.dd]
theorem dd_len (u : Nat) (x : List UInt8) (h : u ≤ 9223372036854775808) (k : Nat) (y : List UInt8) (e : Tb.dd k y = Tb.dd u x) : y.length ≤ x.length + 20 := by
  have e1 : (Tb.dd k y).length = (Tb.dd u x).length := by rw [e]
  have h1 := Tb.digits_len 19 u (by omega)
  unfold Tb.dd at e1
  split at e1 <;> split at e1
  · omega
  · rw [List.length_append] at e1; omega
  · rw [List.length_append] at e1; omega
  · rw [List.length_append, List.length_append] at e1; omega
theorem size_list (x : List UInt8) : (⟨x.toArray⟩ : ByteArray).size = x.length := by simp [ByteArray.size]
theorem byte_val (k : Nat) (h : k < 10) : ((48 : Int) + (k : Int)) = ((UInt8.ofNat (48 + k)).toNat : Int) := by
  rw [(Tb.dig_ofNat k h).2]; omega
set_option maxRecDepth 100000 in
set_option maxHeartbeats 2000000 in
theorem decimal_any (n : Int) (w : World) (h0 : -9223372036854775808 ≤ n) (h1 : n ≤ 9223372036854775807) :
    Calls Tryz.prog 28 #[.int .i64 n] w fun e w' => e = .returned (.string ⟨(Lib.itoa n).toArray⟩) ∧ Below w.heap.size w w' := by
  by_cases hz : n = 0
  · subst hz
    have e : Lib.itoa 0 = [48] := by simp [Lib.itoa, Lib.decDigits]
    rw [e]
    go_enter Tryz.func28, Tryz.ntmps28
    go_wp2
    all_goals (first | (exact bodyPost_ret (v := .string ⟨#[48]⟩) (by simp [results, Tryz.results28, go_sem]) rfl ⟨rfl, Below.refl _ _⟩) | trace_state)
  · have he := Tb.dd_itoa n hz
    have HE := Lib.hid he; clear he
    have hz' : (n == 0) = false := by simpa using hz
    by_cases hn : n < 0
    all_goals
      first | rw [if_pos hn] at HE | rw [if_neg hn] at HE
      go_enter Tryz.func28, Tryz.ntmps28
      go_wp2
      go_loopw [0, 3] (fun s0 s3 wr => ∃ (m : Int) (x : List UInt8), s0 = .int .i64 m ∧ s3 = .string ⟨x.toArray⟩ ∧ Tb.dd m.natAbs x = Tb.dd n.natAbs [] ∧ -9223372036854775808 ≤ m ∧ m ≤ 9223372036854775807 ∧ Below w.heap.size w wr) (fun s0 _ _ => (intOf s0).natAbs)
      case atStart => exact ⟨n, [], rfl, rfl, rfl, h0, h1, Below.refl _ _⟩
      case round =>
        obtain ⟨m, x, rfl, rfl, hd, hm0, hm1, hb⟩ := hrel
        have hxl := dd_len n.natAbs [] (by omega) m.natAbs x hd
        rw [List.length_nil] at hxl
        have hxs := size_list x
        have hx0 : (⟨#[]⟩ : ByteArray).size = 0 := rfl
        have hx1 : (⟨#[45]⟩ : ByteArray).size = 1 := rfl
        have hx2 : ∀ b : UInt8, (⟨#[b]⟩ : ByteArray).size = 1 := fun b => rfl
        by_cases hm : m = 0
        · subst hm
          have hx : x = Tb.dd n.natAbs [] := by rw [← hd]; exact (dd_zero x).symm
          rw [← hx] at HE
          clear hx hd
          go_wp2
          rw [HE.out]
          exact bodyPost_ret (v := .string ⟨(_ ++ x).toArray⟩) (by simp only [← app_bytes]; simp [results, Tryz.results28, go_sem]) rfl ⟨rfl, hb⟩
        · have h10 : m.natAbs % 10 < 10 := Nat.mod_lt _ (by decide)
          have hb0 := tdiv_bound m hm0 hm1
          have ha := tmod_abs m
          have hq := tdiv_abs m
          have hst := Tb.dd_step m.natAbs x (by omega)
          have hbv := byte_val _ h10
          obtain ⟨b, hbb⟩ : ∃ b, UInt8.ofNat (48 + m.natAbs % 10) = b := ⟨_, rfl⟩
          rw [hbb] at hst hbv
          have hcv : (convert 77 9 (.slice (some ⟨wr.heap.size, 0, none⟩) 1 1)).run Tryz.prog (wr.alloc (.cells #[.int .u8 (48 + (m.natAbs : Int) % 10)] 5)) = .ok (.string ⟨#[b]⟩) (wr.alloc (.cells #[.int .u8 (48 + (m.natAbs : Int) % 10)] 5)) :=
            conv_byte _ _ _ _ (by rw [← hbv]) (by simp [go_sem])
          clear hbb hbv
          go_wp2_with (go_at_call 47; (with_reducible refine (bSize_any _ _ (by omega)).mono ?_); rintro e w' ⟨rfl, rfl⟩)
          go_roundw
          case rel => exact ⟨_, _, rfl, congrArg Value.string (app_bytes [b] x), by rw [hq, ← hd, hst]; rfl, hb0.1, hb0.2, hb.alloc hb.size _⟩
          case measure => show (Int.tdiv m 10).natAbs < m.natAbs; rw [hq]; omega
end Go.Proofs.YtnckfbejgkdhhaaGreatDoor
