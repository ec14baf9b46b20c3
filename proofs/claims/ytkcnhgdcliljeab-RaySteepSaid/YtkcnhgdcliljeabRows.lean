/-
  No cell of these rows narrows 'for every input' (looked for: loops, veiled, ifaces, maps, wideKeys, modest, calm, conditions, laid).
  DERIVED. THE GIVEN ROWS OF THIS SEAT. 4 by the template 'for every input the law returns true; each argument reads behind the call as it read before'; 0 by the template 'total and deterministic' (their statements: YtkcnhgdcliljeabTotals.lean).
  GIVEN WITH THE SEED: the statements are not yours to turn. If you find one false, say at which input.
  Laid BY PROGRAM, IN A SANDBOX (cutbox-rows.mjs): the forced cells as the released guide's own fill.sh prints them over the translation 6ea1aaba7e0eb466… (all of the seat's roots in one cut). By AI agents, Wed Nov 11 2026. No macro, syntax, notation, axiom, sorry.
-/
import Derived.Test.YtkcnhgdcliljeabChecked
import GoSem.Claim
import GoSem.ClaimJoined
import GoSem.ClaimMapViews
import Derived.JoinedTies
import Derived.KernelRfl
namespace Go.Proofs.Ytkcnhgdcliljeab
/- THE CELL 'sum', in the pinned program and in every row, IS THE sha256 OF THE DUMP (.gsa) THAT YtkcnhgdcliljeabProg.lean LOADS. Nothing in Lean hashes anything: it is a label: what it is worth is what the hold of that sum in a sandbox is worth. -/
noncomputable def Try.pinned : Pinned := { name := "ytkcnhgdcliljeab", sum := "6ea1aaba7e0eb46632f2ba6fb77553694c07761b7491caf2fb7ac4d21038c4d3", checked := Try.checked }
namespace Rows
def none {H : Type} : Left H := { results := [], args := [] }

/-- 'couplantlaw01.RaySnell': WHATEVER THE INPUT: true; the input reads as it did. -/
def raySnellSpec : ChangeSpec := { name := "raySnell", fn := fun _ => fun
  | [d1, d2, d3] => { results := [.lit (.bool true)], args := [d1, d2, d3] }
  | _ => none }
def raySnellRow : OpenClaim := { program := "ytkcnhgdcliljeab", sum := "6ea1aaba7e0eb46632f2ba6fb77553694c07761b7491caf2fb7ac4d21038c4d3", func := "couplant/couplantlaw01.RaySnell", spec := "raySnell", unfollowed := true, recurses := true, apart := false }
def RaySnellSaid : Prop := raySnellRow.holds Try.pinned (OpenSpec.ofChange raySnellSpec)

/-- ITS FALSE NEIGHBOUR: 'it returns false'. Refute it at one input. -/
def raySnellWrong : ChangeSpec := { name := "raySnell", fn := fun _ => fun
  | [d1, d2, d3] => { results := [.lit (.bool false)], args := [d1, d2, d3] }
  | _ => none }
def RaySnellWrongFalsely : Prop := raySnellRow.holds Try.pinned (OpenSpec.ofChange raySnellWrong)

/-- 'couplantlaw01.RaySteep': WHATEVER THE INPUT: true; the input reads as it did. -/
def raySteepSpec : ChangeSpec := { name := "raySteep", fn := fun _ => fun
  | [d1, d2, d3] => { results := [.lit (.bool true)], args := [d1, d2, d3] }
  | _ => none }
def raySteepRow : OpenClaim := { program := "ytkcnhgdcliljeab", sum := "6ea1aaba7e0eb46632f2ba6fb77553694c07761b7491caf2fb7ac4d21038c4d3", func := "couplant/couplantlaw01.RaySteep", spec := "raySteep", unfollowed := true, recurses := true, apart := false }
def RaySteepSaid : Prop := raySteepRow.holds Try.pinned (OpenSpec.ofChange raySteepSpec)

/-- ITS FALSE NEIGHBOUR: 'it returns false'. Refute it at one input. -/
def raySteepWrong : ChangeSpec := { name := "raySteep", fn := fun _ => fun
  | [d1, d2, d3] => { results := [.lit (.bool false)], args := [d1, d2, d3] }
  | _ => none }
def RaySteepWrongFalsely : Prop := raySteepRow.holds Try.pinned (OpenSpec.ofChange raySteepWrong)

/-- 'couplanttop.TopNoFasterWay': WHATEVER THE INPUT: true; the input reads as it did. -/
def topNoFasterWaySpec : ChangeSpec := { name := "topNoFasterWay", fn := fun _ => fun
  | [d1, d2, d3] => { results := [.lit (.bool true)], args := [d1, d2, d3] }
  | _ => none }
def topNoFasterWayRow : OpenClaim := { program := "ytkcnhgdcliljeab", sum := "6ea1aaba7e0eb46632f2ba6fb77553694c07761b7491caf2fb7ac4d21038c4d3", func := "couplant/couplanttop.TopNoFasterWay", spec := "topNoFasterWay", unfollowed := true, recurses := true, apart := false }
def TopNoFasterWaySaid : Prop := topNoFasterWayRow.holds Try.pinned (OpenSpec.ofChange topNoFasterWaySpec)

/-- ITS FALSE NEIGHBOUR: 'it returns false'. Refute it at one input. -/
def topNoFasterWayWrong : ChangeSpec := { name := "topNoFasterWay", fn := fun _ => fun
  | [d1, d2, d3] => { results := [.lit (.bool false)], args := [d1, d2, d3] }
  | _ => none }
def TopNoFasterWayWrongFalsely : Prop := topNoFasterWayRow.holds Try.pinned (OpenSpec.ofChange topNoFasterWayWrong)

/-- 'couplanttop.TopSnellPasses': WHATEVER THE INPUT: true; the input reads as it did. -/
def topSnellPassesSpec : ChangeSpec := { name := "topSnellPasses", fn := fun _ => fun
  | [d] => { results := [.lit (.bool true)], args := [d] }
  | _ => none }
def topSnellPassesRow : OpenClaim := { program := "ytkcnhgdcliljeab", sum := "6ea1aaba7e0eb46632f2ba6fb77553694c07761b7491caf2fb7ac4d21038c4d3", func := "couplant/couplanttop.TopSnellPasses", spec := "topSnellPasses", unfollowed := true, recurses := true, apart := false }
def TopSnellPassesSaid : Prop := topSnellPassesRow.holds Try.pinned (OpenSpec.ofChange topSnellPassesSpec)

/-- ITS FALSE NEIGHBOUR: 'it returns false'. Refute it at one input. -/
def topSnellPassesWrong : ChangeSpec := { name := "topSnellPasses", fn := fun _ => fun
  | [d] => { results := [.lit (.bool false)], args := [d] }
  | _ => none }
def TopSnellPassesWrongFalsely : Prop := topSnellPassesRow.holds Try.pinned (OpenSpec.ofChange topSnellPassesWrong)

/- THE SECOND FORM. 'bulk': how many values and letters a reading holds, each counted each time it is reached (what is shared counts as often as it is met; a slice's spare places count too). A statement '..UptoSaid' is the law's where the arguments, and the package variables that the reading takes, are together of bulk at most 1048576: NARROWER than '..Said'. Prove '..Said' where nothing that the law and all that it calls make is longer than what came in: it says more and counts as full. Else prove '..UptoSaid'. A law counts once. -/
mutual
def uptoBulk {H : Type} : DataW H → Nat
  | .lit (.string bytes) => bytes.length + 1
  | .lit _ => 1
  | .nil => 1
  | .ptr d => uptoBulk d + 1
  | .slice elems spare => uptoBulkAll elems + uptoBulkAll spare + 1
  | .agg parts => uptoBulkAll parts + 1
  | .iface _ d => uptoBulk d + 1
  | .map entries => uptoBulkEntries entries + 1
  | .held _ => 1
def uptoBulkAll {H : Type} : List (DataW H) → Nat
  | [] => 0
  | d :: r => uptoBulk d + uptoBulkAll r
def uptoBulkEntries {H : Type} : List (Lit × DataW H) → Nat
  | [] => 0
  | x :: r => uptoBulkEntry x + uptoBulkEntries r
def uptoBulkEntry {H : Type} : Lit × DataW H → Nat
  | (.string bytes, d) => bytes.length + uptoBulk d + 1
  | (_, d) => uptoBulk d + 1
 end
def uptoSmall : (H : Type) → List (DataW H) → Bool := fun _ ds => decide (uptoBulkAll ds ≤ 1048576)
def OpenSpec.upto (s : _root_.Go.ChangeSpec) : _root_.Go.OpenSpec := { _root_.Go.OpenSpec.ofChange s with cond := some uptoSmall }

/-- 'couplantlaw01.RaySnell', WHERE WHAT IT READS IS OF BULK AT MOST 1048576: true; the input reads as it did. -/
def raySnellUptoRow : OpenClaim := { program := "ytkcnhgdcliljeab", sum := "6ea1aaba7e0eb46632f2ba6fb77553694c07761b7491caf2fb7ac4d21038c4d3", func := "couplant/couplantlaw01.RaySnell", spec := "raySnell", unfollowed := true, recurses := true, apart := false, narrowed := true }
def RaySnellUptoSaid : Prop := raySnellUptoRow.holds Try.pinned (OpenSpec.upto raySnellSpec)

/-- 'couplantlaw01.RaySteep', WHERE WHAT IT READS IS OF BULK AT MOST 1048576: true; the input reads as it did. -/
def raySteepUptoRow : OpenClaim := { program := "ytkcnhgdcliljeab", sum := "6ea1aaba7e0eb46632f2ba6fb77553694c07761b7491caf2fb7ac4d21038c4d3", func := "couplant/couplantlaw01.RaySteep", spec := "raySteep", unfollowed := true, recurses := true, apart := false, narrowed := true }
def RaySteepUptoSaid : Prop := raySteepUptoRow.holds Try.pinned (OpenSpec.upto raySteepSpec)

/-- 'couplanttop.TopNoFasterWay', WHERE WHAT IT READS IS OF BULK AT MOST 1048576: true; the input reads as it did. -/
def topNoFasterWayUptoRow : OpenClaim := { program := "ytkcnhgdcliljeab", sum := "6ea1aaba7e0eb46632f2ba6fb77553694c07761b7491caf2fb7ac4d21038c4d3", func := "couplant/couplanttop.TopNoFasterWay", spec := "topNoFasterWay", unfollowed := true, recurses := true, apart := false, narrowed := true }
def TopNoFasterWayUptoSaid : Prop := topNoFasterWayUptoRow.holds Try.pinned (OpenSpec.upto topNoFasterWaySpec)

/-- 'couplanttop.TopSnellPasses', WHERE WHAT IT READS IS OF BULK AT MOST 1048576: true; the input reads as it did. -/
def topSnellPassesUptoRow : OpenClaim := { program := "ytkcnhgdcliljeab", sum := "6ea1aaba7e0eb46632f2ba6fb77553694c07761b7491caf2fb7ac4d21038c4d3", func := "couplant/couplanttop.TopSnellPasses", spec := "topSnellPasses", unfollowed := true, recurses := true, apart := false, narrowed := true }
def TopSnellPassesUptoSaid : Prop := topSnellPassesUptoRow.holds Try.pinned (OpenSpec.upto topSnellPassesSpec)

end Rows
end Go.Proofs.Ytkcnhgdcliljeab
