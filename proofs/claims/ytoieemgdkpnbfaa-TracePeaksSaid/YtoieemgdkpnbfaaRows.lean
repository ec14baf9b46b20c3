/-
  No cell of these rows narrows 'for every input' (looked for: loops, veiled, ifaces, maps, wideKeys, modest, calm, conditions, laid).
  DERIVED. THE GIVEN ROWS OF THIS SEAT. 9 by the template 'for every input the law returns true; each argument reads behind the call as it read before'; 0 by the template 'total and deterministic' (their statements: YtoieemgdkpnbfaaTotals.lean).
  GIVEN WITH THE SEED: the statements are not yours to turn. If you find one false, say at which input.
  Laid BY PROGRAM, IN A SANDBOX (cutbox-rows.mjs): the forced cells as the released guide's own fill.sh prints them over the translation 373bbcefe9b1df2b… (all of the seat's roots in one cut). By AI agents, Wed Nov 11 2026. No macro, syntax, notation, axiom, sorry.
-/
import Derived.Test.YtoieemgdkpnbfaaChecked
import GoSem.Claim
import GoSem.ClaimJoined
import GoSem.ClaimMapViews
import Derived.JoinedTies
import Derived.KernelRfl
namespace Go.Proofs.Ytoieemgdkpnbfaa
/- THE CELL 'sum', in the pinned program and in every row, IS THE sha256 OF THE DUMP (.gsa) THAT YtoieemgdkpnbfaaProg.lean LOADS. Nothing in Lean hashes anything: it is a label: what it is worth is what the hold of that sum in a sandbox is worth. -/
noncomputable def Try.pinned : Pinned := { name := "ytoieemgdkpnbfaa", sum := "373bbcefe9b1df2b5ed9d8c8f0c57386f13e3c6945169b38d2c8d490039436fd", checked := Try.checked }
namespace Rows
def none {H : Type} : Left H := { results := [], args := [] }

/-- 'couplantlaw03.TraceSums': WHATEVER THE INPUT: true; the input reads as it did. -/
def traceSumsSpec : ChangeSpec := { name := "traceSums", fn := fun _ => fun
  | [d1, d2, d3] => { results := [.lit (.bool true)], args := [d1, d2, d3] }
  | _ => none }
def traceSumsRow : OpenClaim := { program := "ytoieemgdkpnbfaa", sum := "373bbcefe9b1df2b5ed9d8c8f0c57386f13e3c6945169b38d2c8d490039436fd", func := "couplant/couplantlaw03.TraceSums", spec := "traceSums", inPlace := ["math.archTrunc", "math.Float64bits", "math.Float64frombits", "math.Float32bits"], unfollowed := true, recurses := true, apart := false }
def TraceSumsSaid : Prop := traceSumsRow.holds Try.pinned (OpenSpec.ofChange traceSumsSpec)

/-- ITS FALSE NEIGHBOUR: 'it returns false'. Refute it at one input. -/
def traceSumsWrong : ChangeSpec := { name := "traceSums", fn := fun _ => fun
  | [d1, d2, d3] => { results := [.lit (.bool false)], args := [d1, d2, d3] }
  | _ => none }
def TraceSumsWrongFalsely : Prop := traceSumsRow.holds Try.pinned (OpenSpec.ofChange traceSumsWrong)

/-- 'couplantlaw03.TraceGains': WHATEVER THE INPUT: true; the input reads as it did. -/
def traceGainsSpec : ChangeSpec := { name := "traceGains", fn := fun _ => fun
  | [d1, d2] => { results := [.lit (.bool true)], args := [d1, d2] }
  | _ => none }
def traceGainsRow : OpenClaim := { program := "ytoieemgdkpnbfaa", sum := "373bbcefe9b1df2b5ed9d8c8f0c57386f13e3c6945169b38d2c8d490039436fd", func := "couplant/couplantlaw03.TraceGains", spec := "traceGains", inPlace := ["math.archTrunc", "math.Float64bits", "math.Float64frombits", "math.Float32bits"], unfollowed := true, recurses := true, apart := false }
def TraceGainsSaid : Prop := traceGainsRow.holds Try.pinned (OpenSpec.ofChange traceGainsSpec)

/-- ITS FALSE NEIGHBOUR: 'it returns false'. Refute it at one input. -/
def traceGainsWrong : ChangeSpec := { name := "traceGains", fn := fun _ => fun
  | [d1, d2] => { results := [.lit (.bool false)], args := [d1, d2] }
  | _ => none }
def TraceGainsWrongFalsely : Prop := traceGainsRow.holds Try.pinned (OpenSpec.ofChange traceGainsWrong)

/-- 'couplantlaw03.TraceAnalytics': WHATEVER THE INPUT: true; the input reads as it did. -/
def traceAnalyticsSpec : ChangeSpec := { name := "traceAnalytics", fn := fun _ => fun
  | [d] => { results := [.lit (.bool true)], args := [d] }
  | _ => none }
def traceAnalyticsRow : OpenClaim := { program := "ytoieemgdkpnbfaa", sum := "373bbcefe9b1df2b5ed9d8c8f0c57386f13e3c6945169b38d2c8d490039436fd", func := "couplant/couplantlaw03.TraceAnalytics", spec := "traceAnalytics", inPlace := ["math.archTrunc", "math.Float64bits", "math.Float64frombits"], unfollowed := true, recurses := true, apart := false }
def TraceAnalyticsSaid : Prop := traceAnalyticsRow.holds Try.pinned (OpenSpec.ofChange traceAnalyticsSpec)

/-- ITS FALSE NEIGHBOUR: 'it returns false'. Refute it at one input. -/
def traceAnalyticsWrong : ChangeSpec := { name := "traceAnalytics", fn := fun _ => fun
  | [d] => { results := [.lit (.bool false)], args := [d] }
  | _ => none }
def TraceAnalyticsWrongFalsely : Prop := traceAnalyticsRow.holds Try.pinned (OpenSpec.ofChange traceAnalyticsWrong)

/-- 'couplantlaw03.TraceAnalyticAdds': WHATEVER THE INPUT: true; the input reads as it did. -/
def traceAnalyticAddsSpec : ChangeSpec := { name := "traceAnalyticAdds", fn := fun _ => fun
  | [d1, d2, d3] => { results := [.lit (.bool true)], args := [d1, d2, d3] }
  | _ => none }
def traceAnalyticAddsRow : OpenClaim := { program := "ytoieemgdkpnbfaa", sum := "373bbcefe9b1df2b5ed9d8c8f0c57386f13e3c6945169b38d2c8d490039436fd", func := "couplant/couplantlaw03.TraceAnalyticAdds", spec := "traceAnalyticAdds", inPlace := ["math.archTrunc", "math.Float64bits", "math.Float64frombits"], unfollowed := true, recurses := true, apart := false }
def TraceAnalyticAddsSaid : Prop := traceAnalyticAddsRow.holds Try.pinned (OpenSpec.ofChange traceAnalyticAddsSpec)

/-- ITS FALSE NEIGHBOUR: 'it returns false'. Refute it at one input. -/
def traceAnalyticAddsWrong : ChangeSpec := { name := "traceAnalyticAdds", fn := fun _ => fun
  | [d1, d2, d3] => { results := [.lit (.bool false)], args := [d1, d2, d3] }
  | _ => none }
def TraceAnalyticAddsWrongFalsely : Prop := traceAnalyticAddsRow.holds Try.pinned (OpenSpec.ofChange traceAnalyticAddsWrong)

/-- 'couplantlaw03.TraceQuarter': WHATEVER THE INPUT: true; the input reads as it did. -/
def traceQuarterSpec : ChangeSpec := { name := "traceQuarter", fn := fun _ => fun
  | [d1, d2] => { results := [.lit (.bool true)], args := [d1, d2] }
  | _ => none }
def traceQuarterRow : OpenClaim := { program := "ytoieemgdkpnbfaa", sum := "373bbcefe9b1df2b5ed9d8c8f0c57386f13e3c6945169b38d2c8d490039436fd", func := "couplant/couplantlaw03.TraceQuarter", spec := "traceQuarter", inPlace := ["math.archTrunc", "math.Float64bits", "math.Float64frombits"], unfollowed := true, recurses := true, apart := false }
def TraceQuarterSaid : Prop := traceQuarterRow.holds Try.pinned (OpenSpec.ofChange traceQuarterSpec)

/-- ITS FALSE NEIGHBOUR: 'it returns false'. Refute it at one input. -/
def traceQuarterWrong : ChangeSpec := { name := "traceQuarter", fn := fun _ => fun
  | [d1, d2] => { results := [.lit (.bool false)], args := [d1, d2] }
  | _ => none }
def TraceQuarterWrongFalsely : Prop := traceQuarterRow.holds Try.pinned (OpenSpec.ofChange traceQuarterWrong)

/-- 'couplantlaw03.TracePeaks': WHATEVER THE INPUT: true; the input reads as it did. -/
def tracePeaksSpec : ChangeSpec := { name := "tracePeaks", fn := fun _ => fun
  | [d1, d2, d3] => { results := [.lit (.bool true)], args := [d1, d2, d3] }
  | _ => none }
def tracePeaksRow : OpenClaim := { program := "ytoieemgdkpnbfaa", sum := "373bbcefe9b1df2b5ed9d8c8f0c57386f13e3c6945169b38d2c8d490039436fd", func := "couplant/couplantlaw03.TracePeaks", spec := "tracePeaks", inPlace := ["math.archTrunc", "math.Float64bits", "math.Float64frombits"], unfollowed := true, recurses := true, apart := false }
def TracePeaksSaid : Prop := tracePeaksRow.holds Try.pinned (OpenSpec.ofChange tracePeaksSpec)

/-- ITS FALSE NEIGHBOUR: 'it returns false'. Refute it at one input. -/
def tracePeaksWrong : ChangeSpec := { name := "tracePeaks", fn := fun _ => fun
  | [d1, d2, d3] => { results := [.lit (.bool false)], args := [d1, d2, d3] }
  | _ => none }
def TracePeaksWrongFalsely : Prop := tracePeaksRow.holds Try.pinned (OpenSpec.ofChange tracePeaksWrong)

/-- 'couplantlaw03.TraceLags': WHATEVER THE INPUT: true; the input reads as it did. -/
def traceLagsSpec : ChangeSpec := { name := "traceLags", fn := fun _ => fun
  | [d1, d2, d3] => { results := [.lit (.bool true)], args := [d1, d2, d3] }
  | _ => none }
def traceLagsRow : OpenClaim := { program := "ytoieemgdkpnbfaa", sum := "373bbcefe9b1df2b5ed9d8c8f0c57386f13e3c6945169b38d2c8d490039436fd", func := "couplant/couplantlaw03.TraceLags", spec := "traceLags", inPlace := ["math.archTrunc", "math.Float64bits", "math.Float64frombits"], unfollowed := true, recurses := true, apart := false }
def TraceLagsSaid : Prop := traceLagsRow.holds Try.pinned (OpenSpec.ofChange traceLagsSpec)

/-- ITS FALSE NEIGHBOUR: 'it returns false'. Refute it at one input. -/
def traceLagsWrong : ChangeSpec := { name := "traceLags", fn := fun _ => fun
  | [d1, d2, d3] => { results := [.lit (.bool false)], args := [d1, d2, d3] }
  | _ => none }
def TraceLagsWrongFalsely : Prop := traceLagsRow.holds Try.pinned (OpenSpec.ofChange traceLagsWrong)

/-- 'couplantlaw03.TraceTimes': WHATEVER THE INPUT: true; the input reads as it did. -/
def traceTimesSpec : ChangeSpec := { name := "traceTimes", fn := fun _ => fun
  | [d1, d2, d3] => { results := [.lit (.bool true)], args := [d1, d2, d3] }
  | _ => none }
def traceTimesRow : OpenClaim := { program := "ytoieemgdkpnbfaa", sum := "373bbcefe9b1df2b5ed9d8c8f0c57386f13e3c6945169b38d2c8d490039436fd", func := "couplant/couplantlaw03.TraceTimes", spec := "traceTimes", inPlace := ["math.archTrunc", "math.Float64bits", "math.Float64frombits"], unfollowed := true, recurses := true, apart := false }
def TraceTimesSaid : Prop := traceTimesRow.holds Try.pinned (OpenSpec.ofChange traceTimesSpec)

/-- ITS FALSE NEIGHBOUR: 'it returns false'. Refute it at one input. -/
def traceTimesWrong : ChangeSpec := { name := "traceTimes", fn := fun _ => fun
  | [d1, d2, d3] => { results := [.lit (.bool false)], args := [d1, d2, d3] }
  | _ => none }
def TraceTimesWrongFalsely : Prop := traceTimesRow.holds Try.pinned (OpenSpec.ofChange traceTimesWrong)

/-- 'couplanttop.TopDelayedEcho': WHATEVER THE INPUT: true; the input reads as it did. -/
def topDelayedEchoSpec : ChangeSpec := { name := "topDelayedEcho", fn := fun _ => fun
  | [d1, d2, d3] => { results := [.lit (.bool true)], args := [d1, d2, d3] }
  | _ => none }
def topDelayedEchoRow : OpenClaim := { program := "ytoieemgdkpnbfaa", sum := "373bbcefe9b1df2b5ed9d8c8f0c57386f13e3c6945169b38d2c8d490039436fd", func := "couplant/couplanttop.TopDelayedEcho", spec := "topDelayedEcho", inPlace := ["math.archTrunc", "math.Float64bits", "math.Float64frombits"], unfollowed := true, recurses := true, apart := false }
def TopDelayedEchoSaid : Prop := topDelayedEchoRow.holds Try.pinned (OpenSpec.ofChange topDelayedEchoSpec)

/-- ITS FALSE NEIGHBOUR: 'it returns false'. Refute it at one input. -/
def topDelayedEchoWrong : ChangeSpec := { name := "topDelayedEcho", fn := fun _ => fun
  | [d1, d2, d3] => { results := [.lit (.bool false)], args := [d1, d2, d3] }
  | _ => none }
def TopDelayedEchoWrongFalsely : Prop := topDelayedEchoRow.holds Try.pinned (OpenSpec.ofChange topDelayedEchoWrong)

/- THE SECOND FORM. 'bulk': how many values and letters a reading holds, each counted each time it is reached (what is shared counts as often as it is met; a slice's spare places count too). A statement '..UptoSaid' is the law's where the arguments, and the package variables that the reading takes, are together of bulk at most 1048576: NARROWER than '..Said'. Prove '..Said' where nothing that the law and all that it calls make is longer than what came in: it says more and counts as full. Else prove '..UptoSaid'. A law counts once. -/
mutual
def uptoBulk {H : Type} : DataW H → Nat
  | .lit (.string bytes) => bytes.length + 1
  | .lit _ => 1
  | .nil => 1
  | .ptr d => uptoBulk d + 1
  | .slice elems spare => uptoBulkAll elems + uptoBulkAll spare + 1
  | .agg parts => uptoBulkAll parts + 1
  | .iface _ d => uptoBulk d + 1
  | .map entries => uptoBulkEntries entries + 1
  | .held _ => 1
def uptoBulkAll {H : Type} : List (DataW H) → Nat
  | [] => 0
  | d :: r => uptoBulk d + uptoBulkAll r
def uptoBulkEntries {H : Type} : List (Lit × DataW H) → Nat
  | [] => 0
  | x :: r => uptoBulkEntry x + uptoBulkEntries r
def uptoBulkEntry {H : Type} : Lit × DataW H → Nat
  | (.string bytes, d) => bytes.length + uptoBulk d + 1
  | (_, d) => uptoBulk d + 1
 end
def uptoSmall : (H : Type) → List (DataW H) → Bool := fun _ ds => decide (uptoBulkAll ds ≤ 1048576)
def OpenSpec.upto (s : _root_.Go.ChangeSpec) : _root_.Go.OpenSpec := { _root_.Go.OpenSpec.ofChange s with cond := some uptoSmall }

/-- 'couplantlaw03.TraceSums', WHERE WHAT IT READS IS OF BULK AT MOST 1048576: true; the input reads as it did. -/
def traceSumsUptoRow : OpenClaim := { program := "ytoieemgdkpnbfaa", sum := "373bbcefe9b1df2b5ed9d8c8f0c57386f13e3c6945169b38d2c8d490039436fd", func := "couplant/couplantlaw03.TraceSums", spec := "traceSums", inPlace := ["math.archTrunc", "math.Float64bits", "math.Float64frombits", "math.Float32bits"], unfollowed := true, recurses := true, apart := false, narrowed := true }
def TraceSumsUptoSaid : Prop := traceSumsUptoRow.holds Try.pinned (OpenSpec.upto traceSumsSpec)

/-- 'couplantlaw03.TraceGains', WHERE WHAT IT READS IS OF BULK AT MOST 1048576: true; the input reads as it did. -/
def traceGainsUptoRow : OpenClaim := { program := "ytoieemgdkpnbfaa", sum := "373bbcefe9b1df2b5ed9d8c8f0c57386f13e3c6945169b38d2c8d490039436fd", func := "couplant/couplantlaw03.TraceGains", spec := "traceGains", inPlace := ["math.archTrunc", "math.Float64bits", "math.Float64frombits", "math.Float32bits"], unfollowed := true, recurses := true, apart := false, narrowed := true }
def TraceGainsUptoSaid : Prop := traceGainsUptoRow.holds Try.pinned (OpenSpec.upto traceGainsSpec)

/-- 'couplantlaw03.TraceAnalytics', WHERE WHAT IT READS IS OF BULK AT MOST 1048576: true; the input reads as it did. -/
def traceAnalyticsUptoRow : OpenClaim := { program := "ytoieemgdkpnbfaa", sum := "373bbcefe9b1df2b5ed9d8c8f0c57386f13e3c6945169b38d2c8d490039436fd", func := "couplant/couplantlaw03.TraceAnalytics", spec := "traceAnalytics", inPlace := ["math.archTrunc", "math.Float64bits", "math.Float64frombits"], unfollowed := true, recurses := true, apart := false, narrowed := true }
def TraceAnalyticsUptoSaid : Prop := traceAnalyticsUptoRow.holds Try.pinned (OpenSpec.upto traceAnalyticsSpec)

/-- 'couplantlaw03.TraceAnalyticAdds', WHERE WHAT IT READS IS OF BULK AT MOST 1048576: true; the input reads as it did. -/
def traceAnalyticAddsUptoRow : OpenClaim := { program := "ytoieemgdkpnbfaa", sum := "373bbcefe9b1df2b5ed9d8c8f0c57386f13e3c6945169b38d2c8d490039436fd", func := "couplant/couplantlaw03.TraceAnalyticAdds", spec := "traceAnalyticAdds", inPlace := ["math.archTrunc", "math.Float64bits", "math.Float64frombits"], unfollowed := true, recurses := true, apart := false, narrowed := true }
def TraceAnalyticAddsUptoSaid : Prop := traceAnalyticAddsUptoRow.holds Try.pinned (OpenSpec.upto traceAnalyticAddsSpec)

/-- 'couplantlaw03.TraceQuarter', WHERE WHAT IT READS IS OF BULK AT MOST 1048576: true; the input reads as it did. -/
def traceQuarterUptoRow : OpenClaim := { program := "ytoieemgdkpnbfaa", sum := "373bbcefe9b1df2b5ed9d8c8f0c57386f13e3c6945169b38d2c8d490039436fd", func := "couplant/couplantlaw03.TraceQuarter", spec := "traceQuarter", inPlace := ["math.archTrunc", "math.Float64bits", "math.Float64frombits"], unfollowed := true, recurses := true, apart := false, narrowed := true }
def TraceQuarterUptoSaid : Prop := traceQuarterUptoRow.holds Try.pinned (OpenSpec.upto traceQuarterSpec)

/-- 'couplantlaw03.TracePeaks', WHERE WHAT IT READS IS OF BULK AT MOST 1048576: true; the input reads as it did. -/
def tracePeaksUptoRow : OpenClaim := { program := "ytoieemgdkpnbfaa", sum := "373bbcefe9b1df2b5ed9d8c8f0c57386f13e3c6945169b38d2c8d490039436fd", func := "couplant/couplantlaw03.TracePeaks", spec := "tracePeaks", inPlace := ["math.archTrunc", "math.Float64bits", "math.Float64frombits"], unfollowed := true, recurses := true, apart := false, narrowed := true }
def TracePeaksUptoSaid : Prop := tracePeaksUptoRow.holds Try.pinned (OpenSpec.upto tracePeaksSpec)

/-- 'couplantlaw03.TraceLags', WHERE WHAT IT READS IS OF BULK AT MOST 1048576: true; the input reads as it did. -/
def traceLagsUptoRow : OpenClaim := { program := "ytoieemgdkpnbfaa", sum := "373bbcefe9b1df2b5ed9d8c8f0c57386f13e3c6945169b38d2c8d490039436fd", func := "couplant/couplantlaw03.TraceLags", spec := "traceLags", inPlace := ["math.archTrunc", "math.Float64bits", "math.Float64frombits"], unfollowed := true, recurses := true, apart := false, narrowed := true }
def TraceLagsUptoSaid : Prop := traceLagsUptoRow.holds Try.pinned (OpenSpec.upto traceLagsSpec)

/-- 'couplantlaw03.TraceTimes', WHERE WHAT IT READS IS OF BULK AT MOST 1048576: true; the input reads as it did. -/
def traceTimesUptoRow : OpenClaim := { program := "ytoieemgdkpnbfaa", sum := "373bbcefe9b1df2b5ed9d8c8f0c57386f13e3c6945169b38d2c8d490039436fd", func := "couplant/couplantlaw03.TraceTimes", spec := "traceTimes", inPlace := ["math.archTrunc", "math.Float64bits", "math.Float64frombits"], unfollowed := true, recurses := true, apart := false, narrowed := true }
def TraceTimesUptoSaid : Prop := traceTimesUptoRow.holds Try.pinned (OpenSpec.upto traceTimesSpec)

/-- 'couplanttop.TopDelayedEcho', WHERE WHAT IT READS IS OF BULK AT MOST 1048576: true; the input reads as it did. -/
def topDelayedEchoUptoRow : OpenClaim := { program := "ytoieemgdkpnbfaa", sum := "373bbcefe9b1df2b5ed9d8c8f0c57386f13e3c6945169b38d2c8d490039436fd", func := "couplant/couplanttop.TopDelayedEcho", spec := "topDelayedEcho", inPlace := ["math.archTrunc", "math.Float64bits", "math.Float64frombits"], unfollowed := true, recurses := true, apart := false, narrowed := true }
def TopDelayedEchoUptoSaid : Prop := topDelayedEchoUptoRow.holds Try.pinned (OpenSpec.upto topDelayedEchoSpec)

end Rows
end Go.Proofs.Ytoieemgdkpnbfaa
