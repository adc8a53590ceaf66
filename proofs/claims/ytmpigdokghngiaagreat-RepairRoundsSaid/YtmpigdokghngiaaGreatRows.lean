/-
  No cell of these rows narrows 'for every input' (looked for: loops, veiled, ifaces, maps, wideKeys, modest, calm, conditions, laid).
  DERIVED. THE GIVEN ROWS OF THIS SEAT. 6 by the template 'for every input the law returns true; each argument reads behind the call as it read before'; 0 by the template 'total and deterministic' (their statements: YtmpigdokghngiaaGreatTotals.lean).
  GIVEN WITH THE SEED: the statements are not yours to turn. If you find one false, say at which input.
  Laid BY PROGRAM, IN A SANDBOX (cutbox-rows.mjs): the forced cells as the released guide's own fill.sh prints them over the translation dff43d4057560863… (all of the seat's roots in one cut). By AI agents, Wed Nov 11 2026. No macro, syntax, notation, axiom, sorry.
-/
import Derived.Test.YtmpigdokghngiaaGreatChecked
import GoSem.Claim
import GoSem.ClaimJoined
import GoSem.ClaimMapViews
import Derived.JoinedTies
import Derived.KernelRfl
namespace Go.Proofs.YtmpigdokghngiaaGreat
/- THE CELL 'sum', in the pinned program and in every row, IS THE sha256 OF THE DUMP (.gsa) THAT YtmpigdokghngiaaGreatProg.lean LOADS. Nothing in Lean hashes anything: it is a label: what it is worth is what the hold of that sum in a sandbox is worth. -/
noncomputable def Tryz.pinned : Pinned := { name := "ytmpigdokghngiaagreat", sum := "dff43d40575608632196ea68858be7f0213ef4629f7e621f0f3674808dc15a1a", checked := Tryz.checked }
namespace Rows
def none {H : Type} : Left H := { results := [], args := [] }

/-- 'rollcalllaw20.RepairRounds': WHATEVER THE INPUT: true; the input reads as it did. -/
def repairRoundsSpec : ChangeSpec := { name := "repairRounds", fn := fun _ => fun
  | [d1, d2, d3] => { results := [.lit (.bool true)], args := [d1, d2, d3] }
  | _ => none }
def repairRoundsRow : OpenClaim := { program := "ytmpigdokghngiaagreat", sum := "dff43d40575608632196ea68858be7f0213ef4629f7e621f0f3674808dc15a1a", func := "rollcall/rollcalllaw20.RepairRounds", spec := "repairRounds", inPlace := ["internal/bytealg.abigen_runtime_cmpstring", "internal/abi.NoEscape", "slices.overlaps[rollcall/api.Seen]"], unfollowed := true, recurses := true, apart := false }
def RepairRoundsSaid : Prop := repairRoundsRow.holds Tryz.pinned (OpenSpec.ofChange repairRoundsSpec)

/-- ITS FALSE NEIGHBOUR: 'it returns false'. Refute it at one input. -/
def repairRoundsWrong : ChangeSpec := { name := "repairRounds", fn := fun _ => fun
  | [d1, d2, d3] => { results := [.lit (.bool false)], args := [d1, d2, d3] }
  | _ => none }
def RepairRoundsWrongFalsely : Prop := repairRoundsRow.holds Tryz.pinned (OpenSpec.ofChange repairRoundsWrong)

/-- 'rollcalllaw20.RepairReads': WHATEVER THE INPUT: true; the input reads as it did. -/
def repairReadsSpec : ChangeSpec := { name := "repairReads", fn := fun _ => fun
  | [d1, d2, d3] => { results := [.lit (.bool true)], args := [d1, d2, d3] }
  | _ => none }
def repairReadsRow : OpenClaim := { program := "ytmpigdokghngiaagreat", sum := "dff43d40575608632196ea68858be7f0213ef4629f7e621f0f3674808dc15a1a", func := "rollcall/rollcalllaw20.RepairReads", spec := "repairReads", inPlace := ["internal/bytealg.abigen_runtime_cmpstring", "internal/abi.NoEscape", "slices.overlaps[rollcall/api.Seen]"], unfollowed := true, recurses := true, apart := false }
def RepairReadsSaid : Prop := repairReadsRow.holds Tryz.pinned (OpenSpec.ofChange repairReadsSpec)

/-- ITS FALSE NEIGHBOUR: 'it returns false'. Refute it at one input. -/
def repairReadsWrong : ChangeSpec := { name := "repairReads", fn := fun _ => fun
  | [d1, d2, d3] => { results := [.lit (.bool false)], args := [d1, d2, d3] }
  | _ => none }
def RepairReadsWrongFalsely : Prop := repairReadsRow.holds Tryz.pinned (OpenSpec.ofChange repairReadsWrong)

/-- 'rollcalllaw20.RepairSettles': WHATEVER THE INPUT: true; the input reads as it did. -/
def repairSettlesSpec : ChangeSpec := { name := "repairSettles", fn := fun _ => fun
  | [d1, d2, d3] => { results := [.lit (.bool true)], args := [d1, d2, d3] }
  | _ => none }
def repairSettlesRow : OpenClaim := { program := "ytmpigdokghngiaagreat", sum := "dff43d40575608632196ea68858be7f0213ef4629f7e621f0f3674808dc15a1a", func := "rollcall/rollcalllaw20.RepairSettles", spec := "repairSettles", inPlace := ["internal/bytealg.abigen_runtime_cmpstring", "internal/abi.NoEscape", "slices.overlaps[rollcall/api.Seen]"], unfollowed := true, recurses := true, apart := false }
def RepairSettlesSaid : Prop := repairSettlesRow.holds Tryz.pinned (OpenSpec.ofChange repairSettlesSpec)

/-- ITS FALSE NEIGHBOUR: 'it returns false'. Refute it at one input. -/
def repairSettlesWrong : ChangeSpec := { name := "repairSettles", fn := fun _ => fun
  | [d1, d2, d3] => { results := [.lit (.bool false)], args := [d1, d2, d3] }
  | _ => none }
def RepairSettlesWrongFalsely : Prop := repairSettlesRow.holds Tryz.pinned (OpenSpec.ofChange repairSettlesWrong)

/-- 'rollcalllaw20.RepairStays': WHATEVER THE INPUT: true; the input reads as it did. -/
def repairStaysSpec : ChangeSpec := { name := "repairStays", fn := fun _ => fun
  | [d1, d2, d3] => { results := [.lit (.bool true)], args := [d1, d2, d3] }
  | _ => none }
def repairStaysRow : OpenClaim := { program := "ytmpigdokghngiaagreat", sum := "dff43d40575608632196ea68858be7f0213ef4629f7e621f0f3674808dc15a1a", func := "rollcall/rollcalllaw20.RepairStays", spec := "repairStays", inPlace := ["internal/bytealg.abigen_runtime_cmpstring", "internal/abi.NoEscape", "slices.overlaps[rollcall/api.Seen]"], unfollowed := true, recurses := true, apart := false }
def RepairStaysSaid : Prop := repairStaysRow.holds Tryz.pinned (OpenSpec.ofChange repairStaysSpec)

/-- ITS FALSE NEIGHBOUR: 'it returns false'. Refute it at one input. -/
def repairStaysWrong : ChangeSpec := { name := "repairStays", fn := fun _ => fun
  | [d1, d2, d3] => { results := [.lit (.bool false)], args := [d1, d2, d3] }
  | _ => none }
def RepairStaysWrongFalsely : Prop := repairStaysRow.holds Tryz.pinned (OpenSpec.ofChange repairStaysWrong)

/-- 'rollcalllaw20.RepairSoon': WHATEVER THE INPUT: true; the input reads as it did. -/
def repairSoonSpec : ChangeSpec := { name := "repairSoon", fn := fun _ => fun
  | [d1, d2, d3] => { results := [.lit (.bool true)], args := [d1, d2, d3] }
  | _ => none }
def repairSoonRow : OpenClaim := { program := "ytmpigdokghngiaagreat", sum := "dff43d40575608632196ea68858be7f0213ef4629f7e621f0f3674808dc15a1a", func := "rollcall/rollcalllaw20.RepairSoon", spec := "repairSoon", inPlace := ["internal/bytealg.abigen_runtime_cmpstring", "internal/abi.NoEscape", "slices.overlaps[rollcall/api.Seen]"], unfollowed := true, recurses := true, apart := false }
def RepairSoonSaid : Prop := repairSoonRow.holds Tryz.pinned (OpenSpec.ofChange repairSoonSpec)

/-- ITS FALSE NEIGHBOUR: 'it returns false'. Refute it at one input. -/
def repairSoonWrong : ChangeSpec := { name := "repairSoon", fn := fun _ => fun
  | [d1, d2, d3] => { results := [.lit (.bool false)], args := [d1, d2, d3] }
  | _ => none }
def RepairSoonWrongFalsely : Prop := repairSoonRow.holds Tryz.pinned (OpenSpec.ofChange repairSoonWrong)

/-- 'rollcalllaw20.RepairSplit': WHATEVER THE INPUT: true; the input reads as it did. -/
def repairSplitSpec : ChangeSpec := { name := "repairSplit", fn := fun _ => fun
  | [d1, d2, d3] => { results := [.lit (.bool true)], args := [d1, d2, d3] }
  | _ => none }
def repairSplitRow : OpenClaim := { program := "ytmpigdokghngiaagreat", sum := "dff43d40575608632196ea68858be7f0213ef4629f7e621f0f3674808dc15a1a", func := "rollcall/rollcalllaw20.RepairSplit", spec := "repairSplit", inPlace := ["internal/bytealg.abigen_runtime_cmpstring", "internal/abi.NoEscape", "slices.overlaps[rollcall/api.Seen]"], unfollowed := true, recurses := true, apart := false }
def RepairSplitSaid : Prop := repairSplitRow.holds Tryz.pinned (OpenSpec.ofChange repairSplitSpec)

/-- ITS FALSE NEIGHBOUR: 'it returns false'. Refute it at one input. -/
def repairSplitWrong : ChangeSpec := { name := "repairSplit", fn := fun _ => fun
  | [d1, d2, d3] => { results := [.lit (.bool false)], args := [d1, d2, d3] }
  | _ => none }
def RepairSplitWrongFalsely : Prop := repairSplitRow.holds Tryz.pinned (OpenSpec.ofChange repairSplitWrong)

/- THE SECOND FORM. 'bulk': how many values and letters a reading holds, each counted each time it is reached (what is shared counts as often as it is met; a slice's spare places count too). A statement '..UptoSaid' is the law's where the arguments, and the package variables that the reading takes, are together of bulk at most 1048576: NARROWER than '..Said'. Prove '..Said' where nothing that the law and all that it calls make is longer than what came in: it says more and counts as full. Else prove '..UptoSaid'. A law counts once. -/
mutual
def uptoBulk {H : Type} : DataW H → Nat
  | .lit (.string bytes) => bytes.length + 1
  | .lit _ => 1
  | .nil => 1
  | .ptr d => uptoBulk d + 1
  | .slice elems spare => uptoBulkAll elems + uptoBulkAll spare + 1
  | .agg parts => uptoBulkAll parts + 1
  | .iface _ d => uptoBulk d + 1
  | .map entries => uptoBulkEntries entries + 1
  | .held _ => 1
def uptoBulkAll {H : Type} : List (DataW H) → Nat
  | [] => 0
  | d :: r => uptoBulk d + uptoBulkAll r
def uptoBulkEntries {H : Type} : List (Lit × DataW H) → Nat
  | [] => 0
  | x :: r => uptoBulkEntry x + uptoBulkEntries r
def uptoBulkEntry {H : Type} : Lit × DataW H → Nat
  | (.string bytes, d) => bytes.length + uptoBulk d + 1
  | (_, d) => uptoBulk d + 1
 end
def uptoSmall : (H : Type) → List (DataW H) → Bool := fun _ ds => decide (uptoBulkAll ds ≤ 1048576)
def OpenSpec.upto (s : _root_.Go.ChangeSpec) : _root_.Go.OpenSpec := { _root_.Go.OpenSpec.ofChange s with cond := some uptoSmall }

/-- 'rollcalllaw20.RepairRounds', WHERE WHAT IT READS IS OF BULK AT MOST 1048576: true; the input reads as it did. -/
def repairRoundsUptoRow : OpenClaim := { program := "ytmpigdokghngiaagreat", sum := "dff43d40575608632196ea68858be7f0213ef4629f7e621f0f3674808dc15a1a", func := "rollcall/rollcalllaw20.RepairRounds", spec := "repairRounds", inPlace := ["internal/bytealg.abigen_runtime_cmpstring", "internal/abi.NoEscape", "slices.overlaps[rollcall/api.Seen]"], unfollowed := true, recurses := true, apart := false, narrowed := true }
def RepairRoundsUptoSaid : Prop := repairRoundsUptoRow.holds Tryz.pinned (OpenSpec.upto repairRoundsSpec)

/-- 'rollcalllaw20.RepairReads', WHERE WHAT IT READS IS OF BULK AT MOST 1048576: true; the input reads as it did. -/
def repairReadsUptoRow : OpenClaim := { program := "ytmpigdokghngiaagreat", sum := "dff43d40575608632196ea68858be7f0213ef4629f7e621f0f3674808dc15a1a", func := "rollcall/rollcalllaw20.RepairReads", spec := "repairReads", inPlace := ["internal/bytealg.abigen_runtime_cmpstring", "internal/abi.NoEscape", "slices.overlaps[rollcall/api.Seen]"], unfollowed := true, recurses := true, apart := false, narrowed := true }
def RepairReadsUptoSaid : Prop := repairReadsUptoRow.holds Tryz.pinned (OpenSpec.upto repairReadsSpec)

/-- 'rollcalllaw20.RepairSettles', WHERE WHAT IT READS IS OF BULK AT MOST 1048576: true; the input reads as it did. -/
def repairSettlesUptoRow : OpenClaim := { program := "ytmpigdokghngiaagreat", sum := "dff43d40575608632196ea68858be7f0213ef4629f7e621f0f3674808dc15a1a", func := "rollcall/rollcalllaw20.RepairSettles", spec := "repairSettles", inPlace := ["internal/bytealg.abigen_runtime_cmpstring", "internal/abi.NoEscape", "slices.overlaps[rollcall/api.Seen]"], unfollowed := true, recurses := true, apart := false, narrowed := true }
def RepairSettlesUptoSaid : Prop := repairSettlesUptoRow.holds Tryz.pinned (OpenSpec.upto repairSettlesSpec)

/-- 'rollcalllaw20.RepairStays', WHERE WHAT IT READS IS OF BULK AT MOST 1048576: true; the input reads as it did. -/
def repairStaysUptoRow : OpenClaim := { program := "ytmpigdokghngiaagreat", sum := "dff43d40575608632196ea68858be7f0213ef4629f7e621f0f3674808dc15a1a", func := "rollcall/rollcalllaw20.RepairStays", spec := "repairStays", inPlace := ["internal/bytealg.abigen_runtime_cmpstring", "internal/abi.NoEscape", "slices.overlaps[rollcall/api.Seen]"], unfollowed := true, recurses := true, apart := false, narrowed := true }
def RepairStaysUptoSaid : Prop := repairStaysUptoRow.holds Tryz.pinned (OpenSpec.upto repairStaysSpec)

/-- 'rollcalllaw20.RepairSoon', WHERE WHAT IT READS IS OF BULK AT MOST 1048576: true; the input reads as it did. -/
def repairSoonUptoRow : OpenClaim := { program := "ytmpigdokghngiaagreat", sum := "dff43d40575608632196ea68858be7f0213ef4629f7e621f0f3674808dc15a1a", func := "rollcall/rollcalllaw20.RepairSoon", spec := "repairSoon", inPlace := ["internal/bytealg.abigen_runtime_cmpstring", "internal/abi.NoEscape", "slices.overlaps[rollcall/api.Seen]"], unfollowed := true, recurses := true, apart := false, narrowed := true }
def RepairSoonUptoSaid : Prop := repairSoonUptoRow.holds Tryz.pinned (OpenSpec.upto repairSoonSpec)

/-- 'rollcalllaw20.RepairSplit', WHERE WHAT IT READS IS OF BULK AT MOST 1048576: true; the input reads as it did. -/
def repairSplitUptoRow : OpenClaim := { program := "ytmpigdokghngiaagreat", sum := "dff43d40575608632196ea68858be7f0213ef4629f7e621f0f3674808dc15a1a", func := "rollcall/rollcalllaw20.RepairSplit", spec := "repairSplit", inPlace := ["internal/bytealg.abigen_runtime_cmpstring", "internal/abi.NoEscape", "slices.overlaps[rollcall/api.Seen]"], unfollowed := true, recurses := true, apart := false, narrowed := true }
def RepairSplitUptoSaid : Prop := repairSplitUptoRow.holds Tryz.pinned (OpenSpec.upto repairSplitSpec)

end Rows
end Go.Proofs.YtmpigdokghngiaaGreat
