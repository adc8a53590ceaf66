/-
  No cell of these rows narrows 'for every input' (looked for: loops, veiled, ifaces, maps, wideKeys, modest, calm, conditions, laid).
  DERIVED. THE GIVEN ROWS OF THIS SEAT. 12 by the template 'for every input the law returns true; each argument reads behind the call as it read before'; 0 by the template 'total and deterministic' (their statements: YtocljhbkjengpaaTotals.lean).
  GIVEN WITH THE SEED: the statements are not yours to turn. If you find one false, say at which input.
  Laid BY PROGRAM, IN A SANDBOX (cutbox-rows.mjs): the forced cells as the released guide's own fill.sh prints them over the translation af0dd3d2d4484b3b… (all of the seat's roots in one cut). By AI agents, Wed Nov 11 2026. No macro, syntax, notation, axiom, sorry.
-/
import Derived.Test.YtocljhbkjengpaaChecked
import GoSem.Claim
import GoSem.ClaimJoined
import GoSem.ClaimMapViews
import Derived.JoinedTies
import Derived.KernelRfl
namespace Go.Proofs.Ytocljhbkjengpaa
/- THE CELL 'sum', in the pinned program and in every row, IS THE sha256 OF THE DUMP (.gsa) THAT YtocljhbkjengpaaProg.lean LOADS. Nothing in Lean hashes anything: it is a label: what it is worth is what the hold of that sum in a sandbox is worth. -/
noncomputable def Try.pinned : Pinned := { name := "ytocljhbkjengpaa", sum := "af0dd3d2d4484b3bd13cf91fe7b12db04451032a1a44417abc79a588d73c4985", checked := Try.checked }
namespace Rows
def none {H : Type} : Left H := { results := [], args := [] }

/-- 'rollcalllaw10.HeapScripts': WHATEVER THE INPUT: true; the input reads as it did. -/
def heapScriptsSpec : ChangeSpec := { name := "heapScripts", fn := fun _ => fun
  | [d] => { results := [.lit (.bool true)], args := [d] }
  | _ => none }
def heapScriptsRow : OpenClaim := { program := "ytocljhbkjengpaa", sum := "af0dd3d2d4484b3bd13cf91fe7b12db04451032a1a44417abc79a588d73c4985", func := "rollcall/rollcalllaw10.HeapScripts", spec := "heapScripts", apart := false }
def HeapScriptsSaid : Prop := heapScriptsRow.holds Try.pinned (OpenSpec.ofChange heapScriptsSpec)

/-- ITS FALSE NEIGHBOUR: 'it returns false'. Refute it at one input. -/
def heapScriptsWrong : ChangeSpec := { name := "heapScripts", fn := fun _ => fun
  | [d] => { results := [.lit (.bool false)], args := [d] }
  | _ => none }
def HeapScriptsWrongFalsely : Prop := heapScriptsRow.holds Try.pinned (OpenSpec.ofChange heapScriptsWrong)

/-- 'rollcalllaw11.BestTells': WHATEVER THE INPUT: true; the input reads as it did. -/
def bestTellsSpec : ChangeSpec := { name := "bestTells", fn := fun _ => fun
  | [d1, d2, d3] => { results := [.lit (.bool true)], args := [d1, d2, d3] }
  | _ => none }
def bestTellsRow : OpenClaim := { program := "ytocljhbkjengpaa", sum := "af0dd3d2d4484b3bd13cf91fe7b12db04451032a1a44417abc79a588d73c4985", func := "rollcall/rollcalllaw11.BestTells", spec := "bestTells", apart := false }
def BestTellsSaid : Prop := bestTellsRow.holds Try.pinned (OpenSpec.ofChange bestTellsSpec)

/-- ITS FALSE NEIGHBOUR: 'it returns false'. Refute it at one input. -/
def bestTellsWrong : ChangeSpec := { name := "bestTells", fn := fun _ => fun
  | [d1, d2, d3] => { results := [.lit (.bool false)], args := [d1, d2, d3] }
  | _ => none }
def BestTellsWrongFalsely : Prop := bestTellsRow.holds Try.pinned (OpenSpec.ofChange bestTellsWrong)

/-- 'rollcalllaw11.BestOne': WHATEVER THE INPUT: true; the input reads as it did. -/
def bestOneSpec : ChangeSpec := { name := "bestOne", fn := fun _ => fun
  | [d] => { results := [.lit (.bool true)], args := [d] }
  | _ => none }
def bestOneRow : OpenClaim := { program := "ytocljhbkjengpaa", sum := "af0dd3d2d4484b3bd13cf91fe7b12db04451032a1a44417abc79a588d73c4985", func := "rollcall/rollcalllaw11.BestOne", spec := "bestOne", apart := false }
def BestOneSaid : Prop := bestOneRow.holds Try.pinned (OpenSpec.ofChange bestOneSpec)

/-- ITS FALSE NEIGHBOUR: 'it returns false'. Refute it at one input. -/
def bestOneWrong : ChangeSpec := { name := "bestOne", fn := fun _ => fun
  | [d] => { results := [.lit (.bool false)], args := [d] }
  | _ => none }
def BestOneWrongFalsely : Prop := bestOneRow.holds Try.pinned (OpenSpec.ofChange bestOneWrong)

/-- 'rollcalllaw11.BestMore': WHATEVER THE INPUT: true; the input reads as it did. -/
def bestMoreSpec : ChangeSpec := { name := "bestMore", fn := fun _ => fun
  | [d1, d2] => { results := [.lit (.bool true)], args := [d1, d2] }
  | _ => none }
def bestMoreRow : OpenClaim := { program := "ytocljhbkjengpaa", sum := "af0dd3d2d4484b3bd13cf91fe7b12db04451032a1a44417abc79a588d73c4985", func := "rollcall/rollcalllaw11.BestMore", spec := "bestMore", apart := false }
def BestMoreSaid : Prop := bestMoreRow.holds Try.pinned (OpenSpec.ofChange bestMoreSpec)

/-- ITS FALSE NEIGHBOUR: 'it returns false'. Refute it at one input. -/
def bestMoreWrong : ChangeSpec := { name := "bestMore", fn := fun _ => fun
  | [d1, d2] => { results := [.lit (.bool false)], args := [d1, d2] }
  | _ => none }
def BestMoreWrongFalsely : Prop := bestMoreRow.holds Try.pinned (OpenSpec.ofChange bestMoreWrong)

/-- 'rollcalllaw11.BestWorth': WHATEVER THE INPUT: true; the input reads as it did. -/
def bestWorthSpec : ChangeSpec := { name := "bestWorth", fn := fun _ => fun
  | [d1, d2, d3] => { results := [.lit (.bool true)], args := [d1, d2, d3] }
  | _ => none }
def bestWorthRow : OpenClaim := { program := "ytocljhbkjengpaa", sum := "af0dd3d2d4484b3bd13cf91fe7b12db04451032a1a44417abc79a588d73c4985", func := "rollcall/rollcalllaw11.BestWorth", spec := "bestWorth", apart := false }
def BestWorthSaid : Prop := bestWorthRow.holds Try.pinned (OpenSpec.ofChange bestWorthSpec)

/-- ITS FALSE NEIGHBOUR: 'it returns false'. Refute it at one input. -/
def bestWorthWrong : ChangeSpec := { name := "bestWorth", fn := fun _ => fun
  | [d1, d2, d3] => { results := [.lit (.bool false)], args := [d1, d2, d3] }
  | _ => none }
def BestWorthWrongFalsely : Prop := bestWorthRow.holds Try.pinned (OpenSpec.ofChange bestWorthWrong)

/-- 'rollcalllaw11.BestOnly': WHATEVER THE INPUT: true; the input reads as it did. -/
def bestOnlySpec : ChangeSpec := { name := "bestOnly", fn := fun _ => fun
  | [d1, d2] => { results := [.lit (.bool true)], args := [d1, d2] }
  | _ => none }
def bestOnlyRow : OpenClaim := { program := "ytocljhbkjengpaa", sum := "af0dd3d2d4484b3bd13cf91fe7b12db04451032a1a44417abc79a588d73c4985", func := "rollcall/rollcalllaw11.BestOnly", spec := "bestOnly", apart := false }
def BestOnlySaid : Prop := bestOnlyRow.holds Try.pinned (OpenSpec.ofChange bestOnlySpec)

/-- ITS FALSE NEIGHBOUR: 'it returns false'. Refute it at one input. -/
def bestOnlyWrong : ChangeSpec := { name := "bestOnly", fn := fun _ => fun
  | [d1, d2] => { results := [.lit (.bool false)], args := [d1, d2] }
  | _ => none }
def BestOnlyWrongFalsely : Prop := bestOnlyRow.holds Try.pinned (OpenSpec.ofChange bestOnlyWrong)

/-- 'rollcalllaw12.AggScripts': WHATEVER THE INPUT: true; the input reads as it did. -/
def aggScriptsSpec : ChangeSpec := { name := "aggScripts", fn := fun _ => fun
  | [d] => { results := [.lit (.bool true)], args := [d] }
  | _ => none }
def aggScriptsRow : OpenClaim := { program := "ytocljhbkjengpaa", sum := "af0dd3d2d4484b3bd13cf91fe7b12db04451032a1a44417abc79a588d73c4985", func := "rollcall/rollcalllaw12.AggScripts", spec := "aggScripts", inPlace := ["internal/bytealg.abigen_runtime_cmpstring"], unfollowed := true, recurses := true, apart := false }
def AggScriptsSaid : Prop := aggScriptsRow.holds Try.pinned (OpenSpec.ofChange aggScriptsSpec)

/-- ITS FALSE NEIGHBOUR: 'it returns false'. Refute it at one input. -/
def aggScriptsWrong : ChangeSpec := { name := "aggScripts", fn := fun _ => fun
  | [d] => { results := [.lit (.bool false)], args := [d] }
  | _ => none }
def AggScriptsWrongFalsely : Prop := aggScriptsRow.holds Try.pinned (OpenSpec.ofChange aggScriptsWrong)

/-- 'rollcalllaw12.AggNaive': WHATEVER THE INPUT: true; the input reads as it did. -/
def aggNaiveSpec : ChangeSpec := { name := "aggNaive", fn := fun _ => fun
  | [d] => { results := [.lit (.bool true)], args := [d] }
  | _ => none }
def aggNaiveRow : OpenClaim := { program := "ytocljhbkjengpaa", sum := "af0dd3d2d4484b3bd13cf91fe7b12db04451032a1a44417abc79a588d73c4985", func := "rollcall/rollcalllaw12.AggNaive", spec := "aggNaive", inPlace := ["internal/bytealg.abigen_runtime_cmpstring"], unfollowed := true, recurses := true, apart := false }
def AggNaiveSaid : Prop := aggNaiveRow.holds Try.pinned (OpenSpec.ofChange aggNaiveSpec)

/-- ITS FALSE NEIGHBOUR: 'it returns false'. Refute it at one input. -/
def aggNaiveWrong : ChangeSpec := { name := "aggNaive", fn := fun _ => fun
  | [d] => { results := [.lit (.bool false)], args := [d] }
  | _ => none }
def AggNaiveWrongFalsely : Prop := aggNaiveRow.holds Try.pinned (OpenSpec.ofChange aggNaiveWrong)

/-- 'rollcalllaw12.AggOthers': WHATEVER THE INPUT: true; the input reads as it did. -/
def aggOthersSpec : ChangeSpec := { name := "aggOthers", fn := fun _ => fun
  | [d1, d2, d3] => { results := [.lit (.bool true)], args := [d1, d2, d3] }
  | _ => none }
def aggOthersRow : OpenClaim := { program := "ytocljhbkjengpaa", sum := "af0dd3d2d4484b3bd13cf91fe7b12db04451032a1a44417abc79a588d73c4985", func := "rollcall/rollcalllaw12.AggOthers", spec := "aggOthers", inPlace := ["internal/bytealg.abigen_runtime_cmpstring"], unfollowed := true, recurses := true, apart := false }
def AggOthersSaid : Prop := aggOthersRow.holds Try.pinned (OpenSpec.ofChange aggOthersSpec)

/-- ITS FALSE NEIGHBOUR: 'it returns false'. Refute it at one input. -/
def aggOthersWrong : ChangeSpec := { name := "aggOthers", fn := fun _ => fun
  | [d1, d2, d3] => { results := [.lit (.bool false)], args := [d1, d2, d3] }
  | _ => none }
def AggOthersWrongFalsely : Prop := aggOthersRow.holds Try.pinned (OpenSpec.ofChange aggOthersWrong)

/-- 'rollcalllaw12.AggNil': WHATEVER THE INPUT: true; the input reads as it did. -/
def aggNilSpec : ChangeSpec := { name := "aggNil", fn := fun _ => fun
  | [d] => { results := [.lit (.bool true)], args := [d] }
  | _ => none }
def aggNilRow : OpenClaim := { program := "ytocljhbkjengpaa", sum := "af0dd3d2d4484b3bd13cf91fe7b12db04451032a1a44417abc79a588d73c4985", func := "rollcall/rollcalllaw12.AggNil", spec := "aggNil", inPlace := ["internal/bytealg.abigen_runtime_cmpstring"], unfollowed := true, recurses := true, apart := false }
def AggNilSaid : Prop := aggNilRow.holds Try.pinned (OpenSpec.ofChange aggNilSpec)

/-- ITS FALSE NEIGHBOUR: 'it returns false'. Refute it at one input. -/
def aggNilWrong : ChangeSpec := { name := "aggNil", fn := fun _ => fun
  | [d] => { results := [.lit (.bool false)], args := [d] }
  | _ => none }
def AggNilWrongFalsely : Prop := aggNilRow.holds Try.pinned (OpenSpec.ofChange aggNilWrong)

/-- 'rollcalllaw12.AggOrder': WHATEVER THE INPUT: true; the input reads as it did. -/
def aggOrderSpec : ChangeSpec := { name := "aggOrder", fn := fun _ => fun
  | [d1, d2] => { results := [.lit (.bool true)], args := [d1, d2] }
  | _ => none }
def aggOrderRow : OpenClaim := { program := "ytocljhbkjengpaa", sum := "af0dd3d2d4484b3bd13cf91fe7b12db04451032a1a44417abc79a588d73c4985", func := "rollcall/rollcalllaw12.AggOrder", spec := "aggOrder", inPlace := ["internal/bytealg.abigen_runtime_cmpstring"], unfollowed := true, recurses := true, apart := false }
def AggOrderSaid : Prop := aggOrderRow.holds Try.pinned (OpenSpec.ofChange aggOrderSpec)

/-- ITS FALSE NEIGHBOUR: 'it returns false'. Refute it at one input. -/
def aggOrderWrong : ChangeSpec := { name := "aggOrder", fn := fun _ => fun
  | [d1, d2] => { results := [.lit (.bool false)], args := [d1, d2] }
  | _ => none }
def AggOrderWrongFalsely : Prop := aggOrderRow.holds Try.pinned (OpenSpec.ofChange aggOrderWrong)

/-- 'rollcalllaw07.SubsMay': WHATEVER THE INPUT: true; the input reads as it did. -/
def subsMaySpec : ChangeSpec := { name := "subsMay", fn := fun _ => fun
  | [d] => { results := [.lit (.bool true)], args := [d] }
  | _ => none }
def subsMayRow : OpenClaim := { program := "ytocljhbkjengpaa", sum := "af0dd3d2d4484b3bd13cf91fe7b12db04451032a1a44417abc79a588d73c4985", func := "rollcall/rollcalllaw07.SubsMay", spec := "subsMay", unfollowed := true, recurses := true, apart := false }
def SubsMaySaid : Prop := subsMayRow.holds Try.pinned (OpenSpec.ofChange subsMaySpec)

/-- ITS FALSE NEIGHBOUR: 'it returns false'. Refute it at one input. -/
def subsMayWrong : ChangeSpec := { name := "subsMay", fn := fun _ => fun
  | [d] => { results := [.lit (.bool false)], args := [d] }
  | _ => none }
def SubsMayWrongFalsely : Prop := subsMayRow.holds Try.pinned (OpenSpec.ofChange subsMayWrong)

/- THE SECOND FORM. 'bulk': how many values and letters a reading holds, each counted each time it is reached (what is shared counts as often as it is met; a slice's spare places count too). A statement '..UptoSaid' is the law's where the arguments, and the package variables that the reading takes, are together of bulk at most 1048576: NARROWER than '..Said'. Prove '..Said' where nothing that the law and all that it calls make is longer than what came in: it says more and counts as full. Else prove '..UptoSaid'. A law counts once. -/
mutual
def uptoBulk {H : Type} : DataW H → Nat
  | .lit (.string bytes) => bytes.length + 1
  | .lit _ => 1
  | .nil => 1
  | .ptr d => uptoBulk d + 1
  | .slice elems spare => uptoBulkAll elems + uptoBulkAll spare + 1
  | .agg parts => uptoBulkAll parts + 1
  | .iface _ d => uptoBulk d + 1
  | .map entries => uptoBulkEntries entries + 1
  | .held _ => 1
def uptoBulkAll {H : Type} : List (DataW H) → Nat
  | [] => 0
  | d :: r => uptoBulk d + uptoBulkAll r
def uptoBulkEntries {H : Type} : List (Lit × DataW H) → Nat
  | [] => 0
  | x :: r => uptoBulkEntry x + uptoBulkEntries r
def uptoBulkEntry {H : Type} : Lit × DataW H → Nat
  | (.string bytes, d) => bytes.length + uptoBulk d + 1
  | (_, d) => uptoBulk d + 1
 end
def uptoSmall : (H : Type) → List (DataW H) → Bool := fun _ ds => decide (uptoBulkAll ds ≤ 1048576)
def OpenSpec.upto (s : _root_.Go.ChangeSpec) : _root_.Go.OpenSpec := { _root_.Go.OpenSpec.ofChange s with cond := some uptoSmall }

/-- 'rollcalllaw10.HeapScripts', WHERE WHAT IT READS IS OF BULK AT MOST 1048576: true; the input reads as it did. -/
def heapScriptsUptoRow : OpenClaim := { program := "ytocljhbkjengpaa", sum := "af0dd3d2d4484b3bd13cf91fe7b12db04451032a1a44417abc79a588d73c4985", func := "rollcall/rollcalllaw10.HeapScripts", spec := "heapScripts", apart := false, narrowed := true }
def HeapScriptsUptoSaid : Prop := heapScriptsUptoRow.holds Try.pinned (OpenSpec.upto heapScriptsSpec)

/-- 'rollcalllaw11.BestTells', WHERE WHAT IT READS IS OF BULK AT MOST 1048576: true; the input reads as it did. -/
def bestTellsUptoRow : OpenClaim := { program := "ytocljhbkjengpaa", sum := "af0dd3d2d4484b3bd13cf91fe7b12db04451032a1a44417abc79a588d73c4985", func := "rollcall/rollcalllaw11.BestTells", spec := "bestTells", apart := false, narrowed := true }
def BestTellsUptoSaid : Prop := bestTellsUptoRow.holds Try.pinned (OpenSpec.upto bestTellsSpec)

/-- 'rollcalllaw11.BestOne', WHERE WHAT IT READS IS OF BULK AT MOST 1048576: true; the input reads as it did. -/
def bestOneUptoRow : OpenClaim := { program := "ytocljhbkjengpaa", sum := "af0dd3d2d4484b3bd13cf91fe7b12db04451032a1a44417abc79a588d73c4985", func := "rollcall/rollcalllaw11.BestOne", spec := "bestOne", apart := false, narrowed := true }
def BestOneUptoSaid : Prop := bestOneUptoRow.holds Try.pinned (OpenSpec.upto bestOneSpec)

/-- 'rollcalllaw11.BestMore', WHERE WHAT IT READS IS OF BULK AT MOST 1048576: true; the input reads as it did. -/
def bestMoreUptoRow : OpenClaim := { program := "ytocljhbkjengpaa", sum := "af0dd3d2d4484b3bd13cf91fe7b12db04451032a1a44417abc79a588d73c4985", func := "rollcall/rollcalllaw11.BestMore", spec := "bestMore", apart := false, narrowed := true }
def BestMoreUptoSaid : Prop := bestMoreUptoRow.holds Try.pinned (OpenSpec.upto bestMoreSpec)

/-- 'rollcalllaw11.BestWorth', WHERE WHAT IT READS IS OF BULK AT MOST 1048576: true; the input reads as it did. -/
def bestWorthUptoRow : OpenClaim := { program := "ytocljhbkjengpaa", sum := "af0dd3d2d4484b3bd13cf91fe7b12db04451032a1a44417abc79a588d73c4985", func := "rollcall/rollcalllaw11.BestWorth", spec := "bestWorth", apart := false, narrowed := true }
def BestWorthUptoSaid : Prop := bestWorthUptoRow.holds Try.pinned (OpenSpec.upto bestWorthSpec)

/-- 'rollcalllaw11.BestOnly', WHERE WHAT IT READS IS OF BULK AT MOST 1048576: true; the input reads as it did. -/
def bestOnlyUptoRow : OpenClaim := { program := "ytocljhbkjengpaa", sum := "af0dd3d2d4484b3bd13cf91fe7b12db04451032a1a44417abc79a588d73c4985", func := "rollcall/rollcalllaw11.BestOnly", spec := "bestOnly", apart := false, narrowed := true }
def BestOnlyUptoSaid : Prop := bestOnlyUptoRow.holds Try.pinned (OpenSpec.upto bestOnlySpec)

/-- 'rollcalllaw12.AggScripts', WHERE WHAT IT READS IS OF BULK AT MOST 1048576: true; the input reads as it did. -/
def aggScriptsUptoRow : OpenClaim := { program := "ytocljhbkjengpaa", sum := "af0dd3d2d4484b3bd13cf91fe7b12db04451032a1a44417abc79a588d73c4985", func := "rollcall/rollcalllaw12.AggScripts", spec := "aggScripts", inPlace := ["internal/bytealg.abigen_runtime_cmpstring"], unfollowed := true, recurses := true, apart := false, narrowed := true }
def AggScriptsUptoSaid : Prop := aggScriptsUptoRow.holds Try.pinned (OpenSpec.upto aggScriptsSpec)

/-- 'rollcalllaw12.AggNaive', WHERE WHAT IT READS IS OF BULK AT MOST 1048576: true; the input reads as it did. -/
def aggNaiveUptoRow : OpenClaim := { program := "ytocljhbkjengpaa", sum := "af0dd3d2d4484b3bd13cf91fe7b12db04451032a1a44417abc79a588d73c4985", func := "rollcall/rollcalllaw12.AggNaive", spec := "aggNaive", inPlace := ["internal/bytealg.abigen_runtime_cmpstring"], unfollowed := true, recurses := true, apart := false, narrowed := true }
def AggNaiveUptoSaid : Prop := aggNaiveUptoRow.holds Try.pinned (OpenSpec.upto aggNaiveSpec)

/-- 'rollcalllaw12.AggOthers', WHERE WHAT IT READS IS OF BULK AT MOST 1048576: true; the input reads as it did. -/
def aggOthersUptoRow : OpenClaim := { program := "ytocljhbkjengpaa", sum := "af0dd3d2d4484b3bd13cf91fe7b12db04451032a1a44417abc79a588d73c4985", func := "rollcall/rollcalllaw12.AggOthers", spec := "aggOthers", inPlace := ["internal/bytealg.abigen_runtime_cmpstring"], unfollowed := true, recurses := true, apart := false, narrowed := true }
def AggOthersUptoSaid : Prop := aggOthersUptoRow.holds Try.pinned (OpenSpec.upto aggOthersSpec)

/-- 'rollcalllaw12.AggNil', WHERE WHAT IT READS IS OF BULK AT MOST 1048576: true; the input reads as it did. -/
def aggNilUptoRow : OpenClaim := { program := "ytocljhbkjengpaa", sum := "af0dd3d2d4484b3bd13cf91fe7b12db04451032a1a44417abc79a588d73c4985", func := "rollcall/rollcalllaw12.AggNil", spec := "aggNil", inPlace := ["internal/bytealg.abigen_runtime_cmpstring"], unfollowed := true, recurses := true, apart := false, narrowed := true }
def AggNilUptoSaid : Prop := aggNilUptoRow.holds Try.pinned (OpenSpec.upto aggNilSpec)

/-- 'rollcalllaw12.AggOrder', WHERE WHAT IT READS IS OF BULK AT MOST 1048576: true; the input reads as it did. -/
def aggOrderUptoRow : OpenClaim := { program := "ytocljhbkjengpaa", sum := "af0dd3d2d4484b3bd13cf91fe7b12db04451032a1a44417abc79a588d73c4985", func := "rollcall/rollcalllaw12.AggOrder", spec := "aggOrder", inPlace := ["internal/bytealg.abigen_runtime_cmpstring"], unfollowed := true, recurses := true, apart := false, narrowed := true }
def AggOrderUptoSaid : Prop := aggOrderUptoRow.holds Try.pinned (OpenSpec.upto aggOrderSpec)

/-- 'rollcalllaw07.SubsMay', WHERE WHAT IT READS IS OF BULK AT MOST 1048576: true; the input reads as it did. -/
def subsMayUptoRow : OpenClaim := { program := "ytocljhbkjengpaa", sum := "af0dd3d2d4484b3bd13cf91fe7b12db04451032a1a44417abc79a588d73c4985", func := "rollcall/rollcalllaw07.SubsMay", spec := "subsMay", unfollowed := true, recurses := true, apart := false, narrowed := true }
def SubsMayUptoSaid : Prop := subsMayUptoRow.holds Try.pinned (OpenSpec.upto subsMaySpec)

end Rows
end Go.Proofs.Ytocljhbkjengpaa
