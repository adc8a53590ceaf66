/-
  No cell of these rows narrows 'for every input' (looked for: loops, veiled, ifaces, maps, wideKeys, modest, calm, conditions, laid).
  DERIVED. THE GIVEN ROWS OF THIS SEAT. 12 by the template 'for every input the law returns true; each argument reads behind the call as it read before'; 0 by the template 'total and deterministic' (their statements: YtkmbnpjnjlcjmaaTotals.lean).
  GIVEN WITH THE SEED: the statements are not yours to turn. If you find one false, say at which input.
  Laid BY PROGRAM, IN A SANDBOX (cutbox-rows.mjs): the forced cells as the released guide's own fill.sh prints them over the translation 2aafd826992c5b3c… (all of the seat's roots in one cut). By AI agents, Wed Nov 11 2026. No macro, syntax, notation, axiom, sorry.
-/
import Derived.Test.YtkmbnpjnjlcjmaaChecked
import GoSem.Claim
import GoSem.ClaimJoined
import GoSem.ClaimMapViews
import Derived.JoinedTies
import Derived.KernelRfl
namespace Go.Proofs.Ytkmbnpjnjlcjmaa
/- THE CELL 'sum', in the pinned program and in every row, IS THE sha256 OF THE DUMP (.gsa) THAT YtkmbnpjnjlcjmaaProg.lean LOADS. Nothing in Lean hashes anything: it is a label: what it is worth is what the hold of that sum in a sandbox is worth. -/
noncomputable def Try.pinned : Pinned := { name := "ytkmbnpjnjlcjmaa", sum := "2aafd826992c5b3c00c0ca011afcd9275a05fa6b2d37829047eb439006083dee", checked := Try.checked }
namespace Rows
def none {H : Type} : Left H := { results := [], args := [] }

/-- 'rollcalllaw09.SessTells': WHATEVER THE INPUT: true; the input reads as it did. -/
def sessTellsSpec : ChangeSpec := { name := "sessTells", fn := fun _ => fun
  | [d1, d2] => { results := [.lit (.bool true)], args := [d1, d2] }
  | _ => none }
def sessTellsRow : OpenClaim := { program := "ytkmbnpjnjlcjmaa", sum := "2aafd826992c5b3c00c0ca011afcd9275a05fa6b2d37829047eb439006083dee", func := "rollcall/rollcalllaw09.SessTells", spec := "sessTells", inPlace := ["internal/bytealg.abigen_runtime_cmpstring", "slices.overlaps[rollcall/api.Session]"], unfollowed := true, recurses := true, apart := false }
def SessTellsSaid : Prop := sessTellsRow.holds Try.pinned (OpenSpec.ofChange sessTellsSpec)

/-- ITS FALSE NEIGHBOUR: 'it returns false'. Refute it at one input. -/
def sessTellsWrong : ChangeSpec := { name := "sessTells", fn := fun _ => fun
  | [d1, d2] => { results := [.lit (.bool false)], args := [d1, d2] }
  | _ => none }
def SessTellsWrongFalsely : Prop := sessTellsRow.holds Try.pinned (OpenSpec.ofChange sessTellsWrong)

/-- 'rollcalllaw09.SessPuts': WHATEVER THE INPUT: true; the input reads as it did. -/
def sessPutsSpec : ChangeSpec := { name := "sessPuts", fn := fun _ => fun
  | [d1, d2] => { results := [.lit (.bool true)], args := [d1, d2] }
  | _ => none }
def sessPutsRow : OpenClaim := { program := "ytkmbnpjnjlcjmaa", sum := "2aafd826992c5b3c00c0ca011afcd9275a05fa6b2d37829047eb439006083dee", func := "rollcall/rollcalllaw09.SessPuts", spec := "sessPuts", inPlace := ["internal/bytealg.abigen_runtime_cmpstring", "slices.overlaps[rollcall/api.Session]"], unfollowed := true, recurses := true, apart := false }
def SessPutsSaid : Prop := sessPutsRow.holds Try.pinned (OpenSpec.ofChange sessPutsSpec)

/-- ITS FALSE NEIGHBOUR: 'it returns false'. Refute it at one input. -/
def sessPutsWrong : ChangeSpec := { name := "sessPuts", fn := fun _ => fun
  | [d1, d2] => { results := [.lit (.bool false)], args := [d1, d2] }
  | _ => none }
def SessPutsWrongFalsely : Prop := sessPutsRow.holds Try.pinned (OpenSpec.ofChange sessPutsWrong)

/-- 'rollcalllaw09.SessKeeps': WHATEVER THE INPUT: true; the input reads as it did. -/
def sessKeepsSpec : ChangeSpec := { name := "sessKeeps", fn := fun _ => fun
  | [d1, d2, d3] => { results := [.lit (.bool true)], args := [d1, d2, d3] }
  | _ => none }
def sessKeepsRow : OpenClaim := { program := "ytkmbnpjnjlcjmaa", sum := "2aafd826992c5b3c00c0ca011afcd9275a05fa6b2d37829047eb439006083dee", func := "rollcall/rollcalllaw09.SessKeeps", spec := "sessKeeps", inPlace := ["internal/bytealg.abigen_runtime_cmpstring", "slices.overlaps[rollcall/api.Session]"], unfollowed := true, recurses := true, apart := false }
def SessKeepsSaid : Prop := sessKeepsRow.holds Try.pinned (OpenSpec.ofChange sessKeepsSpec)

/-- ITS FALSE NEIGHBOUR: 'it returns false'. Refute it at one input. -/
def sessKeepsWrong : ChangeSpec := { name := "sessKeeps", fn := fun _ => fun
  | [d1, d2, d3] => { results := [.lit (.bool false)], args := [d1, d2, d3] }
  | _ => none }
def SessKeepsWrongFalsely : Prop := sessKeepsRow.holds Try.pinned (OpenSpec.ofChange sessKeepsWrong)

/-- 'rollcalllaw09.SessAll': WHATEVER THE INPUT: true; the input reads as it did. -/
def sessAllSpec : ChangeSpec := { name := "sessAll", fn := fun _ => fun
  | [d] => { results := [.lit (.bool true)], args := [d] }
  | _ => none }
def sessAllRow : OpenClaim := { program := "ytkmbnpjnjlcjmaa", sum := "2aafd826992c5b3c00c0ca011afcd9275a05fa6b2d37829047eb439006083dee", func := "rollcall/rollcalllaw09.SessAll", spec := "sessAll", inPlace := ["internal/bytealg.abigen_runtime_cmpstring", "slices.overlaps[rollcall/api.Session]"], unfollowed := true, recurses := true, apart := false }
def SessAllSaid : Prop := sessAllRow.holds Try.pinned (OpenSpec.ofChange sessAllSpec)

/-- ITS FALSE NEIGHBOUR: 'it returns false'. Refute it at one input. -/
def sessAllWrong : ChangeSpec := { name := "sessAll", fn := fun _ => fun
  | [d] => { results := [.lit (.bool false)], args := [d] }
  | _ => none }
def SessAllWrongFalsely : Prop := sessAllRow.holds Try.pinned (OpenSpec.ofChange sessAllWrong)

/-- 'rollcalllaw09.SessTwo': WHATEVER THE INPUT: true; the input reads as it did. -/
def sessTwoSpec : ChangeSpec := { name := "sessTwo", fn := fun _ => fun
  | [d1, d2, d3] => { results := [.lit (.bool true)], args := [d1, d2, d3] }
  | _ => none }
def sessTwoRow : OpenClaim := { program := "ytkmbnpjnjlcjmaa", sum := "2aafd826992c5b3c00c0ca011afcd9275a05fa6b2d37829047eb439006083dee", func := "rollcall/rollcalllaw09.SessTwo", spec := "sessTwo", inPlace := ["internal/bytealg.abigen_runtime_cmpstring", "slices.overlaps[rollcall/api.Session]"], unfollowed := true, recurses := true, apart := false }
def SessTwoSaid : Prop := sessTwoRow.holds Try.pinned (OpenSpec.ofChange sessTwoSpec)

/-- ITS FALSE NEIGHBOUR: 'it returns false'. Refute it at one input. -/
def sessTwoWrong : ChangeSpec := { name := "sessTwo", fn := fun _ => fun
  | [d1, d2, d3] => { results := [.lit (.bool false)], args := [d1, d2, d3] }
  | _ => none }
def SessTwoWrongFalsely : Prop := sessTwoRow.holds Try.pinned (OpenSpec.ofChange sessTwoWrong)

/-- 'rollcalllaw11.BestMore': WHATEVER THE INPUT: true; the input reads as it did. -/
def bestMoreSpec : ChangeSpec := { name := "bestMore", fn := fun _ => fun
  | [d1, d2] => { results := [.lit (.bool true)], args := [d1, d2] }
  | _ => none }
def bestMoreRow : OpenClaim := { program := "ytkmbnpjnjlcjmaa", sum := "2aafd826992c5b3c00c0ca011afcd9275a05fa6b2d37829047eb439006083dee", func := "rollcall/rollcalllaw11.BestMore", spec := "bestMore", apart := false }
def BestMoreSaid : Prop := bestMoreRow.holds Try.pinned (OpenSpec.ofChange bestMoreSpec)

/-- ITS FALSE NEIGHBOUR: 'it returns false'. Refute it at one input. -/
def bestMoreWrong : ChangeSpec := { name := "bestMore", fn := fun _ => fun
  | [d1, d2] => { results := [.lit (.bool false)], args := [d1, d2] }
  | _ => none }
def BestMoreWrongFalsely : Prop := bestMoreRow.holds Try.pinned (OpenSpec.ofChange bestMoreWrong)

/-- 'rollcalllaw07.SubsMay': WHATEVER THE INPUT: true; the input reads as it did. -/
def subsMaySpec : ChangeSpec := { name := "subsMay", fn := fun _ => fun
  | [d] => { results := [.lit (.bool true)], args := [d] }
  | _ => none }
def subsMayRow : OpenClaim := { program := "ytkmbnpjnjlcjmaa", sum := "2aafd826992c5b3c00c0ca011afcd9275a05fa6b2d37829047eb439006083dee", func := "rollcall/rollcalllaw07.SubsMay", spec := "subsMay", unfollowed := true, recurses := true, apart := false }
def SubsMaySaid : Prop := subsMayRow.holds Try.pinned (OpenSpec.ofChange subsMaySpec)

/-- ITS FALSE NEIGHBOUR: 'it returns false'. Refute it at one input. -/
def subsMayWrong : ChangeSpec := { name := "subsMay", fn := fun _ => fun
  | [d] => { results := [.lit (.bool false)], args := [d] }
  | _ => none }
def SubsMayWrongFalsely : Prop := subsMayRow.holds Try.pinned (OpenSpec.ofChange subsMayWrong)

/-- 'rollcalllaw12.AggScripts': WHATEVER THE INPUT: true; the input reads as it did. -/
def aggScriptsSpec : ChangeSpec := { name := "aggScripts", fn := fun _ => fun
  | [d] => { results := [.lit (.bool true)], args := [d] }
  | _ => none }
def aggScriptsRow : OpenClaim := { program := "ytkmbnpjnjlcjmaa", sum := "2aafd826992c5b3c00c0ca011afcd9275a05fa6b2d37829047eb439006083dee", func := "rollcall/rollcalllaw12.AggScripts", spec := "aggScripts", inPlace := ["internal/bytealg.abigen_runtime_cmpstring"], unfollowed := true, recurses := true, apart := false }
def AggScriptsSaid : Prop := aggScriptsRow.holds Try.pinned (OpenSpec.ofChange aggScriptsSpec)

/-- ITS FALSE NEIGHBOUR: 'it returns false'. Refute it at one input. -/
def aggScriptsWrong : ChangeSpec := { name := "aggScripts", fn := fun _ => fun
  | [d] => { results := [.lit (.bool false)], args := [d] }
  | _ => none }
def AggScriptsWrongFalsely : Prop := aggScriptsRow.holds Try.pinned (OpenSpec.ofChange aggScriptsWrong)

/-- 'rollcalllaw12.AggNaive': WHATEVER THE INPUT: true; the input reads as it did. -/
def aggNaiveSpec : ChangeSpec := { name := "aggNaive", fn := fun _ => fun
  | [d] => { results := [.lit (.bool true)], args := [d] }
  | _ => none }
def aggNaiveRow : OpenClaim := { program := "ytkmbnpjnjlcjmaa", sum := "2aafd826992c5b3c00c0ca011afcd9275a05fa6b2d37829047eb439006083dee", func := "rollcall/rollcalllaw12.AggNaive", spec := "aggNaive", inPlace := ["internal/bytealg.abigen_runtime_cmpstring"], unfollowed := true, recurses := true, apart := false }
def AggNaiveSaid : Prop := aggNaiveRow.holds Try.pinned (OpenSpec.ofChange aggNaiveSpec)

/-- ITS FALSE NEIGHBOUR: 'it returns false'. Refute it at one input. -/
def aggNaiveWrong : ChangeSpec := { name := "aggNaive", fn := fun _ => fun
  | [d] => { results := [.lit (.bool false)], args := [d] }
  | _ => none }
def AggNaiveWrongFalsely : Prop := aggNaiveRow.holds Try.pinned (OpenSpec.ofChange aggNaiveWrong)

/-- 'rollcalllaw12.AggOthers': WHATEVER THE INPUT: true; the input reads as it did. -/
def aggOthersSpec : ChangeSpec := { name := "aggOthers", fn := fun _ => fun
  | [d1, d2, d3] => { results := [.lit (.bool true)], args := [d1, d2, d3] }
  | _ => none }
def aggOthersRow : OpenClaim := { program := "ytkmbnpjnjlcjmaa", sum := "2aafd826992c5b3c00c0ca011afcd9275a05fa6b2d37829047eb439006083dee", func := "rollcall/rollcalllaw12.AggOthers", spec := "aggOthers", inPlace := ["internal/bytealg.abigen_runtime_cmpstring"], unfollowed := true, recurses := true, apart := false }
def AggOthersSaid : Prop := aggOthersRow.holds Try.pinned (OpenSpec.ofChange aggOthersSpec)

/-- ITS FALSE NEIGHBOUR: 'it returns false'. Refute it at one input. -/
def aggOthersWrong : ChangeSpec := { name := "aggOthers", fn := fun _ => fun
  | [d1, d2, d3] => { results := [.lit (.bool false)], args := [d1, d2, d3] }
  | _ => none }
def AggOthersWrongFalsely : Prop := aggOthersRow.holds Try.pinned (OpenSpec.ofChange aggOthersWrong)

/-- 'rollcalllaw12.AggNil': WHATEVER THE INPUT: true; the input reads as it did. -/
def aggNilSpec : ChangeSpec := { name := "aggNil", fn := fun _ => fun
  | [d] => { results := [.lit (.bool true)], args := [d] }
  | _ => none }
def aggNilRow : OpenClaim := { program := "ytkmbnpjnjlcjmaa", sum := "2aafd826992c5b3c00c0ca011afcd9275a05fa6b2d37829047eb439006083dee", func := "rollcall/rollcalllaw12.AggNil", spec := "aggNil", inPlace := ["internal/bytealg.abigen_runtime_cmpstring"], unfollowed := true, recurses := true, apart := false }
def AggNilSaid : Prop := aggNilRow.holds Try.pinned (OpenSpec.ofChange aggNilSpec)

/-- ITS FALSE NEIGHBOUR: 'it returns false'. Refute it at one input. -/
def aggNilWrong : ChangeSpec := { name := "aggNil", fn := fun _ => fun
  | [d] => { results := [.lit (.bool false)], args := [d] }
  | _ => none }
def AggNilWrongFalsely : Prop := aggNilRow.holds Try.pinned (OpenSpec.ofChange aggNilWrong)

/-- 'rollcalllaw12.AggOrder': WHATEVER THE INPUT: true; the input reads as it did. -/
def aggOrderSpec : ChangeSpec := { name := "aggOrder", fn := fun _ => fun
  | [d1, d2] => { results := [.lit (.bool true)], args := [d1, d2] }
  | _ => none }
def aggOrderRow : OpenClaim := { program := "ytkmbnpjnjlcjmaa", sum := "2aafd826992c5b3c00c0ca011afcd9275a05fa6b2d37829047eb439006083dee", func := "rollcall/rollcalllaw12.AggOrder", spec := "aggOrder", inPlace := ["internal/bytealg.abigen_runtime_cmpstring"], unfollowed := true, recurses := true, apart := false }
def AggOrderSaid : Prop := aggOrderRow.holds Try.pinned (OpenSpec.ofChange aggOrderSpec)

/-- ITS FALSE NEIGHBOUR: 'it returns false'. Refute it at one input. -/
def aggOrderWrong : ChangeSpec := { name := "aggOrder", fn := fun _ => fun
  | [d1, d2] => { results := [.lit (.bool false)], args := [d1, d2] }
  | _ => none }
def AggOrderWrongFalsely : Prop := aggOrderRow.holds Try.pinned (OpenSpec.ofChange aggOrderWrong)

/- THE SECOND FORM. 'bulk': how many values and letters a reading holds, each counted each time it is reached (what is shared counts as often as it is met; a slice's spare places count too). A statement '..UptoSaid' is the law's where the arguments, and the package variables that the reading takes, are together of bulk at most 1048576: NARROWER than '..Said'. Prove '..Said' where nothing that the law and all that it calls make is longer than what came in: it says more and counts as full. Else prove '..UptoSaid'. A law counts once. -/
mutual
def uptoBulk {H : Type} : DataW H → Nat
  | .lit (.string bytes) => bytes.length + 1
  | .lit _ => 1
  | .nil => 1
  | .ptr d => uptoBulk d + 1
  | .slice elems spare => uptoBulkAll elems + uptoBulkAll spare + 1
  | .agg parts => uptoBulkAll parts + 1
  | .iface _ d => uptoBulk d + 1
  | .map entries => uptoBulkEntries entries + 1
  | .held _ => 1
def uptoBulkAll {H : Type} : List (DataW H) → Nat
  | [] => 0
  | d :: r => uptoBulk d + uptoBulkAll r
def uptoBulkEntries {H : Type} : List (Lit × DataW H) → Nat
  | [] => 0
  | x :: r => uptoBulkEntry x + uptoBulkEntries r
def uptoBulkEntry {H : Type} : Lit × DataW H → Nat
  | (.string bytes, d) => bytes.length + uptoBulk d + 1
  | (_, d) => uptoBulk d + 1
 end
def uptoSmall : (H : Type) → List (DataW H) → Bool := fun _ ds => decide (uptoBulkAll ds ≤ 1048576)
def OpenSpec.upto (s : _root_.Go.ChangeSpec) : _root_.Go.OpenSpec := { _root_.Go.OpenSpec.ofChange s with cond := some uptoSmall }

/-- 'rollcalllaw09.SessTells', WHERE WHAT IT READS IS OF BULK AT MOST 1048576: true; the input reads as it did. -/
def sessTellsUptoRow : OpenClaim := { program := "ytkmbnpjnjlcjmaa", sum := "2aafd826992c5b3c00c0ca011afcd9275a05fa6b2d37829047eb439006083dee", func := "rollcall/rollcalllaw09.SessTells", spec := "sessTells", inPlace := ["internal/bytealg.abigen_runtime_cmpstring", "slices.overlaps[rollcall/api.Session]"], unfollowed := true, recurses := true, apart := false, narrowed := true }
def SessTellsUptoSaid : Prop := sessTellsUptoRow.holds Try.pinned (OpenSpec.upto sessTellsSpec)

/-- 'rollcalllaw09.SessPuts', WHERE WHAT IT READS IS OF BULK AT MOST 1048576: true; the input reads as it did. -/
def sessPutsUptoRow : OpenClaim := { program := "ytkmbnpjnjlcjmaa", sum := "2aafd826992c5b3c00c0ca011afcd9275a05fa6b2d37829047eb439006083dee", func := "rollcall/rollcalllaw09.SessPuts", spec := "sessPuts", inPlace := ["internal/bytealg.abigen_runtime_cmpstring", "slices.overlaps[rollcall/api.Session]"], unfollowed := true, recurses := true, apart := false, narrowed := true }
def SessPutsUptoSaid : Prop := sessPutsUptoRow.holds Try.pinned (OpenSpec.upto sessPutsSpec)

/-- 'rollcalllaw09.SessKeeps', WHERE WHAT IT READS IS OF BULK AT MOST 1048576: true; the input reads as it did. -/
def sessKeepsUptoRow : OpenClaim := { program := "ytkmbnpjnjlcjmaa", sum := "2aafd826992c5b3c00c0ca011afcd9275a05fa6b2d37829047eb439006083dee", func := "rollcall/rollcalllaw09.SessKeeps", spec := "sessKeeps", inPlace := ["internal/bytealg.abigen_runtime_cmpstring", "slices.overlaps[rollcall/api.Session]"], unfollowed := true, recurses := true, apart := false, narrowed := true }
def SessKeepsUptoSaid : Prop := sessKeepsUptoRow.holds Try.pinned (OpenSpec.upto sessKeepsSpec)

/-- 'rollcalllaw09.SessAll', WHERE WHAT IT READS IS OF BULK AT MOST 1048576: true; the input reads as it did. -/
def sessAllUptoRow : OpenClaim := { program := "ytkmbnpjnjlcjmaa", sum := "2aafd826992c5b3c00c0ca011afcd9275a05fa6b2d37829047eb439006083dee", func := "rollcall/rollcalllaw09.SessAll", spec := "sessAll", inPlace := ["internal/bytealg.abigen_runtime_cmpstring", "slices.overlaps[rollcall/api.Session]"], unfollowed := true, recurses := true, apart := false, narrowed := true }
def SessAllUptoSaid : Prop := sessAllUptoRow.holds Try.pinned (OpenSpec.upto sessAllSpec)

/-- 'rollcalllaw09.SessTwo', WHERE WHAT IT READS IS OF BULK AT MOST 1048576: true; the input reads as it did. -/
def sessTwoUptoRow : OpenClaim := { program := "ytkmbnpjnjlcjmaa", sum := "2aafd826992c5b3c00c0ca011afcd9275a05fa6b2d37829047eb439006083dee", func := "rollcall/rollcalllaw09.SessTwo", spec := "sessTwo", inPlace := ["internal/bytealg.abigen_runtime_cmpstring", "slices.overlaps[rollcall/api.Session]"], unfollowed := true, recurses := true, apart := false, narrowed := true }
def SessTwoUptoSaid : Prop := sessTwoUptoRow.holds Try.pinned (OpenSpec.upto sessTwoSpec)

/-- 'rollcalllaw11.BestMore', WHERE WHAT IT READS IS OF BULK AT MOST 1048576: true; the input reads as it did. -/
def bestMoreUptoRow : OpenClaim := { program := "ytkmbnpjnjlcjmaa", sum := "2aafd826992c5b3c00c0ca011afcd9275a05fa6b2d37829047eb439006083dee", func := "rollcall/rollcalllaw11.BestMore", spec := "bestMore", apart := false, narrowed := true }
def BestMoreUptoSaid : Prop := bestMoreUptoRow.holds Try.pinned (OpenSpec.upto bestMoreSpec)

/-- 'rollcalllaw07.SubsMay', WHERE WHAT IT READS IS OF BULK AT MOST 1048576: true; the input reads as it did. -/
def subsMayUptoRow : OpenClaim := { program := "ytkmbnpjnjlcjmaa", sum := "2aafd826992c5b3c00c0ca011afcd9275a05fa6b2d37829047eb439006083dee", func := "rollcall/rollcalllaw07.SubsMay", spec := "subsMay", unfollowed := true, recurses := true, apart := false, narrowed := true }
def SubsMayUptoSaid : Prop := subsMayUptoRow.holds Try.pinned (OpenSpec.upto subsMaySpec)

/-- 'rollcalllaw12.AggScripts', WHERE WHAT IT READS IS OF BULK AT MOST 1048576: true; the input reads as it did. -/
def aggScriptsUptoRow : OpenClaim := { program := "ytkmbnpjnjlcjmaa", sum := "2aafd826992c5b3c00c0ca011afcd9275a05fa6b2d37829047eb439006083dee", func := "rollcall/rollcalllaw12.AggScripts", spec := "aggScripts", inPlace := ["internal/bytealg.abigen_runtime_cmpstring"], unfollowed := true, recurses := true, apart := false, narrowed := true }
def AggScriptsUptoSaid : Prop := aggScriptsUptoRow.holds Try.pinned (OpenSpec.upto aggScriptsSpec)

/-- 'rollcalllaw12.AggNaive', WHERE WHAT IT READS IS OF BULK AT MOST 1048576: true; the input reads as it did. -/
def aggNaiveUptoRow : OpenClaim := { program := "ytkmbnpjnjlcjmaa", sum := "2aafd826992c5b3c00c0ca011afcd9275a05fa6b2d37829047eb439006083dee", func := "rollcall/rollcalllaw12.AggNaive", spec := "aggNaive", inPlace := ["internal/bytealg.abigen_runtime_cmpstring"], unfollowed := true, recurses := true, apart := false, narrowed := true }
def AggNaiveUptoSaid : Prop := aggNaiveUptoRow.holds Try.pinned (OpenSpec.upto aggNaiveSpec)

/-- 'rollcalllaw12.AggOthers', WHERE WHAT IT READS IS OF BULK AT MOST 1048576: true; the input reads as it did. -/
def aggOthersUptoRow : OpenClaim := { program := "ytkmbnpjnjlcjmaa", sum := "2aafd826992c5b3c00c0ca011afcd9275a05fa6b2d37829047eb439006083dee", func := "rollcall/rollcalllaw12.AggOthers", spec := "aggOthers", inPlace := ["internal/bytealg.abigen_runtime_cmpstring"], unfollowed := true, recurses := true, apart := false, narrowed := true }
def AggOthersUptoSaid : Prop := aggOthersUptoRow.holds Try.pinned (OpenSpec.upto aggOthersSpec)

/-- 'rollcalllaw12.AggNil', WHERE WHAT IT READS IS OF BULK AT MOST 1048576: true; the input reads as it did. -/
def aggNilUptoRow : OpenClaim := { program := "ytkmbnpjnjlcjmaa", sum := "2aafd826992c5b3c00c0ca011afcd9275a05fa6b2d37829047eb439006083dee", func := "rollcall/rollcalllaw12.AggNil", spec := "aggNil", inPlace := ["internal/bytealg.abigen_runtime_cmpstring"], unfollowed := true, recurses := true, apart := false, narrowed := true }
def AggNilUptoSaid : Prop := aggNilUptoRow.holds Try.pinned (OpenSpec.upto aggNilSpec)

/-- 'rollcalllaw12.AggOrder', WHERE WHAT IT READS IS OF BULK AT MOST 1048576: true; the input reads as it did. -/
def aggOrderUptoRow : OpenClaim := { program := "ytkmbnpjnjlcjmaa", sum := "2aafd826992c5b3c00c0ca011afcd9275a05fa6b2d37829047eb439006083dee", func := "rollcall/rollcalllaw12.AggOrder", spec := "aggOrder", inPlace := ["internal/bytealg.abigen_runtime_cmpstring"], unfollowed := true, recurses := true, apart := false, narrowed := true }
def AggOrderUptoSaid : Prop := aggOrderUptoRow.holds Try.pinned (OpenSpec.upto aggOrderSpec)

end Rows
end Go.Proofs.Ytkmbnpjnjlcjmaa
