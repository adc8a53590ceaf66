/-
  No cell of these rows narrows 'for every input' (looked for: loops, veiled, ifaces, maps, wideKeys, modest, calm, conditions, laid).
  DERIVED. THE GIVEN ROWS OF THIS SEAT. 3 by the template 'for every input the law returns true; each argument reads behind the call as it read before'; 0 by the template 'total and deterministic' (their statements: YtekkofldhhdpgaaTotals.lean).
  GIVEN WITH THE SEED: the statements are not yours to turn. If you find one false, say at which input.
  Laid BY PROGRAM, IN A SANDBOX (cutbox-rows.mjs): the forced cells as the released guide's own fill.sh prints them over the translation 37a5087e835b26a2… (all of the seat's roots in one cut). By AI agents, Wed Nov 11 2026. No macro, syntax, notation, axiom, sorry.
-/
import Derived.Test.YtekkofldhhdpgaaChecked
import GoSem.Claim
import GoSem.ClaimJoined
import GoSem.ClaimMapViews
import Derived.JoinedTies
import Derived.KernelRfl
namespace Go.Proofs.Ytekkofldhhdpgaa
/- THE CELL 'sum', in the pinned program and in every row, IS THE sha256 OF THE DUMP (.gsa) THAT YtekkofldhhdpgaaProg.lean LOADS. Nothing in Lean hashes anything: it is a label: what it is worth is what the hold of that sum in a sandbox is worth. -/
noncomputable def Try.pinned : Pinned := { name := "ytekkofldhhdpgaa", sum := "37a5087e835b26a2677be93cc9543524b59cd7adfee2186617b19e648aa514b1", checked := Try.checked }
namespace Rows
def none {H : Type} : Left H := { results := [], args := [] }

/-- 'rollcalllaw19.ClientTwice': WHATEVER THE INPUT: true; the input reads as it did. -/
def clientTwiceSpec : ChangeSpec := { name := "clientTwice", fn := fun _ => fun
  | [d1, d2, d3] => { results := [.lit (.bool true)], args := [d1, d2, d3] }
  | _ => none }
def clientTwiceRow : OpenClaim := { program := "ytekkofldhhdpgaa", sum := "37a5087e835b26a2677be93cc9543524b59cd7adfee2186617b19e648aa514b1", func := "rollcall/rollcalllaw19.ClientTwice", spec := "clientTwice", inPlace := ["internal/bytealg.abigen_runtime_cmpstring", "slices.overlaps[rollcall/api.Seen]", "internal/abi.NoEscape"], unfollowed := true, recurses := true, apart := false }
def ClientTwiceSaid : Prop := clientTwiceRow.holds Try.pinned (OpenSpec.ofChange clientTwiceSpec)

/-- ITS FALSE NEIGHBOUR: 'it returns false'. Refute it at one input. -/
def clientTwiceWrong : ChangeSpec := { name := "clientTwice", fn := fun _ => fun
  | [d1, d2, d3] => { results := [.lit (.bool false)], args := [d1, d2, d3] }
  | _ => none }
def ClientTwiceWrongFalsely : Prop := clientTwiceRow.holds Try.pinned (OpenSpec.ofChange clientTwiceWrong)

/-- 'rollcalllaw19.ClientGaps': WHATEVER THE INPUT: true; the input reads as it did. -/
def clientGapsSpec : ChangeSpec := { name := "clientGaps", fn := fun _ => fun
  | [d] => { results := [.lit (.bool true)], args := [d] }
  | _ => none }
def clientGapsRow : OpenClaim := { program := "ytekkofldhhdpgaa", sum := "37a5087e835b26a2677be93cc9543524b59cd7adfee2186617b19e648aa514b1", func := "rollcall/rollcalllaw19.ClientGaps", spec := "clientGaps", inPlace := ["internal/bytealg.abigen_runtime_cmpstring", "slices.overlaps[rollcall/api.Seen]", "internal/abi.NoEscape"], unfollowed := true, recurses := true, apart := false }
def ClientGapsSaid : Prop := clientGapsRow.holds Try.pinned (OpenSpec.ofChange clientGapsSpec)

/-- ITS FALSE NEIGHBOUR: 'it returns false'. Refute it at one input. -/
def clientGapsWrong : ChangeSpec := { name := "clientGaps", fn := fun _ => fun
  | [d] => { results := [.lit (.bool false)], args := [d] }
  | _ => none }
def ClientGapsWrongFalsely : Prop := clientGapsRow.holds Try.pinned (OpenSpec.ofChange clientGapsWrong)

/-- 'rollcalllaw19.ClientSame': WHATEVER THE INPUT: true; the input reads as it did. -/
def clientSameSpec : ChangeSpec := { name := "clientSame", fn := fun _ => fun
  | [d1, d2, d3] => { results := [.lit (.bool true)], args := [d1, d2, d3] }
  | _ => none }
def clientSameRow : OpenClaim := { program := "ytekkofldhhdpgaa", sum := "37a5087e835b26a2677be93cc9543524b59cd7adfee2186617b19e648aa514b1", func := "rollcall/rollcalllaw19.ClientSame", spec := "clientSame", inPlace := ["internal/bytealg.abigen_runtime_cmpstring", "slices.overlaps[rollcall/api.Seen]", "internal/abi.NoEscape"], unfollowed := true, recurses := true, apart := false }
def ClientSameSaid : Prop := clientSameRow.holds Try.pinned (OpenSpec.ofChange clientSameSpec)

/-- ITS FALSE NEIGHBOUR: 'it returns false'. Refute it at one input. -/
def clientSameWrong : ChangeSpec := { name := "clientSame", fn := fun _ => fun
  | [d1, d2, d3] => { results := [.lit (.bool false)], args := [d1, d2, d3] }
  | _ => none }
def ClientSameWrongFalsely : Prop := clientSameRow.holds Try.pinned (OpenSpec.ofChange clientSameWrong)

/- THE SECOND FORM. 'bulk': how many values and letters a reading holds, each counted each time it is reached (what is shared counts as often as it is met; a slice's spare places count too). A statement '..UptoSaid' is the law's where the arguments, and the package variables that the reading takes, are together of bulk at most 1048576: NARROWER than '..Said'. Prove '..Said' where nothing that the law and all that it calls make is longer than what came in: it says more and counts as full. Else prove '..UptoSaid'. A law counts once. -/
mutual
def uptoBulk {H : Type} : DataW H → Nat
  | .lit (.string bytes) => bytes.length + 1
  | .lit _ => 1
  | .nil => 1
  | .ptr d => uptoBulk d + 1
  | .slice elems spare => uptoBulkAll elems + uptoBulkAll spare + 1
  | .agg parts => uptoBulkAll parts + 1
  | .iface _ d => uptoBulk d + 1
  | .map entries => uptoBulkEntries entries + 1
  | .held _ => 1
def uptoBulkAll {H : Type} : List (DataW H) → Nat
  | [] => 0
  | d :: r => uptoBulk d + uptoBulkAll r
def uptoBulkEntries {H : Type} : List (Lit × DataW H) → Nat
  | [] => 0
  | x :: r => uptoBulkEntry x + uptoBulkEntries r
def uptoBulkEntry {H : Type} : Lit × DataW H → Nat
  | (.string bytes, d) => bytes.length + uptoBulk d + 1
  | (_, d) => uptoBulk d + 1
 end
def uptoSmall : (H : Type) → List (DataW H) → Bool := fun _ ds => decide (uptoBulkAll ds ≤ 1048576)
def OpenSpec.upto (s : _root_.Go.ChangeSpec) : _root_.Go.OpenSpec := { _root_.Go.OpenSpec.ofChange s with cond := some uptoSmall }

/-- 'rollcalllaw19.ClientTwice', WHERE WHAT IT READS IS OF BULK AT MOST 1048576: true; the input reads as it did. -/
def clientTwiceUptoRow : OpenClaim := { program := "ytekkofldhhdpgaa", sum := "37a5087e835b26a2677be93cc9543524b59cd7adfee2186617b19e648aa514b1", func := "rollcall/rollcalllaw19.ClientTwice", spec := "clientTwice", inPlace := ["internal/bytealg.abigen_runtime_cmpstring", "slices.overlaps[rollcall/api.Seen]", "internal/abi.NoEscape"], unfollowed := true, recurses := true, apart := false, narrowed := true }
def ClientTwiceUptoSaid : Prop := clientTwiceUptoRow.holds Try.pinned (OpenSpec.upto clientTwiceSpec)

/-- 'rollcalllaw19.ClientGaps', WHERE WHAT IT READS IS OF BULK AT MOST 1048576: true; the input reads as it did. -/
def clientGapsUptoRow : OpenClaim := { program := "ytekkofldhhdpgaa", sum := "37a5087e835b26a2677be93cc9543524b59cd7adfee2186617b19e648aa514b1", func := "rollcall/rollcalllaw19.ClientGaps", spec := "clientGaps", inPlace := ["internal/bytealg.abigen_runtime_cmpstring", "slices.overlaps[rollcall/api.Seen]", "internal/abi.NoEscape"], unfollowed := true, recurses := true, apart := false, narrowed := true }
def ClientGapsUptoSaid : Prop := clientGapsUptoRow.holds Try.pinned (OpenSpec.upto clientGapsSpec)

/-- 'rollcalllaw19.ClientSame', WHERE WHAT IT READS IS OF BULK AT MOST 1048576: true; the input reads as it did. -/
def clientSameUptoRow : OpenClaim := { program := "ytekkofldhhdpgaa", sum := "37a5087e835b26a2677be93cc9543524b59cd7adfee2186617b19e648aa514b1", func := "rollcall/rollcalllaw19.ClientSame", spec := "clientSame", inPlace := ["internal/bytealg.abigen_runtime_cmpstring", "slices.overlaps[rollcall/api.Seen]", "internal/abi.NoEscape"], unfollowed := true, recurses := true, apart := false, narrowed := true }
def ClientSameUptoSaid : Prop := clientSameUptoRow.holds Try.pinned (OpenSpec.upto clientSameSpec)

end Rows
end Go.Proofs.Ytekkofldhhdpgaa
