/-
  TEXTS OF THE PROOF, one behind the other: VarPut, VarGet, VarRget, VarTake, Shelf, IdCmp, IdIs, IdFold, IdTake, Bytes.
-/
import Derived.Test.YtdilcckoapaimaaGreatRows
import Derived.Test.YtdilcckoapaimaaGreatD01
import Derived.Deep.DeepMust
import Derived.Lib.Hide
import Derived.Shelf.Strings.Builder1
import Derived.Shelf.Small.Bits
import Derived.Shelf.Small.Strs
import Derived.Shelf.Small.Wraps
import Derived.Shelf.Strings.BuilderF
import Derived.Shelf.Strings.BuilderK
import Derived.Shelf.Strings.BuilderRune
import Derived.Shelf.Slices.CompactS
import Derived.Shelf.SlicesE.Compact
import Derived.Shelf.SlSortCmp.Insertion
import Derived.Shelf.SlSortCmp.SiftDown1
import Derived.Shelf.SlSortCmp.HeapSort1
import Derived.Shelf.SlSortCmp.Insertion1
import Derived.Shelf.SlSortCmp.Median1
import Derived.Shelf.SlSortCmp.Pivot1
import Derived.Shelf.SlSortCmp.ReverseRange1
import Derived.Shelf.SlSortCmp.PartialInsertion1
import Derived.Shelf.SlSortCmp.PartitionEqual1
import Derived.Shelf.SlSortCmp.Partition1
import Derived.Shelf.SlSortCmp.Pdq1
import Derived.Shelf.SlSortCmp.Whole1
import Derived.Shelf.SlSortCmp.NoneTotal
import Derived.Lib.OthersKept
import Derived.Lib.ConvBytes

section

/-
  THE CONTRACTS OF varint.Put, Size, Text AND OF THE DOCUMENT'S ANSWERS TO THEM: each returns what the plain mathematics says, and writes nothing that was there.
-/
namespace Go.Proofs.YtdilcckoapaimaaGreat
open Go.RowKit

end Go.Proofs.YtdilcckoapaimaaGreat

end

section

/-
  THE CONTRACTS OF varint.Get, Take AND OF THE DOCUMENT'S ANSWERS TO THEM.
-/
namespace Go.Proofs.YtdilcckoapaimaaGreat
open Go.RowKit

/-- Three results: number, place, error. -/
def triple (r : Nat × Nat × Nat) : Value := .tuple #[.int .u64 r.1, .int .i64 r.2.1, .int .i64 r.2.2]

/-- What holds at each jump back. -/
def GetJ (l : List UInt8) (q : Nat) (w : World) (a' : Act) (w' : World) : Prop := w' = w ∧ ∃ (i acc p sh : Nat) (u10 u11 u12 u13 u14 u15 u16 u17 u18 u19 u20 u21 u22 u23 u24 u25 u26 u27 u28 u29 u30 u31 u32 u33 u34 u35 u36 u37 u38 u39 u40 u41 u42 u43 u44 u45 u46 u47 u48 u49 u50 u51 u52 u53 u54 u55 u56 : Value), i ≤ 9 ∧ 1 ≤ i ∧ p ≤ l.length ∧ Hid (GetAt l q i acc p sh) ∧
      a' = { tmps := #[.string ⟨l.toArray⟩, .int .i64 q, undef, undef, .int .u64 0, .int .i64 0, .int .i64 0, .int .u64 acc, .int .u64 sh, .int .i64 p, u10, u11, u12, u13, u14, u15, u16, u17, u18, u19, u20, u21, u22, u23, u24, u25, u26, u27, u28, u29, u30, u31, u32, u33, u34, u35, u36, u37, u38, u39, u40, u41, u42, u43, u44, u45, u46, u47, u48, u49, u50, u51, u52, u53, u54, u55, u56], defers := [] }

def GetM (l : List UInt8) (a' : Act) (_ : World) : Nat := l.length - (intOf (a'.tmps.getD 9 undef)).toNat

end Go.Proofs.YtdilcckoapaimaaGreat

end

section

/-
  THE CONTRACT OF THE DOCUMENT'S ANSWER TO varint.Get.
-/
namespace Go.Proofs.YtdilcckoapaimaaGreat
open Go.RowKit

end Go.Proofs.YtdilcckoapaimaaGreat

end

section

/-
  THE CONTRACTS OF varint.Take AND OF THE DOCUMENT'S ANSWER TO IT.
-/
namespace Go.Proofs.YtdilcckoapaimaaGreat
open Go.RowKit

/-- Three results: text, place, error. -/
def tripleS (r : List UInt8 × Nat × Nat) : Value := .tuple #[.string ⟨r.1.toArray⟩, .int .i64 r.2.1, .int .i64 r.2.2]

end Go.Proofs.YtdilcckoapaimaaGreat

end

section

/-
  CONTRACTS OF GO'S OWN LIBRARY AT THIS PROGRAM, LAID WITHOUT A WALK: the tables of numbers and one application each (strings.Builder, strings.Compare, cmp.Compare, slices.Compact, slices.SortFunc).
-/
namespace Go.Proofs.YtdilcckoapaimaaGreat
open Go.Shelf Go.RowKit

def Tryz.lays106_ren : Go.Shelf.Ren := ⟨fun | 106 => 140 | 213 => 167 | 265 => 181 | n => n, fun | 9 => 9 | 3 => 3 | n => n, fun | n => n⟩

theorem Tryz.lays106 : Go.Proofs.Lays.n106 Tryz.prog Tryz.lays106_ren := {
  mixed := by kernel_rfl
  f106 := Tryz.func140.trans (congrArg some (by kernel_rfl))
  f213 := Tryz.func167.trans (congrArg some (by kernel_rfl))
  f265 := Tryz.func181.trans (congrArg some (by kernel_rfl))
  t3 := Tryz.underlying3
  a3 := Tryz.isAgg3
  z3 := Tryz.sizeOf3
  v3 := Tryz.zeroValue3
  t9 := Tryz.underlying9
  a9 := Tryz.isAgg9
  z9 := Tryz.sizeOf9
  v9 := Tryz.zeroValue9 }

open Go.RowKit in
theorem Tryz.strings_Compare (a b : ByteArray) (w : World) :
    Calls Tryz.prog 140 #[.string a, .string b] w fun e w' => e = .returned (.int .i64 (Lib.compareBytes a.data.toList b.data.toList)) ∧ w' = w := Any.strings_Compare Tryz.lays106 a b w

def Tryz.lays122_ren : Go.Shelf.Ren := ⟨fun | 122 => 139 | 215 => 166 | n => n, fun | 3 => 3 | 4 => 4 | n => n, fun | n => n⟩

theorem Tryz.lays122 : Go.Proofs.Lays.n122 Tryz.prog Tryz.lays122_ren := {
  mixed := by kernel_rfl
  f122 := Tryz.func139.trans (congrArg some (by kernel_rfl))
  f215 := Tryz.func166.trans (congrArg some (by kernel_rfl))
  t3 := Tryz.underlying3
  a3 := Tryz.isAgg3
  z3 := Tryz.sizeOf3
  v3 := Tryz.zeroValue3
  t4 := Tryz.underlying4
  a4 := Tryz.isAgg4
  z4 := Tryz.sizeOf4
  v4 := Tryz.zeroValue4 }

open Go.RowKit in
theorem Tryz.cmp_Compare_int (x y : Int) (w : World) :
    Calls Tryz.prog 139 #[.int .i64 x, .int .i64 y] w fun e w' => e = .returned (.int .i64 (Lib.compareInt x y)) ∧ w' = w := Any.cmp_Compare_int Tryz.lays122 x y w

def Tryz.lays194_ren : Go.Shelf.Ren := ⟨fun | 194 => 105 | n => n, fun | 31 => 38 | 9 => 9 | 3 => 3 | 4 => 4 | 0 => 0 | n => n, fun | n => n⟩

theorem Tryz.lays194 : Go.Proofs.Lays.n194 Tryz.prog Tryz.lays194_ren := {
  mixed := by kernel_rfl
  f194 := Tryz.func105.trans (congrArg some (by kernel_rfl))
  t0 := Tryz.underlying0
  a0 := Tryz.isAgg0
  z0 := Tryz.sizeOf0
  v0 := Tryz.zeroValue0
  t3 := Tryz.underlying3
  a3 := Tryz.isAgg3
  z3 := Tryz.sizeOf3
  v3 := Tryz.zeroValue3
  t4 := Tryz.underlying4
  a4 := Tryz.isAgg4
  z4 := Tryz.sizeOf4
  v4 := Tryz.zeroValue4
  t9 := Tryz.underlying9
  a9 := Tryz.isAgg9
  z9 := Tryz.sizeOf9
  v9 := Tryz.zeroValue9
  t31 := Tryz.underlying38
  a31 := Tryz.isAgg38
  z31 := Tryz.sizeOf38
  v31 := Tryz.zeroValue38 }

open Go.RowKit Go.Lib Go.Sort in
theorem Tryz.slices_Compact_string_empty (a : Option Addr) (cap : Nat) (w : World) :
    Calls Tryz.prog 105 #[.slice a 0 cap] w fun e w' => e = .returned (.slice a 0 cap) ∧ w' = w := Any.slices_Compact_string_empty Tryz.lays194 a cap w

def Tryz.laysSlE43_f37_ren : Go.Shelf.Ren := ⟨fun | 43 => 105 | n => n, fun | 22 => 38 | 23 => 9 | 3 => 3 | 4 => 4 | 0 => 0 | n => n, fun | n => n⟩

theorem Tryz.laysSlE43_f37 : Go.Proofs.SlLaysE.n43 Tryz.prog Tryz.laysSlE43_f37_ren := {
  mixed := by kernel_rfl
  f43 := ⟨Tryz.f105.name, by decide, Tryz.func105.trans (congrArg some (by kernel_rfl))⟩
  t0 := Tryz.underlying0
  a0 := Tryz.isAgg0
  z0 := Tryz.sizeOf0
  v0 := Tryz.zeroValue0
  t3 := Tryz.underlying3
  a3 := Tryz.isAgg3
  z3 := Tryz.sizeOf3
  v3 := Tryz.zeroValue3
  t4 := Tryz.underlying4
  a4 := Tryz.isAgg4
  z4 := Tryz.sizeOf4
  v4 := Tryz.zeroValue4
  t22 := Tryz.underlying38
  a22 := Tryz.isAgg38
  z22 := Tryz.sizeOf38
  v22 := Tryz.zeroValue38
  a23 := Tryz.isAgg9
  z23 := Tryz.sizeOf9 }

open Go.RowKit Go.Lib Go.Sort in
theorem Tryz.slices_Compact {α : Type} [Inhabited α] [DecidableEq α] (enc : α → Value) (hO : OneCell enc) (heq : EqlAt Tryz.prog 9 enc (fun x y => decide (x = y))) (hne : NeqAt Tryz.prog 9 enc (fun x y => decide (x = y))) (zr : α) (v23 : ∀ w, (zeroValue 9).run Tryz.prog w = .ok (enc zr) w) (blk off cap : Nat) (d : Array α) (w : World) (hH : Holds enc w blk off d) (hsz : d.size ≤ 9223372036854775807) (hcap : d.size ≤ cap) :
    Calls Tryz.prog 105 #[.slice (some ⟨blk, off, none⟩) d.size cap] w fun e w' => e = .returned (.slice (some ⟨blk, off, none⟩) (compactUpTo d d.size).length cap) ∧ ∃ q, w' = putRow enc (Sort.ahead w q) blk off (compactUpTo d d.size ++ List.replicate (d.size - (compactUpTo d d.size).length) zr).toArray := AnyE.slices_Compact Tryz.laysSlE43_f37 enc hO heq hne zr v23 blk off cap d w hH hsz hcap

def Tryz.laysSlF6_f36_ren : Go.Shelf.Ren := ⟨fun | 6 => 103 | 15 => 137 | 14 => 136 | 28 => 164 | 29 => 165 | 20 => 156 | 21 => 157 | 22 => 158 | 23 => 159 | 24 => 160 | 25 => 161 | 26 => 162 | 27 => 163 | 46 => 176 | 47 => 177 | 48 => 178 | 49 => 179 | 50 => 180 | 57 => 188 | n => n, fun | 22 => 38 | 24 => 9 | 25 => 126 | 3 => 3 | 39 => 156 | 0 => 0 | 53 => 173 | 55 => 175 | 4 => 4 | 46 => 167 | 45 => 166 | 50 => 108 | 5 => 5 | 9 => 9 | 66 => 186 | 70 => 190 | 76 => 203 | 77 => 204 | n => n, fun | n => n⟩

theorem Tryz.laysSlF6_f36 : Go.Proofs.SlLaysF.n6 Tryz.prog Tryz.laysSlF6_f36_ren := {
  mixed := by kernel_rfl
  f6 := ⟨Tryz.f103.name, by decide, Tryz.func103.trans (congrArg some (by kernel_rfl))⟩
  f14 := ⟨Tryz.f136.name, by decide, Tryz.func136.trans (congrArg some (by kernel_rfl))⟩
  f15 := Tryz.func137.trans (congrArg some (by kernel_rfl))
  f20 := ⟨Tryz.f156.name, by decide, Tryz.func156.trans (congrArg some (by kernel_rfl))⟩
  f21 := ⟨Tryz.f157.name, by decide, Tryz.func157.trans (congrArg some (by kernel_rfl))⟩
  f22 := ⟨Tryz.f158.name, by decide, Tryz.func158.trans (congrArg some (by kernel_rfl))⟩
  f23 := ⟨Tryz.f159.name, by decide, Tryz.func159.trans (congrArg some (by kernel_rfl))⟩
  f24 := ⟨Tryz.f160.name, by decide, Tryz.func160.trans (congrArg some (by kernel_rfl))⟩
  f25 := ⟨Tryz.f161.name, by decide, Tryz.func161.trans (congrArg some (by kernel_rfl))⟩
  f26 := ⟨Tryz.f162.name, by decide, Tryz.func162.trans (congrArg some (by kernel_rfl))⟩
  f27 := ⟨Tryz.f163.name, by decide, Tryz.func163.trans (congrArg some (by kernel_rfl))⟩
  f28 := Tryz.func164.trans (congrArg some (by kernel_rfl))
  f29 := Tryz.func165.trans (congrArg some (by kernel_rfl))
  f46 := ⟨Tryz.f176.name, by decide, Tryz.func176.trans (congrArg some (by kernel_rfl))⟩
  f47 := Tryz.func177.trans (congrArg some (by kernel_rfl))
  f48 := Tryz.func178.trans (congrArg some (by kernel_rfl))
  f49 := ⟨Tryz.f179.name, by decide, Tryz.func179.trans (congrArg some (by kernel_rfl))⟩
  f50 := ⟨Tryz.f180.name, by decide, Tryz.func180.trans (congrArg some (by kernel_rfl))⟩
  f57 := ⟨Tryz.f188.name, by decide, Tryz.func188.trans (congrArg some (by kernel_rfl))⟩
  t0 := Tryz.underlying0
  a0 := Tryz.isAgg0
  z0 := Tryz.sizeOf0
  v0 := Tryz.zeroValue0
  t3 := Tryz.underlying3
  a3 := Tryz.isAgg3
  z3 := Tryz.sizeOf3
  v3 := Tryz.zeroValue3
  t4 := Tryz.underlying4
  a4 := Tryz.isAgg4
  z4 := Tryz.sizeOf4
  v4 := Tryz.zeroValue4
  t5 := Tryz.underlying5
  a5 := Tryz.isAgg5
  z5 := Tryz.sizeOf5
  v5 := Tryz.zeroValue5
  t9 := Tryz.underlying9
  a9 := Tryz.isAgg9
  z9 := Tryz.sizeOf9
  v9 := Tryz.zeroValue9
  t22 := Tryz.underlying38
  a22 := Tryz.isAgg38
  z22 := Tryz.sizeOf38
  v22 := Tryz.zeroValue38
  a24 := Tryz.isAgg9
  z24 := Tryz.sizeOf9
  t25 := Tryz.underlying126
  a25 := Tryz.isAgg126
  z25 := Tryz.sizeOf126
  v25 := Tryz.zeroValue126
  t39 := Tryz.underlying156
  a39 := Tryz.isAgg156
  z39 := Tryz.sizeOf156
  v39 := Tryz.zeroValue156
  t45 := Tryz.underlying166
  a45 := Tryz.isAgg166
  z45 := Tryz.sizeOf166
  v45 := Tryz.zeroValue166
  t46 := Tryz.underlying167
  a46 := Tryz.isAgg167
  z46 := Tryz.sizeOf167
  v46 := Tryz.zeroValue167
  t50 := Tryz.underlying108
  a50 := Tryz.isAgg108
  z50 := Tryz.sizeOf108
  v50 := Tryz.zeroValue108
  t53 := Tryz.underlying173
  a53 := Tryz.isAgg173
  z53 := Tryz.sizeOf173
  v53 := Tryz.zeroValue173
  t55 := Tryz.underlying175
  a55 := Tryz.isAgg175
  z55 := Tryz.sizeOf175
  v55 := Tryz.zeroValue175
  t66 := Tryz.underlying186
  a66 := Tryz.isAgg186
  z66 := Tryz.sizeOf186
  v66 := Tryz.zeroValue186
  t70 := Tryz.underlying190
  a70 := Tryz.isAgg190
  z70 := Tryz.sizeOf190
  v70 := Tryz.zeroValue190
  t76 := Tryz.underlying203
  a76 := Tryz.isAgg203
  z76 := Tryz.sizeOf203
  v76 := Tryz.zeroValue203
  t77 := Tryz.underlying204
  a77 := Tryz.isAgg204
  z77 := Tryz.sizeOf204
  v77 := Tryz.zeroValue204 }

def Tryz.laysSlF06_f36_ren : Go.Shelf.Ren := ⟨fun | 6 => 103 | 15 => 137 | 14 => 136 | 28 => 164 | 29 => 165 | 20 => 156 | 21 => 157 | 22 => 158 | 23 => 159 | 24 => 160 | 25 => 161 | 26 => 162 | 27 => 163 | 46 => 176 | 47 => 177 | 48 => 178 | 49 => 179 | 50 => 180 | 57 => 188 | n => n, fun | 22 => 38 | 24 => 9 | 25 => 126 | 3 => 3 | 39 => 156 | 0 => 0 | 53 => 173 | 55 => 175 | 4 => 4 | 46 => 167 | 45 => 166 | 50 => 108 | 5 => 5 | 9 => 9 | 66 => 186 | 70 => 190 | 76 => 203 | 77 => 204 | n => n, fun | n => n⟩

theorem Tryz.laysSlF06_f36 : Go.Proofs.SlLaysF0.n6 Tryz.prog Tryz.laysSlF06_f36_ren := {
  mixed := by kernel_rfl
  f6 := ⟨Tryz.f103.name, by decide, Tryz.func103.trans (congrArg some (by kernel_rfl))⟩
  f14 := ⟨Tryz.f136.name, by decide, Tryz.func136.trans (congrArg some (by kernel_rfl))⟩
  f15 := Tryz.func137.trans (congrArg some (by kernel_rfl))
  f20 := ⟨Tryz.f156.name, by decide, Tryz.func156.trans (congrArg some (by kernel_rfl))⟩
  f21 := ⟨Tryz.f157.name, by decide, Tryz.func157.trans (congrArg some (by kernel_rfl))⟩
  f22 := ⟨Tryz.f158.name, by decide, Tryz.func158.trans (congrArg some (by kernel_rfl))⟩
  f23 := ⟨Tryz.f159.name, by decide, Tryz.func159.trans (congrArg some (by kernel_rfl))⟩
  f24 := ⟨Tryz.f160.name, by decide, Tryz.func160.trans (congrArg some (by kernel_rfl))⟩
  f25 := ⟨Tryz.f161.name, by decide, Tryz.func161.trans (congrArg some (by kernel_rfl))⟩
  f26 := ⟨Tryz.f162.name, by decide, Tryz.func162.trans (congrArg some (by kernel_rfl))⟩
  f27 := ⟨Tryz.f163.name, by decide, Tryz.func163.trans (congrArg some (by kernel_rfl))⟩
  f28 := Tryz.func164.trans (congrArg some (by kernel_rfl))
  f29 := Tryz.func165.trans (congrArg some (by kernel_rfl))
  f46 := ⟨Tryz.f176.name, by decide, Tryz.func176.trans (congrArg some (by kernel_rfl))⟩
  f47 := Tryz.func177.trans (congrArg some (by kernel_rfl))
  f48 := Tryz.func178.trans (congrArg some (by kernel_rfl))
  f49 := ⟨Tryz.f179.name, by decide, Tryz.func179.trans (congrArg some (by kernel_rfl))⟩
  f50 := ⟨Tryz.f180.name, by decide, Tryz.func180.trans (congrArg some (by kernel_rfl))⟩
  f57 := ⟨Tryz.f188.name, by decide, Tryz.func188.trans (congrArg some (by kernel_rfl))⟩
  t0 := Tryz.underlying0
  a0 := Tryz.isAgg0
  z0 := Tryz.sizeOf0
  v0 := Tryz.zeroValue0
  t3 := Tryz.underlying3
  a3 := Tryz.isAgg3
  z3 := Tryz.sizeOf3
  v3 := Tryz.zeroValue3
  t4 := Tryz.underlying4
  a4 := Tryz.isAgg4
  z4 := Tryz.sizeOf4
  v4 := Tryz.zeroValue4
  t5 := Tryz.underlying5
  a5 := Tryz.isAgg5
  z5 := Tryz.sizeOf5
  v5 := Tryz.zeroValue5
  t9 := Tryz.underlying9
  a9 := Tryz.isAgg9
  z9 := Tryz.sizeOf9
  v9 := Tryz.zeroValue9
  t22 := Tryz.underlying38
  a22 := Tryz.isAgg38
  z22 := Tryz.sizeOf38
  v22 := Tryz.zeroValue38
  t25 := Tryz.underlying126
  a25 := Tryz.isAgg126
  z25 := Tryz.sizeOf126
  v25 := Tryz.zeroValue126
  t39 := Tryz.underlying156
  a39 := Tryz.isAgg156
  z39 := Tryz.sizeOf156
  v39 := Tryz.zeroValue156
  t45 := Tryz.underlying166
  a45 := Tryz.isAgg166
  z45 := Tryz.sizeOf166
  v45 := Tryz.zeroValue166
  t46 := Tryz.underlying167
  a46 := Tryz.isAgg167
  z46 := Tryz.sizeOf167
  v46 := Tryz.zeroValue167
  t50 := Tryz.underlying108
  a50 := Tryz.isAgg108
  z50 := Tryz.sizeOf108
  v50 := Tryz.zeroValue108
  t53 := Tryz.underlying173
  a53 := Tryz.isAgg173
  z53 := Tryz.sizeOf173
  v53 := Tryz.zeroValue173
  t55 := Tryz.underlying175
  a55 := Tryz.isAgg175
  z55 := Tryz.sizeOf175
  v55 := Tryz.zeroValue175
  t66 := Tryz.underlying186
  a66 := Tryz.isAgg186
  z66 := Tryz.sizeOf186
  v66 := Tryz.zeroValue186
  t70 := Tryz.underlying190
  a70 := Tryz.isAgg190
  z70 := Tryz.sizeOf190
  v70 := Tryz.zeroValue190
  t76 := Tryz.underlying203
  a76 := Tryz.isAgg203
  z76 := Tryz.sizeOf203
  v76 := Tryz.zeroValue203
  t77 := Tryz.underlying204
  a77 := Tryz.isAgg204
  z77 := Tryz.sizeOf204
  v77 := Tryz.zeroValue204 }

open Go.RowKit Go.Lib Go.Sort in
theorem Tryz.slices_SortFunc_none {α : Type} [Inhabited α] (p : Option Addr) (cap : Nat) (fv : Value) (w : World) :
    Calls Tryz.prog 103 #[.slice p 0 cap, fv] w fun e w' => e = .returned (.tuple #[]) ∧ w' = w := AnyF.slices_SortFunc_none Tryz.laysSlF06_f36 p cap fv w

open Go.RowKit Go.Lib Go.Sort in
theorem Tryz.slices_SortFunc_total {α : Type} [Inhabited α] (enc : α → Value) (h1 : OneCell enc) (cf : α → α → Int) (hO : SWO (ltOf cf)) (g : Nat) (cb : Array Value) (blk off cap : Nat) (d : Array α) (w : World) (eg : ∀ args w, (callFunc g args).run Tryz.prog w = .ok (.enter g args) w) (hcmp : CmpLays1 Tryz.prog g cb enc cf blk off d.size w) (hH : Holds enc w blk off d) (hblk : blk < w.heap.size) (hsz : d.size < 4611686018427387904) (hT : ∀ x y, (ltOf cf) x y = false → (ltOf cf) y x = false → x = y) :
    Calls Tryz.prog 103 #[.slice (some ⟨blk, off, none⟩) d.size cap, .func (.func g) #[] cb] w fun e w' =>
      e = .returned (.tuple #[]) ∧ ∃ n os, w' = sortWorld enc w blk off n (d.toList.mergeSort fun x y => !(ltOf cf) y x).toArray os := Any.slices_SortFunc_total Tryz.laysSlF6_f36 enc h1 cf hO g cb blk off cap d w eg hcmp hH hblk hsz hT

end Go.Proofs.YtdilcckoapaimaaGreat

end

section

/-
  THE CONTRACTS OF ident.compare, Less AND OF THE DOCUMENT'S ANSWER TO Less.
-/
namespace Go.Proofs.YtdilcckoapaimaaGreat
open Go.RowKit Go.Lib

theorem icmp (x y : Int) (w : World) : Calls Tryz.prog 139 #[.int .i64 x, .int .i64 y] w fun e w' => e = .returned (.int .i64 (compareInt x y)) ∧ w = w' :=
  (Tryz.cmp_Compare_int x y w).mono fun _ _ ⟨he, hw⟩ => ⟨he, hw.symm⟩

theorem scmp (a b : List UInt8) (w : World) : Calls Tryz.prog 140 #[.string ⟨a.toArray⟩, .string ⟨b.toArray⟩] w fun e w' => e = .returned (.int .i64 (compareBytes a b)) ∧ w = w' :=
  (Tryz.strings_Compare ⟨a.toArray⟩ ⟨b.toArray⟩ w).mono fun _ _ ⟨he, hw⟩ => ⟨by simpa using he, hw.symm⟩

/-- The first that is not nought. -/
def orI (x y : Int) : Int := if x = 0 then y else x

set_option maxHeartbeats 400000 in
set_option maxRecDepth 100000 in
theorem or_any (B : Nat) (x y : Int) (w : World) (k0 : w.cell? ⟨B, 0, none⟩ = some (.int .i64 x)) (k1 : w.cell? ⟨B, 1, none⟩ = some (.int .i64 y)) :
    Calls Tryz.prog 138 #[.slice (some ⟨B, 0, none⟩) 2 2] w fun e w' => e = .returned (.int .i64 (orI x y)) ∧ w = w' := by
  by_cases hx : x = 0
  · subst hx
    by_cases hy : y = 0
    · subst hy
      go_enter Tryz.func138, Tryz.ntmps138
      go_wp2_with fail
      refine wp_loop_rounds 3 ?_
      rw [rounds_succ]
      go_wp2_with fail
      rw [rounds_succ]
      go_wp2_with fail
      rw [rounds_succ]
      go_wp2_with fail
      go_ret
      exact ⟨rfl, rfl⟩
    · have t1 : (y != 0) = true := by simp [hy]
      clear hy
      go_enter Tryz.func138, Tryz.ntmps138
      go_wp2_with fail
      refine wp_loop_rounds 3 ?_
      rw [rounds_succ]
      go_wp2_with fail
      rw [rounds_succ]
      go_wp2_with fail
      go_ret
      exact ⟨rfl, rfl⟩
  · have t1 : (x != 0) = true := by simp [hx]
    have HX : Hid (orI x y = x) := if_neg hx
    clear hx
    go_enter Tryz.func138, Tryz.ntmps138
    go_wp2_with fail
    refine wp_loop_rounds 3 ?_
    rw [rounds_succ]
    go_wp2_with fail
    go_ret
    exact ⟨by rw [HX.out]; rfl, rfl⟩

theorem idCmp_or (a b : List UInt8) : idCmp a b = orI (compareInt a.length b.length) (compareBytes a b) := by
  unfold idCmp compareInt orI
  by_cases h1 : a.length < b.length
  · have : (a.length : Int) < b.length := by omega
    simp [h1, this]
  · by_cases h2 : b.length < a.length
    · have h1' : ¬ (a.length : Int) < b.length := by omega
      have h2' : (b.length : Int) < a.length := by omega
      simp [h1, h2, h1', h2']
    · have h1' : ¬ (a.length : Int) < b.length := by omega
      have h2' : ¬ (b.length : Int) < a.length := by omega
      simp [h1, h2, h1', h2']

set_option maxHeartbeats 400000 in
set_option maxRecDepth 100000 in
theorem compare_any (a b : List UInt8) (w : World) :
    Calls Tryz.prog 104 #[.string ⟨a.toArray⟩, .string ⟨b.toArray⟩] w fun e w' => e = .returned (.int .i64 (idCmp a b)) ∧ ∃ o, w' = w.alloc o := by
  have HI := Lib.hid (idCmp_or a b)
  have H1 := Lib.hid (icmp a.length b.length)
  have H2 := Lib.hid (scmp a b)
  obtain ⟨x, hx⟩ : ∃ x, compareInt a.length b.length = x := ⟨_, rfl⟩
  obtain ⟨y, hy⟩ : ∃ y, compareBytes a b = y := ⟨_, rfl⟩
  rw [hx] at H1 HI
  rw [hy] at H2 HI
  clear hx hy
  go_enter Tryz.func104, Tryz.ntmps104
  go_wp2_with fail
  refine (H1.out _).mono ?_
  rintro e w' ⟨rfl, rfl⟩
  go_wp2_with fail
  refine (H2.out _).mono ?_
  rintro e w' ⟨rfl, rfl⟩
  go_wp2_with fail
  refine (or_any _ x y _ (by simp) (by simp)).mono ?_
  rintro e w' ⟨rfl, rfl⟩
  go_wp2_with fail
  go_ret
  exact ⟨by rw [HI.out]; rfl, _, rfl⟩

theorem compare_eq (a b : List UInt8) {n : Int} (h : Hid (idCmp a b = n)) (w : World) :
    Calls Tryz.prog 104 #[.string ⟨a.toArray⟩, .string ⟨b.toArray⟩] w fun e w' => e = .returned (.int .i64 n) ∧ Below w.heap.size w w' := by
  have h1 := h.out
  subst h1
  exact (compare_any a b w).mono fun _ _ ⟨he, o, hw⟩ => ⟨he, by rw [hw]; exact (Below.refl _ _).alloc (Nat.le_refl _) _⟩

set_option maxHeartbeats 400000 in
set_option maxRecDepth 100000 in
theorem less_eq (a b : List UInt8) {r : Bool} (h : Hid (idLess a b = r)) (w : World) :
    Calls Tryz.prog 71 #[.string ⟨a.toArray⟩, .string ⟨b.toArray⟩] w fun e w' => e = .returned (.bool r) ∧ Below w.heap.size w w' := by
  obtain ⟨n, hn⟩ : ∃ n, Hid (idCmp a b = n) := ⟨_, rfl⟩
  have hr : Hid (decide (n < 0) = r) := by show _ = _; rw [← hn.out]; exact h.out
  go_enter Tryz.func71, Tryz.ntmps71
  go_wp2_with fail
  refine (compare_eq a b hn _).mono ?_
  rintro e w1 ⟨rfl, hb1⟩
  have B1 := Lib.hid hb1
  clear hb1
  go_wp2_with fail
  go_ret
  exact ⟨by rw [← hr.out]; rfl, B1.out⟩

set_option maxHeartbeats 400000 in
set_option maxRecDepth 100000 in
theorem rless_eq (a b : List UInt8) {r : Bool} (h : Hid (idLess a b = r)) (w : World) :
    Calls Tryz.prog 134 #[.string ⟨a.toArray⟩, .string ⟨b.toArray⟩] w fun e w' => e = .returned (.bool r) ∧ w = w' := by
  have hd := idLess_doc a b
  rw [h.out] at hd
  have HD := Lib.hid hd
  clear hd h
  by_cases h1 : a.length < b.length
  · have hr : Hid (r = true) := by show _ = _; rw [HD.out]; simp [h1]
    clear HD
    go_enter Tryz.func134, Tryz.ntmps134
    go_wp2_with fail
    go_ret
    exact ⟨by rw [hr.out]; rfl, rfl⟩
  · by_cases h2 : a.length = b.length
    · have hr : Hid (r = Op.bytesLess a b) := by show _ = _; rw [HD.out]; simp [h2]
      have t1 : ((a.length : Int) == (b.length : Int)) = true := by rw [h2]; simp
      have t2 : decide (a.length < b.length) = false := by simp; omega
      clear HD h1 h2
      go_enter Tryz.func134, Tryz.ntmps134
      go_wp2_with fail
      go_ret
      exact ⟨by rw [hr.out]; rfl, rfl⟩
    · have hr : Hid (r = false) := by show _ = _; rw [HD.out]; simp [h1, h2]
      have t1 : ((a.length : Int) == (b.length : Int)) = false := by simp; omega
      have t2 : decide (a.length < b.length) = false := by simp; omega
      clear HD h1 h2
      go_enter Tryz.func134, Tryz.ntmps134
      go_wp2_with fail
      go_ret
      exact ⟨by rw [hr.out]; rfl, rfl⟩

end Go.Proofs.YtdilcckoapaimaaGreat

end

section

/-
  THE CONTRACTS OF ident.Is (with isLetter, isInner), Put, Take AND OF THE DOCUMENT'S ANSWERS TO THEM.
-/
namespace Go.Proofs.YtdilcckoapaimaaGreat
open Go.RowKit

def runeLc (r : Int) : Bool := decide (97 ≤ r) && decide (r ≤ 122)
def runeIn (r : Int) : Bool := (decide (48 ≤ r) && decide (r ≤ 57)) || decide (r = 45)

set_option maxHeartbeats 400000 in
set_option maxRecDepth 100000 in
theorem letter_eq (r : Int) {b : Bool} (h : Hid (runeLc r = b)) (w : World) :
    Calls Tryz.prog 120 #[.int .i32 r] w fun e w' => e = .returned (.bool b) ∧ w = w' := by
  have h' := h.out
  unfold runeLc at h'
  clear h
  by_cases h1 : 97 ≤ r
  · by_cases h2 : r ≤ 122
    · obtain rfl : b = true := by rw [← h']; simp [h1, h2]
      clear h'
      go_enter Tryz.func120, Tryz.ntmps120
      go_wp2_with fail
      go_ret
      exact ⟨by first | rfl | simp_all, rfl⟩
    · obtain rfl : b = false := by rw [← h']; simp [h2]
      have h3 : 122 < r := by omega
      clear h' h2
      go_enter Tryz.func120, Tryz.ntmps120
      go_wp2_with fail
      go_ret
      exact ⟨by first | rfl | simp_all, rfl⟩
  · obtain rfl : b = false := by rw [← h']; simp [h1]
    have h3 : r < 97 := by omega
    clear h' h1
    go_enter Tryz.func120, Tryz.ntmps120
    go_wp2_with fail
    go_ret
    exact ⟨by first | rfl | simp_all, rfl⟩

set_option maxHeartbeats 400000 in
set_option maxRecDepth 100000 in
theorem inner_eq (r : Int) {b : Bool} (h : Hid (runeIn r = b)) (w : World) :
    Calls Tryz.prog 121 #[.int .i32 r] w fun e w' => e = .returned (.bool b) ∧ w = w' := by
  have h' := h.out
  unfold runeIn at h'
  clear h
  by_cases h0 : r = 45
  · subst h0
    obtain rfl : b = true := by rw [← h']; decide
    clear h'
    go_enter Tryz.func121, Tryz.ntmps121
    go_wp2_with fail
    go_ret
    exact ⟨rfl, rfl⟩
  · have t0 : (r == 45) = false := by simpa using h0
    by_cases h1 : 48 ≤ r
    · by_cases h2 : r ≤ 57
      · obtain rfl : b = true := by rw [← h']; simp [h1, h2]
        clear h' h0
        go_enter Tryz.func121, Tryz.ntmps121
        go_wp2_with fail
        go_ret
        exact ⟨rfl, rfl⟩
      · obtain rfl : b = false := by rw [← h']; simp [h2, h0]
        have h3 : decide (r ≤ 57) = false := by simp; omega
        clear h' h2 h0
        go_enter Tryz.func121, Tryz.ntmps121
        go_wp2_with fail
        go_ret
        exact ⟨rfl, rfl⟩
    · obtain rfl : b = false := by rw [← h']; simp [h1, h0]
      have h3 : r < 48 := by omega
      clear h' h1 h0
      go_enter Tryz.func121, Tryz.ntmps121
      go_wp2_with fail
      go_ret
      exact ⟨rfl, rfl⟩

theorem runeLc_byte (b : UInt8) : runeLc (b.toNat : Int) = lcOk b := by
  unfold runeLc lcOk
  rw [Bool.eq_iff_iff]
  simp
  omega

theorem runeIn_byte (b : UInt8) : runeIn (b.toNat : Int) = dgOk b := by
  unfold runeIn dgOk
  rw [Bool.eq_iff_iff]
  simp
  omega

theorem rune_high {r : Nat} (h : 128 ≤ r) : runeLc (r : Int) = false ∧ runeIn (r : Int) = false := by
  unfold runeLc runeIn
  constructor
  · rw [Bool.eq_false_iff]; simp; omega
  · rw [Bool.eq_false_iff]; simp; omega

theorem all_succ {l : List UInt8} {k : Nat} {b : UInt8} (hb : l[k]? = some b) (p : UInt8 → Bool) : (l.take (k + 1)).all p = ((l.take k).all p && p b) := by
  obtain ⟨h1, h2⟩ := List.getElem?_eq_some_iff.1 hb
  rw [List.take_succ_eq_append_getElem h1, h2, List.all_append]
  simp

theorem idIs_bad {l : List UInt8} {k : Nat} {b : UInt8} (hb : l[k]? = some b) (h : inOk b = false) : idIs l = false := by
  rw [Bool.eq_false_iff]
  intro h'
  have := List.all_eq_true.1 (idIs_parts h').2.2.2 b (List.mem_of_getElem? hb)
  rw [h] at this
  cases this

theorem idIs_first {l : List UInt8} {b : UInt8} (hb : l[0]? = some b) (h : lcOk b = false) : idIs l = false := by
  rw [Bool.eq_false_iff]
  intro h'
  have := (idIs_parts h').2.2.1
  rw [List.getD, hb] at this
  simp [h] at this

set_option maxHeartbeats 1600000 in
set_option maxRecDepth 100000 in
theorem is_any (l : List UInt8) (hl : l.length ≤ 4294967296) (w : World) :
    Calls Tryz.prog 69 #[.string ⟨l.toArray⟩] w fun e w' => e = .returned (.bool (idIs l)) ∧ Below w.heap.size w w' := by
  by_cases h0 : l = []
  · subst h0
    go_enter Tryz.func69, Tryz.ntmps69
    go_wp2_with fail
    go_ret
    exact ⟨rfl, Below.refl _ _⟩
  · have t0 : (l == []) = false := by simpa using h0
    have hpos : 1 ≤ l.length := by
      rcases l with _ | ⟨_, _⟩
      · exact absurd rfl h0
      · simp
    by_cases h16 : 16 < l.length
    · have HR := Lib.hid (idIs_long h16)
      have H0 := Lib.hid h0
      clear h0
      go_enter Tryz.func69, Tryz.ntmps69
      go_wp2_with fail
      go_ret
      exact ⟨by rw [HR.out]; rfl, Below.refl _ _⟩
    · have H0 := Lib.hid h0
      clear h0
      go_enter Tryz.func69, Tryz.ntmps69
      go_wp2_with fail
      go_loopw [] (fun wr => ∃ pos : Nat, pos ≤ l.length ∧ Hid (wr.heap[w.heap.size]? = some (.stringIter ⟨l.toArray⟩ pos)) ∧ Below w.heap.size w wr ∧ Hid (pos = 0 ∨ lcOk (l.getD 0 0) = true) ∧ Hid ((l.take pos).all inOk = true)) (fun wr => l.length - wr.iterPos w.heap.size)
      case atStart => exact ⟨0, by omega, World.iter_heap w _ 0, (Below.refl _ w).alloc (Nat.le_refl _) _, .inl rfl, by show _ = _; simp⟩
      case round =>
        obtain ⟨pos, hp, HI, hnx, HF, HA⟩ := hrel
        have HN := Lib.hid hnx
        have hpi : Hid (wr.iterPos w.heap.size = pos) := by show _ = _; simp only [World.iterPos, HI.out]
        by_cases hlt : pos < l.length
        · have hlt' : pos < (⟨l.toArray⟩ : ByteArray).size := by rw [size_bytes]; exact hlt
          obtain ⟨b, hb⟩ : ∃ b : UInt8, (⟨l.toArray⟩ : ByteArray)[pos]'hlt' = b := ⟨_, rfl⟩
          have HB : Hid (l[pos]? = some b) := by rw [← hb]; exact bytes_at l pos hlt'
          have hb256 := b.toNat_lt
          by_cases h128 : b.toNat < 128
          · have hnext := fun ty => Lib.run_next_ascii_at (P := Tryz.prog) wr w.heap.size ⟨l.toArray⟩ pos ty HI.out hlt' (by rw [hb]; exact h128)
            rw [hb] at hnext
            have HI2 := Lib.hid (Lib.iterAt_heap wr w.heap.size ⟨l.toArray⟩ pos (pos + 1) HI.out)
            have HN2 := Lib.hid (Lib.below_iterAt hnx (k := w.heap.size) (Nat.le_refl _) ⟨l.toArray⟩ (pos + 1))
            have hp2 : Hid ((wr.iterAt w.heap.size ⟨l.toArray⟩ (pos + 1)).iterPos w.heap.size = pos + 1) := by show _ = _; simp only [World.iterPos, HI2.out]
            clear hb hnx
            cases hl : lcOk b with
            | true =>
              have HL : Hid (runeLc (b.toNat : Int) = true) := by show _ = _; rw [runeLc_byte]; exact hl
              have HA2 : Hid ((l.take (pos + 1)).all inOk = true) := by show _ = _; rw [all_succ HB.out, HA.out]; simp [inOk, hl]
              have HF2 : Hid (pos + 1 = 0 ∨ lcOk (l.getD 0 0) = true) := by
                show _ ∨ _
                right
                rcases HF.out with h | h
                · subst h; rw [List.getD, HB.out]; exact hl
                · exact h
              clear hl
              go_wp2_with fail
              refine (letter_eq _ HL _).mono ?_
              rintro e w' ⟨rfl, rfl⟩
              go_wp2_with fail
              go_roundw
              case rel => exact ⟨pos + 1, by omega, HI2, HN2.out, HF2, HA2⟩
              case measure => rw [hp2.out, hpi.out]; omega
            | false =>
              have HL : Hid (runeLc (b.toNat : Int) = false) := by show _ = _; rw [runeLc_byte]; exact hl
              by_cases hz : pos = 0
              · have HR : Hid (idIs l = false) := by show _ = _; subst hz; exact idIs_first HB.out hl
                subst hz
                clear hl
                go_wp2_with fail
                refine (letter_eq _ HL _).mono ?_
                rintro e w' ⟨rfl, rfl⟩
                go_wp2_with fail
                go_ret
                exact ⟨by rw [HR.out]; rfl, HN2.out⟩
              · have hz' : 0 < pos := by omega
                clear hz
                cases hd : dgOk b with
                | true =>
                  have HD : Hid (runeIn (b.toNat : Int) = true) := by show _ = _; rw [runeIn_byte]; exact hd
                  have HA2 : Hid ((l.take (pos + 1)).all inOk = true) := by show _ = _; rw [all_succ HB.out, HA.out]; simp [inOk, hd]
                  have HF2 : Hid (pos + 1 = 0 ∨ lcOk (l.getD 0 0) = true) := by
                    show _ ∨ _
                    right
                    rcases HF.out with h | h
                    · omega
                    · exact h
                  clear hl hd
                  go_wp2_with fail
                  refine (letter_eq _ HL _).mono ?_
                  rintro e w' ⟨rfl, rfl⟩
                  go_wp2_with fail
                  refine (inner_eq _ HD _).mono ?_
                  rintro e w' ⟨rfl, rfl⟩
                  go_wp2_with fail
                  go_roundw
                  case rel => exact ⟨pos + 1, by omega, HI2, HN2.out, HF2, HA2⟩
                  case measure => rw [hp2.out, hpi.out]; omega
                | false =>
                  have HD : Hid (runeIn (b.toNat : Int) = false) := by show _ = _; rw [runeIn_byte]; exact hd
                  have HR : Hid (idIs l = false) := by show _ = _; exact idIs_bad HB.out (by simp [inOk, hl, hd])
                  clear hl hd
                  go_wp2_with fail
                  refine (letter_eq _ HL _).mono ?_
                  rintro e w' ⟨rfl, rfl⟩
                  go_wp2_with fail
                  refine (inner_eq _ HD _).mono ?_
                  rintro e w' ⟨rfl, rfl⟩
                  go_wp2_with fail
                  go_ret
                  exact ⟨by rw [HR.out]; rfl, HN2.out⟩
          · obtain ⟨hh1, _⟩ := decode_high ⟨l.toArray⟩ pos hlt' (by rw [hb]; omega)
            have hnext := fun ty => Lib.run_next_any_at (P := Tryz.prog) wr w.heap.size ⟨l.toArray⟩ pos ty HI.out hlt'
            have HN2 := Lib.hid (Lib.below_iterAt hnx (k := w.heap.size) (Nat.le_refl _) ⟨l.toArray⟩ (pos + (Utf8.decode ⟨l.toArray⟩ pos).2))
            have HR : Hid (idIs l = false) := by show _ = _; exact idIs_high (List.mem_of_getElem? HB.out) (by omega)
            obtain ⟨r, hr⟩ : ∃ r, (Utf8.decode ⟨l.toArray⟩ pos).1 = r := ⟨_, rfl⟩
            obtain ⟨q, hq⟩ : ∃ q, pos + (Utf8.decode ⟨l.toArray⟩ pos).2 = q := ⟨_, rfl⟩
            rw [hr, hq] at hnext
            rw [hq] at HN2
            rw [hr] at hh1
            have HL := Lib.hid (rune_high hh1).1
            have HD := Lib.hid (rune_high hh1).2
            clear hr hq hb hnx
            go_wp2_with fail
            refine (letter_eq _ HL _).mono ?_
            rintro e w' ⟨rfl, rfl⟩
            by_cases hz : pos = 0
            · subst hz
              go_wp2_with fail
              go_ret
              exact ⟨by rw [HR.out]; rfl, HN2.out⟩
            · have hz' : 0 < pos := by omega
              clear hz
              go_wp2_with fail
              refine (inner_eq _ HD _).mono ?_
              rintro e w' ⟨rfl, rfl⟩
              go_wp2_with fail
              go_ret
              exact ⟨by rw [HR.out]; rfl, HN2.out⟩
        · obtain rfl : pos = l.length := by omega
          have hnext := fun ty => Lib.run_next_end_at (P := Tryz.prog) wr w.heap.size ⟨l.toArray⟩ l.length ty HI.out (by rw [size_bytes]; omega)
          have HR : Hid (idIs l = true) := by
            show _ = _
            have ha := HA.out
            rw [List.take_length] at ha
            refine idIs_mk hpos (by omega) ?_ ha
            rcases HF.out with h | h
            · omega
            · exact h
          clear hnx
          go_wp2_with fail
          go_ret
          exact ⟨by rw [HR.out]; rfl, HN.out⟩

end Go.Proofs.YtdilcckoapaimaaGreat

end

section

/-
  THE CONTRACT OF ident.Fold (with small): a Builder, written in a range over a string.
-/
namespace Go.Proofs.YtdilcckoapaimaaGreat
open Go.RowKit Go.Lib

def smallR (r : Int) : Int := if 65 ≤ r ∧ r ≤ 90 then r + 32 else r

/-- Where the folding of l stands: at pos; acc is what is written. -/
def FoldAt (l : List UInt8) (pos : Nat) (acc : List UInt8) : Prop :=
  (pos ≤ l.length ∧ acc = idLow (l.take pos)) ∨ ((∃ b ∈ acc, 128 ≤ b.toNat) ∧ ∃ b ∈ l, 128 ≤ b.toNat)

theorem is_eq (l : List UInt8) (hl : l.length ≤ 4294967296) {r : Bool} (h : Hid (idIs l = r)) (w : World) :
    Calls Tryz.prog 69 #[.string ⟨l.toArray⟩] w fun e w' => e = .returned (.bool r) ∧ Below w.heap.size w w' := by
  have := is_any l hl w
  rwa [h.out] at this

end Go.Proofs.YtdilcckoapaimaaGreat

end

section

/-
  THE CONTRACTS OF ident.Put AND ident.Take.
-/
namespace Go.Proofs.YtdilcckoapaimaaGreat
open Go.RowKit

end Go.Proofs.YtdilcckoapaimaaGreat

end

section

/-
  A TEXT TURNED INTO A NEW ROW OF BYTES: what is known of the world behind it. Over any program.
-/
namespace Go.Proofs.YtdilcckoapaimaaGreat
open Go.RowKit

end Go.Proofs.YtdilcckoapaimaaGreat

end
