/-
 TEXTS OF THE PROOF, one behind the other: ValPut.
-/
import Derived.Test.YtphfinlfabklmaaGreatB19
import Derived.Deep.RegionHeld

namespace Go.Proofs.YtphfinlfabklmaaGreat
open Go.RowKit
attribute [local go_sem] ByteArray.mk_append_mk

def vaPut (v:Val):List UInt8:=if vaMay v=true then vaBytes v else []

theorem cell_later {w w':World} {a:Addr} {v:Value} (h:w.cell? a=some v) (hb:Below w.heap.size w w'):w'.cell? a=some v :=
 (hb.cell (World.block_lt_of_cell? w a h)).trans h

theorem bl_alloc {w a:World} (h:Below w.heap.size w a) (o:Obj):Below w.heap.size w (a.alloc o):=h.alloc h.size o

end Go.Proofs.YtphfinlfabklmaaGreat
