import Derived.Lib.AppendStr
import Derived.Lib.BufferRead
import Derived.Shelf.Strconv.AppendIntPublic10
import Derived.Test.YtpphjnekkjeacaaGreatDoorKlSRootsGiveZ
namespace Go.Proofs.YtpphjnekkjeacaaGreatDoor.Kl
open Go Go.RowKit Go.Sort
set_option maxRecDepth 100000
set_option maxHeartbeats 8000000
def Buf (w:World) (g:Nat) (T:TypeId) (cap:Nat) (l:List UInt8):Prop:=
 ∃ cur,w.heap[g]? = some (.cells cur T (0,0))∧cur.size=cap∧cur.toList.take l.length=Lib.byteCells l
theorem Buf.lt {w:World} {g:Nat} {T:TypeId} {cap:Nat} {l:List UInt8} (h:Buf w g T cap l):g < w.heap.size:=by
 obtain ⟨cur,hg,_⟩:=h
 rcases Nat.lt_or_ge g w.heap.size with h1 | h1
 · exact h1
 · rw [Array.getElem?_eq_none h1] at hg;cases hg
theorem Buf.kept {w w':World} {g:Nat} {T:TypeId} {cap:Nat} {l:List UInt8} (h:Buf w g T cap l) (hb:w'.heap[g]? = w.heap[g]?):Buf w' g T cap l:=by
 obtain ⟨cur,hg,h2⟩:=h
 exact ⟨cur,hb.trans hg,h2⟩
theorem Buf.drew {w:World} {g:Nat} {T:TypeId} {cap:Nat} {l:List UInt8} (h:Buf w g T cap l):Buf w.drew g T cap l:=h
section
variable {P:Program} (w:World)
end
end Go.Proofs.YtpphjnekkjeacaaGreatDoor.Kl
