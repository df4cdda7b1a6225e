import Derived.RangeFuncRecord
import Derived.Test.YtpiiclmkbplkhaaGreatDoorKlBQTail
namespace Go.Proofs.YtpiiclmkbplkhaaGreatDoor.Kl
open Go Go.Sort Go.RowKit
set_option maxRecDepth 100000
set_option maxHeartbeats 8000000
section
variable {P:Program} {ops:Array Oper} {md:Region.Mode} {w0:World}
abbrev Lay := Nat→Option (Nat × Bool)
def setN (β:Lay) (i:Nat) (x:Nat × Bool):Lay:=fun k=>if k=i then some x else β k
theorem setN_at (β:Lay) (i:Nat) (x:Nat × Bool):setN β i x i=some x:=if_pos rfl
theorem setN_ne (β:Lay) {i k:Nat} (x:Nat × Bool) (h:k≠i):setN β i x k=β k:=if_neg h
structure Cl (w0:World) (ob fin:Nat→Obj) (β:Lay) (w:World):Prop where
 below:Below w0.heap.size w0 w
 blk:∀ i B d,β i=some (B,d)→w0.heap.size≤B∧w.heap[B]? = some (if d then fin i else ob i)
 ne:∀ i j B A d e,i≠j→β i=some (B,d)→β j=some (A,e)→B≠A
theorem Cl.alloc {ob fin:Nat→Obj} {β:Lay} {w:World} (h:Cl w0 ob fin β w) (i:Nat):Cl w0 ob fin (setN β i (w.heap.size,false)) (w.alloc (ob i)):=by
 have lt:∀ j B d,β j=some (B,d)→B < w.heap.size:=fun j B d hB=>(Array.getElem?_eq_some_iff.1 (h.blk j B d hB).2).1
 refine ⟨h.below.alloc h.below.size _,fun j B d hB=>?_,fun j k B A d e hjk hB hA=>?_⟩
 · by_cases hj:j=i
   · rw [hj,setN_at] at hB
     injection hB with hB
     injection hB with hB hd
     rw [← hB,← hd,hj]
     exact ⟨h.below.size,World.alloc_heap_new w _⟩
   · rw [setN_ne _ _ hj] at hB
     exact ⟨(h.blk j B d hB).1,(Below.heap_alloc _ _ _ (lt j B d hB)).trans (h.blk j B d hB).2⟩
 · by_cases hj:j=i
   · rw [hj,setN_at] at hB
     injection hB with hB
     injection hB with hB hd
     rw [setN_ne _ _ (fun e=>hjk (hj.trans e.symm))] at hA
     have:=lt k A e hA
     omega
   · rw [setN_ne _ _ hj] at hB
     have h2:=lt j B d hB
     by_cases hk:k=i
     · rw [hk,setN_at] at hA
       injection hA with hA
       injection hA with hA he
       omega
     · rw [setN_ne _ _ hk] at hA
       exact h.ne j k B A d e hjk hB hA
structure Wrote (w:World) (B:Nat) (o:Obj) (w':World):Prop where
 os:w'.os=w.os
 tape:w'.tape=w.tape
 output:w'.output=w.output
 size:w'.heap.size=w.heap.size
 here:w'.heap[B]? = some o
 other:∀ k,k≠B→w'.heap[k]? = w.heap[k]?
end
section
variable {P:Program} {w0:World}
end
theorem setCell_here {w:World} {B i:Nat} {cs:Array Value} {T:TypeId} {fr:Nat × Nat} (h:w.heap[B]? = some (.cells cs T fr)) (v:Value):(w.setCell ⟨B,i,none⟩ v).heap[B]? = some (.cells (cs.setIfInBounds i v) T fr):=by
 simp [World.setCell,Array.getElem?_modify,h]
theorem Wrote.refl {w:World} {B:Nat} {o:Obj} (h:w.heap[B]? = some o):Wrote w B o w:=⟨rfl,rfl,rfl,rfl,h,fun _ _=>rfl⟩
end Go.Proofs.YtpiiclmkbplkhaaGreatDoor.Kl
