import Derived.RangeFuncNested
import Derived.RangeFuncBound
import Derived.RangeFuncCalls
import Derived.RangeFuncLeaves
import Derived.Shelf.Abstract
import Derived.Shelf.RegionOpen
import Derived.OwnWalkIn
import Derived.TacticsInMore
import Derived.LoopNIn
import Derived.LoopIn
import Derived.StillTailTactics
import Derived.Lib.SmallJoins
import Derived.Lib.BufferRead
import Derived.Test.YtpiiclmkbplkhaaGreatDoorKlBIntZ
namespace Go.Proofs.YtpiiclmkbplkhaaGreatDoor.Kl
open Go Go.RowKit Go.Shelf
set_option maxRecDepth 100000
set_option maxHeartbeats 8000000
attribute [local go_sem] Oper.semAt_some
set_option maxRecDepth 512 in
theorem backward_in (n:Nat) (a:Option Addr) (len cap:Nat) (w:World) :
   CallsIn Fence.wide n Tryz.prog 137 #[.slice a len cap] w fun e w' => e = .returned (.func (.func 165) #[] #[.pointer (some ⟨w.heap.size,0,none⟩)])∧w'=w.alloc (.cells #[.slice a len cap] 135):=by
 refine callsIn_of_wp Tryz.func137 rfl trivial ?_ rfl
 simp only [Tryz.ntmps137,List.size_toArray,List.length_cons,List.length_nil,Nat.reduceAdd,Nat.reduceSub,Array.replicate_succ,Array.replicate_zero,List.push_toArray,List.append_toArray,List.nil_append,List.cons_append]
 gi_wp2
 go_ret
 exact ⟨rfl,rfl⟩
theorem addr_add (g j:Nat):(⟨g,0,none⟩:Addr).add j=⟨g,j,none⟩:=by
 cases j <;> simp [Addr.add]
theorem row_block {w:World} {B g n cap:Nat} {e:TypeId} {xs:List Value} (h:w.ownsRow B e 1 (.slice (some ⟨g,0,none⟩) n cap) n xs) :
   ∃ cur,w.heap[g]? = some (.cells cur e (0,0))∧cur.toList.take n=xs:=by
 rcases h.2 with ⟨h1,_⟩ | ⟨g',cap',cur,hv,_,hh,_,_,_,ht⟩
 · cases h1
 · injection hv with hv1 _ _
   injection hv1 with hv1
   injection hv1 with hv1 _ _
   subst hv1
   exact ⟨cur,hh,by simpa using ht⟩
theorem heap3 (w:World) (o0 o1 o2:Obj):(((w.alloc o0).alloc o1).alloc o2).heap[w.heap.size]? = some o0∧(((w.alloc o0).alloc o1).alloc o2).heap[w.heap.size+1]? = some o1∧(((w.alloc o0).alloc o1).alloc o2).heap[w.heap.size+2]? = some o2:=by
 have n1:(w.alloc o0).heap.size=w.heap.size+1:=World.size_alloc w o0
 have n2:((w.alloc o0).alloc o1).heap.size=w.heap.size+2:=by rw [World.size_alloc,n1]
 refine ⟨?_,?_,?_⟩
 · rw [Below.heap_alloc _ _ _ (by omega),Below.heap_alloc _ _ _ (by omega)];exact World.alloc_heap_new w o0
 · rw [Below.heap_alloc _ _ _ (by omega),← n1];exact World.alloc_heap_new _ o1
 · rw [← n2];exact World.alloc_heap_new _ o2
theorem zA {w:World} {b i:Nat} {cs:Array Value} {t:TypeId} {fr:Nat × Nat} (h:w.heap[b]? = some (.cells cs t fr)):w.cell? ⟨b,i,none⟩=cs[i]?:=by
 simp [World.cell?,h]
theorem zD {w:World} {b i:Nat} {cs:Array Value} {t:TypeId} (h:w.heap[b]? = some (.cells cs t (0,0))):w.frozen? ⟨b,i,none⟩=false:=by
 simp [World.frozen?,h]
theorem ce2 {w:World} {b:Nat} {t:TypeId} {u0 u1:Value} (h:w.heap[b]? = some (.cells #[u0,u1] t)):w.cell? ⟨b,0,none⟩=some u0∧w.cell? ⟨b,1,none⟩=some u1:=⟨zA h,zA h⟩
theorem cf2 {w:World} {b:Nat} {t:TypeId} {u0 u1:Value} (h:w.heap[b]? = some (.cells #[u0,u1] t)):w.cell? ⟨b,0,none⟩=some u0∧w.frozen? ⟨b,0,none⟩=false∧w.cell? ⟨b,1,none⟩=some u1∧w.frozen? ⟨b,1,none⟩=false:=⟨zA h,zD h,zA h,zD h⟩
theorem ce3 {w:World} {b:Nat} {t:TypeId} {u0 u1 u2:Value} (h:w.heap[b]? = some (.cells #[u0,u1,u2] t)):w.cell? ⟨b,0,none⟩=some u0∧w.cell? ⟨b,1,none⟩=some u1∧w.cell? ⟨b,2,none⟩=some u2:=⟨zA h,zA h,zA h⟩
theorem cf3 {w:World} {b:Nat} {t:TypeId} {u0 u1 u2:Value} (h:w.heap[b]? = some (.cells #[u0,u1,u2] t)):w.cell? ⟨b,0,none⟩=some u0∧w.frozen? ⟨b,0,none⟩=false∧w.cell? ⟨b,1,none⟩=some u1∧w.frozen? ⟨b,1,none⟩=false∧w.cell? ⟨b,2,none⟩=some u2∧w.frozen? ⟨b,2,none⟩=false:=⟨zA h,zD h,zA h,zD h,zA h,zD h⟩
theorem ce8 {w:World} {b:Nat} {t:TypeId} {u0 u1 u2 u3 u4 u5 u6 u7:Value} (h:w.heap[b]? = some (.cells #[u0,u1,u2,u3,u4,u5,u6,u7] t)):w.cell? ⟨b,0,none⟩=some u0∧w.cell? ⟨b,1,none⟩=some u1∧w.cell? ⟨b,2,none⟩=some u2∧w.cell? ⟨b,3,none⟩=some u3∧w.cell? ⟨b,4,none⟩=some u4∧w.cell? ⟨b,5,none⟩=some u5∧w.cell? ⟨b,6,none⟩=some u6∧w.cell? ⟨b,7,none⟩=some u7:=⟨zA h,zA h,zA h,zA h,zA h,zA h,zA h,zA h⟩
end Go.Proofs.YtpiiclmkbplkhaaGreatDoor.Kl
