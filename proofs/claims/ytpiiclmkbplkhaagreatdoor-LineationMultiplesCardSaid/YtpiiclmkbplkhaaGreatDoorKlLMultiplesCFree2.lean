import Derived.Test.YtpiiclmkbplkhaaGreatDoorKlLMultiplesCFree
namespace Go.Proofs.YtpiiclmkbplkhaaGreatDoor.Kl
open Go Go.Sort Go.RowKit
set_option maxRecDepth 100000
set_option maxHeartbeats 8000000
section
variable {P:Program} {w0:World}
theorem wpB_mono {ops:Array Oper} {Q Q':Act→Prop} (h:∀ a,Q a→Q' a):∀ (l:List Oper) (a:Act),wpB P ops w0 Q l a→wpB P ops w0 Q' l a
 | [],_,hh=>h _ hh
 | o :: l,a,hh=>by
   unfold wpB at hh ⊢
   by_cases hw:Region.wanted o (yielded ops a.tmps)=true
   · rw [if_pos hw] at hh ⊢
     exact hh.imp fun v hv=>⟨hv.1,wpB_mono h l _ hv.2⟩
   · rw [if_neg hw] at hh ⊢
     exact wpB_mono h l _ hh
theorem lexT_mono {ops:Array Oper} {Q Q':Act→Prop} (h:∀ a,Q a→Q' a):∀ (t i:Nat) (a:Act),lexT P ops w0 Q t i a→lexT P ops w0 Q' t i a
 | 0,_,_,hh=>h _ hh
 | t+1,i,_,⟨o,v,ho,hy,hK⟩=>⟨o,v,ho,hy,lexT_mono h t (i+1) _ hK⟩
theorem wp_free1 {id:Nat} {Q:Exit→Act→World→Prop} {a:Act} {w:World} {l:List Oper} (m t:Nat) (ob fin:Nat→Obj) (d0:Option Tmp) (hm:P.follows .mixedOrders=true)
   (hB:Region.freeB l.toArray m 1 t=true) (hlay:Lays P l.toArray ob m (m+1)) (hd0:dstOf l.toArray (m+0)=d0)
   (h:wpB P l.toArray w (fun a=>∀ B0:Nat,storeOK P l.toArray ob fin 1 (m+1+0) (a.put d0 (Value.pointer (some ⟨B0,0,none⟩))) B0∧lexT P l.toArray w (fun a=>∀ w':World,Below w.heap.size w w'→w.heap.size≤B0→w'.heap[B0]? = some (fin (m+0))→Q .normal a w') t (m+1+1) (a.put d0 (Value.pointer (some ⟨B0,0,none⟩)))) (l.take m) a):(Code.region id l.toArray true).wp P Q a w:=by
 refine wp_region_free m 1 t ob fin hm hB hlay (wpB_mono (fun a H=>?_) _ _ h)
 intro B0
 obtain ⟨s0,hT⟩:=H B0
 rw [← hd0] at s0 hT
 refine ⟨B0,by simp only [setN];(repeat first | rw [if_pos (by omega)] | rw [if_neg (by omega)]),s0,lexT_mono (fun _ Hq w' hw=>?_) _ _ _ hT⟩
 exact Hq w' hw.below (hw.blk (m+0) B0 true (by simp only [setN];(repeat first | rw [if_pos (by omega)] | rw [if_neg (by omega)]))).1 (hw.blk (m+0) B0 true (by simp only [setN];(repeat first | rw [if_pos (by omega)] | rw [if_neg (by omega)]))).2
end
theorem Wrote.set {w w':World} {B i:Nat} {cs:Array Value} {T:TypeId} {fr:Nat × Nat} (h:Wrote w B (.cells cs T fr) w') (v:Value):Wrote w B (.cells (cs.setIfInBounds i v) T fr) (w'.setCell ⟨B,i,none⟩ v):=
 ⟨h.os,h.tape,h.output,by rw [← h.size];simp [World.setCell],setCell_here h.here v,fun k hk=>(Below.heap_setCell _ _ _ _ hk).trans (h.other k hk)⟩
end Go.Proofs.YtpiiclmkbplkhaaGreatDoor.Kl
