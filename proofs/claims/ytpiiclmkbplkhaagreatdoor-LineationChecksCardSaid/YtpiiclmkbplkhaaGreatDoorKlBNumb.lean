import Derived.Test.YtpiiclmkbplkhaaGreatDoorKlBPcsMZ
import Derived.Test.YtpiiclmkbplkhaaGreatDoorKlBText
namespace Go.Proofs.YtpiiclmkbplkhaaGreatDoor.Kl
open Go Go.RowKit
set_option maxRecDepth 100000
set_option maxHeartbeats 8000000
def sgI (b:Bool) (N:Nat):Int:=if b then -(N:Int) else N
theorem sgI_t (N:Nat):sgI true N = -(N:Int):=rfl
theorem sgI_f (N:Nat):sgI false N=(N:Int):=rfl
def RetN (w:World) (z:Int) (e:Ending) (w':World):Prop:=
 ∃ (b:Bool) (p:Option Addr) (n c N:Nat),e = .returned (.agg #[.bool b,.slice p n c])∧Sm w' p n c N∧sgI b N=z∧Below w.heap.size w w'
theorem Has.setNum {w:World} {p:Option Addr} {xs:List Int} (h:Has w p xs) {B:Nat} {b0:Bool} {q:Option Addr} {m d:Nat} {t:TypeId} {fr:Nat × Nat} (hB:w.heap[B]? = some (.cells #[.bool b0,.slice q m d] t fr)) (j:Nat) (v:Value) :
   Has (w.setCell ⟨B,j,none⟩ v) p xs:=by
 rcases h with h | ⟨b,o,hp,hlt,hc⟩
 · exact Or.inl h
 · refine Or.inr ⟨b,o,hp,by rw [World.size_setCell];exact hlt,fun i hi=>?_⟩
   have hne:b≠B:=by
     rintro rfl
     have h1:=hc i hi
     rw [zA hB] at h1
     obtain ⟨k,hk⟩:∃ k,o+i=k:=⟨_,rfl⟩
     rw [hk] at h1
     rcases k with _ | _ | k
     · simp at h1
     · simp at h1
     · simp at h1
   rw [World.cell?_setCell_other _ _ _ _ (by intro e;exact hne (congrArg Addr.block e).symm)]
   exact hc i hi
theorem Sm.setNum {w:World} {p:Option Addr} {n c X:Nat} (h:Sm w p n c X) {B:Nat} {b0:Bool} {q:Option Addr} {m d:Nat} {t:TypeId} {fr:Nat × Nat} (hB:w.heap[B]? = some (.cells #[.bool b0,.slice q m d] t fr)) (j:Nat) (v:Value) :
   Sm (w.setCell ⟨B,j,none⟩ v) p n c X:=⟨h.len,h.cap,h.top,h.nil,h.has.setNum hB j v⟩
theorem num_set0 {w:World} {B:Nat} {b0 r:Bool} {q:Option Addr} {m d:Nat} {t:TypeId} (hB:w.heap[B]? = some (.cells #[.bool b0,.slice q m d] t (0,0))) :
   (w.setCell ⟨B,0,none⟩ (.bool r)).heap[B]? = some (.cells #[.bool r,.slice q m d] t (0,0)):=by
 simp [World.setCell,Array.getElem?_modify,hB]
theorem num_set1 {w:World} {B:Nat} {b0:Bool} {q q':Option Addr} {m d m' d':Nat} {t:TypeId} (hB:w.heap[B]? = some (.cells #[.bool b0,.slice q m d] t (0,0))) :
   (w.setCell ⟨B,1,none⟩ (.slice q' m' d')).heap[B]? = some (.cells #[.bool b0,.slice q' m' d'] t (0,0)):=by
 simp [World.setCell,Array.getElem?_modify,hB]
theorem heap_set_other (w:World) (B j k:Nat) (v:Value) (h:k≠B):(w.setCell ⟨B,j,none⟩ v).heap[k]? = w.heap[k]?:=by
 simp only [World.setCell,Array.getElem?_modify]
 rw [if_neg (fun e=>h e.symm)]
theorem read_itoa (x:Int) (w:World) (hl:dlen x≤90000) :
   Calls Tryz.prog 107 #[.string (itoaB x)] w (RetN w x):=by
 have k1:∀ w,Calls Tryz.prog 102 #[.string (itoaB x)] w fun e w' => e = .returned (.string (magB (itoaB x)))∧w=w':=fun w=>magnitude_any _ w
 have em:=magB_itoa x
 have hds:(Lib.decDigits x.natAbs).length≤90000:=by unfold dlen at hl;exact hl
 have hml:(magB (itoaB x)).size≤1000000:=by rw [em,strOf_size];omega
 have hdg:digB (magB (itoaB x)).data.toList=true:=by rw [em,strOf_data];exact digB_iff.2 ⟨decDigits_dig _,decDigits_ne _⟩
 have k2:∀ w,Calls Tryz.prog 103 #[.string (magB (itoaB x))] w fun e w' => e = .returned (.bool true)∧w=w':=fun w=>isDigits_is _ w hml true hdg
 have k3:∀ w,Calls Tryz.prog 130 #[.string (magB (itoaB x))] w (RetP w (pcM x.natAbs)):=fun w=>by
   have:=split_dig (magB (itoaB x)) w (by rw [em,strOf_size];omega) (by rw [em,strOf_data];exact decDigits_dig _)
   rwa [em,strOf_data,val_decDigits,← em] at this
 have hsz:((magB (itoaB x)).size:Int)+(if x < 0 then 1 else 0)=(itoaB x).size:=by
   rw [em,strOf_size];unfold itoaB;rw [strOf_size,itoa_len];unfold dlen;split <;> omega
 obtain ⟨a,ha⟩:∃ a,itoaB x=a:=⟨_,rfl⟩
 rw [ha] at k1 k2 k3 hsz ⊢
 obtain ⟨m,hm⟩:∃ m,magB a=m:=⟨_,rfl⟩
 rw [hm] at k1 k2 k3 hsz
 have K1:=Lib.hid k1
 have K2:=Lib.hid k2
 have K3:=Lib.hid k3
 clear k1 k2 k3 em ha hm hds
 by_cases hx:x < 0
 · rw [if_pos hx] at hsz
   have hlt:(m.size:Int) < (a.size:Int):=by omega
   go_enter Tryz.func107,Tryz.ntmps107
   go_wp2_with (first | (go_at_call 102;refine (K1.out _).mono ?_;rintro e w1 ⟨rfl,rfl⟩) | (go_at_call 103;refine (K2.out _).mono ?_;rintro e w1 ⟨rfl,rfl⟩) | (go_at_call 130;refine (K3.out _).mono ?_;rintro e w2 ⟨p,n,c,rfl,hr⟩;have HR:=Lib.hid hr;clear hr;refine Hid.out ?_))
   refine Lib.hid ?_
   have G:=Lib.hid (show Sm w2 p n c x.natAbs from ⟨HR.out.1,HR.out.2.1,HR.out.2.2.1,HR.out.2.2.2.1,HR.out.2.2.2.2.1⟩)
   have hb2:=HR.out.2.2.2.2.2
   have a0:w2.heap[w.heap.size]? = some (Obj.cells #[Value.bool false,Value.slice none 0 0] 137 (0,0)):=(hb2.block _ (by simp)).trans (World.alloc_heap_new w _)
   have e0:w2.cell? ⟨w.heap.size,0,none⟩=some (Value.bool false):=zA a0
   have e1:w2.cell? ⟨w.heap.size,1,none⟩=some (Value.slice none 0 0):=zA a0
   have f0:w2.frozen? ⟨w.heap.size,0,none⟩=false:=zD a0
   have f1:w2.frozen? ⟨w.heap.size,1,none⟩=false:=zD a0
   have A0:=Lib.hid a0
   clear a0
   go_wp2
   refine bodyPost_ret (v:=.agg #[.bool true,.slice p n c]) (by simp [results,Tryz.results107,go_sem,e0,e1]) rfl ⟨true,p,n,c,x.natAbs,rfl,?_,by first | (rw [sgI_t];omega) | (rw [sgI_f];omega),?_⟩
   · exact (G.out.setNum A0.out _ _).setNum (num_set0 A0.out) _ _
   · exact (((Below.refl _ _).alloc (Nat.le_refl _) _).trans (hb2.mono (by simp))).setCell (Nat.le_refl _) _ |>.setCell (Nat.le_refl _) _
 · rw [if_neg hx] at hsz
   have hlt:¬ (m.size:Int) < (a.size:Int):=by omega
   go_enter Tryz.func107,Tryz.ntmps107
   go_wp2_with (first | (go_at_call 102;refine (K1.out _).mono ?_;rintro e w1 ⟨rfl,rfl⟩) | (go_at_call 103;refine (K2.out _).mono ?_;rintro e w1 ⟨rfl,rfl⟩) | (go_at_call 130;refine (K3.out _).mono ?_;rintro e w2 ⟨p,n,c,rfl,hr⟩;have HR:=Lib.hid hr;clear hr;refine Hid.out ?_))
   refine Lib.hid ?_
   have G:=Lib.hid (show Sm w2 p n c x.natAbs from ⟨HR.out.1,HR.out.2.1,HR.out.2.2.1,HR.out.2.2.2.1,HR.out.2.2.2.2.1⟩)
   have hb2:=HR.out.2.2.2.2.2
   have a0:w2.heap[w.heap.size]? = some (Obj.cells #[Value.bool false,Value.slice none 0 0] 137 (0,0)):=(hb2.block _ (by simp)).trans (World.alloc_heap_new w _)
   have e0:w2.cell? ⟨w.heap.size,0,none⟩=some (Value.bool false):=zA a0
   have e1:w2.cell? ⟨w.heap.size,1,none⟩=some (Value.slice none 0 0):=zA a0
   have f0:w2.frozen? ⟨w.heap.size,0,none⟩=false:=zD a0
   have f1:w2.frozen? ⟨w.heap.size,1,none⟩=false:=zD a0
   have A0:=Lib.hid a0
   clear a0
   go_wp2
   refine bodyPost_ret (v:=.agg #[.bool false,.slice p n c]) (by simp [results,Tryz.results107,go_sem,e0,e1];omega) rfl ⟨false,p,n,c,x.natAbs,rfl,?_,by first | (rw [sgI_t];omega) | (rw [sgI_f];omega),?_⟩
   · exact (G.out.setNum A0.out _ _).setNum (num_set0 A0.out) _ _
   · exact (((Below.refl _ _).alloc (Nat.le_refl _) _).trans (hb2.mono (by simp))).setCell (Nat.le_refl _) _ |>.setCell (Nat.le_refl _) _
theorem pcmp_sm {p q:Option Addr} {n c m d X Y:Nat} {w:World} (h1:Sm w p n c X) (h2:Sm w q m d Y) (hX:(pcM X).length≤100000) (hY:(pcM Y).length≤100000) :
   Calls Tryz.prog 131 #[.slice p n c,.slice q m d] w (Ret w (.int .i64 (Lib.compareInt X Y))):=
 pcmp_any p q n c m d X Y w h1.len h2.len (by rw [h1.len];omega) (by rw [h2.len];omega) h1.has h2.has
end Go.Proofs.YtpiiclmkbplkhaaGreatDoor.Kl
