import Derived.Test.YtpphjnekkjeacaaGreatDoorKlSRootsFreeZ
import Derived.Test.YtpphjnekkjeacaaGreatDoorKlSRootsRatC
namespace Go.Proofs.YtpphjnekkjeacaaGreatDoor.Kl
open Go Go.Sort Go.RowKit
set_option maxRecDepth 100000
set_option maxHeartbeats 8000000
theorem zK {P:Program} {K:FuncId} {args:Array Value} {w w0:World} {v:Value} (hb:Below w0.heap.size w0 w)
   (h:Calls P K args w fun e w' => e = .returned v∧Below w.heap.size w w'):Calls P K args w fun e w' => e = .returned v∧Below w.heap.size w w'∧Below w0.heap.size w0 w':=
 h.mono fun _ _ ⟨a,b⟩=>⟨a,b,hb.trans (b.mono hb.size)⟩
theorem chRB {f:FuncId} {args:Array Value} {v:Value} {w0 w:World} (hb:Below w0.heap.size w0 w) (R:EnvR w0) (C:Hid (∀ w,EnvR w→Calls Tryz.prog f args w (Ret w v))):Calls Tryz.prog f args w fun e w' => e = .returned v∧Below w.heap.size w w'∧Below w0.heap.size w0 w':=zK hb (C.out _ (R.below hb))
theorem laid1 (w:World) (o0:Obj):(w.alloc o0).heap[w.heap.size]? = some o0∧Below w.heap.size w (w.alloc o0):=⟨World.alloc_heap_new w o0,(Below.refl _ _).alloc (Nat.le_refl _) _⟩
theorem calls_alloc1 {P:Program} {K:FuncId} {args:Array Value} {Q:Ending→World→Prop} {w:World} {o0:Obj} (h:∀ wq:World,wq.heap[w.heap.size]? = some o0→Below w.heap.size w wq→Calls P K args wq Q):Calls P K args (w.alloc o0) Q:=
 h _ (laid1 w o0).1 (laid1 w o0).2
theorem wp_alloc1 {P:Program} {c:Code} {Q:Exit→Act→World→Prop} {a:Act} {w:World} {o0:Obj} (h:∀ wq:World,wq.heap[w.heap.size]? = some o0→Below w.heap.size w wq→c.wp P Q a wq):c.wp P Q a (w.alloc o0):=
 h _ (laid1 w o0).1 (laid1 w o0).2
theorem laid2 (w:World) (o0 o1:Obj):((w.alloc o0).alloc o1).heap[w.heap.size]? = some o0∧((w.alloc o0).alloc o1).heap[w.heap.size+1]? = some o1∧Below w.heap.size w ((w.alloc o0).alloc o1):=by
 have hz:(w.alloc o0).heap.size=w.heap.size+1:=by simp only [World.size_alloc]
 obtain ⟨a0,hb⟩:=laid1 w o0
 have an:=World.alloc_heap_new (w.alloc o0) o1
 rw [hz] at an
 exact ⟨(Below.heap_alloc _ _ _ (by rw [hz];omega)).trans a0,an,hb.alloc hb.size _⟩
theorem calls_alloc2 {P:Program} {K:FuncId} {args:Array Value} {Q:Ending→World→Prop} {w:World} {o0 o1:Obj} (h:∀ wq:World,wq.heap[w.heap.size]? = some o0→wq.heap[w.heap.size+1]? = some o1→Below w.heap.size w wq→Calls P K args wq Q):Calls P K args ((w.alloc o0).alloc o1) Q:=
 h _ (laid2 w o0 o1).1 (laid2 w o0 o1).2.1 (laid2 w o0 o1).2.2
theorem laid3 (w:World) (o0 o1 o2:Obj):(((w.alloc o0).alloc o1).alloc o2).heap[w.heap.size]? = some o0∧(((w.alloc o0).alloc o1).alloc o2).heap[w.heap.size+1]? = some o1∧(((w.alloc o0).alloc o1).alloc o2).heap[w.heap.size+2]? = some o2∧Below w.heap.size w (((w.alloc o0).alloc o1).alloc o2):=by
 have hz:((w.alloc o0).alloc o1).heap.size=w.heap.size+2:=by simp only [World.size_alloc]
 obtain ⟨a0,a1,hb⟩:=laid2 w o0 o1
 have an:=World.alloc_heap_new ((w.alloc o0).alloc o1) o2
 rw [hz] at an
 exact ⟨(Below.heap_alloc _ _ _ (by rw [hz];omega)).trans a0,(Below.heap_alloc _ _ _ (by rw [hz];omega)).trans a1,an,hb.alloc hb.size _⟩
theorem wp_alloc3 {P:Program} {c:Code} {Q:Exit→Act→World→Prop} {a:Act} {w:World} {o0 o1 o2:Obj} (h:∀ wq:World,wq.heap[w.heap.size]? = some o0→wq.heap[w.heap.size+1]? = some o1→wq.heap[w.heap.size+2]? = some o2→Below w.heap.size w wq→c.wp P Q a wq):c.wp P Q a (((w.alloc o0).alloc o1).alloc o2):=
 h _ (laid3 w o0 o1 o2).1 (laid3 w o0 o1 o2).2.1 (laid3 w o0 o1 o2).2.2.1 (laid3 w o0 o1 o2).2.2.2
end Go.Proofs.YtpphjnekkjeacaaGreatDoor.Kl
namespace Go.Proofs.YtpphjnekkjeacaaGreatDoor.Kl
open Go Go.RowKit
set_option maxRecDepth 100000
set_option maxHeartbeats 8000000
structure EnvS (w:World):Prop extends EnvR w where
 pr:∀ k,k < 14→w.cell? ⟨0,k,none⟩=some (.int .i64 (prim k))
theorem EnvS.below {w w':World} (h:EnvS w) (hb:Below w.heap.size w w'):EnvS w':=
 ⟨h.toEnvR.below hb,fun k hk=>zC hb (h.pr k hk)⟩
theorem qr_snoc {a p k:Nat} (h:∀ i,i < k→(i+1)*(i+1) % p≠a) (hk:(k+1)*(k+1) % p≠a):∀ i,i < k+1→(i+1)*(i+1) % p≠a:=by
 intro i hi
 by_cases e:i=k
 · subst e;exact hk
 · exact h i (by omega)
theorem qr_none {a p q:Nat} (hq:p / 2=q) (h:∀ i,i < q→(i+1)*(i+1) % p≠a):qrB a p=false:=by
 unfold qrB
 rw [List.any_eq_false]
 intro i hi
 rw [List.mem_range,hq] at hi
 simpa using h i hi
theorem qr_some {a p q k:Nat} (hq:p / 2=q) (hk:k < q) (h:(k+1)*(k+1) % p=a):qrB a p=true:=by
 unfold qrB
 rw [List.any_eq_true]
 exact ⟨k,List.mem_range.2 (by omega),by simpa using h⟩
theorem isSq_any (a p:Nat) (hp0:1≤p) (hp:p≤47) (w:World) :
   Calls Tryz.prog 150 #[.int .i64 a,.int .i64 p] w (Ret w (.bool (qrB a p))):=by
 obtain ⟨q,hq⟩:∃ q,p / 2=q:=⟨_,rfl⟩
 have z1:(p:Int).tdiv 2=(q:Int):=by rw [Int.tdiv_eq_ediv_of_nonneg (by omega)];omega
 have hq2:q≤23:=by omega
 have hp1:(0:Int) < (p:Int):=by omega
 have HQ:=Lib.hid hq
 clear hq
 have hb:=Below.refl w.heap.size w
 go_enter Tryz.func150,Tryz.ntmps150
 go_wp2
 go_loop [5] (fun v=>∃ k:Nat,k≤q∧v = .int .i64 ((k:Int)+1)∧Hid (∀ i,i < k→(i+1)*(i+1) % p≠a)) (fun v=>(q+2 - (intOf v).toNat))
 case atStart=>exact ⟨0,Nat.zero_le _,rfl,Lib.hid (fun i h=>absurd h (Nat.not_lt_zero _))⟩
 case round =>
   obtain ⟨k,hk,rfl,HN⟩:=hrel
   by_cases hlt:k < q
   · obtain ⟨m,hm⟩:∃ m,(k+1)*(k+1)=m:=⟨_,rfl⟩
     have hm9:m≤600:=by rw [← hm];exact Nat.mul_le_mul (show k+1≤24 by omega) (show k+1≤25 by omega)
     have hmm:((k:Int)+1)*((k:Int)+1)=(m:Int):=by rw [← hm,Int.natCast_mul];rfl
     have wm:IntKind.i64.wrap (m:Int)=(m:Int):=IntWalk.i64_in _ (by omega)
     have hmod:(m:Int).tmod (p:Int)=((m % p:Nat):Int):=by rw [Int.tmod_eq_emod_of_nonneg (by omega)];rfl
     have HM:=Lib.hid hm
     clear hm
     by_cases hc:m % p=a
     · have e1:(((m % p:Nat):Int) == (a:Int))=true:=by rw [hc];exact beq_self_eq_true _
       have hr:qrB a p=true:=qr_some HQ.out hlt (by rw [HM.out];exact hc)
       have HR:=Lib.hid hr
       clear hr hc
       go_wp2
       go_ret
       exact ⟨retB HR.out.symm,hb⟩
     · have e1:(((m % p:Nat):Int) == (a:Int))=false:=by simp only [beq_eq_false_iff_ne,ne_eq];omega
       have HN2:Hid (∀ i,i < k+1→(i+1)*(i+1) % p≠a):=Lib.hid (qr_snoc HN.out (by rw [HM.out];exact hc))
       clear hc
       go_wp2
       go_round
       case rel=>exact ⟨k+1,by omega,by go_num,HN2⟩
       case measure=>simp [intOf];omega
   · have hkq:k=q:=by omega
     have hr:qrB a p=false:=qr_none HQ.out (by rw [← hkq];exact HN.out)
     have HR:=Lib.hid hr
     clear hr
     go_wp2
     go_ret
     exact ⟨retB HR.out.symm,hb⟩
end Go.Proofs.YtpphjnekkjeacaaGreatDoor.Kl
