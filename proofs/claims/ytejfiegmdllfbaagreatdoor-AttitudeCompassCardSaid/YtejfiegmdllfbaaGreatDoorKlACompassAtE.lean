import Derived.Test.YtejfiegmdllfbaaGreatDoorKlACompassAtD
namespace Go.Proofs.YtejfiegmdllfbaaGreatDoor.Kl
open Go Go.RowKit
set_option maxRecDepth 100000
set_option maxHeartbeats 8000000
theorem quad_B  (x y:Rat) (nx:RN x 30 30) (ny:RN y 30 30) (hx:0 < x.num.sign) (hy:y.num.sign≤0) (w:World) (R:EnvV w) :
   Calls Tryz.prog 65 #[.agg #[.string (ratB x),.string (ratB y)]] w (Ret w (.tuple #[.int .i64 2,.string (ratB x),.string (ratB (-y))])):=by
 have Ae:=nx.rl (K:=100000)
 have Af:=ny.rl (K:=100000)
 have An:RN (-y) 30 30:=(RN_neg ny)
 have Ag:=ny.rl (K:=40000)
 have c1:=fun (w:World) (R:EnvV w)=>rsign_any x Ae w R.toEnvR
 have c2:=fun (w:World) (R:EnvV w)=>rsign_any y Af w R.toEnvR
 have c3:=fun (w:World) (R:EnvV w)=>rneg_any y Ag w R.toEnvR
 have gx:0 < x.num.sign:=hx
 have gy:y.num.sign≤0:=hy
 obtain ⟨Ao,Ah⟩:∃ vq,ratB (-y)=vq:=⟨_,rfl⟩
 obtain ⟨Ap,Ai⟩:∃ vq,ratB x=vq:=⟨_,rfl⟩
 obtain ⟨Aq,Aj⟩:∃ vq,ratB y=vq:=⟨_,rfl⟩
 try simp only [Ah,Ai,Aj] at c1 c2 c3 gx gy ⊢
 obtain ⟨sx,esx⟩:∃ vq,x.num.sign=vq:=⟨_,rfl⟩
 try simp only [esx] at c1 c2 c3 gx gy ⊢
 obtain ⟨sy,esy⟩:∃ vq,y.num.sign=vq:=⟨_,rfl⟩
 try simp only [esy] at c1 c2 c3 gx gy ⊢
 have C1:=Lib.hid c1
 have C2:=Lib.hid c2
 have C3:=Lib.hid c3
 clear c1 c2 c3 Ah Ai Aj esx esy Ae Af An Ag nx ny hx hy
 have hb:=Below.refl w.heap.size w
 go_enter Tryz.func65,Tryz.ntmps65
 go_upto_region 1 with fail
 refine wp_alloc1 (fun w1 a0 hk=>?_)
 replace hb:=hb.trans (hk.mono hb.size)
 clear hk
 obtain ⟨Aa,Ab⟩:=ce2 a0
 go_upto_region 1 with fail
 obtain ⟨Ac,Ad⟩:=cy2 a0
 have Ak:=rrV C1 R hb
 have Al:=rrV C2 R hb
 refine wp_region_quiet_below (by first | assumption | kernel_rfl) (by kernel_rfl) ?_
 repeat (quiet_step (first | (with_reducible exact Ak.out _ _) | (with_reducible exact Al.out _ _)))
 refine wpQuiet_nil ?_
 intro w1 hw'
 obtain ⟨hk,hb⟩:=zQ hb hw'
 clear Aa Ab
 replace a0:=zB hk a0
 obtain ⟨Aa,Ab⟩:=ce2 a0
 clear Ak Al Ac Ad
 clear hk hw'
 go_upto_region 5 with fail
 obtain ⟨Ac,Ad⟩:=cy2 a0
 have Am:=rrV C3 R hb
 refine wp_region_quiet_below (by first | assumption | kernel_rfl) (by kernel_rfl) ?_
 repeat (quiet_step (first | (with_reducible exact Am.out _ _)))
 refine wpQuiet_nil ?_
 intro w1 hw'
 obtain ⟨hk,hb⟩:=zQ hb hw'
 clear Aa Ab
 replace a0:=zB hk a0
 obtain ⟨Aa,Ab⟩:=ce2 a0
 clear Am Ac Ad
 clear hk hw'
 go_wp2
 first | go_ret | go_ret2 | go_ret3
 exact ⟨rfl,hb⟩
theorem quad_C0  (x y:Rat) (nx:RN x 30 30) (ny:RN y 30 30) (hx:x.num.sign=0) (hy:y.num.sign < 0) (w:World) (R:EnvV w) :
   Calls Tryz.prog 65 #[.agg #[.string (ratB x),.string (ratB y)]] w (Ret w (.tuple #[.int .i64 4,.string (ratB (-y)),.string (ratB (-x))])):=by
 have Ae:=nx.rl (K:=100000)
 have Af:=ny.rl (K:=100000)
 have Aq:RN (-y) 30 30:=(RN_neg ny)
 have Ag:=ny.rl (K:=40000)
 have Ar:RN (-x) 30 30:=(RN_neg nx)
 have Ah:=nx.rl (K:=40000)
 have c1:=fun (w:World) (R:EnvV w)=>rsign_any x Ae w R.toEnvR
 have c2:=fun (w:World) (R:EnvV w)=>rsign_any y Af w R.toEnvR
 have c3:=fun (w:World) (R:EnvV w)=>rneg_any y Ag w R.toEnvR
 have c4:=fun (w:World) (R:EnvV w)=>rneg_any x Ah w R.toEnvR
 have gx:x.num.sign=0:=hx
 have gy:y.num.sign < 0:=hy
 obtain ⟨As,Ai⟩:∃ vq,ratB (-x)=vq:=⟨_,rfl⟩
 obtain ⟨Au,Aj⟩:∃ vq,ratB (-y)=vq:=⟨_,rfl⟩
 obtain ⟨Av,Ak⟩:∃ vq,ratB x=vq:=⟨_,rfl⟩
 obtain ⟨Aw,Al⟩:∃ vq,ratB y=vq:=⟨_,rfl⟩
 try simp only [Ai,Aj,Ak,Al] at c1 c2 c3 c4 gx gy ⊢
 obtain ⟨sx,esx⟩:∃ vq,x.num.sign=vq:=⟨_,rfl⟩
 try simp only [esx] at c1 c2 c3 c4 gx gy ⊢
 obtain ⟨sy,esy⟩:∃ vq,y.num.sign=vq:=⟨_,rfl⟩
 try simp only [esy] at c1 c2 c3 c4 gx gy ⊢
 have C1:=Lib.hid c1
 have C2:=Lib.hid c2
 have C3:=Lib.hid c3
 have C4:=Lib.hid c4
 clear c1 c2 c3 c4 Ai Aj Ak Al esx esy Ae Af Aq Ag Ar Ah nx ny hx hy
 have hb:=Below.refl w.heap.size w
 go_enter Tryz.func65,Tryz.ntmps65
 go_upto_region 1 with fail
 refine wp_alloc1 (fun w1 a0 hk=>?_)
 replace hb:=hb.trans (hk.mono hb.size)
 clear hk
 obtain ⟨Aa,Ab⟩:=ce2 a0
 go_upto_region 1 with fail
 obtain ⟨Ac,Ad⟩:=cy2 a0
 have Am:=rrV C1 R hb
 have An:=rrV C2 R hb
 refine wp_region_quiet_below (by first | assumption | kernel_rfl) (by kernel_rfl) ?_
 repeat (quiet_step (first | (with_reducible exact Am.out _ _) | (with_reducible exact An.out _ _)))
 refine wpQuiet_nil ?_
 intro w1 hw'
 obtain ⟨hk,hb⟩:=zQ hb hw'
 clear Aa Ab
 replace a0:=zB hk a0
 obtain ⟨Aa,Ab⟩:=ce2 a0
 clear Am An Ac Ad
 clear hk hw'
 go_upto_region 7 with fail
 obtain ⟨Ac,Ad⟩:=cy2 a0
 have Ao:=rrV C3 R hb
 have Ap:=rrV C4 R hb
 refine wp_region_quiet_below (by first | assumption | kernel_rfl) (by kernel_rfl) ?_
 repeat (quiet_step (first | (with_reducible exact Ao.out _ _) | (with_reducible exact Ap.out _ _)))
 refine wpQuiet_nil ?_
 intro w1 hw'
 obtain ⟨hk,hb⟩:=zQ hb hw'
 clear Aa Ab
 replace a0:=zB hk a0
 obtain ⟨Aa,Ab⟩:=ce2 a0
 clear Ao Ap Ac Ad
 clear hk hw'
 go_wp2
 first | go_ret | go_ret2 | go_ret3
 exact ⟨rfl,hb⟩
theorem quad_C1  (x y:Rat) (nx:RN x 30 30) (ny:RN y 30 30) (hx:x.num.sign < 0) (hy:y.num.sign < 0) (w:World) (R:EnvV w) :
   Calls Tryz.prog 65 #[.agg #[.string (ratB x),.string (ratB y)]] w (Ret w (.tuple #[.int .i64 4,.string (ratB (-y)),.string (ratB (-x))])):=by
 have Ae:=nx.rl (K:=100000)
 have Af:=ny.rl (K:=100000)
 have Aq:RN (-y) 30 30:=(RN_neg ny)
 have Ag:=ny.rl (K:=40000)
 have Ar:RN (-x) 30 30:=(RN_neg nx)
 have Ah:=nx.rl (K:=40000)
 have c1:=fun (w:World) (R:EnvV w)=>rsign_any x Ae w R.toEnvR
 have c2:=fun (w:World) (R:EnvV w)=>rsign_any y Af w R.toEnvR
 have c3:=fun (w:World) (R:EnvV w)=>rneg_any y Ag w R.toEnvR
 have c4:=fun (w:World) (R:EnvV w)=>rneg_any x Ah w R.toEnvR
 have gx:x.num.sign < 0:=hx
 have gy:y.num.sign < 0:=hy
 obtain ⟨As,Ai⟩:∃ vq,ratB (-x)=vq:=⟨_,rfl⟩
 obtain ⟨Au,Aj⟩:∃ vq,ratB (-y)=vq:=⟨_,rfl⟩
 obtain ⟨Av,Ak⟩:∃ vq,ratB x=vq:=⟨_,rfl⟩
 obtain ⟨Aw,Al⟩:∃ vq,ratB y=vq:=⟨_,rfl⟩
 try simp only [Ai,Aj,Ak,Al] at c1 c2 c3 c4 gx gy ⊢
 obtain ⟨sx,esx⟩:∃ vq,x.num.sign=vq:=⟨_,rfl⟩
 try simp only [esx] at c1 c2 c3 c4 gx gy ⊢
 obtain ⟨sy,esy⟩:∃ vq,y.num.sign=vq:=⟨_,rfl⟩
 try simp only [esy] at c1 c2 c3 c4 gx gy ⊢
 have C1:=Lib.hid c1
 have C2:=Lib.hid c2
 have C3:=Lib.hid c3
 have C4:=Lib.hid c4
 clear c1 c2 c3 c4 Ai Aj Ak Al esx esy Ae Af Aq Ag Ar Ah nx ny hx hy
 have hb:=Below.refl w.heap.size w
 go_enter Tryz.func65,Tryz.ntmps65
 go_upto_region 1 with fail
 refine wp_alloc1 (fun w1 a0 hk=>?_)
 replace hb:=hb.trans (hk.mono hb.size)
 clear hk
 obtain ⟨Aa,Ab⟩:=ce2 a0
 go_upto_region 1 with fail
 obtain ⟨Ac,Ad⟩:=cy2 a0
 have Am:=rrV C1 R hb
 have An:=rrV C2 R hb
 refine wp_region_quiet_below (by first | assumption | kernel_rfl) (by kernel_rfl) ?_
 repeat (quiet_step (first | (with_reducible exact Am.out _ _) | (with_reducible exact An.out _ _)))
 refine wpQuiet_nil ?_
 intro w1 hw'
 obtain ⟨hk,hb⟩:=zQ hb hw'
 clear Aa Ab
 replace a0:=zB hk a0
 obtain ⟨Aa,Ab⟩:=ce2 a0
 clear Am An Ac Ad
 clear hk hw'
 go_upto_region 7 with fail
 obtain ⟨Ac,Ad⟩:=cy2 a0
 have Ao:=rrV C3 R hb
 have Ap:=rrV C4 R hb
 refine wp_region_quiet_below (by first | assumption | kernel_rfl) (by kernel_rfl) ?_
 repeat (quiet_step (first | (with_reducible exact Ao.out _ _) | (with_reducible exact Ap.out _ _)))
 refine wpQuiet_nil ?_
 intro w1 hw'
 obtain ⟨hk,hb⟩:=zQ hb hw'
 clear Aa Ab
 replace a0:=zB hk a0
 obtain ⟨Aa,Ab⟩:=ce2 a0
 clear Ao Ap Ac Ad
 clear hk hw'
 go_wp2
 first | go_ret | go_ret2 | go_ret3
 exact ⟨rfl,hb⟩
theorem quad_D  (x y:Rat) (nx:RN x 30 30) (ny:RN y 30 30) (hx:x.num.sign < 0) (hy:0≤y.num.sign) (w:World) (R:EnvV w) :
   Calls Tryz.prog 65 #[.agg #[.string (ratB x),.string (ratB y)]] w (Ret w (.tuple #[.int .i64 6,.string (ratB (-x)),.string (ratB y)])):=by
 have Ae:=nx.rl (K:=100000)
 have Af:=ny.rl (K:=100000)
 have An:RN (-x) 30 30:=(RN_neg nx)
 have Ag:=nx.rl (K:=40000)
 have c1:=fun (w:World) (R:EnvV w)=>rsign_any x Ae w R.toEnvR
 have c2:=fun (w:World) (R:EnvV w)=>rsign_any y Af w R.toEnvR
 have c3:=fun (w:World) (R:EnvV w)=>rneg_any x Ag w R.toEnvR
 have gx:x.num.sign < 0:=hx
 have gy:0≤y.num.sign:=hy
 obtain ⟨Ao,Ah⟩:∃ vq,ratB (-x)=vq:=⟨_,rfl⟩
 obtain ⟨Ap,Ai⟩:∃ vq,ratB x=vq:=⟨_,rfl⟩
 obtain ⟨Aq,Aj⟩:∃ vq,ratB y=vq:=⟨_,rfl⟩
 try simp only [Ah,Ai,Aj] at c1 c2 c3 gx gy ⊢
 obtain ⟨sx,esx⟩:∃ vq,x.num.sign=vq:=⟨_,rfl⟩
 try simp only [esx] at c1 c2 c3 gx gy ⊢
 obtain ⟨sy,esy⟩:∃ vq,y.num.sign=vq:=⟨_,rfl⟩
 try simp only [esy] at c1 c2 c3 gx gy ⊢
 have C1:=Lib.hid c1
 have C2:=Lib.hid c2
 have C3:=Lib.hid c3
 clear c1 c2 c3 Ah Ai Aj esx esy Ae Af An Ag nx ny hx hy
 have hb:=Below.refl w.heap.size w
 go_enter Tryz.func65,Tryz.ntmps65
 go_upto_region 1 with fail
 refine wp_alloc1 (fun w1 a0 hk=>?_)
 replace hb:=hb.trans (hk.mono hb.size)
 clear hk
 obtain ⟨Aa,Ab⟩:=ce2 a0
 go_upto_region 1 with fail
 obtain ⟨Ac,Ad⟩:=cy2 a0
 have Ak:=rrV C1 R hb
 have Al:=rrV C2 R hb
 refine wp_region_quiet_below (by first | assumption | kernel_rfl) (by kernel_rfl) ?_
 repeat (quiet_step (first | (with_reducible exact Ak.out _ _) | (with_reducible exact Al.out _ _)))
 refine wpQuiet_nil ?_
 intro w1 hw'
 obtain ⟨hk,hb⟩:=zQ hb hw'
 clear Aa Ab
 replace a0:=zB hk a0
 obtain ⟨Aa,Ab⟩:=ce2 a0
 clear Ak Al Ac Ad
 clear hk hw'
 go_upto_region 8 with fail
 obtain ⟨Ac,Ad⟩:=cy2 a0
 have Am:=rrV C3 R hb
 refine wp_region_quiet_below (by first | assumption | kernel_rfl) (by kernel_rfl) ?_
 repeat (quiet_step (first | (with_reducible exact Am.out _ _)))
 refine wpQuiet_nil ?_
 intro w1 hw'
 obtain ⟨hk,hb⟩:=zQ hb hw'
 clear Aa Ab
 replace a0:=zB hk a0
 obtain ⟨Aa,Ab⟩:=ce2 a0
 clear Am Ac Ad
 clear hk hw'
 go_wp2
 first | go_ret | go_ret2 | go_ret3
 exact ⟨rfl,hb⟩
theorem wp_store2_0 {P:Program} {c:Code} {Q:Exit→Act→World→Prop} {a:Act} {w w1:World} {B:Nat} {T:TypeId} {u0 u1 v0:Value}
   (hb:Below w.heap.size w w1) (hB:w.heap.size≤B) (h:w1.heap[B]? = some (Obj.cells #[u0,u1] T))
   (k:∀ w2:World,Below w.heap.size w w2→w2.heap[B]? = some (Obj.cells #[v0,u1] T)→(∀ j,j≠B→w2.heap[j]? = w1.heap[j]?)→Code.wp P c Q a w2) :
   Code.wp P c Q a (w1.setCell ⟨B,0,none⟩ v0):=by
 refine k _ (Below.setCell hb hB _) (setCell_here h v0) (fun j hj=>?_)
 rw [Below.heap_setCell _ _ _ _ hj]
theorem of_err  (ta tb:ByteArray) (v:Int) (cd:CV 64 #[.agg #[.string ta,.string tb]] (.int .i64 v)) (q0:v≠0) (w:World) (R:EnvV w) :
   Calls Tryz.prog 26 #[.agg #[.string ta,.string tb]] w (Ret w (.tuple #[.agg #[.int .i64 0,.string ⟨#[]⟩],.int .i64 v])):=by
 have c1:=cd
 have eq0:(v == 0)=false:=beq_eq_false_iff_ne.2 q0
 have pq0:¬ v=0:=q0
 have C1:=Lib.hid c1
 clear c1 q0 cd
 have hb:=Below.refl w.heap.size w
 go_enter Tryz.func26,Tryz.ntmps26
 go_upto_region 1 with fail
 refine wp_alloc2 (fun w1 a0 a1 hk=>?_)
 replace hb:=hb.trans (hk.mono hb.size)
 clear hk
 obtain ⟨Ac,Ad⟩:=ce2 a0
 obtain ⟨Aa,Ae,Ab,Af⟩:=cf2 a1
 go_wp2_with (go_at_call 64;with_reducible refine (chVB hb R C1).mono ?_;clear hb;rintro e w1 ⟨rfl,hk,hb⟩;clear Ac Ad Aa Ab Ae Af;replace a0:=zB hk a0;replace a1:=zB hk a1;obtain ⟨Ac,Ad⟩:=ce2 a0;obtain ⟨Aa,Ae,Ab,Af⟩:=cf2 a1;clear hk)
 refine bodyPost_ret (v:=.tuple #[.agg #[.int .i64 0,.string ⟨#[]⟩],.int .i64 v]) (by simp [results,Tryz.results26,go_sem,Aa,Ab]) rfl ⟨rfl,?_⟩
 repeat' (first | exact hb | refine Below.setCell ?_ (by first | exact Nat.le_refl _ | (dsimp only;omega)) _)
theorem of_ge  (x y p q:Rat) (k:Int) (cq:CV 65 #[.agg #[.string (ratB x),.string (ratB y)]] (.tuple #[.int .i64 k,.string (ratB p),.string (ratB q)])) (hz:x≠0∨y≠0) (nx:RN x 30 30) (ny:RN y 30 30) (np:RN p 30 30) (nq:RN q 30 30) (hk:0≤k∧k≤6) (hq:q≠0) (hs:0≤(q - p).num.sign) (w:World) (R:EnvV w) :
   Calls Tryz.prog 26 #[.agg #[.string (ratB x),.string (ratB y)]] w (Ret w (.tuple #[.agg #[.int .i64 (k+1),.string (ratB (p / q))],.int .i64 0])):=by
 have Aj:=RN_div np nq hq
 have c1:=cdir_ok x y (nx.rl (K:=200)) (ny.rl (K:=200)) hz
 have c2:=cq
 have c3:=fun (w:World) (R:EnvV w)=>rcompare_any q p nq.rm np.rm w R.toEnvR
 have c4:=fun (w:World) (R:EnvV w)=>rdiv_any p q np.rm nq.rm hq w R.toEnvR
 have c5:∀ w,EnvV w→Calls Tryz.prog 67 #[.agg #[.int .i64 (k+1),.string (ratB (p / q))],.slice (some ⟨w.heap.size,0,none⟩) 1 1] (w.alloc (Obj.cells #[Value.string (ratB (p / q))] 22)) (Ret w (.tuple #[.agg #[.int .i64 (k+1),.string (ratB (p / q))],.int .i64 0])):=fun w R=>resC (k+1) (ratB (p / q)) (ratB (p / q)) (by intro t ht;simp only [List.mem_cons,List.not_mem_nil,or_false] at ht;subst ht;exact ⟨_,rfl,Aj.r2⟩) w R.toEnvR
 have gs:0≤(q - p).num.sign:=hs
 have gk:0≤k∧k≤6:=hk
 have gw:IntKind.i64.wrap (k+1)=k+1:=IntWalk.i64_in _ (by omega)
 obtain ⟨Ap,Ak⟩:∃ vq,ratB (p / q)=vq:=⟨_,rfl⟩
 obtain ⟨Aq,Al⟩:∃ vq,ratB p=vq:=⟨_,rfl⟩
 obtain ⟨Ar,Am⟩:∃ vq,ratB q=vq:=⟨_,rfl⟩
 obtain ⟨As,An⟩:∃ vq,ratB x=vq:=⟨_,rfl⟩
 obtain ⟨Au,Ao⟩:∃ vq,ratB y=vq:=⟨_,rfl⟩
 try simp only [Ak,Al,Am,An,Ao] at c1 c2 c3 c4 c5 gs gk gw ⊢
 obtain ⟨sg,esg⟩:∃ vq,(q - p).num.sign=vq:=⟨_,rfl⟩
 try simp only [esg] at c1 c2 c3 c4 c5 gs gk gw ⊢
 have C1:=Lib.hid c1
 have C2:=Lib.hid c2
 have C3:=Lib.hid c3
 have C4:=Lib.hid c4
 have C5:=Lib.hid c5
 clear c1 c2 c3 c4 c5 Ak Al Am An Ao esg Aj cq hz nx ny np nq hk hq hs
 have hb:=Below.refl w.heap.size w
 go_enter Tryz.func26,Tryz.ntmps26
 go_upto_region 1 with fail
 refine wp_alloc2 (fun w1 a0 a1 hk=>?_)
 replace hb:=hb.trans (hk.mono hb.size)
 clear hk
 obtain ⟨Ah,Ai⟩:=ce2 a0
 obtain ⟨Ab,Ad,Ac,Ae⟩:=cf2 a1
 go_upto_region 6 with ((first | (go_at_call 64;with_reducible refine (chVB hb R C1).mono ?_) | (go_at_call 65;with_reducible refine (chVB hb R C2).mono ?_));clear hb;rintro e w1 ⟨rfl,hk,hb⟩;clear Ah Ai Ab Ac Ad Ae;replace a0:=zB hk a0;replace a1:=zB hk a1;obtain ⟨Ah,Ai⟩:=ce2 a0;obtain ⟨Ab,Ad,Ac,Ae⟩:=cf2 a1;clear hk)
 clear Ah Ai a0
 obtain ⟨BK,eBK⟩:∃ B,w1.heap.size=B:=⟨_,rfl⟩
 have hBK:w.heap.size≤BK:=by rw [← eBK];exact hb.size
 have nBK:w.heap.size+1 < BK:=by rw [← eBK];exact (Array.getElem?_eq_some_iff.1 a1).1
 refine wp_alloc1 (fun w1 Aa hk=>?_)
 rw [eBK] at Aa ⊢
 clear eBK
 clear Ab Ac Ad Ae
 replace a1:=zB hk a1
 obtain ⟨Ab,Ad,Ac,Ae⟩:=cf2 a1
 replace hb:=hb.trans (hk.mono hb.size)
 clear hk
 obtain ⟨Af,fg6_0_0,Ag,fg6_0_1⟩:=cf2 Aa
 go_upto_region 9 with ((first | (go_at_call 31;with_reducible refine (chVB hb R C3).mono ?_) | (go_at_call 66;with_reducible refine (chVB hb R C4).mono ?_) | (go_at_call 67;with_reducible refine (zL hb (C5.out _ (R.below hb))).mono ?_));clear hb;rintro e w1 ⟨rfl,hk,hb⟩;clear Ab Ac Ad Ae Af Ag fg6_0_0 fg6_0_1;replace a1:=zB hk a1;replace Aa:=zB hk Aa;obtain ⟨Ab,Ad,Ac,Ae⟩:=cf2 a1;obtain ⟨Af,fg6_0_0,Ag,fg6_0_1⟩:=cf2 Aa;clear hk)
 refine wp_store2_0 hb hBK Aa (fun w1 hb Aa hj=>?_)
 replace a1:=(hj _ (by omega)).trans a1
 clear hj Ab Ac Ad Ae Af Ag fg6_0_0 fg6_0_1
 obtain ⟨Ab,Ad,Ac,Ae⟩:=cf2 a1
 obtain ⟨Af,fg6_0_0,Ag,fg6_0_1⟩:=cf2 Aa
 go_upto_region 10 with ((first | (go_at_call 31;with_reducible refine (chVB hb R C3).mono ?_) | (go_at_call 66;with_reducible refine (chVB hb R C4).mono ?_) | (go_at_call 67;with_reducible refine (zL hb (C5.out _ (R.below hb))).mono ?_));clear hb;rintro e w1 ⟨rfl,hk,hb⟩;clear Ab Ac Ad Ae Af Ag fg6_0_0 fg6_0_1;replace a1:=zB hk a1;replace Aa:=zB hk Aa;obtain ⟨Ab,Ad,Ac,Ae⟩:=cf2 a1;obtain ⟨Af,fg6_0_0,Ag,fg6_0_1⟩:=cf2 Aa;clear hk)
 refine wp_store2_1 hb hBK Aa (fun w1 hb Aa hj=>?_)
 replace a1:=(hj _ (by omega)).trans a1
 clear hj Ab Ac Ad Ae Af Ag fg6_0_0 fg6_0_1
 obtain ⟨Ab,Ad,Ac,Ae⟩:=cf2 a1
 obtain ⟨Af,fg6_0_0,Ag,fg6_0_1⟩:=cf2 Aa
 go_wp2_with ((first | (go_at_call 31;with_reducible refine (chVB hb R C3).mono ?_) | (go_at_call 66;with_reducible refine (chVB hb R C4).mono ?_) | (go_at_call 67;with_reducible refine (zL hb (C5.out _ (R.below hb))).mono ?_));clear hb;rintro e w1 ⟨rfl,hk,hb⟩;clear Ab Ac Ad Ae Af Ag fg6_0_0 fg6_0_1;replace a1:=zB hk a1;replace Aa:=zB hk Aa;obtain ⟨Ab,Ad,Ac,Ae⟩:=cf2 a1;obtain ⟨Af,fg6_0_0,Ag,fg6_0_1⟩:=cf2 Aa;clear hk)
 refine bodyPost_ret (v:=.tuple #[.agg #[.int .i64 (k+1),.string Ap],.int .i64 0]) (by simp [results,Tryz.results26,go_sem,Ab,Ac]) rfl ⟨rfl,?_⟩
 repeat' (first | exact hb | refine Below.setCell ?_ (by first | exact Nat.le_refl _ | (dsimp only;omega)) _)
def rot (x y:Rat):Nat→Rat × Rat
 | 0=>(x,y)
 | n+1=>(-(rot x y n).2,(rot x y n).1)
theorem RN_rot {x y:Rat} (nx:RN x 24 24) (ny:RN y 24 24):∀ n,RN (rot x y n).1 24 24∧RN (rot x y n).2 24 24
 | 0=>⟨nx,ny⟩
 | n+1=>⟨RN_neg (RN_rot nx ny n).2,(RN_rot nx ny n).1⟩
theorem compass_w (x y:Rat) (j:Nat) (hj:j≤3) (nx:RN x 24 24) (ny:RN y 24 24) (hn:∀ i,i < j→(rot x y i).1.num.sign < 0∨(0≤(rot x y i).1.num.sign∧(rot x y i).2.num.sign≤0))
   (h1:0≤(rot x y j).1.num.sign) (h2:0 < (rot x y j).2.num.sign) (o:Int) (t:Rat)
   (hr:(((rot x y j).1 - (rot x y j).2).num.sign < 0∧o=2*j∧t=(rot x y j).1 / (rot x y j).2)∨(0≤((rot x y j).1 - (rot x y j).2).num.sign∧(rot x y j).1≠0∧o=2*j+1∧t=(rot x y j).2 / (rot x y j).1)) (w:World) (R:EnvV w) :
   Calls Tryz.prog 28 #[.agg #[.string (ratB x),.string (ratB y)]] w (Ret w (.agg #[.int .i64 o,.string (ratB t)])):=by
 have NX:=Lib.hid nx
 have NY:=Lib.hid ny
 have HN:=Lib.hid hn
 have H1:=Lib.hid h1
 have H2:=Lib.hid h2
 have HR:=Lib.hid hr
 clear nx ny hn h1 h2 hr
 have hb:=Below.refl w.heap.size w
 go_enter Tryz.func28,Tryz.ntmps28
 go_upto_region 1 with fail
 refine wp_alloc2 (fun w1 a0 a1 hk=>?_)
 replace hb:=hb.trans (hk.mono hb.size)
 clear hk
 have HA0:=Lib.hid a0
 have HA1:=Lib.hid a1
 have HB:=Lib.hid hb
 clear a0 a1 hb
 go_wp2
 go_loopw [3] (fun i wr=>∃ k:Nat,k≤j∧i = .int .i64 k∧wr.heap[w.heap.size]? = some (Obj.cells #[Value.string (ratB (rot x y k).1),Value.string (ratB (rot x y k).2)] 34)∧wr.heap[w.heap.size+1]? = some (Obj.cells #[Value.int .i64 0,Value.string ⟨#[]⟩] 40)∧Below w.heap.size w wr) (fun i _=>4 - (intOf i).toNat)
 case atStart=>exact ⟨0,Nat.zero_le _,rfl,HA0.out,HA1.out,HB.out⟩
 case round =>
   obtain ⟨k,hk,rfl,a0,a1,hb⟩:=hrel
   obtain ⟨w1,ew⟩:∃ w1,w1=wr:=⟨_,rfl⟩
   subst ew
   have nr:=RN_rot NX.out NY.out k
   have RS:=Lib.hid (show rot x y (k+1)=(-(rot x y k).2,(rot x y k).1) from rfl)
   have hn:=HN.out k
   have h1:=H1.out
   have h2:=H2.out
   have hr:=HR.out
   have cS1:=fun (w:World) (R:EnvV w)=>rsign_any (rot x y k).1 (nr.1.rl) w R.toEnvR
   have cS2:=fun (w:World) (R:EnvV w)=>rsign_any (rot x y k).2 (nr.2.rl) w R.toEnvR
   have cN:=fun (w:World) (R:EnvV w)=>rneg_any (rot x y k).2 (nr.2.rl) w R.toEnvR
   have cC:=fun (w:World) (R:EnvV w)=>rcompare_any (rot x y k).1 (rot x y k).2 (nr.1.rl) (nr.2.rl) w R.toEnvR
   have cD1:=fun (h:(rot x y k).2≠0) (w:World) (R:EnvV w)=>ldiv_any (rot x y k).1 (rot x y k).2 h (nr.1.rl) (nr.2.rl) w R
   have cD2:=fun (h:(rot x y k).1≠0) (w:World) (R:EnvV w)=>ldiv_any (rot x y k).2 (rot x y k).1 h (nr.2.rl) (nr.1.rl) w R
   by_cases hlt:k < j
   · obtain ⟨s1,e1⟩:∃ s,(rot x y k).1.num.sign=s:=⟨_,rfl⟩
     obtain ⟨s2,e2⟩:∃ s,(rot x y k).2.num.sign=s:=⟨_,rfl⟩
     obtain ⟨sn,en⟩:∃ s,ratB (-(rot x y k).2)=s:=⟨_,rfl⟩
     obtain ⟨p,ep⟩:∃ p,ratB (rot x y k).1=p:=⟨_,rfl⟩
     obtain ⟨q,eq⟩:∃ q,ratB (rot x y k).2=q:=⟨_,rfl⟩
     have hrot:(ratB (rot x y (k+1)).1=sn)∧(ratB (rot x y (k+1)).2=p):=by rw [RS.out];exact ⟨en,ep⟩
     replace hn:=hn hlt
     rw [ep,eq] at a0
     simp only [e1,ep] at cS1
     simp only [e2,eq] at cS2
     simp only [eq,en] at cN
     rw [e1,e2] at hn
     have C1:=Lib.hid cS1
     have C2:=Lib.hid cS2
     have C3:=Lib.hid cN
     have HROT:=Lib.hid hrot
     clear cS1 cS2 cN cC cD1 cD2 nr h1 h2 hr ep eq en e1 e2 hrot
     obtain ⟨Aa,Ab⟩:=ce2 a0
     rcases hn with hn | ⟨hn,hm⟩
     · go_upto_region 8 with (go_at_call 17;first | ((with_reducible refine (zK hb (C1.out _ (R.below hb))).mono ?_);clear hb;rintro e w1 ⟨rfl,hk,hb⟩;clear Aa Ab;replace a0:=zB hk a0;replace a1:=zB hk a1;obtain ⟨Aa,Ab⟩:=ce2 a0;clear hk) | ((with_reducible refine (zK hb (C2.out _ (R.below hb))).mono ?_);clear hb;rintro e w1 ⟨rfl,hk,hb⟩;clear Aa Ab;replace a0:=zB hk a0;replace a1:=zB hk a1;obtain ⟨Aa,Ab⟩:=ce2 a0;clear hk))
       have Ae:=rrV C3 R hb
       obtain ⟨Ah,Ai⟩:=cy2 a0
       refine wp_region_tail_below 6 (by first | assumption | kernel_rfl) (by kernel_rfl) ?_
       simp only [List.take_succ_cons,List.take_zero,List.drop_succ_cons,List.drop_zero]
       repeat (quiet_step (first | (with_reducible exact Ae.out _ _)))
       refine wpQuiet_nil ?_
       intro w1 hw'
       obtain ⟨hk,hb⟩:=zQ hb hw'
       replace a0:=zB hk a0
       replace a1:=zB hk a1
       clear Ae Ah Ai Aa Ab
       clear hk hw'
       obtain ⟨Aa,Aj,Ab,Ak⟩:=cf2 a0
       go_wp2
       go_roundw
       case rel =>
         refine ⟨k+1,by omega,by go_num,?_,?_,?_⟩
         · rw [HROT.out.1,HROT.out.2]
           exact setCell_here (setCell_here a0 _) _
         · rw [Below.heap_setCell _ _ _ _ (show w.heap.size+1≠w.heap.size by omega),Below.heap_setCell _ _ _ _ (show w.heap.size+1≠w.heap.size by omega)];exact a1
         · exact Below.setCell (Below.setCell hb (Nat.le_refl _) _) (Nat.le_refl _) _
       case measure=>simp [intOf];omega
     · go_upto_region 8 with (go_at_call 17;first | ((with_reducible refine (zK hb (C1.out _ (R.below hb))).mono ?_);clear hb;rintro e w1 ⟨rfl,hk,hb⟩;clear Aa Ab;replace a0:=zB hk a0;replace a1:=zB hk a1;obtain ⟨Aa,Ab⟩:=ce2 a0;clear hk) | ((with_reducible refine (zK hb (C2.out _ (R.below hb))).mono ?_);clear hb;rintro e w1 ⟨rfl,hk,hb⟩;clear Aa Ab;replace a0:=zB hk a0;replace a1:=zB hk a1;obtain ⟨Aa,Ab⟩:=ce2 a0;clear hk))
       have Ae:=rrV C3 R hb
       obtain ⟨Ah,Ai⟩:=cy2 a0
       refine wp_region_tail_below 6 (by first | assumption | kernel_rfl) (by kernel_rfl) ?_
       simp only [List.take_succ_cons,List.take_zero,List.drop_succ_cons,List.drop_zero]
       repeat (quiet_step (first | (with_reducible exact Ae.out _ _)))
       refine wpQuiet_nil ?_
       intro w1 hw'
       obtain ⟨hk,hb⟩:=zQ hb hw'
       replace a0:=zB hk a0
       replace a1:=zB hk a1
       clear Ae Ah Ai Aa Ab
       clear hk hw'
       obtain ⟨Aa,Aj,Ab,Ak⟩:=cf2 a0
       go_wp2
       go_roundw
       case rel =>
         refine ⟨k+1,by omega,by go_num,?_,?_,?_⟩
         · rw [HROT.out.1,HROT.out.2]
           exact setCell_here (setCell_here a0 _) _
         · rw [Below.heap_setCell _ _ _ _ (show w.heap.size+1≠w.heap.size by omega),Below.heap_setCell _ _ _ _ (show w.heap.size+1≠w.heap.size by omega)];exact a1
         · exact Below.setCell (Below.setCell hb (Nat.le_refl _) _) (Nat.le_refl _) _
       case measure=>simp [intOf];omega
   · have ek:k=j:=by omega
     subst ek
     have hz2:(rot x y k).2≠0:=fun h=>by rw [h] at h2;exact absurd h2 (by decide)
     obtain ⟨s1,e1⟩:∃ s,(rot x y k).1.num.sign=s:=⟨_,rfl⟩
     obtain ⟨s2,e2⟩:∃ s,(rot x y k).2.num.sign=s:=⟨_,rfl⟩
     obtain ⟨s3,e3⟩:∃ s,((rot x y k).1 - (rot x y k).2).num.sign=s:=⟨_,rfl⟩
     have cD1':=cD1 hz2
     obtain ⟨p,ep⟩:∃ p,ratB (rot x y k).1=p:=⟨_,rfl⟩
     obtain ⟨q,eq⟩:∃ q,ratB (rot x y k).2=q:=⟨_,rfl⟩
     obtain ⟨d1,ed1⟩:∃ p,ratB ((rot x y k).1 / (rot x y k).2)=p:=⟨_,rfl⟩
     rw [ep,eq] at a0
     simp only [e1,ep] at cS1
     simp only [e2,eq] at cS2
     simp only [e3,ep,eq] at cC
     simp only [ep,eq,ed1] at cD1'
     rw [e1] at h1
     rw [e2] at h2
     rw [e3] at hr
     have C1:=Lib.hid cS1
     have C2:=Lib.hid cS2
     have C4:=Lib.hid cC
     have C5:=Lib.hid cD1'
     obtain ⟨Aa,Ab⟩:=ce2 a0
     obtain ⟨Ac,Af,Ad,Ag⟩:=cf2 a1
     rcases hr with ⟨hs,ho,ht⟩ | ⟨hs,hz1,ho,ht⟩
     · have HT:Hid (ratB t=d1):=Lib.hid (by rw [ht,ed1])
       clear cS1 cS2 cC cD1 cD1' cD2 cN nr ep eq ed1 e1 e2 e3 hz2 ht hn a0
       go_wp2_with ((first | (go_at_call 17;first | with_reducible refine (chVB hb R C1).mono ?_ | with_reducible refine (chVB hb R C2).mono ?_) | (go_at_call 31;with_reducible refine (chVB hb R C4).mono ?_) | (go_at_call 34;with_reducible refine (chVB hb R C5).mono ?_));clear hb;rintro e w1 ⟨rfl,hk,hb⟩;replace Aa:=zC hk Aa;replace Ab:=zC hk Ab;clear Ac Ad Af Ag;replace a1:=zB hk a1;obtain ⟨Ac,Af,Ad,Ag⟩:=cf2 a1;clear hk)
       refine bodyPost_ret (v:=.agg #[.int .i64 o,.string (ratB t)]) (by rw [HT.out,ho];simp [results,Tryz.results28,go_sem,Ac,Ad]) rfl ⟨rfl,?_⟩
       repeat' (first | exact hb | refine Below.setCell ?_ (by first | exact Nat.le_refl _ | (dsimp only;omega)) _)
     · have cD2':=cD2 hz1
       obtain ⟨d2,ed2⟩:∃ p,ratB ((rot x y k).2 / (rot x y k).1)=p:=⟨_,rfl⟩
       simp only [ep,eq,ed2] at cD2'
       have C6:=Lib.hid cD2'
       have HT:Hid (ratB t=d2):=Lib.hid (by rw [ht,ed2])
       clear C5 cS1 cS2 cC cD1 cD1' cD2 cD2' cN nr ep eq ed1 ed2 e1 e2 e3 hz2 ht hn hz1 a0
       go_wp2_with ((first | (go_at_call 17;first | with_reducible refine (chVB hb R C1).mono ?_ | with_reducible refine (chVB hb R C2).mono ?_) | (go_at_call 31;with_reducible refine (chVB hb R C4).mono ?_) | (go_at_call 34;with_reducible refine (chVB hb R C6).mono ?_));clear hb;rintro e w1 ⟨rfl,hk,hb⟩;replace Aa:=zC hk Aa;replace Ab:=zC hk Ab;clear Ac Ad Af Ag;replace a1:=zB hk a1;obtain ⟨Ac,Af,Ad,Ag⟩:=cf2 a1;clear hk)
       refine bodyPost_ret (v:=.agg #[.int .i64 o,.string (ratB t)]) (by rw [HT.out,ho];simp [results,Tryz.results28,go_sem,Ac,Ad]) rfl ⟨rfl,?_⟩
       repeat' (first | exact hb | refine Below.setCell ?_ (by first | exact Nat.le_refl _ | (dsimp only;omega)) _)
end Go.Proofs.YtejfiegmdllfbaaGreatDoor.Kl
