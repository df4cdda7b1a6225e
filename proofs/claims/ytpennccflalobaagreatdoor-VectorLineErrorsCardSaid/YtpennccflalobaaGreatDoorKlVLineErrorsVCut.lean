import Derived.Test.YtpennccflalobaaGreatDoorKlVLineErrorsVRaw
namespace Go.Proofs.YtpennccflalobaaGreatDoor.Kl
open Go Go.RowKit
set_option maxRecDepth 100000
set_option maxHeartbeats 8000000
theorem held_cut {w W W':World} {o0 o1 o2:Obj} {s0 s1 s2 s3 s4 s5 s6:Value} (hk:Below W.heap.size W W') (h:Below w.heap.size w W∧W.heap[w.heap.size]? = some o0∧W.heap[w.heap.size+1]? = some o1∧W.heap[w.heap.size+2]? = some o2∧W.cell? ⟨w.heap.size,0,none⟩=some s0∧W.cell? ⟨w.heap.size,1,none⟩=some s1∧W.cell? ⟨w.heap.size,2,none⟩=some s2∧W.cell? ⟨w.heap.size+1,0,none⟩=some s3∧W.cell? ⟨w.heap.size+1,1,none⟩=some s4∧W.cell? ⟨w.heap.size+2,0,none⟩=some s5∧W.cell? ⟨w.heap.size+2,1,none⟩=some s6):Below w.heap.size w W'∧W'.heap[w.heap.size]? = some o0∧W'.heap[w.heap.size+1]? = some o1∧W'.heap[w.heap.size+2]? = some o2∧W'.cell? ⟨w.heap.size,0,none⟩=some s0∧W'.cell? ⟨w.heap.size,1,none⟩=some s1∧W'.cell? ⟨w.heap.size,2,none⟩=some s2∧W'.cell? ⟨w.heap.size+1,0,none⟩=some s3∧W'.cell? ⟨w.heap.size+1,1,none⟩=some s4∧W'.cell? ⟨w.heap.size+2,0,none⟩=some s5∧W'.cell? ⟨w.heap.size+2,1,none⟩=some s6:=
 ⟨h.1.trans (hk.mono h.1.size),zB hk h.2.1,zB hk h.2.2.1,zB hk h.2.2.2.1,zC hk h.2.2.2.2.1,zC hk h.2.2.2.2.2.1,zC hk h.2.2.2.2.2.2.1,zC hk h.2.2.2.2.2.2.2.1,zC hk h.2.2.2.2.2.2.2.2.1,zC hk h.2.2.2.2.2.2.2.2.2.1,zC hk h.2.2.2.2.2.2.2.2.2.2⟩
theorem ptsRaw_at (tb0 tb1 tc0 tc1:ByteArray) (eb ec ep:Int) (cb:CV 17 #[.agg #[.string tb0,.string tb1]] (.int .i64 eb)) (cc:CV 17 #[.agg #[.string tc0,.string tc1]] (.int .i64 ec)) (hp:firstNZ [eb,ec]=ep) (W:World) (blk:Nat) (R:EnvV W) (h0:W.cell? ⟨blk,0,none⟩=some (.string tb0)) (h1:W.cell? ⟨blk,1,none⟩=some (.string tb1)) (h2:W.cell? ⟨blk,2,none⟩=some (.string tc0)) (h3:W.cell? ⟨blk,3,none⟩=some (.string tc1)) :
   Calls Tryz.prog 95 #[.slice (some ⟨blk,0,none⟩) 2 2] W fun e w' => e = .returned (.int .i64 ep)∧Below W.heap.size W w':=by
 refine checkPtsRaw_w blk 2 2 [(tb0,tb1),(tc0,tc1)] [eb,ec] rfl rfl (by decide) ep hp ?_ W R ?_
 · intro j p t g1 g2
   match j,g1,g2 with
   | 0,g1,g2=>injection g1 with g1;injection g2 with g2;subst g1 g2;exact cb
   | 1,g1,g2=>injection g1 with g1;injection g2 with g2;subst g1 g2;exact cc
   | j+2,g1,_=>simp at g1
 intro j p h
 match j,h with
 | 0,h=>injection h with h;subst h;exact ⟨h0,h1⟩
 | 1,h=>injection h with h;subst h;exact ⟨h2,h3⟩
 | j+2,h=>simp at h
theorem or_at (a b v:Int) (hv:firstNZ [a,b]=v) (W:World) (blk:Nat) (_:EnvV W) (h0:W.cell? ⟨blk,0,none⟩=some (.int .i64 a)) (h1:W.cell? ⟨blk,1,none⟩=some (.int .i64 b)) :
   Calls Tryz.prog 69 #[.slice (some ⟨blk,0,none⟩) 2 2] W fun e w' => e = .returned (.int .i64 v)∧Below W.heap.size W w':=by
 refine orErr_w blk 2 2 [a,b] rfl (by decide) v hv W ?_
 intro j t h
 match j,h with
 | 0,h=>injection h with h;subst h;exact h0
 | 1,h=>injection h with h;subst h;exact h1
 | j+2,h=>simp at h
theorem cut_err  (ta0 ta1 ta2 tb0 tb1 tc0 tc1:ByteArray) (el eb ec ep v:Int) (cl:CV 106 #[.agg #[.string ta0,.string ta1,.string ta2]] (.int .i64 el)) (cb:CV 17 #[.agg #[.string tb0,.string tb1]] (.int .i64 eb)) (cc:CV 17 #[.agg #[.string tc0,.string tc1]] (.int .i64 ec)) (hp:firstNZ [eb,ec]=ep) (hv:firstNZ [el,ep]=v) (q0:v≠0) (w:World) (R:EnvV w) :
   Calls Tryz.prog 59 #[.agg #[.string ta0,.string ta1,.string ta2],.agg #[.string tb0,.string tb1],.agg #[.string tc0,.string tc1]] w (Ret w (.tuple #[.string ⟨#[]⟩,.bool false,.int .i64 v])):=by
 have c1:=cl
 have c2:=checkPts2Raw tb0 tb1 tc0 tc1 eb ec ep cb cc hp
 have c3:=fun (w:World) (R:EnvV w)=>orErr2 el ep v hv w R.toEnvR
 have eq0:(v == 0)=false:=beq_eq_false_iff_ne.2 q0
 have pq0:¬ v=0:=q0
 have g2:∀ (W:World) (blk:Nat),EnvV W→W.cell? ⟨blk,0,none⟩=some (.string tb0)→W.cell? ⟨blk,1,none⟩=some (.string tb1)→W.cell? ⟨blk,2,none⟩=some (.string tc0)→W.cell? ⟨blk,3,none⟩=some (.string tc1)→Calls Tryz.prog 95 #[.slice (some ⟨blk,0,none⟩) 2 2] W fun e w' => e = .returned (.int .i64 ep)∧Below W.heap.size W w':=fun W blk R h0 h1 h2 h3=>ptsRaw_at tb0 tb1 tc0 tc1 eb ec ep cb cc hp W blk R h0 h1 h2 h3
 have g3:∀ (W:World) (blk:Nat),EnvV W→W.cell? ⟨blk,0,none⟩=some (.int .i64 el)→W.cell? ⟨blk,1,none⟩=some (.int .i64 ep)→Calls Tryz.prog 69 #[.slice (some ⟨blk,0,none⟩) 2 2] W fun e w' => e = .returned (.int .i64 v)∧Below W.heap.size W w':=fun W blk R h0 h1=>or_at el ep v hv W blk R h0 h1
 have C1:=Lib.hid c1
 have C2:=Lib.hid c2
 have C3:=Lib.hid c3
 clear c1 c2 c3 q0 cl cb cc hp hv
 have G2:=Lib.hid g2
 have G3:=Lib.hid g3
 clear g2 g3
 have hb:=Below.refl w.heap.size w
 go_enter Tryz.func59,Tryz.ntmps59
 go_upto_region 1 with fail
 refine wp_alloc3 (fun w1 a0 a1 a2 hk=>?_)
 replace hb:=hb.trans (hk.mono hb.size)
 clear hk
 obtain ⟨Aa,Ab,Ac⟩:=ce3 a0
 obtain ⟨Ad,Ae⟩:=ce2 a1
 obtain ⟨Af,Ag⟩:=ce2 a2
 have H0:=Lib.hid (show Below w.heap.size w w1∧w1.heap[w.heap.size]? = some (Obj.cells #[Value.string ta0,Value.string ta1,Value.string ta2] 81)∧w1.heap[w.heap.size+1]? = some (Obj.cells #[Value.string tb0,Value.string tb1] 30)∧w1.heap[w.heap.size+2]? = some (Obj.cells #[Value.string tc0,Value.string tc1] 30)∧w1.cell? ⟨w.heap.size,0,none⟩=some (Value.string ta0)∧w1.cell? ⟨w.heap.size,1,none⟩=some (Value.string ta1)∧w1.cell? ⟨w.heap.size,2,none⟩=some (Value.string ta2)∧w1.cell? ⟨w.heap.size+1,0,none⟩=some (Value.string tb0)∧w1.cell? ⟨w.heap.size+1,1,none⟩=some (Value.string tb1)∧w1.cell? ⟨w.heap.size+2,0,none⟩=some (Value.string tc0)∧w1.cell? ⟨w.heap.size+2,1,none⟩=some (Value.string tc1) from ⟨hb,a0,a1,a2,Aa,Ab,Ac,Ad,Ae,Af,Ag⟩)
 clear hb a0 a1 a2 Aa Ab Ac Ad Ae Af Ag
 go_upto_region 1 with fail
 go_region_held3 (fun w' => Below w.heap.size w w'∧w'.heap[w.heap.size]? = some (Obj.cells #[Value.string ta0,Value.string ta1,Value.string ta2] 81)∧w'.heap[w.heap.size+1]? = some (Obj.cells #[Value.string tb0,Value.string tb1] 30)∧w'.heap[w.heap.size+2]? = some (Obj.cells #[Value.string tc0,Value.string tc1] 30)∧w'.cell? ⟨w.heap.size,0,none⟩=some (Value.string ta0)∧w'.cell? ⟨w.heap.size,1,none⟩=some (Value.string ta1)∧w'.cell? ⟨w.heap.size,2,none⟩=some (Value.string ta2)∧w'.cell? ⟨w.heap.size+1,0,none⟩=some (Value.string tb0)∧w'.cell? ⟨w.heap.size+1,1,none⟩=some (Value.string tb1)∧w'.cell? ⟨w.heap.size+2,0,none⟩=some (Value.string tc0)∧w'.cell? ⟨w.heap.size+2,1,none⟩=some (Value.string tc1))
   (first | exact held_cut (Below.refl _ _).drew H0.out | exact held_cut hk2 (by assumption) | exact held_cut (laid1 _ _).2 (by assumption))
   (first | (go_at_call 106;(with_reducible refine (C1.out _ (R.below (And.left (by assumption)))).mono ?_);rintro e w1 ⟨rfl,hk2⟩) | (go_at_call 95;(with_reducible refine (G2.out _ _ (R.below (And.left (by assumption))) ?_ ?_ ?_ ?_).mono ?_);(first | exact zA (World.alloc_heap_new _ _) | exact zC hk2 (zA (World.alloc_heap_new _ _)));(first | exact zA (World.alloc_heap_new _ _) | exact zC hk2 (zA (World.alloc_heap_new _ _)));(first | exact zA (World.alloc_heap_new _ _) | exact zC hk2 (zA (World.alloc_heap_new _ _)));(first | exact zA (World.alloc_heap_new _ _) | exact zC hk2 (zA (World.alloc_heap_new _ _)));rintro e w1 ⟨rfl,hk2⟩) | (go_at_call 69;(with_reducible refine (G3.out _ _ (R.below (And.left (by assumption))) ?_ ?_).mono ?_);exact zA (World.alloc_heap_new _ _);exact zA (World.alloc_heap_new _ _);rintro e w1 ⟨rfl,hk2⟩))
 all_goals
   clear H0 G2 G3 hk2
   obtain ⟨hb,a0,a1,a2,Aa,Ab,Ac,Ad,Ae,Af,Ag⟩:=(by assumption:Below w.heap.size w w1∧_)
   go_wp2_with ((first | (go_at_call 95;with_reducible refine (zL hb (C2.out _ (R.below hb))).mono ?_) | (go_at_call 69;with_reducible refine (zL hb (C3.out _ (R.below hb))).mono ?_));clear hb;rintro e w1 ⟨rfl,hk,hb⟩;clear Aa Ab Ac Ad Ae Af Ag;replace a0:=zB hk a0;replace a1:=zB hk a1;replace a2:=zB hk a2;obtain ⟨Aa,Ab,Ac⟩:=ce3 a0;obtain ⟨Ad,Ae⟩:=ce2 a1;obtain ⟨Af,Ag⟩:=ce2 a2;clear hk)
   first | go_ret | go_ret2 | go_ret3
   exact ⟨rfl,hb⟩
end Go.Proofs.YtpennccflalobaaGreatDoor.Kl
