import Derived.Lib.QuietBelow
import Derived.Test.YtpiiclmkbplkhaaGreatDoorKlBRatD
namespace Go.Proofs.YtpiiclmkbplkhaaGreatDoor.Kl
open Go Go.RowKit
set_option maxRecDepth 100000
set_option maxHeartbeats 8000000
theorem zR {w:World} {a:Addr} {v:Value} (h:w.cell? a=some v) (d:Nat) (os:Array Obj):(Sort.grow (redrawn w d) os).cell? a=some v:=cell_regrown h d os
theorem zQ {w0 w w':World} (hb:Below w0.heap.size w0 w) (h:∃ p:Regrown,w'=Sort.grow (redrawn w p.d) p.os):Below w.heap.size w w'∧Below w0.heap.size w0 w':=by
 obtain ⟨⟨d,os⟩,rfl⟩:=h
 exact ⟨below_regrown w d os,hb.trans ((below_regrown w d os).mono hb.size)⟩
theorem cy2 {w:World} {b:Nat} {t:TypeId} {u0 u1:Value} (h:w.heap[b]? = some (.cells #[u0,u1] t)):(∀ d os,(Sort.grow (redrawn w d) os).cell? ⟨b,0,none⟩=some u0)∧(∀ d os,(Sort.grow (redrawn w d) os).cell? ⟨b,1,none⟩=some u1):=⟨zR (zA h),zR (zA h)⟩
theorem cy3 {w:World} {b:Nat} {t:TypeId} {u0 u1 u2:Value} (h:w.heap[b]? = some (.cells #[u0,u1,u2] t)):(∀ d os,(Sort.grow (redrawn w d) os).cell? ⟨b,0,none⟩=some u0)∧(∀ d os,(Sort.grow (redrawn w d) os).cell? ⟨b,1,none⟩=some u1)∧(∀ d os,(Sort.grow (redrawn w d) os).cell? ⟨b,2,none⟩=some u2):=⟨zR (zA h),zR (zA h),zR (zA h)⟩
theorem rrR {f:FuncId} {args:Array Value} {v:Value} {w0 w:World} (C:Hid (∀ w,EnvR w→Calls Tryz.prog f args w (Ret w v))) (R:EnvR w0) (hb:Below w0.heap.size w0 w):Hid (∀ d os,Calls Tryz.prog f args (Sort.grow (redrawn w d) os) fun e w'' => e = .returned v∧∃ p:Regrown,w''=Sort.grow (redrawn w p.d) p.os):=Lib.hid (fun d os=>Calls.regrown_of (C.out (Sort.grow (redrawn w d) os) (R.below (hb.trans ((below_regrown w d os).mono hb.size)))))
theorem smallV_out (x:Int) (h:x < -9223372036854775808∨9223372036854775807 < x):smallV (Lib.itoa x)=none:=by
 rw [smallV_canon (canon_itoa x),neg_itoa,mag_itoa,val_decDigits]
 by_cases hx:x < 0
 · rw [decide_eq_true hx,if_pos rfl,if_neg (by omega)]
 · rw [decide_eq_false hx,if_neg (by decide),if_neg (by omega)]
theorem ismall_in (x:Int) (h0 : -9223372036854775808≤x) (h1:x≤9223372036854775807) (w:World) (R:EnvR w) :
   Calls Tryz.prog 122 #[.string (itoaB x)] w (Ret w (.tuple #[.int .i64 x,.bool true])):=
 (small_any (itoaB x) w (Nat.le_trans (itoaB_size x (Nat.le_trans (dlen_int x h0 h1) (by decide))) (by decide)) R.env).mono fun _ _ ⟨a,b⟩=>⟨a.trans (retIB (by
   unfold smI;rw [show (itoaB x).data.toList=Lib.itoa x from rfl,smallV_itoa x h0 h1];rfl) (by
   unfold smB;rw [show (itoaB x).data.toList=Lib.itoa x from rfl,smallV_itoa x h0 h1];rfl)),b⟩
theorem ismall_out (x:Int) (h:x < -9223372036854775808∨9223372036854775807 < x) (hl:dlen x≤100000) (w:World) (R:EnvR w) :
   Calls Tryz.prog 122 #[.string (itoaB x)] w (Ret w (.tuple #[.int .i64 0,.bool false])):=
 (small_any (itoaB x) w (Nat.le_trans (itoaB_size x hl) (by decide)) R.env).mono fun _ _ ⟨a,b⟩=>⟨a.trans (retIB (by
   unfold smI;rw [show (itoaB x).data.toList=Lib.itoa x from rfl,smallV_out x h];rfl) (by
   unfold smB;rw [show (itoaB x).data.toList=Lib.itoa x from rfl,smallV_out x h];rfl)),b⟩
theorem ismall_any (x:Int) (hl:dlen x≤100000):∃ (v:Int) (b:Bool),-9223372036854775808≤v∧v≤9223372036854775807∧(b=true→v=x)∧(b=false→x < -9223372036854775808∨9223372036854775807 < x) ∧
   CR 122 #[.string (itoaB x)] (.tuple #[.int .i64 v,.bool b]):=by
 by_cases h : -9223372036854775808≤x∧x≤9223372036854775807
 · exact ⟨x,true,h.1,h.2,(fun _=>rfl),(fun e=>by cases e),fun w R=>ismall_in x h.1 h.2 w R⟩
 · exact ⟨0,false,by decide,by decide,(fun e=>by cases e),(fun _=>by omega),fun w R=>ismall_out x (by omega) hl w R⟩
theorem rsm_a (s a b:ByteArray) (v d:Int) (_hv0 : -9223372036854775808≤v) (_hv1:v≤9223372036854775807) (_hd0 : -9223372036854775808≤d) (_hd1:d≤9223372036854775807) (hp:CR 68 #[.string s] (.tuple #[.string a,.string b])) (hs1:CR 122 #[.string a] (.tuple #[.int .i64 v,.bool false])) (hs2:CR 122 #[.string b] (.tuple #[.int .i64 d,.bool true]))  (w:World) (R:EnvR w) :
   Calls Tryz.prog 91 #[.string s] w (Ret w (.tuple #[.int .i64 0,.int .i64 0,.bool false])):=by
 have c1:=hp
 have c2:=hs1
 have c3:=hs2
 have C1:=Lib.hid c1
 have C2:=Lib.hid c2
 have C3:=Lib.hid c3
 clear c1 c2 c3 hp hs1 hs2
 have hb:=Below.refl w.heap.size w
 go_enter Tryz.func91,Tryz.ntmps91
 go_wp2_with ((first | (go_at_call 68;with_reducible refine (chRA hb R C1).mono ?_) | (go_at_call 122;first | with_reducible refine (chRA hb R C2).mono ?_ | with_reducible refine (chRA hb R C3).mono ?_));clear hb;rintro e w1 ⟨rfl,hb⟩)
 go_ret3
 exact ⟨rfl,hb⟩
theorem rsm_b (s a b:ByteArray) (v d:Int) (_hv0 : -9223372036854775808≤v) (_hv1:v≤9223372036854775807) (_hd0 : -9223372036854775808≤d) (_hd1:d≤9223372036854775807) (hp:CR 68 #[.string s] (.tuple #[.string a,.string b])) (hs1:CR 122 #[.string a] (.tuple #[.int .i64 v,.bool true])) (hs2:CR 122 #[.string b] (.tuple #[.int .i64 d,.bool false]))  (w:World) (R:EnvR w) :
   Calls Tryz.prog 91 #[.string s] w (Ret w (.tuple #[.int .i64 0,.int .i64 0,.bool false])):=by
 have c1:=hp
 have c2:=hs1
 have c3:=hs2
 have C1:=Lib.hid c1
 have C2:=Lib.hid c2
 have C3:=Lib.hid c3
 clear c1 c2 c3 hp hs1 hs2
 have hb:=Below.refl w.heap.size w
 go_enter Tryz.func91,Tryz.ntmps91
 go_wp2_with ((first | (go_at_call 68;with_reducible refine (chRA hb R C1).mono ?_) | (go_at_call 122;first | with_reducible refine (chRA hb R C2).mono ?_ | with_reducible refine (chRA hb R C3).mono ?_));clear hb;rintro e w1 ⟨rfl,hb⟩)
 go_ret3
 exact ⟨rfl,hb⟩
theorem rsm_c (s a b:ByteArray) (v d:Int) (_hv0 : -9223372036854775808≤v) (_hv1:v≤9223372036854775807) (_hd0 : -9223372036854775808≤d) (_hd1:d≤9223372036854775807) (hp:CR 68 #[.string s] (.tuple #[.string a,.string b])) (hs1:CR 122 #[.string a] (.tuple #[.int .i64 v,.bool false])) (hs2:CR 122 #[.string b] (.tuple #[.int .i64 d,.bool false]))  (w:World) (R:EnvR w) :
   Calls Tryz.prog 91 #[.string s] w (Ret w (.tuple #[.int .i64 0,.int .i64 0,.bool false])):=by
 have c1:=hp
 have c2:=hs1
 have c3:=hs2
 have C1:=Lib.hid c1
 have C2:=Lib.hid c2
 have C3:=Lib.hid c3
 clear c1 c2 c3 hp hs1 hs2
 have hb:=Below.refl w.heap.size w
 go_enter Tryz.func91,Tryz.ntmps91
 go_wp2_with ((first | (go_at_call 68;with_reducible refine (chRA hb R C1).mono ?_) | (go_at_call 122;first | with_reducible refine (chRA hb R C2).mono ?_ | with_reducible refine (chRA hb R C3).mono ?_));clear hb;rintro e w1 ⟨rfl,hb⟩)
 go_ret3
 exact ⟨rfl,hb⟩
theorem rsm_d (s a b:ByteArray) (v d:Int) (_hv0 : -9223372036854775808≤v) (_hv1:v≤9223372036854775807) (_hd0 : -9223372036854775808≤d) (_hd1:d≤9223372036854775807) (hp:CR 68 #[.string s] (.tuple #[.string a,.string b])) (hs1:CR 122 #[.string a] (.tuple #[.int .i64 v,.bool true])) (hs2:CR 122 #[.string b] (.tuple #[.int .i64 d,.bool true])) (h1:v ≤ -1000000000000000000) (w:World) (R:EnvR w) :
   Calls Tryz.prog 91 #[.string s] w (Ret w (.tuple #[.int .i64 0,.int .i64 0,.bool false])):=by
 have c1:=hp
 have c2:=hs1
 have c3:=hs2
 have C1:=Lib.hid c1
 have C2:=Lib.hid c2
 have C3:=Lib.hid c3
 clear c1 c2 c3 hp hs1 hs2
 have hb:=Below.refl w.heap.size w
 go_enter Tryz.func91,Tryz.ntmps91
 go_wp2_with ((first | (go_at_call 68;with_reducible refine (chRA hb R C1).mono ?_) | (go_at_call 122;first | with_reducible refine (chRA hb R C2).mono ?_ | with_reducible refine (chRA hb R C3).mono ?_));clear hb;rintro e w1 ⟨rfl,hb⟩)
 go_ret3
 exact ⟨rfl,hb⟩
theorem rsm_e (s a b:ByteArray) (v d:Int) (_hv0 : -9223372036854775808≤v) (_hv1:v≤9223372036854775807) (_hd0 : -9223372036854775808≤d) (_hd1:d≤9223372036854775807) (hp:CR 68 #[.string s] (.tuple #[.string a,.string b])) (hs1:CR 122 #[.string a] (.tuple #[.int .i64 v,.bool true])) (hs2:CR 122 #[.string b] (.tuple #[.int .i64 d,.bool true])) (h0 : -1000000000000000000 < v) (h1:1000000000000000000≤v) (w:World) (R:EnvR w) :
   Calls Tryz.prog 91 #[.string s] w (Ret w (.tuple #[.int .i64 0,.int .i64 0,.bool false])):=by
 have c1:=hp
 have c2:=hs1
 have c3:=hs2
 have C1:=Lib.hid c1
 have C2:=Lib.hid c2
 have C3:=Lib.hid c3
 clear c1 c2 c3 hp hs1 hs2
 have hb:=Below.refl w.heap.size w
 go_enter Tryz.func91,Tryz.ntmps91
 go_wp2_with ((first | (go_at_call 68;with_reducible refine (chRA hb R C1).mono ?_) | (go_at_call 122;first | with_reducible refine (chRA hb R C2).mono ?_ | with_reducible refine (chRA hb R C3).mono ?_));clear hb;rintro e w1 ⟨rfl,hb⟩)
 go_ret3
 exact ⟨rfl,hb⟩
theorem rsm_g (s a b:ByteArray) (v d:Int) (_hv0 : -9223372036854775808≤v) (_hv1:v≤9223372036854775807) (_hd0 : -9223372036854775808≤d) (_hd1:d≤9223372036854775807) (hp:CR 68 #[.string s] (.tuple #[.string a,.string b])) (hs1:CR 122 #[.string a] (.tuple #[.int .i64 v,.bool true])) (hs2:CR 122 #[.string b] (.tuple #[.int .i64 d,.bool true])) (h0 : -1000000000000000000 < v) (h1:v < 1000000000000000000) (h2:0 < d) (h3:1000000000000000000≤d) (w:World) (R:EnvR w) :
   Calls Tryz.prog 91 #[.string s] w (Ret w (.tuple #[.int .i64 0,.int .i64 0,.bool false])):=by
 have c1:=hp
 have c2:=hs1
 have c3:=hs2
 have C1:=Lib.hid c1
 have C2:=Lib.hid c2
 have C3:=Lib.hid c3
 clear c1 c2 c3 hp hs1 hs2
 have hb:=Below.refl w.heap.size w
 go_enter Tryz.func91,Tryz.ntmps91
 go_wp2_with ((first | (go_at_call 68;with_reducible refine (chRA hb R C1).mono ?_) | (go_at_call 122;first | with_reducible refine (chRA hb R C2).mono ?_ | with_reducible refine (chRA hb R C3).mono ?_));clear hb;rintro e w1 ⟨rfl,hb⟩)
 go_ret3
 exact ⟨rfl,hb⟩
theorem rsm_h (s a b:ByteArray) (v d:Int) (hv0 : -9223372036854775808≤v) (hv1:v≤9223372036854775807) (hd0 : -9223372036854775808≤d) (hd1:d≤9223372036854775807) (hp:CR 68 #[.string s] (.tuple #[.string a,.string b])) (hs1:CR 122 #[.string a] (.tuple #[.int .i64 v,.bool true])) (hs2:CR 122 #[.string b] (.tuple #[.int .i64 d,.bool true])) (h0 : -1000000000000000000 < v) (h1:v < 1000000000000000000) (h2:0 < d) (h3:d < 1000000000000000000) (w:World) (R:EnvR w) :
   Calls Tryz.prog 91 #[.string s] w (Ret w (.tuple #[.int .i64 v,.int .i64 d,.bool true])):=by
 have c1:=hp
 have c2:=hs1
 have c3:=hs2
 have C1:=Lib.hid c1
 have C2:=Lib.hid c2
 have C3:=Lib.hid c3
 clear c1 c2 c3 hp hs1 hs2
 have hb:=Below.refl w.heap.size w
 go_enter Tryz.func91,Tryz.ntmps91
 go_wp2_with ((first | (go_at_call 68;with_reducible refine (chRA hb R C1).mono ?_) | (go_at_call 122;first | with_reducible refine (chRA hb R C2).mono ?_ | with_reducible refine (chRA hb R C3).mono ?_));clear hb;rintro e w1 ⟨rfl,hb⟩)
 go_ret3
 exact ⟨rfl,hb⟩
def shortQ (q:Rat):Prop:=-1000000000000000000 < q.num∧q.num < 1000000000000000000∧q.den < 1000000000000000000
theorem rsmall_yes (q:Rat) (h:shortQ q) (w:World) (R:EnvR w) :
   Calls Tryz.prog 91 #[.string (ratB q)] w (Ret w (.tuple #[.int .i64 q.num,.int .i64 q.den,.bool true])):=by
 obtain ⟨h1,h2,h3⟩:=h
 have hd:=q.den_pos
 have hl:RL q 100000:=⟨Nat.le_trans (dlen_int _ (by omega) (by omega)) (by decide),Nat.le_trans (dlen_int _ (by omega) (by omega)) (by decide)⟩
 exact rsm_h (ratB q) _ _ _ _ (by omega) (by omega) (by omega) (by omega) (fun w R=>rparts_any q w R hl) (fun w R=>ismall_in _ (by omega) (by omega) w R) (fun w R=>ismall_in _ (by omega) (by omega) w R) h1 h2 (by omega) (by omega) w R
theorem rsmall_no (q:Rat) (h:¬ shortQ q) (w:World) (R:EnvR w) (hl:RL q 100000) :
   Calls Tryz.prog 91 #[.string (ratB q)] w (Ret w (.tuple #[.int .i64 0,.int .i64 0,.bool false])):=by
 unfold shortQ at h
 have hd:=q.den_pos
 obtain ⟨v,b1,v0,v1,t1,f1,c1⟩:=ismall_any q.num hl.1
 obtain ⟨d,b2,d0,d1,t2,f2,c2⟩:=ismall_any q.den hl.2
 have hp:=fun w R=>rparts_any q w R hl
 cases b1 with
 | false=>cases b2 with
   | false=>exact rsm_c (ratB q) _ _ _ _ v0 v1 d0 d1 hp c1 c2 w R
   | true=>exact rsm_a (ratB q) _ _ _ _ v0 v1 d0 d1 hp c1 c2 w R
 | true=>cases b2 with
   | false=>exact rsm_b (ratB q) _ _ _ _ v0 v1 d0 d1 hp c1 c2 w R
   | true =>
     have e1:=t1 rfl
     have e2:=t2 rfl
     by_cases h1:v ≤ -1000000000000000000
     · exact rsm_d (ratB q) _ _ _ _ v0 v1 d0 d1 hp c1 c2 h1 w R
     · by_cases h2:1000000000000000000≤v
       · exact rsm_e (ratB q) _ _ _ _ v0 v1 d0 d1 hp c1 c2 (by omega) h2 w R
       · exact rsm_g (ratB q) _ _ _ _ v0 v1 d0 d1 hp c1 c2 (by omega) (by omega) (by omega) (by omega) w R
theorem zC {w w':World} {p:Addr} {v:Value} (hk:Below w.heap.size w w') (x:w.cell? p=some v):w'.cell? p=some v:=(hk.cell (Lib.lt_of_cell x)).trans x
theorem partsOf_any (q:Rat) (hq:RL q 100000) (w:World) (R:EnvR w) :
   Calls Tryz.prog 92 #[.string (ratB q)] w (Ret w (.agg #[.string (itoaB q.num),.string (itoaB q.den)])):=by
 have c1:=fun (w:World) (R:EnvR w)=>rparts_any q w R hq
 obtain ⟨a,ha⟩:∃ a,itoaB q.num=a:=⟨_,rfl⟩
 obtain ⟨b,hb'⟩:∃ b,itoaB (q.den:Int)=b:=⟨_,rfl⟩
 obtain ⟨s,hs⟩:∃ s,ratB q=s:=⟨_,rfl⟩
 simp only [ha,hb',hs] at c1 ⊢
 have C1:=Lib.hid c1
 clear c1 ha hb' hs hq
 have hba:Below w.heap.size w (w.alloc (Obj.cells #[Value.string ⟨#[]⟩,Value.string ⟨#[]⟩] 120)):=(Below.refl _ _).alloc (Nat.le_refl _) _
 go_enter Tryz.func92,Tryz.ntmps92
 go_wp2_with (go_at_call 68;refine (C1.out _ (R.below hba)).mono ?_;rintro e w2 ⟨rfl,hb2⟩;refine Hid.out ?_)
 refine Lib.hid ?_
 have a0:w2.heap[w.heap.size]? = some (Obj.cells #[Value.string ⟨#[]⟩,Value.string ⟨#[]⟩] 120 (0,0)):=(hb2.block _ (by simp)).trans (World.alloc_heap_new w _)
 have e0:w2.cell? ⟨w.heap.size,0,none⟩=some (Value.string ⟨#[]⟩):=zA a0
 have e1:w2.cell? ⟨w.heap.size,1,none⟩=some (Value.string ⟨#[]⟩):=zA a0
 have f0:w2.frozen? ⟨w.heap.size,0,none⟩=false:=zD a0
 have f1:w2.frozen? ⟨w.heap.size,1,none⟩=false:=zD a0
 clear a0
 go_wp2
 refine bodyPost_ret (v:=.agg #[.string a,.string b]) (by simp [results,Tryz.results92,go_sem,e0,e1]) rfl ⟨rfl,?_⟩
 exact ((hba.trans (hb2.mono hba.size)).setCell (Nat.le_refl _) _).setCell (Nat.le_refl _) _
theorem addInts_wa (a b c d p1 p2 p3:Int) (f2 f3:Bool) (r:ByteArray) (h1:CR 98 #[.int .i64 a,.int .i64 d] (.tuple #[.int .i64 p1,.bool false])) (g1 : -4611686018427387904 < p1∧p1 < 4611686018427387904) (h2:CR 98 #[.int .i64 c,.int .i64 b] (.tuple #[.int .i64 p2,.bool f2])) (g2 : -4611686018427387904 < p2∧p2 < 4611686018427387904) (h3:CR 98 #[.int .i64 b,.int .i64 d] (.tuple #[.int .i64 p3,.bool f3])) (_g3 : -4611686018427387904 < p3∧p3 < 4611686018427387904) (hr:CR 99 #[.int .i64 (p1+p2),.int .i64 p3] (.string r)) (w:World) (R:EnvR w) :
   Calls Tryz.prog 114 #[.agg #[.int .i64 a,.int .i64 b],.agg #[.int .i64 c,.int .i64 d]] w (Ret w (.tuple #[.string r,.bool false])):=by
 have c1:=h1
 have c2:=h2
 have c3:=h3
 have c4:=hr
 have C1:=Lib.hid c1
 have C2:=Lib.hid c2
 have C3:=Lib.hid c3
 have C4:=Lib.hid c4
 clear c1 c2 c3 c4 h1 h2 h3 hr
 have hb0':Below w.heap.size w (w.alloc (Obj.cells #[Value.int .i64 a,Value.int .i64 b] 118)):=(Below.refl _ _).alloc (Nat.le_refl _) _
 have hb1':Below w.heap.size w ((w.alloc (Obj.cells #[Value.int .i64 a,Value.int .i64 b] 118)).alloc (Obj.cells #[Value.int .i64 c,Value.int .i64 d] 118)):=hb0'.alloc hb0'.size _
 have hb:=hb1'
 clear hb0' hb1'
 have x0:((w.alloc (Obj.cells #[Value.int .i64 a,Value.int .i64 b] 118)).alloc (Obj.cells #[Value.int .i64 c,Value.int .i64 d] 118)).cell? ⟨w.heap.size,0,none⟩=some (Value.int .i64 a):=by simp [go_sem]
 have x1:((w.alloc (Obj.cells #[Value.int .i64 a,Value.int .i64 b] 118)).alloc (Obj.cells #[Value.int .i64 c,Value.int .i64 d] 118)).cell? ⟨w.heap.size,1,none⟩=some (Value.int .i64 b):=by simp [go_sem]
 have x2:((w.alloc (Obj.cells #[Value.int .i64 a,Value.int .i64 b] 118)).alloc (Obj.cells #[Value.int .i64 c,Value.int .i64 d] 118)).cell? ⟨w.heap.size+1,0,none⟩=some (Value.int .i64 c):=by simp [go_sem]
 have x3:((w.alloc (Obj.cells #[Value.int .i64 a,Value.int .i64 b] 118)).alloc (Obj.cells #[Value.int .i64 c,Value.int .i64 d] 118)).cell? ⟨w.heap.size+1,1,none⟩=some (Value.int .i64 d):=by simp [go_sem]
 go_enter Tryz.func114,Tryz.ntmps114
 go_wp2_with ((first | (go_at_call 98;first | with_reducible refine (chRC hb R C1).mono ?_ | with_reducible refine (chRC hb R C2).mono ?_ | with_reducible refine (chRC hb R C3).mono ?_) | (go_at_call 99;with_reducible refine (chRC hb R C4).mono ?_));clear hb;rintro e w1 ⟨rfl,hk,hb⟩;replace x0:=zC hk x0;replace x1:=zC hk x1;replace x2:=zC hk x2;replace x3:=zC hk x3;clear hk)
 go_ret2
 exact ⟨rfl,hb⟩
theorem addInts_wb (a b c d p1 p2 p3:Int) (f3:Bool) (r:ByteArray) (h1:CR 98 #[.int .i64 a,.int .i64 d] (.tuple #[.int .i64 p1,.bool true])) (g1 : -4611686018427387904 < p1∧p1 < 4611686018427387904) (h2:CR 98 #[.int .i64 c,.int .i64 b] (.tuple #[.int .i64 p2,.bool false])) (g2 : -4611686018427387904 < p2∧p2 < 4611686018427387904) (h3:CR 98 #[.int .i64 b,.int .i64 d] (.tuple #[.int .i64 p3,.bool f3])) (_g3 : -4611686018427387904 < p3∧p3 < 4611686018427387904) (hr:CR 99 #[.int .i64 (p1+p2),.int .i64 p3] (.string r)) (w:World) (R:EnvR w) :
   Calls Tryz.prog 114 #[.agg #[.int .i64 a,.int .i64 b],.agg #[.int .i64 c,.int .i64 d]] w (Ret w (.tuple #[.string r,.bool false])):=by
 have c1:=h1
 have c2:=h2
 have c3:=h3
 have c4:=hr
 have C1:=Lib.hid c1
 have C2:=Lib.hid c2
 have C3:=Lib.hid c3
 have C4:=Lib.hid c4
 clear c1 c2 c3 c4 h1 h2 h3 hr
 have hb0':Below w.heap.size w (w.alloc (Obj.cells #[Value.int .i64 a,Value.int .i64 b] 118)):=(Below.refl _ _).alloc (Nat.le_refl _) _
 have hb1':Below w.heap.size w ((w.alloc (Obj.cells #[Value.int .i64 a,Value.int .i64 b] 118)).alloc (Obj.cells #[Value.int .i64 c,Value.int .i64 d] 118)):=hb0'.alloc hb0'.size _
 have hb:=hb1'
 clear hb0' hb1'
 have x0:((w.alloc (Obj.cells #[Value.int .i64 a,Value.int .i64 b] 118)).alloc (Obj.cells #[Value.int .i64 c,Value.int .i64 d] 118)).cell? ⟨w.heap.size,0,none⟩=some (Value.int .i64 a):=by simp [go_sem]
 have x1:((w.alloc (Obj.cells #[Value.int .i64 a,Value.int .i64 b] 118)).alloc (Obj.cells #[Value.int .i64 c,Value.int .i64 d] 118)).cell? ⟨w.heap.size,1,none⟩=some (Value.int .i64 b):=by simp [go_sem]
 have x2:((w.alloc (Obj.cells #[Value.int .i64 a,Value.int .i64 b] 118)).alloc (Obj.cells #[Value.int .i64 c,Value.int .i64 d] 118)).cell? ⟨w.heap.size+1,0,none⟩=some (Value.int .i64 c):=by simp [go_sem]
 have x3:((w.alloc (Obj.cells #[Value.int .i64 a,Value.int .i64 b] 118)).alloc (Obj.cells #[Value.int .i64 c,Value.int .i64 d] 118)).cell? ⟨w.heap.size+1,1,none⟩=some (Value.int .i64 d):=by simp [go_sem]
 go_enter Tryz.func114,Tryz.ntmps114
 go_wp2_with ((first | (go_at_call 98;first | with_reducible refine (chRC hb R C1).mono ?_ | with_reducible refine (chRC hb R C2).mono ?_ | with_reducible refine (chRC hb R C3).mono ?_) | (go_at_call 99;with_reducible refine (chRC hb R C4).mono ?_));clear hb;rintro e w1 ⟨rfl,hk,hb⟩;replace x0:=zC hk x0;replace x1:=zC hk x1;replace x2:=zC hk x2;replace x3:=zC hk x3;clear hk)
 go_ret2
 exact ⟨rfl,hb⟩
theorem addInts_wc (a b c d p1 p2 p3:Int) (f3:Bool) (r:ByteArray) (h1:CR 98 #[.int .i64 a,.int .i64 d] (.tuple #[.int .i64 p1,.bool true])) (g1 : -4611686018427387904 < p1∧p1 < 4611686018427387904) (h2:CR 98 #[.int .i64 c,.int .i64 b] (.tuple #[.int .i64 p2,.bool true])) (g2 : -4611686018427387904 < p2∧p2 < 4611686018427387904) (h3:CR 98 #[.int .i64 b,.int .i64 d] (.tuple #[.int .i64 p3,.bool f3])) (_g3 : -4611686018427387904 < p3∧p3 < 4611686018427387904) (hr:CR 99 #[.int .i64 (p1+p2),.int .i64 p3] (.string r)) (w:World) (R:EnvR w) :
   Calls Tryz.prog 114 #[.agg #[.int .i64 a,.int .i64 b],.agg #[.int .i64 c,.int .i64 d]] w (Ret w (.tuple #[.string r,.bool f3])):=by
 have c1:=h1
 have c2:=h2
 have c3:=h3
 have c4:=hr
 have C1:=Lib.hid c1
 have C2:=Lib.hid c2
 have C3:=Lib.hid c3
 have C4:=Lib.hid c4
 clear c1 c2 c3 c4 h1 h2 h3 hr
 have hb0':Below w.heap.size w (w.alloc (Obj.cells #[Value.int .i64 a,Value.int .i64 b] 118)):=(Below.refl _ _).alloc (Nat.le_refl _) _
 have hb1':Below w.heap.size w ((w.alloc (Obj.cells #[Value.int .i64 a,Value.int .i64 b] 118)).alloc (Obj.cells #[Value.int .i64 c,Value.int .i64 d] 118)):=hb0'.alloc hb0'.size _
 have hb:=hb1'
 clear hb0' hb1'
 have x0:((w.alloc (Obj.cells #[Value.int .i64 a,Value.int .i64 b] 118)).alloc (Obj.cells #[Value.int .i64 c,Value.int .i64 d] 118)).cell? ⟨w.heap.size,0,none⟩=some (Value.int .i64 a):=by simp [go_sem]
 have x1:((w.alloc (Obj.cells #[Value.int .i64 a,Value.int .i64 b] 118)).alloc (Obj.cells #[Value.int .i64 c,Value.int .i64 d] 118)).cell? ⟨w.heap.size,1,none⟩=some (Value.int .i64 b):=by simp [go_sem]
 have x2:((w.alloc (Obj.cells #[Value.int .i64 a,Value.int .i64 b] 118)).alloc (Obj.cells #[Value.int .i64 c,Value.int .i64 d] 118)).cell? ⟨w.heap.size+1,0,none⟩=some (Value.int .i64 c):=by simp [go_sem]
 have x3:((w.alloc (Obj.cells #[Value.int .i64 a,Value.int .i64 b] 118)).alloc (Obj.cells #[Value.int .i64 c,Value.int .i64 d] 118)).cell? ⟨w.heap.size+1,1,none⟩=some (Value.int .i64 d):=by simp [go_sem]
 go_enter Tryz.func114,Tryz.ntmps114
 go_wp2_with ((first | (go_at_call 98;first | with_reducible refine (chRC hb R C1).mono ?_ | with_reducible refine (chRC hb R C2).mono ?_ | with_reducible refine (chRC hb R C3).mono ?_) | (go_at_call 99;with_reducible refine (chRC hb R C4).mono ?_));clear hb;rintro e w1 ⟨rfl,hk,hb⟩;replace x0:=zC hk x0;replace x1:=zC hk x1;replace x2:=zC hk x2;replace x3:=zC hk x3;clear hk)
 go_ret2
 exact ⟨rfl,hb⟩
theorem mulInts_wa (a b c d p1 p2:Int) (f2:Bool) (r:ByteArray) (h1:CR 98 #[.int .i64 a,.int .i64 c] (.tuple #[.int .i64 p1,.bool false])) (_g1 : -4611686018427387904 < p1∧p1 < 4611686018427387904) (h2:CR 98 #[.int .i64 b,.int .i64 d] (.tuple #[.int .i64 p2,.bool f2])) (_g2 : -4611686018427387904 < p2∧p2 < 4611686018427387904) (hr:CR 99 #[.int .i64 p1,.int .i64 p2] (.string r)) (w:World) (R:EnvR w) :
   Calls Tryz.prog 66 #[.agg #[.int .i64 a,.int .i64 b],.agg #[.int .i64 c,.int .i64 d]] w (Ret w (.tuple #[.string r,.bool false])):=by
 have c1:=h1
 have c2:=h2
 have c3:=hr
 have C1:=Lib.hid c1
 have C2:=Lib.hid c2
 have C3:=Lib.hid c3
 clear c1 c2 c3 h1 h2 hr
 have hb0':Below w.heap.size w (w.alloc (Obj.cells #[Value.int .i64 a,Value.int .i64 b] 118)):=(Below.refl _ _).alloc (Nat.le_refl _) _
 have hb1':Below w.heap.size w ((w.alloc (Obj.cells #[Value.int .i64 a,Value.int .i64 b] 118)).alloc (Obj.cells #[Value.int .i64 c,Value.int .i64 d] 118)):=hb0'.alloc hb0'.size _
 have hb:=hb1'
 clear hb0' hb1'
 have x0:((w.alloc (Obj.cells #[Value.int .i64 a,Value.int .i64 b] 118)).alloc (Obj.cells #[Value.int .i64 c,Value.int .i64 d] 118)).cell? ⟨w.heap.size,0,none⟩=some (Value.int .i64 a):=by simp [go_sem]
 have x1:((w.alloc (Obj.cells #[Value.int .i64 a,Value.int .i64 b] 118)).alloc (Obj.cells #[Value.int .i64 c,Value.int .i64 d] 118)).cell? ⟨w.heap.size,1,none⟩=some (Value.int .i64 b):=by simp [go_sem]
 have x2:((w.alloc (Obj.cells #[Value.int .i64 a,Value.int .i64 b] 118)).alloc (Obj.cells #[Value.int .i64 c,Value.int .i64 d] 118)).cell? ⟨w.heap.size+1,0,none⟩=some (Value.int .i64 c):=by simp [go_sem]
 have x3:((w.alloc (Obj.cells #[Value.int .i64 a,Value.int .i64 b] 118)).alloc (Obj.cells #[Value.int .i64 c,Value.int .i64 d] 118)).cell? ⟨w.heap.size+1,1,none⟩=some (Value.int .i64 d):=by simp [go_sem]
 go_enter Tryz.func66,Tryz.ntmps66
 go_wp2_with ((first | (go_at_call 98;first | with_reducible refine (chRC hb R C1).mono ?_ | with_reducible refine (chRC hb R C2).mono ?_) | (go_at_call 99;with_reducible refine (chRC hb R C3).mono ?_));clear hb;rintro e w1 ⟨rfl,hk,hb⟩;replace x0:=zC hk x0;replace x1:=zC hk x1;replace x2:=zC hk x2;replace x3:=zC hk x3;clear hk)
 go_ret2
 exact ⟨rfl,hb⟩
theorem mulInts_wb (a b c d p1 p2:Int) (f2:Bool) (r:ByteArray) (h1:CR 98 #[.int .i64 a,.int .i64 c] (.tuple #[.int .i64 p1,.bool true])) (_g1 : -4611686018427387904 < p1∧p1 < 4611686018427387904) (h2:CR 98 #[.int .i64 b,.int .i64 d] (.tuple #[.int .i64 p2,.bool f2])) (_g2 : -4611686018427387904 < p2∧p2 < 4611686018427387904) (hr:CR 99 #[.int .i64 p1,.int .i64 p2] (.string r)) (w:World) (R:EnvR w) :
   Calls Tryz.prog 66 #[.agg #[.int .i64 a,.int .i64 b],.agg #[.int .i64 c,.int .i64 d]] w (Ret w (.tuple #[.string r,.bool f2])):=by
 have c1:=h1
 have c2:=h2
 have c3:=hr
 have C1:=Lib.hid c1
 have C2:=Lib.hid c2
 have C3:=Lib.hid c3
 clear c1 c2 c3 h1 h2 hr
 have hb0':Below w.heap.size w (w.alloc (Obj.cells #[Value.int .i64 a,Value.int .i64 b] 118)):=(Below.refl _ _).alloc (Nat.le_refl _) _
 have hb1':Below w.heap.size w ((w.alloc (Obj.cells #[Value.int .i64 a,Value.int .i64 b] 118)).alloc (Obj.cells #[Value.int .i64 c,Value.int .i64 d] 118)):=hb0'.alloc hb0'.size _
 have hb:=hb1'
 clear hb0' hb1'
 have x0:((w.alloc (Obj.cells #[Value.int .i64 a,Value.int .i64 b] 118)).alloc (Obj.cells #[Value.int .i64 c,Value.int .i64 d] 118)).cell? ⟨w.heap.size,0,none⟩=some (Value.int .i64 a):=by simp [go_sem]
 have x1:((w.alloc (Obj.cells #[Value.int .i64 a,Value.int .i64 b] 118)).alloc (Obj.cells #[Value.int .i64 c,Value.int .i64 d] 118)).cell? ⟨w.heap.size,1,none⟩=some (Value.int .i64 b):=by simp [go_sem]
 have x2:((w.alloc (Obj.cells #[Value.int .i64 a,Value.int .i64 b] 118)).alloc (Obj.cells #[Value.int .i64 c,Value.int .i64 d] 118)).cell? ⟨w.heap.size+1,0,none⟩=some (Value.int .i64 c):=by simp [go_sem]
 have x3:((w.alloc (Obj.cells #[Value.int .i64 a,Value.int .i64 b] 118)).alloc (Obj.cells #[Value.int .i64 c,Value.int .i64 d] 118)).cell? ⟨w.heap.size+1,1,none⟩=some (Value.int .i64 d):=by simp [go_sem]
 go_enter Tryz.func66,Tryz.ntmps66
 go_wp2_with ((first | (go_at_call 98;first | with_reducible refine (chRC hb R C1).mono ?_ | with_reducible refine (chRC hb R C2).mono ?_) | (go_at_call 99;with_reducible refine (chRC hb R C3).mono ?_));clear hb;rintro e w1 ⟨rfl,hk,hb⟩;replace x0:=zC hk x0;replace x1:=zC hk x1;replace x2:=zC hk x2;replace x3:=zC hk x3;clear hk)
 go_ret2
 exact ⟨rfl,hb⟩
theorem addInts_any (a b c d:Int) (ha0 : -1000000000000000000 < a) (ha1:a < 1000000000000000000) (hc0 : -1000000000000000000 < c) (hc1:c < 1000000000000000000) (hb0:0 < b) (hb1:b < 1000000000000000000) (hd0:0 < d) (hd1:d < 1000000000000000000) (w:World) (R:EnvR w) :
   Calls Tryz.prog 114 #[.agg #[.int .i64 a,.int .i64 b],.agg #[.int .i64 c,.int .i64 d]] w (Ret w (.tuple #[.string (ratB (Rat.divInt (pv a d+pv c b) (pv b d))),.bool (pf a d && pf c b && pf b d)])):=by
 have g1:=pv_bound a d
 have g2:=pv_bound c b
 have g3:=pv_bound b d
 have g4:=pv_pos b d hb0 hd0
 have k1:=fun w R=>product_any a d (by omega) (by omega) (by omega) (by omega) w R
 have k2:=fun w R=>product_any c b (by omega) (by omega) (by omega) (by omega) w R
 have k3:=fun w R=>product_any b d (by omega) (by omega) (by omega) (by omega) w R
 have k4:=fun w R=>rreduce_any (pv a d+pv c b) (pv b d) (by omega) (by omega) (by omega) (by omega) w R
 cases h1:pf a d with
 | false=>rw [h1] at k1;exact addInts_wa a b c d _ _ _ _ _ _ k1 g1 k2 g2 k3 g3 k4 w R
 | true =>
   rw [h1] at k1
   cases h2:pf c b with
   | false=>rw [h2] at k2;exact addInts_wb a b c d _ _ _ _ _ k1 g1 k2 g2 k3 g3 k4 w R
   | true=>rw [h2] at k2;exact addInts_wc a b c d _ _ _ _ _ k1 g1 k2 g2 k3 g3 k4 w R
theorem mulInts_any (a b c d:Int) (ha0 : -1000000000000000000 < a) (ha1:a < 1000000000000000000) (hc0 : -1000000000000000000 < c) (hc1:c < 1000000000000000000) (hb0:0 < b) (hb1:b < 1000000000000000000) (hd0:0 < d) (hd1:d < 1000000000000000000) (w:World) (R:EnvR w) :
   Calls Tryz.prog 66 #[.agg #[.int .i64 a,.int .i64 b],.agg #[.int .i64 c,.int .i64 d]] w (Ret w (.tuple #[.string (ratB (Rat.divInt (pv a c) (pv b d))),.bool (pf a c && pf b d)])):=by
 have g1:=pv_bound a c
 have g3:=pv_bound b d
 have g4:=pv_pos b d hb0 hd0
 have k1:=fun w R=>product_any a c (by omega) (by omega) (by omega) (by omega) w R
 have k3:=fun w R=>product_any b d (by omega) (by omega) (by omega) (by omega) w R
 have k4:=fun w R=>rreduce_any (pv a c) (pv b d) (by omega) (by omega) (by omega) (by omega) w R
 cases h1:pf a c with
 | false=>rw [h1] at k1;exact mulInts_wa a b c d _ _ _ _ k1 g1 k3 g3 k4 w R
 | true=>rw [h1] at k1;exact mulInts_wb a b c d _ _ _ _ k1 g1 k3 g3 k4 w R
theorem RL_mulP {p q:Rat} {K M:Nat} (hK:0 < K) (hp:RL p K) (hq:RL q M):RL (p*q) (K+M):=by
 rw [← mul_mk]
 have:=Nat.mul_pos p.den_pos q.den_pos
 exact RL_mk _ _ _ (by omega) (by omega) (dlen_mul _ _ _ _ (by omega) hp.1 hq.1) (by rw [Int.natCast_mul];exact dlen_mul _ _ _ _ (by omega) hp.2 hq.2)
theorem RL_addP {p q:Rat} {K M:Nat} (hK:0 < K) (hp:RL p K) (hq:RL q M):RL (p+q) (K+M+1):=by
 rw [← add_mk]
 have:=Nat.mul_pos p.den_pos q.den_pos
 refine RL_mk _ _ _ (by omega) (by omega) (dlen_add _ _ _ (by omega) (dlen_mul _ _ _ _ (by omega) hp.1 hq.2) ?_) (by rw [Int.natCast_mul];exact Nat.le_trans (dlen_mul _ _ _ _ (by omega) hp.2 hq.2) (by omega))
 rw [Nat.add_comm]
 exact dlen_mul _ _ _ _ (by omega) hq.1 hp.2
theorem addLong_any (p q:Rat) (hp:RL p 10000) (hq:RL q 10000) (w:World) (R:EnvR w) :
   Calls Tryz.prog 115 #[.agg #[.string (itoaB p.num),.string (itoaB (p.den:Int))],.agg #[.string (itoaB q.num),.string (itoaB (q.den:Int))]] w (Ret w (.string (ratB (p+q)))):=by
 have g0:0 < Nat.gcd p.den q.den:=Nat.gcd_pos_of_pos_left _ p.den_pos
 obtain ⟨hm1,hm2⟩:=add_parts p q _ _ _ _ rfl rfl rfl rfl
 have kg:dlen ((Nat.gcd p.den q.den:Nat):Int)≤10000:=dlen_nat_le _ (q.den:Int) _ (by decide) (Nat.gcd_le_right _ q.den_pos) hq.2
 have ks:dlen ((q.den / Nat.gcd p.den q.den:Nat):Int)≤10000:=dlen_nat_le _ (q.den:Int) _ (by decide) (Nat.div_le_self ..) hq.2
 have kas:dlen ((p.den / Nat.gcd p.den q.den:Nat):Int)≤10000:=dlen_nat_le _ (p.den:Int) _ (by decide) (Nat.div_le_self ..) hp.2
 have k1:dlen (p.num*((q.den / Nat.gcd p.den q.den:Nat):Int))≤20000:=dlen_mul _ _ 10000 10000 (by decide) hp.1 ks
 have k2:dlen (q.num*((p.den / Nat.gcd p.den q.den:Nat):Int))≤20000:=dlen_mul _ _ 10000 10000 (by decide) hq.1 kas
 have k3:dlen ((p.num*((q.den / Nat.gcd p.den q.den:Nat):Int))+(q.num*((p.den / Nat.gcd p.den q.den:Nat):Int)))≤20001:=dlen_add _ _ 20000 (by decide) k1 k2
 have a0:0 < Nat.gcd ((p.num*((q.den / Nat.gcd p.den q.den:Nat):Int))+(q.num*((p.den / Nat.gcd p.den q.den:Nat):Int))).natAbs (Nat.gcd p.den q.den):=Nat.gcd_pos_of_pos_right _ g0
 have kag:dlen ((Nat.gcd ((p.num*((q.den / Nat.gcd p.den q.den:Nat):Int))+(q.num*((p.den / Nat.gcd p.den q.den:Nat):Int))).natAbs (Nat.gcd p.den q.den):Nat):Int)≤10000:=dlen_nat_le _ ((Nat.gcd p.den q.den:Nat):Int) _ (by decide) (Nat.gcd_le_right _ g0) kg
 have kad:dlen ((p.den / Nat.gcd ((p.num*((q.den / Nat.gcd p.den q.den:Nat):Int))+(q.num*((p.den / Nat.gcd p.den q.den:Nat):Int))).natAbs (Nat.gcd p.den q.den):Nat):Int)≤10000:=dlen_nat_le _ (p.den:Int) _ (by decide) (Nat.div_le_self ..) hp.2
 have kr:RL (p+q) 20001:=((RL_addP (by decide) hp hq).mono (by decide))
 have c1:CR 75 #[.string (itoaB (p.den:Int)),.string (itoaB (q.den:Int))] (.string (itoaB ((Nat.gcd p.den q.den:Nat):Int))):=fun w R=>gcd_any _ _ w R.env (Nat.le_trans hp.2 (by decide)) (Nat.le_trans hq.2 (by decide))
 have c2:CR 100 #[.string (itoaB (q.den:Int)),.string (itoaB ((Nat.gcd p.den q.den:Nat):Int))] (.string (itoaB ((q.den / Nat.gcd p.den q.den:Nat):Int))):=fun w R=>by have:=over_any (q.den:Int) ((Nat.gcd p.den q.den:Nat):Int) w R (Nat.le_trans hq.2 (by decide)) (Nat.le_trans kg (by decide)) (by omega);rwa [← Int.natCast_ediv] at this
 have c3:CR 97 #[.string (itoaB p.num),.string (itoaB ((q.den / Nat.gcd p.den q.den:Nat):Int))] (.string (itoaB (p.num*((q.den / Nat.gcd p.den q.den:Nat):Int)))):=fun w R=>mul_any _ _ w R.env (Nat.le_trans hp.1 (by decide)) (Nat.le_trans ks (by decide))
 have c4:CR 100 #[.string (itoaB (p.den:Int)),.string (itoaB ((Nat.gcd p.den q.den:Nat):Int))] (.string (itoaB ((p.den / Nat.gcd p.den q.den:Nat):Int))):=fun w R=>by have:=over_any (p.den:Int) ((Nat.gcd p.den q.den:Nat):Int) w R (Nat.le_trans hp.2 (by decide)) (Nat.le_trans kg (by decide)) (by omega);rwa [← Int.natCast_ediv] at this
 have c5:CR 97 #[.string (itoaB q.num),.string (itoaB ((p.den / Nat.gcd p.den q.den:Nat):Int))] (.string (itoaB (q.num*((p.den / Nat.gcd p.den q.den:Nat):Int)))):=fun w R=>mul_any _ _ w R.env (Nat.le_trans hq.1 (by decide)) (Nat.le_trans kas (by decide))
 have c6:CR 142 #[.string (itoaB (p.num*((q.den / Nat.gcd p.den q.den:Nat):Int))),.string (itoaB (q.num*((p.den / Nat.gcd p.den q.den:Nat):Int)))] (.string (itoaB ((p.num*((q.den / Nat.gcd p.den q.den:Nat):Int))+(q.num*((p.den / Nat.gcd p.den q.den:Nat):Int))))):=fun w R=>add_any _ _ w R.env (Nat.le_trans k1 (by decide)) (Nat.le_trans k2 (by decide))
 have c7:CR 75 #[.string (itoaB ((p.num*((q.den / Nat.gcd p.den q.den:Nat):Int))+(q.num*((p.den / Nat.gcd p.den q.den:Nat):Int)))),.string (itoaB ((Nat.gcd p.den q.den:Nat):Int))] (.string (itoaB ((Nat.gcd ((p.num*((q.den / Nat.gcd p.den q.den:Nat):Int))+(q.num*((p.den / Nat.gcd p.den q.den:Nat):Int))).natAbs (Nat.gcd p.den q.den):Nat):Int))):=fun w R=>gcd_any _ _ w R.env (Nat.le_trans k3 (by decide)) (Nat.le_trans kg (by decide))
 have c8:CR 100 #[.string (itoaB ((p.num*((q.den / Nat.gcd p.den q.den:Nat):Int))+(q.num*((p.den / Nat.gcd p.den q.den:Nat):Int)))),.string (itoaB ((Nat.gcd ((p.num*((q.den / Nat.gcd p.den q.den:Nat):Int))+(q.num*((p.den / Nat.gcd p.den q.den:Nat):Int))).natAbs (Nat.gcd p.den q.den):Nat):Int))] (.string (itoaB (((p.num*((q.den / Nat.gcd p.den q.den:Nat):Int))+(q.num*((p.den / Nat.gcd p.den q.den:Nat):Int))) / ((Nat.gcd ((p.num*((q.den / Nat.gcd p.den q.den:Nat):Int))+(q.num*((p.den / Nat.gcd p.den q.den:Nat):Int))).natAbs (Nat.gcd p.den q.den):Nat):Int)))):=fun w R=>over_any _ _ w R (Nat.le_trans k3 (by decide)) (Nat.le_trans kag (by decide)) (by omega)
 have c9:CR 100 #[.string (itoaB (p.den:Int)),.string (itoaB ((Nat.gcd ((p.num*((q.den / Nat.gcd p.den q.den:Nat):Int))+(q.num*((p.den / Nat.gcd p.den q.den:Nat):Int))).natAbs (Nat.gcd p.den q.den):Nat):Int))] (.string (itoaB ((p.den / Nat.gcd ((p.num*((q.den / Nat.gcd p.den q.den:Nat):Int))+(q.num*((p.den / Nat.gcd p.den q.den:Nat):Int))).natAbs (Nat.gcd p.den q.den):Nat):Int))):=fun w R=>by have:=over_any (p.den:Int) ((Nat.gcd ((p.num*((q.den / Nat.gcd p.den q.den:Nat):Int))+(q.num*((p.den / Nat.gcd p.den q.den:Nat):Int))).natAbs (Nat.gcd p.den q.den):Nat):Int) w R (Nat.le_trans hp.2 (by decide)) (Nat.le_trans kag (by decide)) (by omega);rwa [← Int.natCast_ediv] at this
 have c10:CR 97 #[.string (itoaB ((p.den / Nat.gcd ((p.num*((q.den / Nat.gcd p.den q.den:Nat):Int))+(q.num*((p.den / Nat.gcd p.den q.den:Nat):Int))).natAbs (Nat.gcd p.den q.den):Nat):Int)),.string (itoaB ((q.den / Nat.gcd p.den q.den:Nat):Int))] (.string (itoaB (((p.den / Nat.gcd ((p.num*((q.den / Nat.gcd p.den q.den:Nat):Int))+(q.num*((p.den / Nat.gcd p.den q.den:Nat):Int))).natAbs (Nat.gcd p.den q.den):Nat):Int)*((q.den / Nat.gcd p.den q.den:Nat):Int)))):=fun w R=>mul_any _ _ w R.env (Nat.le_trans kad (by decide)) (Nat.le_trans ks (by decide))
 have c11:CR 69 #[.string (itoaB (((p.num*((q.den / Nat.gcd p.den q.den:Nat):Int))+(q.num*((p.den / Nat.gcd p.den q.den:Nat):Int))) / ((Nat.gcd ((p.num*((q.den / Nat.gcd p.den q.den:Nat):Int))+(q.num*((p.den / Nat.gcd p.den q.den:Nat):Int))).natAbs (Nat.gcd p.den q.den):Nat):Int))),.string (itoaB (((p.den / Nat.gcd ((p.num*((q.den / Nat.gcd p.den q.den:Nat):Int))+(q.num*((p.den / Nat.gcd p.den q.den:Nat):Int))).natAbs (Nat.gcd p.den q.den):Nat):Int)*((q.den / Nat.gcd p.den q.den:Nat):Int)))] (.string (ratB (p+q))):=fun w R=>join_any _ _ _ hm1 (by rw [hm2,Int.natCast_mul]) w R (kr.mono (by decide))
 obtain ⟨r,er⟩:∃ v,ratB (p+q)=v:=⟨_,rfl⟩
 try simp only [er] at c1 c2 c3 c4 c5 c6 c7 c8 c9 c10 c11 ⊢
 obtain ⟨t8,et8⟩:∃ v,itoaB (((p.num*((q.den / Nat.gcd p.den q.den:Nat):Int))+(q.num*((p.den / Nat.gcd p.den q.den:Nat):Int))) / ((Nat.gcd ((p.num*((q.den / Nat.gcd p.den q.den:Nat):Int))+(q.num*((p.den / Nat.gcd p.den q.den:Nat):Int))).natAbs (Nat.gcd p.den q.den):Nat):Int))=v:=⟨_,rfl⟩
 try simp only [et8] at c1 c2 c3 c4 c5 c6 c7 c8 c9 c10 c11 ⊢
 obtain ⟨t10,et10⟩:∃ v,itoaB (((p.den / Nat.gcd ((p.num*((q.den / Nat.gcd p.den q.den:Nat):Int))+(q.num*((p.den / Nat.gcd p.den q.den:Nat):Int))).natAbs (Nat.gcd p.den q.den):Nat):Int)*((q.den / Nat.gcd p.den q.den:Nat):Int))=v:=⟨_,rfl⟩
 try simp only [et10] at c1 c2 c3 c4 c5 c6 c7 c8 c9 c10 c11 ⊢
 obtain ⟨t9,et9⟩:∃ v,itoaB ((p.den / Nat.gcd ((p.num*((q.den / Nat.gcd p.den q.den:Nat):Int))+(q.num*((p.den / Nat.gcd p.den q.den:Nat):Int))).natAbs (Nat.gcd p.den q.den):Nat):Int)=v:=⟨_,rfl⟩
 try simp only [et9] at c1 c2 c3 c4 c5 c6 c7 c8 c9 c10 c11 ⊢
 obtain ⟨t7,et7⟩:∃ v,itoaB ((Nat.gcd ((p.num*((q.den / Nat.gcd p.den q.den:Nat):Int))+(q.num*((p.den / Nat.gcd p.den q.den:Nat):Int))).natAbs (Nat.gcd p.den q.den):Nat):Int)=v:=⟨_,rfl⟩
 try simp only [et7] at c1 c2 c3 c4 c5 c6 c7 c8 c9 c10 c11 ⊢
 obtain ⟨t6,et6⟩:∃ v,itoaB ((p.num*((q.den / Nat.gcd p.den q.den:Nat):Int))+(q.num*((p.den / Nat.gcd p.den q.den:Nat):Int)))=v:=⟨_,rfl⟩
 try simp only [et6] at c1 c2 c3 c4 c5 c6 c7 c8 c9 c10 c11 ⊢
 obtain ⟨t5,et5⟩:∃ v,itoaB (q.num*((p.den / Nat.gcd p.den q.den:Nat):Int))=v:=⟨_,rfl⟩
 try simp only [et5] at c1 c2 c3 c4 c5 c6 c7 c8 c9 c10 c11 ⊢
 obtain ⟨t3,et3⟩:∃ v,itoaB (p.num*((q.den / Nat.gcd p.den q.den:Nat):Int))=v:=⟨_,rfl⟩
 try simp only [et3] at c1 c2 c3 c4 c5 c6 c7 c8 c9 c10 c11 ⊢
 obtain ⟨t4,et4⟩:∃ v,itoaB ((p.den / Nat.gcd p.den q.den:Nat):Int)=v:=⟨_,rfl⟩
 try simp only [et4] at c1 c2 c3 c4 c5 c6 c7 c8 c9 c10 c11 ⊢
 obtain ⟨t2,et2⟩:∃ v,itoaB ((q.den / Nat.gcd p.den q.den:Nat):Int)=v:=⟨_,rfl⟩
 try simp only [et2] at c1 c2 c3 c4 c5 c6 c7 c8 c9 c10 c11 ⊢
 obtain ⟨t1,et1⟩:∃ v,itoaB ((Nat.gcd p.den q.den:Nat):Int)=v:=⟨_,rfl⟩
 try simp only [et1] at c1 c2 c3 c4 c5 c6 c7 c8 c9 c10 c11 ⊢
 obtain ⟨n,en⟩:∃ v,itoaB p.num=v:=⟨_,rfl⟩
 try simp only [en] at c1 c2 c3 c4 c5 c6 c7 c8 c9 c10 c11 ⊢
 obtain ⟨d,ed⟩:∃ v,itoaB (p.den:Int)=v:=⟨_,rfl⟩
 try simp only [ed] at c1 c2 c3 c4 c5 c6 c7 c8 c9 c10 c11 ⊢
 obtain ⟨m,em⟩:∃ v,itoaB q.num=v:=⟨_,rfl⟩
 try simp only [em] at c1 c2 c3 c4 c5 c6 c7 c8 c9 c10 c11 ⊢
 obtain ⟨e',ee'⟩:∃ v,itoaB (q.den:Int)=v:=⟨_,rfl⟩
 try simp only [ee'] at c1 c2 c3 c4 c5 c6 c7 c8 c9 c10 c11 ⊢
 have C1:=Lib.hid c1
 have C2:=Lib.hid c2
 have C3:=Lib.hid c3
 have C4:=Lib.hid c4
 have C5:=Lib.hid c5
 have C6:=Lib.hid c6
 have C7:=Lib.hid c7
 have C8:=Lib.hid c8
 have C9:=Lib.hid c9
 have C10:=Lib.hid c10
 have C11:=Lib.hid c11
 clear c1 c2 c3 c4 c5 c6 c7 c8 c9 c10 c11 er et8 et10 et9 et7 et6 et5 et3 et4 et2 et1 en ed em ee' g0 hm1 hm2 kg ks kas k1 k2 k3 a0 kag kad kr hp hq
 have hb0':Below w.heap.size w (w.alloc (Obj.cells #[Value.string n,Value.string d] 120)):=(Below.refl _ _).alloc (Nat.le_refl _) _
 have hb1':Below w.heap.size w ((w.alloc (Obj.cells #[Value.string n,Value.string d] 120)).alloc (Obj.cells #[Value.string m,Value.string e'] 120)):=hb0'.alloc hb0'.size _
 have hb:=hb1'
 clear hb0' hb1'
 have x0:((w.alloc (Obj.cells #[Value.string n,Value.string d] 120)).alloc (Obj.cells #[Value.string m,Value.string e'] 120)).cell? ⟨w.heap.size,0,none⟩=some (Value.string n):=by simp [go_sem]
 have x1:((w.alloc (Obj.cells #[Value.string n,Value.string d] 120)).alloc (Obj.cells #[Value.string m,Value.string e'] 120)).cell? ⟨w.heap.size,1,none⟩=some (Value.string d):=by simp [go_sem]
 have x2:((w.alloc (Obj.cells #[Value.string n,Value.string d] 120)).alloc (Obj.cells #[Value.string m,Value.string e'] 120)).cell? ⟨w.heap.size+1,0,none⟩=some (Value.string m):=by simp [go_sem]
 have x3:((w.alloc (Obj.cells #[Value.string n,Value.string d] 120)).alloc (Obj.cells #[Value.string m,Value.string e'] 120)).cell? ⟨w.heap.size+1,1,none⟩=some (Value.string e'):=by simp [go_sem]
 go_enter Tryz.func115,Tryz.ntmps115
 go_upto_region 3 with ((first | (go_at_call 75;first | with_reducible refine (chRC hb R C1).mono ?_ | with_reducible refine (chRC hb R C7).mono ?_) | (go_at_call 100;first | with_reducible refine (chRC hb R C2).mono ?_ | with_reducible refine (chRC hb R C4).mono ?_ | with_reducible refine (chRC hb R C8).mono ?_ | with_reducible refine (chRC hb R C9).mono ?_) | (go_at_call 97;first | with_reducible refine (chRC hb R C3).mono ?_ | with_reducible refine (chRC hb R C5).mono ?_ | with_reducible refine (chRC hb R C10).mono ?_) | (go_at_call 142;with_reducible refine (chRC hb R C6).mono ?_) | (go_at_call 69;with_reducible refine (chRC hb R C11).mono ?_));clear hb;rintro e w1 ⟨rfl,hk,hb⟩;replace x0:=zC hk x0;replace x1:=zC hk x1;replace x2:=zC hk x2;replace x3:=zC hk x3;clear hk)
 have yx0:=zR x0
 have yx1:=zR x1
 have yx2:=zR x2
 have yx3:=zR x3
 have Aa:=rrR C1 R hb
 have Ab:=rrR C2 R hb
 have Ac:=rrR C3 R hb
 have Ad:=rrR C4 R hb
 have Ae:=rrR C5 R hb
 have Af:=rrR C6 R hb
 have Ag:=rrR C7 R hb
 have Ah:=rrR C8 R hb
 have Ai:=rrR C9 R hb
 have Aj:=rrR C10 R hb
 have Ak:=rrR C11 R hb
 refine wp_region_quiet_below (by first | assumption | kernel_rfl) (by kernel_rfl) ?_
 repeat (quiet_step (first | (with_reducible exact Aa.out _ _) | (with_reducible exact Ab.out _ _) | (with_reducible exact Ac.out _ _) | (with_reducible exact Ad.out _ _) | (with_reducible exact Ae.out _ _) | (with_reducible exact Af.out _ _) | (with_reducible exact Ag.out _ _) | (with_reducible exact Ah.out _ _) | (with_reducible exact Ai.out _ _) | (with_reducible exact Aj.out _ _) | (with_reducible exact Ak.out _ _)))
 refine wpQuiet_nil ?_
 intro w1 hw'
 obtain ⟨hk,hb⟩:=zQ hb hw'
 replace x0:=zC hk x0
 replace x1:=zC hk x1
 replace x2:=zC hk x2
 replace x3:=zC hk x3
 clear Aa Ab Ac Ad Ae Af Ag Ah Ai Aj Ak yx0 yx1 yx2 yx3
 clear hk hw'
 go_upto_region 5 with ((first | (go_at_call 75;first | with_reducible refine (chRC hb R C1).mono ?_ | with_reducible refine (chRC hb R C7).mono ?_) | (go_at_call 100;first | with_reducible refine (chRC hb R C2).mono ?_ | with_reducible refine (chRC hb R C4).mono ?_ | with_reducible refine (chRC hb R C8).mono ?_ | with_reducible refine (chRC hb R C9).mono ?_) | (go_at_call 97;first | with_reducible refine (chRC hb R C3).mono ?_ | with_reducible refine (chRC hb R C5).mono ?_ | with_reducible refine (chRC hb R C10).mono ?_) | (go_at_call 142;with_reducible refine (chRC hb R C6).mono ?_) | (go_at_call 69;with_reducible refine (chRC hb R C11).mono ?_));clear hb;rintro e w1 ⟨rfl,hk,hb⟩;replace x0:=zC hk x0;replace x1:=zC hk x1;replace x2:=zC hk x2;replace x3:=zC hk x3;clear hk)
 have yx0:=zR x0
 have yx1:=zR x1
 have yx2:=zR x2
 have yx3:=zR x3
 have Aa:=rrR C1 R hb
 have Ab:=rrR C2 R hb
 have Ac:=rrR C3 R hb
 have Ad:=rrR C4 R hb
 have Ae:=rrR C5 R hb
 have Af:=rrR C6 R hb
 have Ag:=rrR C7 R hb
 have Ah:=rrR C8 R hb
 have Ai:=rrR C9 R hb
 have Aj:=rrR C10 R hb
 have Ak:=rrR C11 R hb
 refine wp_region_quiet_below (by first | assumption | kernel_rfl) (by kernel_rfl) ?_
 repeat (quiet_step (first | (with_reducible exact Aa.out _ _) | (with_reducible exact Ab.out _ _) | (with_reducible exact Ac.out _ _) | (with_reducible exact Ad.out _ _) | (with_reducible exact Ae.out _ _) | (with_reducible exact Af.out _ _) | (with_reducible exact Ag.out _ _) | (with_reducible exact Ah.out _ _) | (with_reducible exact Ai.out _ _) | (with_reducible exact Aj.out _ _) | (with_reducible exact Ak.out _ _)))
 refine wpQuiet_nil ?_
 intro w1 hw'
 obtain ⟨hk,hb⟩:=zQ hb hw'
 replace x0:=zC hk x0
 replace x1:=zC hk x1
 replace x2:=zC hk x2
 replace x3:=zC hk x3
 clear Aa Ab Ac Ad Ae Af Ag Ah Ai Aj Ak yx0 yx1 yx2 yx3
 clear hk hw'
 go_wp2_with ((first | (go_at_call 75;first | with_reducible refine (chRC hb R C1).mono ?_ | with_reducible refine (chRC hb R C7).mono ?_) | (go_at_call 100;first | with_reducible refine (chRC hb R C2).mono ?_ | with_reducible refine (chRC hb R C4).mono ?_ | with_reducible refine (chRC hb R C8).mono ?_ | with_reducible refine (chRC hb R C9).mono ?_) | (go_at_call 97;first | with_reducible refine (chRC hb R C3).mono ?_ | with_reducible refine (chRC hb R C5).mono ?_ | with_reducible refine (chRC hb R C10).mono ?_) | (go_at_call 142;with_reducible refine (chRC hb R C6).mono ?_) | (go_at_call 69;with_reducible refine (chRC hb R C11).mono ?_));clear hb;rintro e w1 ⟨rfl,hk,hb⟩;replace x0:=zC hk x0;replace x1:=zC hk x1;replace x2:=zC hk x2;replace x3:=zC hk x3;clear hk)
 go_ret
 exact ⟨rfl,hb⟩
theorem mulLong_any (p q:Rat) (hp:RL p 10000) (hq:RL q 10000) (w:World) (R:EnvR w) :
   Calls Tryz.prog 67 #[.agg #[.string (itoaB p.num),.string (itoaB (p.den:Int))],.agg #[.string (itoaB q.num),.string (itoaB (q.den:Int))]] w (Ret w (.string (ratB (p*q)))):=by
 have p0:=p.den_pos
 have q0:=q.den_pos
 have g1:0 < Nat.gcd p.num.natAbs q.den:=Nat.gcd_pos_of_pos_right _ q0
 have g2:0 < Nat.gcd q.num.natAbs p.den:=Nat.gcd_pos_of_pos_right _ p0
 obtain ⟨hm1,hm2⟩:=mul_parts p q
 have k1:dlen ((Nat.gcd p.num.natAbs q.den:Nat):Int)≤10000:=dlen_nat_le _ (q.den:Int) _ (by decide) (Nat.gcd_le_right _ q0) hq.2
 have k2:dlen ((Nat.gcd q.num.natAbs p.den:Nat):Int)≤10000:=dlen_nat_le _ (p.den:Int) _ (by decide) (Nat.gcd_le_right _ p0) hp.2
 have k3:dlen (p.num / ((Nat.gcd p.num.natAbs q.den:Nat):Int))≤10000:=dlen_div _ _ _ (by decide) hp.1 (Int.ofNat_dvd_left.2 (Nat.gcd_dvd_left ..))
 have k4:dlen (q.num / ((Nat.gcd q.num.natAbs p.den:Nat):Int))≤10000:=dlen_div _ _ _ (by decide) hq.1 (Int.ofNat_dvd_left.2 (Nat.gcd_dvd_left ..))
 have k5:dlen ((p.den / Nat.gcd q.num.natAbs p.den:Nat):Int)≤10000:=dlen_nat_le _ (p.den:Int) _ (by decide) (Nat.div_le_self ..) hp.2
 have k6:dlen ((q.den / Nat.gcd p.num.natAbs q.den:Nat):Int)≤10000:=dlen_nat_le _ (q.den:Int) _ (by decide) (Nat.div_le_self ..) hq.2
 have kr:RL (p*q) 20000:=RL_mulP (by decide) hp hq
 have c1:CR 75 #[.string (itoaB p.num),.string (itoaB (q.den:Int))] (.string (itoaB ((Nat.gcd p.num.natAbs q.den:Nat):Int))):=fun w R=>gcd_any _ _ w R.env (Nat.le_trans hp.1 (by decide)) (Nat.le_trans hq.2 (by decide))
 have c2:CR 75 #[.string (itoaB q.num),.string (itoaB (p.den:Int))] (.string (itoaB ((Nat.gcd q.num.natAbs p.den:Nat):Int))):=fun w R=>gcd_any _ _ w R.env (Nat.le_trans hq.1 (by decide)) (Nat.le_trans hp.2 (by decide))
 have c3:CR 100 #[.string (itoaB p.num),.string (itoaB ((Nat.gcd p.num.natAbs q.den:Nat):Int))] (.string (itoaB (p.num / ((Nat.gcd p.num.natAbs q.den:Nat):Int)))):=fun w R=>over_any _ _ w R (Nat.le_trans hp.1 (by decide)) (Nat.le_trans k1 (by decide)) (by omega)
 have c4:CR 100 #[.string (itoaB q.num),.string (itoaB ((Nat.gcd q.num.natAbs p.den:Nat):Int))] (.string (itoaB (q.num / ((Nat.gcd q.num.natAbs p.den:Nat):Int)))):=fun w R=>over_any _ _ w R (Nat.le_trans hq.1 (by decide)) (Nat.le_trans k2 (by decide)) (by omega)
 have c5:CR 97 #[.string (itoaB (p.num / ((Nat.gcd p.num.natAbs q.den:Nat):Int))),.string (itoaB (q.num / ((Nat.gcd q.num.natAbs p.den:Nat):Int)))] (.string (itoaB ((p.num / ((Nat.gcd p.num.natAbs q.den:Nat):Int))*(q.num / ((Nat.gcd q.num.natAbs p.den:Nat):Int))))):=fun w R=>mul_any _ _ w R.env (Nat.le_trans k3 (by decide)) (Nat.le_trans k4 (by decide))
 have c6:CR 100 #[.string (itoaB (p.den:Int)),.string (itoaB ((Nat.gcd q.num.natAbs p.den:Nat):Int))] (.string (itoaB ((p.den / Nat.gcd q.num.natAbs p.den:Nat):Int))):=fun w R=>by have:=over_any (p.den:Int) ((Nat.gcd q.num.natAbs p.den:Nat):Int) w R (Nat.le_trans hp.2 (by decide)) (Nat.le_trans k2 (by decide)) (by omega);rwa [← Int.natCast_ediv] at this
 have c7:CR 100 #[.string (itoaB (q.den:Int)),.string (itoaB ((Nat.gcd p.num.natAbs q.den:Nat):Int))] (.string (itoaB ((q.den / Nat.gcd p.num.natAbs q.den:Nat):Int))):=fun w R=>by have:=over_any (q.den:Int) ((Nat.gcd p.num.natAbs q.den:Nat):Int) w R (Nat.le_trans hq.2 (by decide)) (Nat.le_trans k1 (by decide)) (by omega);rwa [← Int.natCast_ediv] at this
 have c8:CR 97 #[.string (itoaB ((p.den / Nat.gcd q.num.natAbs p.den:Nat):Int)),.string (itoaB ((q.den / Nat.gcd p.num.natAbs q.den:Nat):Int))] (.string (itoaB (((p.den / Nat.gcd q.num.natAbs p.den:Nat):Int)*((q.den / Nat.gcd p.num.natAbs q.den:Nat):Int)))):=fun w R=>mul_any _ _ w R.env (Nat.le_trans k5 (by decide)) (Nat.le_trans k6 (by decide))
 have c9:CR 69 #[.string (itoaB ((p.num / ((Nat.gcd p.num.natAbs q.den:Nat):Int))*(q.num / ((Nat.gcd q.num.natAbs p.den:Nat):Int)))),.string (itoaB (((p.den / Nat.gcd q.num.natAbs p.den:Nat):Int)*((q.den / Nat.gcd p.num.natAbs q.den:Nat):Int)))] (.string (ratB (p*q))):=fun w R=>join_any _ _ _ hm1 (by rw [hm2,Int.natCast_mul]) w R (kr.mono (by decide))
 obtain ⟨r,er⟩:∃ v,ratB (p*q)=v:=⟨_,rfl⟩
 try simp only [er] at c1 c2 c3 c4 c5 c6 c7 c8 c9 ⊢
 obtain ⟨t5,et5⟩:∃ v,itoaB ((p.num / ((Nat.gcd p.num.natAbs q.den:Nat):Int))*(q.num / ((Nat.gcd q.num.natAbs p.den:Nat):Int)))=v:=⟨_,rfl⟩
 try simp only [et5] at c1 c2 c3 c4 c5 c6 c7 c8 c9 ⊢
 obtain ⟨t8,et8⟩:∃ v,itoaB (((p.den / Nat.gcd q.num.natAbs p.den:Nat):Int)*((q.den / Nat.gcd p.num.natAbs q.den:Nat):Int))=v:=⟨_,rfl⟩
 try simp only [et8] at c1 c2 c3 c4 c5 c6 c7 c8 c9 ⊢
 obtain ⟨t3,et3⟩:∃ v,itoaB (p.num / ((Nat.gcd p.num.natAbs q.den:Nat):Int))=v:=⟨_,rfl⟩
 try simp only [et3] at c1 c2 c3 c4 c5 c6 c7 c8 c9 ⊢
 obtain ⟨t4,et4⟩:∃ v,itoaB (q.num / ((Nat.gcd q.num.natAbs p.den:Nat):Int))=v:=⟨_,rfl⟩
 try simp only [et4] at c1 c2 c3 c4 c5 c6 c7 c8 c9 ⊢
 obtain ⟨t6,et6⟩:∃ v,itoaB ((p.den / Nat.gcd q.num.natAbs p.den:Nat):Int)=v:=⟨_,rfl⟩
 try simp only [et6] at c1 c2 c3 c4 c5 c6 c7 c8 c9 ⊢
 obtain ⟨t7,et7⟩:∃ v,itoaB ((q.den / Nat.gcd p.num.natAbs q.den:Nat):Int)=v:=⟨_,rfl⟩
 try simp only [et7] at c1 c2 c3 c4 c5 c6 c7 c8 c9 ⊢
 obtain ⟨t1,et1⟩:∃ v,itoaB ((Nat.gcd p.num.natAbs q.den:Nat):Int)=v:=⟨_,rfl⟩
 try simp only [et1] at c1 c2 c3 c4 c5 c6 c7 c8 c9 ⊢
 obtain ⟨t2,et2⟩:∃ v,itoaB ((Nat.gcd q.num.natAbs p.den:Nat):Int)=v:=⟨_,rfl⟩
 try simp only [et2] at c1 c2 c3 c4 c5 c6 c7 c8 c9 ⊢
 obtain ⟨n,en⟩:∃ v,itoaB p.num=v:=⟨_,rfl⟩
 try simp only [en] at c1 c2 c3 c4 c5 c6 c7 c8 c9 ⊢
 obtain ⟨d,ed⟩:∃ v,itoaB (p.den:Int)=v:=⟨_,rfl⟩
 try simp only [ed] at c1 c2 c3 c4 c5 c6 c7 c8 c9 ⊢
 obtain ⟨m,em⟩:∃ v,itoaB q.num=v:=⟨_,rfl⟩
 try simp only [em] at c1 c2 c3 c4 c5 c6 c7 c8 c9 ⊢
 obtain ⟨e',ee'⟩:∃ v,itoaB (q.den:Int)=v:=⟨_,rfl⟩
 try simp only [ee'] at c1 c2 c3 c4 c5 c6 c7 c8 c9 ⊢
 have C1:=Lib.hid c1
 have C2:=Lib.hid c2
 have C3:=Lib.hid c3
 have C4:=Lib.hid c4
 have C5:=Lib.hid c5
 have C6:=Lib.hid c6
 have C7:=Lib.hid c7
 have C8:=Lib.hid c8
 have C9:=Lib.hid c9
 clear c1 c2 c3 c4 c5 c6 c7 c8 c9 er et5 et8 et3 et4 et6 et7 et1 et2 en ed em ee' p0 q0 g1 g2 hm1 hm2 k1 k2 k3 k4 k5 k6 kr hp hq
 have hb0':Below w.heap.size w (w.alloc (Obj.cells #[Value.string n,Value.string d] 120)):=(Below.refl _ _).alloc (Nat.le_refl _) _
 have hb1':Below w.heap.size w ((w.alloc (Obj.cells #[Value.string n,Value.string d] 120)).alloc (Obj.cells #[Value.string m,Value.string e'] 120)):=hb0'.alloc hb0'.size _
 have hb:=hb1'
 clear hb0' hb1'
 have x0:((w.alloc (Obj.cells #[Value.string n,Value.string d] 120)).alloc (Obj.cells #[Value.string m,Value.string e'] 120)).cell? ⟨w.heap.size,0,none⟩=some (Value.string n):=by simp [go_sem]
 have x1:((w.alloc (Obj.cells #[Value.string n,Value.string d] 120)).alloc (Obj.cells #[Value.string m,Value.string e'] 120)).cell? ⟨w.heap.size,1,none⟩=some (Value.string d):=by simp [go_sem]
 have x2:((w.alloc (Obj.cells #[Value.string n,Value.string d] 120)).alloc (Obj.cells #[Value.string m,Value.string e'] 120)).cell? ⟨w.heap.size+1,0,none⟩=some (Value.string m):=by simp [go_sem]
 have x3:((w.alloc (Obj.cells #[Value.string n,Value.string d] 120)).alloc (Obj.cells #[Value.string m,Value.string e'] 120)).cell? ⟨w.heap.size+1,1,none⟩=some (Value.string e'):=by simp [go_sem]
 go_enter Tryz.func67,Tryz.ntmps67
 go_upto_region 1 with fail
 obtain ⟨w1,hw1⟩:∃ w1,(w.alloc (Obj.cells #[Value.string n,Value.string d] 120)).alloc (Obj.cells #[Value.string m,Value.string e'] 120)=w1:=⟨_,rfl⟩
 rw [hw1] at hb x0 x1 x2 x3 ⊢
 clear hw1
 have yx0:=zR x0
 have yx1:=zR x1
 have yx2:=zR x2
 have yx3:=zR x3
 have Aa:=rrR C1 R hb
 have Ab:=rrR C2 R hb
 have Ac:=rrR C3 R hb
 have Ad:=rrR C4 R hb
 have Ae:=rrR C5 R hb
 have Af:=rrR C6 R hb
 have Ag:=rrR C7 R hb
 have Ah:=rrR C8 R hb
 have Ai:=rrR C9 R hb
 refine wp_region_quiet_below (by first | assumption | kernel_rfl) (by kernel_rfl) ?_
 repeat (quiet_step (first | (with_reducible exact Aa.out _ _) | (with_reducible exact Ab.out _ _) | (with_reducible exact Ac.out _ _) | (with_reducible exact Ad.out _ _) | (with_reducible exact Ae.out _ _) | (with_reducible exact Af.out _ _) | (with_reducible exact Ag.out _ _) | (with_reducible exact Ah.out _ _) | (with_reducible exact Ai.out _ _)))
 refine wpQuiet_nil ?_
 intro w1 hw'
 obtain ⟨hk,hb⟩:=zQ hb hw'
 replace x0:=zC hk x0
 replace x1:=zC hk x1
 replace x2:=zC hk x2
 replace x3:=zC hk x3
 clear Aa Ab Ac Ad Ae Af Ag Ah Ai yx0 yx1 yx2 yx3
 clear hk hw'
 go_upto_region 2 with ((first | (go_at_call 75;first | with_reducible refine (chRC hb R C1).mono ?_ | with_reducible refine (chRC hb R C2).mono ?_) | (go_at_call 100;first | with_reducible refine (chRC hb R C3).mono ?_ | with_reducible refine (chRC hb R C4).mono ?_ | with_reducible refine (chRC hb R C6).mono ?_ | with_reducible refine (chRC hb R C7).mono ?_) | (go_at_call 97;first | with_reducible refine (chRC hb R C5).mono ?_ | with_reducible refine (chRC hb R C8).mono ?_) | (go_at_call 69;with_reducible refine (chRC hb R C9).mono ?_));clear hb;rintro e w1 ⟨rfl,hk,hb⟩;replace x0:=zC hk x0;replace x1:=zC hk x1;replace x2:=zC hk x2;replace x3:=zC hk x3;clear hk)
 have yx0:=zR x0
 have yx1:=zR x1
 have yx2:=zR x2
 have yx3:=zR x3
 have Aa:=rrR C1 R hb
 have Ab:=rrR C2 R hb
 have Ac:=rrR C3 R hb
 have Ad:=rrR C4 R hb
 have Ae:=rrR C5 R hb
 have Af:=rrR C6 R hb
 have Ag:=rrR C7 R hb
 have Ah:=rrR C8 R hb
 have Ai:=rrR C9 R hb
 refine wp_region_quiet_below (by first | assumption | kernel_rfl) (by kernel_rfl) ?_
 repeat (quiet_step (first | (with_reducible exact Aa.out _ _) | (with_reducible exact Ab.out _ _) | (with_reducible exact Ac.out _ _) | (with_reducible exact Ad.out _ _) | (with_reducible exact Ae.out _ _) | (with_reducible exact Af.out _ _) | (with_reducible exact Ag.out _ _) | (with_reducible exact Ah.out _ _) | (with_reducible exact Ai.out _ _)))
 refine wpQuiet_nil ?_
 intro w1 hw'
 obtain ⟨hk,hb⟩:=zQ hb hw'
 replace x0:=zC hk x0
 replace x1:=zC hk x1
 replace x2:=zC hk x2
 replace x3:=zC hk x3
 clear Aa Ab Ac Ad Ae Af Ag Ah Ai yx0 yx1 yx2 yx3
 clear hk hw'
 go_upto_region 3 with ((first | (go_at_call 75;first | with_reducible refine (chRC hb R C1).mono ?_ | with_reducible refine (chRC hb R C2).mono ?_) | (go_at_call 100;first | with_reducible refine (chRC hb R C3).mono ?_ | with_reducible refine (chRC hb R C4).mono ?_ | with_reducible refine (chRC hb R C6).mono ?_ | with_reducible refine (chRC hb R C7).mono ?_) | (go_at_call 97;first | with_reducible refine (chRC hb R C5).mono ?_ | with_reducible refine (chRC hb R C8).mono ?_) | (go_at_call 69;with_reducible refine (chRC hb R C9).mono ?_));clear hb;rintro e w1 ⟨rfl,hk,hb⟩;replace x0:=zC hk x0;replace x1:=zC hk x1;replace x2:=zC hk x2;replace x3:=zC hk x3;clear hk)
 have yx0:=zR x0
 have yx1:=zR x1
 have yx2:=zR x2
 have yx3:=zR x3
 have Aa:=rrR C1 R hb
 have Ab:=rrR C2 R hb
 have Ac:=rrR C3 R hb
 have Ad:=rrR C4 R hb
 have Ae:=rrR C5 R hb
 have Af:=rrR C6 R hb
 have Ag:=rrR C7 R hb
 have Ah:=rrR C8 R hb
 have Ai:=rrR C9 R hb
 refine wp_region_quiet_below (by first | assumption | kernel_rfl) (by kernel_rfl) ?_
 repeat (quiet_step (first | (with_reducible exact Aa.out _ _) | (with_reducible exact Ab.out _ _) | (with_reducible exact Ac.out _ _) | (with_reducible exact Ad.out _ _) | (with_reducible exact Ae.out _ _) | (with_reducible exact Af.out _ _) | (with_reducible exact Ag.out _ _) | (with_reducible exact Ah.out _ _) | (with_reducible exact Ai.out _ _)))
 refine wpQuiet_nil ?_
 intro w1 hw'
 obtain ⟨hk,hb⟩:=zQ hb hw'
 replace x0:=zC hk x0
 replace x1:=zC hk x1
 replace x2:=zC hk x2
 replace x3:=zC hk x3
 clear Aa Ab Ac Ad Ae Af Ag Ah Ai yx0 yx1 yx2 yx3
 clear hk hw'
 go_wp2_with ((first | (go_at_call 75;first | with_reducible refine (chRC hb R C1).mono ?_ | with_reducible refine (chRC hb R C2).mono ?_) | (go_at_call 100;first | with_reducible refine (chRC hb R C3).mono ?_ | with_reducible refine (chRC hb R C4).mono ?_ | with_reducible refine (chRC hb R C6).mono ?_ | with_reducible refine (chRC hb R C7).mono ?_) | (go_at_call 97;first | with_reducible refine (chRC hb R C5).mono ?_ | with_reducible refine (chRC hb R C8).mono ?_) | (go_at_call 69;with_reducible refine (chRC hb R C9).mono ?_));clear hb;rintro e w1 ⟨rfl,hk,hb⟩;replace x0:=zC hk x0;replace x1:=zC hk x1;replace x2:=zC hk x2;replace x3:=zC hk x3;clear hk)
 go_ret
 exact ⟨rfl,hb⟩
theorem calcAdd_yes (s t:ByteArray) (x y u v:Int) (r0:ByteArray) (h1:CR 91 #[.string s] (.tuple #[.int .i64 x,.int .i64 y,.bool true])) (h2:CR 91 #[.string t] (.tuple #[.int .i64 u,.int .i64 v,.bool true])) (h3:CR 114 #[.agg #[.int .i64 x,.int .i64 y],.agg #[.int .i64 u,.int .i64 v]] (.tuple #[.string r0,.bool true])) (w:World) (R:EnvR w) :
   Calls Tryz.prog 65 #[.string s,.string t,.func (Fn.func 114) #[] #[],.func (Fn.func 115) #[] #[]] w (Ret w (.string r0)):=by
 have c1:=h1
 have c2:=h2
 have c3:=h3
 have C1:=Lib.hid c1
 have C2:=Lib.hid c2
 have C3:=Lib.hid c3
 clear c1 c2 c3 h1 h2 h3
 have hb:=Below.refl w.heap.size w
 go_enter Tryz.func65,Tryz.ntmps65
 go_wp2_with ((first | (go_at_call 91;first | with_reducible refine (chRA hb R C1).mono ?_ | with_reducible refine (chRA hb R C2).mono ?_) | (go_at_call 114;with_reducible refine (chRA hb R C3).mono ?_));clear hb;rintro e w1 ⟨rfl,hb⟩)
 go_ret
 exact ⟨rfl,hb⟩
theorem calcAdd_not (s t a1 a2 b1 b2:ByteArray) (x y u v:Int) (r0 r1:ByteArray) (h1:CR 91 #[.string s] (.tuple #[.int .i64 x,.int .i64 y,.bool true])) (h2:CR 91 #[.string t] (.tuple #[.int .i64 u,.int .i64 v,.bool true])) (h3:CR 114 #[.agg #[.int .i64 x,.int .i64 y],.agg #[.int .i64 u,.int .i64 v]] (.tuple #[.string r0,.bool false])) (h4:CR 92 #[.string s] (.agg #[.string a1,.string a2])) (h5:CR 92 #[.string t] (.agg #[.string b1,.string b2])) (h6:CR 115 #[.agg #[.string a1,.string a2],.agg #[.string b1,.string b2]] (.string r1)) (w:World) (R:EnvR w) :
   Calls Tryz.prog 65 #[.string s,.string t,.func (Fn.func 114) #[] #[],.func (Fn.func 115) #[] #[]] w (Ret w (.string r1)):=by
 have c1:=h1
 have c2:=h2
 have c3:=h3
 have c4:=h4
 have c5:=h5
 have c6:=h6
 have C1:=Lib.hid c1
 have C2:=Lib.hid c2
 have C3:=Lib.hid c3
 have C4:=Lib.hid c4
 have C5:=Lib.hid c5
 have C6:=Lib.hid c6
 clear c1 c2 c3 c4 c5 c6 h1 h2 h3 h4 h5 h6
 have hb:=Below.refl w.heap.size w
 go_enter Tryz.func65,Tryz.ntmps65
 go_wp2_with ((first | (go_at_call 91;first | with_reducible refine (chRA hb R C1).mono ?_ | with_reducible refine (chRA hb R C2).mono ?_) | (go_at_call 114;with_reducible refine (chRA hb R C3).mono ?_) | (go_at_call 92;first | with_reducible refine (chRA hb R C4).mono ?_ | with_reducible refine (chRA hb R C5).mono ?_) | (go_at_call 115;with_reducible refine (chRA hb R C6).mono ?_));clear hb;rintro e w1 ⟨rfl,hb⟩)
 go_ret
 exact ⟨rfl,hb⟩
theorem calcAdd_la (s t a1 a2 b1 b2:ByteArray) (x y u v:Int) (k:Bool) (r1:ByteArray) (h1:CR 91 #[.string s] (.tuple #[.int .i64 x,.int .i64 y,.bool false])) (h2:CR 91 #[.string t] (.tuple #[.int .i64 u,.int .i64 v,.bool k])) (h3:CR 92 #[.string s] (.agg #[.string a1,.string a2])) (h4:CR 92 #[.string t] (.agg #[.string b1,.string b2])) (h5:CR 115 #[.agg #[.string a1,.string a2],.agg #[.string b1,.string b2]] (.string r1)) (w:World) (R:EnvR w) :
   Calls Tryz.prog 65 #[.string s,.string t,.func (Fn.func 114) #[] #[],.func (Fn.func 115) #[] #[]] w (Ret w (.string r1)):=by
 have c1:=h1
 have c2:=h2
 have c3:=h3
 have c4:=h4
 have c5:=h5
 have C1:=Lib.hid c1
 have C2:=Lib.hid c2
 have C3:=Lib.hid c3
 have C4:=Lib.hid c4
 have C5:=Lib.hid c5
 clear c1 c2 c3 c4 c5 h1 h2 h3 h4 h5
 have hb:=Below.refl w.heap.size w
 go_enter Tryz.func65,Tryz.ntmps65
 go_wp2_with ((first | (go_at_call 91;first | with_reducible refine (chRA hb R C1).mono ?_ | with_reducible refine (chRA hb R C2).mono ?_) | (go_at_call 92;first | with_reducible refine (chRA hb R C3).mono ?_ | with_reducible refine (chRA hb R C4).mono ?_) | (go_at_call 115;with_reducible refine (chRA hb R C5).mono ?_));clear hb;rintro e w1 ⟨rfl,hb⟩)
 go_ret
 exact ⟨rfl,hb⟩
theorem calcAdd_lb (s t a1 a2 b1 b2:ByteArray) (x y u v:Int) (r1:ByteArray) (h1:CR 91 #[.string s] (.tuple #[.int .i64 x,.int .i64 y,.bool true])) (h2:CR 91 #[.string t] (.tuple #[.int .i64 u,.int .i64 v,.bool false])) (h3:CR 92 #[.string s] (.agg #[.string a1,.string a2])) (h4:CR 92 #[.string t] (.agg #[.string b1,.string b2])) (h5:CR 115 #[.agg #[.string a1,.string a2],.agg #[.string b1,.string b2]] (.string r1)) (w:World) (R:EnvR w) :
   Calls Tryz.prog 65 #[.string s,.string t,.func (Fn.func 114) #[] #[],.func (Fn.func 115) #[] #[]] w (Ret w (.string r1)):=by
 have c1:=h1
 have c2:=h2
 have c3:=h3
 have c4:=h4
 have c5:=h5
 have C1:=Lib.hid c1
 have C2:=Lib.hid c2
 have C3:=Lib.hid c3
 have C4:=Lib.hid c4
 have C5:=Lib.hid c5
 clear c1 c2 c3 c4 c5 h1 h2 h3 h4 h5
 have hb:=Below.refl w.heap.size w
 go_enter Tryz.func65,Tryz.ntmps65
 go_wp2_with ((first | (go_at_call 91;first | with_reducible refine (chRA hb R C1).mono ?_ | with_reducible refine (chRA hb R C2).mono ?_) | (go_at_call 92;first | with_reducible refine (chRA hb R C3).mono ?_ | with_reducible refine (chRA hb R C4).mono ?_) | (go_at_call 115;with_reducible refine (chRA hb R C5).mono ?_));clear hb;rintro e w1 ⟨rfl,hb⟩)
 go_ret
 exact ⟨rfl,hb⟩
theorem calcMul_yes (s t:ByteArray) (x y u v:Int) (r0:ByteArray) (h1:CR 91 #[.string s] (.tuple #[.int .i64 x,.int .i64 y,.bool true])) (h2:CR 91 #[.string t] (.tuple #[.int .i64 u,.int .i64 v,.bool true])) (h3:CR 66 #[.agg #[.int .i64 x,.int .i64 y],.agg #[.int .i64 u,.int .i64 v]] (.tuple #[.string r0,.bool true])) (w:World) (R:EnvR w) :
   Calls Tryz.prog 65 #[.string s,.string t,.func (Fn.func 66) #[] #[],.func (Fn.func 67) #[] #[]] w (Ret w (.string r0)):=by
 have c1:=h1
 have c2:=h2
 have c3:=h3
 have C1:=Lib.hid c1
 have C2:=Lib.hid c2
 have C3:=Lib.hid c3
 clear c1 c2 c3 h1 h2 h3
 have hb:=Below.refl w.heap.size w
 go_enter Tryz.func65,Tryz.ntmps65
 go_wp2_with ((first | (go_at_call 91;first | with_reducible refine (chRA hb R C1).mono ?_ | with_reducible refine (chRA hb R C2).mono ?_) | (go_at_call 66;with_reducible refine (chRA hb R C3).mono ?_));clear hb;rintro e w1 ⟨rfl,hb⟩)
 go_ret
 exact ⟨rfl,hb⟩
theorem calcMul_not (s t a1 a2 b1 b2:ByteArray) (x y u v:Int) (r0 r1:ByteArray) (h1:CR 91 #[.string s] (.tuple #[.int .i64 x,.int .i64 y,.bool true])) (h2:CR 91 #[.string t] (.tuple #[.int .i64 u,.int .i64 v,.bool true])) (h3:CR 66 #[.agg #[.int .i64 x,.int .i64 y],.agg #[.int .i64 u,.int .i64 v]] (.tuple #[.string r0,.bool false])) (h4:CR 92 #[.string s] (.agg #[.string a1,.string a2])) (h5:CR 92 #[.string t] (.agg #[.string b1,.string b2])) (h6:CR 67 #[.agg #[.string a1,.string a2],.agg #[.string b1,.string b2]] (.string r1)) (w:World) (R:EnvR w) :
   Calls Tryz.prog 65 #[.string s,.string t,.func (Fn.func 66) #[] #[],.func (Fn.func 67) #[] #[]] w (Ret w (.string r1)):=by
 have c1:=h1
 have c2:=h2
 have c3:=h3
 have c4:=h4
 have c5:=h5
 have c6:=h6
 have C1:=Lib.hid c1
 have C2:=Lib.hid c2
 have C3:=Lib.hid c3
 have C4:=Lib.hid c4
 have C5:=Lib.hid c5
 have C6:=Lib.hid c6
 clear c1 c2 c3 c4 c5 c6 h1 h2 h3 h4 h5 h6
 have hb:=Below.refl w.heap.size w
 go_enter Tryz.func65,Tryz.ntmps65
 go_wp2_with ((first | (go_at_call 91;first | with_reducible refine (chRA hb R C1).mono ?_ | with_reducible refine (chRA hb R C2).mono ?_) | (go_at_call 66;with_reducible refine (chRA hb R C3).mono ?_) | (go_at_call 92;first | with_reducible refine (chRA hb R C4).mono ?_ | with_reducible refine (chRA hb R C5).mono ?_) | (go_at_call 67;with_reducible refine (chRA hb R C6).mono ?_));clear hb;rintro e w1 ⟨rfl,hb⟩)
 go_ret
 exact ⟨rfl,hb⟩
theorem calcMul_la (s t a1 a2 b1 b2:ByteArray) (x y u v:Int) (k:Bool) (r1:ByteArray) (h1:CR 91 #[.string s] (.tuple #[.int .i64 x,.int .i64 y,.bool false])) (h2:CR 91 #[.string t] (.tuple #[.int .i64 u,.int .i64 v,.bool k])) (h3:CR 92 #[.string s] (.agg #[.string a1,.string a2])) (h4:CR 92 #[.string t] (.agg #[.string b1,.string b2])) (h5:CR 67 #[.agg #[.string a1,.string a2],.agg #[.string b1,.string b2]] (.string r1)) (w:World) (R:EnvR w) :
   Calls Tryz.prog 65 #[.string s,.string t,.func (Fn.func 66) #[] #[],.func (Fn.func 67) #[] #[]] w (Ret w (.string r1)):=by
 have c1:=h1
 have c2:=h2
 have c3:=h3
 have c4:=h4
 have c5:=h5
 have C1:=Lib.hid c1
 have C2:=Lib.hid c2
 have C3:=Lib.hid c3
 have C4:=Lib.hid c4
 have C5:=Lib.hid c5
 clear c1 c2 c3 c4 c5 h1 h2 h3 h4 h5
 have hb:=Below.refl w.heap.size w
 go_enter Tryz.func65,Tryz.ntmps65
 go_wp2_with ((first | (go_at_call 91;first | with_reducible refine (chRA hb R C1).mono ?_ | with_reducible refine (chRA hb R C2).mono ?_) | (go_at_call 92;first | with_reducible refine (chRA hb R C3).mono ?_ | with_reducible refine (chRA hb R C4).mono ?_) | (go_at_call 67;with_reducible refine (chRA hb R C5).mono ?_));clear hb;rintro e w1 ⟨rfl,hb⟩)
 go_ret
 exact ⟨rfl,hb⟩
theorem calcMul_lb (s t a1 a2 b1 b2:ByteArray) (x y u v:Int) (r1:ByteArray) (h1:CR 91 #[.string s] (.tuple #[.int .i64 x,.int .i64 y,.bool true])) (h2:CR 91 #[.string t] (.tuple #[.int .i64 u,.int .i64 v,.bool false])) (h3:CR 92 #[.string s] (.agg #[.string a1,.string a2])) (h4:CR 92 #[.string t] (.agg #[.string b1,.string b2])) (h5:CR 67 #[.agg #[.string a1,.string a2],.agg #[.string b1,.string b2]] (.string r1)) (w:World) (R:EnvR w) :
   Calls Tryz.prog 65 #[.string s,.string t,.func (Fn.func 66) #[] #[],.func (Fn.func 67) #[] #[]] w (Ret w (.string r1)):=by
 have c1:=h1
 have c2:=h2
 have c3:=h3
 have c4:=h4
 have c5:=h5
 have C1:=Lib.hid c1
 have C2:=Lib.hid c2
 have C3:=Lib.hid c3
 have C4:=Lib.hid c4
 have C5:=Lib.hid c5
 clear c1 c2 c3 c4 c5 h1 h2 h3 h4 h5
 have hb:=Below.refl w.heap.size w
 go_enter Tryz.func65,Tryz.ntmps65
 go_wp2_with ((first | (go_at_call 91;first | with_reducible refine (chRA hb R C1).mono ?_ | with_reducible refine (chRA hb R C2).mono ?_) | (go_at_call 92;first | with_reducible refine (chRA hb R C3).mono ?_ | with_reducible refine (chRA hb R C4).mono ?_) | (go_at_call 67;with_reducible refine (chRA hb R C5).mono ?_));clear hb;rintro e w1 ⟨rfl,hb⟩)
 go_ret
 exact ⟨rfl,hb⟩
theorem add_flag {p q:Rat} (h:(pf p.num q.den && pf q.num p.den && pf (p.den:Int) q.den)=true):Rat.divInt (pv p.num q.den+pv q.num p.den) (pv p.den q.den)=p+q:=by
 rw [Bool.and_eq_true,Bool.and_eq_true] at h
 rw [pv_of h.1.1,pv_of h.1.2,pv_of h.2,← Int.natCast_mul]
 exact add_mk p q
theorem mul_flag {p q:Rat} (h:(pf p.num q.num && pf (p.den:Int) q.den)=true):Rat.divInt (pv p.num q.num) (pv p.den q.den)=p*q:=by
 rw [Bool.and_eq_true] at h
 rw [pv_of h.1,pv_of h.2,← Int.natCast_mul]
 exact mul_mk p q
theorem calcAdd_any (p q:Rat) (w:World) (R:EnvR w) (hp:RL p 10000) (hq:RL q 10000) :
   Calls Tryz.prog 65 #[.string (ratB p),.string (ratB q),.func (Fn.func 114) #[] #[],.func (Fn.func 115) #[] #[]] w (Ret w (.string (ratB (p+q)))):=by
 have lp:=fun w R=>partsOf_any p (hp.mono (by decide)) w R
 have lq:=fun w R=>partsOf_any q (hq.mono (by decide)) w R
 have lo:=fun w R=>addLong_any p q hp hq w R
 have p0:=p.den_pos
 have q0:=q.den_pos
 by_cases h1:shortQ p
 · have c1:=fun w R=>rsmall_yes p h1 w R
   by_cases h2:shortQ q
   · have c2:=fun w R=>rsmall_yes q h2 w R
     have ci:=fun w R=>addInts_any p.num p.den q.num q.den h1.1 h1.2.1 h2.1 h2.2.1 (by omega) (by have:=h1.2.2;omega) (by omega) (by have:=h2.2.2;omega) w R
     cases hf:(pf p.num q.den && pf q.num p.den && pf (p.den:Int) q.den) with
     | true =>
       rw [hf] at ci
       rw [add_flag hf] at ci
       exact calcAdd_yes _ _ _ _ _ _ _ c1 c2 ci w R
     | false =>
       rw [hf] at ci
       exact calcAdd_not _ _ _ _ _ _ _ _ _ _ _ _ c1 c2 ci lp lq lo w R
   · exact calcAdd_lb _ _ _ _ _ _ _ _ _ _ _ c1 (fun w R=>rsmall_no q h2 w R (hq.mono (by decide))) lp lq lo w R
 · by_cases h2:shortQ q
   · exact calcAdd_la _ _ _ _ _ _ _ _ _ _ _ _ (fun w R=>rsmall_no p h1 w R (hp.mono (by decide))) (fun w R=>rsmall_yes q h2 w R) lp lq lo w R
   · exact calcAdd_la _ _ _ _ _ _ _ _ _ _ _ _ (fun w R=>rsmall_no p h1 w R (hp.mono (by decide))) (fun w R=>rsmall_no q h2 w R (hq.mono (by decide))) lp lq lo w R
theorem radd_any (p q:Rat) (hp:RL p 10000) (hq:RL q 10000) (w:World) (R:EnvR w) :
   Calls Tryz.prog 81 #[.string (ratB p),.string (ratB q)] w (Ret w (.string (ratB (p+q)))):=by
 have c1:=fun (w:World) (R:EnvR w)=>calcAdd_any p q w R hp hq
 obtain ⟨r,er⟩:∃ v,ratB (p+q)=v:=⟨_,rfl⟩
 try simp only [er] at c1 ⊢
 obtain ⟨a,ea⟩:∃ v,ratB p=v:=⟨_,rfl⟩
 try simp only [ea] at c1 ⊢
 obtain ⟨b,eb⟩:∃ v,ratB q=v:=⟨_,rfl⟩
 try simp only [eb] at c1 ⊢
 have C1:=Lib.hid c1
 clear c1 er ea eb hp hq
 have hb:=Below.refl w.heap.size w
 go_enter Tryz.func81,Tryz.ntmps81
 go_wp2_with (go_at_call 65;with_reducible refine (chRA hb R C1).mono ?_;clear hb;rintro e w1 ⟨rfl,hb⟩)
 go_ret
 exact ⟨rfl,hb⟩
theorem calcMul_any (p q:Rat) (w:World) (R:EnvR w) (hp:RL p 10000) (hq:RL q 10000) :
   Calls Tryz.prog 65 #[.string (ratB p),.string (ratB q),.func (Fn.func 66) #[] #[],.func (Fn.func 67) #[] #[]] w (Ret w (.string (ratB (p*q)))):=by
 have lp:=fun w R=>partsOf_any p (hp.mono (by decide)) w R
 have lq:=fun w R=>partsOf_any q (hq.mono (by decide)) w R
 have lo:=fun w R=>mulLong_any p q hp hq w R
 have p0:=p.den_pos
 have q0:=q.den_pos
 by_cases h1:shortQ p
 · have c1:=fun w R=>rsmall_yes p h1 w R
   by_cases h2:shortQ q
   · have c2:=fun w R=>rsmall_yes q h2 w R
     have ci:=fun w R=>mulInts_any p.num p.den q.num q.den h1.1 h1.2.1 h2.1 h2.2.1 (by omega) (by have:=h1.2.2;omega) (by omega) (by have:=h2.2.2;omega) w R
     cases hf:(pf p.num q.num && pf (p.den:Int) q.den) with
     | true =>
       rw [hf] at ci
       rw [mul_flag hf] at ci
       exact calcMul_yes _ _ _ _ _ _ _ c1 c2 ci w R
     | false =>
       rw [hf] at ci
       exact calcMul_not _ _ _ _ _ _ _ _ _ _ _ _ c1 c2 ci lp lq lo w R
   · exact calcMul_lb _ _ _ _ _ _ _ _ _ _ _ c1 (fun w R=>rsmall_no q h2 w R (hq.mono (by decide))) lp lq lo w R
 · by_cases h2:shortQ q
   · exact calcMul_la _ _ _ _ _ _ _ _ _ _ _ _ (fun w R=>rsmall_no p h1 w R (hp.mono (by decide))) (fun w R=>rsmall_yes q h2 w R) lp lq lo w R
   · exact calcMul_la _ _ _ _ _ _ _ _ _ _ _ _ (fun w R=>rsmall_no p h1 w R (hp.mono (by decide))) (fun w R=>rsmall_no q h2 w R (hq.mono (by decide))) lp lq lo w R
theorem rmul_any (p q:Rat) (hp:RL p 10000) (hq:RL q 10000) (w:World) (R:EnvR w) :
   Calls Tryz.prog 38 #[.string (ratB p),.string (ratB q)] w (Ret w (.string (ratB (p*q)))):=by
 have c1:=fun (w:World) (R:EnvR w)=>calcMul_any p q w R hp hq
 obtain ⟨r,er⟩:∃ v,ratB (p*q)=v:=⟨_,rfl⟩
 try simp only [er] at c1 ⊢
 obtain ⟨a,ea⟩:∃ v,ratB p=v:=⟨_,rfl⟩
 try simp only [ea] at c1 ⊢
 obtain ⟨b,eb⟩:∃ v,ratB q=v:=⟨_,rfl⟩
 try simp only [eb] at c1 ⊢
 have C1:=Lib.hid c1
 clear c1 er ea eb hp hq
 have hb:=Below.refl w.heap.size w
 go_enter Tryz.func38,Tryz.ntmps38
 go_wp2_with (go_at_call 65;with_reducible refine (chRA hb R C1).mono ?_;clear hb;rintro e w1 ⟨rfl,hb⟩)
 go_ret
 exact ⟨rfl,hb⟩
end Go.Proofs.YtpiiclmkbplkhaaGreatDoor.Kl
