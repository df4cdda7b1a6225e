import Derived.Test.YtpiiclmkbplkhaaGreatDoorKlLLimbsCLC
import Derived.BigRegion
namespace Go.Proofs.YtpiiclmkbplkhaaGreatDoor.Kl
open Go Go.RowKit
set_option maxRecDepth 100000
set_option maxHeartbeats 8000000
theorem llimbs_za  (i0 i1 i2 j0 j1 j2 X0 X1 X2:Int) (d e:Int) (ck:CV 12 #[] (.bool true)) (ca:CV 29 #[.agg #[.int .i8 i0,.int .i8 i1,.int .i8 i2,.int .u8 d]] (.agg #[.int .i64 X0,.int .i64 X1,.int .i64 X2])) (za:CV 28 #[.agg #[.int .i64 X0,.int .i64 X1,.int .i64 X2]] (.bool true)) (w:World) (R:EnvV w) :
   Calls Tryz.prog 11 #[.agg #[.int .i8 i0,.int .i8 i1,.int .i8 i2,.int .u8 d],.agg #[.int .i8 j0,.int .i8 j1,.int .i8 j2,.int .u8 e]] w (Ret w (.bool true)):=by
 have c1:=ck
 have c2:=ca
 have c3:=za
 have C1:=Lib.hid c1
 have C2:=Lib.hid c2
 have C3:=Lib.hid c3
 clear c1 c2 c3 ck ca za
 have hb:=Below.refl w.heap.size w
 go_enter Tryz.func11,Tryz.ntmps11
 go_upto_region 1 with fail
 refine wp_alloc2 (fun w1 a0 a1 hk=>?_)
 replace hb:=hb.trans (hk.mono hb.size)
 clear hk
 obtain ⟨Aa,Ab,Ac,Ad⟩:=ce4 a0
 obtain ⟨Ae,Af,Ag,Ah⟩:=ce4 a1
 go_wp2_with ((first | (go_at_call 12;first | with_reducible refine (chVB hb R C1).mono ?_ | with_reducible refine (chVB hb R C1).mono ?_) | (go_at_call 29;with_reducible refine (chVB hb R C2).mono ?_) | (go_at_call 28;with_reducible refine (chVB hb R C3).mono ?_));clear hb;rintro e w1 ⟨rfl,hk,hb⟩;clear Aa Ab Ac Ad Ae Af Ag Ah;replace a0:=zB hk a0;replace a1:=zB hk a1;obtain ⟨Aa,Ab,Ac,Ad⟩:=ce4 a0;obtain ⟨Ae,Af,Ag,Ah⟩:=ce4 a1;clear hk)
 first | go_ret | go_ret2 | go_ret3
 exact ⟨rfl,hb⟩
theorem llimbs_zb  (i0 i1 i2 j0 j1 j2 X0 X1 X2 Y0 Y1 Y2:Int) (d e:Int) (ck:CV 12 #[] (.bool true)) (ca:CV 29 #[.agg #[.int .i8 i0,.int .i8 i1,.int .i8 i2,.int .u8 d]] (.agg #[.int .i64 X0,.int .i64 X1,.int .i64 X2])) (za:CV 28 #[.agg #[.int .i64 X0,.int .i64 X1,.int .i64 X2]] (.bool false)) (cb:CV 29 #[.agg #[.int .i8 j0,.int .i8 j1,.int .i8 j2,.int .u8 e]] (.agg #[.int .i64 Y0,.int .i64 Y1,.int .i64 Y2])) (zb:CV 28 #[.agg #[.int .i64 Y0,.int .i64 Y1,.int .i64 Y2]] (.bool true)) (w:World) (R:EnvV w) :
   Calls Tryz.prog 11 #[.agg #[.int .i8 i0,.int .i8 i1,.int .i8 i2,.int .u8 d],.agg #[.int .i8 j0,.int .i8 j1,.int .i8 j2,.int .u8 e]] w (Ret w (.bool true)):=by
 have c1:=ck
 have c2:=ca
 have c3:=za
 have c4:=cb
 have c5:=zb
 have C1:=Lib.hid c1
 have C2:=Lib.hid c2
 have C3:=Lib.hid c3
 have C4:=Lib.hid c4
 have C5:=Lib.hid c5
 clear c1 c2 c3 c4 c5 ck ca za cb zb
 have hb:=Below.refl w.heap.size w
 go_enter Tryz.func11,Tryz.ntmps11
 go_upto_region 1 with fail
 refine wp_alloc2 (fun w1 a0 a1 hk=>?_)
 replace hb:=hb.trans (hk.mono hb.size)
 clear hk
 obtain ⟨Aa,Ab,Ac,Ad⟩:=ce4 a0
 obtain ⟨Ae,Af,Ag,Ah⟩:=ce4 a1
 go_wp2_with ((first | (go_at_call 12;first | with_reducible refine (chVB hb R C1).mono ?_ | with_reducible refine (chVB hb R C1).mono ?_) | (go_at_call 29;first | with_reducible refine (chVB hb R C2).mono ?_ | with_reducible refine (chVB hb R C4).mono ?_) | (go_at_call 28;first | with_reducible refine (chVB hb R C3).mono ?_ | with_reducible refine (chVB hb R C5).mono ?_));clear hb;rintro e w1 ⟨rfl,hk,hb⟩;clear Aa Ab Ac Ad Ae Af Ag Ah;replace a0:=zB hk a0;replace a1:=zB hk a1;obtain ⟨Aa,Ab,Ac,Ad⟩:=ce4 a0;obtain ⟨Ae,Af,Ag,Ah⟩:=ce4 a1;clear hk)
 first | go_ret | go_ret2 | go_ret3
 exact ⟨rfl,hb⟩
theorem llimbs_14m  (i0 i1 i2 j0 j1 j2 X0 X1 X2 Y0 Y1 Y2:Int) (d e:Int) (s0 s1 s2 t0 t1 t2 p0 p1 p2 u0 u1 u2 v0 v1 v2:ByteArray) (ck:CV 12 #[] (.bool true)) (ca:CV 29 #[.agg #[.int .i8 i0,.int .i8 i1,.int .i8 i2,.int .u8 d]] (.agg #[.int .i64 X0,.int .i64 X1,.int .i64 X2])) (za:CV 28 #[.agg #[.int .i64 X0,.int .i64 X1,.int .i64 X2]] (.bool false)) (cb:CV 29 #[.agg #[.int .i8 j0,.int .i8 j1,.int .i8 j2,.int .u8 e]] (.agg #[.int .i64 Y0,.int .i64 Y1,.int .i64 Y2])) (zb:CV 28 #[.agg #[.int .i64 Y0,.int .i64 Y1,.int .i64 Y2]] (.bool false)) (ma:CV 30 #[.agg #[.int .i8 i0,.int .i8 i1,.int .i8 i2,.int .u8 d]] (.agg #[.string s0,.string s1,.string s2])) (mb:CV 30 #[.agg #[.int .i8 j0,.int .i8 j1,.int .i8 j2,.int .u8 e]] (.agg #[.string t0,.string t1,.string t2])) (nb0:CV 39 #[.string t0] (.string p0)) (na0:CV 39 #[.string s0] (.string u0)) (nb1:CV 39 #[.string t1] (.string p1)) (na1:CV 39 #[.string s1] (.string u1)) (nb2:CV 39 #[.string t2] (.string p2)) (na2:CV 39 #[.string s2] (.string u2)) (in1:CV 24 #[.agg #[.string s0,.string s1,.string s2],.agg #[.string t0,.string t1,.string t2]] (.tuple #[.int .i64 1,.int .i64 0])) (in2:CV 24 #[.agg #[.string t0,.string t1,.string t2],.agg #[.string s0,.string s1,.string s2]] (.tuple #[.int .i64 1,.int .i64 0])) (in3:CV 24 #[.agg #[.string u0,.string u1,.string u2],.agg #[.string p0,.string p1,.string p2]] (.tuple #[.int .i64 1,.int .i64 0])) (in4:CV 24 #[.agg #[.string s0,.string s1,.string s2],.agg #[.string p0,.string p1,.string p2]] (.tuple #[.int .i64 4,.int .i64 0])) (an:CV 19 #[.agg #[.string s0,.string s1,.string s2],.agg #[.string u0,.string u1,.string u2]] (.tuple #[.string ⟨#[49]⟩,.int .i64 0])) (it:CV 22 #[.agg #[.string s0,.string s1,.string s2],.agg #[.string t0,.string t1,.string t2]] (.tuple #[.agg #[.string v0,.string v1,.string v2],.int .i64 0])) (li1:CV 21 #[.agg #[.string s0,.string s1,.string s2],.agg #[.string v0,.string v1,.string v2]] (.tuple #[.bool true,.int .i64 0])) (li2:CV 21 #[.agg #[.string t0,.string t1,.string t2],.agg #[.string v0,.string v1,.string v2]] (.tuple #[.bool true,.int .i64 0])) (w:World) (R:EnvV w) :
   Calls Tryz.prog 11 #[.agg #[.int .i8 i0,.int .i8 i1,.int .i8 i2,.int .u8 d],.agg #[.int .i8 j0,.int .i8 j1,.int .i8 j2,.int .u8 e]] w (Ret w (.bool true)):=by
 have c1:=ck
 have c2:=ca
 have c3:=za
 have c4:=cb
 have c5:=zb
 have c6:=ma
 have c7:=mb
 have c8:=nb0
 have c9:=nb1
 have c10:=nb2
 have c11:=na0
 have c12:=na1
 have c13:=na2
 have c14:=in1
 have c15:=in2
 have c16:=in3
 have c17:=in4
 have c18:=an
 have c19:=it
 have c20:=li1
 have c21:=li2
 have C1:=Lib.hid c1
 have C2:=Lib.hid c2
 have C3:=Lib.hid c3
 have C4:=Lib.hid c4
 have C5:=Lib.hid c5
 have C6:=Lib.hid c6
 have C7:=Lib.hid c7
 have C8:=Lib.hid c8
 have C9:=Lib.hid c9
 have C10:=Lib.hid c10
 have C11:=Lib.hid c11
 have C12:=Lib.hid c12
 have C13:=Lib.hid c13
 have C14:=Lib.hid c14
 have C15:=Lib.hid c15
 have C16:=Lib.hid c16
 have C17:=Lib.hid c17
 have C18:=Lib.hid c18
 have C19:=Lib.hid c19
 have C20:=Lib.hid c20
 have C21:=Lib.hid c21
 clear c1 c2 c3 c4 c5 c6 c7 c8 c9 c10 c11 c12 c13 c14 c15 c16 c17 c18 c19 c20 c21 ck ca za cb zb ma mb nb0 na0 nb1 na1 nb2 na2 in1 in2 in3 in4 an it li1 li2
 have hb:=Below.refl w.heap.size w
 go_enter Tryz.func11,Tryz.ntmps11
 go_upto_region 1 with fail
 refine wp_alloc2 (fun w1 a0 a1 hk=>?_)
 replace hb:=hb.trans (hk.mono hb.size)
 clear hk
 obtain ⟨Ap,Aq,Ar,As⟩:=ce4 a0
 obtain ⟨At,Au,Av,Aw⟩:=ce4 a1
 go_upto_region 3 with ((first | (go_at_call 12;with_reducible refine (chVB hb R C1).mono ?_) | (go_at_call 29;first | with_reducible refine (chVB hb R C2).mono ?_ | with_reducible refine (chVB hb R C4).mono ?_) | (go_at_call 28;first | with_reducible refine (chVB hb R C3).mono ?_ | with_reducible refine (chVB hb R C5).mono ?_));clear hb;rintro e w1 ⟨rfl,hk,hb⟩;clear Ap Aq Ar As At Au Av Aw;replace a0:=zB hk a0;replace a1:=zB hk a1;obtain ⟨Ap,Aq,Ar,As⟩:=ce4 a0;obtain ⟨At,Au,Av,Aw⟩:=ce4 a1;clear hk)
 obtain ⟨Bk,Bl,Bm,Bn⟩:=cy4 a0
 obtain ⟨Bo,Bp,Bq,Br⟩:=cy4 a1
 have Bs:=rrV C6 R hb
 have Bt:=rrV C7 R hb
 have Bc:=qqV C6 R hb
 have Bd:=qqV C7 R hb
 refine wp_free2 4 0 (fun i=>if i=4 then Obj.cells #[Value.string ⟨#[]⟩,Value.string ⟨#[]⟩,Value.string ⟨#[]⟩] 24 else if i=5 then Obj.cells #[Value.string ⟨#[]⟩,Value.string ⟨#[]⟩,Value.string ⟨#[]⟩] 24 else Obj.cells #[] 0) (fun i=>if i=4 then Obj.cells #[Value.string s0,Value.string s1,Value.string s2] 24 else if i=5 then Obj.cells #[Value.string t0,Value.string t1,Value.string t2] 24 else Obj.cells #[] 0) (some 5) (some 6) (by first | assumption | kernel_rfl) (by kernel_rfl) ?lay rfl rfl ?_
 case lay =>
   intro i h1 h2
   obtain rfl | rfl:i=4∨i=5:=by omega
   all_goals exact ⟨_,rfl,rfl,fun a w=>(by first | (go_simp;done) | (go_simp;rfl))⟩
 simp only [List.take_succ_cons,List.take_zero]
 repeat (refine wpB_step (fun K hK=>?_);go_simp;first | (refine hK _ ?_;clear hK K) | (apply Exists.intro;refine ⟨fun _=>?_,hK _ ?_⟩;(first | (with_reducible exact Bc.out _ _) | (with_reducible exact Bd.out _ _));clear hK K))
 refine wpB_nil ?_
 intro Ak Al
 refine ⟨?_,?_,?_⟩
 · refine ⟨_,rfl,rfl,rfl,fun cs b h=>(by cases h),fun w hw=>?_⟩
   replace hw:w.heap[Ak]? = some (Obj.cells #[Value.string ⟨#[]⟩,Value.string ⟨#[]⟩,Value.string ⟨#[]⟩] 24):=hw
   have z0:w.cell? ⟨Ak,0,none⟩=some (Value.string ⟨#[]⟩):=zA hw
   have y0:w.frozen? ⟨Ak,0,none⟩=false:=zD hw
   have z1:w.cell? ⟨Ak,1,none⟩=some (Value.string ⟨#[]⟩):=zA hw
   have y1:w.frozen? ⟨Ak,1,none⟩=false:=zD hw
   have z2:w.cell? ⟨Ak,2,none⟩=some (Value.string ⟨#[]⟩):=zA hw
   have y2:w.frozen? ⟨Ak,2,none⟩=false:=zD hw
   refine ⟨_,?_,(Wrote.set (i:=2) (Wrote.set (i:=1) (Wrote.set (i:=0) (Wrote.refl hw) (Value.string s0)) (Value.string s1)) (Value.string s2))⟩
   go_simp
 · refine ⟨_,rfl,rfl,rfl,fun cs b h=>(by cases h),fun w hw=>?_⟩
   replace hw:w.heap[Al]? = some (Obj.cells #[Value.string ⟨#[]⟩,Value.string ⟨#[]⟩,Value.string ⟨#[]⟩] 24):=hw
   have z0:w.cell? ⟨Al,0,none⟩=some (Value.string ⟨#[]⟩):=zA hw
   have y0:w.frozen? ⟨Al,0,none⟩=false:=zD hw
   have z1:w.cell? ⟨Al,1,none⟩=some (Value.string ⟨#[]⟩):=zA hw
   have y1:w.frozen? ⟨Al,1,none⟩=false:=zD hw
   have z2:w.cell? ⟨Al,2,none⟩=some (Value.string ⟨#[]⟩):=zA hw
   have y2:w.frozen? ⟨Al,2,none⟩=false:=zD hw
   refine ⟨_,?_,(Wrote.set (i:=2) (Wrote.set (i:=1) (Wrote.set (i:=0) (Wrote.refl hw) (Value.string t0)) (Value.string t1)) (Value.string t2))⟩
   go_simp
 intro w1 hk m0 m1 Ab Aa _
 clear Ap Aq Ar As At Au Av Aw
 replace a0:=zB hk a0
 replace a1:=zB hk a1
 obtain ⟨Ap,Aq,Ar,As⟩:=ce4 a0
 obtain ⟨At,Au,Av,Aw⟩:=ce4 a1
 replace hb:=hb.trans (hk.mono hb.size)
 clear hk
 replace Ab:w1.heap[Ak]? = some (Obj.cells #[Value.string s0,Value.string s1,Value.string s2] 24):=Ab
 have Af:w1.cell? ⟨Ak,0,none⟩=some (Value.string s0):=zA Ab
 have Ag:w1.cell? ⟨Ak,1,none⟩=some (Value.string s1):=zA Ab
 have Ah:w1.cell? ⟨Ak,2,none⟩=some (Value.string s2):=zA Ab
 replace Aa:w1.heap[Al]? = some (Obj.cells #[Value.string t0,Value.string t1,Value.string t2] 24):=Aa
 have Ac:w1.cell? ⟨Al,0,none⟩=some (Value.string t0):=zA Aa
 have Ad:w1.cell? ⟨Al,1,none⟩=some (Value.string t1):=zA Aa
 have Ae:w1.cell? ⟨Al,2,none⟩=some (Value.string t2):=zA Aa
 clear Bc Bd Bs Bt Bk Bl Bm Bn Bo Bp Bq Br m0 m1
 go_upto_region 4 with fail
 clear Ap Aq Ar As a0 At Au Av Aw a1
 obtain ⟨A6,A7,A8⟩:=cy3 Ab
 obtain ⟨A9,Ba,Bb⟩:=cy3 Aa
 have Bu:=rrV C8 R hb
 have Bv:=rrV C9 R hb
 have Bw:=rrV C10 R hb
 have Be:=qqV C8 R hb
 have Bf:=qqV C9 R hb
 have Bg:=qqV C10 R hb
 refine wp_free1 10 0 (fun i=>if i=10 then Obj.cells #[Value.string ⟨#[]⟩,Value.string ⟨#[]⟩,Value.string ⟨#[]⟩] 24 else Obj.cells #[] 0) (fun i=>if i=10 then Obj.cells #[Value.string p0,Value.string p1,Value.string p2] 24 else Obj.cells #[] 0) (some 7) (by first | assumption | kernel_rfl) (by kernel_rfl) ?lay rfl ?_
 case lay =>
   intro i h1 h2
   obtain rfl:i=10:=by omega
   all_goals exact ⟨_,rfl,rfl,fun a w=>(by first | (go_simp;done) | (go_simp;rfl))⟩
 simp only [List.take_succ_cons,List.take_zero]
 repeat (refine wpB_step (fun K hK=>?_);go_simp;first | (refine hK _ ?_;clear hK K) | (apply Exists.intro;refine ⟨fun _=>?_,hK _ ?_⟩;(first | (with_reducible exact Be.out _ _) | (with_reducible exact Bf.out _ _) | (with_reducible exact Bg.out _ _));clear hK K))
 refine wpB_nil ?_
 intro Am
 refine ⟨?_,?_⟩
 · refine ⟨_,rfl,rfl,rfl,fun cs b h=>(by cases h),fun w hw=>?_⟩
   replace hw:w.heap[Am]? = some (Obj.cells #[Value.string ⟨#[]⟩,Value.string ⟨#[]⟩,Value.string ⟨#[]⟩] 24):=hw
   have z0:w.cell? ⟨Am,0,none⟩=some (Value.string ⟨#[]⟩):=zA hw
   have y0:w.frozen? ⟨Am,0,none⟩=false:=zD hw
   have z1:w.cell? ⟨Am,1,none⟩=some (Value.string ⟨#[]⟩):=zA hw
   have y1:w.frozen? ⟨Am,1,none⟩=false:=zD hw
   have z2:w.cell? ⟨Am,2,none⟩=some (Value.string ⟨#[]⟩):=zA hw
   have y2:w.frozen? ⟨Am,2,none⟩=false:=zD hw
   refine ⟨_,?_,(Wrote.set (i:=2) (Wrote.set (i:=1) (Wrote.set (i:=0) (Wrote.refl hw) (Value.string p0)) (Value.string p1)) (Value.string p2))⟩
   go_simp
 intro w1 hk m0 Ai
 clear Af Ag Ah Ac Ad Ae
 replace Ab:=zB hk Ab
 replace Aa:=zB hk Aa
 obtain ⟨Af,Ag,Ah⟩:=ce3 Ab
 obtain ⟨Ac,Ad,Ae⟩:=ce3 Aa
 replace hb:=hb.trans (hk.mono hb.size)
 clear hk
 replace Ai:w1.heap[Am]? = some (Obj.cells #[Value.string p0,Value.string p1,Value.string p2] 24):=Ai
 have Ax:w1.cell? ⟨Am,0,none⟩=some (Value.string p0):=zA Ai
 have Ay:w1.cell? ⟨Am,1,none⟩=some (Value.string p1):=zA Ai
 have Az:w1.cell? ⟨Am,2,none⟩=some (Value.string p2):=zA Ai
 clear Be Bf Bg Bu Bv Bw A6 A7 A8 A9 Ba Bb m0
 go_upto_region 5 with fail
 obtain ⟨A6,A7,A8⟩:=cy3 Ab
 obtain ⟨A9,Ba,Bb⟩:=cy3 Aa
 obtain ⟨Bx,By,Bz⟩:=cy3 Ai
 have B0:=rrV C11 R hb
 have B1:=rrV C12 R hb
 have B2:=rrV C13 R hb
 have Bh:=qqV C11 R hb
 have Bi:=qqV C12 R hb
 have Bj:=qqV C13 R hb
 refine wp_free1 10 0 (fun i=>if i=10 then Obj.cells #[Value.string ⟨#[]⟩,Value.string ⟨#[]⟩,Value.string ⟨#[]⟩] 24 else Obj.cells #[] 0) (fun i=>if i=10 then Obj.cells #[Value.string u0,Value.string u1,Value.string u2] 24 else Obj.cells #[] 0) (some 8) (by first | assumption | kernel_rfl) (by kernel_rfl) ?lay rfl ?_
 case lay =>
   intro i h1 h2
   obtain rfl:i=10:=by omega
   all_goals exact ⟨_,rfl,rfl,fun a w=>(by first | (go_simp;done) | (go_simp;rfl))⟩
 simp only [List.take_succ_cons,List.take_zero]
 repeat (refine wpB_step (fun K hK=>?_);go_simp;first | (refine hK _ ?_;clear hK K) | (apply Exists.intro;refine ⟨fun _=>?_,hK _ ?_⟩;(first | (with_reducible exact Bh.out _ _) | (with_reducible exact Bi.out _ _) | (with_reducible exact Bj.out _ _));clear hK K))
 refine wpB_nil ?_
 intro An
 refine ⟨?_,?_⟩
 · refine ⟨_,rfl,rfl,rfl,fun cs b h=>(by cases h),fun w hw=>?_⟩
   replace hw:w.heap[An]? = some (Obj.cells #[Value.string ⟨#[]⟩,Value.string ⟨#[]⟩,Value.string ⟨#[]⟩] 24):=hw
   have z0:w.cell? ⟨An,0,none⟩=some (Value.string ⟨#[]⟩):=zA hw
   have y0:w.frozen? ⟨An,0,none⟩=false:=zD hw
   have z1:w.cell? ⟨An,1,none⟩=some (Value.string ⟨#[]⟩):=zA hw
   have y1:w.frozen? ⟨An,1,none⟩=false:=zD hw
   have z2:w.cell? ⟨An,2,none⟩=some (Value.string ⟨#[]⟩):=zA hw
   have y2:w.frozen? ⟨An,2,none⟩=false:=zD hw
   refine ⟨_,?_,(Wrote.set (i:=2) (Wrote.set (i:=1) (Wrote.set (i:=0) (Wrote.refl hw) (Value.string u0)) (Value.string u1)) (Value.string u2))⟩
   go_simp
 intro w1 hk m0 Aj
 clear Af Ag Ah Ac Ad Ae Ax Ay Az
 replace Ab:=zB hk Ab
 replace Aa:=zB hk Aa
 replace Ai:=zB hk Ai
 obtain ⟨Af,Ag,Ah⟩:=ce3 Ab
 obtain ⟨Ac,Ad,Ae⟩:=ce3 Aa
 obtain ⟨Ax,Ay,Az⟩:=ce3 Ai
 replace hb:=hb.trans (hk.mono hb.size)
 clear hk
 replace Aj:w1.heap[An]? = some (Obj.cells #[Value.string u0,Value.string u1,Value.string u2] 24):=Aj
 have A0:w1.cell? ⟨An,0,none⟩=some (Value.string u0):=zA Aj
 have A1:w1.cell? ⟨An,1,none⟩=some (Value.string u1):=zA Aj
 have A2:w1.cell? ⟨An,2,none⟩=some (Value.string u2):=zA Aj
 clear Bh Bi Bj B0 B1 B2 A6 A7 A8 A9 Ba Bb Bx By Bz m0
 go_upto_region 16 with (first | ((go_at_call 24;first | with_reducible refine (chVB hb R C14).mono ?_ | with_reducible refine (chVB hb R C15).mono ?_ | with_reducible refine (chVB hb R C16).mono ?_ | with_reducible refine (chVB hb R C17).mono ?_);clear hb;rintro e w1 ⟨rfl,hk,hb⟩;clear Af Ag Ah Ac Ad Ae Ax Ay Az A0 A1 A2;replace Ab:=zB hk Ab;replace Aa:=zB hk Aa;replace Ai:=zB hk Ai;replace Aj:=zB hk Aj;obtain ⟨Af,Ag,Ah⟩:=ce3 Ab;obtain ⟨Ac,Ad,Ae⟩:=ce3 Aa;obtain ⟨Ax,Ay,Az⟩:=ce3 Ai;obtain ⟨A0,A1,A2⟩:=ce3 Aj;clear hk) | (go_at_call 19;with_reducible refine (chVB hb R C18).mono ?_;clear hb;rintro e w1 ⟨rfl,hk,hb⟩;clear Af Ag Ah Ac Ad Ae A0 A1 A2;replace Ab:=zB hk Ab;replace Aa:=zB hk Aa;replace Aj:=zB hk Aj;obtain ⟨Af,Ag,Ah⟩:=ce3 Ab;obtain ⟨Ac,Ad,Ae⟩:=ce3 Aa;obtain ⟨A0,A1,A2⟩:=ce3 Aj;clear hk) | (go_at_call 22;with_reducible refine (chVB hb R C19).mono ?_;clear hb;rintro e w1 ⟨rfl,hk,hb⟩;clear Af Ag Ah Ac Ad Ae;replace Ab:=zB hk Ab;replace Aa:=zB hk Aa;obtain ⟨Af,Ag,Ah⟩:=ce3 Ab;obtain ⟨Ac,Ad,Ae⟩:=ce3 Aa;clear hk))
 clear Ax Ay Az Ai A0 A1 A2 Aj
 refine wp_alloc1 (fun w1 Ao hk=>?_)
 clear Af Ag Ah Ac Ad Ae
 replace Ab:=zB hk Ab
 replace Aa:=zB hk Aa
 obtain ⟨Af,Ag,Ah⟩:=ce3 Ab
 obtain ⟨Ac,Ad,Ae⟩:=ce3 Aa
 replace hb:=hb.trans (hk.mono hb.size)
 clear hk
 obtain ⟨A3,A4,A5⟩:=ce3 Ao
 go_wp2_with (first | (go_at_call 21;with_reducible refine (chVB hb R C20).mono ?_;clear hb;rintro e w1 ⟨rfl,hk,hb⟩;clear A3 A4 A5 Af Ag Ah Ac Ad Ae;replace Ao:=zB hk Ao;replace Ab:=zB hk Ab;replace Aa:=zB hk Aa;obtain ⟨A3,A4,A5⟩:=ce3 Ao;obtain ⟨Af,Ag,Ah⟩:=ce3 Ab;obtain ⟨Ac,Ad,Ae⟩:=ce3 Aa;clear hk) | (go_at_call 21;with_reducible refine (chVB hb R C21).mono ?_;clear hb;rintro e w1 ⟨rfl,hk,hb⟩;clear A3 A4 A5 Ac Ad Ae;replace Ao:=zB hk Ao;replace Aa:=zB hk Aa;obtain ⟨A3,A4,A5⟩:=ce3 Ao;obtain ⟨Ac,Ad,Ae⟩:=ce3 Aa;clear hk))
 first | go_ret | go_ret2 | go_ret3
 exact ⟨rfl,hb⟩
theorem llimbs_14d  (i0 i1 i2 j0 j1 j2 X0 X1 X2 Y0 Y1 Y2:Int) (d e:Int) (s0 s1 s2 t0 t1 t2 p0 p1 p2 u0 u1 u2:ByteArray) (ck:CV 12 #[] (.bool true)) (ca:CV 29 #[.agg #[.int .i8 i0,.int .i8 i1,.int .i8 i2,.int .u8 d]] (.agg #[.int .i64 X0,.int .i64 X1,.int .i64 X2])) (za:CV 28 #[.agg #[.int .i64 X0,.int .i64 X1,.int .i64 X2]] (.bool false)) (cb:CV 29 #[.agg #[.int .i8 j0,.int .i8 j1,.int .i8 j2,.int .u8 e]] (.agg #[.int .i64 Y0,.int .i64 Y1,.int .i64 Y2])) (zb:CV 28 #[.agg #[.int .i64 Y0,.int .i64 Y1,.int .i64 Y2]] (.bool false)) (ma:CV 30 #[.agg #[.int .i8 i0,.int .i8 i1,.int .i8 i2,.int .u8 d]] (.agg #[.string s0,.string s1,.string s2])) (mb:CV 30 #[.agg #[.int .i8 j0,.int .i8 j1,.int .i8 j2,.int .u8 e]] (.agg #[.string t0,.string t1,.string t2])) (nb0:CV 39 #[.string t0] (.string p0)) (na0:CV 39 #[.string s0] (.string u0)) (nb1:CV 39 #[.string t1] (.string p1)) (na1:CV 39 #[.string s1] (.string u1)) (nb2:CV 39 #[.string t2] (.string p2)) (na2:CV 39 #[.string s2] (.string u2)) (in1:CV 24 #[.agg #[.string s0,.string s1,.string s2],.agg #[.string t0,.string t1,.string t2]] (.tuple #[.int .i64 1,.int .i64 0])) (in2:CV 24 #[.agg #[.string t0,.string t1,.string t2],.agg #[.string s0,.string s1,.string s2]] (.tuple #[.int .i64 1,.int .i64 0])) (in3:CV 24 #[.agg #[.string u0,.string u1,.string u2],.agg #[.string p0,.string p1,.string p2]] (.tuple #[.int .i64 1,.int .i64 0])) (in4:CV 24 #[.agg #[.string s0,.string s1,.string s2],.agg #[.string p0,.string p1,.string p2]] (.tuple #[.int .i64 4,.int .i64 0])) (an:CV 19 #[.agg #[.string s0,.string s1,.string s2],.agg #[.string u0,.string u1,.string u2]] (.tuple #[.string ⟨#[49]⟩,.int .i64 0])) (it:CV 22 #[.agg #[.string s0,.string s1,.string s2],.agg #[.string t0,.string t1,.string t2]] (.tuple #[.agg #[.string ⟨#[]⟩,.string ⟨#[]⟩,.string ⟨#[]⟩],.int .i64 18])) (sm:CV 16 #[.agg #[.string s0,.string s1,.string s2],.agg #[.string t0,.string t1,.string t2]] (.tuple #[.bool true,.int .i64 0])) (w:World) (R:EnvV w) :
   Calls Tryz.prog 11 #[.agg #[.int .i8 i0,.int .i8 i1,.int .i8 i2,.int .u8 d],.agg #[.int .i8 j0,.int .i8 j1,.int .i8 j2,.int .u8 e]] w (Ret w (.bool true)):=by
 have c1:=ck
 have c2:=ca
 have c3:=za
 have c4:=cb
 have c5:=zb
 have c6:=ma
 have c7:=mb
 have c8:=nb0
 have c9:=nb1
 have c10:=nb2
 have c11:=na0
 have c12:=na1
 have c13:=na2
 have c14:=in1
 have c15:=in2
 have c16:=in3
 have c17:=in4
 have c18:=an
 have c19:=it
 have c20:=sm
 have C1:=Lib.hid c1
 have C2:=Lib.hid c2
 have C3:=Lib.hid c3
 have C4:=Lib.hid c4
 have C5:=Lib.hid c5
 have C6:=Lib.hid c6
 have C7:=Lib.hid c7
 have C8:=Lib.hid c8
 have C9:=Lib.hid c9
 have C10:=Lib.hid c10
 have C11:=Lib.hid c11
 have C12:=Lib.hid c12
 have C13:=Lib.hid c13
 have C14:=Lib.hid c14
 have C15:=Lib.hid c15
 have C16:=Lib.hid c16
 have C17:=Lib.hid c17
 have C18:=Lib.hid c18
 have C19:=Lib.hid c19
 have C20:=Lib.hid c20
 clear c1 c2 c3 c4 c5 c6 c7 c8 c9 c10 c11 c12 c13 c14 c15 c16 c17 c18 c19 c20 ck ca za cb zb ma mb nb0 na0 nb1 na1 nb2 na2 in1 in2 in3 in4 an it sm
 have hb:=Below.refl w.heap.size w
 go_enter Tryz.func11,Tryz.ntmps11
 go_upto_region 1 with fail
 refine wp_alloc2 (fun w1 a0 a1 hk=>?_)
 replace hb:=hb.trans (hk.mono hb.size)
 clear hk
 obtain ⟨Ao,Ap,Aq,Ar⟩:=ce4 a0
 obtain ⟨As,At,Au,Av⟩:=ce4 a1
 go_upto_region 3 with ((first | (go_at_call 12;with_reducible refine (chVB hb R C1).mono ?_) | (go_at_call 29;first | with_reducible refine (chVB hb R C2).mono ?_ | with_reducible refine (chVB hb R C4).mono ?_) | (go_at_call 28;first | with_reducible refine (chVB hb R C3).mono ?_ | with_reducible refine (chVB hb R C5).mono ?_));clear hb;rintro e w1 ⟨rfl,hk,hb⟩;clear Ao Ap Aq Ar As At Au Av;replace a0:=zB hk a0;replace a1:=zB hk a1;obtain ⟨Ao,Ap,Aq,Ar⟩:=ce4 a0;obtain ⟨As,At,Au,Av⟩:=ce4 a1;clear hk)
 obtain ⟨Bk,Bl,Bm,Bn⟩:=cy4 a0
 obtain ⟨Bo,Bp,Bq,Br⟩:=cy4 a1
 have Bs:=rrV C6 R hb
 have Bt:=rrV C7 R hb
 have A9:=qqV C6 R hb
 have Ba:=qqV C7 R hb
 refine wp_free2 4 0 (fun i=>if i=4 then Obj.cells #[Value.string ⟨#[]⟩,Value.string ⟨#[]⟩,Value.string ⟨#[]⟩] 24 else if i=5 then Obj.cells #[Value.string ⟨#[]⟩,Value.string ⟨#[]⟩,Value.string ⟨#[]⟩] 24 else Obj.cells #[] 0) (fun i=>if i=4 then Obj.cells #[Value.string s0,Value.string s1,Value.string s2] 24 else if i=5 then Obj.cells #[Value.string t0,Value.string t1,Value.string t2] 24 else Obj.cells #[] 0) (some 5) (some 6) (by first | assumption | kernel_rfl) (by kernel_rfl) ?lay rfl rfl ?_
 case lay =>
   intro i h1 h2
   obtain rfl | rfl:i=4∨i=5:=by omega
   all_goals exact ⟨_,rfl,rfl,fun a w=>(by first | (go_simp;done) | (go_simp;rfl))⟩
 simp only [List.take_succ_cons,List.take_zero]
 repeat (refine wpB_step (fun K hK=>?_);go_simp;first | (refine hK _ ?_;clear hK K) | (apply Exists.intro;refine ⟨fun _=>?_,hK _ ?_⟩;(first | (with_reducible exact A9.out _ _) | (with_reducible exact Ba.out _ _));clear hK K))
 refine wpB_nil ?_
 intro Ak Al
 refine ⟨?_,?_,?_⟩
 · refine ⟨_,rfl,rfl,rfl,fun cs b h=>(by cases h),fun w hw=>?_⟩
   replace hw:w.heap[Ak]? = some (Obj.cells #[Value.string ⟨#[]⟩,Value.string ⟨#[]⟩,Value.string ⟨#[]⟩] 24):=hw
   have z0:w.cell? ⟨Ak,0,none⟩=some (Value.string ⟨#[]⟩):=zA hw
   have y0:w.frozen? ⟨Ak,0,none⟩=false:=zD hw
   have z1:w.cell? ⟨Ak,1,none⟩=some (Value.string ⟨#[]⟩):=zA hw
   have y1:w.frozen? ⟨Ak,1,none⟩=false:=zD hw
   have z2:w.cell? ⟨Ak,2,none⟩=some (Value.string ⟨#[]⟩):=zA hw
   have y2:w.frozen? ⟨Ak,2,none⟩=false:=zD hw
   refine ⟨_,?_,(Wrote.set (i:=2) (Wrote.set (i:=1) (Wrote.set (i:=0) (Wrote.refl hw) (Value.string s0)) (Value.string s1)) (Value.string s2))⟩
   go_simp
 · refine ⟨_,rfl,rfl,rfl,fun cs b h=>(by cases h),fun w hw=>?_⟩
   replace hw:w.heap[Al]? = some (Obj.cells #[Value.string ⟨#[]⟩,Value.string ⟨#[]⟩,Value.string ⟨#[]⟩] 24):=hw
   have z0:w.cell? ⟨Al,0,none⟩=some (Value.string ⟨#[]⟩):=zA hw
   have y0:w.frozen? ⟨Al,0,none⟩=false:=zD hw
   have z1:w.cell? ⟨Al,1,none⟩=some (Value.string ⟨#[]⟩):=zA hw
   have y1:w.frozen? ⟨Al,1,none⟩=false:=zD hw
   have z2:w.cell? ⟨Al,2,none⟩=some (Value.string ⟨#[]⟩):=zA hw
   have y2:w.frozen? ⟨Al,2,none⟩=false:=zD hw
   refine ⟨_,?_,(Wrote.set (i:=2) (Wrote.set (i:=1) (Wrote.set (i:=0) (Wrote.refl hw) (Value.string t0)) (Value.string t1)) (Value.string t2))⟩
   go_simp
 intro w1 hk m0 m1 Aa Ab _
 clear Ao Ap Aq Ar As At Au Av
 replace a0:=zB hk a0
 replace a1:=zB hk a1
 obtain ⟨Ao,Ap,Aq,Ar⟩:=ce4 a0
 obtain ⟨As,At,Au,Av⟩:=ce4 a1
 replace hb:=hb.trans (hk.mono hb.size)
 clear hk
 replace Aa:w1.heap[Ak]? = some (Obj.cells #[Value.string s0,Value.string s1,Value.string s2] 24):=Aa
 have Ac:w1.cell? ⟨Ak,0,none⟩=some (Value.string s0):=zA Aa
 have Ad:w1.cell? ⟨Ak,1,none⟩=some (Value.string s1):=zA Aa
 have Ae:w1.cell? ⟨Ak,2,none⟩=some (Value.string s2):=zA Aa
 replace Ab:w1.heap[Al]? = some (Obj.cells #[Value.string t0,Value.string t1,Value.string t2] 24):=Ab
 have Af:w1.cell? ⟨Al,0,none⟩=some (Value.string t0):=zA Ab
 have Ag:w1.cell? ⟨Al,1,none⟩=some (Value.string t1):=zA Ab
 have Ah:w1.cell? ⟨Al,2,none⟩=some (Value.string t2):=zA Ab
 clear A9 Ba Bs Bt Bk Bl Bm Bn Bo Bp Bq Br m0 m1
 go_upto_region 4 with fail
 clear Ao Ap Aq Ar a0 As At Au Av a1
 obtain ⟨A3,A4,A5⟩:=cy3 Aa
 obtain ⟨A6,A7,A8⟩:=cy3 Ab
 have Bu:=rrV C8 R hb
 have Bv:=rrV C9 R hb
 have Bw:=rrV C10 R hb
 have Bb:=qqV C8 R hb
 have Bc:=qqV C9 R hb
 have Bd:=qqV C10 R hb
 refine wp_free1 10 0 (fun i=>if i=10 then Obj.cells #[Value.string ⟨#[]⟩,Value.string ⟨#[]⟩,Value.string ⟨#[]⟩] 24 else Obj.cells #[] 0) (fun i=>if i=10 then Obj.cells #[Value.string p0,Value.string p1,Value.string p2] 24 else Obj.cells #[] 0) (some 7) (by first | assumption | kernel_rfl) (by kernel_rfl) ?lay rfl ?_
 case lay =>
   intro i h1 h2
   obtain rfl:i=10:=by omega
   all_goals exact ⟨_,rfl,rfl,fun a w=>(by first | (go_simp;done) | (go_simp;rfl))⟩
 simp only [List.take_succ_cons,List.take_zero]
 repeat (refine wpB_step (fun K hK=>?_);go_simp;first | (refine hK _ ?_;clear hK K) | (apply Exists.intro;refine ⟨fun _=>?_,hK _ ?_⟩;(first | (with_reducible exact Bb.out _ _) | (with_reducible exact Bc.out _ _) | (with_reducible exact Bd.out _ _));clear hK K))
 refine wpB_nil ?_
 intro Am
 refine ⟨?_,?_⟩
 · refine ⟨_,rfl,rfl,rfl,fun cs b h=>(by cases h),fun w hw=>?_⟩
   replace hw:w.heap[Am]? = some (Obj.cells #[Value.string ⟨#[]⟩,Value.string ⟨#[]⟩,Value.string ⟨#[]⟩] 24):=hw
   have z0:w.cell? ⟨Am,0,none⟩=some (Value.string ⟨#[]⟩):=zA hw
   have y0:w.frozen? ⟨Am,0,none⟩=false:=zD hw
   have z1:w.cell? ⟨Am,1,none⟩=some (Value.string ⟨#[]⟩):=zA hw
   have y1:w.frozen? ⟨Am,1,none⟩=false:=zD hw
   have z2:w.cell? ⟨Am,2,none⟩=some (Value.string ⟨#[]⟩):=zA hw
   have y2:w.frozen? ⟨Am,2,none⟩=false:=zD hw
   refine ⟨_,?_,(Wrote.set (i:=2) (Wrote.set (i:=1) (Wrote.set (i:=0) (Wrote.refl hw) (Value.string p0)) (Value.string p1)) (Value.string p2))⟩
   go_simp
 intro w1 hk m0 Ai
 clear Ac Ad Ae Af Ag Ah
 replace Aa:=zB hk Aa
 replace Ab:=zB hk Ab
 obtain ⟨Ac,Ad,Ae⟩:=ce3 Aa
 obtain ⟨Af,Ag,Ah⟩:=ce3 Ab
 replace hb:=hb.trans (hk.mono hb.size)
 clear hk
 replace Ai:w1.heap[Am]? = some (Obj.cells #[Value.string p0,Value.string p1,Value.string p2] 24):=Ai
 have Aw:w1.cell? ⟨Am,0,none⟩=some (Value.string p0):=zA Ai
 have Ax:w1.cell? ⟨Am,1,none⟩=some (Value.string p1):=zA Ai
 have Ay:w1.cell? ⟨Am,2,none⟩=some (Value.string p2):=zA Ai
 clear Bb Bc Bd Bu Bv Bw A3 A4 A5 A6 A7 A8 m0
 go_upto_region 5 with fail
 obtain ⟨A3,A4,A5⟩:=cy3 Aa
 obtain ⟨A6,A7,A8⟩:=cy3 Ab
 obtain ⟨Bx,By,Bz⟩:=cy3 Ai
 have B0:=rrV C11 R hb
 have B1:=rrV C12 R hb
 have B2:=rrV C13 R hb
 have Be:=qqV C11 R hb
 have Bf:=qqV C12 R hb
 have Bg:=qqV C13 R hb
 refine wp_free1 10 0 (fun i=>if i=10 then Obj.cells #[Value.string ⟨#[]⟩,Value.string ⟨#[]⟩,Value.string ⟨#[]⟩] 24 else Obj.cells #[] 0) (fun i=>if i=10 then Obj.cells #[Value.string u0,Value.string u1,Value.string u2] 24 else Obj.cells #[] 0) (some 8) (by first | assumption | kernel_rfl) (by kernel_rfl) ?lay rfl ?_
 case lay =>
   intro i h1 h2
   obtain rfl:i=10:=by omega
   all_goals exact ⟨_,rfl,rfl,fun a w=>(by first | (go_simp;done) | (go_simp;rfl))⟩
 simp only [List.take_succ_cons,List.take_zero]
 repeat (refine wpB_step (fun K hK=>?_);go_simp;first | (refine hK _ ?_;clear hK K) | (apply Exists.intro;refine ⟨fun _=>?_,hK _ ?_⟩;(first | (with_reducible exact Be.out _ _) | (with_reducible exact Bf.out _ _) | (with_reducible exact Bg.out _ _));clear hK K))
 refine wpB_nil ?_
 intro An
 refine ⟨?_,?_⟩
 · refine ⟨_,rfl,rfl,rfl,fun cs b h=>(by cases h),fun w hw=>?_⟩
   replace hw:w.heap[An]? = some (Obj.cells #[Value.string ⟨#[]⟩,Value.string ⟨#[]⟩,Value.string ⟨#[]⟩] 24):=hw
   have z0:w.cell? ⟨An,0,none⟩=some (Value.string ⟨#[]⟩):=zA hw
   have y0:w.frozen? ⟨An,0,none⟩=false:=zD hw
   have z1:w.cell? ⟨An,1,none⟩=some (Value.string ⟨#[]⟩):=zA hw
   have y1:w.frozen? ⟨An,1,none⟩=false:=zD hw
   have z2:w.cell? ⟨An,2,none⟩=some (Value.string ⟨#[]⟩):=zA hw
   have y2:w.frozen? ⟨An,2,none⟩=false:=zD hw
   refine ⟨_,?_,(Wrote.set (i:=2) (Wrote.set (i:=1) (Wrote.set (i:=0) (Wrote.refl hw) (Value.string u0)) (Value.string u1)) (Value.string u2))⟩
   go_simp
 intro w1 hk m0 Aj
 clear Ac Ad Ae Af Ag Ah Aw Ax Ay
 replace Aa:=zB hk Aa
 replace Ab:=zB hk Ab
 replace Ai:=zB hk Ai
 obtain ⟨Ac,Ad,Ae⟩:=ce3 Aa
 obtain ⟨Af,Ag,Ah⟩:=ce3 Ab
 obtain ⟨Aw,Ax,Ay⟩:=ce3 Ai
 replace hb:=hb.trans (hk.mono hb.size)
 clear hk
 replace Aj:w1.heap[An]? = some (Obj.cells #[Value.string u0,Value.string u1,Value.string u2] 24):=Aj
 have Az:w1.cell? ⟨An,0,none⟩=some (Value.string u0):=zA Aj
 have A0:w1.cell? ⟨An,1,none⟩=some (Value.string u1):=zA Aj
 have A1:w1.cell? ⟨An,2,none⟩=some (Value.string u2):=zA Aj
 clear Be Bf Bg B0 B1 B2 A3 A4 A5 A6 A7 A8 Bx By Bz m0
 go_upto_region 16 with (first | ((go_at_call 24;first | with_reducible refine (chVB hb R C14).mono ?_ | with_reducible refine (chVB hb R C15).mono ?_ | with_reducible refine (chVB hb R C16).mono ?_ | with_reducible refine (chVB hb R C17).mono ?_);clear hb;rintro e w1 ⟨rfl,hk,hb⟩;clear Ac Ad Ae Af Ag Ah Aw Ax Ay Az A0 A1;replace Aa:=zB hk Aa;replace Ab:=zB hk Ab;replace Ai:=zB hk Ai;replace Aj:=zB hk Aj;obtain ⟨Ac,Ad,Ae⟩:=ce3 Aa;obtain ⟨Af,Ag,Ah⟩:=ce3 Ab;obtain ⟨Aw,Ax,Ay⟩:=ce3 Ai;obtain ⟨Az,A0,A1⟩:=ce3 Aj;clear hk) | (go_at_call 19;with_reducible refine (chVB hb R C18).mono ?_;clear hb;rintro e w1 ⟨rfl,hk,hb⟩;clear Ac Ad Ae Af Ag Ah Az A0 A1;replace Aa:=zB hk Aa;replace Ab:=zB hk Ab;replace Aj:=zB hk Aj;obtain ⟨Ac,Ad,Ae⟩:=ce3 Aa;obtain ⟨Af,Ag,Ah⟩:=ce3 Ab;obtain ⟨Az,A0,A1⟩:=ce3 Aj;clear hk) | (go_at_call 22;with_reducible refine (chVB hb R C19).mono ?_;clear hb;rintro e w1 ⟨rfl,hk,hb⟩;clear Ac Ad Ae Af Ag Ah;replace Aa:=zB hk Aa;replace Ab:=zB hk Ab;obtain ⟨Ac,Ad,Ae⟩:=ce3 Aa;obtain ⟨Af,Ag,Ah⟩:=ce3 Ab;clear hk))
 clear Aw Ax Ay Ai Az A0 A1 Aj
 refine wp_alloc1 (fun w1 A2 hk=>?_)
 clear Ac Ad Ae Af Ag Ah
 replace Aa:=zB hk Aa
 replace Ab:=zB hk Ab
 obtain ⟨Ac,Ad,Ae⟩:=ce3 Aa
 obtain ⟨Af,Ag,Ah⟩:=ce3 Ab
 replace hb:=hb.trans (hk.mono hb.size)
 clear hk
 obtain ⟨Bh,Bi,Bj⟩:=ce3 A2
 go_wp2_with (go_at_call 16;with_reducible refine (chVB hb R C20).mono ?_;clear hb;rintro e w1 ⟨rfl,hk,hb⟩;clear Bh Bi Bj Ac Ad Ae Af Ag Ah;replace A2:=zB hk A2;replace Aa:=zB hk Aa;replace Ab:=zB hk Ab;obtain ⟨Bh,Bi,Bj⟩:=ce3 A2;obtain ⟨Ac,Ad,Ae⟩:=ce3 Aa;obtain ⟨Af,Ag,Ah⟩:=ce3 Ab;clear hk)
 first | go_ret | go_ret2 | go_ret3
 exact ⟨rfl,hb⟩
theorem llimbs_15m  (i0 i1 i2 j0 j1 j2 X0 X1 X2 Y0 Y1 Y2:Int) (d e:Int) (s0 s1 s2 t0 t1 t2 p0 p1 p2 u0 u1 u2 v0 v1 v2:ByteArray) (ck:CV 12 #[] (.bool true)) (ca:CV 29 #[.agg #[.int .i8 i0,.int .i8 i1,.int .i8 i2,.int .u8 d]] (.agg #[.int .i64 X0,.int .i64 X1,.int .i64 X2])) (za:CV 28 #[.agg #[.int .i64 X0,.int .i64 X1,.int .i64 X2]] (.bool false)) (cb:CV 29 #[.agg #[.int .i8 j0,.int .i8 j1,.int .i8 j2,.int .u8 e]] (.agg #[.int .i64 Y0,.int .i64 Y1,.int .i64 Y2])) (zb:CV 28 #[.agg #[.int .i64 Y0,.int .i64 Y1,.int .i64 Y2]] (.bool false)) (ma:CV 30 #[.agg #[.int .i8 i0,.int .i8 i1,.int .i8 i2,.int .u8 d]] (.agg #[.string s0,.string s1,.string s2])) (mb:CV 30 #[.agg #[.int .i8 j0,.int .i8 j1,.int .i8 j2,.int .u8 e]] (.agg #[.string t0,.string t1,.string t2])) (nb0:CV 39 #[.string t0] (.string p0)) (na0:CV 39 #[.string s0] (.string u0)) (nb1:CV 39 #[.string t1] (.string p1)) (na1:CV 39 #[.string s1] (.string u1)) (nb2:CV 39 #[.string t2] (.string p2)) (na2:CV 39 #[.string s2] (.string u2)) (in1:CV 24 #[.agg #[.string s0,.string s1,.string s2],.agg #[.string t0,.string t1,.string t2]] (.tuple #[.int .i64 1,.int .i64 0])) (in2:CV 24 #[.agg #[.string t0,.string t1,.string t2],.agg #[.string s0,.string s1,.string s2]] (.tuple #[.int .i64 1,.int .i64 0])) (in3:CV 24 #[.agg #[.string u0,.string u1,.string u2],.agg #[.string p0,.string p1,.string p2]] (.tuple #[.int .i64 1,.int .i64 0])) (in4:CV 24 #[.agg #[.string s0,.string s1,.string s2],.agg #[.string p0,.string p1,.string p2]] (.tuple #[.int .i64 5,.int .i64 0])) (an:CV 19 #[.agg #[.string s0,.string s1,.string s2],.agg #[.string u0,.string u1,.string u2]] (.tuple #[.string ⟨#[49]⟩,.int .i64 0])) (it:CV 22 #[.agg #[.string s0,.string s1,.string s2],.agg #[.string t0,.string t1,.string t2]] (.tuple #[.agg #[.string v0,.string v1,.string v2],.int .i64 0])) (li1:CV 21 #[.agg #[.string s0,.string s1,.string s2],.agg #[.string v0,.string v1,.string v2]] (.tuple #[.bool true,.int .i64 0])) (li2:CV 21 #[.agg #[.string t0,.string t1,.string t2],.agg #[.string v0,.string v1,.string v2]] (.tuple #[.bool true,.int .i64 0])) (w:World) (R:EnvV w) :
   Calls Tryz.prog 11 #[.agg #[.int .i8 i0,.int .i8 i1,.int .i8 i2,.int .u8 d],.agg #[.int .i8 j0,.int .i8 j1,.int .i8 j2,.int .u8 e]] w (Ret w (.bool true)):=by
 have c1:=ck
 have c2:=ca
 have c3:=za
 have c4:=cb
 have c5:=zb
 have c6:=ma
 have c7:=mb
 have c8:=nb0
 have c9:=nb1
 have c10:=nb2
 have c11:=na0
 have c12:=na1
 have c13:=na2
 have c14:=in1
 have c15:=in2
 have c16:=in3
 have c17:=in4
 have c18:=an
 have c19:=it
 have c20:=li1
 have c21:=li2
 have C1:=Lib.hid c1
 have C2:=Lib.hid c2
 have C3:=Lib.hid c3
 have C4:=Lib.hid c4
 have C5:=Lib.hid c5
 have C6:=Lib.hid c6
 have C7:=Lib.hid c7
 have C8:=Lib.hid c8
 have C9:=Lib.hid c9
 have C10:=Lib.hid c10
 have C11:=Lib.hid c11
 have C12:=Lib.hid c12
 have C13:=Lib.hid c13
 have C14:=Lib.hid c14
 have C15:=Lib.hid c15
 have C16:=Lib.hid c16
 have C17:=Lib.hid c17
 have C18:=Lib.hid c18
 have C19:=Lib.hid c19
 have C20:=Lib.hid c20
 have C21:=Lib.hid c21
 clear c1 c2 c3 c4 c5 c6 c7 c8 c9 c10 c11 c12 c13 c14 c15 c16 c17 c18 c19 c20 c21 ck ca za cb zb ma mb nb0 na0 nb1 na1 nb2 na2 in1 in2 in3 in4 an it li1 li2
 have hb:=Below.refl w.heap.size w
 go_enter Tryz.func11,Tryz.ntmps11
 go_upto_region 1 with fail
 refine wp_alloc2 (fun w1 a0 a1 hk=>?_)
 replace hb:=hb.trans (hk.mono hb.size)
 clear hk
 obtain ⟨Ap,Aq,Ar,As⟩:=ce4 a0
 obtain ⟨At,Au,Av,Aw⟩:=ce4 a1
 go_upto_region 3 with ((first | (go_at_call 12;with_reducible refine (chVB hb R C1).mono ?_) | (go_at_call 29;first | with_reducible refine (chVB hb R C2).mono ?_ | with_reducible refine (chVB hb R C4).mono ?_) | (go_at_call 28;first | with_reducible refine (chVB hb R C3).mono ?_ | with_reducible refine (chVB hb R C5).mono ?_));clear hb;rintro e w1 ⟨rfl,hk,hb⟩;clear Ap Aq Ar As At Au Av Aw;replace a0:=zB hk a0;replace a1:=zB hk a1;obtain ⟨Ap,Aq,Ar,As⟩:=ce4 a0;obtain ⟨At,Au,Av,Aw⟩:=ce4 a1;clear hk)
 obtain ⟨Bk,Bl,Bm,Bn⟩:=cy4 a0
 obtain ⟨Bo,Bp,Bq,Br⟩:=cy4 a1
 have Bs:=rrV C6 R hb
 have Bt:=rrV C7 R hb
 have Bc:=qqV C6 R hb
 have Bd:=qqV C7 R hb
 refine wp_free2 4 0 (fun i=>if i=4 then Obj.cells #[Value.string ⟨#[]⟩,Value.string ⟨#[]⟩,Value.string ⟨#[]⟩] 24 else if i=5 then Obj.cells #[Value.string ⟨#[]⟩,Value.string ⟨#[]⟩,Value.string ⟨#[]⟩] 24 else Obj.cells #[] 0) (fun i=>if i=4 then Obj.cells #[Value.string s0,Value.string s1,Value.string s2] 24 else if i=5 then Obj.cells #[Value.string t0,Value.string t1,Value.string t2] 24 else Obj.cells #[] 0) (some 5) (some 6) (by first | assumption | kernel_rfl) (by kernel_rfl) ?lay rfl rfl ?_
 case lay =>
   intro i h1 h2
   obtain rfl | rfl:i=4∨i=5:=by omega
   all_goals exact ⟨_,rfl,rfl,fun a w=>(by first | (go_simp;done) | (go_simp;rfl))⟩
 simp only [List.take_succ_cons,List.take_zero]
 repeat (refine wpB_step (fun K hK=>?_);go_simp;first | (refine hK _ ?_;clear hK K) | (apply Exists.intro;refine ⟨fun _=>?_,hK _ ?_⟩;(first | (with_reducible exact Bc.out _ _) | (with_reducible exact Bd.out _ _));clear hK K))
 refine wpB_nil ?_
 intro Ak Al
 refine ⟨?_,?_,?_⟩
 · refine ⟨_,rfl,rfl,rfl,fun cs b h=>(by cases h),fun w hw=>?_⟩
   replace hw:w.heap[Ak]? = some (Obj.cells #[Value.string ⟨#[]⟩,Value.string ⟨#[]⟩,Value.string ⟨#[]⟩] 24):=hw
   have z0:w.cell? ⟨Ak,0,none⟩=some (Value.string ⟨#[]⟩):=zA hw
   have y0:w.frozen? ⟨Ak,0,none⟩=false:=zD hw
   have z1:w.cell? ⟨Ak,1,none⟩=some (Value.string ⟨#[]⟩):=zA hw
   have y1:w.frozen? ⟨Ak,1,none⟩=false:=zD hw
   have z2:w.cell? ⟨Ak,2,none⟩=some (Value.string ⟨#[]⟩):=zA hw
   have y2:w.frozen? ⟨Ak,2,none⟩=false:=zD hw
   refine ⟨_,?_,(Wrote.set (i:=2) (Wrote.set (i:=1) (Wrote.set (i:=0) (Wrote.refl hw) (Value.string s0)) (Value.string s1)) (Value.string s2))⟩
   go_simp
 · refine ⟨_,rfl,rfl,rfl,fun cs b h=>(by cases h),fun w hw=>?_⟩
   replace hw:w.heap[Al]? = some (Obj.cells #[Value.string ⟨#[]⟩,Value.string ⟨#[]⟩,Value.string ⟨#[]⟩] 24):=hw
   have z0:w.cell? ⟨Al,0,none⟩=some (Value.string ⟨#[]⟩):=zA hw
   have y0:w.frozen? ⟨Al,0,none⟩=false:=zD hw
   have z1:w.cell? ⟨Al,1,none⟩=some (Value.string ⟨#[]⟩):=zA hw
   have y1:w.frozen? ⟨Al,1,none⟩=false:=zD hw
   have z2:w.cell? ⟨Al,2,none⟩=some (Value.string ⟨#[]⟩):=zA hw
   have y2:w.frozen? ⟨Al,2,none⟩=false:=zD hw
   refine ⟨_,?_,(Wrote.set (i:=2) (Wrote.set (i:=1) (Wrote.set (i:=0) (Wrote.refl hw) (Value.string t0)) (Value.string t1)) (Value.string t2))⟩
   go_simp
 intro w1 hk m0 m1 Ab Aa _
 clear Ap Aq Ar As At Au Av Aw
 replace a0:=zB hk a0
 replace a1:=zB hk a1
 obtain ⟨Ap,Aq,Ar,As⟩:=ce4 a0
 obtain ⟨At,Au,Av,Aw⟩:=ce4 a1
 replace hb:=hb.trans (hk.mono hb.size)
 clear hk
 replace Ab:w1.heap[Ak]? = some (Obj.cells #[Value.string s0,Value.string s1,Value.string s2] 24):=Ab
 have Af:w1.cell? ⟨Ak,0,none⟩=some (Value.string s0):=zA Ab
 have Ag:w1.cell? ⟨Ak,1,none⟩=some (Value.string s1):=zA Ab
 have Ah:w1.cell? ⟨Ak,2,none⟩=some (Value.string s2):=zA Ab
 replace Aa:w1.heap[Al]? = some (Obj.cells #[Value.string t0,Value.string t1,Value.string t2] 24):=Aa
 have Ac:w1.cell? ⟨Al,0,none⟩=some (Value.string t0):=zA Aa
 have Ad:w1.cell? ⟨Al,1,none⟩=some (Value.string t1):=zA Aa
 have Ae:w1.cell? ⟨Al,2,none⟩=some (Value.string t2):=zA Aa
 clear Bc Bd Bs Bt Bk Bl Bm Bn Bo Bp Bq Br m0 m1
 go_upto_region 4 with fail
 clear Ap Aq Ar As a0 At Au Av Aw a1
 obtain ⟨A6,A7,A8⟩:=cy3 Ab
 obtain ⟨A9,Ba,Bb⟩:=cy3 Aa
 have Bu:=rrV C8 R hb
 have Bv:=rrV C9 R hb
 have Bw:=rrV C10 R hb
 have Be:=qqV C8 R hb
 have Bf:=qqV C9 R hb
 have Bg:=qqV C10 R hb
 refine wp_free1 10 0 (fun i=>if i=10 then Obj.cells #[Value.string ⟨#[]⟩,Value.string ⟨#[]⟩,Value.string ⟨#[]⟩] 24 else Obj.cells #[] 0) (fun i=>if i=10 then Obj.cells #[Value.string p0,Value.string p1,Value.string p2] 24 else Obj.cells #[] 0) (some 7) (by first | assumption | kernel_rfl) (by kernel_rfl) ?lay rfl ?_
 case lay =>
   intro i h1 h2
   obtain rfl:i=10:=by omega
   all_goals exact ⟨_,rfl,rfl,fun a w=>(by first | (go_simp;done) | (go_simp;rfl))⟩
 simp only [List.take_succ_cons,List.take_zero]
 repeat (refine wpB_step (fun K hK=>?_);go_simp;first | (refine hK _ ?_;clear hK K) | (apply Exists.intro;refine ⟨fun _=>?_,hK _ ?_⟩;(first | (with_reducible exact Be.out _ _) | (with_reducible exact Bf.out _ _) | (with_reducible exact Bg.out _ _));clear hK K))
 refine wpB_nil ?_
 intro Am
 refine ⟨?_,?_⟩
 · refine ⟨_,rfl,rfl,rfl,fun cs b h=>(by cases h),fun w hw=>?_⟩
   replace hw:w.heap[Am]? = some (Obj.cells #[Value.string ⟨#[]⟩,Value.string ⟨#[]⟩,Value.string ⟨#[]⟩] 24):=hw
   have z0:w.cell? ⟨Am,0,none⟩=some (Value.string ⟨#[]⟩):=zA hw
   have y0:w.frozen? ⟨Am,0,none⟩=false:=zD hw
   have z1:w.cell? ⟨Am,1,none⟩=some (Value.string ⟨#[]⟩):=zA hw
   have y1:w.frozen? ⟨Am,1,none⟩=false:=zD hw
   have z2:w.cell? ⟨Am,2,none⟩=some (Value.string ⟨#[]⟩):=zA hw
   have y2:w.frozen? ⟨Am,2,none⟩=false:=zD hw
   refine ⟨_,?_,(Wrote.set (i:=2) (Wrote.set (i:=1) (Wrote.set (i:=0) (Wrote.refl hw) (Value.string p0)) (Value.string p1)) (Value.string p2))⟩
   go_simp
 intro w1 hk m0 Ai
 clear Af Ag Ah Ac Ad Ae
 replace Ab:=zB hk Ab
 replace Aa:=zB hk Aa
 obtain ⟨Af,Ag,Ah⟩:=ce3 Ab
 obtain ⟨Ac,Ad,Ae⟩:=ce3 Aa
 replace hb:=hb.trans (hk.mono hb.size)
 clear hk
 replace Ai:w1.heap[Am]? = some (Obj.cells #[Value.string p0,Value.string p1,Value.string p2] 24):=Ai
 have Ax:w1.cell? ⟨Am,0,none⟩=some (Value.string p0):=zA Ai
 have Ay:w1.cell? ⟨Am,1,none⟩=some (Value.string p1):=zA Ai
 have Az:w1.cell? ⟨Am,2,none⟩=some (Value.string p2):=zA Ai
 clear Be Bf Bg Bu Bv Bw A6 A7 A8 A9 Ba Bb m0
 go_upto_region 5 with fail
 obtain ⟨A6,A7,A8⟩:=cy3 Ab
 obtain ⟨A9,Ba,Bb⟩:=cy3 Aa
 obtain ⟨Bx,By,Bz⟩:=cy3 Ai
 have B0:=rrV C11 R hb
 have B1:=rrV C12 R hb
 have B2:=rrV C13 R hb
 have Bh:=qqV C11 R hb
 have Bi:=qqV C12 R hb
 have Bj:=qqV C13 R hb
 refine wp_free1 10 0 (fun i=>if i=10 then Obj.cells #[Value.string ⟨#[]⟩,Value.string ⟨#[]⟩,Value.string ⟨#[]⟩] 24 else Obj.cells #[] 0) (fun i=>if i=10 then Obj.cells #[Value.string u0,Value.string u1,Value.string u2] 24 else Obj.cells #[] 0) (some 8) (by first | assumption | kernel_rfl) (by kernel_rfl) ?lay rfl ?_
 case lay =>
   intro i h1 h2
   obtain rfl:i=10:=by omega
   all_goals exact ⟨_,rfl,rfl,fun a w=>(by first | (go_simp;done) | (go_simp;rfl))⟩
 simp only [List.take_succ_cons,List.take_zero]
 repeat (refine wpB_step (fun K hK=>?_);go_simp;first | (refine hK _ ?_;clear hK K) | (apply Exists.intro;refine ⟨fun _=>?_,hK _ ?_⟩;(first | (with_reducible exact Bh.out _ _) | (with_reducible exact Bi.out _ _) | (with_reducible exact Bj.out _ _));clear hK K))
 refine wpB_nil ?_
 intro An
 refine ⟨?_,?_⟩
 · refine ⟨_,rfl,rfl,rfl,fun cs b h=>(by cases h),fun w hw=>?_⟩
   replace hw:w.heap[An]? = some (Obj.cells #[Value.string ⟨#[]⟩,Value.string ⟨#[]⟩,Value.string ⟨#[]⟩] 24):=hw
   have z0:w.cell? ⟨An,0,none⟩=some (Value.string ⟨#[]⟩):=zA hw
   have y0:w.frozen? ⟨An,0,none⟩=false:=zD hw
   have z1:w.cell? ⟨An,1,none⟩=some (Value.string ⟨#[]⟩):=zA hw
   have y1:w.frozen? ⟨An,1,none⟩=false:=zD hw
   have z2:w.cell? ⟨An,2,none⟩=some (Value.string ⟨#[]⟩):=zA hw
   have y2:w.frozen? ⟨An,2,none⟩=false:=zD hw
   refine ⟨_,?_,(Wrote.set (i:=2) (Wrote.set (i:=1) (Wrote.set (i:=0) (Wrote.refl hw) (Value.string u0)) (Value.string u1)) (Value.string u2))⟩
   go_simp
 intro w1 hk m0 Aj
 clear Af Ag Ah Ac Ad Ae Ax Ay Az
 replace Ab:=zB hk Ab
 replace Aa:=zB hk Aa
 replace Ai:=zB hk Ai
 obtain ⟨Af,Ag,Ah⟩:=ce3 Ab
 obtain ⟨Ac,Ad,Ae⟩:=ce3 Aa
 obtain ⟨Ax,Ay,Az⟩:=ce3 Ai
 replace hb:=hb.trans (hk.mono hb.size)
 clear hk
 replace Aj:w1.heap[An]? = some (Obj.cells #[Value.string u0,Value.string u1,Value.string u2] 24):=Aj
 have A0:w1.cell? ⟨An,0,none⟩=some (Value.string u0):=zA Aj
 have A1:w1.cell? ⟨An,1,none⟩=some (Value.string u1):=zA Aj
 have A2:w1.cell? ⟨An,2,none⟩=some (Value.string u2):=zA Aj
 clear Bh Bi Bj B0 B1 B2 A6 A7 A8 A9 Ba Bb Bx By Bz m0
 go_upto_region 16 with (first | ((go_at_call 24;first | with_reducible refine (chVB hb R C14).mono ?_ | with_reducible refine (chVB hb R C15).mono ?_ | with_reducible refine (chVB hb R C16).mono ?_ | with_reducible refine (chVB hb R C17).mono ?_);clear hb;rintro e w1 ⟨rfl,hk,hb⟩;clear Af Ag Ah Ac Ad Ae Ax Ay Az A0 A1 A2;replace Ab:=zB hk Ab;replace Aa:=zB hk Aa;replace Ai:=zB hk Ai;replace Aj:=zB hk Aj;obtain ⟨Af,Ag,Ah⟩:=ce3 Ab;obtain ⟨Ac,Ad,Ae⟩:=ce3 Aa;obtain ⟨Ax,Ay,Az⟩:=ce3 Ai;obtain ⟨A0,A1,A2⟩:=ce3 Aj;clear hk) | (go_at_call 19;with_reducible refine (chVB hb R C18).mono ?_;clear hb;rintro e w1 ⟨rfl,hk,hb⟩;clear Af Ag Ah Ac Ad Ae A0 A1 A2;replace Ab:=zB hk Ab;replace Aa:=zB hk Aa;replace Aj:=zB hk Aj;obtain ⟨Af,Ag,Ah⟩:=ce3 Ab;obtain ⟨Ac,Ad,Ae⟩:=ce3 Aa;obtain ⟨A0,A1,A2⟩:=ce3 Aj;clear hk) | (go_at_call 22;with_reducible refine (chVB hb R C19).mono ?_;clear hb;rintro e w1 ⟨rfl,hk,hb⟩;clear Af Ag Ah Ac Ad Ae;replace Ab:=zB hk Ab;replace Aa:=zB hk Aa;obtain ⟨Af,Ag,Ah⟩:=ce3 Ab;obtain ⟨Ac,Ad,Ae⟩:=ce3 Aa;clear hk))
 clear Ax Ay Az Ai A0 A1 A2 Aj
 refine wp_alloc1 (fun w1 Ao hk=>?_)
 clear Af Ag Ah Ac Ad Ae
 replace Ab:=zB hk Ab
 replace Aa:=zB hk Aa
 obtain ⟨Af,Ag,Ah⟩:=ce3 Ab
 obtain ⟨Ac,Ad,Ae⟩:=ce3 Aa
 replace hb:=hb.trans (hk.mono hb.size)
 clear hk
 obtain ⟨A3,A4,A5⟩:=ce3 Ao
 go_wp2_with (first | (go_at_call 21;with_reducible refine (chVB hb R C20).mono ?_;clear hb;rintro e w1 ⟨rfl,hk,hb⟩;clear A3 A4 A5 Af Ag Ah Ac Ad Ae;replace Ao:=zB hk Ao;replace Ab:=zB hk Ab;replace Aa:=zB hk Aa;obtain ⟨A3,A4,A5⟩:=ce3 Ao;obtain ⟨Af,Ag,Ah⟩:=ce3 Ab;obtain ⟨Ac,Ad,Ae⟩:=ce3 Aa;clear hk) | (go_at_call 21;with_reducible refine (chVB hb R C21).mono ?_;clear hb;rintro e w1 ⟨rfl,hk,hb⟩;clear A3 A4 A5 Ac Ad Ae;replace Ao:=zB hk Ao;replace Aa:=zB hk Aa;obtain ⟨A3,A4,A5⟩:=ce3 Ao;obtain ⟨Ac,Ad,Ae⟩:=ce3 Aa;clear hk))
 first | go_ret | go_ret2 | go_ret3
 exact ⟨rfl,hb⟩
theorem llimbs_15d  (i0 i1 i2 j0 j1 j2 X0 X1 X2 Y0 Y1 Y2:Int) (d e:Int) (s0 s1 s2 t0 t1 t2 p0 p1 p2 u0 u1 u2:ByteArray) (ck:CV 12 #[] (.bool true)) (ca:CV 29 #[.agg #[.int .i8 i0,.int .i8 i1,.int .i8 i2,.int .u8 d]] (.agg #[.int .i64 X0,.int .i64 X1,.int .i64 X2])) (za:CV 28 #[.agg #[.int .i64 X0,.int .i64 X1,.int .i64 X2]] (.bool false)) (cb:CV 29 #[.agg #[.int .i8 j0,.int .i8 j1,.int .i8 j2,.int .u8 e]] (.agg #[.int .i64 Y0,.int .i64 Y1,.int .i64 Y2])) (zb:CV 28 #[.agg #[.int .i64 Y0,.int .i64 Y1,.int .i64 Y2]] (.bool false)) (ma:CV 30 #[.agg #[.int .i8 i0,.int .i8 i1,.int .i8 i2,.int .u8 d]] (.agg #[.string s0,.string s1,.string s2])) (mb:CV 30 #[.agg #[.int .i8 j0,.int .i8 j1,.int .i8 j2,.int .u8 e]] (.agg #[.string t0,.string t1,.string t2])) (nb0:CV 39 #[.string t0] (.string p0)) (na0:CV 39 #[.string s0] (.string u0)) (nb1:CV 39 #[.string t1] (.string p1)) (na1:CV 39 #[.string s1] (.string u1)) (nb2:CV 39 #[.string t2] (.string p2)) (na2:CV 39 #[.string s2] (.string u2)) (in1:CV 24 #[.agg #[.string s0,.string s1,.string s2],.agg #[.string t0,.string t1,.string t2]] (.tuple #[.int .i64 1,.int .i64 0])) (in2:CV 24 #[.agg #[.string t0,.string t1,.string t2],.agg #[.string s0,.string s1,.string s2]] (.tuple #[.int .i64 1,.int .i64 0])) (in3:CV 24 #[.agg #[.string u0,.string u1,.string u2],.agg #[.string p0,.string p1,.string p2]] (.tuple #[.int .i64 1,.int .i64 0])) (in4:CV 24 #[.agg #[.string s0,.string s1,.string s2],.agg #[.string p0,.string p1,.string p2]] (.tuple #[.int .i64 5,.int .i64 0])) (an:CV 19 #[.agg #[.string s0,.string s1,.string s2],.agg #[.string u0,.string u1,.string u2]] (.tuple #[.string ⟨#[49]⟩,.int .i64 0])) (it:CV 22 #[.agg #[.string s0,.string s1,.string s2],.agg #[.string t0,.string t1,.string t2]] (.tuple #[.agg #[.string ⟨#[]⟩,.string ⟨#[]⟩,.string ⟨#[]⟩],.int .i64 18])) (sm:CV 16 #[.agg #[.string s0,.string s1,.string s2],.agg #[.string t0,.string t1,.string t2]] (.tuple #[.bool true,.int .i64 0])) (w:World) (R:EnvV w) :
   Calls Tryz.prog 11 #[.agg #[.int .i8 i0,.int .i8 i1,.int .i8 i2,.int .u8 d],.agg #[.int .i8 j0,.int .i8 j1,.int .i8 j2,.int .u8 e]] w (Ret w (.bool true)):=by
 have c1:=ck
 have c2:=ca
 have c3:=za
 have c4:=cb
 have c5:=zb
 have c6:=ma
 have c7:=mb
 have c8:=nb0
 have c9:=nb1
 have c10:=nb2
 have c11:=na0
 have c12:=na1
 have c13:=na2
 have c14:=in1
 have c15:=in2
 have c16:=in3
 have c17:=in4
 have c18:=an
 have c19:=it
 have c20:=sm
 have C1:=Lib.hid c1
 have C2:=Lib.hid c2
 have C3:=Lib.hid c3
 have C4:=Lib.hid c4
 have C5:=Lib.hid c5
 have C6:=Lib.hid c6
 have C7:=Lib.hid c7
 have C8:=Lib.hid c8
 have C9:=Lib.hid c9
 have C10:=Lib.hid c10
 have C11:=Lib.hid c11
 have C12:=Lib.hid c12
 have C13:=Lib.hid c13
 have C14:=Lib.hid c14
 have C15:=Lib.hid c15
 have C16:=Lib.hid c16
 have C17:=Lib.hid c17
 have C18:=Lib.hid c18
 have C19:=Lib.hid c19
 have C20:=Lib.hid c20
 clear c1 c2 c3 c4 c5 c6 c7 c8 c9 c10 c11 c12 c13 c14 c15 c16 c17 c18 c19 c20 ck ca za cb zb ma mb nb0 na0 nb1 na1 nb2 na2 in1 in2 in3 in4 an it sm
 have hb:=Below.refl w.heap.size w
 go_enter Tryz.func11,Tryz.ntmps11
 go_upto_region 1 with fail
 refine wp_alloc2 (fun w1 a0 a1 hk=>?_)
 replace hb:=hb.trans (hk.mono hb.size)
 clear hk
 obtain ⟨Ao,Ap,Aq,Ar⟩:=ce4 a0
 obtain ⟨As,At,Au,Av⟩:=ce4 a1
 go_upto_region 3 with ((first | (go_at_call 12;with_reducible refine (chVB hb R C1).mono ?_) | (go_at_call 29;first | with_reducible refine (chVB hb R C2).mono ?_ | with_reducible refine (chVB hb R C4).mono ?_) | (go_at_call 28;first | with_reducible refine (chVB hb R C3).mono ?_ | with_reducible refine (chVB hb R C5).mono ?_));clear hb;rintro e w1 ⟨rfl,hk,hb⟩;clear Ao Ap Aq Ar As At Au Av;replace a0:=zB hk a0;replace a1:=zB hk a1;obtain ⟨Ao,Ap,Aq,Ar⟩:=ce4 a0;obtain ⟨As,At,Au,Av⟩:=ce4 a1;clear hk)
 obtain ⟨Bk,Bl,Bm,Bn⟩:=cy4 a0
 obtain ⟨Bo,Bp,Bq,Br⟩:=cy4 a1
 have Bs:=rrV C6 R hb
 have Bt:=rrV C7 R hb
 have A9:=qqV C6 R hb
 have Ba:=qqV C7 R hb
 refine wp_free2 4 0 (fun i=>if i=4 then Obj.cells #[Value.string ⟨#[]⟩,Value.string ⟨#[]⟩,Value.string ⟨#[]⟩] 24 else if i=5 then Obj.cells #[Value.string ⟨#[]⟩,Value.string ⟨#[]⟩,Value.string ⟨#[]⟩] 24 else Obj.cells #[] 0) (fun i=>if i=4 then Obj.cells #[Value.string s0,Value.string s1,Value.string s2] 24 else if i=5 then Obj.cells #[Value.string t0,Value.string t1,Value.string t2] 24 else Obj.cells #[] 0) (some 5) (some 6) (by first | assumption | kernel_rfl) (by kernel_rfl) ?lay rfl rfl ?_
 case lay =>
   intro i h1 h2
   obtain rfl | rfl:i=4∨i=5:=by omega
   all_goals exact ⟨_,rfl,rfl,fun a w=>(by first | (go_simp;done) | (go_simp;rfl))⟩
 simp only [List.take_succ_cons,List.take_zero]
 repeat (refine wpB_step (fun K hK=>?_);go_simp;first | (refine hK _ ?_;clear hK K) | (apply Exists.intro;refine ⟨fun _=>?_,hK _ ?_⟩;(first | (with_reducible exact A9.out _ _) | (with_reducible exact Ba.out _ _));clear hK K))
 refine wpB_nil ?_
 intro Ak Al
 refine ⟨?_,?_,?_⟩
 · refine ⟨_,rfl,rfl,rfl,fun cs b h=>(by cases h),fun w hw=>?_⟩
   replace hw:w.heap[Ak]? = some (Obj.cells #[Value.string ⟨#[]⟩,Value.string ⟨#[]⟩,Value.string ⟨#[]⟩] 24):=hw
   have z0:w.cell? ⟨Ak,0,none⟩=some (Value.string ⟨#[]⟩):=zA hw
   have y0:w.frozen? ⟨Ak,0,none⟩=false:=zD hw
   have z1:w.cell? ⟨Ak,1,none⟩=some (Value.string ⟨#[]⟩):=zA hw
   have y1:w.frozen? ⟨Ak,1,none⟩=false:=zD hw
   have z2:w.cell? ⟨Ak,2,none⟩=some (Value.string ⟨#[]⟩):=zA hw
   have y2:w.frozen? ⟨Ak,2,none⟩=false:=zD hw
   refine ⟨_,?_,(Wrote.set (i:=2) (Wrote.set (i:=1) (Wrote.set (i:=0) (Wrote.refl hw) (Value.string s0)) (Value.string s1)) (Value.string s2))⟩
   go_simp
 · refine ⟨_,rfl,rfl,rfl,fun cs b h=>(by cases h),fun w hw=>?_⟩
   replace hw:w.heap[Al]? = some (Obj.cells #[Value.string ⟨#[]⟩,Value.string ⟨#[]⟩,Value.string ⟨#[]⟩] 24):=hw
   have z0:w.cell? ⟨Al,0,none⟩=some (Value.string ⟨#[]⟩):=zA hw
   have y0:w.frozen? ⟨Al,0,none⟩=false:=zD hw
   have z1:w.cell? ⟨Al,1,none⟩=some (Value.string ⟨#[]⟩):=zA hw
   have y1:w.frozen? ⟨Al,1,none⟩=false:=zD hw
   have z2:w.cell? ⟨Al,2,none⟩=some (Value.string ⟨#[]⟩):=zA hw
   have y2:w.frozen? ⟨Al,2,none⟩=false:=zD hw
   refine ⟨_,?_,(Wrote.set (i:=2) (Wrote.set (i:=1) (Wrote.set (i:=0) (Wrote.refl hw) (Value.string t0)) (Value.string t1)) (Value.string t2))⟩
   go_simp
 intro w1 hk m0 m1 Aa Ab _
 clear Ao Ap Aq Ar As At Au Av
 replace a0:=zB hk a0
 replace a1:=zB hk a1
 obtain ⟨Ao,Ap,Aq,Ar⟩:=ce4 a0
 obtain ⟨As,At,Au,Av⟩:=ce4 a1
 replace hb:=hb.trans (hk.mono hb.size)
 clear hk
 replace Aa:w1.heap[Ak]? = some (Obj.cells #[Value.string s0,Value.string s1,Value.string s2] 24):=Aa
 have Ac:w1.cell? ⟨Ak,0,none⟩=some (Value.string s0):=zA Aa
 have Ad:w1.cell? ⟨Ak,1,none⟩=some (Value.string s1):=zA Aa
 have Ae:w1.cell? ⟨Ak,2,none⟩=some (Value.string s2):=zA Aa
 replace Ab:w1.heap[Al]? = some (Obj.cells #[Value.string t0,Value.string t1,Value.string t2] 24):=Ab
 have Af:w1.cell? ⟨Al,0,none⟩=some (Value.string t0):=zA Ab
 have Ag:w1.cell? ⟨Al,1,none⟩=some (Value.string t1):=zA Ab
 have Ah:w1.cell? ⟨Al,2,none⟩=some (Value.string t2):=zA Ab
 clear A9 Ba Bs Bt Bk Bl Bm Bn Bo Bp Bq Br m0 m1
 go_upto_region 4 with fail
 clear Ao Ap Aq Ar a0 As At Au Av a1
 obtain ⟨A3,A4,A5⟩:=cy3 Aa
 obtain ⟨A6,A7,A8⟩:=cy3 Ab
 have Bu:=rrV C8 R hb
 have Bv:=rrV C9 R hb
 have Bw:=rrV C10 R hb
 have Bb:=qqV C8 R hb
 have Bc:=qqV C9 R hb
 have Bd:=qqV C10 R hb
 refine wp_free1 10 0 (fun i=>if i=10 then Obj.cells #[Value.string ⟨#[]⟩,Value.string ⟨#[]⟩,Value.string ⟨#[]⟩] 24 else Obj.cells #[] 0) (fun i=>if i=10 then Obj.cells #[Value.string p0,Value.string p1,Value.string p2] 24 else Obj.cells #[] 0) (some 7) (by first | assumption | kernel_rfl) (by kernel_rfl) ?lay rfl ?_
 case lay =>
   intro i h1 h2
   obtain rfl:i=10:=by omega
   all_goals exact ⟨_,rfl,rfl,fun a w=>(by first | (go_simp;done) | (go_simp;rfl))⟩
 simp only [List.take_succ_cons,List.take_zero]
 repeat (refine wpB_step (fun K hK=>?_);go_simp;first | (refine hK _ ?_;clear hK K) | (apply Exists.intro;refine ⟨fun _=>?_,hK _ ?_⟩;(first | (with_reducible exact Bb.out _ _) | (with_reducible exact Bc.out _ _) | (with_reducible exact Bd.out _ _));clear hK K))
 refine wpB_nil ?_
 intro Am
 refine ⟨?_,?_⟩
 · refine ⟨_,rfl,rfl,rfl,fun cs b h=>(by cases h),fun w hw=>?_⟩
   replace hw:w.heap[Am]? = some (Obj.cells #[Value.string ⟨#[]⟩,Value.string ⟨#[]⟩,Value.string ⟨#[]⟩] 24):=hw
   have z0:w.cell? ⟨Am,0,none⟩=some (Value.string ⟨#[]⟩):=zA hw
   have y0:w.frozen? ⟨Am,0,none⟩=false:=zD hw
   have z1:w.cell? ⟨Am,1,none⟩=some (Value.string ⟨#[]⟩):=zA hw
   have y1:w.frozen? ⟨Am,1,none⟩=false:=zD hw
   have z2:w.cell? ⟨Am,2,none⟩=some (Value.string ⟨#[]⟩):=zA hw
   have y2:w.frozen? ⟨Am,2,none⟩=false:=zD hw
   refine ⟨_,?_,(Wrote.set (i:=2) (Wrote.set (i:=1) (Wrote.set (i:=0) (Wrote.refl hw) (Value.string p0)) (Value.string p1)) (Value.string p2))⟩
   go_simp
 intro w1 hk m0 Ai
 clear Ac Ad Ae Af Ag Ah
 replace Aa:=zB hk Aa
 replace Ab:=zB hk Ab
 obtain ⟨Ac,Ad,Ae⟩:=ce3 Aa
 obtain ⟨Af,Ag,Ah⟩:=ce3 Ab
 replace hb:=hb.trans (hk.mono hb.size)
 clear hk
 replace Ai:w1.heap[Am]? = some (Obj.cells #[Value.string p0,Value.string p1,Value.string p2] 24):=Ai
 have Aw:w1.cell? ⟨Am,0,none⟩=some (Value.string p0):=zA Ai
 have Ax:w1.cell? ⟨Am,1,none⟩=some (Value.string p1):=zA Ai
 have Ay:w1.cell? ⟨Am,2,none⟩=some (Value.string p2):=zA Ai
 clear Bb Bc Bd Bu Bv Bw A3 A4 A5 A6 A7 A8 m0
 go_upto_region 5 with fail
 obtain ⟨A3,A4,A5⟩:=cy3 Aa
 obtain ⟨A6,A7,A8⟩:=cy3 Ab
 obtain ⟨Bx,By,Bz⟩:=cy3 Ai
 have B0:=rrV C11 R hb
 have B1:=rrV C12 R hb
 have B2:=rrV C13 R hb
 have Be:=qqV C11 R hb
 have Bf:=qqV C12 R hb
 have Bg:=qqV C13 R hb
 refine wp_free1 10 0 (fun i=>if i=10 then Obj.cells #[Value.string ⟨#[]⟩,Value.string ⟨#[]⟩,Value.string ⟨#[]⟩] 24 else Obj.cells #[] 0) (fun i=>if i=10 then Obj.cells #[Value.string u0,Value.string u1,Value.string u2] 24 else Obj.cells #[] 0) (some 8) (by first | assumption | kernel_rfl) (by kernel_rfl) ?lay rfl ?_
 case lay =>
   intro i h1 h2
   obtain rfl:i=10:=by omega
   all_goals exact ⟨_,rfl,rfl,fun a w=>(by first | (go_simp;done) | (go_simp;rfl))⟩
 simp only [List.take_succ_cons,List.take_zero]
 repeat (refine wpB_step (fun K hK=>?_);go_simp;first | (refine hK _ ?_;clear hK K) | (apply Exists.intro;refine ⟨fun _=>?_,hK _ ?_⟩;(first | (with_reducible exact Be.out _ _) | (with_reducible exact Bf.out _ _) | (with_reducible exact Bg.out _ _));clear hK K))
 refine wpB_nil ?_
 intro An
 refine ⟨?_,?_⟩
 · refine ⟨_,rfl,rfl,rfl,fun cs b h=>(by cases h),fun w hw=>?_⟩
   replace hw:w.heap[An]? = some (Obj.cells #[Value.string ⟨#[]⟩,Value.string ⟨#[]⟩,Value.string ⟨#[]⟩] 24):=hw
   have z0:w.cell? ⟨An,0,none⟩=some (Value.string ⟨#[]⟩):=zA hw
   have y0:w.frozen? ⟨An,0,none⟩=false:=zD hw
   have z1:w.cell? ⟨An,1,none⟩=some (Value.string ⟨#[]⟩):=zA hw
   have y1:w.frozen? ⟨An,1,none⟩=false:=zD hw
   have z2:w.cell? ⟨An,2,none⟩=some (Value.string ⟨#[]⟩):=zA hw
   have y2:w.frozen? ⟨An,2,none⟩=false:=zD hw
   refine ⟨_,?_,(Wrote.set (i:=2) (Wrote.set (i:=1) (Wrote.set (i:=0) (Wrote.refl hw) (Value.string u0)) (Value.string u1)) (Value.string u2))⟩
   go_simp
 intro w1 hk m0 Aj
 clear Ac Ad Ae Af Ag Ah Aw Ax Ay
 replace Aa:=zB hk Aa
 replace Ab:=zB hk Ab
 replace Ai:=zB hk Ai
 obtain ⟨Ac,Ad,Ae⟩:=ce3 Aa
 obtain ⟨Af,Ag,Ah⟩:=ce3 Ab
 obtain ⟨Aw,Ax,Ay⟩:=ce3 Ai
 replace hb:=hb.trans (hk.mono hb.size)
 clear hk
 replace Aj:w1.heap[An]? = some (Obj.cells #[Value.string u0,Value.string u1,Value.string u2] 24):=Aj
 have Az:w1.cell? ⟨An,0,none⟩=some (Value.string u0):=zA Aj
 have A0:w1.cell? ⟨An,1,none⟩=some (Value.string u1):=zA Aj
 have A1:w1.cell? ⟨An,2,none⟩=some (Value.string u2):=zA Aj
 clear Be Bf Bg B0 B1 B2 A3 A4 A5 A6 A7 A8 Bx By Bz m0
 go_upto_region 16 with (first | ((go_at_call 24;first | with_reducible refine (chVB hb R C14).mono ?_ | with_reducible refine (chVB hb R C15).mono ?_ | with_reducible refine (chVB hb R C16).mono ?_ | with_reducible refine (chVB hb R C17).mono ?_);clear hb;rintro e w1 ⟨rfl,hk,hb⟩;clear Ac Ad Ae Af Ag Ah Aw Ax Ay Az A0 A1;replace Aa:=zB hk Aa;replace Ab:=zB hk Ab;replace Ai:=zB hk Ai;replace Aj:=zB hk Aj;obtain ⟨Ac,Ad,Ae⟩:=ce3 Aa;obtain ⟨Af,Ag,Ah⟩:=ce3 Ab;obtain ⟨Aw,Ax,Ay⟩:=ce3 Ai;obtain ⟨Az,A0,A1⟩:=ce3 Aj;clear hk) | (go_at_call 19;with_reducible refine (chVB hb R C18).mono ?_;clear hb;rintro e w1 ⟨rfl,hk,hb⟩;clear Ac Ad Ae Af Ag Ah Az A0 A1;replace Aa:=zB hk Aa;replace Ab:=zB hk Ab;replace Aj:=zB hk Aj;obtain ⟨Ac,Ad,Ae⟩:=ce3 Aa;obtain ⟨Af,Ag,Ah⟩:=ce3 Ab;obtain ⟨Az,A0,A1⟩:=ce3 Aj;clear hk) | (go_at_call 22;with_reducible refine (chVB hb R C19).mono ?_;clear hb;rintro e w1 ⟨rfl,hk,hb⟩;clear Ac Ad Ae Af Ag Ah;replace Aa:=zB hk Aa;replace Ab:=zB hk Ab;obtain ⟨Ac,Ad,Ae⟩:=ce3 Aa;obtain ⟨Af,Ag,Ah⟩:=ce3 Ab;clear hk))
 clear Aw Ax Ay Ai Az A0 A1 Aj
 refine wp_alloc1 (fun w1 A2 hk=>?_)
 clear Ac Ad Ae Af Ag Ah
 replace Aa:=zB hk Aa
 replace Ab:=zB hk Ab
 obtain ⟨Ac,Ad,Ae⟩:=ce3 Aa
 obtain ⟨Af,Ag,Ah⟩:=ce3 Ab
 replace hb:=hb.trans (hk.mono hb.size)
 clear hk
 obtain ⟨Bh,Bi,Bj⟩:=ce3 A2
 go_wp2_with (go_at_call 16;with_reducible refine (chVB hb R C20).mono ?_;clear hb;rintro e w1 ⟨rfl,hk,hb⟩;clear Bh Bi Bj Ac Ad Ae Af Ag Ah;replace A2:=zB hk A2;replace Aa:=zB hk Aa;replace Ab:=zB hk Ab;obtain ⟨Bh,Bi,Bj⟩:=ce3 A2;obtain ⟨Ac,Ad,Ae⟩:=ce3 Aa;obtain ⟨Af,Ag,Ah⟩:=ce3 Ab;clear hk)
 first | go_ret | go_ret2 | go_ret3
 exact ⟨rfl,hb⟩
theorem llimbs_51m  (i0 i1 i2 j0 j1 j2 X0 X1 X2 Y0 Y1 Y2:Int) (d e:Int) (s0 s1 s2 t0 t1 t2 p0 p1 p2 u0 u1 u2 v0 v1 v2:ByteArray) (ck:CV 12 #[] (.bool true)) (ca:CV 29 #[.agg #[.int .i8 i0,.int .i8 i1,.int .i8 i2,.int .u8 d]] (.agg #[.int .i64 X0,.int .i64 X1,.int .i64 X2])) (za:CV 28 #[.agg #[.int .i64 X0,.int .i64 X1,.int .i64 X2]] (.bool false)) (cb:CV 29 #[.agg #[.int .i8 j0,.int .i8 j1,.int .i8 j2,.int .u8 e]] (.agg #[.int .i64 Y0,.int .i64 Y1,.int .i64 Y2])) (zb:CV 28 #[.agg #[.int .i64 Y0,.int .i64 Y1,.int .i64 Y2]] (.bool false)) (ma:CV 30 #[.agg #[.int .i8 i0,.int .i8 i1,.int .i8 i2,.int .u8 d]] (.agg #[.string s0,.string s1,.string s2])) (mb:CV 30 #[.agg #[.int .i8 j0,.int .i8 j1,.int .i8 j2,.int .u8 e]] (.agg #[.string t0,.string t1,.string t2])) (nb0:CV 39 #[.string t0] (.string p0)) (na0:CV 39 #[.string s0] (.string u0)) (nb1:CV 39 #[.string t1] (.string p1)) (na1:CV 39 #[.string s1] (.string u1)) (nb2:CV 39 #[.string t2] (.string p2)) (na2:CV 39 #[.string s2] (.string u2)) (in1:CV 24 #[.agg #[.string s0,.string s1,.string s2],.agg #[.string t0,.string t1,.string t2]] (.tuple #[.int .i64 5,.int .i64 0])) (in2:CV 24 #[.agg #[.string t0,.string t1,.string t2],.agg #[.string s0,.string s1,.string s2]] (.tuple #[.int .i64 5,.int .i64 0])) (in3:CV 24 #[.agg #[.string u0,.string u1,.string u2],.agg #[.string p0,.string p1,.string p2]] (.tuple #[.int .i64 5,.int .i64 0])) (in4:CV 24 #[.agg #[.string s0,.string s1,.string s2],.agg #[.string p0,.string p1,.string p2]] (.tuple #[.int .i64 1,.int .i64 0])) (an:CV 19 #[.agg #[.string s0,.string s1,.string s2],.agg #[.string u0,.string u1,.string u2]] (.tuple #[.string ⟨#[49]⟩,.int .i64 0])) (it:CV 22 #[.agg #[.string s0,.string s1,.string s2],.agg #[.string t0,.string t1,.string t2]] (.tuple #[.agg #[.string v0,.string v1,.string v2],.int .i64 0])) (li1:CV 21 #[.agg #[.string s0,.string s1,.string s2],.agg #[.string v0,.string v1,.string v2]] (.tuple #[.bool true,.int .i64 0])) (li2:CV 21 #[.agg #[.string t0,.string t1,.string t2],.agg #[.string v0,.string v1,.string v2]] (.tuple #[.bool true,.int .i64 0])) (w:World) (R:EnvV w) :
   Calls Tryz.prog 11 #[.agg #[.int .i8 i0,.int .i8 i1,.int .i8 i2,.int .u8 d],.agg #[.int .i8 j0,.int .i8 j1,.int .i8 j2,.int .u8 e]] w (Ret w (.bool true)):=by
 have c1:=ck
 have c2:=ca
 have c3:=za
 have c4:=cb
 have c5:=zb
 have c6:=ma
 have c7:=mb
 have c8:=nb0
 have c9:=nb1
 have c10:=nb2
 have c11:=na0
 have c12:=na1
 have c13:=na2
 have c14:=in1
 have c15:=in2
 have c16:=in3
 have c17:=in4
 have c18:=an
 have c19:=it
 have c20:=li1
 have c21:=li2
 have C1:=Lib.hid c1
 have C2:=Lib.hid c2
 have C3:=Lib.hid c3
 have C4:=Lib.hid c4
 have C5:=Lib.hid c5
 have C6:=Lib.hid c6
 have C7:=Lib.hid c7
 have C8:=Lib.hid c8
 have C9:=Lib.hid c9
 have C10:=Lib.hid c10
 have C11:=Lib.hid c11
 have C12:=Lib.hid c12
 have C13:=Lib.hid c13
 have C14:=Lib.hid c14
 have C15:=Lib.hid c15
 have C16:=Lib.hid c16
 have C17:=Lib.hid c17
 have C18:=Lib.hid c18
 have C19:=Lib.hid c19
 have C20:=Lib.hid c20
 have C21:=Lib.hid c21
 clear c1 c2 c3 c4 c5 c6 c7 c8 c9 c10 c11 c12 c13 c14 c15 c16 c17 c18 c19 c20 c21 ck ca za cb zb ma mb nb0 na0 nb1 na1 nb2 na2 in1 in2 in3 in4 an it li1 li2
 have hb:=Below.refl w.heap.size w
 go_enter Tryz.func11,Tryz.ntmps11
 go_upto_region 1 with fail
 refine wp_alloc2 (fun w1 a0 a1 hk=>?_)
 replace hb:=hb.trans (hk.mono hb.size)
 clear hk
 obtain ⟨Ap,Aq,Ar,As⟩:=ce4 a0
 obtain ⟨At,Au,Av,Aw⟩:=ce4 a1
 go_upto_region 3 with ((first | (go_at_call 12;with_reducible refine (chVB hb R C1).mono ?_) | (go_at_call 29;first | with_reducible refine (chVB hb R C2).mono ?_ | with_reducible refine (chVB hb R C4).mono ?_) | (go_at_call 28;first | with_reducible refine (chVB hb R C3).mono ?_ | with_reducible refine (chVB hb R C5).mono ?_));clear hb;rintro e w1 ⟨rfl,hk,hb⟩;clear Ap Aq Ar As At Au Av Aw;replace a0:=zB hk a0;replace a1:=zB hk a1;obtain ⟨Ap,Aq,Ar,As⟩:=ce4 a0;obtain ⟨At,Au,Av,Aw⟩:=ce4 a1;clear hk)
 obtain ⟨Bk,Bl,Bm,Bn⟩:=cy4 a0
 obtain ⟨Bo,Bp,Bq,Br⟩:=cy4 a1
 have Bs:=rrV C6 R hb
 have Bt:=rrV C7 R hb
 have Bc:=qqV C6 R hb
 have Bd:=qqV C7 R hb
 refine wp_free2 4 0 (fun i=>if i=4 then Obj.cells #[Value.string ⟨#[]⟩,Value.string ⟨#[]⟩,Value.string ⟨#[]⟩] 24 else if i=5 then Obj.cells #[Value.string ⟨#[]⟩,Value.string ⟨#[]⟩,Value.string ⟨#[]⟩] 24 else Obj.cells #[] 0) (fun i=>if i=4 then Obj.cells #[Value.string s0,Value.string s1,Value.string s2] 24 else if i=5 then Obj.cells #[Value.string t0,Value.string t1,Value.string t2] 24 else Obj.cells #[] 0) (some 5) (some 6) (by first | assumption | kernel_rfl) (by kernel_rfl) ?lay rfl rfl ?_
 case lay =>
   intro i h1 h2
   obtain rfl | rfl:i=4∨i=5:=by omega
   all_goals exact ⟨_,rfl,rfl,fun a w=>(by first | (go_simp;done) | (go_simp;rfl))⟩
 simp only [List.take_succ_cons,List.take_zero]
 repeat (refine wpB_step (fun K hK=>?_);go_simp;first | (refine hK _ ?_;clear hK K) | (apply Exists.intro;refine ⟨fun _=>?_,hK _ ?_⟩;(first | (with_reducible exact Bc.out _ _) | (with_reducible exact Bd.out _ _));clear hK K))
 refine wpB_nil ?_
 intro Ak Al
 refine ⟨?_,?_,?_⟩
 · refine ⟨_,rfl,rfl,rfl,fun cs b h=>(by cases h),fun w hw=>?_⟩
   replace hw:w.heap[Ak]? = some (Obj.cells #[Value.string ⟨#[]⟩,Value.string ⟨#[]⟩,Value.string ⟨#[]⟩] 24):=hw
   have z0:w.cell? ⟨Ak,0,none⟩=some (Value.string ⟨#[]⟩):=zA hw
   have y0:w.frozen? ⟨Ak,0,none⟩=false:=zD hw
   have z1:w.cell? ⟨Ak,1,none⟩=some (Value.string ⟨#[]⟩):=zA hw
   have y1:w.frozen? ⟨Ak,1,none⟩=false:=zD hw
   have z2:w.cell? ⟨Ak,2,none⟩=some (Value.string ⟨#[]⟩):=zA hw
   have y2:w.frozen? ⟨Ak,2,none⟩=false:=zD hw
   refine ⟨_,?_,(Wrote.set (i:=2) (Wrote.set (i:=1) (Wrote.set (i:=0) (Wrote.refl hw) (Value.string s0)) (Value.string s1)) (Value.string s2))⟩
   go_simp
 · refine ⟨_,rfl,rfl,rfl,fun cs b h=>(by cases h),fun w hw=>?_⟩
   replace hw:w.heap[Al]? = some (Obj.cells #[Value.string ⟨#[]⟩,Value.string ⟨#[]⟩,Value.string ⟨#[]⟩] 24):=hw
   have z0:w.cell? ⟨Al,0,none⟩=some (Value.string ⟨#[]⟩):=zA hw
   have y0:w.frozen? ⟨Al,0,none⟩=false:=zD hw
   have z1:w.cell? ⟨Al,1,none⟩=some (Value.string ⟨#[]⟩):=zA hw
   have y1:w.frozen? ⟨Al,1,none⟩=false:=zD hw
   have z2:w.cell? ⟨Al,2,none⟩=some (Value.string ⟨#[]⟩):=zA hw
   have y2:w.frozen? ⟨Al,2,none⟩=false:=zD hw
   refine ⟨_,?_,(Wrote.set (i:=2) (Wrote.set (i:=1) (Wrote.set (i:=0) (Wrote.refl hw) (Value.string t0)) (Value.string t1)) (Value.string t2))⟩
   go_simp
 intro w1 hk m0 m1 Ab Aa _
 clear Ap Aq Ar As At Au Av Aw
 replace a0:=zB hk a0
 replace a1:=zB hk a1
 obtain ⟨Ap,Aq,Ar,As⟩:=ce4 a0
 obtain ⟨At,Au,Av,Aw⟩:=ce4 a1
 replace hb:=hb.trans (hk.mono hb.size)
 clear hk
 replace Ab:w1.heap[Ak]? = some (Obj.cells #[Value.string s0,Value.string s1,Value.string s2] 24):=Ab
 have Af:w1.cell? ⟨Ak,0,none⟩=some (Value.string s0):=zA Ab
 have Ag:w1.cell? ⟨Ak,1,none⟩=some (Value.string s1):=zA Ab
 have Ah:w1.cell? ⟨Ak,2,none⟩=some (Value.string s2):=zA Ab
 replace Aa:w1.heap[Al]? = some (Obj.cells #[Value.string t0,Value.string t1,Value.string t2] 24):=Aa
 have Ac:w1.cell? ⟨Al,0,none⟩=some (Value.string t0):=zA Aa
 have Ad:w1.cell? ⟨Al,1,none⟩=some (Value.string t1):=zA Aa
 have Ae:w1.cell? ⟨Al,2,none⟩=some (Value.string t2):=zA Aa
 clear Bc Bd Bs Bt Bk Bl Bm Bn Bo Bp Bq Br m0 m1
 go_upto_region 4 with fail
 clear Ap Aq Ar As a0 At Au Av Aw a1
 obtain ⟨A6,A7,A8⟩:=cy3 Ab
 obtain ⟨A9,Ba,Bb⟩:=cy3 Aa
 have Bu:=rrV C8 R hb
 have Bv:=rrV C9 R hb
 have Bw:=rrV C10 R hb
 have Be:=qqV C8 R hb
 have Bf:=qqV C9 R hb
 have Bg:=qqV C10 R hb
 refine wp_free1 10 0 (fun i=>if i=10 then Obj.cells #[Value.string ⟨#[]⟩,Value.string ⟨#[]⟩,Value.string ⟨#[]⟩] 24 else Obj.cells #[] 0) (fun i=>if i=10 then Obj.cells #[Value.string p0,Value.string p1,Value.string p2] 24 else Obj.cells #[] 0) (some 7) (by first | assumption | kernel_rfl) (by kernel_rfl) ?lay rfl ?_
 case lay =>
   intro i h1 h2
   obtain rfl:i=10:=by omega
   all_goals exact ⟨_,rfl,rfl,fun a w=>(by first | (go_simp;done) | (go_simp;rfl))⟩
 simp only [List.take_succ_cons,List.take_zero]
 repeat (refine wpB_step (fun K hK=>?_);go_simp;first | (refine hK _ ?_;clear hK K) | (apply Exists.intro;refine ⟨fun _=>?_,hK _ ?_⟩;(first | (with_reducible exact Be.out _ _) | (with_reducible exact Bf.out _ _) | (with_reducible exact Bg.out _ _));clear hK K))
 refine wpB_nil ?_
 intro Am
 refine ⟨?_,?_⟩
 · refine ⟨_,rfl,rfl,rfl,fun cs b h=>(by cases h),fun w hw=>?_⟩
   replace hw:w.heap[Am]? = some (Obj.cells #[Value.string ⟨#[]⟩,Value.string ⟨#[]⟩,Value.string ⟨#[]⟩] 24):=hw
   have z0:w.cell? ⟨Am,0,none⟩=some (Value.string ⟨#[]⟩):=zA hw
   have y0:w.frozen? ⟨Am,0,none⟩=false:=zD hw
   have z1:w.cell? ⟨Am,1,none⟩=some (Value.string ⟨#[]⟩):=zA hw
   have y1:w.frozen? ⟨Am,1,none⟩=false:=zD hw
   have z2:w.cell? ⟨Am,2,none⟩=some (Value.string ⟨#[]⟩):=zA hw
   have y2:w.frozen? ⟨Am,2,none⟩=false:=zD hw
   refine ⟨_,?_,(Wrote.set (i:=2) (Wrote.set (i:=1) (Wrote.set (i:=0) (Wrote.refl hw) (Value.string p0)) (Value.string p1)) (Value.string p2))⟩
   go_simp
 intro w1 hk m0 Ai
 clear Af Ag Ah Ac Ad Ae
 replace Ab:=zB hk Ab
 replace Aa:=zB hk Aa
 obtain ⟨Af,Ag,Ah⟩:=ce3 Ab
 obtain ⟨Ac,Ad,Ae⟩:=ce3 Aa
 replace hb:=hb.trans (hk.mono hb.size)
 clear hk
 replace Ai:w1.heap[Am]? = some (Obj.cells #[Value.string p0,Value.string p1,Value.string p2] 24):=Ai
 have Ax:w1.cell? ⟨Am,0,none⟩=some (Value.string p0):=zA Ai
 have Ay:w1.cell? ⟨Am,1,none⟩=some (Value.string p1):=zA Ai
 have Az:w1.cell? ⟨Am,2,none⟩=some (Value.string p2):=zA Ai
 clear Be Bf Bg Bu Bv Bw A6 A7 A8 A9 Ba Bb m0
 go_upto_region 5 with fail
 obtain ⟨A6,A7,A8⟩:=cy3 Ab
 obtain ⟨A9,Ba,Bb⟩:=cy3 Aa
 obtain ⟨Bx,By,Bz⟩:=cy3 Ai
 have B0:=rrV C11 R hb
 have B1:=rrV C12 R hb
 have B2:=rrV C13 R hb
 have Bh:=qqV C11 R hb
 have Bi:=qqV C12 R hb
 have Bj:=qqV C13 R hb
 refine wp_free1 10 0 (fun i=>if i=10 then Obj.cells #[Value.string ⟨#[]⟩,Value.string ⟨#[]⟩,Value.string ⟨#[]⟩] 24 else Obj.cells #[] 0) (fun i=>if i=10 then Obj.cells #[Value.string u0,Value.string u1,Value.string u2] 24 else Obj.cells #[] 0) (some 8) (by first | assumption | kernel_rfl) (by kernel_rfl) ?lay rfl ?_
 case lay =>
   intro i h1 h2
   obtain rfl:i=10:=by omega
   all_goals exact ⟨_,rfl,rfl,fun a w=>(by first | (go_simp;done) | (go_simp;rfl))⟩
 simp only [List.take_succ_cons,List.take_zero]
 repeat (refine wpB_step (fun K hK=>?_);go_simp;first | (refine hK _ ?_;clear hK K) | (apply Exists.intro;refine ⟨fun _=>?_,hK _ ?_⟩;(first | (with_reducible exact Bh.out _ _) | (with_reducible exact Bi.out _ _) | (with_reducible exact Bj.out _ _));clear hK K))
 refine wpB_nil ?_
 intro An
 refine ⟨?_,?_⟩
 · refine ⟨_,rfl,rfl,rfl,fun cs b h=>(by cases h),fun w hw=>?_⟩
   replace hw:w.heap[An]? = some (Obj.cells #[Value.string ⟨#[]⟩,Value.string ⟨#[]⟩,Value.string ⟨#[]⟩] 24):=hw
   have z0:w.cell? ⟨An,0,none⟩=some (Value.string ⟨#[]⟩):=zA hw
   have y0:w.frozen? ⟨An,0,none⟩=false:=zD hw
   have z1:w.cell? ⟨An,1,none⟩=some (Value.string ⟨#[]⟩):=zA hw
   have y1:w.frozen? ⟨An,1,none⟩=false:=zD hw
   have z2:w.cell? ⟨An,2,none⟩=some (Value.string ⟨#[]⟩):=zA hw
   have y2:w.frozen? ⟨An,2,none⟩=false:=zD hw
   refine ⟨_,?_,(Wrote.set (i:=2) (Wrote.set (i:=1) (Wrote.set (i:=0) (Wrote.refl hw) (Value.string u0)) (Value.string u1)) (Value.string u2))⟩
   go_simp
 intro w1 hk m0 Aj
 clear Af Ag Ah Ac Ad Ae Ax Ay Az
 replace Ab:=zB hk Ab
 replace Aa:=zB hk Aa
 replace Ai:=zB hk Ai
 obtain ⟨Af,Ag,Ah⟩:=ce3 Ab
 obtain ⟨Ac,Ad,Ae⟩:=ce3 Aa
 obtain ⟨Ax,Ay,Az⟩:=ce3 Ai
 replace hb:=hb.trans (hk.mono hb.size)
 clear hk
 replace Aj:w1.heap[An]? = some (Obj.cells #[Value.string u0,Value.string u1,Value.string u2] 24):=Aj
 have A0:w1.cell? ⟨An,0,none⟩=some (Value.string u0):=zA Aj
 have A1:w1.cell? ⟨An,1,none⟩=some (Value.string u1):=zA Aj
 have A2:w1.cell? ⟨An,2,none⟩=some (Value.string u2):=zA Aj
 clear Bh Bi Bj B0 B1 B2 A6 A7 A8 A9 Ba Bb Bx By Bz m0
 go_upto_region 16 with (first | ((go_at_call 24;first | with_reducible refine (chVB hb R C14).mono ?_ | with_reducible refine (chVB hb R C15).mono ?_ | with_reducible refine (chVB hb R C16).mono ?_ | with_reducible refine (chVB hb R C17).mono ?_);clear hb;rintro e w1 ⟨rfl,hk,hb⟩;clear Af Ag Ah Ac Ad Ae Ax Ay Az A0 A1 A2;replace Ab:=zB hk Ab;replace Aa:=zB hk Aa;replace Ai:=zB hk Ai;replace Aj:=zB hk Aj;obtain ⟨Af,Ag,Ah⟩:=ce3 Ab;obtain ⟨Ac,Ad,Ae⟩:=ce3 Aa;obtain ⟨Ax,Ay,Az⟩:=ce3 Ai;obtain ⟨A0,A1,A2⟩:=ce3 Aj;clear hk) | (go_at_call 19;with_reducible refine (chVB hb R C18).mono ?_;clear hb;rintro e w1 ⟨rfl,hk,hb⟩;clear Af Ag Ah Ac Ad Ae A0 A1 A2;replace Ab:=zB hk Ab;replace Aa:=zB hk Aa;replace Aj:=zB hk Aj;obtain ⟨Af,Ag,Ah⟩:=ce3 Ab;obtain ⟨Ac,Ad,Ae⟩:=ce3 Aa;obtain ⟨A0,A1,A2⟩:=ce3 Aj;clear hk) | (go_at_call 22;with_reducible refine (chVB hb R C19).mono ?_;clear hb;rintro e w1 ⟨rfl,hk,hb⟩;clear Af Ag Ah Ac Ad Ae;replace Ab:=zB hk Ab;replace Aa:=zB hk Aa;obtain ⟨Af,Ag,Ah⟩:=ce3 Ab;obtain ⟨Ac,Ad,Ae⟩:=ce3 Aa;clear hk))
 clear Ax Ay Az Ai A0 A1 A2 Aj
 refine wp_alloc1 (fun w1 Ao hk=>?_)
 clear Af Ag Ah Ac Ad Ae
 replace Ab:=zB hk Ab
 replace Aa:=zB hk Aa
 obtain ⟨Af,Ag,Ah⟩:=ce3 Ab
 obtain ⟨Ac,Ad,Ae⟩:=ce3 Aa
 replace hb:=hb.trans (hk.mono hb.size)
 clear hk
 obtain ⟨A3,A4,A5⟩:=ce3 Ao
 go_wp2_with (first | (go_at_call 21;with_reducible refine (chVB hb R C20).mono ?_;clear hb;rintro e w1 ⟨rfl,hk,hb⟩;clear A3 A4 A5 Af Ag Ah Ac Ad Ae;replace Ao:=zB hk Ao;replace Ab:=zB hk Ab;replace Aa:=zB hk Aa;obtain ⟨A3,A4,A5⟩:=ce3 Ao;obtain ⟨Af,Ag,Ah⟩:=ce3 Ab;obtain ⟨Ac,Ad,Ae⟩:=ce3 Aa;clear hk) | (go_at_call 21;with_reducible refine (chVB hb R C21).mono ?_;clear hb;rintro e w1 ⟨rfl,hk,hb⟩;clear A3 A4 A5 Ac Ad Ae;replace Ao:=zB hk Ao;replace Aa:=zB hk Aa;obtain ⟨A3,A4,A5⟩:=ce3 Ao;obtain ⟨Ac,Ad,Ae⟩:=ce3 Aa;clear hk))
 first | go_ret | go_ret2 | go_ret3
 exact ⟨rfl,hb⟩
theorem llimbs_51d  (i0 i1 i2 j0 j1 j2 X0 X1 X2 Y0 Y1 Y2:Int) (d e:Int) (s0 s1 s2 t0 t1 t2 p0 p1 p2 u0 u1 u2:ByteArray) (ck:CV 12 #[] (.bool true)) (ca:CV 29 #[.agg #[.int .i8 i0,.int .i8 i1,.int .i8 i2,.int .u8 d]] (.agg #[.int .i64 X0,.int .i64 X1,.int .i64 X2])) (za:CV 28 #[.agg #[.int .i64 X0,.int .i64 X1,.int .i64 X2]] (.bool false)) (cb:CV 29 #[.agg #[.int .i8 j0,.int .i8 j1,.int .i8 j2,.int .u8 e]] (.agg #[.int .i64 Y0,.int .i64 Y1,.int .i64 Y2])) (zb:CV 28 #[.agg #[.int .i64 Y0,.int .i64 Y1,.int .i64 Y2]] (.bool false)) (ma:CV 30 #[.agg #[.int .i8 i0,.int .i8 i1,.int .i8 i2,.int .u8 d]] (.agg #[.string s0,.string s1,.string s2])) (mb:CV 30 #[.agg #[.int .i8 j0,.int .i8 j1,.int .i8 j2,.int .u8 e]] (.agg #[.string t0,.string t1,.string t2])) (nb0:CV 39 #[.string t0] (.string p0)) (na0:CV 39 #[.string s0] (.string u0)) (nb1:CV 39 #[.string t1] (.string p1)) (na1:CV 39 #[.string s1] (.string u1)) (nb2:CV 39 #[.string t2] (.string p2)) (na2:CV 39 #[.string s2] (.string u2)) (in1:CV 24 #[.agg #[.string s0,.string s1,.string s2],.agg #[.string t0,.string t1,.string t2]] (.tuple #[.int .i64 5,.int .i64 0])) (in2:CV 24 #[.agg #[.string t0,.string t1,.string t2],.agg #[.string s0,.string s1,.string s2]] (.tuple #[.int .i64 5,.int .i64 0])) (in3:CV 24 #[.agg #[.string u0,.string u1,.string u2],.agg #[.string p0,.string p1,.string p2]] (.tuple #[.int .i64 5,.int .i64 0])) (in4:CV 24 #[.agg #[.string s0,.string s1,.string s2],.agg #[.string p0,.string p1,.string p2]] (.tuple #[.int .i64 1,.int .i64 0])) (an:CV 19 #[.agg #[.string s0,.string s1,.string s2],.agg #[.string u0,.string u1,.string u2]] (.tuple #[.string ⟨#[49]⟩,.int .i64 0])) (it:CV 22 #[.agg #[.string s0,.string s1,.string s2],.agg #[.string t0,.string t1,.string t2]] (.tuple #[.agg #[.string ⟨#[]⟩,.string ⟨#[]⟩,.string ⟨#[]⟩],.int .i64 18])) (sm:CV 16 #[.agg #[.string s0,.string s1,.string s2],.agg #[.string t0,.string t1,.string t2]] (.tuple #[.bool true,.int .i64 0])) (w:World) (R:EnvV w) :
   Calls Tryz.prog 11 #[.agg #[.int .i8 i0,.int .i8 i1,.int .i8 i2,.int .u8 d],.agg #[.int .i8 j0,.int .i8 j1,.int .i8 j2,.int .u8 e]] w (Ret w (.bool true)):=by
 have c1:=ck
 have c2:=ca
 have c3:=za
 have c4:=cb
 have c5:=zb
 have c6:=ma
 have c7:=mb
 have c8:=nb0
 have c9:=nb1
 have c10:=nb2
 have c11:=na0
 have c12:=na1
 have c13:=na2
 have c14:=in1
 have c15:=in2
 have c16:=in3
 have c17:=in4
 have c18:=an
 have c19:=it
 have c20:=sm
 have C1:=Lib.hid c1
 have C2:=Lib.hid c2
 have C3:=Lib.hid c3
 have C4:=Lib.hid c4
 have C5:=Lib.hid c5
 have C6:=Lib.hid c6
 have C7:=Lib.hid c7
 have C8:=Lib.hid c8
 have C9:=Lib.hid c9
 have C10:=Lib.hid c10
 have C11:=Lib.hid c11
 have C12:=Lib.hid c12
 have C13:=Lib.hid c13
 have C14:=Lib.hid c14
 have C15:=Lib.hid c15
 have C16:=Lib.hid c16
 have C17:=Lib.hid c17
 have C18:=Lib.hid c18
 have C19:=Lib.hid c19
 have C20:=Lib.hid c20
 clear c1 c2 c3 c4 c5 c6 c7 c8 c9 c10 c11 c12 c13 c14 c15 c16 c17 c18 c19 c20 ck ca za cb zb ma mb nb0 na0 nb1 na1 nb2 na2 in1 in2 in3 in4 an it sm
 have hb:=Below.refl w.heap.size w
 go_enter Tryz.func11,Tryz.ntmps11
 go_upto_region 1 with fail
 refine wp_alloc2 (fun w1 a0 a1 hk=>?_)
 replace hb:=hb.trans (hk.mono hb.size)
 clear hk
 obtain ⟨Ao,Ap,Aq,Ar⟩:=ce4 a0
 obtain ⟨As,At,Au,Av⟩:=ce4 a1
 go_upto_region 3 with ((first | (go_at_call 12;with_reducible refine (chVB hb R C1).mono ?_) | (go_at_call 29;first | with_reducible refine (chVB hb R C2).mono ?_ | with_reducible refine (chVB hb R C4).mono ?_) | (go_at_call 28;first | with_reducible refine (chVB hb R C3).mono ?_ | with_reducible refine (chVB hb R C5).mono ?_));clear hb;rintro e w1 ⟨rfl,hk,hb⟩;clear Ao Ap Aq Ar As At Au Av;replace a0:=zB hk a0;replace a1:=zB hk a1;obtain ⟨Ao,Ap,Aq,Ar⟩:=ce4 a0;obtain ⟨As,At,Au,Av⟩:=ce4 a1;clear hk)
 obtain ⟨Bk,Bl,Bm,Bn⟩:=cy4 a0
 obtain ⟨Bo,Bp,Bq,Br⟩:=cy4 a1
 have Bs:=rrV C6 R hb
 have Bt:=rrV C7 R hb
 have A9:=qqV C6 R hb
 have Ba:=qqV C7 R hb
 refine wp_free2 4 0 (fun i=>if i=4 then Obj.cells #[Value.string ⟨#[]⟩,Value.string ⟨#[]⟩,Value.string ⟨#[]⟩] 24 else if i=5 then Obj.cells #[Value.string ⟨#[]⟩,Value.string ⟨#[]⟩,Value.string ⟨#[]⟩] 24 else Obj.cells #[] 0) (fun i=>if i=4 then Obj.cells #[Value.string s0,Value.string s1,Value.string s2] 24 else if i=5 then Obj.cells #[Value.string t0,Value.string t1,Value.string t2] 24 else Obj.cells #[] 0) (some 5) (some 6) (by first | assumption | kernel_rfl) (by kernel_rfl) ?lay rfl rfl ?_
 case lay =>
   intro i h1 h2
   obtain rfl | rfl:i=4∨i=5:=by omega
   all_goals exact ⟨_,rfl,rfl,fun a w=>(by first | (go_simp;done) | (go_simp;rfl))⟩
 simp only [List.take_succ_cons,List.take_zero]
 repeat (refine wpB_step (fun K hK=>?_);go_simp;first | (refine hK _ ?_;clear hK K) | (apply Exists.intro;refine ⟨fun _=>?_,hK _ ?_⟩;(first | (with_reducible exact A9.out _ _) | (with_reducible exact Ba.out _ _));clear hK K))
 refine wpB_nil ?_
 intro Ak Al
 refine ⟨?_,?_,?_⟩
 · refine ⟨_,rfl,rfl,rfl,fun cs b h=>(by cases h),fun w hw=>?_⟩
   replace hw:w.heap[Ak]? = some (Obj.cells #[Value.string ⟨#[]⟩,Value.string ⟨#[]⟩,Value.string ⟨#[]⟩] 24):=hw
   have z0:w.cell? ⟨Ak,0,none⟩=some (Value.string ⟨#[]⟩):=zA hw
   have y0:w.frozen? ⟨Ak,0,none⟩=false:=zD hw
   have z1:w.cell? ⟨Ak,1,none⟩=some (Value.string ⟨#[]⟩):=zA hw
   have y1:w.frozen? ⟨Ak,1,none⟩=false:=zD hw
   have z2:w.cell? ⟨Ak,2,none⟩=some (Value.string ⟨#[]⟩):=zA hw
   have y2:w.frozen? ⟨Ak,2,none⟩=false:=zD hw
   refine ⟨_,?_,(Wrote.set (i:=2) (Wrote.set (i:=1) (Wrote.set (i:=0) (Wrote.refl hw) (Value.string s0)) (Value.string s1)) (Value.string s2))⟩
   go_simp
 · refine ⟨_,rfl,rfl,rfl,fun cs b h=>(by cases h),fun w hw=>?_⟩
   replace hw:w.heap[Al]? = some (Obj.cells #[Value.string ⟨#[]⟩,Value.string ⟨#[]⟩,Value.string ⟨#[]⟩] 24):=hw
   have z0:w.cell? ⟨Al,0,none⟩=some (Value.string ⟨#[]⟩):=zA hw
   have y0:w.frozen? ⟨Al,0,none⟩=false:=zD hw
   have z1:w.cell? ⟨Al,1,none⟩=some (Value.string ⟨#[]⟩):=zA hw
   have y1:w.frozen? ⟨Al,1,none⟩=false:=zD hw
   have z2:w.cell? ⟨Al,2,none⟩=some (Value.string ⟨#[]⟩):=zA hw
   have y2:w.frozen? ⟨Al,2,none⟩=false:=zD hw
   refine ⟨_,?_,(Wrote.set (i:=2) (Wrote.set (i:=1) (Wrote.set (i:=0) (Wrote.refl hw) (Value.string t0)) (Value.string t1)) (Value.string t2))⟩
   go_simp
 intro w1 hk m0 m1 Aa Ab _
 clear Ao Ap Aq Ar As At Au Av
 replace a0:=zB hk a0
 replace a1:=zB hk a1
 obtain ⟨Ao,Ap,Aq,Ar⟩:=ce4 a0
 obtain ⟨As,At,Au,Av⟩:=ce4 a1
 replace hb:=hb.trans (hk.mono hb.size)
 clear hk
 replace Aa:w1.heap[Ak]? = some (Obj.cells #[Value.string s0,Value.string s1,Value.string s2] 24):=Aa
 have Ac:w1.cell? ⟨Ak,0,none⟩=some (Value.string s0):=zA Aa
 have Ad:w1.cell? ⟨Ak,1,none⟩=some (Value.string s1):=zA Aa
 have Ae:w1.cell? ⟨Ak,2,none⟩=some (Value.string s2):=zA Aa
 replace Ab:w1.heap[Al]? = some (Obj.cells #[Value.string t0,Value.string t1,Value.string t2] 24):=Ab
 have Af:w1.cell? ⟨Al,0,none⟩=some (Value.string t0):=zA Ab
 have Ag:w1.cell? ⟨Al,1,none⟩=some (Value.string t1):=zA Ab
 have Ah:w1.cell? ⟨Al,2,none⟩=some (Value.string t2):=zA Ab
 clear A9 Ba Bs Bt Bk Bl Bm Bn Bo Bp Bq Br m0 m1
 go_upto_region 4 with fail
 clear Ao Ap Aq Ar a0 As At Au Av a1
 obtain ⟨A3,A4,A5⟩:=cy3 Aa
 obtain ⟨A6,A7,A8⟩:=cy3 Ab
 have Bu:=rrV C8 R hb
 have Bv:=rrV C9 R hb
 have Bw:=rrV C10 R hb
 have Bb:=qqV C8 R hb
 have Bc:=qqV C9 R hb
 have Bd:=qqV C10 R hb
 refine wp_free1 10 0 (fun i=>if i=10 then Obj.cells #[Value.string ⟨#[]⟩,Value.string ⟨#[]⟩,Value.string ⟨#[]⟩] 24 else Obj.cells #[] 0) (fun i=>if i=10 then Obj.cells #[Value.string p0,Value.string p1,Value.string p2] 24 else Obj.cells #[] 0) (some 7) (by first | assumption | kernel_rfl) (by kernel_rfl) ?lay rfl ?_
 case lay =>
   intro i h1 h2
   obtain rfl:i=10:=by omega
   all_goals exact ⟨_,rfl,rfl,fun a w=>(by first | (go_simp;done) | (go_simp;rfl))⟩
 simp only [List.take_succ_cons,List.take_zero]
 repeat (refine wpB_step (fun K hK=>?_);go_simp;first | (refine hK _ ?_;clear hK K) | (apply Exists.intro;refine ⟨fun _=>?_,hK _ ?_⟩;(first | (with_reducible exact Bb.out _ _) | (with_reducible exact Bc.out _ _) | (with_reducible exact Bd.out _ _));clear hK K))
 refine wpB_nil ?_
 intro Am
 refine ⟨?_,?_⟩
 · refine ⟨_,rfl,rfl,rfl,fun cs b h=>(by cases h),fun w hw=>?_⟩
   replace hw:w.heap[Am]? = some (Obj.cells #[Value.string ⟨#[]⟩,Value.string ⟨#[]⟩,Value.string ⟨#[]⟩] 24):=hw
   have z0:w.cell? ⟨Am,0,none⟩=some (Value.string ⟨#[]⟩):=zA hw
   have y0:w.frozen? ⟨Am,0,none⟩=false:=zD hw
   have z1:w.cell? ⟨Am,1,none⟩=some (Value.string ⟨#[]⟩):=zA hw
   have y1:w.frozen? ⟨Am,1,none⟩=false:=zD hw
   have z2:w.cell? ⟨Am,2,none⟩=some (Value.string ⟨#[]⟩):=zA hw
   have y2:w.frozen? ⟨Am,2,none⟩=false:=zD hw
   refine ⟨_,?_,(Wrote.set (i:=2) (Wrote.set (i:=1) (Wrote.set (i:=0) (Wrote.refl hw) (Value.string p0)) (Value.string p1)) (Value.string p2))⟩
   go_simp
 intro w1 hk m0 Ai
 clear Ac Ad Ae Af Ag Ah
 replace Aa:=zB hk Aa
 replace Ab:=zB hk Ab
 obtain ⟨Ac,Ad,Ae⟩:=ce3 Aa
 obtain ⟨Af,Ag,Ah⟩:=ce3 Ab
 replace hb:=hb.trans (hk.mono hb.size)
 clear hk
 replace Ai:w1.heap[Am]? = some (Obj.cells #[Value.string p0,Value.string p1,Value.string p2] 24):=Ai
 have Aw:w1.cell? ⟨Am,0,none⟩=some (Value.string p0):=zA Ai
 have Ax:w1.cell? ⟨Am,1,none⟩=some (Value.string p1):=zA Ai
 have Ay:w1.cell? ⟨Am,2,none⟩=some (Value.string p2):=zA Ai
 clear Bb Bc Bd Bu Bv Bw A3 A4 A5 A6 A7 A8 m0
 go_upto_region 5 with fail
 obtain ⟨A3,A4,A5⟩:=cy3 Aa
 obtain ⟨A6,A7,A8⟩:=cy3 Ab
 obtain ⟨Bx,By,Bz⟩:=cy3 Ai
 have B0:=rrV C11 R hb
 have B1:=rrV C12 R hb
 have B2:=rrV C13 R hb
 have Be:=qqV C11 R hb
 have Bf:=qqV C12 R hb
 have Bg:=qqV C13 R hb
 refine wp_free1 10 0 (fun i=>if i=10 then Obj.cells #[Value.string ⟨#[]⟩,Value.string ⟨#[]⟩,Value.string ⟨#[]⟩] 24 else Obj.cells #[] 0) (fun i=>if i=10 then Obj.cells #[Value.string u0,Value.string u1,Value.string u2] 24 else Obj.cells #[] 0) (some 8) (by first | assumption | kernel_rfl) (by kernel_rfl) ?lay rfl ?_
 case lay =>
   intro i h1 h2
   obtain rfl:i=10:=by omega
   all_goals exact ⟨_,rfl,rfl,fun a w=>(by first | (go_simp;done) | (go_simp;rfl))⟩
 simp only [List.take_succ_cons,List.take_zero]
 repeat (refine wpB_step (fun K hK=>?_);go_simp;first | (refine hK _ ?_;clear hK K) | (apply Exists.intro;refine ⟨fun _=>?_,hK _ ?_⟩;(first | (with_reducible exact Be.out _ _) | (with_reducible exact Bf.out _ _) | (with_reducible exact Bg.out _ _));clear hK K))
 refine wpB_nil ?_
 intro An
 refine ⟨?_,?_⟩
 · refine ⟨_,rfl,rfl,rfl,fun cs b h=>(by cases h),fun w hw=>?_⟩
   replace hw:w.heap[An]? = some (Obj.cells #[Value.string ⟨#[]⟩,Value.string ⟨#[]⟩,Value.string ⟨#[]⟩] 24):=hw
   have z0:w.cell? ⟨An,0,none⟩=some (Value.string ⟨#[]⟩):=zA hw
   have y0:w.frozen? ⟨An,0,none⟩=false:=zD hw
   have z1:w.cell? ⟨An,1,none⟩=some (Value.string ⟨#[]⟩):=zA hw
   have y1:w.frozen? ⟨An,1,none⟩=false:=zD hw
   have z2:w.cell? ⟨An,2,none⟩=some (Value.string ⟨#[]⟩):=zA hw
   have y2:w.frozen? ⟨An,2,none⟩=false:=zD hw
   refine ⟨_,?_,(Wrote.set (i:=2) (Wrote.set (i:=1) (Wrote.set (i:=0) (Wrote.refl hw) (Value.string u0)) (Value.string u1)) (Value.string u2))⟩
   go_simp
 intro w1 hk m0 Aj
 clear Ac Ad Ae Af Ag Ah Aw Ax Ay
 replace Aa:=zB hk Aa
 replace Ab:=zB hk Ab
 replace Ai:=zB hk Ai
 obtain ⟨Ac,Ad,Ae⟩:=ce3 Aa
 obtain ⟨Af,Ag,Ah⟩:=ce3 Ab
 obtain ⟨Aw,Ax,Ay⟩:=ce3 Ai
 replace hb:=hb.trans (hk.mono hb.size)
 clear hk
 replace Aj:w1.heap[An]? = some (Obj.cells #[Value.string u0,Value.string u1,Value.string u2] 24):=Aj
 have Az:w1.cell? ⟨An,0,none⟩=some (Value.string u0):=zA Aj
 have A0:w1.cell? ⟨An,1,none⟩=some (Value.string u1):=zA Aj
 have A1:w1.cell? ⟨An,2,none⟩=some (Value.string u2):=zA Aj
 clear Be Bf Bg B0 B1 B2 A3 A4 A5 A6 A7 A8 Bx By Bz m0
 go_upto_region 16 with (first | ((go_at_call 24;first | with_reducible refine (chVB hb R C14).mono ?_ | with_reducible refine (chVB hb R C15).mono ?_ | with_reducible refine (chVB hb R C16).mono ?_ | with_reducible refine (chVB hb R C17).mono ?_);clear hb;rintro e w1 ⟨rfl,hk,hb⟩;clear Ac Ad Ae Af Ag Ah Aw Ax Ay Az A0 A1;replace Aa:=zB hk Aa;replace Ab:=zB hk Ab;replace Ai:=zB hk Ai;replace Aj:=zB hk Aj;obtain ⟨Ac,Ad,Ae⟩:=ce3 Aa;obtain ⟨Af,Ag,Ah⟩:=ce3 Ab;obtain ⟨Aw,Ax,Ay⟩:=ce3 Ai;obtain ⟨Az,A0,A1⟩:=ce3 Aj;clear hk) | (go_at_call 19;with_reducible refine (chVB hb R C18).mono ?_;clear hb;rintro e w1 ⟨rfl,hk,hb⟩;clear Ac Ad Ae Af Ag Ah Az A0 A1;replace Aa:=zB hk Aa;replace Ab:=zB hk Ab;replace Aj:=zB hk Aj;obtain ⟨Ac,Ad,Ae⟩:=ce3 Aa;obtain ⟨Af,Ag,Ah⟩:=ce3 Ab;obtain ⟨Az,A0,A1⟩:=ce3 Aj;clear hk) | (go_at_call 22;with_reducible refine (chVB hb R C19).mono ?_;clear hb;rintro e w1 ⟨rfl,hk,hb⟩;clear Ac Ad Ae Af Ag Ah;replace Aa:=zB hk Aa;replace Ab:=zB hk Ab;obtain ⟨Ac,Ad,Ae⟩:=ce3 Aa;obtain ⟨Af,Ag,Ah⟩:=ce3 Ab;clear hk))
 clear Aw Ax Ay Ai Az A0 A1 Aj
 refine wp_alloc1 (fun w1 A2 hk=>?_)
 clear Ac Ad Ae Af Ag Ah
 replace Aa:=zB hk Aa
 replace Ab:=zB hk Ab
 obtain ⟨Ac,Ad,Ae⟩:=ce3 Aa
 obtain ⟨Af,Ag,Ah⟩:=ce3 Ab
 replace hb:=hb.trans (hk.mono hb.size)
 clear hk
 obtain ⟨Bh,Bi,Bj⟩:=ce3 A2
 go_wp2_with (go_at_call 16;with_reducible refine (chVB hb R C20).mono ?_;clear hb;rintro e w1 ⟨rfl,hk,hb⟩;clear Bh Bi Bj Ac Ad Ae Af Ag Ah;replace A2:=zB hk A2;replace Aa:=zB hk Aa;replace Ab:=zB hk Ab;obtain ⟨Bh,Bi,Bj⟩:=ce3 A2;obtain ⟨Ac,Ad,Ae⟩:=ce3 Aa;obtain ⟨Af,Ag,Ah⟩:=ce3 Ab;clear hk)
 first | go_ret | go_ret2 | go_ret3
 exact ⟨rfl,hb⟩
theorem llimbs_2m  (i0 i1 i2 j0 j1 j2 X0 X1 X2 Y0 Y1 Y2:Int) (d e:Int) (N:Int) (s0 s1 s2 t0 t1 t2 p0 p1 p2 u0 u1 u2 v0 v1 v2:ByteArray) (ck:CV 12 #[] (.bool true)) (ca:CV 29 #[.agg #[.int .i8 i0,.int .i8 i1,.int .i8 i2,.int .u8 d]] (.agg #[.int .i64 X0,.int .i64 X1,.int .i64 X2])) (za:CV 28 #[.agg #[.int .i64 X0,.int .i64 X1,.int .i64 X2]] (.bool false)) (cb:CV 29 #[.agg #[.int .i8 j0,.int .i8 j1,.int .i8 j2,.int .u8 e]] (.agg #[.int .i64 Y0,.int .i64 Y1,.int .i64 Y2])) (zb:CV 28 #[.agg #[.int .i64 Y0,.int .i64 Y1,.int .i64 Y2]] (.bool false)) (ma:CV 30 #[.agg #[.int .i8 i0,.int .i8 i1,.int .i8 i2,.int .u8 d]] (.agg #[.string s0,.string s1,.string s2])) (mb:CV 30 #[.agg #[.int .i8 j0,.int .i8 j1,.int .i8 j2,.int .u8 e]] (.agg #[.string t0,.string t1,.string t2])) (nb0:CV 39 #[.string t0] (.string p0)) (na0:CV 39 #[.string s0] (.string u0)) (nb1:CV 39 #[.string t1] (.string p1)) (na1:CV 39 #[.string s1] (.string u1)) (nb2:CV 39 #[.string t2] (.string p2)) (na2:CV 39 #[.string s2] (.string u2)) (in1:CV 24 #[.agg #[.string s0,.string s1,.string s2],.agg #[.string t0,.string t1,.string t2]] (.tuple #[.int .i64 2,.int .i64 0])) (in2:CV 24 #[.agg #[.string t0,.string t1,.string t2],.agg #[.string s0,.string s1,.string s2]] (.tuple #[.int .i64 2,.int .i64 0])) (in3:CV 24 #[.agg #[.string u0,.string u1,.string u2],.agg #[.string p0,.string p1,.string p2]] (.tuple #[.int .i64 2,.int .i64 0])) (in4:CV 24 #[.agg #[.string s0,.string s1,.string s2],.agg #[.string p0,.string p1,.string p2]] (.tuple #[.int .i64 N,.int .i64 0])) (an:CV 19 #[.agg #[.string s0,.string s1,.string s2],.agg #[.string u0,.string u1,.string u2]] (.tuple #[.string ⟨#[49]⟩,.int .i64 0])) (it:CV 22 #[.agg #[.string s0,.string s1,.string s2],.agg #[.string t0,.string t1,.string t2]] (.tuple #[.agg #[.string v0,.string v1,.string v2],.int .i64 0])) (li1:CV 21 #[.agg #[.string s0,.string s1,.string s2],.agg #[.string v0,.string v1,.string v2]] (.tuple #[.bool true,.int .i64 0])) (li2:CV 21 #[.agg #[.string t0,.string t1,.string t2],.agg #[.string v0,.string v1,.string v2]] (.tuple #[.bool true,.int .i64 0])) (w:World) (R:EnvV w) :
   Calls Tryz.prog 11 #[.agg #[.int .i8 i0,.int .i8 i1,.int .i8 i2,.int .u8 d],.agg #[.int .i8 j0,.int .i8 j1,.int .i8 j2,.int .u8 e]] w (Ret w (.bool true)):=by
 have c1:=ck
 have c2:=ca
 have c3:=za
 have c4:=cb
 have c5:=zb
 have c6:=ma
 have c7:=mb
 have c8:=nb0
 have c9:=nb1
 have c10:=nb2
 have c11:=na0
 have c12:=na1
 have c13:=na2
 have c14:=in1
 have c15:=in2
 have c16:=in3
 have c17:=in4
 have c18:=an
 have c19:=it
 have c20:=li1
 have c21:=li2
 have C1:=Lib.hid c1
 have C2:=Lib.hid c2
 have C3:=Lib.hid c3
 have C4:=Lib.hid c4
 have C5:=Lib.hid c5
 have C6:=Lib.hid c6
 have C7:=Lib.hid c7
 have C8:=Lib.hid c8
 have C9:=Lib.hid c9
 have C10:=Lib.hid c10
 have C11:=Lib.hid c11
 have C12:=Lib.hid c12
 have C13:=Lib.hid c13
 have C14:=Lib.hid c14
 have C15:=Lib.hid c15
 have C16:=Lib.hid c16
 have C17:=Lib.hid c17
 have C18:=Lib.hid c18
 have C19:=Lib.hid c19
 have C20:=Lib.hid c20
 have C21:=Lib.hid c21
 clear c1 c2 c3 c4 c5 c6 c7 c8 c9 c10 c11 c12 c13 c14 c15 c16 c17 c18 c19 c20 c21 ck ca za cb zb ma mb nb0 na0 nb1 na1 nb2 na2 in1 in2 in3 in4 an it li1 li2
 have hb:=Below.refl w.heap.size w
 go_enter Tryz.func11,Tryz.ntmps11
 go_upto_region 1 with fail
 refine wp_alloc2 (fun w1 a0 a1 hk=>?_)
 replace hb:=hb.trans (hk.mono hb.size)
 clear hk
 obtain ⟨Ap,Aq,Ar,As⟩:=ce4 a0
 obtain ⟨At,Au,Av,Aw⟩:=ce4 a1
 go_upto_region 3 with ((first | (go_at_call 12;with_reducible refine (chVB hb R C1).mono ?_) | (go_at_call 29;first | with_reducible refine (chVB hb R C2).mono ?_ | with_reducible refine (chVB hb R C4).mono ?_) | (go_at_call 28;first | with_reducible refine (chVB hb R C3).mono ?_ | with_reducible refine (chVB hb R C5).mono ?_));clear hb;rintro e w1 ⟨rfl,hk,hb⟩;clear Ap Aq Ar As At Au Av Aw;replace a0:=zB hk a0;replace a1:=zB hk a1;obtain ⟨Ap,Aq,Ar,As⟩:=ce4 a0;obtain ⟨At,Au,Av,Aw⟩:=ce4 a1;clear hk)
 obtain ⟨Bk,Bl,Bm,Bn⟩:=cy4 a0
 obtain ⟨Bo,Bp,Bq,Br⟩:=cy4 a1
 have Bs:=rrV C6 R hb
 have Bt:=rrV C7 R hb
 have Bc:=qqV C6 R hb
 have Bd:=qqV C7 R hb
 refine wp_free2 4 0 (fun i=>if i=4 then Obj.cells #[Value.string ⟨#[]⟩,Value.string ⟨#[]⟩,Value.string ⟨#[]⟩] 24 else if i=5 then Obj.cells #[Value.string ⟨#[]⟩,Value.string ⟨#[]⟩,Value.string ⟨#[]⟩] 24 else Obj.cells #[] 0) (fun i=>if i=4 then Obj.cells #[Value.string s0,Value.string s1,Value.string s2] 24 else if i=5 then Obj.cells #[Value.string t0,Value.string t1,Value.string t2] 24 else Obj.cells #[] 0) (some 5) (some 6) (by first | assumption | kernel_rfl) (by kernel_rfl) ?lay rfl rfl ?_
 case lay =>
   intro i h1 h2
   obtain rfl | rfl:i=4∨i=5:=by omega
   all_goals exact ⟨_,rfl,rfl,fun a w=>(by first | (go_simp;done) | (go_simp;rfl))⟩
 simp only [List.take_succ_cons,List.take_zero]
 repeat (refine wpB_step (fun K hK=>?_);go_simp;first | (refine hK _ ?_;clear hK K) | (apply Exists.intro;refine ⟨fun _=>?_,hK _ ?_⟩;(first | (with_reducible exact Bc.out _ _) | (with_reducible exact Bd.out _ _));clear hK K))
 refine wpB_nil ?_
 intro Ak Al
 refine ⟨?_,?_,?_⟩
 · refine ⟨_,rfl,rfl,rfl,fun cs b h=>(by cases h),fun w hw=>?_⟩
   replace hw:w.heap[Ak]? = some (Obj.cells #[Value.string ⟨#[]⟩,Value.string ⟨#[]⟩,Value.string ⟨#[]⟩] 24):=hw
   have z0:w.cell? ⟨Ak,0,none⟩=some (Value.string ⟨#[]⟩):=zA hw
   have y0:w.frozen? ⟨Ak,0,none⟩=false:=zD hw
   have z1:w.cell? ⟨Ak,1,none⟩=some (Value.string ⟨#[]⟩):=zA hw
   have y1:w.frozen? ⟨Ak,1,none⟩=false:=zD hw
   have z2:w.cell? ⟨Ak,2,none⟩=some (Value.string ⟨#[]⟩):=zA hw
   have y2:w.frozen? ⟨Ak,2,none⟩=false:=zD hw
   refine ⟨_,?_,(Wrote.set (i:=2) (Wrote.set (i:=1) (Wrote.set (i:=0) (Wrote.refl hw) (Value.string s0)) (Value.string s1)) (Value.string s2))⟩
   go_simp
 · refine ⟨_,rfl,rfl,rfl,fun cs b h=>(by cases h),fun w hw=>?_⟩
   replace hw:w.heap[Al]? = some (Obj.cells #[Value.string ⟨#[]⟩,Value.string ⟨#[]⟩,Value.string ⟨#[]⟩] 24):=hw
   have z0:w.cell? ⟨Al,0,none⟩=some (Value.string ⟨#[]⟩):=zA hw
   have y0:w.frozen? ⟨Al,0,none⟩=false:=zD hw
   have z1:w.cell? ⟨Al,1,none⟩=some (Value.string ⟨#[]⟩):=zA hw
   have y1:w.frozen? ⟨Al,1,none⟩=false:=zD hw
   have z2:w.cell? ⟨Al,2,none⟩=some (Value.string ⟨#[]⟩):=zA hw
   have y2:w.frozen? ⟨Al,2,none⟩=false:=zD hw
   refine ⟨_,?_,(Wrote.set (i:=2) (Wrote.set (i:=1) (Wrote.set (i:=0) (Wrote.refl hw) (Value.string t0)) (Value.string t1)) (Value.string t2))⟩
   go_simp
 intro w1 hk m0 m1 Ab Aa _
 clear Ap Aq Ar As At Au Av Aw
 replace a0:=zB hk a0
 replace a1:=zB hk a1
 obtain ⟨Ap,Aq,Ar,As⟩:=ce4 a0
 obtain ⟨At,Au,Av,Aw⟩:=ce4 a1
 replace hb:=hb.trans (hk.mono hb.size)
 clear hk
 replace Ab:w1.heap[Ak]? = some (Obj.cells #[Value.string s0,Value.string s1,Value.string s2] 24):=Ab
 have Af:w1.cell? ⟨Ak,0,none⟩=some (Value.string s0):=zA Ab
 have Ag:w1.cell? ⟨Ak,1,none⟩=some (Value.string s1):=zA Ab
 have Ah:w1.cell? ⟨Ak,2,none⟩=some (Value.string s2):=zA Ab
 replace Aa:w1.heap[Al]? = some (Obj.cells #[Value.string t0,Value.string t1,Value.string t2] 24):=Aa
 have Ac:w1.cell? ⟨Al,0,none⟩=some (Value.string t0):=zA Aa
 have Ad:w1.cell? ⟨Al,1,none⟩=some (Value.string t1):=zA Aa
 have Ae:w1.cell? ⟨Al,2,none⟩=some (Value.string t2):=zA Aa
 clear Bc Bd Bs Bt Bk Bl Bm Bn Bo Bp Bq Br m0 m1
 go_upto_region 4 with fail
 clear Ap Aq Ar As a0 At Au Av Aw a1
 obtain ⟨A6,A7,A8⟩:=cy3 Ab
 obtain ⟨A9,Ba,Bb⟩:=cy3 Aa
 have Bu:=rrV C8 R hb
 have Bv:=rrV C9 R hb
 have Bw:=rrV C10 R hb
 have Be:=qqV C8 R hb
 have Bf:=qqV C9 R hb
 have Bg:=qqV C10 R hb
 refine wp_free1 10 0 (fun i=>if i=10 then Obj.cells #[Value.string ⟨#[]⟩,Value.string ⟨#[]⟩,Value.string ⟨#[]⟩] 24 else Obj.cells #[] 0) (fun i=>if i=10 then Obj.cells #[Value.string p0,Value.string p1,Value.string p2] 24 else Obj.cells #[] 0) (some 7) (by first | assumption | kernel_rfl) (by kernel_rfl) ?lay rfl ?_
 case lay =>
   intro i h1 h2
   obtain rfl:i=10:=by omega
   all_goals exact ⟨_,rfl,rfl,fun a w=>(by first | (go_simp;done) | (go_simp;rfl))⟩
 simp only [List.take_succ_cons,List.take_zero]
 repeat (refine wpB_step (fun K hK=>?_);go_simp;first | (refine hK _ ?_;clear hK K) | (apply Exists.intro;refine ⟨fun _=>?_,hK _ ?_⟩;(first | (with_reducible exact Be.out _ _) | (with_reducible exact Bf.out _ _) | (with_reducible exact Bg.out _ _));clear hK K))
 refine wpB_nil ?_
 intro Am
 refine ⟨?_,?_⟩
 · refine ⟨_,rfl,rfl,rfl,fun cs b h=>(by cases h),fun w hw=>?_⟩
   replace hw:w.heap[Am]? = some (Obj.cells #[Value.string ⟨#[]⟩,Value.string ⟨#[]⟩,Value.string ⟨#[]⟩] 24):=hw
   have z0:w.cell? ⟨Am,0,none⟩=some (Value.string ⟨#[]⟩):=zA hw
   have y0:w.frozen? ⟨Am,0,none⟩=false:=zD hw
   have z1:w.cell? ⟨Am,1,none⟩=some (Value.string ⟨#[]⟩):=zA hw
   have y1:w.frozen? ⟨Am,1,none⟩=false:=zD hw
   have z2:w.cell? ⟨Am,2,none⟩=some (Value.string ⟨#[]⟩):=zA hw
   have y2:w.frozen? ⟨Am,2,none⟩=false:=zD hw
   refine ⟨_,?_,(Wrote.set (i:=2) (Wrote.set (i:=1) (Wrote.set (i:=0) (Wrote.refl hw) (Value.string p0)) (Value.string p1)) (Value.string p2))⟩
   go_simp
 intro w1 hk m0 Ai
 clear Af Ag Ah Ac Ad Ae
 replace Ab:=zB hk Ab
 replace Aa:=zB hk Aa
 obtain ⟨Af,Ag,Ah⟩:=ce3 Ab
 obtain ⟨Ac,Ad,Ae⟩:=ce3 Aa
 replace hb:=hb.trans (hk.mono hb.size)
 clear hk
 replace Ai:w1.heap[Am]? = some (Obj.cells #[Value.string p0,Value.string p1,Value.string p2] 24):=Ai
 have Ax:w1.cell? ⟨Am,0,none⟩=some (Value.string p0):=zA Ai
 have Ay:w1.cell? ⟨Am,1,none⟩=some (Value.string p1):=zA Ai
 have Az:w1.cell? ⟨Am,2,none⟩=some (Value.string p2):=zA Ai
 clear Be Bf Bg Bu Bv Bw A6 A7 A8 A9 Ba Bb m0
 go_upto_region 5 with fail
 obtain ⟨A6,A7,A8⟩:=cy3 Ab
 obtain ⟨A9,Ba,Bb⟩:=cy3 Aa
 obtain ⟨Bx,By,Bz⟩:=cy3 Ai
 have B0:=rrV C11 R hb
 have B1:=rrV C12 R hb
 have B2:=rrV C13 R hb
 have Bh:=qqV C11 R hb
 have Bi:=qqV C12 R hb
 have Bj:=qqV C13 R hb
 refine wp_free1 10 0 (fun i=>if i=10 then Obj.cells #[Value.string ⟨#[]⟩,Value.string ⟨#[]⟩,Value.string ⟨#[]⟩] 24 else Obj.cells #[] 0) (fun i=>if i=10 then Obj.cells #[Value.string u0,Value.string u1,Value.string u2] 24 else Obj.cells #[] 0) (some 8) (by first | assumption | kernel_rfl) (by kernel_rfl) ?lay rfl ?_
 case lay =>
   intro i h1 h2
   obtain rfl:i=10:=by omega
   all_goals exact ⟨_,rfl,rfl,fun a w=>(by first | (go_simp;done) | (go_simp;rfl))⟩
 simp only [List.take_succ_cons,List.take_zero]
 repeat (refine wpB_step (fun K hK=>?_);go_simp;first | (refine hK _ ?_;clear hK K) | (apply Exists.intro;refine ⟨fun _=>?_,hK _ ?_⟩;(first | (with_reducible exact Bh.out _ _) | (with_reducible exact Bi.out _ _) | (with_reducible exact Bj.out _ _));clear hK K))
 refine wpB_nil ?_
 intro An
 refine ⟨?_,?_⟩
 · refine ⟨_,rfl,rfl,rfl,fun cs b h=>(by cases h),fun w hw=>?_⟩
   replace hw:w.heap[An]? = some (Obj.cells #[Value.string ⟨#[]⟩,Value.string ⟨#[]⟩,Value.string ⟨#[]⟩] 24):=hw
   have z0:w.cell? ⟨An,0,none⟩=some (Value.string ⟨#[]⟩):=zA hw
   have y0:w.frozen? ⟨An,0,none⟩=false:=zD hw
   have z1:w.cell? ⟨An,1,none⟩=some (Value.string ⟨#[]⟩):=zA hw
   have y1:w.frozen? ⟨An,1,none⟩=false:=zD hw
   have z2:w.cell? ⟨An,2,none⟩=some (Value.string ⟨#[]⟩):=zA hw
   have y2:w.frozen? ⟨An,2,none⟩=false:=zD hw
   refine ⟨_,?_,(Wrote.set (i:=2) (Wrote.set (i:=1) (Wrote.set (i:=0) (Wrote.refl hw) (Value.string u0)) (Value.string u1)) (Value.string u2))⟩
   go_simp
 intro w1 hk m0 Aj
 clear Af Ag Ah Ac Ad Ae Ax Ay Az
 replace Ab:=zB hk Ab
 replace Aa:=zB hk Aa
 replace Ai:=zB hk Ai
 obtain ⟨Af,Ag,Ah⟩:=ce3 Ab
 obtain ⟨Ac,Ad,Ae⟩:=ce3 Aa
 obtain ⟨Ax,Ay,Az⟩:=ce3 Ai
 replace hb:=hb.trans (hk.mono hb.size)
 clear hk
 replace Aj:w1.heap[An]? = some (Obj.cells #[Value.string u0,Value.string u1,Value.string u2] 24):=Aj
 have A0:w1.cell? ⟨An,0,none⟩=some (Value.string u0):=zA Aj
 have A1:w1.cell? ⟨An,1,none⟩=some (Value.string u1):=zA Aj
 have A2:w1.cell? ⟨An,2,none⟩=some (Value.string u2):=zA Aj
 clear Bh Bi Bj B0 B1 B2 A6 A7 A8 A9 Ba Bb Bx By Bz m0
 go_upto_region 16 with (first | ((go_at_call 24;first | with_reducible refine (chVB hb R C14).mono ?_ | with_reducible refine (chVB hb R C15).mono ?_ | with_reducible refine (chVB hb R C16).mono ?_ | with_reducible refine (chVB hb R C17).mono ?_);clear hb;rintro e w1 ⟨rfl,hk,hb⟩;clear Af Ag Ah Ac Ad Ae Ax Ay Az A0 A1 A2;replace Ab:=zB hk Ab;replace Aa:=zB hk Aa;replace Ai:=zB hk Ai;replace Aj:=zB hk Aj;obtain ⟨Af,Ag,Ah⟩:=ce3 Ab;obtain ⟨Ac,Ad,Ae⟩:=ce3 Aa;obtain ⟨Ax,Ay,Az⟩:=ce3 Ai;obtain ⟨A0,A1,A2⟩:=ce3 Aj;clear hk) | (go_at_call 19;with_reducible refine (chVB hb R C18).mono ?_;clear hb;rintro e w1 ⟨rfl,hk,hb⟩;clear Af Ag Ah Ac Ad Ae A0 A1 A2;replace Ab:=zB hk Ab;replace Aa:=zB hk Aa;replace Aj:=zB hk Aj;obtain ⟨Af,Ag,Ah⟩:=ce3 Ab;obtain ⟨Ac,Ad,Ae⟩:=ce3 Aa;obtain ⟨A0,A1,A2⟩:=ce3 Aj;clear hk) | (go_at_call 22;with_reducible refine (chVB hb R C19).mono ?_;clear hb;rintro e w1 ⟨rfl,hk,hb⟩;clear Af Ag Ah Ac Ad Ae;replace Ab:=zB hk Ab;replace Aa:=zB hk Aa;obtain ⟨Af,Ag,Ah⟩:=ce3 Ab;obtain ⟨Ac,Ad,Ae⟩:=ce3 Aa;clear hk))
 clear Ax Ay Az Ai A0 A1 A2 Aj
 refine wp_alloc1 (fun w1 Ao hk=>?_)
 clear Af Ag Ah Ac Ad Ae
 replace Ab:=zB hk Ab
 replace Aa:=zB hk Aa
 obtain ⟨Af,Ag,Ah⟩:=ce3 Ab
 obtain ⟨Ac,Ad,Ae⟩:=ce3 Aa
 replace hb:=hb.trans (hk.mono hb.size)
 clear hk
 obtain ⟨A3,A4,A5⟩:=ce3 Ao
 go_wp2_with (first | (go_at_call 21;with_reducible refine (chVB hb R C20).mono ?_;clear hb;rintro e w1 ⟨rfl,hk,hb⟩;clear A3 A4 A5 Af Ag Ah Ac Ad Ae;replace Ao:=zB hk Ao;replace Ab:=zB hk Ab;replace Aa:=zB hk Aa;obtain ⟨A3,A4,A5⟩:=ce3 Ao;obtain ⟨Af,Ag,Ah⟩:=ce3 Ab;obtain ⟨Ac,Ad,Ae⟩:=ce3 Aa;clear hk) | (go_at_call 21;with_reducible refine (chVB hb R C21).mono ?_;clear hb;rintro e w1 ⟨rfl,hk,hb⟩;clear A3 A4 A5 Ac Ad Ae;replace Ao:=zB hk Ao;replace Aa:=zB hk Aa;obtain ⟨A3,A4,A5⟩:=ce3 Ao;obtain ⟨Ac,Ad,Ae⟩:=ce3 Aa;clear hk))
 first | go_ret | go_ret2 | go_ret3
 exact ⟨rfl,hb⟩
theorem llimbs_2d  (i0 i1 i2 j0 j1 j2 X0 X1 X2 Y0 Y1 Y2:Int) (d e:Int) (N:Int) (s0 s1 s2 t0 t1 t2 p0 p1 p2 u0 u1 u2:ByteArray) (ck:CV 12 #[] (.bool true)) (ca:CV 29 #[.agg #[.int .i8 i0,.int .i8 i1,.int .i8 i2,.int .u8 d]] (.agg #[.int .i64 X0,.int .i64 X1,.int .i64 X2])) (za:CV 28 #[.agg #[.int .i64 X0,.int .i64 X1,.int .i64 X2]] (.bool false)) (cb:CV 29 #[.agg #[.int .i8 j0,.int .i8 j1,.int .i8 j2,.int .u8 e]] (.agg #[.int .i64 Y0,.int .i64 Y1,.int .i64 Y2])) (zb:CV 28 #[.agg #[.int .i64 Y0,.int .i64 Y1,.int .i64 Y2]] (.bool false)) (ma:CV 30 #[.agg #[.int .i8 i0,.int .i8 i1,.int .i8 i2,.int .u8 d]] (.agg #[.string s0,.string s1,.string s2])) (mb:CV 30 #[.agg #[.int .i8 j0,.int .i8 j1,.int .i8 j2,.int .u8 e]] (.agg #[.string t0,.string t1,.string t2])) (nb0:CV 39 #[.string t0] (.string p0)) (na0:CV 39 #[.string s0] (.string u0)) (nb1:CV 39 #[.string t1] (.string p1)) (na1:CV 39 #[.string s1] (.string u1)) (nb2:CV 39 #[.string t2] (.string p2)) (na2:CV 39 #[.string s2] (.string u2)) (in1:CV 24 #[.agg #[.string s0,.string s1,.string s2],.agg #[.string t0,.string t1,.string t2]] (.tuple #[.int .i64 2,.int .i64 0])) (in2:CV 24 #[.agg #[.string t0,.string t1,.string t2],.agg #[.string s0,.string s1,.string s2]] (.tuple #[.int .i64 2,.int .i64 0])) (in3:CV 24 #[.agg #[.string u0,.string u1,.string u2],.agg #[.string p0,.string p1,.string p2]] (.tuple #[.int .i64 2,.int .i64 0])) (in4:CV 24 #[.agg #[.string s0,.string s1,.string s2],.agg #[.string p0,.string p1,.string p2]] (.tuple #[.int .i64 N,.int .i64 0])) (an:CV 19 #[.agg #[.string s0,.string s1,.string s2],.agg #[.string u0,.string u1,.string u2]] (.tuple #[.string ⟨#[49]⟩,.int .i64 0])) (it:CV 22 #[.agg #[.string s0,.string s1,.string s2],.agg #[.string t0,.string t1,.string t2]] (.tuple #[.agg #[.string ⟨#[]⟩,.string ⟨#[]⟩,.string ⟨#[]⟩],.int .i64 18])) (sm:CV 16 #[.agg #[.string s0,.string s1,.string s2],.agg #[.string t0,.string t1,.string t2]] (.tuple #[.bool true,.int .i64 0])) (w:World) (R:EnvV w) :
   Calls Tryz.prog 11 #[.agg #[.int .i8 i0,.int .i8 i1,.int .i8 i2,.int .u8 d],.agg #[.int .i8 j0,.int .i8 j1,.int .i8 j2,.int .u8 e]] w (Ret w (.bool true)):=by
 have c1:=ck
 have c2:=ca
 have c3:=za
 have c4:=cb
 have c5:=zb
 have c6:=ma
 have c7:=mb
 have c8:=nb0
 have c9:=nb1
 have c10:=nb2
 have c11:=na0
 have c12:=na1
 have c13:=na2
 have c14:=in1
 have c15:=in2
 have c16:=in3
 have c17:=in4
 have c18:=an
 have c19:=it
 have c20:=sm
 have C1:=Lib.hid c1
 have C2:=Lib.hid c2
 have C3:=Lib.hid c3
 have C4:=Lib.hid c4
 have C5:=Lib.hid c5
 have C6:=Lib.hid c6
 have C7:=Lib.hid c7
 have C8:=Lib.hid c8
 have C9:=Lib.hid c9
 have C10:=Lib.hid c10
 have C11:=Lib.hid c11
 have C12:=Lib.hid c12
 have C13:=Lib.hid c13
 have C14:=Lib.hid c14
 have C15:=Lib.hid c15
 have C16:=Lib.hid c16
 have C17:=Lib.hid c17
 have C18:=Lib.hid c18
 have C19:=Lib.hid c19
 have C20:=Lib.hid c20
 clear c1 c2 c3 c4 c5 c6 c7 c8 c9 c10 c11 c12 c13 c14 c15 c16 c17 c18 c19 c20 ck ca za cb zb ma mb nb0 na0 nb1 na1 nb2 na2 in1 in2 in3 in4 an it sm
 have hb:=Below.refl w.heap.size w
 go_enter Tryz.func11,Tryz.ntmps11
 go_upto_region 1 with fail
 refine wp_alloc2 (fun w1 a0 a1 hk=>?_)
 replace hb:=hb.trans (hk.mono hb.size)
 clear hk
 obtain ⟨Ao,Ap,Aq,Ar⟩:=ce4 a0
 obtain ⟨As,At,Au,Av⟩:=ce4 a1
 go_upto_region 3 with ((first | (go_at_call 12;with_reducible refine (chVB hb R C1).mono ?_) | (go_at_call 29;first | with_reducible refine (chVB hb R C2).mono ?_ | with_reducible refine (chVB hb R C4).mono ?_) | (go_at_call 28;first | with_reducible refine (chVB hb R C3).mono ?_ | with_reducible refine (chVB hb R C5).mono ?_));clear hb;rintro e w1 ⟨rfl,hk,hb⟩;clear Ao Ap Aq Ar As At Au Av;replace a0:=zB hk a0;replace a1:=zB hk a1;obtain ⟨Ao,Ap,Aq,Ar⟩:=ce4 a0;obtain ⟨As,At,Au,Av⟩:=ce4 a1;clear hk)
 obtain ⟨Bk,Bl,Bm,Bn⟩:=cy4 a0
 obtain ⟨Bo,Bp,Bq,Br⟩:=cy4 a1
 have Bs:=rrV C6 R hb
 have Bt:=rrV C7 R hb
 have A9:=qqV C6 R hb
 have Ba:=qqV C7 R hb
 refine wp_free2 4 0 (fun i=>if i=4 then Obj.cells #[Value.string ⟨#[]⟩,Value.string ⟨#[]⟩,Value.string ⟨#[]⟩] 24 else if i=5 then Obj.cells #[Value.string ⟨#[]⟩,Value.string ⟨#[]⟩,Value.string ⟨#[]⟩] 24 else Obj.cells #[] 0) (fun i=>if i=4 then Obj.cells #[Value.string s0,Value.string s1,Value.string s2] 24 else if i=5 then Obj.cells #[Value.string t0,Value.string t1,Value.string t2] 24 else Obj.cells #[] 0) (some 5) (some 6) (by first | assumption | kernel_rfl) (by kernel_rfl) ?lay rfl rfl ?_
 case lay =>
   intro i h1 h2
   obtain rfl | rfl:i=4∨i=5:=by omega
   all_goals exact ⟨_,rfl,rfl,fun a w=>(by first | (go_simp;done) | (go_simp;rfl))⟩
 simp only [List.take_succ_cons,List.take_zero]
 repeat (refine wpB_step (fun K hK=>?_);go_simp;first | (refine hK _ ?_;clear hK K) | (apply Exists.intro;refine ⟨fun _=>?_,hK _ ?_⟩;(first | (with_reducible exact A9.out _ _) | (with_reducible exact Ba.out _ _));clear hK K))
 refine wpB_nil ?_
 intro Ak Al
 refine ⟨?_,?_,?_⟩
 · refine ⟨_,rfl,rfl,rfl,fun cs b h=>(by cases h),fun w hw=>?_⟩
   replace hw:w.heap[Ak]? = some (Obj.cells #[Value.string ⟨#[]⟩,Value.string ⟨#[]⟩,Value.string ⟨#[]⟩] 24):=hw
   have z0:w.cell? ⟨Ak,0,none⟩=some (Value.string ⟨#[]⟩):=zA hw
   have y0:w.frozen? ⟨Ak,0,none⟩=false:=zD hw
   have z1:w.cell? ⟨Ak,1,none⟩=some (Value.string ⟨#[]⟩):=zA hw
   have y1:w.frozen? ⟨Ak,1,none⟩=false:=zD hw
   have z2:w.cell? ⟨Ak,2,none⟩=some (Value.string ⟨#[]⟩):=zA hw
   have y2:w.frozen? ⟨Ak,2,none⟩=false:=zD hw
   refine ⟨_,?_,(Wrote.set (i:=2) (Wrote.set (i:=1) (Wrote.set (i:=0) (Wrote.refl hw) (Value.string s0)) (Value.string s1)) (Value.string s2))⟩
   go_simp
 · refine ⟨_,rfl,rfl,rfl,fun cs b h=>(by cases h),fun w hw=>?_⟩
   replace hw:w.heap[Al]? = some (Obj.cells #[Value.string ⟨#[]⟩,Value.string ⟨#[]⟩,Value.string ⟨#[]⟩] 24):=hw
   have z0:w.cell? ⟨Al,0,none⟩=some (Value.string ⟨#[]⟩):=zA hw
   have y0:w.frozen? ⟨Al,0,none⟩=false:=zD hw
   have z1:w.cell? ⟨Al,1,none⟩=some (Value.string ⟨#[]⟩):=zA hw
   have y1:w.frozen? ⟨Al,1,none⟩=false:=zD hw
   have z2:w.cell? ⟨Al,2,none⟩=some (Value.string ⟨#[]⟩):=zA hw
   have y2:w.frozen? ⟨Al,2,none⟩=false:=zD hw
   refine ⟨_,?_,(Wrote.set (i:=2) (Wrote.set (i:=1) (Wrote.set (i:=0) (Wrote.refl hw) (Value.string t0)) (Value.string t1)) (Value.string t2))⟩
   go_simp
 intro w1 hk m0 m1 Aa Ab _
 clear Ao Ap Aq Ar As At Au Av
 replace a0:=zB hk a0
 replace a1:=zB hk a1
 obtain ⟨Ao,Ap,Aq,Ar⟩:=ce4 a0
 obtain ⟨As,At,Au,Av⟩:=ce4 a1
 replace hb:=hb.trans (hk.mono hb.size)
 clear hk
 replace Aa:w1.heap[Ak]? = some (Obj.cells #[Value.string s0,Value.string s1,Value.string s2] 24):=Aa
 have Ac:w1.cell? ⟨Ak,0,none⟩=some (Value.string s0):=zA Aa
 have Ad:w1.cell? ⟨Ak,1,none⟩=some (Value.string s1):=zA Aa
 have Ae:w1.cell? ⟨Ak,2,none⟩=some (Value.string s2):=zA Aa
 replace Ab:w1.heap[Al]? = some (Obj.cells #[Value.string t0,Value.string t1,Value.string t2] 24):=Ab
 have Af:w1.cell? ⟨Al,0,none⟩=some (Value.string t0):=zA Ab
 have Ag:w1.cell? ⟨Al,1,none⟩=some (Value.string t1):=zA Ab
 have Ah:w1.cell? ⟨Al,2,none⟩=some (Value.string t2):=zA Ab
 clear A9 Ba Bs Bt Bk Bl Bm Bn Bo Bp Bq Br m0 m1
 go_upto_region 4 with fail
 clear Ao Ap Aq Ar a0 As At Au Av a1
 obtain ⟨A3,A4,A5⟩:=cy3 Aa
 obtain ⟨A6,A7,A8⟩:=cy3 Ab
 have Bu:=rrV C8 R hb
 have Bv:=rrV C9 R hb
 have Bw:=rrV C10 R hb
 have Bb:=qqV C8 R hb
 have Bc:=qqV C9 R hb
 have Bd:=qqV C10 R hb
 refine wp_free1 10 0 (fun i=>if i=10 then Obj.cells #[Value.string ⟨#[]⟩,Value.string ⟨#[]⟩,Value.string ⟨#[]⟩] 24 else Obj.cells #[] 0) (fun i=>if i=10 then Obj.cells #[Value.string p0,Value.string p1,Value.string p2] 24 else Obj.cells #[] 0) (some 7) (by first | assumption | kernel_rfl) (by kernel_rfl) ?lay rfl ?_
 case lay =>
   intro i h1 h2
   obtain rfl:i=10:=by omega
   all_goals exact ⟨_,rfl,rfl,fun a w=>(by first | (go_simp;done) | (go_simp;rfl))⟩
 simp only [List.take_succ_cons,List.take_zero]
 repeat (refine wpB_step (fun K hK=>?_);go_simp;first | (refine hK _ ?_;clear hK K) | (apply Exists.intro;refine ⟨fun _=>?_,hK _ ?_⟩;(first | (with_reducible exact Bb.out _ _) | (with_reducible exact Bc.out _ _) | (with_reducible exact Bd.out _ _));clear hK K))
 refine wpB_nil ?_
 intro Am
 refine ⟨?_,?_⟩
 · refine ⟨_,rfl,rfl,rfl,fun cs b h=>(by cases h),fun w hw=>?_⟩
   replace hw:w.heap[Am]? = some (Obj.cells #[Value.string ⟨#[]⟩,Value.string ⟨#[]⟩,Value.string ⟨#[]⟩] 24):=hw
   have z0:w.cell? ⟨Am,0,none⟩=some (Value.string ⟨#[]⟩):=zA hw
   have y0:w.frozen? ⟨Am,0,none⟩=false:=zD hw
   have z1:w.cell? ⟨Am,1,none⟩=some (Value.string ⟨#[]⟩):=zA hw
   have y1:w.frozen? ⟨Am,1,none⟩=false:=zD hw
   have z2:w.cell? ⟨Am,2,none⟩=some (Value.string ⟨#[]⟩):=zA hw
   have y2:w.frozen? ⟨Am,2,none⟩=false:=zD hw
   refine ⟨_,?_,(Wrote.set (i:=2) (Wrote.set (i:=1) (Wrote.set (i:=0) (Wrote.refl hw) (Value.string p0)) (Value.string p1)) (Value.string p2))⟩
   go_simp
 intro w1 hk m0 Ai
 clear Ac Ad Ae Af Ag Ah
 replace Aa:=zB hk Aa
 replace Ab:=zB hk Ab
 obtain ⟨Ac,Ad,Ae⟩:=ce3 Aa
 obtain ⟨Af,Ag,Ah⟩:=ce3 Ab
 replace hb:=hb.trans (hk.mono hb.size)
 clear hk
 replace Ai:w1.heap[Am]? = some (Obj.cells #[Value.string p0,Value.string p1,Value.string p2] 24):=Ai
 have Aw:w1.cell? ⟨Am,0,none⟩=some (Value.string p0):=zA Ai
 have Ax:w1.cell? ⟨Am,1,none⟩=some (Value.string p1):=zA Ai
 have Ay:w1.cell? ⟨Am,2,none⟩=some (Value.string p2):=zA Ai
 clear Bb Bc Bd Bu Bv Bw A3 A4 A5 A6 A7 A8 m0
 go_upto_region 5 with fail
 obtain ⟨A3,A4,A5⟩:=cy3 Aa
 obtain ⟨A6,A7,A8⟩:=cy3 Ab
 obtain ⟨Bx,By,Bz⟩:=cy3 Ai
 have B0:=rrV C11 R hb
 have B1:=rrV C12 R hb
 have B2:=rrV C13 R hb
 have Be:=qqV C11 R hb
 have Bf:=qqV C12 R hb
 have Bg:=qqV C13 R hb
 refine wp_free1 10 0 (fun i=>if i=10 then Obj.cells #[Value.string ⟨#[]⟩,Value.string ⟨#[]⟩,Value.string ⟨#[]⟩] 24 else Obj.cells #[] 0) (fun i=>if i=10 then Obj.cells #[Value.string u0,Value.string u1,Value.string u2] 24 else Obj.cells #[] 0) (some 8) (by first | assumption | kernel_rfl) (by kernel_rfl) ?lay rfl ?_
 case lay =>
   intro i h1 h2
   obtain rfl:i=10:=by omega
   all_goals exact ⟨_,rfl,rfl,fun a w=>(by first | (go_simp;done) | (go_simp;rfl))⟩
 simp only [List.take_succ_cons,List.take_zero]
 repeat (refine wpB_step (fun K hK=>?_);go_simp;first | (refine hK _ ?_;clear hK K) | (apply Exists.intro;refine ⟨fun _=>?_,hK _ ?_⟩;(first | (with_reducible exact Be.out _ _) | (with_reducible exact Bf.out _ _) | (with_reducible exact Bg.out _ _));clear hK K))
 refine wpB_nil ?_
 intro An
 refine ⟨?_,?_⟩
 · refine ⟨_,rfl,rfl,rfl,fun cs b h=>(by cases h),fun w hw=>?_⟩
   replace hw:w.heap[An]? = some (Obj.cells #[Value.string ⟨#[]⟩,Value.string ⟨#[]⟩,Value.string ⟨#[]⟩] 24):=hw
   have z0:w.cell? ⟨An,0,none⟩=some (Value.string ⟨#[]⟩):=zA hw
   have y0:w.frozen? ⟨An,0,none⟩=false:=zD hw
   have z1:w.cell? ⟨An,1,none⟩=some (Value.string ⟨#[]⟩):=zA hw
   have y1:w.frozen? ⟨An,1,none⟩=false:=zD hw
   have z2:w.cell? ⟨An,2,none⟩=some (Value.string ⟨#[]⟩):=zA hw
   have y2:w.frozen? ⟨An,2,none⟩=false:=zD hw
   refine ⟨_,?_,(Wrote.set (i:=2) (Wrote.set (i:=1) (Wrote.set (i:=0) (Wrote.refl hw) (Value.string u0)) (Value.string u1)) (Value.string u2))⟩
   go_simp
 intro w1 hk m0 Aj
 clear Ac Ad Ae Af Ag Ah Aw Ax Ay
 replace Aa:=zB hk Aa
 replace Ab:=zB hk Ab
 replace Ai:=zB hk Ai
 obtain ⟨Ac,Ad,Ae⟩:=ce3 Aa
 obtain ⟨Af,Ag,Ah⟩:=ce3 Ab
 obtain ⟨Aw,Ax,Ay⟩:=ce3 Ai
 replace hb:=hb.trans (hk.mono hb.size)
 clear hk
 replace Aj:w1.heap[An]? = some (Obj.cells #[Value.string u0,Value.string u1,Value.string u2] 24):=Aj
 have Az:w1.cell? ⟨An,0,none⟩=some (Value.string u0):=zA Aj
 have A0:w1.cell? ⟨An,1,none⟩=some (Value.string u1):=zA Aj
 have A1:w1.cell? ⟨An,2,none⟩=some (Value.string u2):=zA Aj
 clear Be Bf Bg B0 B1 B2 A3 A4 A5 A6 A7 A8 Bx By Bz m0
 go_upto_region 16 with (first | ((go_at_call 24;first | with_reducible refine (chVB hb R C14).mono ?_ | with_reducible refine (chVB hb R C15).mono ?_ | with_reducible refine (chVB hb R C16).mono ?_ | with_reducible refine (chVB hb R C17).mono ?_);clear hb;rintro e w1 ⟨rfl,hk,hb⟩;clear Ac Ad Ae Af Ag Ah Aw Ax Ay Az A0 A1;replace Aa:=zB hk Aa;replace Ab:=zB hk Ab;replace Ai:=zB hk Ai;replace Aj:=zB hk Aj;obtain ⟨Ac,Ad,Ae⟩:=ce3 Aa;obtain ⟨Af,Ag,Ah⟩:=ce3 Ab;obtain ⟨Aw,Ax,Ay⟩:=ce3 Ai;obtain ⟨Az,A0,A1⟩:=ce3 Aj;clear hk) | (go_at_call 19;with_reducible refine (chVB hb R C18).mono ?_;clear hb;rintro e w1 ⟨rfl,hk,hb⟩;clear Ac Ad Ae Af Ag Ah Az A0 A1;replace Aa:=zB hk Aa;replace Ab:=zB hk Ab;replace Aj:=zB hk Aj;obtain ⟨Ac,Ad,Ae⟩:=ce3 Aa;obtain ⟨Af,Ag,Ah⟩:=ce3 Ab;obtain ⟨Az,A0,A1⟩:=ce3 Aj;clear hk) | (go_at_call 22;with_reducible refine (chVB hb R C19).mono ?_;clear hb;rintro e w1 ⟨rfl,hk,hb⟩;clear Ac Ad Ae Af Ag Ah;replace Aa:=zB hk Aa;replace Ab:=zB hk Ab;obtain ⟨Ac,Ad,Ae⟩:=ce3 Aa;obtain ⟨Af,Ag,Ah⟩:=ce3 Ab;clear hk))
 clear Aw Ax Ay Ai Az A0 A1 Aj
 refine wp_alloc1 (fun w1 A2 hk=>?_)
 clear Ac Ad Ae Af Ag Ah
 replace Aa:=zB hk Aa
 replace Ab:=zB hk Ab
 obtain ⟨Ac,Ad,Ae⟩:=ce3 Aa
 obtain ⟨Af,Ag,Ah⟩:=ce3 Ab
 replace hb:=hb.trans (hk.mono hb.size)
 clear hk
 obtain ⟨Bh,Bi,Bj⟩:=ce3 A2
 go_wp2_with (go_at_call 16;with_reducible refine (chVB hb R C20).mono ?_;clear hb;rintro e w1 ⟨rfl,hk,hb⟩;clear Bh Bi Bj Ac Ad Ae Af Ag Ah;replace A2:=zB hk A2;replace Aa:=zB hk Aa;replace Ab:=zB hk Ab;obtain ⟨Bh,Bi,Bj⟩:=ce3 A2;obtain ⟨Ac,Ad,Ae⟩:=ce3 Aa;obtain ⟨Af,Ag,Ah⟩:=ce3 Ab;clear hk)
 first | go_ret | go_ret2 | go_ret3
 exact ⟨rfl,hb⟩
theorem llimbs_3m  (i0 i1 i2 j0 j1 j2 X0 X1 X2 Y0 Y1 Y2:Int) (d e:Int) (N:Int) (s0 s1 s2 t0 t1 t2 p0 p1 p2 u0 u1 u2 v0 v1 v2:ByteArray) (ck:CV 12 #[] (.bool true)) (ca:CV 29 #[.agg #[.int .i8 i0,.int .i8 i1,.int .i8 i2,.int .u8 d]] (.agg #[.int .i64 X0,.int .i64 X1,.int .i64 X2])) (za:CV 28 #[.agg #[.int .i64 X0,.int .i64 X1,.int .i64 X2]] (.bool false)) (cb:CV 29 #[.agg #[.int .i8 j0,.int .i8 j1,.int .i8 j2,.int .u8 e]] (.agg #[.int .i64 Y0,.int .i64 Y1,.int .i64 Y2])) (zb:CV 28 #[.agg #[.int .i64 Y0,.int .i64 Y1,.int .i64 Y2]] (.bool false)) (ma:CV 30 #[.agg #[.int .i8 i0,.int .i8 i1,.int .i8 i2,.int .u8 d]] (.agg #[.string s0,.string s1,.string s2])) (mb:CV 30 #[.agg #[.int .i8 j0,.int .i8 j1,.int .i8 j2,.int .u8 e]] (.agg #[.string t0,.string t1,.string t2])) (nb0:CV 39 #[.string t0] (.string p0)) (na0:CV 39 #[.string s0] (.string u0)) (nb1:CV 39 #[.string t1] (.string p1)) (na1:CV 39 #[.string s1] (.string u1)) (nb2:CV 39 #[.string t2] (.string p2)) (na2:CV 39 #[.string s2] (.string u2)) (in1:CV 24 #[.agg #[.string s0,.string s1,.string s2],.agg #[.string t0,.string t1,.string t2]] (.tuple #[.int .i64 3,.int .i64 0])) (in2:CV 24 #[.agg #[.string t0,.string t1,.string t2],.agg #[.string s0,.string s1,.string s2]] (.tuple #[.int .i64 3,.int .i64 0])) (in3:CV 24 #[.agg #[.string u0,.string u1,.string u2],.agg #[.string p0,.string p1,.string p2]] (.tuple #[.int .i64 3,.int .i64 0])) (in4:CV 24 #[.agg #[.string s0,.string s1,.string s2],.agg #[.string p0,.string p1,.string p2]] (.tuple #[.int .i64 N,.int .i64 0])) (an:CV 19 #[.agg #[.string s0,.string s1,.string s2],.agg #[.string u0,.string u1,.string u2]] (.tuple #[.string ⟨#[49]⟩,.int .i64 0])) (it:CV 22 #[.agg #[.string s0,.string s1,.string s2],.agg #[.string t0,.string t1,.string t2]] (.tuple #[.agg #[.string v0,.string v1,.string v2],.int .i64 0])) (li1:CV 21 #[.agg #[.string s0,.string s1,.string s2],.agg #[.string v0,.string v1,.string v2]] (.tuple #[.bool true,.int .i64 0])) (li2:CV 21 #[.agg #[.string t0,.string t1,.string t2],.agg #[.string v0,.string v1,.string v2]] (.tuple #[.bool true,.int .i64 0])) (w:World) (R:EnvV w) :
   Calls Tryz.prog 11 #[.agg #[.int .i8 i0,.int .i8 i1,.int .i8 i2,.int .u8 d],.agg #[.int .i8 j0,.int .i8 j1,.int .i8 j2,.int .u8 e]] w (Ret w (.bool true)):=by
 have c1:=ck
 have c2:=ca
 have c3:=za
 have c4:=cb
 have c5:=zb
 have c6:=ma
 have c7:=mb
 have c8:=nb0
 have c9:=nb1
 have c10:=nb2
 have c11:=na0
 have c12:=na1
 have c13:=na2
 have c14:=in1
 have c15:=in2
 have c16:=in3
 have c17:=in4
 have c18:=an
 have c19:=it
 have c20:=li1
 have c21:=li2
 have C1:=Lib.hid c1
 have C2:=Lib.hid c2
 have C3:=Lib.hid c3
 have C4:=Lib.hid c4
 have C5:=Lib.hid c5
 have C6:=Lib.hid c6
 have C7:=Lib.hid c7
 have C8:=Lib.hid c8
 have C9:=Lib.hid c9
 have C10:=Lib.hid c10
 have C11:=Lib.hid c11
 have C12:=Lib.hid c12
 have C13:=Lib.hid c13
 have C14:=Lib.hid c14
 have C15:=Lib.hid c15
 have C16:=Lib.hid c16
 have C17:=Lib.hid c17
 have C18:=Lib.hid c18
 have C19:=Lib.hid c19
 have C20:=Lib.hid c20
 have C21:=Lib.hid c21
 clear c1 c2 c3 c4 c5 c6 c7 c8 c9 c10 c11 c12 c13 c14 c15 c16 c17 c18 c19 c20 c21 ck ca za cb zb ma mb nb0 na0 nb1 na1 nb2 na2 in1 in2 in3 in4 an it li1 li2
 have hb:=Below.refl w.heap.size w
 go_enter Tryz.func11,Tryz.ntmps11
 go_upto_region 1 with fail
 refine wp_alloc2 (fun w1 a0 a1 hk=>?_)
 replace hb:=hb.trans (hk.mono hb.size)
 clear hk
 obtain ⟨Ap,Aq,Ar,As⟩:=ce4 a0
 obtain ⟨At,Au,Av,Aw⟩:=ce4 a1
 go_upto_region 3 with ((first | (go_at_call 12;with_reducible refine (chVB hb R C1).mono ?_) | (go_at_call 29;first | with_reducible refine (chVB hb R C2).mono ?_ | with_reducible refine (chVB hb R C4).mono ?_) | (go_at_call 28;first | with_reducible refine (chVB hb R C3).mono ?_ | with_reducible refine (chVB hb R C5).mono ?_));clear hb;rintro e w1 ⟨rfl,hk,hb⟩;clear Ap Aq Ar As At Au Av Aw;replace a0:=zB hk a0;replace a1:=zB hk a1;obtain ⟨Ap,Aq,Ar,As⟩:=ce4 a0;obtain ⟨At,Au,Av,Aw⟩:=ce4 a1;clear hk)
 obtain ⟨Bk,Bl,Bm,Bn⟩:=cy4 a0
 obtain ⟨Bo,Bp,Bq,Br⟩:=cy4 a1
 have Bs:=rrV C6 R hb
 have Bt:=rrV C7 R hb
 have Bc:=qqV C6 R hb
 have Bd:=qqV C7 R hb
 refine wp_free2 4 0 (fun i=>if i=4 then Obj.cells #[Value.string ⟨#[]⟩,Value.string ⟨#[]⟩,Value.string ⟨#[]⟩] 24 else if i=5 then Obj.cells #[Value.string ⟨#[]⟩,Value.string ⟨#[]⟩,Value.string ⟨#[]⟩] 24 else Obj.cells #[] 0) (fun i=>if i=4 then Obj.cells #[Value.string s0,Value.string s1,Value.string s2] 24 else if i=5 then Obj.cells #[Value.string t0,Value.string t1,Value.string t2] 24 else Obj.cells #[] 0) (some 5) (some 6) (by first | assumption | kernel_rfl) (by kernel_rfl) ?lay rfl rfl ?_
 case lay =>
   intro i h1 h2
   obtain rfl | rfl:i=4∨i=5:=by omega
   all_goals exact ⟨_,rfl,rfl,fun a w=>(by first | (go_simp;done) | (go_simp;rfl))⟩
 simp only [List.take_succ_cons,List.take_zero]
 repeat (refine wpB_step (fun K hK=>?_);go_simp;first | (refine hK _ ?_;clear hK K) | (apply Exists.intro;refine ⟨fun _=>?_,hK _ ?_⟩;(first | (with_reducible exact Bc.out _ _) | (with_reducible exact Bd.out _ _));clear hK K))
 refine wpB_nil ?_
 intro Ak Al
 refine ⟨?_,?_,?_⟩
 · refine ⟨_,rfl,rfl,rfl,fun cs b h=>(by cases h),fun w hw=>?_⟩
   replace hw:w.heap[Ak]? = some (Obj.cells #[Value.string ⟨#[]⟩,Value.string ⟨#[]⟩,Value.string ⟨#[]⟩] 24):=hw
   have z0:w.cell? ⟨Ak,0,none⟩=some (Value.string ⟨#[]⟩):=zA hw
   have y0:w.frozen? ⟨Ak,0,none⟩=false:=zD hw
   have z1:w.cell? ⟨Ak,1,none⟩=some (Value.string ⟨#[]⟩):=zA hw
   have y1:w.frozen? ⟨Ak,1,none⟩=false:=zD hw
   have z2:w.cell? ⟨Ak,2,none⟩=some (Value.string ⟨#[]⟩):=zA hw
   have y2:w.frozen? ⟨Ak,2,none⟩=false:=zD hw
   refine ⟨_,?_,(Wrote.set (i:=2) (Wrote.set (i:=1) (Wrote.set (i:=0) (Wrote.refl hw) (Value.string s0)) (Value.string s1)) (Value.string s2))⟩
   go_simp
 · refine ⟨_,rfl,rfl,rfl,fun cs b h=>(by cases h),fun w hw=>?_⟩
   replace hw:w.heap[Al]? = some (Obj.cells #[Value.string ⟨#[]⟩,Value.string ⟨#[]⟩,Value.string ⟨#[]⟩] 24):=hw
   have z0:w.cell? ⟨Al,0,none⟩=some (Value.string ⟨#[]⟩):=zA hw
   have y0:w.frozen? ⟨Al,0,none⟩=false:=zD hw
   have z1:w.cell? ⟨Al,1,none⟩=some (Value.string ⟨#[]⟩):=zA hw
   have y1:w.frozen? ⟨Al,1,none⟩=false:=zD hw
   have z2:w.cell? ⟨Al,2,none⟩=some (Value.string ⟨#[]⟩):=zA hw
   have y2:w.frozen? ⟨Al,2,none⟩=false:=zD hw
   refine ⟨_,?_,(Wrote.set (i:=2) (Wrote.set (i:=1) (Wrote.set (i:=0) (Wrote.refl hw) (Value.string t0)) (Value.string t1)) (Value.string t2))⟩
   go_simp
 intro w1 hk m0 m1 Ab Aa _
 clear Ap Aq Ar As At Au Av Aw
 replace a0:=zB hk a0
 replace a1:=zB hk a1
 obtain ⟨Ap,Aq,Ar,As⟩:=ce4 a0
 obtain ⟨At,Au,Av,Aw⟩:=ce4 a1
 replace hb:=hb.trans (hk.mono hb.size)
 clear hk
 replace Ab:w1.heap[Ak]? = some (Obj.cells #[Value.string s0,Value.string s1,Value.string s2] 24):=Ab
 have Af:w1.cell? ⟨Ak,0,none⟩=some (Value.string s0):=zA Ab
 have Ag:w1.cell? ⟨Ak,1,none⟩=some (Value.string s1):=zA Ab
 have Ah:w1.cell? ⟨Ak,2,none⟩=some (Value.string s2):=zA Ab
 replace Aa:w1.heap[Al]? = some (Obj.cells #[Value.string t0,Value.string t1,Value.string t2] 24):=Aa
 have Ac:w1.cell? ⟨Al,0,none⟩=some (Value.string t0):=zA Aa
 have Ad:w1.cell? ⟨Al,1,none⟩=some (Value.string t1):=zA Aa
 have Ae:w1.cell? ⟨Al,2,none⟩=some (Value.string t2):=zA Aa
 clear Bc Bd Bs Bt Bk Bl Bm Bn Bo Bp Bq Br m0 m1
 go_upto_region 4 with fail
 clear Ap Aq Ar As a0 At Au Av Aw a1
 obtain ⟨A6,A7,A8⟩:=cy3 Ab
 obtain ⟨A9,Ba,Bb⟩:=cy3 Aa
 have Bu:=rrV C8 R hb
 have Bv:=rrV C9 R hb
 have Bw:=rrV C10 R hb
 have Be:=qqV C8 R hb
 have Bf:=qqV C9 R hb
 have Bg:=qqV C10 R hb
 refine wp_free1 10 0 (fun i=>if i=10 then Obj.cells #[Value.string ⟨#[]⟩,Value.string ⟨#[]⟩,Value.string ⟨#[]⟩] 24 else Obj.cells #[] 0) (fun i=>if i=10 then Obj.cells #[Value.string p0,Value.string p1,Value.string p2] 24 else Obj.cells #[] 0) (some 7) (by first | assumption | kernel_rfl) (by kernel_rfl) ?lay rfl ?_
 case lay =>
   intro i h1 h2
   obtain rfl:i=10:=by omega
   all_goals exact ⟨_,rfl,rfl,fun a w=>(by first | (go_simp;done) | (go_simp;rfl))⟩
 simp only [List.take_succ_cons,List.take_zero]
 repeat (refine wpB_step (fun K hK=>?_);go_simp;first | (refine hK _ ?_;clear hK K) | (apply Exists.intro;refine ⟨fun _=>?_,hK _ ?_⟩;(first | (with_reducible exact Be.out _ _) | (with_reducible exact Bf.out _ _) | (with_reducible exact Bg.out _ _));clear hK K))
 refine wpB_nil ?_
 intro Am
 refine ⟨?_,?_⟩
 · refine ⟨_,rfl,rfl,rfl,fun cs b h=>(by cases h),fun w hw=>?_⟩
   replace hw:w.heap[Am]? = some (Obj.cells #[Value.string ⟨#[]⟩,Value.string ⟨#[]⟩,Value.string ⟨#[]⟩] 24):=hw
   have z0:w.cell? ⟨Am,0,none⟩=some (Value.string ⟨#[]⟩):=zA hw
   have y0:w.frozen? ⟨Am,0,none⟩=false:=zD hw
   have z1:w.cell? ⟨Am,1,none⟩=some (Value.string ⟨#[]⟩):=zA hw
   have y1:w.frozen? ⟨Am,1,none⟩=false:=zD hw
   have z2:w.cell? ⟨Am,2,none⟩=some (Value.string ⟨#[]⟩):=zA hw
   have y2:w.frozen? ⟨Am,2,none⟩=false:=zD hw
   refine ⟨_,?_,(Wrote.set (i:=2) (Wrote.set (i:=1) (Wrote.set (i:=0) (Wrote.refl hw) (Value.string p0)) (Value.string p1)) (Value.string p2))⟩
   go_simp
 intro w1 hk m0 Ai
 clear Af Ag Ah Ac Ad Ae
 replace Ab:=zB hk Ab
 replace Aa:=zB hk Aa
 obtain ⟨Af,Ag,Ah⟩:=ce3 Ab
 obtain ⟨Ac,Ad,Ae⟩:=ce3 Aa
 replace hb:=hb.trans (hk.mono hb.size)
 clear hk
 replace Ai:w1.heap[Am]? = some (Obj.cells #[Value.string p0,Value.string p1,Value.string p2] 24):=Ai
 have Ax:w1.cell? ⟨Am,0,none⟩=some (Value.string p0):=zA Ai
 have Ay:w1.cell? ⟨Am,1,none⟩=some (Value.string p1):=zA Ai
 have Az:w1.cell? ⟨Am,2,none⟩=some (Value.string p2):=zA Ai
 clear Be Bf Bg Bu Bv Bw A6 A7 A8 A9 Ba Bb m0
 go_upto_region 5 with fail
 obtain ⟨A6,A7,A8⟩:=cy3 Ab
 obtain ⟨A9,Ba,Bb⟩:=cy3 Aa
 obtain ⟨Bx,By,Bz⟩:=cy3 Ai
 have B0:=rrV C11 R hb
 have B1:=rrV C12 R hb
 have B2:=rrV C13 R hb
 have Bh:=qqV C11 R hb
 have Bi:=qqV C12 R hb
 have Bj:=qqV C13 R hb
 refine wp_free1 10 0 (fun i=>if i=10 then Obj.cells #[Value.string ⟨#[]⟩,Value.string ⟨#[]⟩,Value.string ⟨#[]⟩] 24 else Obj.cells #[] 0) (fun i=>if i=10 then Obj.cells #[Value.string u0,Value.string u1,Value.string u2] 24 else Obj.cells #[] 0) (some 8) (by first | assumption | kernel_rfl) (by kernel_rfl) ?lay rfl ?_
 case lay =>
   intro i h1 h2
   obtain rfl:i=10:=by omega
   all_goals exact ⟨_,rfl,rfl,fun a w=>(by first | (go_simp;done) | (go_simp;rfl))⟩
 simp only [List.take_succ_cons,List.take_zero]
 repeat (refine wpB_step (fun K hK=>?_);go_simp;first | (refine hK _ ?_;clear hK K) | (apply Exists.intro;refine ⟨fun _=>?_,hK _ ?_⟩;(first | (with_reducible exact Bh.out _ _) | (with_reducible exact Bi.out _ _) | (with_reducible exact Bj.out _ _));clear hK K))
 refine wpB_nil ?_
 intro An
 refine ⟨?_,?_⟩
 · refine ⟨_,rfl,rfl,rfl,fun cs b h=>(by cases h),fun w hw=>?_⟩
   replace hw:w.heap[An]? = some (Obj.cells #[Value.string ⟨#[]⟩,Value.string ⟨#[]⟩,Value.string ⟨#[]⟩] 24):=hw
   have z0:w.cell? ⟨An,0,none⟩=some (Value.string ⟨#[]⟩):=zA hw
   have y0:w.frozen? ⟨An,0,none⟩=false:=zD hw
   have z1:w.cell? ⟨An,1,none⟩=some (Value.string ⟨#[]⟩):=zA hw
   have y1:w.frozen? ⟨An,1,none⟩=false:=zD hw
   have z2:w.cell? ⟨An,2,none⟩=some (Value.string ⟨#[]⟩):=zA hw
   have y2:w.frozen? ⟨An,2,none⟩=false:=zD hw
   refine ⟨_,?_,(Wrote.set (i:=2) (Wrote.set (i:=1) (Wrote.set (i:=0) (Wrote.refl hw) (Value.string u0)) (Value.string u1)) (Value.string u2))⟩
   go_simp
 intro w1 hk m0 Aj
 clear Af Ag Ah Ac Ad Ae Ax Ay Az
 replace Ab:=zB hk Ab
 replace Aa:=zB hk Aa
 replace Ai:=zB hk Ai
 obtain ⟨Af,Ag,Ah⟩:=ce3 Ab
 obtain ⟨Ac,Ad,Ae⟩:=ce3 Aa
 obtain ⟨Ax,Ay,Az⟩:=ce3 Ai
 replace hb:=hb.trans (hk.mono hb.size)
 clear hk
 replace Aj:w1.heap[An]? = some (Obj.cells #[Value.string u0,Value.string u1,Value.string u2] 24):=Aj
 have A0:w1.cell? ⟨An,0,none⟩=some (Value.string u0):=zA Aj
 have A1:w1.cell? ⟨An,1,none⟩=some (Value.string u1):=zA Aj
 have A2:w1.cell? ⟨An,2,none⟩=some (Value.string u2):=zA Aj
 clear Bh Bi Bj B0 B1 B2 A6 A7 A8 A9 Ba Bb Bx By Bz m0
 go_upto_region 16 with (first | ((go_at_call 24;first | with_reducible refine (chVB hb R C14).mono ?_ | with_reducible refine (chVB hb R C15).mono ?_ | with_reducible refine (chVB hb R C16).mono ?_ | with_reducible refine (chVB hb R C17).mono ?_);clear hb;rintro e w1 ⟨rfl,hk,hb⟩;clear Af Ag Ah Ac Ad Ae Ax Ay Az A0 A1 A2;replace Ab:=zB hk Ab;replace Aa:=zB hk Aa;replace Ai:=zB hk Ai;replace Aj:=zB hk Aj;obtain ⟨Af,Ag,Ah⟩:=ce3 Ab;obtain ⟨Ac,Ad,Ae⟩:=ce3 Aa;obtain ⟨Ax,Ay,Az⟩:=ce3 Ai;obtain ⟨A0,A1,A2⟩:=ce3 Aj;clear hk) | (go_at_call 19;with_reducible refine (chVB hb R C18).mono ?_;clear hb;rintro e w1 ⟨rfl,hk,hb⟩;clear Af Ag Ah Ac Ad Ae A0 A1 A2;replace Ab:=zB hk Ab;replace Aa:=zB hk Aa;replace Aj:=zB hk Aj;obtain ⟨Af,Ag,Ah⟩:=ce3 Ab;obtain ⟨Ac,Ad,Ae⟩:=ce3 Aa;obtain ⟨A0,A1,A2⟩:=ce3 Aj;clear hk) | (go_at_call 22;with_reducible refine (chVB hb R C19).mono ?_;clear hb;rintro e w1 ⟨rfl,hk,hb⟩;clear Af Ag Ah Ac Ad Ae;replace Ab:=zB hk Ab;replace Aa:=zB hk Aa;obtain ⟨Af,Ag,Ah⟩:=ce3 Ab;obtain ⟨Ac,Ad,Ae⟩:=ce3 Aa;clear hk))
 clear Ax Ay Az Ai A0 A1 A2 Aj
 refine wp_alloc1 (fun w1 Ao hk=>?_)
 clear Af Ag Ah Ac Ad Ae
 replace Ab:=zB hk Ab
 replace Aa:=zB hk Aa
 obtain ⟨Af,Ag,Ah⟩:=ce3 Ab
 obtain ⟨Ac,Ad,Ae⟩:=ce3 Aa
 replace hb:=hb.trans (hk.mono hb.size)
 clear hk
 obtain ⟨A3,A4,A5⟩:=ce3 Ao
 go_wp2_with (first | (go_at_call 21;with_reducible refine (chVB hb R C20).mono ?_;clear hb;rintro e w1 ⟨rfl,hk,hb⟩;clear A3 A4 A5 Af Ag Ah Ac Ad Ae;replace Ao:=zB hk Ao;replace Ab:=zB hk Ab;replace Aa:=zB hk Aa;obtain ⟨A3,A4,A5⟩:=ce3 Ao;obtain ⟨Af,Ag,Ah⟩:=ce3 Ab;obtain ⟨Ac,Ad,Ae⟩:=ce3 Aa;clear hk) | (go_at_call 21;with_reducible refine (chVB hb R C21).mono ?_;clear hb;rintro e w1 ⟨rfl,hk,hb⟩;clear A3 A4 A5 Ac Ad Ae;replace Ao:=zB hk Ao;replace Aa:=zB hk Aa;obtain ⟨A3,A4,A5⟩:=ce3 Ao;obtain ⟨Ac,Ad,Ae⟩:=ce3 Aa;clear hk))
 first | go_ret | go_ret2 | go_ret3
 exact ⟨rfl,hb⟩
theorem llimbs_3d  (i0 i1 i2 j0 j1 j2 X0 X1 X2 Y0 Y1 Y2:Int) (d e:Int) (N:Int) (s0 s1 s2 t0 t1 t2 p0 p1 p2 u0 u1 u2:ByteArray) (ck:CV 12 #[] (.bool true)) (ca:CV 29 #[.agg #[.int .i8 i0,.int .i8 i1,.int .i8 i2,.int .u8 d]] (.agg #[.int .i64 X0,.int .i64 X1,.int .i64 X2])) (za:CV 28 #[.agg #[.int .i64 X0,.int .i64 X1,.int .i64 X2]] (.bool false)) (cb:CV 29 #[.agg #[.int .i8 j0,.int .i8 j1,.int .i8 j2,.int .u8 e]] (.agg #[.int .i64 Y0,.int .i64 Y1,.int .i64 Y2])) (zb:CV 28 #[.agg #[.int .i64 Y0,.int .i64 Y1,.int .i64 Y2]] (.bool false)) (ma:CV 30 #[.agg #[.int .i8 i0,.int .i8 i1,.int .i8 i2,.int .u8 d]] (.agg #[.string s0,.string s1,.string s2])) (mb:CV 30 #[.agg #[.int .i8 j0,.int .i8 j1,.int .i8 j2,.int .u8 e]] (.agg #[.string t0,.string t1,.string t2])) (nb0:CV 39 #[.string t0] (.string p0)) (na0:CV 39 #[.string s0] (.string u0)) (nb1:CV 39 #[.string t1] (.string p1)) (na1:CV 39 #[.string s1] (.string u1)) (nb2:CV 39 #[.string t2] (.string p2)) (na2:CV 39 #[.string s2] (.string u2)) (in1:CV 24 #[.agg #[.string s0,.string s1,.string s2],.agg #[.string t0,.string t1,.string t2]] (.tuple #[.int .i64 3,.int .i64 0])) (in2:CV 24 #[.agg #[.string t0,.string t1,.string t2],.agg #[.string s0,.string s1,.string s2]] (.tuple #[.int .i64 3,.int .i64 0])) (in3:CV 24 #[.agg #[.string u0,.string u1,.string u2],.agg #[.string p0,.string p1,.string p2]] (.tuple #[.int .i64 3,.int .i64 0])) (in4:CV 24 #[.agg #[.string s0,.string s1,.string s2],.agg #[.string p0,.string p1,.string p2]] (.tuple #[.int .i64 N,.int .i64 0])) (an:CV 19 #[.agg #[.string s0,.string s1,.string s2],.agg #[.string u0,.string u1,.string u2]] (.tuple #[.string ⟨#[49]⟩,.int .i64 0])) (it:CV 22 #[.agg #[.string s0,.string s1,.string s2],.agg #[.string t0,.string t1,.string t2]] (.tuple #[.agg #[.string ⟨#[]⟩,.string ⟨#[]⟩,.string ⟨#[]⟩],.int .i64 18])) (sm:CV 16 #[.agg #[.string s0,.string s1,.string s2],.agg #[.string t0,.string t1,.string t2]] (.tuple #[.bool true,.int .i64 0])) (w:World) (R:EnvV w) :
   Calls Tryz.prog 11 #[.agg #[.int .i8 i0,.int .i8 i1,.int .i8 i2,.int .u8 d],.agg #[.int .i8 j0,.int .i8 j1,.int .i8 j2,.int .u8 e]] w (Ret w (.bool true)):=by
 have c1:=ck
 have c2:=ca
 have c3:=za
 have c4:=cb
 have c5:=zb
 have c6:=ma
 have c7:=mb
 have c8:=nb0
 have c9:=nb1
 have c10:=nb2
 have c11:=na0
 have c12:=na1
 have c13:=na2
 have c14:=in1
 have c15:=in2
 have c16:=in3
 have c17:=in4
 have c18:=an
 have c19:=it
 have c20:=sm
 have C1:=Lib.hid c1
 have C2:=Lib.hid c2
 have C3:=Lib.hid c3
 have C4:=Lib.hid c4
 have C5:=Lib.hid c5
 have C6:=Lib.hid c6
 have C7:=Lib.hid c7
 have C8:=Lib.hid c8
 have C9:=Lib.hid c9
 have C10:=Lib.hid c10
 have C11:=Lib.hid c11
 have C12:=Lib.hid c12
 have C13:=Lib.hid c13
 have C14:=Lib.hid c14
 have C15:=Lib.hid c15
 have C16:=Lib.hid c16
 have C17:=Lib.hid c17
 have C18:=Lib.hid c18
 have C19:=Lib.hid c19
 have C20:=Lib.hid c20
 clear c1 c2 c3 c4 c5 c6 c7 c8 c9 c10 c11 c12 c13 c14 c15 c16 c17 c18 c19 c20 ck ca za cb zb ma mb nb0 na0 nb1 na1 nb2 na2 in1 in2 in3 in4 an it sm
 have hb:=Below.refl w.heap.size w
 go_enter Tryz.func11,Tryz.ntmps11
 go_upto_region 1 with fail
 refine wp_alloc2 (fun w1 a0 a1 hk=>?_)
 replace hb:=hb.trans (hk.mono hb.size)
 clear hk
 obtain ⟨Ao,Ap,Aq,Ar⟩:=ce4 a0
 obtain ⟨As,At,Au,Av⟩:=ce4 a1
 go_upto_region 3 with ((first | (go_at_call 12;with_reducible refine (chVB hb R C1).mono ?_) | (go_at_call 29;first | with_reducible refine (chVB hb R C2).mono ?_ | with_reducible refine (chVB hb R C4).mono ?_) | (go_at_call 28;first | with_reducible refine (chVB hb R C3).mono ?_ | with_reducible refine (chVB hb R C5).mono ?_));clear hb;rintro e w1 ⟨rfl,hk,hb⟩;clear Ao Ap Aq Ar As At Au Av;replace a0:=zB hk a0;replace a1:=zB hk a1;obtain ⟨Ao,Ap,Aq,Ar⟩:=ce4 a0;obtain ⟨As,At,Au,Av⟩:=ce4 a1;clear hk)
 obtain ⟨Bk,Bl,Bm,Bn⟩:=cy4 a0
 obtain ⟨Bo,Bp,Bq,Br⟩:=cy4 a1
 have Bs:=rrV C6 R hb
 have Bt:=rrV C7 R hb
 have A9:=qqV C6 R hb
 have Ba:=qqV C7 R hb
 refine wp_free2 4 0 (fun i=>if i=4 then Obj.cells #[Value.string ⟨#[]⟩,Value.string ⟨#[]⟩,Value.string ⟨#[]⟩] 24 else if i=5 then Obj.cells #[Value.string ⟨#[]⟩,Value.string ⟨#[]⟩,Value.string ⟨#[]⟩] 24 else Obj.cells #[] 0) (fun i=>if i=4 then Obj.cells #[Value.string s0,Value.string s1,Value.string s2] 24 else if i=5 then Obj.cells #[Value.string t0,Value.string t1,Value.string t2] 24 else Obj.cells #[] 0) (some 5) (some 6) (by first | assumption | kernel_rfl) (by kernel_rfl) ?lay rfl rfl ?_
 case lay =>
   intro i h1 h2
   obtain rfl | rfl:i=4∨i=5:=by omega
   all_goals exact ⟨_,rfl,rfl,fun a w=>(by first | (go_simp;done) | (go_simp;rfl))⟩
 simp only [List.take_succ_cons,List.take_zero]
 repeat (refine wpB_step (fun K hK=>?_);go_simp;first | (refine hK _ ?_;clear hK K) | (apply Exists.intro;refine ⟨fun _=>?_,hK _ ?_⟩;(first | (with_reducible exact A9.out _ _) | (with_reducible exact Ba.out _ _));clear hK K))
 refine wpB_nil ?_
 intro Ak Al
 refine ⟨?_,?_,?_⟩
 · refine ⟨_,rfl,rfl,rfl,fun cs b h=>(by cases h),fun w hw=>?_⟩
   replace hw:w.heap[Ak]? = some (Obj.cells #[Value.string ⟨#[]⟩,Value.string ⟨#[]⟩,Value.string ⟨#[]⟩] 24):=hw
   have z0:w.cell? ⟨Ak,0,none⟩=some (Value.string ⟨#[]⟩):=zA hw
   have y0:w.frozen? ⟨Ak,0,none⟩=false:=zD hw
   have z1:w.cell? ⟨Ak,1,none⟩=some (Value.string ⟨#[]⟩):=zA hw
   have y1:w.frozen? ⟨Ak,1,none⟩=false:=zD hw
   have z2:w.cell? ⟨Ak,2,none⟩=some (Value.string ⟨#[]⟩):=zA hw
   have y2:w.frozen? ⟨Ak,2,none⟩=false:=zD hw
   refine ⟨_,?_,(Wrote.set (i:=2) (Wrote.set (i:=1) (Wrote.set (i:=0) (Wrote.refl hw) (Value.string s0)) (Value.string s1)) (Value.string s2))⟩
   go_simp
 · refine ⟨_,rfl,rfl,rfl,fun cs b h=>(by cases h),fun w hw=>?_⟩
   replace hw:w.heap[Al]? = some (Obj.cells #[Value.string ⟨#[]⟩,Value.string ⟨#[]⟩,Value.string ⟨#[]⟩] 24):=hw
   have z0:w.cell? ⟨Al,0,none⟩=some (Value.string ⟨#[]⟩):=zA hw
   have y0:w.frozen? ⟨Al,0,none⟩=false:=zD hw
   have z1:w.cell? ⟨Al,1,none⟩=some (Value.string ⟨#[]⟩):=zA hw
   have y1:w.frozen? ⟨Al,1,none⟩=false:=zD hw
   have z2:w.cell? ⟨Al,2,none⟩=some (Value.string ⟨#[]⟩):=zA hw
   have y2:w.frozen? ⟨Al,2,none⟩=false:=zD hw
   refine ⟨_,?_,(Wrote.set (i:=2) (Wrote.set (i:=1) (Wrote.set (i:=0) (Wrote.refl hw) (Value.string t0)) (Value.string t1)) (Value.string t2))⟩
   go_simp
 intro w1 hk m0 m1 Aa Ab _
 clear Ao Ap Aq Ar As At Au Av
 replace a0:=zB hk a0
 replace a1:=zB hk a1
 obtain ⟨Ao,Ap,Aq,Ar⟩:=ce4 a0
 obtain ⟨As,At,Au,Av⟩:=ce4 a1
 replace hb:=hb.trans (hk.mono hb.size)
 clear hk
 replace Aa:w1.heap[Ak]? = some (Obj.cells #[Value.string s0,Value.string s1,Value.string s2] 24):=Aa
 have Ac:w1.cell? ⟨Ak,0,none⟩=some (Value.string s0):=zA Aa
 have Ad:w1.cell? ⟨Ak,1,none⟩=some (Value.string s1):=zA Aa
 have Ae:w1.cell? ⟨Ak,2,none⟩=some (Value.string s2):=zA Aa
 replace Ab:w1.heap[Al]? = some (Obj.cells #[Value.string t0,Value.string t1,Value.string t2] 24):=Ab
 have Af:w1.cell? ⟨Al,0,none⟩=some (Value.string t0):=zA Ab
 have Ag:w1.cell? ⟨Al,1,none⟩=some (Value.string t1):=zA Ab
 have Ah:w1.cell? ⟨Al,2,none⟩=some (Value.string t2):=zA Ab
 clear A9 Ba Bs Bt Bk Bl Bm Bn Bo Bp Bq Br m0 m1
 go_upto_region 4 with fail
 clear Ao Ap Aq Ar a0 As At Au Av a1
 obtain ⟨A3,A4,A5⟩:=cy3 Aa
 obtain ⟨A6,A7,A8⟩:=cy3 Ab
 have Bu:=rrV C8 R hb
 have Bv:=rrV C9 R hb
 have Bw:=rrV C10 R hb
 have Bb:=qqV C8 R hb
 have Bc:=qqV C9 R hb
 have Bd:=qqV C10 R hb
 refine wp_free1 10 0 (fun i=>if i=10 then Obj.cells #[Value.string ⟨#[]⟩,Value.string ⟨#[]⟩,Value.string ⟨#[]⟩] 24 else Obj.cells #[] 0) (fun i=>if i=10 then Obj.cells #[Value.string p0,Value.string p1,Value.string p2] 24 else Obj.cells #[] 0) (some 7) (by first | assumption | kernel_rfl) (by kernel_rfl) ?lay rfl ?_
 case lay =>
   intro i h1 h2
   obtain rfl:i=10:=by omega
   all_goals exact ⟨_,rfl,rfl,fun a w=>(by first | (go_simp;done) | (go_simp;rfl))⟩
 simp only [List.take_succ_cons,List.take_zero]
 repeat (refine wpB_step (fun K hK=>?_);go_simp;first | (refine hK _ ?_;clear hK K) | (apply Exists.intro;refine ⟨fun _=>?_,hK _ ?_⟩;(first | (with_reducible exact Bb.out _ _) | (with_reducible exact Bc.out _ _) | (with_reducible exact Bd.out _ _));clear hK K))
 refine wpB_nil ?_
 intro Am
 refine ⟨?_,?_⟩
 · refine ⟨_,rfl,rfl,rfl,fun cs b h=>(by cases h),fun w hw=>?_⟩
   replace hw:w.heap[Am]? = some (Obj.cells #[Value.string ⟨#[]⟩,Value.string ⟨#[]⟩,Value.string ⟨#[]⟩] 24):=hw
   have z0:w.cell? ⟨Am,0,none⟩=some (Value.string ⟨#[]⟩):=zA hw
   have y0:w.frozen? ⟨Am,0,none⟩=false:=zD hw
   have z1:w.cell? ⟨Am,1,none⟩=some (Value.string ⟨#[]⟩):=zA hw
   have y1:w.frozen? ⟨Am,1,none⟩=false:=zD hw
   have z2:w.cell? ⟨Am,2,none⟩=some (Value.string ⟨#[]⟩):=zA hw
   have y2:w.frozen? ⟨Am,2,none⟩=false:=zD hw
   refine ⟨_,?_,(Wrote.set (i:=2) (Wrote.set (i:=1) (Wrote.set (i:=0) (Wrote.refl hw) (Value.string p0)) (Value.string p1)) (Value.string p2))⟩
   go_simp
 intro w1 hk m0 Ai
 clear Ac Ad Ae Af Ag Ah
 replace Aa:=zB hk Aa
 replace Ab:=zB hk Ab
 obtain ⟨Ac,Ad,Ae⟩:=ce3 Aa
 obtain ⟨Af,Ag,Ah⟩:=ce3 Ab
 replace hb:=hb.trans (hk.mono hb.size)
 clear hk
 replace Ai:w1.heap[Am]? = some (Obj.cells #[Value.string p0,Value.string p1,Value.string p2] 24):=Ai
 have Aw:w1.cell? ⟨Am,0,none⟩=some (Value.string p0):=zA Ai
 have Ax:w1.cell? ⟨Am,1,none⟩=some (Value.string p1):=zA Ai
 have Ay:w1.cell? ⟨Am,2,none⟩=some (Value.string p2):=zA Ai
 clear Bb Bc Bd Bu Bv Bw A3 A4 A5 A6 A7 A8 m0
 go_upto_region 5 with fail
 obtain ⟨A3,A4,A5⟩:=cy3 Aa
 obtain ⟨A6,A7,A8⟩:=cy3 Ab
 obtain ⟨Bx,By,Bz⟩:=cy3 Ai
 have B0:=rrV C11 R hb
 have B1:=rrV C12 R hb
 have B2:=rrV C13 R hb
 have Be:=qqV C11 R hb
 have Bf:=qqV C12 R hb
 have Bg:=qqV C13 R hb
 refine wp_free1 10 0 (fun i=>if i=10 then Obj.cells #[Value.string ⟨#[]⟩,Value.string ⟨#[]⟩,Value.string ⟨#[]⟩] 24 else Obj.cells #[] 0) (fun i=>if i=10 then Obj.cells #[Value.string u0,Value.string u1,Value.string u2] 24 else Obj.cells #[] 0) (some 8) (by first | assumption | kernel_rfl) (by kernel_rfl) ?lay rfl ?_
 case lay =>
   intro i h1 h2
   obtain rfl:i=10:=by omega
   all_goals exact ⟨_,rfl,rfl,fun a w=>(by first | (go_simp;done) | (go_simp;rfl))⟩
 simp only [List.take_succ_cons,List.take_zero]
 repeat (refine wpB_step (fun K hK=>?_);go_simp;first | (refine hK _ ?_;clear hK K) | (apply Exists.intro;refine ⟨fun _=>?_,hK _ ?_⟩;(first | (with_reducible exact Be.out _ _) | (with_reducible exact Bf.out _ _) | (with_reducible exact Bg.out _ _));clear hK K))
 refine wpB_nil ?_
 intro An
 refine ⟨?_,?_⟩
 · refine ⟨_,rfl,rfl,rfl,fun cs b h=>(by cases h),fun w hw=>?_⟩
   replace hw:w.heap[An]? = some (Obj.cells #[Value.string ⟨#[]⟩,Value.string ⟨#[]⟩,Value.string ⟨#[]⟩] 24):=hw
   have z0:w.cell? ⟨An,0,none⟩=some (Value.string ⟨#[]⟩):=zA hw
   have y0:w.frozen? ⟨An,0,none⟩=false:=zD hw
   have z1:w.cell? ⟨An,1,none⟩=some (Value.string ⟨#[]⟩):=zA hw
   have y1:w.frozen? ⟨An,1,none⟩=false:=zD hw
   have z2:w.cell? ⟨An,2,none⟩=some (Value.string ⟨#[]⟩):=zA hw
   have y2:w.frozen? ⟨An,2,none⟩=false:=zD hw
   refine ⟨_,?_,(Wrote.set (i:=2) (Wrote.set (i:=1) (Wrote.set (i:=0) (Wrote.refl hw) (Value.string u0)) (Value.string u1)) (Value.string u2))⟩
   go_simp
 intro w1 hk m0 Aj
 clear Ac Ad Ae Af Ag Ah Aw Ax Ay
 replace Aa:=zB hk Aa
 replace Ab:=zB hk Ab
 replace Ai:=zB hk Ai
 obtain ⟨Ac,Ad,Ae⟩:=ce3 Aa
 obtain ⟨Af,Ag,Ah⟩:=ce3 Ab
 obtain ⟨Aw,Ax,Ay⟩:=ce3 Ai
 replace hb:=hb.trans (hk.mono hb.size)
 clear hk
 replace Aj:w1.heap[An]? = some (Obj.cells #[Value.string u0,Value.string u1,Value.string u2] 24):=Aj
 have Az:w1.cell? ⟨An,0,none⟩=some (Value.string u0):=zA Aj
 have A0:w1.cell? ⟨An,1,none⟩=some (Value.string u1):=zA Aj
 have A1:w1.cell? ⟨An,2,none⟩=some (Value.string u2):=zA Aj
 clear Be Bf Bg B0 B1 B2 A3 A4 A5 A6 A7 A8 Bx By Bz m0
 go_upto_region 16 with (first | ((go_at_call 24;first | with_reducible refine (chVB hb R C14).mono ?_ | with_reducible refine (chVB hb R C15).mono ?_ | with_reducible refine (chVB hb R C16).mono ?_ | with_reducible refine (chVB hb R C17).mono ?_);clear hb;rintro e w1 ⟨rfl,hk,hb⟩;clear Ac Ad Ae Af Ag Ah Aw Ax Ay Az A0 A1;replace Aa:=zB hk Aa;replace Ab:=zB hk Ab;replace Ai:=zB hk Ai;replace Aj:=zB hk Aj;obtain ⟨Ac,Ad,Ae⟩:=ce3 Aa;obtain ⟨Af,Ag,Ah⟩:=ce3 Ab;obtain ⟨Aw,Ax,Ay⟩:=ce3 Ai;obtain ⟨Az,A0,A1⟩:=ce3 Aj;clear hk) | (go_at_call 19;with_reducible refine (chVB hb R C18).mono ?_;clear hb;rintro e w1 ⟨rfl,hk,hb⟩;clear Ac Ad Ae Af Ag Ah Az A0 A1;replace Aa:=zB hk Aa;replace Ab:=zB hk Ab;replace Aj:=zB hk Aj;obtain ⟨Ac,Ad,Ae⟩:=ce3 Aa;obtain ⟨Af,Ag,Ah⟩:=ce3 Ab;obtain ⟨Az,A0,A1⟩:=ce3 Aj;clear hk) | (go_at_call 22;with_reducible refine (chVB hb R C19).mono ?_;clear hb;rintro e w1 ⟨rfl,hk,hb⟩;clear Ac Ad Ae Af Ag Ah;replace Aa:=zB hk Aa;replace Ab:=zB hk Ab;obtain ⟨Ac,Ad,Ae⟩:=ce3 Aa;obtain ⟨Af,Ag,Ah⟩:=ce3 Ab;clear hk))
 clear Aw Ax Ay Ai Az A0 A1 Aj
 refine wp_alloc1 (fun w1 A2 hk=>?_)
 clear Ac Ad Ae Af Ag Ah
 replace Aa:=zB hk Aa
 replace Ab:=zB hk Ab
 obtain ⟨Ac,Ad,Ae⟩:=ce3 Aa
 obtain ⟨Af,Ag,Ah⟩:=ce3 Ab
 replace hb:=hb.trans (hk.mono hb.size)
 clear hk
 obtain ⟨Bh,Bi,Bj⟩:=ce3 A2
 go_wp2_with (go_at_call 16;with_reducible refine (chVB hb R C20).mono ?_;clear hb;rintro e w1 ⟨rfl,hk,hb⟩;clear Bh Bi Bj Ac Ad Ae Af Ag Ah;replace A2:=zB hk A2;replace Aa:=zB hk Aa;replace Ab:=zB hk Ab;obtain ⟨Bh,Bi,Bj⟩:=ce3 A2;obtain ⟨Ac,Ad,Ae⟩:=ce3 Aa;obtain ⟨Af,Ag,Ah⟩:=ce3 Ab;clear hk)
 first | go_ret | go_ret2 | go_ret3
 exact ⟨rfl,hb⟩
theorem llimbs_4m  (i0 i1 i2 j0 j1 j2 X0 X1 X2 Y0 Y1 Y2:Int) (d e:Int) (N:Int) (s0 s1 s2 t0 t1 t2 p0 p1 p2 u0 u1 u2 v0 v1 v2:ByteArray) (ck:CV 12 #[] (.bool true)) (ca:CV 29 #[.agg #[.int .i8 i0,.int .i8 i1,.int .i8 i2,.int .u8 d]] (.agg #[.int .i64 X0,.int .i64 X1,.int .i64 X2])) (za:CV 28 #[.agg #[.int .i64 X0,.int .i64 X1,.int .i64 X2]] (.bool false)) (cb:CV 29 #[.agg #[.int .i8 j0,.int .i8 j1,.int .i8 j2,.int .u8 e]] (.agg #[.int .i64 Y0,.int .i64 Y1,.int .i64 Y2])) (zb:CV 28 #[.agg #[.int .i64 Y0,.int .i64 Y1,.int .i64 Y2]] (.bool false)) (ma:CV 30 #[.agg #[.int .i8 i0,.int .i8 i1,.int .i8 i2,.int .u8 d]] (.agg #[.string s0,.string s1,.string s2])) (mb:CV 30 #[.agg #[.int .i8 j0,.int .i8 j1,.int .i8 j2,.int .u8 e]] (.agg #[.string t0,.string t1,.string t2])) (nb0:CV 39 #[.string t0] (.string p0)) (na0:CV 39 #[.string s0] (.string u0)) (nb1:CV 39 #[.string t1] (.string p1)) (na1:CV 39 #[.string s1] (.string u1)) (nb2:CV 39 #[.string t2] (.string p2)) (na2:CV 39 #[.string s2] (.string u2)) (in1:CV 24 #[.agg #[.string s0,.string s1,.string s2],.agg #[.string t0,.string t1,.string t2]] (.tuple #[.int .i64 4,.int .i64 0])) (in2:CV 24 #[.agg #[.string t0,.string t1,.string t2],.agg #[.string s0,.string s1,.string s2]] (.tuple #[.int .i64 4,.int .i64 0])) (in3:CV 24 #[.agg #[.string u0,.string u1,.string u2],.agg #[.string p0,.string p1,.string p2]] (.tuple #[.int .i64 4,.int .i64 0])) (in4:CV 24 #[.agg #[.string s0,.string s1,.string s2],.agg #[.string p0,.string p1,.string p2]] (.tuple #[.int .i64 N,.int .i64 0])) (an:CV 19 #[.agg #[.string s0,.string s1,.string s2],.agg #[.string u0,.string u1,.string u2]] (.tuple #[.string ⟨#[49]⟩,.int .i64 0])) (it:CV 22 #[.agg #[.string s0,.string s1,.string s2],.agg #[.string t0,.string t1,.string t2]] (.tuple #[.agg #[.string v0,.string v1,.string v2],.int .i64 0])) (li1:CV 21 #[.agg #[.string s0,.string s1,.string s2],.agg #[.string v0,.string v1,.string v2]] (.tuple #[.bool true,.int .i64 0])) (li2:CV 21 #[.agg #[.string t0,.string t1,.string t2],.agg #[.string v0,.string v1,.string v2]] (.tuple #[.bool true,.int .i64 0])) (w:World) (R:EnvV w) :
   Calls Tryz.prog 11 #[.agg #[.int .i8 i0,.int .i8 i1,.int .i8 i2,.int .u8 d],.agg #[.int .i8 j0,.int .i8 j1,.int .i8 j2,.int .u8 e]] w (Ret w (.bool true)):=by
 have c1:=ck
 have c2:=ca
 have c3:=za
 have c4:=cb
 have c5:=zb
 have c6:=ma
 have c7:=mb
 have c8:=nb0
 have c9:=nb1
 have c10:=nb2
 have c11:=na0
 have c12:=na1
 have c13:=na2
 have c14:=in1
 have c15:=in2
 have c16:=in3
 have c17:=in4
 have c18:=an
 have c19:=it
 have c20:=li1
 have c21:=li2
 have C1:=Lib.hid c1
 have C2:=Lib.hid c2
 have C3:=Lib.hid c3
 have C4:=Lib.hid c4
 have C5:=Lib.hid c5
 have C6:=Lib.hid c6
 have C7:=Lib.hid c7
 have C8:=Lib.hid c8
 have C9:=Lib.hid c9
 have C10:=Lib.hid c10
 have C11:=Lib.hid c11
 have C12:=Lib.hid c12
 have C13:=Lib.hid c13
 have C14:=Lib.hid c14
 have C15:=Lib.hid c15
 have C16:=Lib.hid c16
 have C17:=Lib.hid c17
 have C18:=Lib.hid c18
 have C19:=Lib.hid c19
 have C20:=Lib.hid c20
 have C21:=Lib.hid c21
 clear c1 c2 c3 c4 c5 c6 c7 c8 c9 c10 c11 c12 c13 c14 c15 c16 c17 c18 c19 c20 c21 ck ca za cb zb ma mb nb0 na0 nb1 na1 nb2 na2 in1 in2 in3 in4 an it li1 li2
 have hb:=Below.refl w.heap.size w
 go_enter Tryz.func11,Tryz.ntmps11
 go_upto_region 1 with fail
 refine wp_alloc2 (fun w1 a0 a1 hk=>?_)
 replace hb:=hb.trans (hk.mono hb.size)
 clear hk
 obtain ⟨Ap,Aq,Ar,As⟩:=ce4 a0
 obtain ⟨At,Au,Av,Aw⟩:=ce4 a1
 go_upto_region 3 with ((first | (go_at_call 12;with_reducible refine (chVB hb R C1).mono ?_) | (go_at_call 29;first | with_reducible refine (chVB hb R C2).mono ?_ | with_reducible refine (chVB hb R C4).mono ?_) | (go_at_call 28;first | with_reducible refine (chVB hb R C3).mono ?_ | with_reducible refine (chVB hb R C5).mono ?_));clear hb;rintro e w1 ⟨rfl,hk,hb⟩;clear Ap Aq Ar As At Au Av Aw;replace a0:=zB hk a0;replace a1:=zB hk a1;obtain ⟨Ap,Aq,Ar,As⟩:=ce4 a0;obtain ⟨At,Au,Av,Aw⟩:=ce4 a1;clear hk)
 obtain ⟨Bk,Bl,Bm,Bn⟩:=cy4 a0
 obtain ⟨Bo,Bp,Bq,Br⟩:=cy4 a1
 have Bs:=rrV C6 R hb
 have Bt:=rrV C7 R hb
 have Bc:=qqV C6 R hb
 have Bd:=qqV C7 R hb
 refine wp_free2 4 0 (fun i=>if i=4 then Obj.cells #[Value.string ⟨#[]⟩,Value.string ⟨#[]⟩,Value.string ⟨#[]⟩] 24 else if i=5 then Obj.cells #[Value.string ⟨#[]⟩,Value.string ⟨#[]⟩,Value.string ⟨#[]⟩] 24 else Obj.cells #[] 0) (fun i=>if i=4 then Obj.cells #[Value.string s0,Value.string s1,Value.string s2] 24 else if i=5 then Obj.cells #[Value.string t0,Value.string t1,Value.string t2] 24 else Obj.cells #[] 0) (some 5) (some 6) (by first | assumption | kernel_rfl) (by kernel_rfl) ?lay rfl rfl ?_
 case lay =>
   intro i h1 h2
   obtain rfl | rfl:i=4∨i=5:=by omega
   all_goals exact ⟨_,rfl,rfl,fun a w=>(by first | (go_simp;done) | (go_simp;rfl))⟩
 simp only [List.take_succ_cons,List.take_zero]
 repeat (refine wpB_step (fun K hK=>?_);go_simp;first | (refine hK _ ?_;clear hK K) | (apply Exists.intro;refine ⟨fun _=>?_,hK _ ?_⟩;(first | (with_reducible exact Bc.out _ _) | (with_reducible exact Bd.out _ _));clear hK K))
 refine wpB_nil ?_
 intro Ak Al
 refine ⟨?_,?_,?_⟩
 · refine ⟨_,rfl,rfl,rfl,fun cs b h=>(by cases h),fun w hw=>?_⟩
   replace hw:w.heap[Ak]? = some (Obj.cells #[Value.string ⟨#[]⟩,Value.string ⟨#[]⟩,Value.string ⟨#[]⟩] 24):=hw
   have z0:w.cell? ⟨Ak,0,none⟩=some (Value.string ⟨#[]⟩):=zA hw
   have y0:w.frozen? ⟨Ak,0,none⟩=false:=zD hw
   have z1:w.cell? ⟨Ak,1,none⟩=some (Value.string ⟨#[]⟩):=zA hw
   have y1:w.frozen? ⟨Ak,1,none⟩=false:=zD hw
   have z2:w.cell? ⟨Ak,2,none⟩=some (Value.string ⟨#[]⟩):=zA hw
   have y2:w.frozen? ⟨Ak,2,none⟩=false:=zD hw
   refine ⟨_,?_,(Wrote.set (i:=2) (Wrote.set (i:=1) (Wrote.set (i:=0) (Wrote.refl hw) (Value.string s0)) (Value.string s1)) (Value.string s2))⟩
   go_simp
 · refine ⟨_,rfl,rfl,rfl,fun cs b h=>(by cases h),fun w hw=>?_⟩
   replace hw:w.heap[Al]? = some (Obj.cells #[Value.string ⟨#[]⟩,Value.string ⟨#[]⟩,Value.string ⟨#[]⟩] 24):=hw
   have z0:w.cell? ⟨Al,0,none⟩=some (Value.string ⟨#[]⟩):=zA hw
   have y0:w.frozen? ⟨Al,0,none⟩=false:=zD hw
   have z1:w.cell? ⟨Al,1,none⟩=some (Value.string ⟨#[]⟩):=zA hw
   have y1:w.frozen? ⟨Al,1,none⟩=false:=zD hw
   have z2:w.cell? ⟨Al,2,none⟩=some (Value.string ⟨#[]⟩):=zA hw
   have y2:w.frozen? ⟨Al,2,none⟩=false:=zD hw
   refine ⟨_,?_,(Wrote.set (i:=2) (Wrote.set (i:=1) (Wrote.set (i:=0) (Wrote.refl hw) (Value.string t0)) (Value.string t1)) (Value.string t2))⟩
   go_simp
 intro w1 hk m0 m1 Ab Aa _
 clear Ap Aq Ar As At Au Av Aw
 replace a0:=zB hk a0
 replace a1:=zB hk a1
 obtain ⟨Ap,Aq,Ar,As⟩:=ce4 a0
 obtain ⟨At,Au,Av,Aw⟩:=ce4 a1
 replace hb:=hb.trans (hk.mono hb.size)
 clear hk
 replace Ab:w1.heap[Ak]? = some (Obj.cells #[Value.string s0,Value.string s1,Value.string s2] 24):=Ab
 have Af:w1.cell? ⟨Ak,0,none⟩=some (Value.string s0):=zA Ab
 have Ag:w1.cell? ⟨Ak,1,none⟩=some (Value.string s1):=zA Ab
 have Ah:w1.cell? ⟨Ak,2,none⟩=some (Value.string s2):=zA Ab
 replace Aa:w1.heap[Al]? = some (Obj.cells #[Value.string t0,Value.string t1,Value.string t2] 24):=Aa
 have Ac:w1.cell? ⟨Al,0,none⟩=some (Value.string t0):=zA Aa
 have Ad:w1.cell? ⟨Al,1,none⟩=some (Value.string t1):=zA Aa
 have Ae:w1.cell? ⟨Al,2,none⟩=some (Value.string t2):=zA Aa
 clear Bc Bd Bs Bt Bk Bl Bm Bn Bo Bp Bq Br m0 m1
 go_upto_region 4 with fail
 clear Ap Aq Ar As a0 At Au Av Aw a1
 obtain ⟨A6,A7,A8⟩:=cy3 Ab
 obtain ⟨A9,Ba,Bb⟩:=cy3 Aa
 have Bu:=rrV C8 R hb
 have Bv:=rrV C9 R hb
 have Bw:=rrV C10 R hb
 have Be:=qqV C8 R hb
 have Bf:=qqV C9 R hb
 have Bg:=qqV C10 R hb
 refine wp_free1 10 0 (fun i=>if i=10 then Obj.cells #[Value.string ⟨#[]⟩,Value.string ⟨#[]⟩,Value.string ⟨#[]⟩] 24 else Obj.cells #[] 0) (fun i=>if i=10 then Obj.cells #[Value.string p0,Value.string p1,Value.string p2] 24 else Obj.cells #[] 0) (some 7) (by first | assumption | kernel_rfl) (by kernel_rfl) ?lay rfl ?_
 case lay =>
   intro i h1 h2
   obtain rfl:i=10:=by omega
   all_goals exact ⟨_,rfl,rfl,fun a w=>(by first | (go_simp;done) | (go_simp;rfl))⟩
 simp only [List.take_succ_cons,List.take_zero]
 repeat (refine wpB_step (fun K hK=>?_);go_simp;first | (refine hK _ ?_;clear hK K) | (apply Exists.intro;refine ⟨fun _=>?_,hK _ ?_⟩;(first | (with_reducible exact Be.out _ _) | (with_reducible exact Bf.out _ _) | (with_reducible exact Bg.out _ _));clear hK K))
 refine wpB_nil ?_
 intro Am
 refine ⟨?_,?_⟩
 · refine ⟨_,rfl,rfl,rfl,fun cs b h=>(by cases h),fun w hw=>?_⟩
   replace hw:w.heap[Am]? = some (Obj.cells #[Value.string ⟨#[]⟩,Value.string ⟨#[]⟩,Value.string ⟨#[]⟩] 24):=hw
   have z0:w.cell? ⟨Am,0,none⟩=some (Value.string ⟨#[]⟩):=zA hw
   have y0:w.frozen? ⟨Am,0,none⟩=false:=zD hw
   have z1:w.cell? ⟨Am,1,none⟩=some (Value.string ⟨#[]⟩):=zA hw
   have y1:w.frozen? ⟨Am,1,none⟩=false:=zD hw
   have z2:w.cell? ⟨Am,2,none⟩=some (Value.string ⟨#[]⟩):=zA hw
   have y2:w.frozen? ⟨Am,2,none⟩=false:=zD hw
   refine ⟨_,?_,(Wrote.set (i:=2) (Wrote.set (i:=1) (Wrote.set (i:=0) (Wrote.refl hw) (Value.string p0)) (Value.string p1)) (Value.string p2))⟩
   go_simp
 intro w1 hk m0 Ai
 clear Af Ag Ah Ac Ad Ae
 replace Ab:=zB hk Ab
 replace Aa:=zB hk Aa
 obtain ⟨Af,Ag,Ah⟩:=ce3 Ab
 obtain ⟨Ac,Ad,Ae⟩:=ce3 Aa
 replace hb:=hb.trans (hk.mono hb.size)
 clear hk
 replace Ai:w1.heap[Am]? = some (Obj.cells #[Value.string p0,Value.string p1,Value.string p2] 24):=Ai
 have Ax:w1.cell? ⟨Am,0,none⟩=some (Value.string p0):=zA Ai
 have Ay:w1.cell? ⟨Am,1,none⟩=some (Value.string p1):=zA Ai
 have Az:w1.cell? ⟨Am,2,none⟩=some (Value.string p2):=zA Ai
 clear Be Bf Bg Bu Bv Bw A6 A7 A8 A9 Ba Bb m0
 go_upto_region 5 with fail
 obtain ⟨A6,A7,A8⟩:=cy3 Ab
 obtain ⟨A9,Ba,Bb⟩:=cy3 Aa
 obtain ⟨Bx,By,Bz⟩:=cy3 Ai
 have B0:=rrV C11 R hb
 have B1:=rrV C12 R hb
 have B2:=rrV C13 R hb
 have Bh:=qqV C11 R hb
 have Bi:=qqV C12 R hb
 have Bj:=qqV C13 R hb
 refine wp_free1 10 0 (fun i=>if i=10 then Obj.cells #[Value.string ⟨#[]⟩,Value.string ⟨#[]⟩,Value.string ⟨#[]⟩] 24 else Obj.cells #[] 0) (fun i=>if i=10 then Obj.cells #[Value.string u0,Value.string u1,Value.string u2] 24 else Obj.cells #[] 0) (some 8) (by first | assumption | kernel_rfl) (by kernel_rfl) ?lay rfl ?_
 case lay =>
   intro i h1 h2
   obtain rfl:i=10:=by omega
   all_goals exact ⟨_,rfl,rfl,fun a w=>(by first | (go_simp;done) | (go_simp;rfl))⟩
 simp only [List.take_succ_cons,List.take_zero]
 repeat (refine wpB_step (fun K hK=>?_);go_simp;first | (refine hK _ ?_;clear hK K) | (apply Exists.intro;refine ⟨fun _=>?_,hK _ ?_⟩;(first | (with_reducible exact Bh.out _ _) | (with_reducible exact Bi.out _ _) | (with_reducible exact Bj.out _ _));clear hK K))
 refine wpB_nil ?_
 intro An
 refine ⟨?_,?_⟩
 · refine ⟨_,rfl,rfl,rfl,fun cs b h=>(by cases h),fun w hw=>?_⟩
   replace hw:w.heap[An]? = some (Obj.cells #[Value.string ⟨#[]⟩,Value.string ⟨#[]⟩,Value.string ⟨#[]⟩] 24):=hw
   have z0:w.cell? ⟨An,0,none⟩=some (Value.string ⟨#[]⟩):=zA hw
   have y0:w.frozen? ⟨An,0,none⟩=false:=zD hw
   have z1:w.cell? ⟨An,1,none⟩=some (Value.string ⟨#[]⟩):=zA hw
   have y1:w.frozen? ⟨An,1,none⟩=false:=zD hw
   have z2:w.cell? ⟨An,2,none⟩=some (Value.string ⟨#[]⟩):=zA hw
   have y2:w.frozen? ⟨An,2,none⟩=false:=zD hw
   refine ⟨_,?_,(Wrote.set (i:=2) (Wrote.set (i:=1) (Wrote.set (i:=0) (Wrote.refl hw) (Value.string u0)) (Value.string u1)) (Value.string u2))⟩
   go_simp
 intro w1 hk m0 Aj
 clear Af Ag Ah Ac Ad Ae Ax Ay Az
 replace Ab:=zB hk Ab
 replace Aa:=zB hk Aa
 replace Ai:=zB hk Ai
 obtain ⟨Af,Ag,Ah⟩:=ce3 Ab
 obtain ⟨Ac,Ad,Ae⟩:=ce3 Aa
 obtain ⟨Ax,Ay,Az⟩:=ce3 Ai
 replace hb:=hb.trans (hk.mono hb.size)
 clear hk
 replace Aj:w1.heap[An]? = some (Obj.cells #[Value.string u0,Value.string u1,Value.string u2] 24):=Aj
 have A0:w1.cell? ⟨An,0,none⟩=some (Value.string u0):=zA Aj
 have A1:w1.cell? ⟨An,1,none⟩=some (Value.string u1):=zA Aj
 have A2:w1.cell? ⟨An,2,none⟩=some (Value.string u2):=zA Aj
 clear Bh Bi Bj B0 B1 B2 A6 A7 A8 A9 Ba Bb Bx By Bz m0
 go_upto_region 16 with (first | ((go_at_call 24;first | with_reducible refine (chVB hb R C14).mono ?_ | with_reducible refine (chVB hb R C15).mono ?_ | with_reducible refine (chVB hb R C16).mono ?_ | with_reducible refine (chVB hb R C17).mono ?_);clear hb;rintro e w1 ⟨rfl,hk,hb⟩;clear Af Ag Ah Ac Ad Ae Ax Ay Az A0 A1 A2;replace Ab:=zB hk Ab;replace Aa:=zB hk Aa;replace Ai:=zB hk Ai;replace Aj:=zB hk Aj;obtain ⟨Af,Ag,Ah⟩:=ce3 Ab;obtain ⟨Ac,Ad,Ae⟩:=ce3 Aa;obtain ⟨Ax,Ay,Az⟩:=ce3 Ai;obtain ⟨A0,A1,A2⟩:=ce3 Aj;clear hk) | (go_at_call 19;with_reducible refine (chVB hb R C18).mono ?_;clear hb;rintro e w1 ⟨rfl,hk,hb⟩;clear Af Ag Ah Ac Ad Ae A0 A1 A2;replace Ab:=zB hk Ab;replace Aa:=zB hk Aa;replace Aj:=zB hk Aj;obtain ⟨Af,Ag,Ah⟩:=ce3 Ab;obtain ⟨Ac,Ad,Ae⟩:=ce3 Aa;obtain ⟨A0,A1,A2⟩:=ce3 Aj;clear hk) | (go_at_call 22;with_reducible refine (chVB hb R C19).mono ?_;clear hb;rintro e w1 ⟨rfl,hk,hb⟩;clear Af Ag Ah Ac Ad Ae;replace Ab:=zB hk Ab;replace Aa:=zB hk Aa;obtain ⟨Af,Ag,Ah⟩:=ce3 Ab;obtain ⟨Ac,Ad,Ae⟩:=ce3 Aa;clear hk))
 clear Ax Ay Az Ai A0 A1 A2 Aj
 refine wp_alloc1 (fun w1 Ao hk=>?_)
 clear Af Ag Ah Ac Ad Ae
 replace Ab:=zB hk Ab
 replace Aa:=zB hk Aa
 obtain ⟨Af,Ag,Ah⟩:=ce3 Ab
 obtain ⟨Ac,Ad,Ae⟩:=ce3 Aa
 replace hb:=hb.trans (hk.mono hb.size)
 clear hk
 obtain ⟨A3,A4,A5⟩:=ce3 Ao
 go_wp2_with (first | (go_at_call 21;with_reducible refine (chVB hb R C20).mono ?_;clear hb;rintro e w1 ⟨rfl,hk,hb⟩;clear A3 A4 A5 Af Ag Ah Ac Ad Ae;replace Ao:=zB hk Ao;replace Ab:=zB hk Ab;replace Aa:=zB hk Aa;obtain ⟨A3,A4,A5⟩:=ce3 Ao;obtain ⟨Af,Ag,Ah⟩:=ce3 Ab;obtain ⟨Ac,Ad,Ae⟩:=ce3 Aa;clear hk) | (go_at_call 21;with_reducible refine (chVB hb R C21).mono ?_;clear hb;rintro e w1 ⟨rfl,hk,hb⟩;clear A3 A4 A5 Ac Ad Ae;replace Ao:=zB hk Ao;replace Aa:=zB hk Aa;obtain ⟨A3,A4,A5⟩:=ce3 Ao;obtain ⟨Ac,Ad,Ae⟩:=ce3 Aa;clear hk))
 first | go_ret | go_ret2 | go_ret3
 exact ⟨rfl,hb⟩
theorem llimbs_4d  (i0 i1 i2 j0 j1 j2 X0 X1 X2 Y0 Y1 Y2:Int) (d e:Int) (N:Int) (s0 s1 s2 t0 t1 t2 p0 p1 p2 u0 u1 u2:ByteArray) (ck:CV 12 #[] (.bool true)) (ca:CV 29 #[.agg #[.int .i8 i0,.int .i8 i1,.int .i8 i2,.int .u8 d]] (.agg #[.int .i64 X0,.int .i64 X1,.int .i64 X2])) (za:CV 28 #[.agg #[.int .i64 X0,.int .i64 X1,.int .i64 X2]] (.bool false)) (cb:CV 29 #[.agg #[.int .i8 j0,.int .i8 j1,.int .i8 j2,.int .u8 e]] (.agg #[.int .i64 Y0,.int .i64 Y1,.int .i64 Y2])) (zb:CV 28 #[.agg #[.int .i64 Y0,.int .i64 Y1,.int .i64 Y2]] (.bool false)) (ma:CV 30 #[.agg #[.int .i8 i0,.int .i8 i1,.int .i8 i2,.int .u8 d]] (.agg #[.string s0,.string s1,.string s2])) (mb:CV 30 #[.agg #[.int .i8 j0,.int .i8 j1,.int .i8 j2,.int .u8 e]] (.agg #[.string t0,.string t1,.string t2])) (nb0:CV 39 #[.string t0] (.string p0)) (na0:CV 39 #[.string s0] (.string u0)) (nb1:CV 39 #[.string t1] (.string p1)) (na1:CV 39 #[.string s1] (.string u1)) (nb2:CV 39 #[.string t2] (.string p2)) (na2:CV 39 #[.string s2] (.string u2)) (in1:CV 24 #[.agg #[.string s0,.string s1,.string s2],.agg #[.string t0,.string t1,.string t2]] (.tuple #[.int .i64 4,.int .i64 0])) (in2:CV 24 #[.agg #[.string t0,.string t1,.string t2],.agg #[.string s0,.string s1,.string s2]] (.tuple #[.int .i64 4,.int .i64 0])) (in3:CV 24 #[.agg #[.string u0,.string u1,.string u2],.agg #[.string p0,.string p1,.string p2]] (.tuple #[.int .i64 4,.int .i64 0])) (in4:CV 24 #[.agg #[.string s0,.string s1,.string s2],.agg #[.string p0,.string p1,.string p2]] (.tuple #[.int .i64 N,.int .i64 0])) (an:CV 19 #[.agg #[.string s0,.string s1,.string s2],.agg #[.string u0,.string u1,.string u2]] (.tuple #[.string ⟨#[49]⟩,.int .i64 0])) (it:CV 22 #[.agg #[.string s0,.string s1,.string s2],.agg #[.string t0,.string t1,.string t2]] (.tuple #[.agg #[.string ⟨#[]⟩,.string ⟨#[]⟩,.string ⟨#[]⟩],.int .i64 18])) (sm:CV 16 #[.agg #[.string s0,.string s1,.string s2],.agg #[.string t0,.string t1,.string t2]] (.tuple #[.bool true,.int .i64 0])) (w:World) (R:EnvV w) :
   Calls Tryz.prog 11 #[.agg #[.int .i8 i0,.int .i8 i1,.int .i8 i2,.int .u8 d],.agg #[.int .i8 j0,.int .i8 j1,.int .i8 j2,.int .u8 e]] w (Ret w (.bool true)):=by
 have c1:=ck
 have c2:=ca
 have c3:=za
 have c4:=cb
 have c5:=zb
 have c6:=ma
 have c7:=mb
 have c8:=nb0
 have c9:=nb1
 have c10:=nb2
 have c11:=na0
 have c12:=na1
 have c13:=na2
 have c14:=in1
 have c15:=in2
 have c16:=in3
 have c17:=in4
 have c18:=an
 have c19:=it
 have c20:=sm
 have C1:=Lib.hid c1
 have C2:=Lib.hid c2
 have C3:=Lib.hid c3
 have C4:=Lib.hid c4
 have C5:=Lib.hid c5
 have C6:=Lib.hid c6
 have C7:=Lib.hid c7
 have C8:=Lib.hid c8
 have C9:=Lib.hid c9
 have C10:=Lib.hid c10
 have C11:=Lib.hid c11
 have C12:=Lib.hid c12
 have C13:=Lib.hid c13
 have C14:=Lib.hid c14
 have C15:=Lib.hid c15
 have C16:=Lib.hid c16
 have C17:=Lib.hid c17
 have C18:=Lib.hid c18
 have C19:=Lib.hid c19
 have C20:=Lib.hid c20
 clear c1 c2 c3 c4 c5 c6 c7 c8 c9 c10 c11 c12 c13 c14 c15 c16 c17 c18 c19 c20 ck ca za cb zb ma mb nb0 na0 nb1 na1 nb2 na2 in1 in2 in3 in4 an it sm
 have hb:=Below.refl w.heap.size w
 go_enter Tryz.func11,Tryz.ntmps11
 go_upto_region 1 with fail
 refine wp_alloc2 (fun w1 a0 a1 hk=>?_)
 replace hb:=hb.trans (hk.mono hb.size)
 clear hk
 obtain ⟨Ao,Ap,Aq,Ar⟩:=ce4 a0
 obtain ⟨As,At,Au,Av⟩:=ce4 a1
 go_upto_region 3 with ((first | (go_at_call 12;with_reducible refine (chVB hb R C1).mono ?_) | (go_at_call 29;first | with_reducible refine (chVB hb R C2).mono ?_ | with_reducible refine (chVB hb R C4).mono ?_) | (go_at_call 28;first | with_reducible refine (chVB hb R C3).mono ?_ | with_reducible refine (chVB hb R C5).mono ?_));clear hb;rintro e w1 ⟨rfl,hk,hb⟩;clear Ao Ap Aq Ar As At Au Av;replace a0:=zB hk a0;replace a1:=zB hk a1;obtain ⟨Ao,Ap,Aq,Ar⟩:=ce4 a0;obtain ⟨As,At,Au,Av⟩:=ce4 a1;clear hk)
 obtain ⟨Bk,Bl,Bm,Bn⟩:=cy4 a0
 obtain ⟨Bo,Bp,Bq,Br⟩:=cy4 a1
 have Bs:=rrV C6 R hb
 have Bt:=rrV C7 R hb
 have A9:=qqV C6 R hb
 have Ba:=qqV C7 R hb
 refine wp_free2 4 0 (fun i=>if i=4 then Obj.cells #[Value.string ⟨#[]⟩,Value.string ⟨#[]⟩,Value.string ⟨#[]⟩] 24 else if i=5 then Obj.cells #[Value.string ⟨#[]⟩,Value.string ⟨#[]⟩,Value.string ⟨#[]⟩] 24 else Obj.cells #[] 0) (fun i=>if i=4 then Obj.cells #[Value.string s0,Value.string s1,Value.string s2] 24 else if i=5 then Obj.cells #[Value.string t0,Value.string t1,Value.string t2] 24 else Obj.cells #[] 0) (some 5) (some 6) (by first | assumption | kernel_rfl) (by kernel_rfl) ?lay rfl rfl ?_
 case lay =>
   intro i h1 h2
   obtain rfl | rfl:i=4∨i=5:=by omega
   all_goals exact ⟨_,rfl,rfl,fun a w=>(by first | (go_simp;done) | (go_simp;rfl))⟩
 simp only [List.take_succ_cons,List.take_zero]
 repeat (refine wpB_step (fun K hK=>?_);go_simp;first | (refine hK _ ?_;clear hK K) | (apply Exists.intro;refine ⟨fun _=>?_,hK _ ?_⟩;(first | (with_reducible exact A9.out _ _) | (with_reducible exact Ba.out _ _));clear hK K))
 refine wpB_nil ?_
 intro Ak Al
 refine ⟨?_,?_,?_⟩
 · refine ⟨_,rfl,rfl,rfl,fun cs b h=>(by cases h),fun w hw=>?_⟩
   replace hw:w.heap[Ak]? = some (Obj.cells #[Value.string ⟨#[]⟩,Value.string ⟨#[]⟩,Value.string ⟨#[]⟩] 24):=hw
   have z0:w.cell? ⟨Ak,0,none⟩=some (Value.string ⟨#[]⟩):=zA hw
   have y0:w.frozen? ⟨Ak,0,none⟩=false:=zD hw
   have z1:w.cell? ⟨Ak,1,none⟩=some (Value.string ⟨#[]⟩):=zA hw
   have y1:w.frozen? ⟨Ak,1,none⟩=false:=zD hw
   have z2:w.cell? ⟨Ak,2,none⟩=some (Value.string ⟨#[]⟩):=zA hw
   have y2:w.frozen? ⟨Ak,2,none⟩=false:=zD hw
   refine ⟨_,?_,(Wrote.set (i:=2) (Wrote.set (i:=1) (Wrote.set (i:=0) (Wrote.refl hw) (Value.string s0)) (Value.string s1)) (Value.string s2))⟩
   go_simp
 · refine ⟨_,rfl,rfl,rfl,fun cs b h=>(by cases h),fun w hw=>?_⟩
   replace hw:w.heap[Al]? = some (Obj.cells #[Value.string ⟨#[]⟩,Value.string ⟨#[]⟩,Value.string ⟨#[]⟩] 24):=hw
   have z0:w.cell? ⟨Al,0,none⟩=some (Value.string ⟨#[]⟩):=zA hw
   have y0:w.frozen? ⟨Al,0,none⟩=false:=zD hw
   have z1:w.cell? ⟨Al,1,none⟩=some (Value.string ⟨#[]⟩):=zA hw
   have y1:w.frozen? ⟨Al,1,none⟩=false:=zD hw
   have z2:w.cell? ⟨Al,2,none⟩=some (Value.string ⟨#[]⟩):=zA hw
   have y2:w.frozen? ⟨Al,2,none⟩=false:=zD hw
   refine ⟨_,?_,(Wrote.set (i:=2) (Wrote.set (i:=1) (Wrote.set (i:=0) (Wrote.refl hw) (Value.string t0)) (Value.string t1)) (Value.string t2))⟩
   go_simp
 intro w1 hk m0 m1 Aa Ab _
 clear Ao Ap Aq Ar As At Au Av
 replace a0:=zB hk a0
 replace a1:=zB hk a1
 obtain ⟨Ao,Ap,Aq,Ar⟩:=ce4 a0
 obtain ⟨As,At,Au,Av⟩:=ce4 a1
 replace hb:=hb.trans (hk.mono hb.size)
 clear hk
 replace Aa:w1.heap[Ak]? = some (Obj.cells #[Value.string s0,Value.string s1,Value.string s2] 24):=Aa
 have Ac:w1.cell? ⟨Ak,0,none⟩=some (Value.string s0):=zA Aa
 have Ad:w1.cell? ⟨Ak,1,none⟩=some (Value.string s1):=zA Aa
 have Ae:w1.cell? ⟨Ak,2,none⟩=some (Value.string s2):=zA Aa
 replace Ab:w1.heap[Al]? = some (Obj.cells #[Value.string t0,Value.string t1,Value.string t2] 24):=Ab
 have Af:w1.cell? ⟨Al,0,none⟩=some (Value.string t0):=zA Ab
 have Ag:w1.cell? ⟨Al,1,none⟩=some (Value.string t1):=zA Ab
 have Ah:w1.cell? ⟨Al,2,none⟩=some (Value.string t2):=zA Ab
 clear A9 Ba Bs Bt Bk Bl Bm Bn Bo Bp Bq Br m0 m1
 go_upto_region 4 with fail
 clear Ao Ap Aq Ar a0 As At Au Av a1
 obtain ⟨A3,A4,A5⟩:=cy3 Aa
 obtain ⟨A6,A7,A8⟩:=cy3 Ab
 have Bu:=rrV C8 R hb
 have Bv:=rrV C9 R hb
 have Bw:=rrV C10 R hb
 have Bb:=qqV C8 R hb
 have Bc:=qqV C9 R hb
 have Bd:=qqV C10 R hb
 refine wp_free1 10 0 (fun i=>if i=10 then Obj.cells #[Value.string ⟨#[]⟩,Value.string ⟨#[]⟩,Value.string ⟨#[]⟩] 24 else Obj.cells #[] 0) (fun i=>if i=10 then Obj.cells #[Value.string p0,Value.string p1,Value.string p2] 24 else Obj.cells #[] 0) (some 7) (by first | assumption | kernel_rfl) (by kernel_rfl) ?lay rfl ?_
 case lay =>
   intro i h1 h2
   obtain rfl:i=10:=by omega
   all_goals exact ⟨_,rfl,rfl,fun a w=>(by first | (go_simp;done) | (go_simp;rfl))⟩
 simp only [List.take_succ_cons,List.take_zero]
 repeat (refine wpB_step (fun K hK=>?_);go_simp;first | (refine hK _ ?_;clear hK K) | (apply Exists.intro;refine ⟨fun _=>?_,hK _ ?_⟩;(first | (with_reducible exact Bb.out _ _) | (with_reducible exact Bc.out _ _) | (with_reducible exact Bd.out _ _));clear hK K))
 refine wpB_nil ?_
 intro Am
 refine ⟨?_,?_⟩
 · refine ⟨_,rfl,rfl,rfl,fun cs b h=>(by cases h),fun w hw=>?_⟩
   replace hw:w.heap[Am]? = some (Obj.cells #[Value.string ⟨#[]⟩,Value.string ⟨#[]⟩,Value.string ⟨#[]⟩] 24):=hw
   have z0:w.cell? ⟨Am,0,none⟩=some (Value.string ⟨#[]⟩):=zA hw
   have y0:w.frozen? ⟨Am,0,none⟩=false:=zD hw
   have z1:w.cell? ⟨Am,1,none⟩=some (Value.string ⟨#[]⟩):=zA hw
   have y1:w.frozen? ⟨Am,1,none⟩=false:=zD hw
   have z2:w.cell? ⟨Am,2,none⟩=some (Value.string ⟨#[]⟩):=zA hw
   have y2:w.frozen? ⟨Am,2,none⟩=false:=zD hw
   refine ⟨_,?_,(Wrote.set (i:=2) (Wrote.set (i:=1) (Wrote.set (i:=0) (Wrote.refl hw) (Value.string p0)) (Value.string p1)) (Value.string p2))⟩
   go_simp
 intro w1 hk m0 Ai
 clear Ac Ad Ae Af Ag Ah
 replace Aa:=zB hk Aa
 replace Ab:=zB hk Ab
 obtain ⟨Ac,Ad,Ae⟩:=ce3 Aa
 obtain ⟨Af,Ag,Ah⟩:=ce3 Ab
 replace hb:=hb.trans (hk.mono hb.size)
 clear hk
 replace Ai:w1.heap[Am]? = some (Obj.cells #[Value.string p0,Value.string p1,Value.string p2] 24):=Ai
 have Aw:w1.cell? ⟨Am,0,none⟩=some (Value.string p0):=zA Ai
 have Ax:w1.cell? ⟨Am,1,none⟩=some (Value.string p1):=zA Ai
 have Ay:w1.cell? ⟨Am,2,none⟩=some (Value.string p2):=zA Ai
 clear Bb Bc Bd Bu Bv Bw A3 A4 A5 A6 A7 A8 m0
 go_upto_region 5 with fail
 obtain ⟨A3,A4,A5⟩:=cy3 Aa
 obtain ⟨A6,A7,A8⟩:=cy3 Ab
 obtain ⟨Bx,By,Bz⟩:=cy3 Ai
 have B0:=rrV C11 R hb
 have B1:=rrV C12 R hb
 have B2:=rrV C13 R hb
 have Be:=qqV C11 R hb
 have Bf:=qqV C12 R hb
 have Bg:=qqV C13 R hb
 refine wp_free1 10 0 (fun i=>if i=10 then Obj.cells #[Value.string ⟨#[]⟩,Value.string ⟨#[]⟩,Value.string ⟨#[]⟩] 24 else Obj.cells #[] 0) (fun i=>if i=10 then Obj.cells #[Value.string u0,Value.string u1,Value.string u2] 24 else Obj.cells #[] 0) (some 8) (by first | assumption | kernel_rfl) (by kernel_rfl) ?lay rfl ?_
 case lay =>
   intro i h1 h2
   obtain rfl:i=10:=by omega
   all_goals exact ⟨_,rfl,rfl,fun a w=>(by first | (go_simp;done) | (go_simp;rfl))⟩
 simp only [List.take_succ_cons,List.take_zero]
 repeat (refine wpB_step (fun K hK=>?_);go_simp;first | (refine hK _ ?_;clear hK K) | (apply Exists.intro;refine ⟨fun _=>?_,hK _ ?_⟩;(first | (with_reducible exact Be.out _ _) | (with_reducible exact Bf.out _ _) | (with_reducible exact Bg.out _ _));clear hK K))
 refine wpB_nil ?_
 intro An
 refine ⟨?_,?_⟩
 · refine ⟨_,rfl,rfl,rfl,fun cs b h=>(by cases h),fun w hw=>?_⟩
   replace hw:w.heap[An]? = some (Obj.cells #[Value.string ⟨#[]⟩,Value.string ⟨#[]⟩,Value.string ⟨#[]⟩] 24):=hw
   have z0:w.cell? ⟨An,0,none⟩=some (Value.string ⟨#[]⟩):=zA hw
   have y0:w.frozen? ⟨An,0,none⟩=false:=zD hw
   have z1:w.cell? ⟨An,1,none⟩=some (Value.string ⟨#[]⟩):=zA hw
   have y1:w.frozen? ⟨An,1,none⟩=false:=zD hw
   have z2:w.cell? ⟨An,2,none⟩=some (Value.string ⟨#[]⟩):=zA hw
   have y2:w.frozen? ⟨An,2,none⟩=false:=zD hw
   refine ⟨_,?_,(Wrote.set (i:=2) (Wrote.set (i:=1) (Wrote.set (i:=0) (Wrote.refl hw) (Value.string u0)) (Value.string u1)) (Value.string u2))⟩
   go_simp
 intro w1 hk m0 Aj
 clear Ac Ad Ae Af Ag Ah Aw Ax Ay
 replace Aa:=zB hk Aa
 replace Ab:=zB hk Ab
 replace Ai:=zB hk Ai
 obtain ⟨Ac,Ad,Ae⟩:=ce3 Aa
 obtain ⟨Af,Ag,Ah⟩:=ce3 Ab
 obtain ⟨Aw,Ax,Ay⟩:=ce3 Ai
 replace hb:=hb.trans (hk.mono hb.size)
 clear hk
 replace Aj:w1.heap[An]? = some (Obj.cells #[Value.string u0,Value.string u1,Value.string u2] 24):=Aj
 have Az:w1.cell? ⟨An,0,none⟩=some (Value.string u0):=zA Aj
 have A0:w1.cell? ⟨An,1,none⟩=some (Value.string u1):=zA Aj
 have A1:w1.cell? ⟨An,2,none⟩=some (Value.string u2):=zA Aj
 clear Be Bf Bg B0 B1 B2 A3 A4 A5 A6 A7 A8 Bx By Bz m0
 go_upto_region 16 with (first | ((go_at_call 24;first | with_reducible refine (chVB hb R C14).mono ?_ | with_reducible refine (chVB hb R C15).mono ?_ | with_reducible refine (chVB hb R C16).mono ?_ | with_reducible refine (chVB hb R C17).mono ?_);clear hb;rintro e w1 ⟨rfl,hk,hb⟩;clear Ac Ad Ae Af Ag Ah Aw Ax Ay Az A0 A1;replace Aa:=zB hk Aa;replace Ab:=zB hk Ab;replace Ai:=zB hk Ai;replace Aj:=zB hk Aj;obtain ⟨Ac,Ad,Ae⟩:=ce3 Aa;obtain ⟨Af,Ag,Ah⟩:=ce3 Ab;obtain ⟨Aw,Ax,Ay⟩:=ce3 Ai;obtain ⟨Az,A0,A1⟩:=ce3 Aj;clear hk) | (go_at_call 19;with_reducible refine (chVB hb R C18).mono ?_;clear hb;rintro e w1 ⟨rfl,hk,hb⟩;clear Ac Ad Ae Af Ag Ah Az A0 A1;replace Aa:=zB hk Aa;replace Ab:=zB hk Ab;replace Aj:=zB hk Aj;obtain ⟨Ac,Ad,Ae⟩:=ce3 Aa;obtain ⟨Af,Ag,Ah⟩:=ce3 Ab;obtain ⟨Az,A0,A1⟩:=ce3 Aj;clear hk) | (go_at_call 22;with_reducible refine (chVB hb R C19).mono ?_;clear hb;rintro e w1 ⟨rfl,hk,hb⟩;clear Ac Ad Ae Af Ag Ah;replace Aa:=zB hk Aa;replace Ab:=zB hk Ab;obtain ⟨Ac,Ad,Ae⟩:=ce3 Aa;obtain ⟨Af,Ag,Ah⟩:=ce3 Ab;clear hk))
 clear Aw Ax Ay Ai Az A0 A1 Aj
 refine wp_alloc1 (fun w1 A2 hk=>?_)
 clear Ac Ad Ae Af Ag Ah
 replace Aa:=zB hk Aa
 replace Ab:=zB hk Ab
 obtain ⟨Ac,Ad,Ae⟩:=ce3 Aa
 obtain ⟨Af,Ag,Ah⟩:=ce3 Ab
 replace hb:=hb.trans (hk.mono hb.size)
 clear hk
 obtain ⟨Bh,Bi,Bj⟩:=ce3 A2
 go_wp2_with (go_at_call 16;with_reducible refine (chVB hb R C20).mono ?_;clear hb;rintro e w1 ⟨rfl,hk,hb⟩;clear Bh Bi Bj Ac Ad Ae Af Ag Ah;replace A2:=zB hk A2;replace Aa:=zB hk Aa;replace Ab:=zB hk Ab;obtain ⟨Bh,Bi,Bj⟩:=ce3 A2;obtain ⟨Ac,Ad,Ae⟩:=ce3 Aa;obtain ⟨Af,Ag,Ah⟩:=ce3 Ab;clear hk)
 first | go_ret | go_ret2 | go_ret3
 exact ⟨rfl,hb⟩
end Go.Proofs.YtpiiclmkbplkhaaGreatDoor.Kl
