import Derived.Test.YtpennccflalobaaGreatDoorKlVPlanesVZZ
namespace Go.Proofs.YtpennccflalobaaGreatDoor.Kl
open Go Go.RowKit
set_option maxRecDepth 100000
set_option maxHeartbeats 8000000
def Fr (q:Rat) (D n m:Nat):Prop:=0 < D∧D≤2 ^ m∧∃ x:Int,x.natAbs≤2 ^ n∧q*(D:Rat)=(x:Rat)
theorem Fr.cast {q:Rat} {D E n m:Nat} (h:Fr q D n m) (e:D=E):Fr q E n m:=e ▸ h
theorem Fr.mul {p q:Rat} {D E n m k l:Nat} (hp:Fr p D n m) (hq:Fr q E k l):Fr (p*q) (D*E) (n+k) (m+l):=by
 obtain ⟨h1,h2,x,hx,ex⟩:=hp
 obtain ⟨g1,g2,y,hy,ey⟩:=hq
 refine ⟨Nat.mul_pos h1 g1,by rw [Nat.pow_add];exact Nat.mul_le_mul h2 g2,x*y,by rw [Int.natAbs_mul,Nat.pow_add];exact Nat.mul_le_mul hx hy,?_⟩
 push_cast
 rw [← ex,← ey]
 grind
theorem Fr.add {p q:Rat} {D n m:Nat} (hp:Fr p D n m) (hq:Fr q D n m):Fr (p+q) D (n+1) m:=by
 obtain ⟨h1,h2,x,hx,ex⟩:=hp
 obtain ⟨g1,g2,y,hy,ey⟩:=hq
 refine ⟨h1,h2,x+y,by have:=Int.natAbs_add_le x y;rw [Nat.pow_succ];omega,?_⟩
 push_cast
 rw [← ex,← ey]
 grind
theorem Fr.sub {p q:Rat} {D n m:Nat} (hp:Fr p D n m) (hq:Fr q D n m):Fr (p - q) D (n+1) m:=by
 obtain ⟨h1,h2,x,hx,ex⟩:=hp
 obtain ⟨g1,g2,y,hy,ey⟩:=hq
 refine ⟨h1,h2,x - y,by have:=Int.natAbs_sub_le x y;rw [Nat.pow_succ];omega,?_⟩
 push_cast
 rw [← ex,← ey]
 grind
theorem Fr.ext {q:Rat} {D n m E e:Nat} (h:Fr q D n m) (h0:0 < E) (he:E≤2 ^ e):Fr q (D*E) (n+e) (m+e):=by
 obtain ⟨h1,h2,x,hx,ex⟩:=h
 refine ⟨Nat.mul_pos h1 h0,by rw [Nat.pow_add];exact Nat.mul_le_mul h2 he,x*E,by rw [Int.natAbs_mul,Int.natAbs_natCast,Nat.pow_add];exact Nat.mul_le_mul hx he,?_⟩
 have:(((x*(E:Int)):Int):Rat)=(x:Rat)*(E:Rat):=by rw [Rat.intCast_mul];rfl
 rw [this,← ex]
 push_cast
 grind
theorem Fr.up {q:Rat} {D n m k:Nat} (h:Fr q D n m) (hk:n≤k):Fr q D k m:=by
 obtain ⟨h1,h2,x,hx,ex⟩:=h
 exact ⟨h1,h2,x,Nat.le_trans hx (Nat.pow_le_pow_right (by decide) hk),ex⟩
theorem RN_intc (x:Int) (K:Nat) (hK:0 < K) (h:x.natAbs < 10 ^ K):RN (x:Rat) K 1:=⟨dlen_le _ K hK h,by show dlen ((1:Nat):Int)≤1;rw [dlen_one];exact Nat.le_refl _⟩
theorem Fr.quot {p q:Rat} {D E n m k l e K:Nat} (hp:Fr p (D*E) n m) (hq:Fr q D k l) (hE:E≤2 ^ e) (h0:q≠0) (hK:0 < K) (h1:2 ^ n < 10 ^ K) (h2:2 ^ (k+e) < 10 ^ K):RN (p / q) (K+1) (1+K):=by
 obtain ⟨a1,a2,x,hx,ex⟩:=hp
 obtain ⟨b1,b2,y,hy,ey⟩:=hq
 have hE0:0 < E:=by
   rcases Nat.eq_zero_or_pos E with h | h
   · subst h;simp at a1
   · exact h
 have hDr:(D:Rat)≠0:=by
   intro h;have:(D:Nat)=0:=by exact_mod_cast h
   omega
 have hEr:(E:Rat)≠0:=by
   intro h;have:(E:Nat)=0:=by exact_mod_cast h
   omega
 have hy0:(y:Rat)≠0:=by rw [← ey];intro h;exact (Rat.mul_eq_zero.1 h).elim h0 hDr
 have hc:(((E:Int)*y:Int):Rat)=(E:Rat)*(y:Rat):=by rw [Rat.intCast_mul];rfl
 have key:p / q=(x:Rat) / (((E:Int)*y:Int):Rat):=by
   rw [hc,← ex,← ey]
   push_cast
   grind
 rw [key]
 refine RN_div (n:=K) (d:=1) (m:=K) (e:=1) (RN_intc x K hK (Nat.lt_of_le_of_lt hx h1)) (RN_intc _ K hK ?_) ?_ (by omega) (by omega)
 · rw [Int.natAbs_mul,Int.natAbs_natCast]
   refine Nat.lt_of_le_of_lt ?_ h2
   rw [Nat.pow_add,Nat.mul_comm]
   exact Nat.mul_le_mul hy hE
 · rw [hc];intro h;exact (Rat.mul_eq_zero.1 h).elim hEr hy0
theorem SmallIs.fr {i g:Int} {p:Rat} (h:SmallIs i g p):∃ D:Nat,Fr p D 15 8:=by
 obtain ⟨⟨h1,h2⟩,⟨h3,h4⟩,rfl⟩:=h
 refine ⟨(1+g).toNat,by omega,by omega,i,by omega,?_⟩
 unfold fieldQ
 rw [Rat.divInt_eq_div]
 have e:(((1+g).toNat:Nat):Rat)=((1+g:Int):Rat):=by
   have:(((1+g).toNat:Nat):Int)=1+g:=by omega
   exact_mod_cast congrArg (fun z:Int=>(z:Rat)) this
 rw [e]
 have hn:((1+g:Int):Rat)≠0:=by
   intro h;have:(1+g:Int)=0:=by exact_mod_cast h
   omega
 grind
theorem fr3 {i0 g0 i1 g1 i2 g2:Int} {p0 p1 p2:Rat} (k0:SmallIs i0 g0 p0) (k1:SmallIs i1 g1 p1) (k2:SmallIs i2 g2 p2):∃ D:Nat,(0 < D∧D≤2 ^ 24)∧Fr p0 D 31 24∧Fr p1 D 31 24∧Fr p2 D 31 24:=by
 obtain ⟨A,a⟩:=k0.fr
 obtain ⟨B,b⟩:=k1.fr
 obtain ⟨C,c⟩:=k2.fr
 have ha:=(a.ext b.1 b.2.1).ext c.1 c.2.1
 have hb:=(b.ext a.1 a.2.1).ext c.1 c.2.1
 have hc:=(c.ext a.1 a.2.1).ext b.1 b.2.1
 exact ⟨A*B*C,⟨ha.1,ha.2.1⟩,ha,hb.cast (by rw [Nat.mul_comm B A]),hc.cast (by rw [Nat.mul_comm C A,Nat.mul_assoc,Nat.mul_comm C B,Nat.mul_assoc])⟩
theorem Fr.dif {p q:Rat} {D E n m k l:Nat} (hp:Fr p D n m) (hq:Fr q E k l) (h:n+l=k+m):Fr (p - q) (D*E) (n+l+1) (m+l):=by
 have a:=hp.ext hq.1 hq.2.1
 have b:=(hq.ext hp.1 hp.2.1).cast (Nat.mul_comm E D)
 exact a.sub ⟨b.1,a.2.1,by rw [h];exact b.2.2⟩
theorem planesK {i0 g0 i1 g1 i2 g2 i3 g3 i4 g4 i5 g5 i6 g6 i7 g7 i8 g8 i9 g9 i10 g10 i11 g11:Int} {p0 p1 p2 p3 p4 p5 p6 p7 p8 p9 p10 p11:Rat}
   (k0:SmallIs i0 g0 p0) (k1:SmallIs i1 g1 p1) (k2:SmallIs i2 g2 p2) (k3:SmallIs i3 g3 p3) (k4:SmallIs i4 g4 p4) (k5:SmallIs i5 g5 p5) (k6:SmallIs i6 g6 p6) (k7:SmallIs i7 g7 p7) (k8:SmallIs i8 g8 p8) (k9:SmallIs i9 g9 p9) (k10:SmallIs i10 g10 p10) (k11:SmallIs i11 g11 p11) :
   ∀ n0 n1 n2:Rat,n0=((p4 - p1)*(p8 - p2)) - ((p5 - p2)*(p7 - p1))→n1=((p5 - p2)*(p6 - p0)) - ((p3 - p0)*(p8 - p2))→n2=((p3 - p0)*(p7 - p1)) - ((p4 - p1)*(p6 - p0)) →
     (((n0*p0)+(n1*p1))+(n2*p2))≠0→RN (((((n0*p0)+(n1*p1))+(n2*p2)) - (((n0*p9)+(n1*p10))+(n2*p11))) / (((n0*p0)+(n1*p1))+(n2*p2))) 53 53:=by
 rintro n0 n1 n2 rfl rfl rfl hd
 obtain ⟨A,ha,a0,a1,a2⟩:=fr3 k0 k1 k2
 obtain ⟨B,hb,b0,b1,b2⟩:=fr3 k3 k4 k5
 obtain ⟨C,hc,c0,c1,c2⟩:=fr3 k6 k7 k8
 obtain ⟨D,hd',d0,d1,d2⟩:=fr3 k9 k10 k11
 have u0:=b0.dif a0 rfl
 have u1:=b1.dif a1 rfl
 have u2:=b2.dif a2 rfl
 have v0:=c0.dif a0 rfl
 have v1:=c1.dif a1 rfl
 have v2:=c2.dif a2 rfl
 have n0:=(u1.mul v2).sub (u2.mul v1)
 have n1:=(u2.mul v0).sub (u0.mul v2)
 have n2:=(u0.mul v1).sub (u1.mul v0)
 have s:=((n0.mul a0).add (n1.mul a1)).add ((n2.mul a2).up (by decide:144≤145))
 have t:=((n0.mul d0).add (n1.mul d1)).add ((n2.mul d2).up (by decide:144≤145))
 have s2:=s.ext hd'.1 hd'.2
 have t2:=(t.ext ha.1 ha.2).cast (show _=B*A*(C*A)*A*D by ac_rfl)
 exact (s2.sub t2).quot s hd'.2 hd (by decide:0 < 52) (by decide) (by decide)
theorem lawPlanes_0z  (i0 g0 i1 g1 i2 g2 i3 g3 i4 g4 i5 g5 i6 g6 i7 g7 i8 g8 i9 g9 i10 g10 i11 g11:Int) (p0 p1 p2 p3 p4 p5 p6 p7 p8 p9 p10 p11:Rat) (k0:SmallIs i0 g0 p0) (k1:SmallIs i1 g1 p1) (k2:SmallIs i2 g2 p2) (k3:SmallIs i3 g3 p3) (k4:SmallIs i4 g4 p4) (k5:SmallIs i5 g5 p5) (k6:SmallIs i6 g6 p6) (k7:SmallIs i7 g7 p7) (k8:SmallIs i8 g8 p8) (k9:SmallIs i9 g9 p9) (k10:SmallIs i10 g10 p10) (k11:SmallIs i11 g11 p11) (n0 n1 n2 o:Rat) (e0:(((p4 - p1)*(p8 - p2)) - ((p5 - p2)*(p7 - p1)))=n0) (e1:(((p5 - p2)*(p6 - p0)) - ((p3 - p0)*(p8 - p2)))=n1) (e2:(((p3 - p0)*(p7 - p1)) - ((p4 - p1)*(p6 - p0)))=n2) (eo:(((n0*p0)+(n1*p1))+(n2*p2))=o) (q0:n0≠0) (q1:o=0) (w:World) (R:EnvV w) :
   Calls Tryz.prog 10 #[.agg #[.int .i16 i0,.int .u8 g0,.int .i16 i1,.int .u8 g1,.int .i16 i2,.int .u8 g2,.int .i16 i3,.int .u8 g3,.int .i16 i4,.int .u8 g4,.int .i16 i5,.int .u8 g5],.agg #[.int .i16 i6,.int .u8 g6,.int .i16 i7,.int .u8 g7,.int .i16 i8,.int .u8 g8,.int .i16 i9,.int .u8 g9,.int .i16 i10,.int .u8 g10,.int .i16 i11,.int .u8 g11]] w (Ret w (.bool true)):=by
 have Bd:=RN_sub (N:=8) k4.rn k1.rn
 have Be:=RN_sub (N:=8) k8.rn k2.rn
 have Bf:=RN_sub (N:=8) k5.rn k2.rn
 have Bg:=RN_sub (N:=8) k7.rn k1.rn
 have Cb:=RN_mul Bd Be
 have Cc:=RN_mul Bf Bg
 have Bh:=RN_sub (N:=8) k6.rn k0.rn
 have Bi:=RN_sub (N:=8) k3.rn k0.rn
 have Cd:=RN_mul Bf Bh
 have Ce:=RN_mul Bi Be
 have Cf:=RN_mul Bi Bg
 have Cg:=RN_mul Bd Bh
 have Bj:=RN_sub (N:=30) Cb Cc
 have Ch:=RN_mul Bj k0.rn
 have Bk:=RN_sub (N:=30) Cd Ce
 have Da:=RN_add (N:=37) rn_0 Ch
 have Ci:=RN_mul Bk k1.rn
 have Bl:=RN_sub (N:=30) Cf Cg
 have Du:=RN_add (N:=65) Da Ci
 have Db:=RN_mul Bl k2.rn
 have Dv:=RN_add (N:=63) Ch Ci
 have Dw:=RN_add (N:=91) Dv Db
 have Ar:RN n0 31 24:=(e0 ▸ Bj:RN n0 31 24)
 have As:RN n1 31 24:=(e1 ▸ Bk:RN n1 31 24)
 have At:RN n2 31 24:=(e2 ▸ Bl:RN n2 31 24)
 have A7:=RN_mul Ar k0.rn
 have A8:=RN_mul As k1.rn
 have Dx:=RN_add (N:=63) A7 A8
 have Bm:=RN_mul At k2.rn
 have Dy:=RN_add (N:=91) Dx Bm
 have Au:RN o 92 81:=(eo ▸ Dy:RN o 92 81)
 have Dc:=RN_mul k0.rn rn_m1
 have Dd:=RN_mul k1.rn rn_m1
 have De:=RN_mul k2.rn rn_m1
 have Df:=RN_add (N:=63) A8 Bm
 have Fx:=RN_add (N:=91) A7 Df
 have Az:=RN_mul Ar k9.rn
 have Cj:=RN_add (N:=37) rn_0 Az
 have A0:=RN_mul As k10.rn
 have Dg:=RN_add (N:=65) Cj A0
 have A9:=RN_mul At k11.rn
 have Dz:=RN_add (N:=63) Az A0
 have Ck:=RN_add (N:=91) Dz A9
 have Dh:=RN_add (N:=37) rn_0 A7
 have D0:=RN_add (N:=65) Dh A8
 have Di:=RN_add (N:=63) A0 A9
 have Dj:=RN_add (N:=91) Az Di
 have Fy:=RN_sub (N:=173) Dj Au
 have Fz:=RN_sub (N:=173) Ck Au
 have c1:=known5_any
 have c2:=makeV i0 g0 i1 g1 i2 g2 p0 p1 p2 k0 k1 k2
 have c3:=makeV i3 g3 i4 g4 i5 g5 p3 p4 p5 k3 k4 k5
 have c4:=makeV i6 g6 i7 g7 i8 g8 p6 p7 p8 k6 k7 k8
 have c5:=makeV i9 g9 i10 g10 i11 g11 p9 p10 p11 k9 k10 k11
 have c6:CV 62 #[.agg #[.string (ratB p0),.string (ratB p1),.string (ratB p2)],.agg #[.string (ratB p3),.string (ratB p4),.string (ratB p5)],.agg #[.string (ratB p6),.string (ratB p7),.string (ratB p8)]] (.tuple #[.agg #[.string (ratB n0),.string (ratB n1),.string (ratB n2),.string (ratB o)],.int .i64 0]):=fun w R=>(by have h:=spanned_0 p0 p1 p2 p3 p4 p5 p6 p7 p8 (by rw [e0];exact q0) k0.rn.r2 k1.rn.r2 k2.rn.r2 k3.rn.r2 k4.rn.r2 k5.rn.r2 k6.rn.r2 k7.rn.r2 k8.rn.r2 k3.rn.rm k0.rn.rm k4.rn.rm k1.rn.rm k5.rn.rm k2.rn.rm k6.rn.rm k7.rn.rm k8.rn.rm Bd.rm Be.rm Bf.rm Bg.rm Cb.rm Cc.rm Bh.rm Bi.rm Cd.rm Ce.rm Cf.rm Cg.rm Bj.rm Ch.rm Bk.rm Da.rm Ci.rm Bl.rm Du.rm Db.rm Bj.r2 Bk.r2 Bl.r2 Dw.r2 w R;rw [e0,e1,e2,eo] at h;exact h)
 have c7:=fun (w:World) (R:EnvV w)=>refVSub p3 p4 p5 p0 p1 p2 k0.rn.r4 k1.rn.r4 k2.rn.r4 k3.rn.r4 Dc.r4 k4.rn.r4 Dd.r4 k5.rn.r4 De.r4 w R.toEnvR
 have c8:=fun (w:World) (R:EnvV w)=>refVSub p6 p7 p8 p0 p1 p2 k0.rn.r4 k1.rn.r4 k2.rn.r4 k6.rn.r4 Dc.r4 k7.rn.r4 Dd.r4 k8.rn.r4 De.r4 w R.toEnvR
 have c9:CV 37 #[.agg #[.string (ratB (p3 - p0)),.string (ratB (p4 - p1)),.string (ratB (p5 - p2))],.agg #[.string (ratB (p6 - p0)),.string (ratB (p7 - p1)),.string (ratB (p8 - p2))]] (.agg #[.string (ratB n0),.string (ratB n1),.string (ratB n2)]):=fun w R=>(by have h:=refVCross (p3 - p0) (p4 - p1) (p5 - p2) (p6 - p0) (p7 - p1) (p8 - p2) Bd.r4 Be.r4 Bf.r4 Bg.r4 Cb.r4 Cc.r4 Bh.r4 Bi.r4 Cd.r4 Ce.r4 Cf.r4 Cg.r4 w R.toEnvR;rw [e0,e1,e2] at h;exact h)
 have c10:=refZero_no n0 n1 n2  (Or.inl q0)
 have c11:CV 36 #[.agg #[.string (ratB n0),.string (ratB n1),.string (ratB n2)],.agg #[.string (ratB p0),.string (ratB p1),.string (ratB p2)]] (.string (ratB o)):=fun w R=>(by have h:=refVDot n0 n1 n2 p0 p1 p2 Ar.r4 k0.rn.r4 As.r4 k1.rn.r4 At.r4 k2.rn.r4 A8.r4 Bm.r4 A7.r4 Df.r4 w R.toEnvR;rw [show (n0*p0)+((n1*p1)+(n2*p2))=o from by rw [← eo];grind] at h;exact h)
 have c12:=side_any n0 n1 n2 o p9 p10 p11 Ar.r2 As.r2 At.r2 Au.r2 (Or.inl q0) k9.rn.r2 k10.rn.r2 k11.rn.r2 Ar.rm k9.rn.rm Az.rm As.rm k10.rn.rm Cj.rm A0.rm At.rm k11.rn.rm Dg.rm A9.rm Ck.rm Au.rm
 have c13:=pierce_none n0 n1 n2 o p9 p10 p11 p0 p1 p2 (eo.trans q1) Ar.r2 As.r2 At.r2 Au.r2 (Or.inl q0) k9.rn.r2 k10.rn.r2 k11.rn.r2 k0.rn.r2 k1.rn.r2 k2.rn.r2 Ar.rm k9.rn.rm Az.rm As.rm k10.rn.rm Cj.rm A0.rm At.rm k11.rn.rm Dg.rm A9.rm Au.rm Ck.rm k0.rn.rm A7.rm k1.rn.rm Dh.rm A8.rm k2.rn.rm D0.rm Bm.rm
 have c14:CV 64 #[.agg #[.string (ratB n0),.string (ratB n1),.string (ratB n2),.string (ratB o)],.agg #[.string (ratB p9),.string (ratB p10),.string (ratB p11)]] (.string (ratB ((((n0*p9)+(n1*p10))+(n2*p11)) - o))):=fun w R=>(by have h:=refPBeyond n0 n1 n2 o p9 p10 p11 Ar.r4 k9.rn.r4 As.r4 k10.rn.r4 At.r4 k11.rn.r4 A0.r4 A9.r4 Az.r4 Di.r4 Dj.r4 Au.r4 w R.toEnvR;rw [show ((n0*p9)+((n1*p10)+(n2*p11))) - o=(((n0*p9)+(n1*p10))+(n2*p11)) - o from by grind] at h;exact h)
 have c15:=fun (w:World) (R:EnvV w)=>refRSign_any ((((n0*p9)+(n1*p10))+(n2*p11)) - o) w R.toEnvR
 have eq0:((ratB n0).toList == [48])=false:=by rw [ratB_eq_zero];exact decide_eq_false q0
 have pq0:¬ (ratB n0).toList=[48]:=fun h=>q0 ((zero_iff _).1 h)
 have eq1:((ratB o).toList == [48])=true:=by rw [ratB_eq_zero];exact decide_eq_true q1
 have pq1:(ratB o).toList=[48]:=(zero_iff _).2 q1
 obtain ⟨G4,D1⟩:∃ vq,ratB ((((n0*p9)+(n1*p10))+(n2*p11)) - o)=vq:=⟨_,rfl⟩
 obtain ⟨G5,D2⟩:∃ vq,ratB (p3 - p0)=vq:=⟨_,rfl⟩
 obtain ⟨G6,D3⟩:∃ vq,ratB (p4 - p1)=vq:=⟨_,rfl⟩
 obtain ⟨G7,D4⟩:∃ vq,ratB (p5 - p2)=vq:=⟨_,rfl⟩
 obtain ⟨G8,D5⟩:∃ vq,ratB (p6 - p0)=vq:=⟨_,rfl⟩
 obtain ⟨G9,D6⟩:∃ vq,ratB (p7 - p1)=vq:=⟨_,rfl⟩
 obtain ⟨Ha,D7⟩:∃ vq,ratB (p8 - p2)=vq:=⟨_,rfl⟩
 obtain ⟨Cm,D8⟩:∃ vq,ratB p10=vq:=⟨_,rfl⟩
 obtain ⟨Cn,D9⟩:∃ vq,ratB p11=vq:=⟨_,rfl⟩
 obtain ⟨Co,Fa⟩:∃ vq,ratB n0=vq:=⟨_,rfl⟩
 obtain ⟨Cp,Fb⟩:∃ vq,ratB n1=vq:=⟨_,rfl⟩
 obtain ⟨Cq,Fc⟩:∃ vq,ratB n2=vq:=⟨_,rfl⟩
 obtain ⟨Cr,Fd⟩:∃ vq,ratB p0=vq:=⟨_,rfl⟩
 obtain ⟨Cs,Fe⟩:∃ vq,ratB p1=vq:=⟨_,rfl⟩
 obtain ⟨Ct,Ff⟩:∃ vq,ratB p2=vq:=⟨_,rfl⟩
 obtain ⟨Cu,Fg⟩:∃ vq,ratB p3=vq:=⟨_,rfl⟩
 obtain ⟨Cv,Fh⟩:∃ vq,ratB p4=vq:=⟨_,rfl⟩
 obtain ⟨Cw,Fi⟩:∃ vq,ratB p5=vq:=⟨_,rfl⟩
 obtain ⟨Cx,Fj⟩:∃ vq,ratB p6=vq:=⟨_,rfl⟩
 obtain ⟨Cy,Fk⟩:∃ vq,ratB p7=vq:=⟨_,rfl⟩
 obtain ⟨Cz,Fl⟩:∃ vq,ratB p8=vq:=⟨_,rfl⟩
 obtain ⟨C0,Fm⟩:∃ vq,ratB p9=vq:=⟨_,rfl⟩
 obtain ⟨Hb,Fn⟩:∃ vq,ratB o=vq:=⟨_,rfl⟩
 try simp only [D1,D2,D3,D4,D5,D6,D7,D8,D9,Fa,Fb,Fc,Fd,Fe,Ff,Fg,Fh,Fi,Fj,Fk,Fl,Fm,Fn] at c1 c2 c3 c4 c5 c6 c7 c8 c9 c10 c11 c12 c13 c14 c15 eq0 pq0 eq1 pq1 ⊢
 have C1:=Lib.hid c1
 have C2:=Lib.hid c2
 have C3:=Lib.hid c3
 have C4:=Lib.hid c4
 have C5:=Lib.hid c5
 have C6:=Lib.hid c6
 have C7:=Lib.hid c7
 have C8:=Lib.hid c8
 have C9:=Lib.hid c9
 have C10:=Lib.hid c10
 have C11:=Lib.hid c11
 have C12:=Lib.hid c12
 have C13:=Lib.hid c13
 have C14:=Lib.hid c14
 have C15:=Lib.hid c15
 clear c1 c2 c3 c4 c5 c6 c7 c8 c9 c10 c11 c12 c13 c14 c15 D1 D2 D3 D4 D5 D6 D7 D8 D9 Fa Fb Fc Fd Fe Ff Fg Fh Fi Fj Fk Fl Fm Fn Bd Be Bf Bg Cb Cc Bh Bi Cd Ce Cf Cg Bj Ch Bk Da Ci Bl Du Db Dv Dw Ar As At A7 A8 Dx Bm Dy Au Dc Dd De Df Fx Az Cj A0 Dg A9 Dz Ck Dh D0 Di Dj Fy Fz k0 k1 k2 k3 k4 k5 k6 k7 k8 k9 k10 k11 q0 q1 e0 e1 e2 eo
 have hb:=Below.refl w.heap.size w
 go_enter Tryz.func10,Tryz.ntmps10
 go_upto_region 1 with fail
 refine wp_alloc2 (fun w1 a0 a1 hk=>?_)
 replace hb:=hb.trans (hk.mono hb.size)
 clear hk
 obtain ⟨Bn,Bo,Bp,Bq,Br,Bs,Bt,Bu,Bv,Bw,Bx,By⟩:=ce12 a0
 obtain ⟨Bz,B0,B1,B2,B3,B4,B5,B6,B7,B8,B9,Ca⟩:=ce12 a1
 go_upto_region 3 with (go_at_call 13;with_reducible refine (chVB hb R C1).mono ?_;clear hb;rintro e w1 ⟨rfl,hk,hb⟩;clear Bn Bo Bp Bq Br Bs Bt Bu Bv Bw Bx By Bz B0 B1 B2 B3 B4 B5 B6 B7 B8 B9 Ca;replace a0:=zB hk a0;replace a1:=zB hk a1;obtain ⟨Bn,Bo,Bp,Bq,Br,Bs,Bt,Bu,Bv,Bw,Bx,By⟩:=ce12 a0;obtain ⟨Bz,B0,B1,B2,B3,B4,B5,B6,B7,B8,B9,Ca⟩:=ce12 a1;clear hk)
 obtain ⟨F0,F1,F2,F3,F4,F5,F6,F7,F8,F9,Ga,Gb⟩:=cy12 a0
 obtain ⟨Gc,Gd,Ge,Gf,Gg,Gh,Gi,Gj,Gk,Gl,Gm,Gn⟩:=cy12 a1
 have Go:=rrV C2 R hb
 have Gp:=rrV C3 R hb
 have Gq:=rrV C4 R hb
 have Gr:=rrV C5 R hb
 have Fo:=qqV C2 R hb
 have Fp:=qqV C3 R hb
 have Fq:=qqV C4 R hb
 have Fs:=qqV C5 R hb
 refine wp_free4 12 0 (fun i=>if i=12 then Obj.cells #[Value.string ⟨#[]⟩,Value.string ⟨#[]⟩,Value.string ⟨#[]⟩] 24 else if i=13 then Obj.cells #[Value.string ⟨#[]⟩,Value.string ⟨#[]⟩,Value.string ⟨#[]⟩] 24 else if i=14 then Obj.cells #[Value.string ⟨#[]⟩,Value.string ⟨#[]⟩,Value.string ⟨#[]⟩] 24 else if i=15 then Obj.cells #[Value.string ⟨#[]⟩,Value.string ⟨#[]⟩,Value.string ⟨#[]⟩] 24 else Obj.cells #[] 0) (fun i=>if i=12 then Obj.cells #[Value.string Cr,Value.string Cs,Value.string Ct] 24 else if i=13 then Obj.cells #[Value.string Cu,Value.string Cv,Value.string Cw] 24 else if i=14 then Obj.cells #[Value.string Cx,Value.string Cy,Value.string Cz] 24 else if i=15 then Obj.cells #[Value.string C0,Value.string Cm,Value.string Cn] 24 else Obj.cells #[] 0) (some 5) (some 6) (some 7) (some 8) (by first | assumption | kernel_rfl) (by kernel_rfl) ?lay rfl rfl rfl rfl ?_
 case lay =>
   intro i h1 h2
   obtain rfl | rfl | rfl | rfl:i=12∨i=13∨i=14∨i=15:=by omega
   all_goals exact ⟨_,rfl,rfl,fun a w=>(by first | (go_simp;done) | (go_simp;rfl))⟩
 simp only [List.take_succ_cons,List.take_zero]
 repeat (refine wpB_step (fun K hK=>?_);go_simp;first | (refine hK _ ?_;clear hK K) | (apply Exists.intro;refine ⟨fun _=>?_,hK _ ?_⟩;(first | (with_reducible exact Fo.out _ _) | (with_reducible exact Fp.out _ _) | (with_reducible exact Fq.out _ _) | (with_reducible exact Fs.out _ _));clear hK K))
 refine wpB_nil ?_
 intro Am An Ao Ap
 refine ⟨?_,?_,?_,?_,?_⟩
 · refine ⟨_,rfl,rfl,rfl,fun cs b h=>(by cases h),fun w hw=>?_⟩
   replace hw:w.heap[Am]? = some (Obj.cells #[Value.string ⟨#[]⟩,Value.string ⟨#[]⟩,Value.string ⟨#[]⟩] 24):=hw
   have z0:w.cell? ⟨Am,0,none⟩=some (Value.string ⟨#[]⟩):=zA hw
   have y0:w.frozen? ⟨Am,0,none⟩=false:=zD hw
   have z1:w.cell? ⟨Am,1,none⟩=some (Value.string ⟨#[]⟩):=zA hw
   have y1:w.frozen? ⟨Am,1,none⟩=false:=zD hw
   have z2:w.cell? ⟨Am,2,none⟩=some (Value.string ⟨#[]⟩):=zA hw
   have y2:w.frozen? ⟨Am,2,none⟩=false:=zD hw
   refine ⟨_,?_,(Wrote.set (i:=2) (Wrote.set (i:=1) (Wrote.set (i:=0) (Wrote.refl hw) (Value.string Cr)) (Value.string Cs)) (Value.string Ct))⟩
   go_simp
 · refine ⟨_,rfl,rfl,rfl,fun cs b h=>(by cases h),fun w hw=>?_⟩
   replace hw:w.heap[An]? = some (Obj.cells #[Value.string ⟨#[]⟩,Value.string ⟨#[]⟩,Value.string ⟨#[]⟩] 24):=hw
   have z0:w.cell? ⟨An,0,none⟩=some (Value.string ⟨#[]⟩):=zA hw
   have y0:w.frozen? ⟨An,0,none⟩=false:=zD hw
   have z1:w.cell? ⟨An,1,none⟩=some (Value.string ⟨#[]⟩):=zA hw
   have y1:w.frozen? ⟨An,1,none⟩=false:=zD hw
   have z2:w.cell? ⟨An,2,none⟩=some (Value.string ⟨#[]⟩):=zA hw
   have y2:w.frozen? ⟨An,2,none⟩=false:=zD hw
   refine ⟨_,?_,(Wrote.set (i:=2) (Wrote.set (i:=1) (Wrote.set (i:=0) (Wrote.refl hw) (Value.string Cu)) (Value.string Cv)) (Value.string Cw))⟩
   go_simp
 · refine ⟨_,rfl,rfl,rfl,fun cs b h=>(by cases h),fun w hw=>?_⟩
   replace hw:w.heap[Ao]? = some (Obj.cells #[Value.string ⟨#[]⟩,Value.string ⟨#[]⟩,Value.string ⟨#[]⟩] 24):=hw
   have z0:w.cell? ⟨Ao,0,none⟩=some (Value.string ⟨#[]⟩):=zA hw
   have y0:w.frozen? ⟨Ao,0,none⟩=false:=zD hw
   have z1:w.cell? ⟨Ao,1,none⟩=some (Value.string ⟨#[]⟩):=zA hw
   have y1:w.frozen? ⟨Ao,1,none⟩=false:=zD hw
   have z2:w.cell? ⟨Ao,2,none⟩=some (Value.string ⟨#[]⟩):=zA hw
   have y2:w.frozen? ⟨Ao,2,none⟩=false:=zD hw
   refine ⟨_,?_,(Wrote.set (i:=2) (Wrote.set (i:=1) (Wrote.set (i:=0) (Wrote.refl hw) (Value.string Cx)) (Value.string Cy)) (Value.string Cz))⟩
   go_simp
 · refine ⟨_,rfl,rfl,rfl,fun cs b h=>(by cases h),fun w hw=>?_⟩
   replace hw:w.heap[Ap]? = some (Obj.cells #[Value.string ⟨#[]⟩,Value.string ⟨#[]⟩,Value.string ⟨#[]⟩] 24):=hw
   have z0:w.cell? ⟨Ap,0,none⟩=some (Value.string ⟨#[]⟩):=zA hw
   have y0:w.frozen? ⟨Ap,0,none⟩=false:=zD hw
   have z1:w.cell? ⟨Ap,1,none⟩=some (Value.string ⟨#[]⟩):=zA hw
   have y1:w.frozen? ⟨Ap,1,none⟩=false:=zD hw
   have z2:w.cell? ⟨Ap,2,none⟩=some (Value.string ⟨#[]⟩):=zA hw
   have y2:w.frozen? ⟨Ap,2,none⟩=false:=zD hw
   refine ⟨_,?_,(Wrote.set (i:=2) (Wrote.set (i:=1) (Wrote.set (i:=0) (Wrote.refl hw) (Value.string C0)) (Value.string Cm)) (Value.string Cn))⟩
   go_simp
 intro w1 hk m0 m1 m2 m3 Aa Ac Ad Ab _ _ _ _ _ _
 clear Bn Bo Bp Bq Br Bs Bt Bu Bv Bw Bx By Bz B0 B1 B2 B3 B4 B5 B6 B7 B8 B9 Ca
 replace a0:=zB hk a0
 replace a1:=zB hk a1
 obtain ⟨Bn,Bo,Bp,Bq,Br,Bs,Bt,Bu,Bv,Bw,Bx,By⟩:=ce12 a0
 obtain ⟨Bz,B0,B1,B2,B3,B4,B5,B6,B7,B8,B9,Ca⟩:=ce12 a1
 replace hb:=hb.trans (hk.mono hb.size)
 clear hk
 replace Aa:w1.heap[Am]? = some (Obj.cells #[Value.string Cr,Value.string Cs,Value.string Ct] 24):=Aa
 have Ag:w1.cell? ⟨Am,0,none⟩=some (Value.string Cr):=zA Aa
 have Ah:w1.cell? ⟨Am,1,none⟩=some (Value.string Cs):=zA Aa
 have Ai:w1.cell? ⟨Am,2,none⟩=some (Value.string Ct):=zA Aa
 replace Ac:w1.heap[An]? = some (Obj.cells #[Value.string Cu,Value.string Cv,Value.string Cw] 24):=Ac
 have A1:w1.cell? ⟨An,0,none⟩=some (Value.string Cu):=zA Ac
 have A2:w1.cell? ⟨An,1,none⟩=some (Value.string Cv):=zA Ac
 have A3:w1.cell? ⟨An,2,none⟩=some (Value.string Cw):=zA Ac
 replace Ad:w1.heap[Ao]? = some (Obj.cells #[Value.string Cx,Value.string Cy,Value.string Cz] 24):=Ad
 have A4:w1.cell? ⟨Ao,0,none⟩=some (Value.string Cx):=zA Ad
 have A5:w1.cell? ⟨Ao,1,none⟩=some (Value.string Cy):=zA Ad
 have A6:w1.cell? ⟨Ao,2,none⟩=some (Value.string Cz):=zA Ad
 replace Ab:w1.heap[Ap]? = some (Obj.cells #[Value.string C0,Value.string Cm,Value.string Cn] 24):=Ab
 have Aj:w1.cell? ⟨Ap,0,none⟩=some (Value.string C0):=zA Ab
 have Ak:w1.cell? ⟨Ap,1,none⟩=some (Value.string Cm):=zA Ab
 have Al:w1.cell? ⟨Ap,2,none⟩=some (Value.string Cn):=zA Ab
 clear Fo Fp Fq Fs Go Gp Gq Gr F0 F1 F2 F3 F4 F5 F6 F7 F8 F9 Ga Gb Gc Gd Ge Gf Gg Gh Gi Gj Gk Gl Gm Gn m0 m1 m2 m3
 go_upto_region 5 with (go_at_call 62;with_reducible refine (chVB hb R C6).mono ?_;clear hb;rintro e w1 ⟨rfl,hk,hb⟩;clear Ag Ah Ai A1 A2 A3 A4 A5 A6 Aj Ak Al;replace Aa:=zB hk Aa;replace Ac:=zB hk Ac;replace Ad:=zB hk Ad;replace Ab:=zB hk Ab;obtain ⟨Ag,Ah,Ai⟩:=ce3 Aa;obtain ⟨A1,A2,A3⟩:=ce3 Ac;obtain ⟨A4,A5,A6⟩:=ce3 Ad;obtain ⟨Aj,Ak,Al⟩:=ce3 Ab;clear hk)
 clear Bn Bo Bp Bq Br Bs Bt Bu Bv Bw Bx By a0 Bz B0 B1 B2 B3 B4 B5 B6 B7 B8 B9 Ca a1
 refine wp_alloc1 (fun w1 Ae hk=>?_)
 clear Ag Ah Ai A1 A2 A3 A4 A5 A6 Aj Ak Al
 replace Aa:=zB hk Aa
 replace Ac:=zB hk Ac
 replace Ad:=zB hk Ad
 replace Ab:=zB hk Ab
 obtain ⟨Ag,Ah,Ai⟩:=ce3 Aa
 obtain ⟨A1,A2,A3⟩:=ce3 Ac
 obtain ⟨A4,A5,A6⟩:=ce3 Ad
 obtain ⟨Aj,Ak,Al⟩:=ce3 Ab
 replace hb:=hb.trans (hk.mono hb.size)
 clear hk
 obtain ⟨Av,Aw,Ax,Ay⟩:=ce4 Ae
 obtain ⟨Dk,Dl,Dm,Dn⟩:=cy4 Ae
 obtain ⟨Do,Dp,Dq⟩:=cy3 Aa
 obtain ⟨Gs,Gt,Gu⟩:=cy3 Ac
 obtain ⟨Gv,Gw,Gx⟩:=cy3 Ad
 obtain ⟨Dr,Ds,Dt⟩:=cy3 Ab
 have Gy:=rrV C7 R hb
 have Gz:=rrV C8 R hb
 have G0:=rrV C9 R hb
 have Ft:=qqV C7 R hb
 have Fu:=qqV C8 R hb
 have Fv:=qqV C9 R hb
 refine wp_free1 7 0 (fun i=>if i=7 then Obj.cells #[Value.string ⟨#[]⟩,Value.string ⟨#[]⟩,Value.string ⟨#[]⟩] 24 else Obj.cells #[] 0) (fun i=>if i=7 then Obj.cells #[Value.string Co,Value.string Cp,Value.string Cq] 24 else Obj.cells #[] 0) (some 11) (by first | assumption | kernel_rfl) (by kernel_rfl) ?lay rfl ?_
 case lay =>
   intro i h1 h2
   obtain rfl:i=7:=by omega
   all_goals exact ⟨_,rfl,rfl,fun a w=>(by first | (go_simp;done) | (go_simp;rfl))⟩
 simp only [List.take_succ_cons,List.take_zero]
 repeat (refine wpB_step (fun K hK=>?_);go_simp;first | (refine hK _ ?_;clear hK K) | (apply Exists.intro;refine ⟨fun _=>?_,hK _ ?_⟩;(first | (with_reducible exact Ft.out _ _) | (with_reducible exact Fu.out _ _) | (with_reducible exact Fv.out _ _));clear hK K))
 refine wpB_nil ?_
 intro Aq
 refine ⟨?_,?_⟩
 · refine ⟨_,rfl,rfl,rfl,fun cs b h=>(by cases h),fun w hw=>?_⟩
   replace hw:w.heap[Aq]? = some (Obj.cells #[Value.string ⟨#[]⟩,Value.string ⟨#[]⟩,Value.string ⟨#[]⟩] 24):=hw
   have z0:w.cell? ⟨Aq,0,none⟩=some (Value.string ⟨#[]⟩):=zA hw
   have y0:w.frozen? ⟨Aq,0,none⟩=false:=zD hw
   have z1:w.cell? ⟨Aq,1,none⟩=some (Value.string ⟨#[]⟩):=zA hw
   have y1:w.frozen? ⟨Aq,1,none⟩=false:=zD hw
   have z2:w.cell? ⟨Aq,2,none⟩=some (Value.string ⟨#[]⟩):=zA hw
   have y2:w.frozen? ⟨Aq,2,none⟩=false:=zD hw
   refine ⟨_,?_,(Wrote.set (i:=2) (Wrote.set (i:=1) (Wrote.set (i:=0) (Wrote.refl hw) (Value.string Co)) (Value.string Cp)) (Value.string Cq))⟩
   go_simp
 intro w1 hk m0 Af
 clear Av Aw Ax Ay Ag Ah Ai A1 A2 A3 A4 A5 A6 Aj Ak Al
 replace Ae:=zB hk Ae
 replace Aa:=zB hk Aa
 replace Ac:=zB hk Ac
 replace Ad:=zB hk Ad
 replace Ab:=zB hk Ab
 obtain ⟨Av,Aw,Ax,Ay⟩:=ce4 Ae
 obtain ⟨Ag,Ah,Ai⟩:=ce3 Aa
 obtain ⟨A1,A2,A3⟩:=ce3 Ac
 obtain ⟨A4,A5,A6⟩:=ce3 Ad
 obtain ⟨Aj,Ak,Al⟩:=ce3 Ab
 replace hb:=hb.trans (hk.mono hb.size)
 clear hk
 replace Af:w1.heap[Aq]? = some (Obj.cells #[Value.string Co,Value.string Cp,Value.string Cq] 24):=Af
 have Ba:w1.cell? ⟨Aq,0,none⟩=some (Value.string Co):=zA Af
 have Bb:w1.cell? ⟨Aq,1,none⟩=some (Value.string Cp):=zA Af
 have Bc:w1.cell? ⟨Aq,2,none⟩=some (Value.string Cq):=zA Af
 clear Ft Fu Fv Gy Gz G0 Dk Dl Dm Dn Do Dp Dq Gs Gt Gu Gv Gw Gx Dr Ds Dt m0
 go_upto_region 8 with (go_at_call 38;with_reducible refine (chVB hb R C10).mono ?_;clear hb;rintro e w1 ⟨rfl,hk,hb⟩;clear Av Aw Ax Ay Ag Ah Ai Aj Ak Al Ba Bb Bc;replace Ae:=zB hk Ae;replace Aa:=zB hk Aa;replace Ab:=zB hk Ab;replace Af:=zB hk Af;obtain ⟨Av,Aw,Ax,Ay⟩:=ce4 Ae;obtain ⟨Ag,Ah,Ai⟩:=ce3 Aa;obtain ⟨Aj,Ak,Al⟩:=ce3 Ab;obtain ⟨Ba,Bb,Bc⟩:=ce3 Af;clear hk)
 clear A1 A2 A3 Ac A4 A5 A6 Ad
 obtain ⟨Dk,Dl,Dm,Dn⟩:=cy4 Ae
 obtain ⟨Do,Dp,Dq⟩:=cy3 Aa
 obtain ⟨Dr,Ds,Dt⟩:=cy3 Ab
 obtain ⟨G1,G2,G3⟩:=cy3 Af
 have Fw:=rrV C11 R hb
 refine wp_region_quiet_below (by first | assumption | kernel_rfl) (by kernel_rfl) ?_
 repeat (quiet_step (first | (with_reducible exact Fw.out _ _)))
 refine wpQuiet_nil ?_
 intro w1 hw'
 obtain ⟨hk,hb⟩:=zQ hb hw'
 clear Av Aw Ax Ay Ag Ah Ai Aj Ak Al Ba Bb Bc
 replace Ae:=zB hk Ae
 replace Aa:=zB hk Aa
 replace Ab:=zB hk Ab
 replace Af:=zB hk Af
 obtain ⟨Av,Aw,Ax,Ay⟩:=ce4 Ae
 obtain ⟨Ag,Ah,Ai⟩:=ce3 Aa
 obtain ⟨Aj,Ak,Al⟩:=ce3 Ab
 obtain ⟨Ba,Bb,Bc⟩:=ce3 Af
 clear Fw Dk Dl Dm Dn Do Dp Dq Dr Ds Dt G1 G2 G3
 clear hk hw'
 go_wp2_with ((first | (go_at_call 27;with_reducible refine (chVB hb R C12).mono ?_) | (go_at_call 63;with_reducible refine (chVB hb R C13).mono ?_) | (go_at_call 64;with_reducible refine (chVB hb R C14).mono ?_) | (go_at_call 42;with_reducible refine (chVB hb R C15).mono ?_) | (go_at_call 36;with_reducible refine (chVB hb R C11).mono ?_));clear hb;rintro e w1 ⟨rfl,hk,hb⟩;clear Av Aw Ax Ay Ag Ah Ai Aj Ak Al Ba Bb Bc;replace Ae:=zB hk Ae;replace Aa:=zB hk Aa;replace Ab:=zB hk Ab;replace Af:=zB hk Af;obtain ⟨Av,Aw,Ax,Ay⟩:=ce4 Ae;obtain ⟨Ag,Ah,Ai⟩:=ce3 Aa;obtain ⟨Aj,Ak,Al⟩:=ce3 Ab;obtain ⟨Ba,Bb,Bc⟩:=ce3 Af;clear hk)
 first | go_ret | go_ret2 | go_ret3
 exact ⟨rfl,hb⟩
theorem lawPlanes_0n  (i0 g0 i1 g1 i2 g2 i3 g3 i4 g4 i5 g5 i6 g6 i7 g7 i8 g8 i9 g9 i10 g10 i11 g11:Int) (p0 p1 p2 p3 p4 p5 p6 p7 p8 p9 p10 p11:Rat) (k0:SmallIs i0 g0 p0) (k1:SmallIs i1 g1 p1) (k2:SmallIs i2 g2 p2) (k3:SmallIs i3 g3 p3) (k4:SmallIs i4 g4 p4) (k5:SmallIs i5 g5 p5) (k6:SmallIs i6 g6 p6) (k7:SmallIs i7 g7 p7) (k8:SmallIs i8 g8 p8) (k9:SmallIs i9 g9 p9) (k10:SmallIs i10 g10 p10) (k11:SmallIs i11 g11 p11) (n0 n1 n2 o:Rat) (e0:(((p4 - p1)*(p8 - p2)) - ((p5 - p2)*(p7 - p1)))=n0) (e1:(((p5 - p2)*(p6 - p0)) - ((p3 - p0)*(p8 - p2)))=n1) (e2:(((p3 - p0)*(p7 - p1)) - ((p4 - p1)*(p6 - p0)))=n2) (eo:(((n0*p0)+(n1*p1))+(n2*p2))=o) (q0:n0≠0) (q1:o≠0) (w:World) (R:EnvV w) :
   Calls Tryz.prog 10 #[.agg #[.int .i16 i0,.int .u8 g0,.int .i16 i1,.int .u8 g1,.int .i16 i2,.int .u8 g2,.int .i16 i3,.int .u8 g3,.int .i16 i4,.int .u8 g4,.int .i16 i5,.int .u8 g5],.agg #[.int .i16 i6,.int .u8 g6,.int .i16 i7,.int .u8 g7,.int .i16 i8,.int .u8 g8,.int .i16 i9,.int .u8 g9,.int .i16 i10,.int .u8 g10,.int .i16 i11,.int .u8 g11]] w (Ret w (.bool true)):=by
 have kq:=planesK k0 k1 k2 k3 k4 k5 k6 k7 k8 k9 k10 k11 n0 n1 n2 e0.symm e1.symm e2.symm (by rw [eo];exact q1)
 rw [eo] at kq
 have kq':RN ((o - (((n0*p9)+(n1*p10))+(n2*p11))) / (((n0*p0)+(n1*p1))+(n2*p2))) 53 53:=by rw [eo];exact kq
 have Bd:=RN_sub (N:=8) k4.rn k1.rn
 have Be:=RN_sub (N:=8) k8.rn k2.rn
 have Bf:=RN_sub (N:=8) k5.rn k2.rn
 have Bg:=RN_sub (N:=8) k7.rn k1.rn
 have Cn:=RN_mul Bd Be
 have Co:=RN_mul Bf Bg
 have Bh:=RN_sub (N:=8) k6.rn k0.rn
 have Bi:=RN_sub (N:=8) k3.rn k0.rn
 have Cp:=RN_mul Bf Bh
 have Cq:=RN_mul Bi Be
 have Cr:=RN_mul Bi Bg
 have Cs:=RN_mul Bd Bh
 have Bj:=RN_sub (N:=30) Cn Co
 have Ct:=RN_mul Bj k0.rn
 have Bk:=RN_sub (N:=30) Cp Cq
 have Dk:=RN_add (N:=37) rn_0 Ct
 have Cu:=RN_mul Bk k1.rn
 have Bl:=RN_sub (N:=30) Cr Cs
 have D6:=RN_add (N:=65) Dk Cu
 have Dl:=RN_mul Bl k2.rn
 have D7:=RN_add (N:=63) Ct Cu
 have D8:=RN_add (N:=91) D7 Dl
 have Am:RN n0 31 24:=(e0 ▸ Bj:RN n0 31 24)
 have An:RN n1 31 24:=(e1 ▸ Bk:RN n1 31 24)
 have Ao:RN n2 31 24:=(e2 ▸ Bl:RN n2 31 24)
 have Ba:=RN_mul Am k0.rn
 have Bb:=RN_mul An k1.rn
 have D9:=RN_add (N:=63) Ba Bb
 have Bm:=RN_mul Ao k2.rn
 have Dm:=RN_add (N:=91) D9 Bm
 have Ap:RN o 92 81:=(eo ▸ Dm:RN o 92 81)
 have Dn:=RN_mul k0.rn rn_m1
 have Do:=RN_mul k1.rn rn_m1
 have Dp:=RN_mul k2.rn rn_m1
 have Dq:=RN_add (N:=63) Bb Bm
 have Gj:=RN_add (N:=91) Ba Dq
 have Az:=RN_mul Am k9.rn
 have Cv:=RN_add (N:=37) rn_0 Az
 have A0:=RN_mul An k10.rn
 have Dr:=RN_add (N:=65) Cv A0
 have Bc:=RN_mul Ao k11.rn
 have Fa:=RN_add (N:=63) Az A0
 have Bn:=RN_add (N:=91) Fa Bc
 have Ds:=RN_add (N:=37) rn_0 Ba
 have Fb:=RN_add (N:=65) Ds Bb
 have Fc:=RN_sub (N:=173) Ap Bn
 have Dt:=RN_add (N:=63) A0 Bc
 have Du:=RN_add (N:=91) Az Dt
 have Gk:=RN_sub (N:=173) Du Ap
 have Gl:=RN_sub (N:=173) Bn Ap
 have Dv:=RN_mul k0.rn kq
 have Dw:=RN_mul k1.rn kq
 have Dx:=RN_mul k2.rn kq
 have Dy:=RN_add (N:=61) k9.rn Dv
 have Dz:=RN_add (N:=61) k10.rn Dw
 have D0:=RN_add (N:=61) k11.rn Dx
 have D1:=RN_mul An Dz
 have D2:=RN_mul Ao D0
 have D3:=RN_mul Am Dy
 have D4:=RN_add (N:=176) D1 D2
 have D5:=RN_add (N:=260) D3 D4
 have Gm:=RN_sub (N:=342) D5 Ap
 have c1:=known5_any
 have c2:=makeV i0 g0 i1 g1 i2 g2 p0 p1 p2 k0 k1 k2
 have c3:=makeV i3 g3 i4 g4 i5 g5 p3 p4 p5 k3 k4 k5
 have c4:=makeV i6 g6 i7 g7 i8 g8 p6 p7 p8 k6 k7 k8
 have c5:=makeV i9 g9 i10 g10 i11 g11 p9 p10 p11 k9 k10 k11
 have c6:CV 62 #[.agg #[.string (ratB p0),.string (ratB p1),.string (ratB p2)],.agg #[.string (ratB p3),.string (ratB p4),.string (ratB p5)],.agg #[.string (ratB p6),.string (ratB p7),.string (ratB p8)]] (.tuple #[.agg #[.string (ratB n0),.string (ratB n1),.string (ratB n2),.string (ratB o)],.int .i64 0]):=fun w R=>(by have h:=spanned_0 p0 p1 p2 p3 p4 p5 p6 p7 p8 (by rw [e0];exact q0) k0.rn.r2 k1.rn.r2 k2.rn.r2 k3.rn.r2 k4.rn.r2 k5.rn.r2 k6.rn.r2 k7.rn.r2 k8.rn.r2 k3.rn.rm k0.rn.rm k4.rn.rm k1.rn.rm k5.rn.rm k2.rn.rm k6.rn.rm k7.rn.rm k8.rn.rm Bd.rm Be.rm Bf.rm Bg.rm Cn.rm Co.rm Bh.rm Bi.rm Cp.rm Cq.rm Cr.rm Cs.rm Bj.rm Ct.rm Bk.rm Dk.rm Cu.rm Bl.rm D6.rm Dl.rm Bj.r2 Bk.r2 Bl.r2 D8.r2 w R;rw [e0,e1,e2,eo] at h;exact h)
 have c7:=fun (w:World) (R:EnvV w)=>refVSub p3 p4 p5 p0 p1 p2 k0.rn.r4 k1.rn.r4 k2.rn.r4 k3.rn.r4 Dn.r4 k4.rn.r4 Do.r4 k5.rn.r4 Dp.r4 w R.toEnvR
 have c8:=fun (w:World) (R:EnvV w)=>refVSub p6 p7 p8 p0 p1 p2 k0.rn.r4 k1.rn.r4 k2.rn.r4 k6.rn.r4 Dn.r4 k7.rn.r4 Do.r4 k8.rn.r4 Dp.r4 w R.toEnvR
 have c9:CV 37 #[.agg #[.string (ratB (p3 - p0)),.string (ratB (p4 - p1)),.string (ratB (p5 - p2))],.agg #[.string (ratB (p6 - p0)),.string (ratB (p7 - p1)),.string (ratB (p8 - p2))]] (.agg #[.string (ratB n0),.string (ratB n1),.string (ratB n2)]):=fun w R=>(by have h:=refVCross (p3 - p0) (p4 - p1) (p5 - p2) (p6 - p0) (p7 - p1) (p8 - p2) Bd.r4 Be.r4 Bf.r4 Bg.r4 Cn.r4 Co.r4 Bh.r4 Bi.r4 Cp.r4 Cq.r4 Cr.r4 Cs.r4 w R.toEnvR;rw [e0,e1,e2] at h;exact h)
 have c10:=refZero_no n0 n1 n2  (Or.inl q0)
 have c11:CV 36 #[.agg #[.string (ratB n0),.string (ratB n1),.string (ratB n2)],.agg #[.string (ratB p0),.string (ratB p1),.string (ratB p2)]] (.string (ratB o)):=fun w R=>(by have h:=refVDot n0 n1 n2 p0 p1 p2 Am.r4 k0.rn.r4 An.r4 k1.rn.r4 Ao.r4 k2.rn.r4 Bb.r4 Bm.r4 Ba.r4 Dq.r4 w R.toEnvR;rw [show (n0*p0)+((n1*p1)+(n2*p2))=o from by rw [← eo];grind] at h;exact h)
 have c12:=side_any n0 n1 n2 o p9 p10 p11 Am.r2 An.r2 Ao.r2 Ap.r2 (Or.inl q0) k9.rn.r2 k10.rn.r2 k11.rn.r2 Am.rm k9.rn.rm Az.rm An.rm k10.rn.rm Cv.rm A0.rm Ao.rm k11.rn.rm Dr.rm Bc.rm Bn.rm Ap.rm
 have c13:CV 63 #[.agg #[.string (ratB n0),.string (ratB n1),.string (ratB n2),.string (ratB o)],.agg #[.string (ratB p9),.string (ratB p10),.string (ratB p11)],.agg #[.string (ratB p0),.string (ratB p1),.string (ratB p2)]] (.tuple #[.string (ratB ((o - (((n0*p9)+(n1*p10))+(n2*p11))) / o)),.int .i64 0]):=fun w R=>(by have h:=pierce_any n0 n1 n2 o p9 p10 p11 p0 p1 p2 Am.r2 An.r2 Ao.r2 Ap.r2 (Or.inl q0) k9.rn.r2 k10.rn.r2 k11.rn.r2 k0.rn.r2 k1.rn.r2 k2.rn.r2 Am.rm k9.rn.rm Az.rm An.rm k10.rn.rm Cv.rm A0.rm Ao.rm k11.rn.rm Dr.rm Bc.rm Ap.rm Bn.rm k0.rn.rm Ba.rm k1.rn.rm Ds.rm Bb.rm k2.rn.rm Fb.rm Bm.rm (by rw [eo];exact q1) Fc.rm Dm.rm kq'.r2 w R;rw [eo] at h;exact h)
 have c14:CV 64 #[.agg #[.string (ratB n0),.string (ratB n1),.string (ratB n2),.string (ratB o)],.agg #[.string (ratB p9),.string (ratB p10),.string (ratB p11)]] (.string (ratB ((((n0*p9)+(n1*p10))+(n2*p11)) - o))):=fun w R=>(by have h:=refPBeyond n0 n1 n2 o p9 p10 p11 Am.r4 k9.rn.r4 An.r4 k10.rn.r4 Ao.r4 k11.rn.r4 A0.r4 Bc.r4 Az.r4 Dt.r4 Du.r4 Ap.r4 w R.toEnvR;rw [show ((n0*p9)+((n1*p10)+(n2*p11))) - o=(((n0*p9)+(n1*p10))+(n2*p11)) - o from by grind] at h;exact h)
 have c15:=fun (w:World) (R:EnvV w)=>refRSign_any ((((n0*p9)+(n1*p10))+(n2*p11)) - o) w R.toEnvR
 have c17:=fun (w:World) (R:EnvV w)=>refVScale p0 p1 p2 ((o - (((n0*p9)+(n1*p10))+(n2*p11))) / o) k0.rn.r4 kq.r4 k1.rn.r4 k2.rn.r4 w R.toEnvR
 have c18:=fun (w:World) (R:EnvV w)=>refVAdd p9 p10 p11 (p0*((o - (((n0*p9)+(n1*p10))+(n2*p11))) / o)) (p1*((o - (((n0*p9)+(n1*p10))+(n2*p11))) / o)) (p2*((o - (((n0*p9)+(n1*p10))+(n2*p11))) / o)) k9.rn.r4 Dv.r4 k10.rn.r4 Dw.r4 k11.rn.r4 Dx.r4 w R.toEnvR
 have c19:CV 64 #[.agg #[.string (ratB n0),.string (ratB n1),.string (ratB n2),.string (ratB o)],.agg #[.string (ratB (p9+(p0*((o - (((n0*p9)+(n1*p10))+(n2*p11))) / o)))),.string (ratB (p10+(p1*((o - (((n0*p9)+(n1*p10))+(n2*p11))) / o)))),.string (ratB (p11+(p2*((o - (((n0*p9)+(n1*p10))+(n2*p11))) / o))))]] (.string ⟨#[48]⟩):=fun w R=>(by have h:=refPBeyond n0 n1 n2 o (p9+(p0*((o - (((n0*p9)+(n1*p10))+(n2*p11))) / o))) (p10+(p1*((o - (((n0*p9)+(n1*p10))+(n2*p11))) / o))) (p11+(p2*((o - (((n0*p9)+(n1*p10))+(n2*p11))) / o))) Am.r4 Dy.r4 An.r4 Dz.r4 Ao.r4 D0.r4 D1.r4 D2.r4 D3.r4 D4.r4 D5.r4 Ap.r4 w R.toEnvR;rw [show ((n0*(p9+(p0*((o - (((n0*p9)+(n1*p10))+(n2*p11))) / o))))+((n1*(p10+(p1*((o - (((n0*p9)+(n1*p10))+(n2*p11))) / o))))+(n2*(p11+(p2*((o - (((n0*p9)+(n1*p10))+(n2*p11))) / o)))))) - o=0 from by have:=q1;have:=eo;grind,rb_0] at h;exact h)
 have eq0:((ratB n0).toList == [48])=false:=by rw [ratB_eq_zero];exact decide_eq_false q0
 have pq0:¬ (ratB n0).toList=[48]:=fun h=>q0 ((zero_iff _).1 h)
 have eq1:((ratB o).toList == [48])=false:=by rw [ratB_eq_zero];exact decide_eq_false q1
 have pq1:¬ (ratB o).toList=[48]:=fun h=>q1 ((zero_iff _).1 h)
 obtain ⟨Hr,Fd⟩:∃ vq,ratB (p10+(p1*((o - (((n0*p9)+(n1*p10))+(n2*p11))) / o)))=vq:=⟨_,rfl⟩
 obtain ⟨Hs,Fe⟩:∃ vq,ratB (p11+(p2*((o - (((n0*p9)+(n1*p10))+(n2*p11))) / o)))=vq:=⟨_,rfl⟩
 obtain ⟨Ht,Ff⟩:∃ vq,ratB (p9+(p0*((o - (((n0*p9)+(n1*p10))+(n2*p11))) / o)))=vq:=⟨_,rfl⟩
 obtain ⟨Hu,Fg⟩:∃ vq,ratB (p0*((o - (((n0*p9)+(n1*p10))+(n2*p11))) / o))=vq:=⟨_,rfl⟩
 obtain ⟨Hv,Fh⟩:∃ vq,ratB (p1*((o - (((n0*p9)+(n1*p10))+(n2*p11))) / o))=vq:=⟨_,rfl⟩
 obtain ⟨Hw,Fi⟩:∃ vq,ratB (p2*((o - (((n0*p9)+(n1*p10))+(n2*p11))) / o))=vq:=⟨_,rfl⟩
 obtain ⟨Hx,Fj⟩:∃ vq,ratB ((o - (((n0*p9)+(n1*p10))+(n2*p11))) / o)=vq:=⟨_,rfl⟩
 obtain ⟨Hy,Fk⟩:∃ vq,ratB ((((n0*p9)+(n1*p10))+(n2*p11)) - o)=vq:=⟨_,rfl⟩
 obtain ⟨Hz,Fl⟩:∃ vq,ratB (p3 - p0)=vq:=⟨_,rfl⟩
 obtain ⟨H0,Fm⟩:∃ vq,ratB (p4 - p1)=vq:=⟨_,rfl⟩
 obtain ⟨H1,Fn⟩:∃ vq,ratB (p5 - p2)=vq:=⟨_,rfl⟩
 obtain ⟨H2,Fo⟩:∃ vq,ratB (p6 - p0)=vq:=⟨_,rfl⟩
 obtain ⟨H3,Fp⟩:∃ vq,ratB (p7 - p1)=vq:=⟨_,rfl⟩
 obtain ⟨H4,Fq⟩:∃ vq,ratB (p8 - p2)=vq:=⟨_,rfl⟩
 obtain ⟨Cw,Fs⟩:∃ vq,ratB p10=vq:=⟨_,rfl⟩
 obtain ⟨Cx,Ft⟩:∃ vq,ratB p11=vq:=⟨_,rfl⟩
 obtain ⟨Cy,Fu⟩:∃ vq,ratB n0=vq:=⟨_,rfl⟩
 obtain ⟨Cz,Fv⟩:∃ vq,ratB n1=vq:=⟨_,rfl⟩
 obtain ⟨C0,Fw⟩:∃ vq,ratB n2=vq:=⟨_,rfl⟩
 obtain ⟨Da,Fx⟩:∃ vq,ratB p0=vq:=⟨_,rfl⟩
 obtain ⟨Db,Fy⟩:∃ vq,ratB p1=vq:=⟨_,rfl⟩
 obtain ⟨Dc,Fz⟩:∃ vq,ratB p2=vq:=⟨_,rfl⟩
 obtain ⟨Dd,F0⟩:∃ vq,ratB p3=vq:=⟨_,rfl⟩
 obtain ⟨De,F1⟩:∃ vq,ratB p4=vq:=⟨_,rfl⟩
 obtain ⟨Df,F2⟩:∃ vq,ratB p5=vq:=⟨_,rfl⟩
 obtain ⟨Dg,F3⟩:∃ vq,ratB p6=vq:=⟨_,rfl⟩
 obtain ⟨Dh,F4⟩:∃ vq,ratB p7=vq:=⟨_,rfl⟩
 obtain ⟨Di,F5⟩:∃ vq,ratB p8=vq:=⟨_,rfl⟩
 obtain ⟨Dj,F6⟩:∃ vq,ratB p9=vq:=⟨_,rfl⟩
 obtain ⟨H5,F7⟩:∃ vq,ratB o=vq:=⟨_,rfl⟩
 try simp only [Fd,Fe,Ff,Fg,Fh,Fi,Fj,Fk,Fl,Fm,Fn,Fo,Fp,Fq,Fs,Ft,Fu,Fv,Fw,Fx,Fy,Fz,F0,F1,F2,F3,F4,F5,F6,F7] at c1 c2 c3 c4 c5 c6 c7 c8 c9 c10 c11 c12 c13 c14 c15 c17 c18 c19 eq0 pq0 eq1 pq1 ⊢
 have C1:=Lib.hid c1
 have C2:=Lib.hid c2
 have C3:=Lib.hid c3
 have C4:=Lib.hid c4
 have C5:=Lib.hid c5
 have C6:=Lib.hid c6
 have C7:=Lib.hid c7
 have C8:=Lib.hid c8
 have C9:=Lib.hid c9
 have C10:=Lib.hid c10
 have C11:=Lib.hid c11
 have C12:=Lib.hid c12
 have C13:=Lib.hid c13
 have C14:=Lib.hid c14
 have C15:=Lib.hid c15
 have C17:=Lib.hid c17
 have C18:=Lib.hid c18
 have C19:=Lib.hid c19
 clear c1 c2 c3 c4 c5 c6 c7 c8 c9 c10 c11 c12 c13 c14 c15 c17 c18 c19 Fd Fe Ff Fg Fh Fi Fj Fk Fl Fm Fn Fo Fp Fq Fs Ft Fu Fv Fw Fx Fy Fz F0 F1 F2 F3 F4 F5 F6 F7 Bd Be Bf Bg Cn Co Bh Bi Cp Cq Cr Cs Bj Ct Bk Dk Cu Bl D6 Dl D7 D8 Am An Ao Ba Bb D9 Bm Dm Ap Dn Do Dp Dq Gj Az Cv A0 Dr Bc Fa Bn Ds Fb Fc Dt Du Gk Gl Dv Dw Dx Dy Dz D0 D1 D2 D3 D4 D5 Gm k0 k1 k2 k3 k4 k5 k6 k7 k8 k9 k10 k11 q0 q1 kq kq' e0 e1 e2 eo
 have hb:=Below.refl w.heap.size w
 go_enter Tryz.func10,Tryz.ntmps10
 go_upto_region 1 with fail
 refine wp_alloc2 (fun w1 a0 a1 hk=>?_)
 replace hb:=hb.trans (hk.mono hb.size)
 clear hk
 obtain ⟨Bo,Bp,Bq,Br,Bs,Bt,Bu,Bv,Bw,Bx,By,Bz⟩:=ce12 a0
 obtain ⟨B0,B1,B2,B3,B4,B5,B6,B7,B8,B9,Ca,Cb⟩:=ce12 a1
 go_upto_region 3 with (go_at_call 13;with_reducible refine (chVB hb R C1).mono ?_;clear hb;rintro e w1 ⟨rfl,hk,hb⟩;clear Bo Bp Bq Br Bs Bt Bu Bv Bw Bx By Bz B0 B1 B2 B3 B4 B5 B6 B7 B8 B9 Ca Cb;replace a0:=zB hk a0;replace a1:=zB hk a1;obtain ⟨Bo,Bp,Bq,Br,Bs,Bt,Bu,Bv,Bw,Bx,By,Bz⟩:=ce12 a0;obtain ⟨B0,B1,B2,B3,B4,B5,B6,B7,B8,B9,Ca,Cb⟩:=ce12 a1;clear hk)
 obtain ⟨Gn,Go,Gp,Gq,Gr,Gs,Gt,Gu,Gv,Gw,Gx,Gy⟩:=cy12 a0
 obtain ⟨Gz,G0,G1,G2,G3,G4,G5,G6,G7,G8,G9,Ha⟩:=cy12 a1
 have Hb:=rrV C2 R hb
 have Hc:=rrV C3 R hb
 have Hd:=rrV C4 R hb
 have He:=rrV C5 R hb
 have F8:=qqV C2 R hb
 have F9:=qqV C3 R hb
 have Ga:=qqV C4 R hb
 have Gb:=qqV C5 R hb
 refine wp_free4 12 0 (fun i=>if i=12 then Obj.cells #[Value.string ⟨#[]⟩,Value.string ⟨#[]⟩,Value.string ⟨#[]⟩] 24 else if i=13 then Obj.cells #[Value.string ⟨#[]⟩,Value.string ⟨#[]⟩,Value.string ⟨#[]⟩] 24 else if i=14 then Obj.cells #[Value.string ⟨#[]⟩,Value.string ⟨#[]⟩,Value.string ⟨#[]⟩] 24 else if i=15 then Obj.cells #[Value.string ⟨#[]⟩,Value.string ⟨#[]⟩,Value.string ⟨#[]⟩] 24 else Obj.cells #[] 0) (fun i=>if i=12 then Obj.cells #[Value.string Da,Value.string Db,Value.string Dc] 24 else if i=13 then Obj.cells #[Value.string Dd,Value.string De,Value.string Df] 24 else if i=14 then Obj.cells #[Value.string Dg,Value.string Dh,Value.string Di] 24 else if i=15 then Obj.cells #[Value.string Dj,Value.string Cw,Value.string Cx] 24 else Obj.cells #[] 0) (some 5) (some 6) (some 7) (some 8) (by first | assumption | kernel_rfl) (by kernel_rfl) ?lay rfl rfl rfl rfl ?_
 case lay =>
   intro i h1 h2
   obtain rfl | rfl | rfl | rfl:i=12∨i=13∨i=14∨i=15:=by omega
   all_goals exact ⟨_,rfl,rfl,fun a w=>(by first | (go_simp;done) | (go_simp;rfl))⟩
 simp only [List.take_succ_cons,List.take_zero]
 repeat (refine wpB_step (fun K hK=>?_);go_simp;first | (refine hK _ ?_;clear hK K) | (apply Exists.intro;refine ⟨fun _=>?_,hK _ ?_⟩;(first | (with_reducible exact F8.out _ _) | (with_reducible exact F9.out _ _) | (with_reducible exact Ga.out _ _) | (with_reducible exact Gb.out _ _));clear hK K))
 refine wpB_nil ?_
 intro Aq Ar As At
 refine ⟨?_,?_,?_,?_,?_⟩
 · refine ⟨_,rfl,rfl,rfl,fun cs b h=>(by cases h),fun w hw=>?_⟩
   replace hw:w.heap[Aq]? = some (Obj.cells #[Value.string ⟨#[]⟩,Value.string ⟨#[]⟩,Value.string ⟨#[]⟩] 24):=hw
   have z0:w.cell? ⟨Aq,0,none⟩=some (Value.string ⟨#[]⟩):=zA hw
   have y0:w.frozen? ⟨Aq,0,none⟩=false:=zD hw
   have z1:w.cell? ⟨Aq,1,none⟩=some (Value.string ⟨#[]⟩):=zA hw
   have y1:w.frozen? ⟨Aq,1,none⟩=false:=zD hw
   have z2:w.cell? ⟨Aq,2,none⟩=some (Value.string ⟨#[]⟩):=zA hw
   have y2:w.frozen? ⟨Aq,2,none⟩=false:=zD hw
   refine ⟨_,?_,(Wrote.set (i:=2) (Wrote.set (i:=1) (Wrote.set (i:=0) (Wrote.refl hw) (Value.string Da)) (Value.string Db)) (Value.string Dc))⟩
   go_simp
 · refine ⟨_,rfl,rfl,rfl,fun cs b h=>(by cases h),fun w hw=>?_⟩
   replace hw:w.heap[Ar]? = some (Obj.cells #[Value.string ⟨#[]⟩,Value.string ⟨#[]⟩,Value.string ⟨#[]⟩] 24):=hw
   have z0:w.cell? ⟨Ar,0,none⟩=some (Value.string ⟨#[]⟩):=zA hw
   have y0:w.frozen? ⟨Ar,0,none⟩=false:=zD hw
   have z1:w.cell? ⟨Ar,1,none⟩=some (Value.string ⟨#[]⟩):=zA hw
   have y1:w.frozen? ⟨Ar,1,none⟩=false:=zD hw
   have z2:w.cell? ⟨Ar,2,none⟩=some (Value.string ⟨#[]⟩):=zA hw
   have y2:w.frozen? ⟨Ar,2,none⟩=false:=zD hw
   refine ⟨_,?_,(Wrote.set (i:=2) (Wrote.set (i:=1) (Wrote.set (i:=0) (Wrote.refl hw) (Value.string Dd)) (Value.string De)) (Value.string Df))⟩
   go_simp
 · refine ⟨_,rfl,rfl,rfl,fun cs b h=>(by cases h),fun w hw=>?_⟩
   replace hw:w.heap[As]? = some (Obj.cells #[Value.string ⟨#[]⟩,Value.string ⟨#[]⟩,Value.string ⟨#[]⟩] 24):=hw
   have z0:w.cell? ⟨As,0,none⟩=some (Value.string ⟨#[]⟩):=zA hw
   have y0:w.frozen? ⟨As,0,none⟩=false:=zD hw
   have z1:w.cell? ⟨As,1,none⟩=some (Value.string ⟨#[]⟩):=zA hw
   have y1:w.frozen? ⟨As,1,none⟩=false:=zD hw
   have z2:w.cell? ⟨As,2,none⟩=some (Value.string ⟨#[]⟩):=zA hw
   have y2:w.frozen? ⟨As,2,none⟩=false:=zD hw
   refine ⟨_,?_,(Wrote.set (i:=2) (Wrote.set (i:=1) (Wrote.set (i:=0) (Wrote.refl hw) (Value.string Dg)) (Value.string Dh)) (Value.string Di))⟩
   go_simp
 · refine ⟨_,rfl,rfl,rfl,fun cs b h=>(by cases h),fun w hw=>?_⟩
   replace hw:w.heap[At]? = some (Obj.cells #[Value.string ⟨#[]⟩,Value.string ⟨#[]⟩,Value.string ⟨#[]⟩] 24):=hw
   have z0:w.cell? ⟨At,0,none⟩=some (Value.string ⟨#[]⟩):=zA hw
   have y0:w.frozen? ⟨At,0,none⟩=false:=zD hw
   have z1:w.cell? ⟨At,1,none⟩=some (Value.string ⟨#[]⟩):=zA hw
   have y1:w.frozen? ⟨At,1,none⟩=false:=zD hw
   have z2:w.cell? ⟨At,2,none⟩=some (Value.string ⟨#[]⟩):=zA hw
   have y2:w.frozen? ⟨At,2,none⟩=false:=zD hw
   refine ⟨_,?_,(Wrote.set (i:=2) (Wrote.set (i:=1) (Wrote.set (i:=0) (Wrote.refl hw) (Value.string Dj)) (Value.string Cw)) (Value.string Cx))⟩
   go_simp
 intro w1 hk m0 m1 m2 m3 Aa Ad Ae Ab _ _ _ _ _ _
 clear Bo Bp Bq Br Bs Bt Bu Bv Bw Bx By Bz B0 B1 B2 B3 B4 B5 B6 B7 B8 B9 Ca Cb
 replace a0:=zB hk a0
 replace a1:=zB hk a1
 obtain ⟨Bo,Bp,Bq,Br,Bs,Bt,Bu,Bv,Bw,Bx,By,Bz⟩:=ce12 a0
 obtain ⟨B0,B1,B2,B3,B4,B5,B6,B7,B8,B9,Ca,Cb⟩:=ce12 a1
 replace hb:=hb.trans (hk.mono hb.size)
 clear hk
 replace Aa:w1.heap[Aq]? = some (Obj.cells #[Value.string Da,Value.string Db,Value.string Dc] 24):=Aa
 have Ag:w1.cell? ⟨Aq,0,none⟩=some (Value.string Da):=zA Aa
 have Ah:w1.cell? ⟨Aq,1,none⟩=some (Value.string Db):=zA Aa
 have Ai:w1.cell? ⟨Aq,2,none⟩=some (Value.string Dc):=zA Aa
 replace Ad:w1.heap[Ar]? = some (Obj.cells #[Value.string Dd,Value.string De,Value.string Df] 24):=Ad
 have A1:w1.cell? ⟨Ar,0,none⟩=some (Value.string Dd):=zA Ad
 have A2:w1.cell? ⟨Ar,1,none⟩=some (Value.string De):=zA Ad
 have A3:w1.cell? ⟨Ar,2,none⟩=some (Value.string Df):=zA Ad
 replace Ae:w1.heap[As]? = some (Obj.cells #[Value.string Dg,Value.string Dh,Value.string Di] 24):=Ae
 have A4:w1.cell? ⟨As,0,none⟩=some (Value.string Dg):=zA Ae
 have A5:w1.cell? ⟨As,1,none⟩=some (Value.string Dh):=zA Ae
 have A6:w1.cell? ⟨As,2,none⟩=some (Value.string Di):=zA Ae
 replace Ab:w1.heap[At]? = some (Obj.cells #[Value.string Dj,Value.string Cw,Value.string Cx] 24):=Ab
 have Aj:w1.cell? ⟨At,0,none⟩=some (Value.string Dj):=zA Ab
 have Ak:w1.cell? ⟨At,1,none⟩=some (Value.string Cw):=zA Ab
 have Al:w1.cell? ⟨At,2,none⟩=some (Value.string Cx):=zA Ab
 clear F8 F9 Ga Gb Hb Hc Hd He Gn Go Gp Gq Gr Gs Gt Gu Gv Gw Gx Gy Gz G0 G1 G2 G3 G4 G5 G6 G7 G8 G9 Ha m0 m1 m2 m3
 go_upto_region 5 with (go_at_call 62;with_reducible refine (chVB hb R C6).mono ?_;clear hb;rintro e w1 ⟨rfl,hk,hb⟩;clear Ag Ah Ai A1 A2 A3 A4 A5 A6 Aj Ak Al;replace Aa:=zB hk Aa;replace Ad:=zB hk Ad;replace Ae:=zB hk Ae;replace Ab:=zB hk Ab;obtain ⟨Ag,Ah,Ai⟩:=ce3 Aa;obtain ⟨A1,A2,A3⟩:=ce3 Ad;obtain ⟨A4,A5,A6⟩:=ce3 Ae;obtain ⟨Aj,Ak,Al⟩:=ce3 Ab;clear hk)
 clear Bo Bp Bq Br Bs Bt Bu Bv Bw Bx By Bz a0 B0 B1 B2 B3 B4 B5 B6 B7 B8 B9 Ca Cb a1
 refine wp_alloc1 (fun w1 Ac hk=>?_)
 clear Ag Ah Ai A1 A2 A3 A4 A5 A6 Aj Ak Al
 replace Aa:=zB hk Aa
 replace Ad:=zB hk Ad
 replace Ae:=zB hk Ae
 replace Ab:=zB hk Ab
 obtain ⟨Ag,Ah,Ai⟩:=ce3 Aa
 obtain ⟨A1,A2,A3⟩:=ce3 Ad
 obtain ⟨A4,A5,A6⟩:=ce3 Ae
 obtain ⟨Aj,Ak,Al⟩:=ce3 Ab
 replace hb:=hb.trans (hk.mono hb.size)
 clear hk
 obtain ⟨Av,Aw,Ax,Ay⟩:=ce4 Ac
 obtain ⟨Cc,Cd,Ce,Cf⟩:=cy4 Ac
 obtain ⟨Cg,Ch,Ci⟩:=cy3 Aa
 obtain ⟨Hf,Hg,Hh⟩:=cy3 Ad
 obtain ⟨Hi,Hj,Hk⟩:=cy3 Ae
 obtain ⟨Cj,Ck,Cm⟩:=cy3 Ab
 have Hl:=rrV C7 R hb
 have Hm:=rrV C8 R hb
 have Hn:=rrV C9 R hb
 have Gc:=qqV C7 R hb
 have Gd:=qqV C8 R hb
 have Ge:=qqV C9 R hb
 refine wp_free1 7 0 (fun i=>if i=7 then Obj.cells #[Value.string ⟨#[]⟩,Value.string ⟨#[]⟩,Value.string ⟨#[]⟩] 24 else Obj.cells #[] 0) (fun i=>if i=7 then Obj.cells #[Value.string Cy,Value.string Cz,Value.string C0] 24 else Obj.cells #[] 0) (some 11) (by first | assumption | kernel_rfl) (by kernel_rfl) ?lay rfl ?_
 case lay =>
   intro i h1 h2
   obtain rfl:i=7:=by omega
   all_goals exact ⟨_,rfl,rfl,fun a w=>(by first | (go_simp;done) | (go_simp;rfl))⟩
 simp only [List.take_succ_cons,List.take_zero]
 repeat (refine wpB_step (fun K hK=>?_);go_simp;first | (refine hK _ ?_;clear hK K) | (apply Exists.intro;refine ⟨fun _=>?_,hK _ ?_⟩;(first | (with_reducible exact Gc.out _ _) | (with_reducible exact Gd.out _ _) | (with_reducible exact Ge.out _ _));clear hK K))
 refine wpB_nil ?_
 intro Au
 refine ⟨?_,?_⟩
 · refine ⟨_,rfl,rfl,rfl,fun cs b h=>(by cases h),fun w hw=>?_⟩
   replace hw:w.heap[Au]? = some (Obj.cells #[Value.string ⟨#[]⟩,Value.string ⟨#[]⟩,Value.string ⟨#[]⟩] 24):=hw
   have z0:w.cell? ⟨Au,0,none⟩=some (Value.string ⟨#[]⟩):=zA hw
   have y0:w.frozen? ⟨Au,0,none⟩=false:=zD hw
   have z1:w.cell? ⟨Au,1,none⟩=some (Value.string ⟨#[]⟩):=zA hw
   have y1:w.frozen? ⟨Au,1,none⟩=false:=zD hw
   have z2:w.cell? ⟨Au,2,none⟩=some (Value.string ⟨#[]⟩):=zA hw
   have y2:w.frozen? ⟨Au,2,none⟩=false:=zD hw
   refine ⟨_,?_,(Wrote.set (i:=2) (Wrote.set (i:=1) (Wrote.set (i:=0) (Wrote.refl hw) (Value.string Cy)) (Value.string Cz)) (Value.string C0))⟩
   go_simp
 intro w1 hk m0 Af
 clear Av Aw Ax Ay Ag Ah Ai A1 A2 A3 A4 A5 A6 Aj Ak Al
 replace Ac:=zB hk Ac
 replace Aa:=zB hk Aa
 replace Ad:=zB hk Ad
 replace Ae:=zB hk Ae
 replace Ab:=zB hk Ab
 obtain ⟨Av,Aw,Ax,Ay⟩:=ce4 Ac
 obtain ⟨Ag,Ah,Ai⟩:=ce3 Aa
 obtain ⟨A1,A2,A3⟩:=ce3 Ad
 obtain ⟨A4,A5,A6⟩:=ce3 Ae
 obtain ⟨Aj,Ak,Al⟩:=ce3 Ab
 replace hb:=hb.trans (hk.mono hb.size)
 clear hk
 replace Af:w1.heap[Au]? = some (Obj.cells #[Value.string Cy,Value.string Cz,Value.string C0] 24):=Af
 have A7:w1.cell? ⟨Au,0,none⟩=some (Value.string Cy):=zA Af
 have A8:w1.cell? ⟨Au,1,none⟩=some (Value.string Cz):=zA Af
 have A9:w1.cell? ⟨Au,2,none⟩=some (Value.string C0):=zA Af
 clear Gc Gd Ge Hl Hm Hn Cc Cd Ce Cf Cg Ch Ci Hf Hg Hh Hi Hj Hk Cj Ck Cm m0
 go_upto_region 8 with (go_at_call 38;with_reducible refine (chVB hb R C10).mono ?_;clear hb;rintro e w1 ⟨rfl,hk,hb⟩;clear Av Aw Ax Ay Ag Ah Ai Aj Ak Al A7 A8 A9;replace Ac:=zB hk Ac;replace Aa:=zB hk Aa;replace Ab:=zB hk Ab;replace Af:=zB hk Af;obtain ⟨Av,Aw,Ax,Ay⟩:=ce4 Ac;obtain ⟨Ag,Ah,Ai⟩:=ce3 Aa;obtain ⟨Aj,Ak,Al⟩:=ce3 Ab;obtain ⟨A7,A8,A9⟩:=ce3 Af;clear hk)
 clear A1 A2 A3 Ad A4 A5 A6 Ae
 obtain ⟨Cc,Cd,Ce,Cf⟩:=cy4 Ac
 obtain ⟨Cg,Ch,Ci⟩:=cy3 Aa
 obtain ⟨Cj,Ck,Cm⟩:=cy3 Ab
 obtain ⟨Ho,Hp,Hq⟩:=cy3 Af
 have Gf:=rrV C11 R hb
 refine wp_region_quiet_below (by first | assumption | kernel_rfl) (by kernel_rfl) ?_
 repeat (quiet_step (first | (with_reducible exact Gf.out _ _)))
 refine wpQuiet_nil ?_
 intro w1 hw'
 obtain ⟨hk,hb⟩:=zQ hb hw'
 clear Av Aw Ax Ay Ag Ah Ai Aj Ak Al A7 A8 A9
 replace Ac:=zB hk Ac
 replace Aa:=zB hk Aa
 replace Ab:=zB hk Ab
 replace Af:=zB hk Af
 obtain ⟨Av,Aw,Ax,Ay⟩:=ce4 Ac
 obtain ⟨Ag,Ah,Ai⟩:=ce3 Aa
 obtain ⟨Aj,Ak,Al⟩:=ce3 Ab
 obtain ⟨A7,A8,A9⟩:=ce3 Af
 clear Gf Cc Cd Ce Cf Cg Ch Ci Cj Ck Cm Ho Hp Hq
 clear hk hw'
 go_upto_region 16 with ((first | (go_at_call 27;with_reducible refine (chVB hb R C12).mono ?_) | (go_at_call 63;with_reducible refine (chVB hb R C13).mono ?_) | (go_at_call 64;with_reducible refine (chVB hb R C14).mono ?_) | (go_at_call 42;with_reducible refine (chVB hb R C15).mono ?_) | (go_at_call 36;with_reducible refine (chVB hb R C11).mono ?_));clear hb;rintro e w1 ⟨rfl,hk,hb⟩;clear Av Aw Ax Ay Ag Ah Ai Aj Ak Al A7 A8 A9;replace Ac:=zB hk Ac;replace Aa:=zB hk Aa;replace Ab:=zB hk Ab;replace Af:=zB hk Af;obtain ⟨Av,Aw,Ax,Ay⟩:=ce4 Ac;obtain ⟨Ag,Ah,Ai⟩:=ce3 Aa;obtain ⟨Aj,Ak,Al⟩:=ce3 Ab;obtain ⟨A7,A8,A9⟩:=ce3 Af;clear hk)
 clear A7 A8 A9 Af
 obtain ⟨Cc,Cd,Ce,Cf⟩:=cy4 Ac
 obtain ⟨Cg,Ch,Ci⟩:=cy3 Aa
 obtain ⟨Cj,Ck,Cm⟩:=cy3 Ab
 have Gg:=rrV C17 R hb
 have Gh:=rrV C18 R hb
 have Gi:=rrV C19 R hb
 refine wp_region_quiet_below (by first | assumption | kernel_rfl) (by kernel_rfl) ?_
 repeat (quiet_step (first | (with_reducible exact Gg.out _ _) | (with_reducible exact Gh.out _ _) | (with_reducible exact Gi.out _ _)))
 refine wpQuiet_nil ?_
 intro w1 hw'
 obtain ⟨hk,hb⟩:=zQ hb hw'
 clear Av Aw Ax Ay Ag Ah Ai Aj Ak Al
 replace Ac:=zB hk Ac
 replace Aa:=zB hk Aa
 replace Ab:=zB hk Ab
 obtain ⟨Av,Aw,Ax,Ay⟩:=ce4 Ac
 obtain ⟨Ag,Ah,Ai⟩:=ce3 Aa
 obtain ⟨Aj,Ak,Al⟩:=ce3 Ab
 clear Gg Gh Gi Cc Cd Ce Cf Cg Ch Ci Cj Ck Cm
 clear hk hw'
 go_wp2
 first | go_ret | go_ret2 | go_ret3
 exact ⟨rfl,hb⟩
theorem lawPlanes_1z  (i0 g0 i1 g1 i2 g2 i3 g3 i4 g4 i5 g5 i6 g6 i7 g7 i8 g8 i9 g9 i10 g10 i11 g11:Int) (p0 p1 p2 p3 p4 p5 p6 p7 p8 p9 p10 p11:Rat) (k0:SmallIs i0 g0 p0) (k1:SmallIs i1 g1 p1) (k2:SmallIs i2 g2 p2) (k3:SmallIs i3 g3 p3) (k4:SmallIs i4 g4 p4) (k5:SmallIs i5 g5 p5) (k6:SmallIs i6 g6 p6) (k7:SmallIs i7 g7 p7) (k8:SmallIs i8 g8 p8) (k9:SmallIs i9 g9 p9) (k10:SmallIs i10 g10 p10) (k11:SmallIs i11 g11 p11) (n0 n1 n2 o:Rat) (e0:(((p4 - p1)*(p8 - p2)) - ((p5 - p2)*(p7 - p1)))=n0) (e1:(((p5 - p2)*(p6 - p0)) - ((p3 - p0)*(p8 - p2)))=n1) (e2:(((p3 - p0)*(p7 - p1)) - ((p4 - p1)*(p6 - p0)))=n2) (eo:(((n0*p0)+(n1*p1))+(n2*p2))=o) (q0:n0=0) (q1:n1≠0) (q2:o=0) (w:World) (R:EnvV w) :
   Calls Tryz.prog 10 #[.agg #[.int .i16 i0,.int .u8 g0,.int .i16 i1,.int .u8 g1,.int .i16 i2,.int .u8 g2,.int .i16 i3,.int .u8 g3,.int .i16 i4,.int .u8 g4,.int .i16 i5,.int .u8 g5],.agg #[.int .i16 i6,.int .u8 g6,.int .i16 i7,.int .u8 g7,.int .i16 i8,.int .u8 g8,.int .i16 i9,.int .u8 g9,.int .i16 i10,.int .u8 g10,.int .i16 i11,.int .u8 g11]] w (Ret w (.bool true)):=by
 have Bd:=RN_sub (N:=8) k4.rn k1.rn
 have Be:=RN_sub (N:=8) k8.rn k2.rn
 have Bf:=RN_sub (N:=8) k5.rn k2.rn
 have Bg:=RN_sub (N:=8) k7.rn k1.rn
 have Cb:=RN_mul Bd Be
 have Cc:=RN_mul Bf Bg
 have Bh:=RN_sub (N:=8) k6.rn k0.rn
 have Bi:=RN_sub (N:=8) k3.rn k0.rn
 have Cd:=RN_mul Bf Bh
 have Ce:=RN_mul Bi Be
 have Cf:=RN_mul Bi Bg
 have Cg:=RN_mul Bd Bh
 have Bj:=RN_sub (N:=30) Cb Cc
 have Ch:=RN_mul Bj k0.rn
 have Bk:=RN_sub (N:=30) Cd Ce
 have Da:=RN_add (N:=37) rn_0 Ch
 have Ci:=RN_mul Bk k1.rn
 have Bl:=RN_sub (N:=30) Cf Cg
 have Du:=RN_add (N:=65) Da Ci
 have Db:=RN_mul Bl k2.rn
 have Dv:=RN_add (N:=63) Ch Ci
 have Dw:=RN_add (N:=91) Dv Db
 have Ar:RN n0 31 24:=(e0 ▸ Bj:RN n0 31 24)
 have As:RN n1 31 24:=(e1 ▸ Bk:RN n1 31 24)
 have At:RN n2 31 24:=(e2 ▸ Bl:RN n2 31 24)
 have A7:=RN_mul Ar k0.rn
 have A8:=RN_mul As k1.rn
 have Dx:=RN_add (N:=63) A7 A8
 have Bm:=RN_mul At k2.rn
 have Dy:=RN_add (N:=91) Dx Bm
 have Au:RN o 92 81:=(eo ▸ Dy:RN o 92 81)
 have Dc:=RN_mul k0.rn rn_m1
 have Dd:=RN_mul k1.rn rn_m1
 have De:=RN_mul k2.rn rn_m1
 have Df:=RN_add (N:=63) A8 Bm
 have Fx:=RN_add (N:=91) A7 Df
 have Az:=RN_mul Ar k9.rn
 have Cj:=RN_add (N:=37) rn_0 Az
 have A0:=RN_mul As k10.rn
 have Dg:=RN_add (N:=65) Cj A0
 have A9:=RN_mul At k11.rn
 have Dz:=RN_add (N:=63) Az A0
 have Ck:=RN_add (N:=91) Dz A9
 have Dh:=RN_add (N:=37) rn_0 A7
 have D0:=RN_add (N:=65) Dh A8
 have Di:=RN_add (N:=63) A0 A9
 have Dj:=RN_add (N:=91) Az Di
 have Fy:=RN_sub (N:=173) Dj Au
 have Fz:=RN_sub (N:=173) Ck Au
 have c1:=known5_any
 have c2:=makeV i0 g0 i1 g1 i2 g2 p0 p1 p2 k0 k1 k2
 have c3:=makeV i3 g3 i4 g4 i5 g5 p3 p4 p5 k3 k4 k5
 have c4:=makeV i6 g6 i7 g7 i8 g8 p6 p7 p8 k6 k7 k8
 have c5:=makeV i9 g9 i10 g10 i11 g11 p9 p10 p11 k9 k10 k11
 have c6:CV 62 #[.agg #[.string (ratB p0),.string (ratB p1),.string (ratB p2)],.agg #[.string (ratB p3),.string (ratB p4),.string (ratB p5)],.agg #[.string (ratB p6),.string (ratB p7),.string (ratB p8)]] (.tuple #[.agg #[.string (ratB n0),.string (ratB n1),.string (ratB n2),.string (ratB o)],.int .i64 0]):=fun w R=>(by have h:=spanned_1 p0 p1 p2 p3 p4 p5 p6 p7 p8 (e0.trans q0) (by rw [e1];exact q1) k0.rn.r2 k1.rn.r2 k2.rn.r2 k3.rn.r2 k4.rn.r2 k5.rn.r2 k6.rn.r2 k7.rn.r2 k8.rn.r2 k3.rn.rm k0.rn.rm k4.rn.rm k1.rn.rm k5.rn.rm k2.rn.rm k6.rn.rm k7.rn.rm k8.rn.rm Bd.rm Be.rm Bf.rm Bg.rm Cb.rm Cc.rm Bh.rm Bi.rm Cd.rm Ce.rm Cf.rm Cg.rm Bj.rm Ch.rm Bk.rm Da.rm Ci.rm Bl.rm Du.rm Db.rm Bj.r2 Bk.r2 Bl.r2 Dw.r2 w R;rw [e0,e1,e2,eo] at h;exact h)
 have c7:=fun (w:World) (R:EnvV w)=>refVSub p3 p4 p5 p0 p1 p2 k0.rn.r4 k1.rn.r4 k2.rn.r4 k3.rn.r4 Dc.r4 k4.rn.r4 Dd.r4 k5.rn.r4 De.r4 w R.toEnvR
 have c8:=fun (w:World) (R:EnvV w)=>refVSub p6 p7 p8 p0 p1 p2 k0.rn.r4 k1.rn.r4 k2.rn.r4 k6.rn.r4 Dc.r4 k7.rn.r4 Dd.r4 k8.rn.r4 De.r4 w R.toEnvR
 have c9:CV 37 #[.agg #[.string (ratB (p3 - p0)),.string (ratB (p4 - p1)),.string (ratB (p5 - p2))],.agg #[.string (ratB (p6 - p0)),.string (ratB (p7 - p1)),.string (ratB (p8 - p2))]] (.agg #[.string (ratB n0),.string (ratB n1),.string (ratB n2)]):=fun w R=>(by have h:=refVCross (p3 - p0) (p4 - p1) (p5 - p2) (p6 - p0) (p7 - p1) (p8 - p2) Bd.r4 Be.r4 Bf.r4 Bg.r4 Cb.r4 Cc.r4 Bh.r4 Bi.r4 Cd.r4 Ce.r4 Cf.r4 Cg.r4 w R.toEnvR;rw [e0,e1,e2] at h;exact h)
 have c10:=refZero_no n0 n1 n2  (Or.inr (Or.inl q1))
 have c11:CV 36 #[.agg #[.string (ratB n0),.string (ratB n1),.string (ratB n2)],.agg #[.string (ratB p0),.string (ratB p1),.string (ratB p2)]] (.string (ratB o)):=fun w R=>(by have h:=refVDot n0 n1 n2 p0 p1 p2 Ar.r4 k0.rn.r4 As.r4 k1.rn.r4 At.r4 k2.rn.r4 A8.r4 Bm.r4 A7.r4 Df.r4 w R.toEnvR;rw [show (n0*p0)+((n1*p1)+(n2*p2))=o from by rw [← eo];grind] at h;exact h)
 have c12:=side_any n0 n1 n2 o p9 p10 p11 Ar.r2 As.r2 At.r2 Au.r2 (Or.inr (Or.inl q1)) k9.rn.r2 k10.rn.r2 k11.rn.r2 Ar.rm k9.rn.rm Az.rm As.rm k10.rn.rm Cj.rm A0.rm At.rm k11.rn.rm Dg.rm A9.rm Ck.rm Au.rm
 have c13:=pierce_none n0 n1 n2 o p9 p10 p11 p0 p1 p2 (eo.trans q2) Ar.r2 As.r2 At.r2 Au.r2 (Or.inr (Or.inl q1)) k9.rn.r2 k10.rn.r2 k11.rn.r2 k0.rn.r2 k1.rn.r2 k2.rn.r2 Ar.rm k9.rn.rm Az.rm As.rm k10.rn.rm Cj.rm A0.rm At.rm k11.rn.rm Dg.rm A9.rm Au.rm Ck.rm k0.rn.rm A7.rm k1.rn.rm Dh.rm A8.rm k2.rn.rm D0.rm Bm.rm
 have c14:CV 64 #[.agg #[.string (ratB n0),.string (ratB n1),.string (ratB n2),.string (ratB o)],.agg #[.string (ratB p9),.string (ratB p10),.string (ratB p11)]] (.string (ratB ((((n0*p9)+(n1*p10))+(n2*p11)) - o))):=fun w R=>(by have h:=refPBeyond n0 n1 n2 o p9 p10 p11 Ar.r4 k9.rn.r4 As.r4 k10.rn.r4 At.r4 k11.rn.r4 A0.r4 A9.r4 Az.r4 Di.r4 Dj.r4 Au.r4 w R.toEnvR;rw [show ((n0*p9)+((n1*p10)+(n2*p11))) - o=(((n0*p9)+(n1*p10))+(n2*p11)) - o from by grind] at h;exact h)
 have c15:=fun (w:World) (R:EnvV w)=>refRSign_any ((((n0*p9)+(n1*p10))+(n2*p11)) - o) w R.toEnvR
 have eq0:((ratB n0).toList == [48])=true:=by rw [ratB_eq_zero];exact decide_eq_true q0
 have pq0:(ratB n0).toList=[48]:=(zero_iff _).2 q0
 have eq1:((ratB n1).toList == [48])=false:=by rw [ratB_eq_zero];exact decide_eq_false q1
 have pq1:¬ (ratB n1).toList=[48]:=fun h=>q1 ((zero_iff _).1 h)
 have eq2:((ratB o).toList == [48])=true:=by rw [ratB_eq_zero];exact decide_eq_true q2
 have pq2:(ratB o).toList=[48]:=(zero_iff _).2 q2
 obtain ⟨G4,D1⟩:∃ vq,ratB ((((n0*p9)+(n1*p10))+(n2*p11)) - o)=vq:=⟨_,rfl⟩
 obtain ⟨G5,D2⟩:∃ vq,ratB (p3 - p0)=vq:=⟨_,rfl⟩
 obtain ⟨G6,D3⟩:∃ vq,ratB (p4 - p1)=vq:=⟨_,rfl⟩
 obtain ⟨G7,D4⟩:∃ vq,ratB (p5 - p2)=vq:=⟨_,rfl⟩
 obtain ⟨G8,D5⟩:∃ vq,ratB (p6 - p0)=vq:=⟨_,rfl⟩
 obtain ⟨G9,D6⟩:∃ vq,ratB (p7 - p1)=vq:=⟨_,rfl⟩
 obtain ⟨Ha,D7⟩:∃ vq,ratB (p8 - p2)=vq:=⟨_,rfl⟩
 obtain ⟨Cm,D8⟩:∃ vq,ratB p10=vq:=⟨_,rfl⟩
 obtain ⟨Cn,D9⟩:∃ vq,ratB p11=vq:=⟨_,rfl⟩
 obtain ⟨Co,Fa⟩:∃ vq,ratB n0=vq:=⟨_,rfl⟩
 obtain ⟨Cp,Fb⟩:∃ vq,ratB n1=vq:=⟨_,rfl⟩
 obtain ⟨Cq,Fc⟩:∃ vq,ratB n2=vq:=⟨_,rfl⟩
 obtain ⟨Cr,Fd⟩:∃ vq,ratB p0=vq:=⟨_,rfl⟩
 obtain ⟨Cs,Fe⟩:∃ vq,ratB p1=vq:=⟨_,rfl⟩
 obtain ⟨Ct,Ff⟩:∃ vq,ratB p2=vq:=⟨_,rfl⟩
 obtain ⟨Cu,Fg⟩:∃ vq,ratB p3=vq:=⟨_,rfl⟩
 obtain ⟨Cv,Fh⟩:∃ vq,ratB p4=vq:=⟨_,rfl⟩
 obtain ⟨Cw,Fi⟩:∃ vq,ratB p5=vq:=⟨_,rfl⟩
 obtain ⟨Cx,Fj⟩:∃ vq,ratB p6=vq:=⟨_,rfl⟩
 obtain ⟨Cy,Fk⟩:∃ vq,ratB p7=vq:=⟨_,rfl⟩
 obtain ⟨Cz,Fl⟩:∃ vq,ratB p8=vq:=⟨_,rfl⟩
 obtain ⟨C0,Fm⟩:∃ vq,ratB p9=vq:=⟨_,rfl⟩
 obtain ⟨Hb,Fn⟩:∃ vq,ratB o=vq:=⟨_,rfl⟩
 try simp only [D1,D2,D3,D4,D5,D6,D7,D8,D9,Fa,Fb,Fc,Fd,Fe,Ff,Fg,Fh,Fi,Fj,Fk,Fl,Fm,Fn] at c1 c2 c3 c4 c5 c6 c7 c8 c9 c10 c11 c12 c13 c14 c15 eq0 pq0 eq1 pq1 eq2 pq2 ⊢
 have C1:=Lib.hid c1
 have C2:=Lib.hid c2
 have C3:=Lib.hid c3
 have C4:=Lib.hid c4
 have C5:=Lib.hid c5
 have C6:=Lib.hid c6
 have C7:=Lib.hid c7
 have C8:=Lib.hid c8
 have C9:=Lib.hid c9
 have C10:=Lib.hid c10
 have C11:=Lib.hid c11
 have C12:=Lib.hid c12
 have C13:=Lib.hid c13
 have C14:=Lib.hid c14
 have C15:=Lib.hid c15
 clear c1 c2 c3 c4 c5 c6 c7 c8 c9 c10 c11 c12 c13 c14 c15 D1 D2 D3 D4 D5 D6 D7 D8 D9 Fa Fb Fc Fd Fe Ff Fg Fh Fi Fj Fk Fl Fm Fn Bd Be Bf Bg Cb Cc Bh Bi Cd Ce Cf Cg Bj Ch Bk Da Ci Bl Du Db Dv Dw Ar As At A7 A8 Dx Bm Dy Au Dc Dd De Df Fx Az Cj A0 Dg A9 Dz Ck Dh D0 Di Dj Fy Fz k0 k1 k2 k3 k4 k5 k6 k7 k8 k9 k10 k11 q0 q1 q2 e0 e1 e2 eo
 have hb:=Below.refl w.heap.size w
 go_enter Tryz.func10,Tryz.ntmps10
 go_upto_region 1 with fail
 refine wp_alloc2 (fun w1 a0 a1 hk=>?_)
 replace hb:=hb.trans (hk.mono hb.size)
 clear hk
 obtain ⟨Bn,Bo,Bp,Bq,Br,Bs,Bt,Bu,Bv,Bw,Bx,By⟩:=ce12 a0
 obtain ⟨Bz,B0,B1,B2,B3,B4,B5,B6,B7,B8,B9,Ca⟩:=ce12 a1
 go_upto_region 3 with (go_at_call 13;with_reducible refine (chVB hb R C1).mono ?_;clear hb;rintro e w1 ⟨rfl,hk,hb⟩;clear Bn Bo Bp Bq Br Bs Bt Bu Bv Bw Bx By Bz B0 B1 B2 B3 B4 B5 B6 B7 B8 B9 Ca;replace a0:=zB hk a0;replace a1:=zB hk a1;obtain ⟨Bn,Bo,Bp,Bq,Br,Bs,Bt,Bu,Bv,Bw,Bx,By⟩:=ce12 a0;obtain ⟨Bz,B0,B1,B2,B3,B4,B5,B6,B7,B8,B9,Ca⟩:=ce12 a1;clear hk)
 obtain ⟨F0,F1,F2,F3,F4,F5,F6,F7,F8,F9,Ga,Gb⟩:=cy12 a0
 obtain ⟨Gc,Gd,Ge,Gf,Gg,Gh,Gi,Gj,Gk,Gl,Gm,Gn⟩:=cy12 a1
 have Go:=rrV C2 R hb
 have Gp:=rrV C3 R hb
 have Gq:=rrV C4 R hb
 have Gr:=rrV C5 R hb
 have Fo:=qqV C2 R hb
 have Fp:=qqV C3 R hb
 have Fq:=qqV C4 R hb
 have Fs:=qqV C5 R hb
 refine wp_free4 12 0 (fun i=>if i=12 then Obj.cells #[Value.string ⟨#[]⟩,Value.string ⟨#[]⟩,Value.string ⟨#[]⟩] 24 else if i=13 then Obj.cells #[Value.string ⟨#[]⟩,Value.string ⟨#[]⟩,Value.string ⟨#[]⟩] 24 else if i=14 then Obj.cells #[Value.string ⟨#[]⟩,Value.string ⟨#[]⟩,Value.string ⟨#[]⟩] 24 else if i=15 then Obj.cells #[Value.string ⟨#[]⟩,Value.string ⟨#[]⟩,Value.string ⟨#[]⟩] 24 else Obj.cells #[] 0) (fun i=>if i=12 then Obj.cells #[Value.string Cr,Value.string Cs,Value.string Ct] 24 else if i=13 then Obj.cells #[Value.string Cu,Value.string Cv,Value.string Cw] 24 else if i=14 then Obj.cells #[Value.string Cx,Value.string Cy,Value.string Cz] 24 else if i=15 then Obj.cells #[Value.string C0,Value.string Cm,Value.string Cn] 24 else Obj.cells #[] 0) (some 5) (some 6) (some 7) (some 8) (by first | assumption | kernel_rfl) (by kernel_rfl) ?lay rfl rfl rfl rfl ?_
 case lay =>
   intro i h1 h2
   obtain rfl | rfl | rfl | rfl:i=12∨i=13∨i=14∨i=15:=by omega
   all_goals exact ⟨_,rfl,rfl,fun a w=>(by first | (go_simp;done) | (go_simp;rfl))⟩
 simp only [List.take_succ_cons,List.take_zero]
 repeat (refine wpB_step (fun K hK=>?_);go_simp;first | (refine hK _ ?_;clear hK K) | (apply Exists.intro;refine ⟨fun _=>?_,hK _ ?_⟩;(first | (with_reducible exact Fo.out _ _) | (with_reducible exact Fp.out _ _) | (with_reducible exact Fq.out _ _) | (with_reducible exact Fs.out _ _));clear hK K))
 refine wpB_nil ?_
 intro Am An Ao Ap
 refine ⟨?_,?_,?_,?_,?_⟩
 · refine ⟨_,rfl,rfl,rfl,fun cs b h=>(by cases h),fun w hw=>?_⟩
   replace hw:w.heap[Am]? = some (Obj.cells #[Value.string ⟨#[]⟩,Value.string ⟨#[]⟩,Value.string ⟨#[]⟩] 24):=hw
   have z0:w.cell? ⟨Am,0,none⟩=some (Value.string ⟨#[]⟩):=zA hw
   have y0:w.frozen? ⟨Am,0,none⟩=false:=zD hw
   have z1:w.cell? ⟨Am,1,none⟩=some (Value.string ⟨#[]⟩):=zA hw
   have y1:w.frozen? ⟨Am,1,none⟩=false:=zD hw
   have z2:w.cell? ⟨Am,2,none⟩=some (Value.string ⟨#[]⟩):=zA hw
   have y2:w.frozen? ⟨Am,2,none⟩=false:=zD hw
   refine ⟨_,?_,(Wrote.set (i:=2) (Wrote.set (i:=1) (Wrote.set (i:=0) (Wrote.refl hw) (Value.string Cr)) (Value.string Cs)) (Value.string Ct))⟩
   go_simp
 · refine ⟨_,rfl,rfl,rfl,fun cs b h=>(by cases h),fun w hw=>?_⟩
   replace hw:w.heap[An]? = some (Obj.cells #[Value.string ⟨#[]⟩,Value.string ⟨#[]⟩,Value.string ⟨#[]⟩] 24):=hw
   have z0:w.cell? ⟨An,0,none⟩=some (Value.string ⟨#[]⟩):=zA hw
   have y0:w.frozen? ⟨An,0,none⟩=false:=zD hw
   have z1:w.cell? ⟨An,1,none⟩=some (Value.string ⟨#[]⟩):=zA hw
   have y1:w.frozen? ⟨An,1,none⟩=false:=zD hw
   have z2:w.cell? ⟨An,2,none⟩=some (Value.string ⟨#[]⟩):=zA hw
   have y2:w.frozen? ⟨An,2,none⟩=false:=zD hw
   refine ⟨_,?_,(Wrote.set (i:=2) (Wrote.set (i:=1) (Wrote.set (i:=0) (Wrote.refl hw) (Value.string Cu)) (Value.string Cv)) (Value.string Cw))⟩
   go_simp
 · refine ⟨_,rfl,rfl,rfl,fun cs b h=>(by cases h),fun w hw=>?_⟩
   replace hw:w.heap[Ao]? = some (Obj.cells #[Value.string ⟨#[]⟩,Value.string ⟨#[]⟩,Value.string ⟨#[]⟩] 24):=hw
   have z0:w.cell? ⟨Ao,0,none⟩=some (Value.string ⟨#[]⟩):=zA hw
   have y0:w.frozen? ⟨Ao,0,none⟩=false:=zD hw
   have z1:w.cell? ⟨Ao,1,none⟩=some (Value.string ⟨#[]⟩):=zA hw
   have y1:w.frozen? ⟨Ao,1,none⟩=false:=zD hw
   have z2:w.cell? ⟨Ao,2,none⟩=some (Value.string ⟨#[]⟩):=zA hw
   have y2:w.frozen? ⟨Ao,2,none⟩=false:=zD hw
   refine ⟨_,?_,(Wrote.set (i:=2) (Wrote.set (i:=1) (Wrote.set (i:=0) (Wrote.refl hw) (Value.string Cx)) (Value.string Cy)) (Value.string Cz))⟩
   go_simp
 · refine ⟨_,rfl,rfl,rfl,fun cs b h=>(by cases h),fun w hw=>?_⟩
   replace hw:w.heap[Ap]? = some (Obj.cells #[Value.string ⟨#[]⟩,Value.string ⟨#[]⟩,Value.string ⟨#[]⟩] 24):=hw
   have z0:w.cell? ⟨Ap,0,none⟩=some (Value.string ⟨#[]⟩):=zA hw
   have y0:w.frozen? ⟨Ap,0,none⟩=false:=zD hw
   have z1:w.cell? ⟨Ap,1,none⟩=some (Value.string ⟨#[]⟩):=zA hw
   have y1:w.frozen? ⟨Ap,1,none⟩=false:=zD hw
   have z2:w.cell? ⟨Ap,2,none⟩=some (Value.string ⟨#[]⟩):=zA hw
   have y2:w.frozen? ⟨Ap,2,none⟩=false:=zD hw
   refine ⟨_,?_,(Wrote.set (i:=2) (Wrote.set (i:=1) (Wrote.set (i:=0) (Wrote.refl hw) (Value.string C0)) (Value.string Cm)) (Value.string Cn))⟩
   go_simp
 intro w1 hk m0 m1 m2 m3 Aa Ac Ad Ab _ _ _ _ _ _
 clear Bn Bo Bp Bq Br Bs Bt Bu Bv Bw Bx By Bz B0 B1 B2 B3 B4 B5 B6 B7 B8 B9 Ca
 replace a0:=zB hk a0
 replace a1:=zB hk a1
 obtain ⟨Bn,Bo,Bp,Bq,Br,Bs,Bt,Bu,Bv,Bw,Bx,By⟩:=ce12 a0
 obtain ⟨Bz,B0,B1,B2,B3,B4,B5,B6,B7,B8,B9,Ca⟩:=ce12 a1
 replace hb:=hb.trans (hk.mono hb.size)
 clear hk
 replace Aa:w1.heap[Am]? = some (Obj.cells #[Value.string Cr,Value.string Cs,Value.string Ct] 24):=Aa
 have Ag:w1.cell? ⟨Am,0,none⟩=some (Value.string Cr):=zA Aa
 have Ah:w1.cell? ⟨Am,1,none⟩=some (Value.string Cs):=zA Aa
 have Ai:w1.cell? ⟨Am,2,none⟩=some (Value.string Ct):=zA Aa
 replace Ac:w1.heap[An]? = some (Obj.cells #[Value.string Cu,Value.string Cv,Value.string Cw] 24):=Ac
 have A1:w1.cell? ⟨An,0,none⟩=some (Value.string Cu):=zA Ac
 have A2:w1.cell? ⟨An,1,none⟩=some (Value.string Cv):=zA Ac
 have A3:w1.cell? ⟨An,2,none⟩=some (Value.string Cw):=zA Ac
 replace Ad:w1.heap[Ao]? = some (Obj.cells #[Value.string Cx,Value.string Cy,Value.string Cz] 24):=Ad
 have A4:w1.cell? ⟨Ao,0,none⟩=some (Value.string Cx):=zA Ad
 have A5:w1.cell? ⟨Ao,1,none⟩=some (Value.string Cy):=zA Ad
 have A6:w1.cell? ⟨Ao,2,none⟩=some (Value.string Cz):=zA Ad
 replace Ab:w1.heap[Ap]? = some (Obj.cells #[Value.string C0,Value.string Cm,Value.string Cn] 24):=Ab
 have Aj:w1.cell? ⟨Ap,0,none⟩=some (Value.string C0):=zA Ab
 have Ak:w1.cell? ⟨Ap,1,none⟩=some (Value.string Cm):=zA Ab
 have Al:w1.cell? ⟨Ap,2,none⟩=some (Value.string Cn):=zA Ab
 clear Fo Fp Fq Fs Go Gp Gq Gr F0 F1 F2 F3 F4 F5 F6 F7 F8 F9 Ga Gb Gc Gd Ge Gf Gg Gh Gi Gj Gk Gl Gm Gn m0 m1 m2 m3
 go_upto_region 5 with (go_at_call 62;with_reducible refine (chVB hb R C6).mono ?_;clear hb;rintro e w1 ⟨rfl,hk,hb⟩;clear Ag Ah Ai A1 A2 A3 A4 A5 A6 Aj Ak Al;replace Aa:=zB hk Aa;replace Ac:=zB hk Ac;replace Ad:=zB hk Ad;replace Ab:=zB hk Ab;obtain ⟨Ag,Ah,Ai⟩:=ce3 Aa;obtain ⟨A1,A2,A3⟩:=ce3 Ac;obtain ⟨A4,A5,A6⟩:=ce3 Ad;obtain ⟨Aj,Ak,Al⟩:=ce3 Ab;clear hk)
 clear Bn Bo Bp Bq Br Bs Bt Bu Bv Bw Bx By a0 Bz B0 B1 B2 B3 B4 B5 B6 B7 B8 B9 Ca a1
 refine wp_alloc1 (fun w1 Ae hk=>?_)
 clear Ag Ah Ai A1 A2 A3 A4 A5 A6 Aj Ak Al
 replace Aa:=zB hk Aa
 replace Ac:=zB hk Ac
 replace Ad:=zB hk Ad
 replace Ab:=zB hk Ab
 obtain ⟨Ag,Ah,Ai⟩:=ce3 Aa
 obtain ⟨A1,A2,A3⟩:=ce3 Ac
 obtain ⟨A4,A5,A6⟩:=ce3 Ad
 obtain ⟨Aj,Ak,Al⟩:=ce3 Ab
 replace hb:=hb.trans (hk.mono hb.size)
 clear hk
 obtain ⟨Av,Aw,Ax,Ay⟩:=ce4 Ae
 obtain ⟨Dk,Dl,Dm,Dn⟩:=cy4 Ae
 obtain ⟨Do,Dp,Dq⟩:=cy3 Aa
 obtain ⟨Gs,Gt,Gu⟩:=cy3 Ac
 obtain ⟨Gv,Gw,Gx⟩:=cy3 Ad
 obtain ⟨Dr,Ds,Dt⟩:=cy3 Ab
 have Gy:=rrV C7 R hb
 have Gz:=rrV C8 R hb
 have G0:=rrV C9 R hb
 have Ft:=qqV C7 R hb
 have Fu:=qqV C8 R hb
 have Fv:=qqV C9 R hb
 refine wp_free1 7 0 (fun i=>if i=7 then Obj.cells #[Value.string ⟨#[]⟩,Value.string ⟨#[]⟩,Value.string ⟨#[]⟩] 24 else Obj.cells #[] 0) (fun i=>if i=7 then Obj.cells #[Value.string Co,Value.string Cp,Value.string Cq] 24 else Obj.cells #[] 0) (some 11) (by first | assumption | kernel_rfl) (by kernel_rfl) ?lay rfl ?_
 case lay =>
   intro i h1 h2
   obtain rfl:i=7:=by omega
   all_goals exact ⟨_,rfl,rfl,fun a w=>(by first | (go_simp;done) | (go_simp;rfl))⟩
 simp only [List.take_succ_cons,List.take_zero]
 repeat (refine wpB_step (fun K hK=>?_);go_simp;first | (refine hK _ ?_;clear hK K) | (apply Exists.intro;refine ⟨fun _=>?_,hK _ ?_⟩;(first | (with_reducible exact Ft.out _ _) | (with_reducible exact Fu.out _ _) | (with_reducible exact Fv.out _ _));clear hK K))
 refine wpB_nil ?_
 intro Aq
 refine ⟨?_,?_⟩
 · refine ⟨_,rfl,rfl,rfl,fun cs b h=>(by cases h),fun w hw=>?_⟩
   replace hw:w.heap[Aq]? = some (Obj.cells #[Value.string ⟨#[]⟩,Value.string ⟨#[]⟩,Value.string ⟨#[]⟩] 24):=hw
   have z0:w.cell? ⟨Aq,0,none⟩=some (Value.string ⟨#[]⟩):=zA hw
   have y0:w.frozen? ⟨Aq,0,none⟩=false:=zD hw
   have z1:w.cell? ⟨Aq,1,none⟩=some (Value.string ⟨#[]⟩):=zA hw
   have y1:w.frozen? ⟨Aq,1,none⟩=false:=zD hw
   have z2:w.cell? ⟨Aq,2,none⟩=some (Value.string ⟨#[]⟩):=zA hw
   have y2:w.frozen? ⟨Aq,2,none⟩=false:=zD hw
   refine ⟨_,?_,(Wrote.set (i:=2) (Wrote.set (i:=1) (Wrote.set (i:=0) (Wrote.refl hw) (Value.string Co)) (Value.string Cp)) (Value.string Cq))⟩
   go_simp
 intro w1 hk m0 Af
 clear Av Aw Ax Ay Ag Ah Ai A1 A2 A3 A4 A5 A6 Aj Ak Al
 replace Ae:=zB hk Ae
 replace Aa:=zB hk Aa
 replace Ac:=zB hk Ac
 replace Ad:=zB hk Ad
 replace Ab:=zB hk Ab
 obtain ⟨Av,Aw,Ax,Ay⟩:=ce4 Ae
 obtain ⟨Ag,Ah,Ai⟩:=ce3 Aa
 obtain ⟨A1,A2,A3⟩:=ce3 Ac
 obtain ⟨A4,A5,A6⟩:=ce3 Ad
 obtain ⟨Aj,Ak,Al⟩:=ce3 Ab
 replace hb:=hb.trans (hk.mono hb.size)
 clear hk
 replace Af:w1.heap[Aq]? = some (Obj.cells #[Value.string Co,Value.string Cp,Value.string Cq] 24):=Af
 have Ba:w1.cell? ⟨Aq,0,none⟩=some (Value.string Co):=zA Af
 have Bb:w1.cell? ⟨Aq,1,none⟩=some (Value.string Cp):=zA Af
 have Bc:w1.cell? ⟨Aq,2,none⟩=some (Value.string Cq):=zA Af
 clear Ft Fu Fv Gy Gz G0 Dk Dl Dm Dn Do Dp Dq Gs Gt Gu Gv Gw Gx Dr Ds Dt m0
 go_upto_region 8 with (go_at_call 38;with_reducible refine (chVB hb R C10).mono ?_;clear hb;rintro e w1 ⟨rfl,hk,hb⟩;clear Av Aw Ax Ay Ag Ah Ai Aj Ak Al Ba Bb Bc;replace Ae:=zB hk Ae;replace Aa:=zB hk Aa;replace Ab:=zB hk Ab;replace Af:=zB hk Af;obtain ⟨Av,Aw,Ax,Ay⟩:=ce4 Ae;obtain ⟨Ag,Ah,Ai⟩:=ce3 Aa;obtain ⟨Aj,Ak,Al⟩:=ce3 Ab;obtain ⟨Ba,Bb,Bc⟩:=ce3 Af;clear hk)
 clear A1 A2 A3 Ac A4 A5 A6 Ad
 obtain ⟨Dk,Dl,Dm,Dn⟩:=cy4 Ae
 obtain ⟨Do,Dp,Dq⟩:=cy3 Aa
 obtain ⟨Dr,Ds,Dt⟩:=cy3 Ab
 obtain ⟨G1,G2,G3⟩:=cy3 Af
 have Fw:=rrV C11 R hb
 refine wp_region_quiet_below (by first | assumption | kernel_rfl) (by kernel_rfl) ?_
 repeat (quiet_step (first | (with_reducible exact Fw.out _ _)))
 refine wpQuiet_nil ?_
 intro w1 hw'
 obtain ⟨hk,hb⟩:=zQ hb hw'
 clear Av Aw Ax Ay Ag Ah Ai Aj Ak Al Ba Bb Bc
 replace Ae:=zB hk Ae
 replace Aa:=zB hk Aa
 replace Ab:=zB hk Ab
 replace Af:=zB hk Af
 obtain ⟨Av,Aw,Ax,Ay⟩:=ce4 Ae
 obtain ⟨Ag,Ah,Ai⟩:=ce3 Aa
 obtain ⟨Aj,Ak,Al⟩:=ce3 Ab
 obtain ⟨Ba,Bb,Bc⟩:=ce3 Af
 clear Fw Dk Dl Dm Dn Do Dp Dq Dr Ds Dt G1 G2 G3
 clear hk hw'
 go_wp2_with ((first | (go_at_call 27;with_reducible refine (chVB hb R C12).mono ?_) | (go_at_call 63;with_reducible refine (chVB hb R C13).mono ?_) | (go_at_call 64;with_reducible refine (chVB hb R C14).mono ?_) | (go_at_call 42;with_reducible refine (chVB hb R C15).mono ?_) | (go_at_call 36;with_reducible refine (chVB hb R C11).mono ?_));clear hb;rintro e w1 ⟨rfl,hk,hb⟩;clear Av Aw Ax Ay Ag Ah Ai Aj Ak Al Ba Bb Bc;replace Ae:=zB hk Ae;replace Aa:=zB hk Aa;replace Ab:=zB hk Ab;replace Af:=zB hk Af;obtain ⟨Av,Aw,Ax,Ay⟩:=ce4 Ae;obtain ⟨Ag,Ah,Ai⟩:=ce3 Aa;obtain ⟨Aj,Ak,Al⟩:=ce3 Ab;obtain ⟨Ba,Bb,Bc⟩:=ce3 Af;clear hk)
 first | go_ret | go_ret2 | go_ret3
 exact ⟨rfl,hb⟩
end Go.Proofs.YtpennccflalobaaGreatDoor.Kl
