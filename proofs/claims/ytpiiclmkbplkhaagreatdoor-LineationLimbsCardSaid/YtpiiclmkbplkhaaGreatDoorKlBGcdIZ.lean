import Derived.Test.YtpiiclmkbplkhaaGreatDoorKlBDivModIZ
namespace Go.Proofs.YtpiiclmkbplkhaaGreatDoor.Kl
open Go
set_option maxRecDepth 100000
set_option maxHeartbeats 8000000
structure LeadAt (X Y H u0 v0:Int) (s A B C D u v X' Y':Int):Prop where
 sg:s=1∨s = -1
 a0:0≤A
 b0:0≤B
 c0:0≤C
 d0:0≤D
 xe:X'=s*(A*X - B*Y)
 ye:Y'=s*(D*Y - C*X)
 ue:u=s*(A*u0 - B*v0)
 ve:v=s*(D*v0 - C*u0)
 xb:X=D*X'+B*Y'
 yb:Y=C*X'+A*Y'
 ub:u0=D*u+B*v
 vb:v0=C*u+A*v
 y0:0≤Y'
 yx:Y'≤X'
 uv:v≤u
 v1:s=1→C≤v∧B≤u
 v2:s = -1→D≤v∧A≤u
theorem LeadAt.start {X Y H u0 v0:Int} (hXY:Y≤X) (hY:0≤Y) (huv:v0≤u0) (hv:0≤v0):LeadAt X Y H u0 v0 1 1 0 0 1 u0 v0 X Y:=
 ⟨.inl rfl,by decide,by decide,by decide,by decide,by omega,by omega,by omega,by omega,by omega,by omega,by omega,by omega,hY,hXY,huv,fun _=>⟨hv,by omega⟩,fun h=>by omega⟩
theorem LeadAt.step {X Y H u0 v0 s A B C D u v X' Y' q:Int} (h:LeadAt X Y H u0 v0 s A B C D u v X' Y') (hH:0 < H)
   (hx0:u0*H≤X) (hx1:X≤(u0+1)*H) (hy0:v0*H≤Y) (hy1:Y≤(v0+1)*H) (hq:0≤q)
   (h1:q*(v - s*C)≤u+s*A) (h2:u+s*A < (q+1)*(v - s*C)) (h3:q*(v+s*D)≤u - s*B) (h4:u - s*B < (q+1)*(v+s*D)) :
   LeadAt X Y H u0 v0 (-s) C D (A+q*C) (B+q*D) v (u - q*v) Y' (X' - q*Y')∧X' - q*Y' < Y'∧B+q*D < v∧A+q*C < v∧u - q*v < v:=by
 obtain ⟨sg,a0,b0,c0,d0,xe,ye,ue,ve,xb,yb,ub,vb,y0,yx,uv,v1,v2⟩:=h
 have qC:0≤q*C:=Int.mul_nonneg hq c0
 have qD:0≤q*D:=Int.mul_nonneg hq d0
 have exq:∀ m n k l:Int,m*n - q*(k*n)=(m - q*k)*n:=fun m n k l=>by rw [Int.sub_mul,Int.mul_assoc]
 obtain ⟨x0,hx⟩:∃ x0,X=u0*H+x0:=⟨X - u0*H,by omega⟩
 obtain ⟨z0,hy⟩:∃ z0,Y=v0*H+z0:=⟨Y - v0*H,by omega⟩
 have x0a:0≤x0:=by omega
 have x0b:x0≤H:=by rw [Int.add_mul] at hx1;omega
 have z0a:0≤z0:=by omega
 have z0b:z0≤H:=by rw [Int.add_mul] at hy1;omega
 have mulb:∀ {k z:Int},0≤k→0≤z→z≤H→0≤k*z∧k*z≤k*H:=fun hk h0 h1=>⟨Int.mul_nonneg hk h0,Int.mul_le_mul_of_nonneg_left h1 hk⟩
 have bA:=mulb a0 x0a x0b
 have bB:=mulb b0 z0a z0b
 have bC:=mulb c0 x0a x0b
 have bD:=mulb d0 z0a z0b
 -- the numbers behind the leading ones
 have eX:X'=u*H+s*(A*x0 - B*z0):=by
   rw [xe,ue,hx,hy,Int.mul_assoc,← Int.mul_add]
   congr 1
   rw [Int.mul_add,Int.mul_add,Int.sub_mul,Int.mul_assoc,Int.mul_assoc];omega
 have eY:Y'=v*H+s*(D*z0 - C*x0):=by
   rw [ye,ve,hx,hy,Int.mul_assoc,← Int.mul_add]
   congr 1
   rw [Int.mul_add,Int.mul_add,Int.sub_mul,Int.mul_assoc,Int.mul_assoc];omega
 have kq:∀ {a b:Int},a≤b→a*H≤b*H:=fun h=>Int.mul_le_mul_of_nonneg_right h (Int.le_of_lt hH)
 have kq':∀ {a b:Int},a < b→a*H < b*H:=fun h=>Int.mul_lt_mul_of_pos_right h hH
 have qle:∀ {a b:Int},a≤b→q*a≤q*b:=fun h=>Int.mul_le_mul_of_nonneg_left h hq
 have qle':∀ {a b:Int},a≤b→(q+1)*a≤(q+1)*b:=fun h=>Int.mul_le_mul_of_nonneg_left h (by omega)
 have main:0≤X' - q*Y'∧X' - q*Y' < Y':=by
   rcases sg with rfl | rfl
   · simp only [Int.one_mul] at h1 h2 h3 h4 eX eY
     have lX:(u - B)*H≤X':=by rw [Int.sub_mul];omega
     have gX:X'≤(u+A)*H:=by rw [Int.add_mul];omega
     have gY:Y'≤(v+D)*H:=by rw [Int.add_mul];omega
     have lY:(v - C)*H≤Y':=by rw [Int.sub_mul];omega
     have k1:=kq h3
     have k2:=kq' h2
     have k3:=qle gY
     have k4:=qle' lY
     rw [Int.mul_assoc] at k1 k2
     rw [Int.add_mul q 1 Y',Int.one_mul] at k4
     omega
   · simp only [Int.neg_mul,Int.one_mul,Int.sub_neg] at h1 h2 h3 h4 eX eY
     have lX:(u - A)*H≤X':=by rw [Int.sub_mul];omega
     have gX:X'≤(u+B)*H:=by rw [Int.add_mul];omega
     have gY:Y'≤(v+C)*H:=by rw [Int.add_mul];omega
     have lY:(v - D)*H≤Y':=by rw [Int.sub_mul];omega
     have k1:=kq h1
     have k2:=kq' h4
     rw [show u + -A=u - A by omega] at k1
     rw [show v + -D=v - D by omega] at k2
     have k3:=qle gY
     have k4:=qle' lY
     rw [Int.mul_assoc] at k1 k2
     rw [Int.add_mul q 1 Y',Int.one_mul] at k4
     omega
 have sC:q*(s*C)=s*(q*C):=Int.mul_left_comm _ _ _
 have sD:q*(s*D)=s*(q*D):=Int.mul_left_comm _ _ _
 have hqs:∀ z:Int,(q+1)*z=q*z+z:=fun z=>by rw [Int.add_mul,Int.one_mul]
 rw [Int.mul_sub,sC] at h1
 rw [hqs,Int.mul_sub,sC] at h2
 rw [Int.mul_add,sD] at h3
 rw [hqs,Int.mul_add,sD] at h4
 have hX':0≤X':=by omega
 refine ⟨⟨by rcases sg with rfl | rfl <;> decide,c0,d0,by omega,by omega,?_,?_,?_,?_,?_,?_,?_,?_,main.1,by omega,?_,?_,?_⟩,main.2,?_,?_,?_⟩
 · rw [ye,Int.neg_mul,← Int.mul_neg];congr 1;omega
 · rw [xe,ye,Int.neg_mul,← Int.mul_neg,Int.mul_left_comm q s,← Int.mul_sub];congr 1
   rw [Int.add_mul,Int.add_mul,Int.mul_sub,Int.mul_assoc,Int.mul_assoc];omega
 · rw [ve,Int.neg_mul,← Int.mul_neg];congr 1;omega
 · rw [ue,ve,Int.neg_mul,← Int.mul_neg,Int.mul_left_comm q s,← Int.mul_sub];congr 1
   rw [Int.add_mul,Int.add_mul,Int.mul_sub,Int.mul_assoc,Int.mul_assoc];omega
 · rw [Int.add_mul,Int.mul_sub,Int.mul_assoc q D,Int.mul_left_comm D q];omega
 · rw [Int.add_mul,Int.mul_sub,Int.mul_assoc q C,Int.mul_left_comm C q];omega
 · rw [Int.add_mul,Int.mul_sub,Int.mul_assoc q D,Int.mul_left_comm D q];omega
 · rw [Int.add_mul,Int.mul_sub,Int.mul_assoc q C,Int.mul_left_comm C q];omega
 · rcases sg with rfl | rfl
   · omega
   · omega
 · intro h;rcases sg with rfl | rfl
   · omega
   · have:=v2 rfl;omega
 · intro h;rcases sg with rfl | rfl
   · have:=v1 rfl;omega
   · omega
 · rcases sg with rfl | rfl <;> omega
 · rcases sg with rfl | rfl <;> omega
 · rcases sg with rfl | rfl <;> omega
theorem LeadAt.gcd {X Y H u0 v0 s A B C D u v X' Y':Int} (h:LeadAt X Y H u0 v0 s A B C D u v X' Y'):Int.gcd X' Y'=Int.gcd X Y:=by
 apply Nat.dvd_antisymm
 · refine Int.dvd_gcd ?_ ?_
   · rw [h.xb];exact Int.dvd_add (Int.dvd_mul_of_dvd_right (Int.gcd_dvd_left ..)) (Int.dvd_mul_of_dvd_right (Int.gcd_dvd_right ..))
   · rw [h.yb];exact Int.dvd_add (Int.dvd_mul_of_dvd_right (Int.gcd_dvd_left ..)) (Int.dvd_mul_of_dvd_right (Int.gcd_dvd_right ..))
 · refine Int.dvd_gcd ?_ ?_
   · rw [h.xe];exact Int.dvd_mul_of_dvd_right (Int.dvd_sub (Int.dvd_mul_of_dvd_right (Int.gcd_dvd_left ..)) (Int.dvd_mul_of_dvd_right (Int.gcd_dvd_right ..)))
   · rw [h.ye];exact Int.dvd_mul_of_dvd_right (Int.dvd_sub (Int.dvd_mul_of_dvd_right (Int.gcd_dvd_right ..)) (Int.dvd_mul_of_dvd_right (Int.gcd_dvd_left ..)))
theorem small_step {C' A' u' v' w0 R:Int} (hC:0≤C') (hlt:C' < u') (h:w0=C'*u'+A'*v') (hA:0≤A') (hv:0≤v') (hw:w0 < R*R) (hR:0≤R):C' < R:=by
 rcases Int.lt_or_le C' R with h1 | h1
 · exact h1
 · have h2:R*R≤C'*u':=Int.mul_le_mul h1 (by omega) hR hC
   have h3:=Int.mul_nonneg hA hv
   omega
theorem lead_floor {f:Nat→Int} {m:Nat} {G sc:Int} (hf:∀ j,0≤f j∧f j < 1000000000) (hG:0 < G) (hGs:G*sc=1000000000) :
   ((f (m+2)*1000000000+f (m+1))*sc+f m / G)*(1000000000 ^ m*G)≤psum 1000000000 f (m+3) ∧
   psum 1000000000 f (m+3) < ((f (m+2)*1000000000+f (m+1))*sc+f m / G+1)*(1000000000 ^ m*G):=by
 have h1:=psum_in (by decide:(0:Int) < 1000000000) hf m
 have e:psum 1000000000 f (m+3)=psum 1000000000 f m+1000000000 ^ m*(f m+1000000000*(f (m+1)+f (m+2)*1000000000)):=by
   show psum 1000000000 f m+1000000000 ^ m*f m+1000000000 ^ (m+1)*f (m+1)+1000000000 ^ (m+1+1)*f (m+2)=_
   rw [Int.pow_succ 1000000000 (m+1),Int.pow_succ,Int.mul_add,Int.mul_add,Int.mul_add,Int.mul_assoc,Int.mul_assoc,Int.mul_assoc,Int.mul_comm (f (m+2)) 1000000000];omega
 rw [e]
 obtain ⟨P,hP⟩:∃ P:Int,1000000000 ^ m=P:=⟨_,rfl⟩
 have hP0:0 < P:=by rw [← hP];exact Int.pow_pos (by decide)
 rw [hP] at h1 ⊢
 obtain ⟨q,hq⟩:∃ q,f m / G=q:=⟨_,rfl⟩
 have d1:=Int.emod_add_mul_ediv (f m) G
 have d2:=Int.emod_nonneg (f m) (by omega:G≠0)
 have d3:=Int.emod_lt_of_pos (f m) hG
 rw [hq] at d1 ⊢
 obtain ⟨r,hr⟩:∃ r,f m % G=r:=⟨_,rfl⟩
 rw [hr] at d1 d2 d3
 obtain ⟨K,hK⟩:∃ K,f (m+2)*1000000000+f (m+1)=K:=⟨_,rfl⟩
 rw [show f (m+1)+f (m+2)*1000000000=K by omega,hK]
 have e2:f m+1000000000*K=(K*sc+q)*G+r:=by
   rw [Int.add_mul,← hGs,← d1,Int.mul_comm G sc,Int.mul_comm G q,Int.mul_comm (sc*G),Int.mul_assoc];omega
 rw [e2]
 obtain ⟨L,hL⟩:∃ L,K*sc+q=L:=⟨_,rfl⟩
 rw [hL]
 have e3:P*(L*G+r)=L*(P*G)+P*r:=by rw [Int.mul_add,Int.mul_left_comm]
 have h3:0≤P*r:=Int.mul_nonneg (by omega) d2
 have h4:P*(r+1)≤P*G:=Int.mul_le_mul_of_nonneg_left (by omega) (by omega)
 rw [Int.mul_add,Int.mul_one] at h4
 rw [e3,Int.add_mul,Int.one_mul]
 omega
theorem lead_small {f1 f2 f3 sc G:Int} (h2:f2 < 1000000000) (h3:f3 < 1000000000) (h30:0≤f3) (hsc:0 < sc) (hG:0 < G) (hGs:G*sc=1000000000) (h1:f1*sc < 1000000000) :
   (f1*1000000000+f2)*sc+f3 / G < 1000000000000000000:=by
 have a:f1 < G:=by
   rcases Int.lt_or_le f1 G with h | h
   · exact h
   · have:=Int.mul_le_mul_of_nonneg_right h (Int.le_of_lt hsc);omega
 have b:f3 / G < sc:=Int.ediv_lt_of_lt_mul hG (by rw [Int.mul_comm];omega)
 have c:(f1+1)*sc≤G*sc:=Int.mul_le_mul_of_nonneg_right (by omega) (by omega)
 have d:(f2+1)*sc≤1000000000*sc:=Int.mul_le_mul_of_nonneg_right (by omega) (by omega)
 rw [Int.add_mul,Int.one_mul] at c d
 rw [Int.add_mul,Int.mul_right_comm]
 omega
theorem lead_le {u0 v0 H X Y:Int} (hH:0 < H) (h1:v0*H≤Y) (h2:Y≤X) (h3:X < (u0+1)*H):v0≤u0:=by
 have:v0*H < (u0+1)*H:=by omega
 have:=Int.lt_of_mul_lt_mul_right this (Int.le_of_lt hH);omega
end Go.Proofs.YtpiiclmkbplkhaaGreatDoor.Kl
namespace Go.Proofs.YtpiiclmkbplkhaaGreatDoor.Kl
open Go Go.RowKit
set_option maxRecDepth 100000
set_option maxHeartbeats 8000000
def LeadOut (X Y:Nat) (a b c d:Int):Prop:=
 b = 0∨(b≠0∧(-1000000000≤a∧a≤1000000000)∧(-1000000000≤b∧b≤1000000000)∧(-1000000000≤c∧c≤1000000000)∧(-1000000000≤d∧d≤1000000000) ∧
   ∃ X' Y':Nat,a*X+b*Y=X'∧c*X+d*Y=Y'∧Y'≤X'∧Y' < Y∧X'≤X∧Nat.gcd X' Y'=Nat.gcd X Y)
theorem pow10_mul (k:Nat) (h:k≤9):(10:Int) ^ (9 - k)*10 ^ k=1000000000:=by
 rw [← Int.pow_add,Nat.sub_add_cancel h];rfl
theorem leading_any (p:Option Addr) (m c k n:Nat) (xs:List Int) (b5 b6:Nat) (w:World) (hm:m=xs.length) (hml:m≤100000) (hn:n≤100000) (h:Has w p xs) (hk:k≤8)
   (hxs:∀ j:Nat,0≤xs[j]?.getD 0∧xs[j]?.getD 0 < 1000000000) (h1:xs[n+2]?.getD 0*10 ^ k < 1000000000)
   (c5:w.cell? ⟨b5,0,none⟩=some (.int .i64 ((n:Int)+3))) (c6:w.cell? ⟨b6,0,none⟩=some (.int .i64 ((10:Int) ^ k))) :
   Calls Tryz.prog 160 #[.slice p m c,.pointer (some ⟨b5,0,none⟩),.pointer (some ⟨b6,0,none⟩)] w (Ret w (.int .i64 ((xs[n+2]?.getD 0*1000000000+xs[n+1]?.getD 0)*10 ^ k+xs[n]?.getD 0 / 10 ^ (9 - k)))):=by
 have a2:∀ w,Has w p xs→Calls Tryz.prog 161 #[.slice p m c,.int .i64 ((n:Int)+2)] w fun e w' => e = .returned (.int .i64 (xs[n+2]?.getD 0))∧w=w':=fun w h=>at_any p m c xs (n+2) w hm (by omega) (by omega) h
 have a1:∀ w,Has w p xs→Calls Tryz.prog 161 #[.slice p m c,.int .i64 ((n:Int)+1)] w fun e w' => e = .returned (.int .i64 (xs[n+1]?.getD 0))∧w=w':=fun w h=>at_any p m c xs (n+1) w hm (by omega) (by omega) h
 have a0:∀ w,Has w p xs→Calls Tryz.prog 161 #[.slice p m c,.int .i64 (n:Int)] w fun e w' => e = .returned (.int .i64 (xs[n]?.getD 0))∧w=w':=fun w h=>at_any p m c xs n w hm (by omega) (by omega) h
 have x2:=hxs (n+2)
 have x1:=hxs (n+1)
 have x0:=hxs n
 obtain ⟨z2,hz2⟩:∃ z,xs[n+2]?.getD 0=z:=⟨_,rfl⟩
 obtain ⟨z1,hz1⟩:∃ z,xs[n+1]?.getD 0=z:=⟨_,rfl⟩
 obtain ⟨z0,hz0⟩:∃ z,xs[n]?.getD 0=z:=⟨_,rfl⟩
 have hGs:=pow10_mul k (by omega)
 have hs0:(0:Int) < 10 ^ k:=Int.pow_pos (by decide)
 have hG0:(0:Int) < 10 ^ (9 - k):=Int.pow_pos (by decide)
 obtain ⟨sc,hsc⟩:∃ sc,(10:Int) ^ k=sc:=⟨_,rfl⟩
 obtain ⟨G,hG⟩:∃ G,(10:Int) ^ (9 - k)=G:=⟨_,rfl⟩
 simp only [hz2] at a2 x2 h1
 simp only [hz1] at a1 x1
 simp only [hz0] at a0 x0
 rw [hz2,hz1,hz0,hsc,hG]
 rw [hsc] at c6 hGs hs0 h1
 rw [hG] at hGs hG0
 have hs9:sc≤1000000000:=by
   have:=Int.mul_le_mul_of_nonneg_right (show (1:Int)≤G by omega) (Int.le_of_lt hs0);omega
 have hG9:G≤1000000000:=by
   have:=Int.mul_le_mul_of_nonneg_left (show (1:Int)≤sc by omega) (Int.le_of_lt hG0);omega
 have t1:(1000000000:Int).tdiv sc=G:=by rw [← hGs];exact Int.mul_tdiv_cancel _ (by omega)
 have t2:z0.tdiv G=z0 / G:=Int.tdiv_eq_ediv_of_nonneg x0.1
 have hsm:=lead_small (f1:=z2) (f2:=z1) (f3:=z0) (sc:=sc) (G:=G) x1.2 x0.2 x0.1 hs0 hG0 hGs h1
 have q0:0≤z0 / G:=Int.ediv_nonneg x0.1 (by omega)
 have q1:z0 / G≤z0:=Int.ediv_le_self _ x0.1
 have p0:0≤(z2*1000000000+z1)*sc:=Int.mul_nonneg (by omega) (by omega)
 obtain ⟨q,hq⟩:∃ q,z0 / G=q:=⟨_,rfl⟩
 obtain ⟨P,hP⟩:∃ P,(z2*1000000000+z1)*sc=P:=⟨_,rfl⟩
 rw [hq] at t2 hsm q0 q1
 rw [hP] at hsm p0
 have y1:IntKind.i64.wrap ((n:Int)+3 - 1)=(n:Int)+2:=by rw [show (n:Int)+3 - 1=(n:Int)+2 by omega];exact IntWalk.i64_in _ (by omega)
 have y2:IntKind.i64.wrap ((n:Int)+3 - 2)=(n:Int)+1:=by rw [show (n:Int)+3 - 2=(n:Int)+1 by omega];exact IntWalk.i64_in _ (by omega)
 have y3:IntKind.i64.wrap ((n:Int)+3 - 3)=(n:Int):=by rw [show (n:Int)+3 - 3=(n:Int) by omega];exact IntWalk.i64_in _ (by omega)
 have y4:IntKind.i64.wrap (z2*1000000000)=z2*1000000000:=IntWalk.i64_in _ (by omega)
 have y5:IntKind.i64.wrap (z2*1000000000+z1)=z2*1000000000+z1:=IntWalk.i64_in _ (by omega)
 have y6:IntKind.i64.wrap ((z2*1000000000+z1)*sc)=P:=by rw [hP];exact IntWalk.i64_in _ (by omega)
 have y7:IntKind.i64.wrap (P+q)=P+q:=IntWalk.i64_in _ (by omega)
 have y8:IntKind.i64.wrap G=G:=IntWalk.i64_in _ (by omega)
 have y9:IntKind.i64.wrap q=q:=IntWalk.i64_in _ (by omega)
 have hsne:¬ sc=0:=by omega
 have hGne:¬ G=0:=by omega
 obtain ⟨i2,hi2⟩:∃ i2:Int,(n:Int)+2=i2:=⟨_,rfl⟩
 obtain ⟨i1,hi1⟩:∃ i1:Int,(n:Int)+1=i1:=⟨_,rfl⟩
 obtain ⟨i0,hi0⟩:∃ i0:Int,(n:Int)=i0:=⟨_,rfl⟩
 obtain ⟨i3,hi3⟩:∃ i3:Int,(n:Int)+3=i3:=⟨_,rfl⟩
 rw [hi3,hi2] at y1
 rw [hi3,hi1] at y2
 rw [hi3] at y3 c5
 simp only [hi2] at a2
 simp only [hi1] at a1
 simp only [hi0] at a0 y3
 have A2:=Lib.hid a2
 have A1:=Lib.hid a1
 have A0:=Lib.hid a0
 have H:=Lib.hid h
 have HQ:=Lib.hid hq
 have HP:=Lib.hid hP
 clear hi0 hi1 hi2 hi3 a2 a1 a0 h hz2 hz1 hz0 hsc hG hGs h1 hm hxs hsm hq hP
 have q2:∀ n,Calls Tryz.prog 161 #[.slice p m c,.int .i64 i2] (w.drewN n) fun e w'' => e = .returned (.int .i64 z2)∧∃ n,w''=w.drewN n:=fun n=>(A2.out _ (H.out.below (Below.drews (Below.refl _ _) n))).mono fun _ _ ⟨he,hw⟩=>⟨he,_,hw.symm⟩
 have q1:∀ n,Calls Tryz.prog 161 #[.slice p m c,.int .i64 i1] (w.drewN n) fun e w'' => e = .returned (.int .i64 z1)∧∃ n,w''=w.drewN n:=fun n=>(A1.out _ (H.out.below (Below.drews (Below.refl _ _) n))).mono fun _ _ ⟨he,hw⟩=>⟨he,_,hw.symm⟩
 have q00:∀ n,Calls Tryz.prog 161 #[.slice p m c,.int .i64 i0] (w.drewN n) fun e w'' => e = .returned (.int .i64 z0)∧∃ n,w''=w.drewN n:=fun n=>(A0.out _ (H.out.below (Below.drews (Below.refl _ _) n))).mono fun _ _ ⟨he,hw⟩=>⟨he,_,hw.symm⟩
 have Q2:=Lib.hid q2
 have Q1:=Lib.hid q1
 have Q0:=Lib.hid q00
 clear q2 q1 q00
 go_enter Tryz.func160,Tryz.ntmps160
 go_wp2
 go_quiet (first | (go_at_call 161;with_reducible exact Q2.out _) | (go_at_call 161;with_reducible exact Q1.out _) | (go_at_call 161;with_reducible exact Q0.out _))
 go_wp2
 go_ret
 exact ⟨retI (by rw [HP.out,HQ.out]),Below.drews (Below.refl _ _) _⟩
theorem one_set {w:World} {B:Nat} {v r:Value} {t:TypeId} (hB:w.heap[B]? = some (.cells #[v] t (0,0))) :
   (w.setCell ⟨B,0,none⟩ r).heap[B]? = some (.cells #[r] t (0,0)):=by
 simp [World.setCell,Array.getElem?_modify,hB]
structure LehAt (X Y H u0 v0:Int) (a b c d u v:Int):Prop where
 ex:∃ s A B C D X' Y',LeadAt X Y H u0 v0 s A B C D u v X' Y'∧a=s*A∧b = -(s*B)∧c = -(s*C)∧d=s*D∧1≤D∧A≤1000000000∧B≤1000000000∧C≤1000000000∧D≤1000000000 ∧
   ((B=0∧X'=X∧Y'=Y)∨(1≤B∧Y' < Y∧X'≤X))
 ab : -1000000000≤a∧a≤1000000000
 bb : -1000000000≤b∧b≤1000000000
 cb : -1000000000≤c∧c≤1000000000
 db : -1000000000≤d∧d≤1000000000
 v0':0≤v
 uv:v≤u
 uu:u≤u0
 vc:0≤v+c
 vd:0≤v+d
 ua:0≤u+a
 ub:0≤u+b
 uq:v+c≤u+a∨v+d≤u+b
theorem LehAt.of {X Y H u0 v0 s A B C D u v X' Y':Int} (h:LeadAt X Y H u0 v0 s A B C D u v X' Y') (hD:1≤D) (hA9:A≤1000000000) (hB9:B≤1000000000) (hC9:C≤1000000000) (hD9:D≤1000000000)
   (hor:(B=0∧X'=X∧Y'=Y)∨(1≤B∧Y' < Y∧X'≤X)) (hv0:0≤v):LehAt X Y H u0 v0 (s*A) (-(s*B)) (-(s*C)) (s*D) u v:=by
 have a0:=h.a0
 have b0:=h.b0
 have c0:=h.c0
 have uv:=h.uv
 have v1:=h.v1
 have v2:=h.v2
 have hu0:u≤u0:=by
   have e:=h.ub
   have m1:u*1≤u*D:=Int.mul_le_mul_of_nonneg_left hD (by omega)
   have m2:0≤B*v:=Int.mul_nonneg b0 hv0
   rw [Int.mul_comm u D] at m1
   omega
 refine ⟨⟨s,A,B,C,D,X',Y',h,rfl,rfl,rfl,rfl,hD,hA9,hB9,hC9,hD9,hor⟩,?_,?_,?_,?_,hv0,uv,hu0,?_,?_,?_,?_,?_⟩
 all_goals
   rcases h.sg with rfl | rfl
   · have:=v1 rfl
     simp only [Int.one_mul]
     omega
   · have:=v2 rfl
     simp only [Int.neg_mul,Int.one_mul]
     omega
theorem LehAt.start {X Y H u0 v0:Int} (hXY:Y≤X) (hY:0≤Y) (huv:v0≤u0) (hv:0≤v0):LehAt X Y H u0 v0 1 0 0 1 u0 v0:=by
 have:=LehAt.of (LeadAt.start (H:=H) hXY hY huv hv) (by decide) (by decide) (by decide) (by decide) (by decide) (.inl ⟨rfl,rfl,rfl⟩) hv
 simpa using this
theorem LehAt.next {X Y H u0 v0 a b c d u v q:Int} (h:LehAt X Y H u0 v0 a b c d u v) (hH:0 < H) (hx0:u0*H≤X) (hx1:X≤(u0+1)*H) (hy0:v0*H≤Y) (hy1:Y≤(v0+1)*H) (hu9:u0 < 1000000000000000000) (hvu:v0≤u0)
   (hYX:Y≤X) (hc0:0 < v+c) (hd0:0 < v+d) (hq1:(u+a) / (v+c)=q) (hq2:(u+b) / (v+d)=q) :
   1≤q∧q≤u0+1000000000∧LehAt X Y H u0 v0 c d (a - q*c) (b - q*d) v (u - q*v)∧u - q*v < v:=by
 obtain ⟨s,A,B,C,D,X',Y',hL,rfl,rfl,rfl,rfl,hD,hA9,hB9,hC9,hD9,hor⟩:=h.ex
 have hq0:1≤q:=by
   rcases h.uq with h9 | h9
   · rw [← hq1];exact (Int.le_ediv_iff_mul_le hc0).2 (by omega)
   · rw [← hq2];exact (Int.le_ediv_iff_mul_le hd0).2 (by omega)
 have e1:=Int.ediv_mul_le (u+s*A) (show v + -(s*C)≠0 by omega)
 have e2:=Int.lt_ediv_add_one_mul_self (u+s*A) hc0
 have e3:=Int.ediv_mul_le (u + -(s*B)) (show v+s*D≠0 by omega)
 have e4:=Int.lt_ediv_add_one_mul_self (u + -(s*B)) hd0
 rw [hq1] at e1 e2
 rw [hq2] at e3 e4
 obtain ⟨hst,hlt,hBv,hAv,huv⟩:=hL.step hH hx0 hx1 hy0 hy1 (by omega) e1 e2 e3 e4
 have hq9:q≤u0+1000000000:=by
   have m:q*1≤q*(v + -(s*C)):=Int.mul_le_mul_of_nonneg_left (by omega) (by omega)
   have:=h.uu
   have:=h.ab
   omega
 have hDq:D≤q*D:=by
   have m:1*D≤q*D:=Int.mul_le_mul_of_nonneg_right hq0 (by omega)
   omega
 have hv9:0≤u - q*v:=by
   have s1:=hst.v1
   have s2:=hst.v2
   have s3:=hst.c0
   have s4:=hst.d0
   rcases hL.sg with rfl | rfl
   · have:=s2 rfl;omega
   · have:=s1 rfl;omega
 have hC9':=small_step hst.c0 hAv hst.vb hst.a0 hv9 (show v0 < 1000000000*1000000000 by omega) (by decide)
 have hD9':=small_step hst.d0 hBv hst.ub hst.b0 hv9 (show u0 < 1000000000*1000000000 by omega) (by decide)
 have hY'Y:Y'≤Y∧Y'≤X:=by
   rcases hor with ⟨_,h1,h2⟩ | ⟨_,h1,h2⟩
   · omega
   · omega
 have hnew:=LehAt.of hst (by omega) hC9 hD9 (by omega) (by omega) (.inr ⟨hD,by omega,by omega⟩) hv9
 have n1 : -s*C = -(s*C):=Int.neg_mul _ _
 have n2 : -(-s*D)=s*D:=by rw [Int.neg_mul,Int.neg_neg]
 have n3 : -(-s*(A+q*C))=s*A - q * -(s*C):=by rw [Int.neg_mul,Int.neg_neg,Int.mul_add,Int.mul_left_comm s q,Int.mul_neg];omega
 have n4 : -s*(B+q*D) = -(s*B) - q*(s*D):=by rw [Int.neg_mul,Int.mul_add,Int.mul_left_comm s q];omega
 rw [n1,n2,n3,n4] at hnew
 exact ⟨hq0,hq9,hnew,huv⟩
theorem LehAt.out {X Y:Nat} {H u0 v0 a b c d u v:Int} (h:LehAt (X:Int) (Y:Int) H u0 v0 a b c d u v):LeadOut X Y a b c d:=by
 obtain ⟨s,A,B,C,D,X',Y',hL,e1,e2,e3,e4,hD,_,_,_,_,hor⟩:=h.ex
 rcases hor with ⟨hB,_,_⟩ | ⟨hB,hY,hX⟩
 · left;rw [e2,hB,Int.mul_zero];rfl
 · right
   have hy0:=hL.y0
   have hyx:=hL.yx
   obtain ⟨X2,rfl⟩:∃ X2:Nat,X'=(X2:Int):=⟨X'.toNat,by omega⟩
   obtain ⟨Y2,rfl⟩:∃ Y2:Nat,Y'=(Y2:Int):=⟨Y'.toNat,by omega⟩
   refine ⟨?_,h.ab,h.bb,h.cb,h.db,X2,Y2,?_,?_,by omega,by omega,by omega,hL.gcd⟩
   · rw [e2]
     rcases hL.sg with rfl | rfl
     · rw [Int.one_mul];omega
     · rw [Int.neg_mul,Int.one_mul];omega
   · rw [hL.xe,e1,e2,Int.mul_sub,Int.neg_mul,Int.mul_assoc,Int.mul_assoc];omega
   · rw [hL.ye,e3,e4,Int.mul_sub,Int.neg_mul,Int.mul_assoc,Int.mul_assoc];omega
theorem lead_nums {X Y N k:Nat} (hlX:(pcM X).length=N+3) (hlY:(pcM Y).length≤N+3) (hYX:Y≤X) (hk:k≤8) (hx9:(pcM X)[N+2]?.getD 0*10 ^ k < 1000000000) :
   ∃ u0 v0 H:Int,((pcM X)[N+2]?.getD 0*1000000000+(pcM X)[N+1]?.getD 0)*10 ^ k+(pcM X)[N]?.getD 0 / 10 ^ (9 - k)=u0∧((pcM Y)[N+2]?.getD 0*1000000000+(pcM Y)[N+1]?.getD 0)*10 ^ k+(pcM Y)[N]?.getD 0 / 10 ^ (9 - k)=v0 ∧
     0 < H∧u0*H≤X∧(X:Int)≤(u0+1)*H∧v0*H≤Y∧(Y:Int)≤(v0+1)*H∧u0 < 1000000000000000000∧v0≤u0∧0≤v0∧(pcM Y)[N+2]?.getD 0*10 ^ k < 1000000000:=by
 have hGs:=pow10_mul k (by omega)
 have hs0:(0:Int) < 10 ^ k:=Int.pow_pos (by decide)
 have hG0:(0:Int) < 10 ^ (9 - k):=Int.pow_pos (by decide)
 have fx:=lead_floor (f:=fun j=>(pcM X)[j]?.getD 0) (m:=N) (pcM_in X) hG0 hGs
 have fy:=lead_floor (f:=fun j=>(pcM Y)[j]?.getD 0) (m:=N) (pcM_in Y) hG0 hGs
 rw [← pval_psum 1000000000 (pcM X) (N+3) (by omega),(pcM_isP X).2] at fx
 rw [← pval_psum 1000000000 (pcM Y) (N+3) hlY,(pcM_isP Y).2] at fy
 have hH:(0:Int) < 1000000000 ^ N*10 ^ (9 - k):=Int.mul_pos (Int.pow_pos (by decide)) hG0
 have hyt:(pcM Y)[N+2]?.getD 0≤(pcM X)[N+2]?.getD 0:=by
   by_cases hl:(pcM Y).length=N+3
   · rcases Int.lt_or_le ((pcM X)[N+2]?.getD 0) ((pcM Y)[N+2]?.getD 0) with h | h
     · have:=pval_top (by decide:(0:Int) < 1000000000) (pcM_isP X).1.1 (pcM_isP Y).1.1 (k:=N+2) (by omega) (by omega) (by rw [List.drop_eq_nil_of_le (by omega),List.drop_eq_nil_of_le (by omega)]) h
       rw [(pcM_isP X).2,(pcM_isP Y).2] at this
       omega
     · exact h
   · rw [List.getElem?_eq_none (l:=pcM Y) (by omega)];exact (pcM_in X (N+2)).1
 have hy9:(pcM Y)[N+2]?.getD 0*10 ^ k < 1000000000:=Int.lt_of_le_of_lt (Int.mul_le_mul_of_nonneg_right hyt (Int.le_of_lt hs0)) hx9
 have hu9:=lead_small (pcM_in X (N+1)).2 (pcM_in X N).2 (pcM_in X N).1 hs0 hG0 hGs hx9
 have hvu:=lead_le hH fy.1 (Int.ofNat_le.2 hYX) fx.2
 have hv0:0≤((pcM Y)[N+2]?.getD 0*1000000000+(pcM Y)[N+1]?.getD 0)*10 ^ k+(pcM Y)[N]?.getD 0 / 10 ^ (9 - k):=by
   have a1:=(pcM_in Y (N+2)).1
   have a2:=(pcM_in Y (N+1)).1
   have a3:=Int.mul_nonneg (show 0≤(pcM Y)[N+2]?.getD 0*1000000000+(pcM Y)[N+1]?.getD 0 by omega) (Int.le_of_lt hs0)
   have a4:=Int.ediv_nonneg (pcM_in Y N).1 (Int.le_of_lt hG0)
   omega
 exact ⟨_,_,_,rfl,rfl,hH,fx.1,Int.le_of_lt fx.2,fy.1,Int.le_of_lt fy.2,hu9,hvu,hv0,hy9⟩
theorem steps_set {w:World} {B:Nat} {a b c d v0 v1 v2 v3:Value} {t:TypeId} (hB:w.heap[B]? = some (.cells #[a,b,c,d] t (0,0))) :
   ((((w.setCell ⟨B,0,none⟩ v0).setCell ⟨B,1,none⟩ v1).setCell ⟨B,2,none⟩ v2).setCell ⟨B,3,none⟩ v3).heap[B]? = some (.cells #[v0,v1,v2,v3] t (0,0)):=by
 simp [World.setCell,Array.getElem?_modify,hB]
theorem steps_other (w:World) (B k:Nat) (v0 v1 v2 v3:Value) (h:k≠B):((((w.setCell ⟨B,0,none⟩ v0).setCell ⟨B,1,none⟩ v1).setCell ⟨B,2,none⟩ v2).setCell ⟨B,3,none⟩ v3).heap[k]? = w.heap[k]?:=by
 rw [heap_set_other _ _ _ _ _ h,heap_set_other _ _ _ _ _ h,heap_set_other _ _ _ _ _ h,heap_set_other _ _ _ _ _ h]
theorem steps_below {w0 w:World} {A B:Nat} {v0 v1 v2 v3:Value} (h:Below A w0 w) (hB:A≤B):Below A w0 ((((w.setCell ⟨B,0,none⟩ v0).setCell ⟨B,1,none⟩ v1).setCell ⟨B,2,none⟩ v2).setCell ⟨B,3,none⟩ v3):=
 (((h.setCell (p:=⟨B,0,none⟩) hB _).setCell (p:=⟨B,1,none⟩) hB _).setCell (p:=⟨B,2,none⟩) hB _).setCell (p:=⟨B,3,none⟩) hB _
theorem ediv_pos_facts {x y:Int} (hx:0≤x) (hy:0 < y):x.tdiv y=x / y∧0≤x / y∧x / y≤x:=⟨Int.tdiv_eq_ediv_of_nonneg hx,Int.ediv_nonneg hx (by omega),Int.ediv_le_self _ hx⟩
theorem lead_sm {p q:Option Addr} {c m d X Y N:Nat} {w:World} (h1:Sm w p (N+3) c X) (h2:Sm w q m d Y) (hYX:Y≤X) (hN:N≤90000) :
   Calls Tryz.prog 132 #[.slice p (N+3) c,.slice q m d] w fun e w' => ∃ a b c' d':Int,e = .returned (.agg #[.int .i64 a,.int .i64 b,.int .i64 c',.int .i64 d'])∧LeadOut X Y a b c' d'∧Below w.heap.size w w':=by
 have hlX:(pcM X).length=N+3:=h1.len.symm
 have hlY:(pcM Y).length≤N+3:=by rw [← hlX];exact pcM_len_mono hYX
 obtain ⟨bx,ox,rfl,hbx,hcx⟩:∃ b o,p=some ⟨b,o,none⟩∧b < w.heap.size∧∀ i,i < (pcM X).length→w.cell? ⟨b,o+i,none⟩=some (.int .i64 ((pcM X)[i]?.getD 0)):=by
   rcases h1.has with h | h
   · rw [h] at hlX;simp at hlX
   · exact h
 have hct:=hcx (N+2) (by omega)
 have hxt:=pcM_in X (N+2)
 have hxt1:=pcM_top X (N+2) hlX
 obtain ⟨xt,hxte⟩:∃ xt,(pcM X)[N+2]?.getD 0=xt:=⟨_,rfl⟩
 rw [hxte] at hct hxt hxt1
 obtain ⟨B5,hB5⟩:∃ B5,w.heap.size+1=B5:=⟨_,rfl⟩
 obtain ⟨B6,hB6⟩:∃ B6,B5+1=B6:=⟨_,rfl⟩
 obtain ⟨mv,hmv⟩:∃ mv:World→Nat,∀ wr z,wr.cell? ⟨B6,0,none⟩=some (.int .i64 z)→mv wr=(1000000000 - z).toNat:=
   ⟨fun wr=>match wr.cell? ⟨B6,0,none⟩ with | some (.int _ z)=>(1000000000 - z).toNat | _=>0,fun wr z h=>by simp [h]⟩
 have HMV:=Lib.hid hmv
 have H1:=Lib.hid h1
 have H2:=Lib.hid h2
 have HLX:=Lib.hid hlX
 have HLY:=Lib.hid hlY
 have HXTE:=Lib.hid hxte
 clear hmv h1 h2 hcx hxte hlX hlY
 go_enter Tryz.func132,Tryz.ntmps132
 go_upto_block 0 with fail
 obtain ⟨W3,hW3⟩:∃ W3,((w.alloc (Obj.cells #[Value.int .i64 0,Value.int .i64 0,Value.int .i64 0,Value.int .i64 0] 165)).alloc (Obj.cells #[Value.int .i64 ((N:Int)+3)] 3)).alloc (Obj.cells #[Value.int .i64 1] 3)=W3:=⟨_,rfl⟩
 have hh:=heap3 w (Obj.cells #[Value.int .i64 0,Value.int .i64 0,Value.int .i64 0,Value.int .i64 0] 165) (Obj.cells #[Value.int .i64 ((N:Int)+3)] 3) (Obj.cells #[Value.int .i64 1] 3)
 have hb3:Below w.heap.size w W3:=by rw [← hW3];exact (((Below.refl _ _).alloc (Nat.le_refl _) _).alloc (by simp) _).alloc (by simp;omega) _
 have hs3:W3.heap.size=w.heap.size+3:=by rw [← hW3];simp only [World.size_alloc]
 rw [hW3] at hh
 obtain ⟨k4,k5,k6⟩:=hh
 rw [hW3]
 have k5':W3.heap[B5]? = some (Obj.cells #[Value.int .i64 ((N:Int)+3)] 3 (0,0)):=by rw [← hB5];exact k5
 have k6':W3.heap[B6]? = some (Obj.cells #[Value.int .i64 1] 3 (0,0)):=by rw [← hB6,← hB5];exact k6
 have hsz:B6 < W3.heap.size:=by omega
 have h56:B5≠B6:=by omega
 have h46:w.heap.size≠B6:=by omega
 have h6w:w.heap.size≤B6:=by omega
 have h5w:w.heap.size≤B5:=by omega
 have K0:=Lib.hid (And.intro k4 (And.intro k5' (And.intro k6' hb3)))
 clear k4 k5 k6 k5' k6' hb3 hW3 hs3
 go_wp2
 go_loopw [15] (fun _ wr=>∃ k:Nat,k≤8∧wr.heap[w.heap.size]? = some (Obj.cells #[Value.int .i64 0,Value.int .i64 0,Value.int .i64 0,Value.int .i64 0] 165 (0,0))∧wr.heap[B5]? = some (Obj.cells #[Value.int .i64 ((N:Int)+3)] 3 (0,0))∧wr.heap[B6]? = some (Obj.cells #[Value.int .i64 ((10:Int) ^ k)] 3 (0,0))∧xt*10 ^ k < 1000000000∧Below w.heap.size w wr) (fun _ wr=>mv wr)
 case atStart=>exact ⟨0,by decide,K0.out.1,K0.out.2.1,K0.out.2.2.1,by rw [Int.pow_zero,Int.mul_one];exact hxt.2,K0.out.2.2.2⟩
 case round =>
   obtain ⟨k,hk,k4,k5,k6,hx9,hb⟩:=hrel
   have c5:wr.cell? ⟨B5,0,none⟩=some (.int .i64 ((N:Int)+3)):=zA k5
   have cx:=(hb.cell (p:=⟨bx,ox+(N+2),none⟩) hbx).trans hct
   have hs1:(1:Int)≤10 ^ k:=by have:(0:Int) < 10 ^ k:=Int.pow_pos (by decide);omega
   have hs9:(10:Int) ^ k≤xt*10 ^ k:=by
     have:=Int.mul_le_mul_of_nonneg_right hxt1 (show (0:Int)≤10 ^ k by omega);omega
   have hk8:xt*10 ^ k < 100000000→k≤7:=fun h=>by
     rcases Nat.lt_or_ge k 8 with h8 | h8
     · omega
     · obtain rfl:k=8:=by omega
       have:(10:Int) ^ 8=100000000:=rfl
       omega
   obtain ⟨u0,v0,H,hu0,hv0,hH,hf1,hf2,hf3,hf4,hu9,hvu,hv00,hy9⟩:=lead_nums HLX.out HLY.out hYX hk (by rw [HXTE.out];exact hx9)
   have lx:∀ w',Below wr.heap.size wr w'→Calls Tryz.prog 160 #[.slice (some ⟨bx,ox,none⟩) (N+3) c,.pointer (some ⟨B5,0,none⟩),.pointer (some ⟨B6,0,none⟩)] w' fun e w'' => e = .returned (.int .i64 u0)∧Below w'.heap.size w' w'':=fun w' hb' => by
     have:=leading_any (some ⟨bx,ox,none⟩) (N+3) c k N (pcM X) B5 B6 w' HLX.out.symm (by omega) (by omega) ((H1.out.has.below hb).below hb') hk (pcM_in X) (by rw [HXTE.out];exact hx9) ((hb'.cell (p:=⟨B5,0,none⟩) (Lib.lt_of_cell (zA k5))).trans (zA k5)) ((hb'.cell (p:=⟨B6,0,none⟩) (Lib.lt_of_cell (zA k6))).trans (zA k6))
     rwa [hu0] at this
   have ly:∀ w',Below wr.heap.size wr w'→Calls Tryz.prog 160 #[.slice q m d,.pointer (some ⟨B5,0,none⟩),.pointer (some ⟨B6,0,none⟩)] w' fun e w'' => e = .returned (.int .i64 v0)∧Below w'.heap.size w' w'':=fun w' hb' => by
     have:=leading_any q m d k N (pcM Y) B5 B6 w' H2.out.len (by rw [H2.out.len];have:=HLY.out;omega) (by omega) ((H2.out.has.below hb).below hb') hk (pcM_in Y) hy9 ((hb'.cell (p:=⟨B5,0,none⟩) (Lib.lt_of_cell (zA k5))).trans (zA k5)) ((hb'.cell (p:=⟨B6,0,none⟩) (Lib.lt_of_cell (zA k6))).trans (zA k6))
     rwa [hv0] at this
   have LXC:=Lib.hid lx
   have LYC:=Lib.hid ly
   have HNUM:Hid (0 < H∧u0*H≤X∧(X:Int)≤(u0+1)*H∧v0*H≤Y∧(Y:Int)≤(v0+1)*H):=Lib.hid ⟨hH,hf1,hf2,hf3,hf4⟩
   clear lx ly hu0 hv0 hH hf1 hf2 hf3 hf4 hy9
   have hps:=Int.pow_succ (10:Int) k
   obtain ⟨sc,hsc⟩:∃ sc,(10:Int) ^ k=sc:=⟨_,rfl⟩
   rw [hsc] at k6 hx9 hs1 hs9 hk8 hps
   have c6:wr.cell? ⟨B6,0,none⟩=some (.int .i64 sc):=zA k6
   have f6:wr.frozen? ⟨B6,0,none⟩=false:=zD k6
   obtain ⟨P,hP⟩:∃ P,xt*sc=P:=⟨_,rfl⟩
   have y1:IntKind.i64.wrap ((N:Int)+3 - 1)=(N:Int)+2:=by rw [show (N:Int)+3 - 1=(N:Int)+2 by omega];exact IntWalk.i64_in _ (by omega)
   have y2:IntKind.i64.wrap (xt*sc)=P:=by rw [hP];rw [hP] at hx9;exact IntWalk.i64_in _ (by omega)
   rw [hP] at hx9 hs9 hk8
   have hN2:(N:Int)+2 < (N:Int)+3:=by omega
   have HK4:=Lib.hid k4
   have HK5:=Lib.hid k5
   have HK6:=Lib.hid k6
   have HPS:=Lib.hid hps
   have HSC:=Lib.hid hsc
   have HP:=Lib.hid hP
   clear k4 k5 k6 hps hsc hP K0
   by_cases hlt:P < 100000000
   · have hk7:=hk8 hlt
     clear hk8
     have hPb:decide (P < 100000000)=true:=decide_eq_true hlt
     have y3:IntKind.i64.wrap (sc*10)=sc*10:=IntWalk.i64_in _ (by omega)
     go_wp2
     go_quiet (fail)
     go_wp2
     refine ⟨⟨k+1,by omega,(Below.heap_setCell _ _ _ _ h46).trans HK4.out,(Below.heap_setCell _ _ _ _ h56).trans HK5.out,by rw [HPS.out];exact one_set HK6.out,by rw [HPS.out,← Int.mul_assoc,HP.out];omega,(Below.drews hb _).setCell h6w _⟩,?_⟩
     rw [HMV.out _ _ (zA (one_set (w:=wr.drewN _) HK6.out)),HMV.out wr sc c6]
     omega
   · clear hk8
     have hPb:decide (P < 100000000)=false:=decide_eq_false hlt
     go_wp2
     go_quiet (fail)
     have hq:=Below.drews (Below.refl wr.heap.size wr) nq
     go_upto_region 7 with (go_at_call 160;first | (with_reducible refine (chain hq (LXC.out _ hq)).mono ?_;clear hq;rintro e w5 ⟨rfl,hq⟩) | (with_reducible refine (chain hq (LYC.out _ hq)).mono ?_;clear hq;rintro e w6 ⟨rfl,hq⟩))
     have hw4:w.heap.size < w6.heap.size:=by have h1:=hq.size;have h2:=hb.size;have h3:=Lib.lt_of_cell c6;change B6 < wr.heap.size at h3;omega
     have k4:w6.heap[w.heap.size]? = some (Obj.cells #[Value.int .i64 0,Value.int .i64 0,Value.int .i64 0,Value.int .i64 0] 165 (0,0)):=(hq.block _ (by have h3:=Lib.lt_of_cell c6;change B6 < wr.heap.size at h3;omega)).trans HK4.out
     have hb6:Below w.heap.size w w6:=hb.trans (hq.mono hb.size)
     have K4:=Lib.hid k4
     have HB6:=Lib.hid hb6
     clear k4 hb6 hq hPb hlt hs9 hs1 hx9 y1 y2 cx c5 c6 f6 HK4 HK5 HK6 HPS HSC HP LXC LYC hb hk hct hxt hxt1 HXTE HMV
     go_upto_block 2 with fail
     obtain ⟨B10,hB10⟩:∃ B10,w6.heap.size=B10:=⟨_,rfl⟩
     obtain ⟨W7,hW7⟩:∃ W7,w6.alloc (Obj.cells #[Value.int .i64 1,Value.int .i64 0,Value.int .i64 0,Value.int .i64 1] 165)=W7:=⟨_,rfl⟩
     have k10:W7.heap[B10]? = some (Obj.cells #[Value.int .i64 1,Value.int .i64 0,Value.int .i64 0,Value.int .i64 1] 165 (0,0)):=by rw [← hW7,← hB10];exact World.alloc_heap_new w6 _
     have k47:W7.heap[w.heap.size]? = some (Obj.cells #[Value.int .i64 0,Value.int .i64 0,Value.int .i64 0,Value.int .i64 0] 165 (0,0)):=by rw [← hW7,Below.heap_alloc _ _ _ hw4];exact K4.out
     have hb7:Below w.heap.size w W7:=by rw [← hW7];exact HB6.out.alloc HB6.out.size _
     rw [hW7,hB10]
     have hBw:w.heap.size < B10:=by omega
     have hBne:w.heap.size≠B10:=by omega
     have K10:=Lib.hid k10
     have K47:=Lib.hid k47
     have HB7:=Lib.hid hb7
     clear k10 k47 hb7 hW7 hB10 hw4 K4 HB6
     go_cut [8] (fun _ wx=>∃ a b c' d':Int,LeadOut X Y a b c' d'∧wx.heap[w.heap.size]? = some (Obj.cells #[Value.int .i64 0,Value.int .i64 0,Value.int .i64 0,Value.int .i64 0] 165 (0,0))∧wx.heap[B10]? = some (Obj.cells #[Value.int .i64 a,Value.int .i64 b,Value.int .i64 c',Value.int .i64 d'] 165 (0,0))∧Below w.heap.size w wx)
     case first =>
       go_wp2
       go_loopw [8,9] (fun uv vv wr=>∃ a b c' d' u v:Int,uv = .int .i64 u∧vv = .int .i64 v∧LehAt (X:Int) (Y:Int) H u0 v0 a b c' d' u v∧wr.heap[w.heap.size]? = some (Obj.cells #[Value.int .i64 0,Value.int .i64 0,Value.int .i64 0,Value.int .i64 0] 165 (0,0))∧wr.heap[B10]? = some (Obj.cells #[Value.int .i64 a,Value.int .i64 b,Value.int .i64 c',Value.int .i64 d'] 165 (0,0))∧Below w.heap.size w wr) (fun _ vv _=>(intOf vv).toNat)
       case atStart=>exact ⟨1,0,0,1,u0,v0,rfl,rfl,LehAt.start (Int.ofNat_le.2 hYX) (by omega) hvu hv00,K47.out,K10.out,HB7.out⟩
       case round =>
         obtain ⟨a,b,c',d',u,v,rfl,rfl,hL,k4,kk,hb⟩:=hrel
         have ab:=hL.ab
         have bb:=hL.bb
         have cb:=hL.cb
         have db:=hL.db
         have lv0:=hL.v0'
         have luv:=hL.uv
         have luu:=hL.uu
         have lvc:=hL.vc
         have lvd:=hL.vd
         have lua:=hL.ua
         have lub:=hL.ub
         have HL:=Lib.hid hL
         have e0:wr.cell? ⟨B10,0,none⟩=some (.int .i64 a):=zA kk
         have e1:wr.cell? ⟨B10,1,none⟩=some (.int .i64 b):=zA kk
         have e2:wr.cell? ⟨B10,2,none⟩=some (.int .i64 c'):=zA kk
         have e3:wr.cell? ⟨B10,3,none⟩=some (.int .i64 d'):=zA kk
         have f0:wr.frozen? ⟨B10,0,none⟩=false:=zD kk
         have f1:wr.frozen? ⟨B10,1,none⟩=false:=zD kk
         have f2:wr.frozen? ⟨B10,2,none⟩=false:=zD kk
         have f3:wr.frozen? ⟨B10,3,none⟩=false:=zD kk
         have KK:=Lib.hid kk
         have KK4:=Lib.hid k4
         obtain ⟨va,hva⟩:∃ z,v+c'=z:=⟨_,rfl⟩
         obtain ⟨vb,hvb⟩:∃ z,v+d'=z:=⟨_,rfl⟩
         obtain ⟨ua,hua⟩:∃ z,u+a=z:=⟨_,rfl⟩
         obtain ⟨ub,hub⟩:∃ z,u+b=z:=⟨_,rfl⟩
         have y1:IntKind.i64.wrap (v+c')=va:=by rw [hva];exact IntWalk.i64_in _ (by omega)
         have y2:IntKind.i64.wrap (v+d')=vb:=by rw [hvb];exact IntWalk.i64_in _ (by omega)
         have y3:IntKind.i64.wrap (u+a)=ua:=by rw [hua];exact IntWalk.i64_in _ (by omega)
         have y4:IntKind.i64.wrap (u+b)=ub:=by rw [hub];exact IntWalk.i64_in _ (by omega)
         rw [hva] at lvc
         rw [hvb] at lvd
         rw [hua] at lua
         rw [hub] at lub
         have ua9:ua≤1000000001000000000:=by omega
         have ub9:ub≤1000000001000000000:=by omega
         clear hL kk k4 K10 K47 HB7
         by_cases hz1:va=0
         · have hzb:(va == 0)=true:=by rw [beq_iff_eq];exact hz1
           have hzn:(va != 0)=false:=by rw [bne,hzb];rfl
           go_wp2
           go_meet
           exact ⟨a,b,c',d',HL.out.out,KK4.out,KK.out,hb⟩
         · have hzb:(va == 0)=false:=by rw [beq_eq_false_iff_ne];exact hz1
           have hzn:(va != 0)=true:=by rw [bne,hzb];rfl
           by_cases hz2:vb=0
           · have hzc:(vb == 0)=true:=by rw [beq_iff_eq];exact hz2
             have hzm:(vb != 0)=false:=by rw [bne,hzc];rfl
             go_wp2
             go_meet
             exact ⟨a,b,c',d',HL.out.out,KK4.out,KK.out,hb⟩
           · have hzc:(vb == 0)=false:=by rw [beq_eq_false_iff_ne];exact hz2
             have hzm:(vb != 0)=true:=by rw [bne,hzc];rfl
             obtain ⟨t1,q10,q11⟩:=ediv_pos_facts lua (show 0 < va by omega)
             obtain ⟨t2,q20,q21⟩:=ediv_pos_facts lub (show 0 < vb by omega)
             obtain ⟨q1,hq1⟩:∃ q,ua / va=q:=⟨_,rfl⟩
             obtain ⟨q2,hq2⟩:∃ q,ub / vb=q:=⟨_,rfl⟩
             rw [hq1] at t1 q10 q11
             rw [hq2] at t2 q20 q21
             by_cases hqq:q1=q2
             · subst hqq
               have hnx:=HL.out.next (q:=q1) HNUM.out.1 HNUM.out.2.1 HNUM.out.2.2.1 HNUM.out.2.2.2.1 HNUM.out.2.2.2.2 hu9 hvu (Int.ofNat_le.2 hYX) (by omega) (by omega) (by rw [hua,hva];exact hq1) (by rw [hub,hvb];exact hq2)
               obtain ⟨hqa,_,hnl,hlt⟩:=hnx
               have ncb:=hnl.cb
               have ndb:=hnl.db
               have nv0:=hnl.v0'
               obtain ⟨qc,hqc⟩:∃ z,q1*c'=z:=⟨_,rfl⟩
               obtain ⟨qd,hqd⟩:∃ z,q1*d'=z:=⟨_,rfl⟩
               obtain ⟨qv,hqv⟩:∃ z,q1*v=z:=⟨_,rfl⟩
               have y5:IntKind.i64.wrap (q1*c')=qc:=by rw [hqc];rw [hqc] at ncb;exact IntWalk.i64_in _ (by omega)
               have y6:IntKind.i64.wrap (q1*d')=qd:=by rw [hqd];rw [hqd] at ndb;exact IntWalk.i64_in _ (by omega)
               have hqv0:0≤q1*v:=Int.mul_nonneg q10 lv0
               have y7:IntKind.i64.wrap (q1*v)=qv:=by rw [hqv];rw [hqv] at nv0 hqv0;exact IntWalk.i64_in _ (by omega)
               rw [hqc] at ncb hnl
               rw [hqd] at ndb hnl
               rw [hqv] at nv0 hnl hlt hqv0
               obtain ⟨c2,hc2⟩:∃ z,a - qc=z:=⟨_,rfl⟩
               obtain ⟨d2,hd2⟩:∃ z,b - qd=z:=⟨_,rfl⟩
               obtain ⟨v2,hv2⟩:∃ z,u - qv=z:=⟨_,rfl⟩
               have y8:IntKind.i64.wrap (a - qc)=c2:=by rw [hc2];rw [hc2] at ncb;exact IntWalk.i64_in _ (by omega)
               have y9:IntKind.i64.wrap (b - qd)=d2:=by rw [hd2];rw [hd2] at ndb;exact IntWalk.i64_in _ (by omega)
               have y10:IntKind.i64.wrap (u - qv)=v2:=by rw [hv2];rw [hv2] at nv0 hlt;exact IntWalk.i64_in _ (by omega)
               rw [hc2,hd2,hv2] at hnl
               rw [hv2] at hlt nv0
               have HNL:=Lib.hid hnl
               have HLT:=Lib.hid hlt
               have HV2:=Lib.hid nv0
               have hqb:(q1 == q1)=true:=by simp
               have hqn:(q1 != q1)=false:=by rw [bne,hqb];rfl
               clear hnl hlt nv0 ncb ndb hqc hqd hqv hc2 hd2 hv2 hq1 hq2 hua hub hva hvb q10 q20 hqv0
               go_wp2
               exact ⟨⟨c',d',c2,d2,v,v2,rfl,rfl,HNL.out,(steps_other _ _ _ _ _ _ _ hBne).trans KK4.out,steps_set KK.out,steps_below hb (Nat.le_of_lt hBw)⟩,by simp [intOf];have:=HLT.out;have:=HV2.out;omega⟩
             · have hqb:(q1 == q2)=false:=by rw [beq_eq_false_iff_ne];exact hqq
               have hqn:(q1 != q2)=true:=by rw [bne,hqb];rfl
               clear hq1 hq2 hua hub hva hvb
               go_wp2
               go_meet
               exact ⟨a,b,c',d',HL.out.out,KK4.out,KK.out,hb⟩
     case rest =>
       obtain ⟨a,b,c',d',hLO,k4,kk,hb⟩:=hcut
       have e0:wc.cell? ⟨B10,0,none⟩=some (.int .i64 a):=zA kk
       have e1:wc.cell? ⟨B10,1,none⟩=some (.int .i64 b):=zA kk
       have e2:wc.cell? ⟨B10,2,none⟩=some (.int .i64 c'):=zA kk
       have e3:wc.cell? ⟨B10,3,none⟩=some (.int .i64 d'):=zA kk
       have z0:wc.cell? ⟨w.heap.size,0,none⟩=some (.int .i64 0):=zA k4
       have z1:wc.cell? ⟨w.heap.size,1,none⟩=some (.int .i64 0):=zA k4
       have z2:wc.cell? ⟨w.heap.size,2,none⟩=some (.int .i64 0):=zA k4
       have z3:wc.cell? ⟨w.heap.size,3,none⟩=some (.int .i64 0):=zA k4
       have f0:wc.frozen? ⟨w.heap.size,0,none⟩=false:=zD k4
       have f1:wc.frozen? ⟨w.heap.size,1,none⟩=false:=zD k4
       have f2:wc.frozen? ⟨w.heap.size,2,none⟩=false:=zD k4
       have f3:wc.frozen? ⟨w.heap.size,3,none⟩=false:=zD k4
       have hks:=steps_set (v0:=.int .i64 a) (v1:=.int .i64 b) (v2:=.int .i64 c') (v3:=.int .i64 d') k4
       have r0:=zA (i:=0) hks
       have r1:=zA (i:=1) hks
       have r2:=zA (i:=2) hks
       have r3:=zA (i:=3) hks
       have HLO:=Lib.hid hLO
       clear hLO k4 kk hks K10 K47 HB7
       go_wp2
       refine bodyPost_ret (v:=.agg #[.int .i64 a,.int .i64 b,.int .i64 c',.int .i64 d']) (by simp [results,Tryz.results132,go_sem,z0,z1,z2,z3]) rfl ⟨a,b,c',d',rfl,HLO.out,steps_below hb (Nat.le_refl _)⟩
theorem gcd_step (X Y:Nat):Nat.gcd Y (X % Y)=Nat.gcd X Y:=by rw [Nat.gcd_comm X Y,Nat.gcd_comm Y (X % Y),← Nat.gcd_rec]
theorem trim_two (g:Nat) (h:g < 1000000000000000000):trimP [((g % 1000000000:Nat):Int),((g / 1000000000:Nat):Int)]=pcM g:=by
 refine trim_pcM_of (fun x hx=>?_) g ?_
 · rcases List.mem_cons.1 hx with rfl | hx
   · omega
   · obtain rfl:x=((g / 1000000000:Nat):Int):=by simpa using hx
     omega
 · show ((g % 1000000000:Nat):Int)+1000000000*(((g / 1000000000:Nat):Int)+1000000000*0)=g
   omega
theorem pcM_lt18 {Y:Nat} (h:(pcM Y).length≤2):Y < 1000000000000000000:=by
 have h1:=pcM_lt Y
 have h2:1000000000 ^ (pcM Y).length≤1000000000 ^ 2:=Nat.pow_le_pow_right (by decide) h
 exact Nat.lt_of_lt_of_le h1 h2
structure GcdAt (w wr:World) (p q:Option Addr) (n c m d X Y g:Nat):Prop where
 sx:Sm wr p n c X
 sy:Sm wr q m d Y
 le:Y≤X
 gc:Nat.gcd X Y=g
 len:(pcM X).length≤80000
 bel:Below w.heap.size w wr
theorem gcd_loop {p q:Option Addr} {n c m d X Y:Nat} {w:World} (h1:Sm w p n c X) (h2:Sm w q m d Y) (hX:(pcM X).length≤80000) (hY:(pcM Y).length≤80000) :
   Calls Tryz.prog 108 #[.slice p n c,.slice q m d] w (RetP w (pcM (Nat.gcd X Y))):=by
 obtain ⟨mv,hmv⟩:∃ mv:Value→World→Nat,∀ w p n c X,Sm w p n c X→mv (.slice p n c) w=X:=
   ⟨fun v w=>Classical.epsilon (fun g:Nat=>∃ p' n' c',v=Value.slice p' n' c'∧Sm w p' n' c' g),fun _ _ _ _ _ h=>sm_val h⟩
 have HMV:=Lib.hid hmv
 have H1:=Lib.hid h1
 have H2:=Lib.hid h2
 obtain ⟨g,hg⟩:∃ g,Nat.gcd X Y=g:=⟨_,rfl⟩
 rw [hg]
 by_cases hlt:X < Y
 · have c1 := pcmp_sm h1 h2 (by omega) (by omega)
   rw [cI_lt (by omega)] at c1
   have C1:=Lib.hid c1
   have hst0:∀ w1,Below w.heap.size w w1→GcdAt w w1 q p m d n c Y X g:=fun w1 hb=>⟨h2.below hb,h1.below hb,by omega,by rw [Nat.gcd_comm];exact hg,hY,hb⟩
   have HST:=Lib.hid hst0
   clear hst0 c1 h1 h2 hX hY hg hmv hlt
   go_enter Tryz.func108,Tryz.ntmps108
   go_wp2_with (go_at_call 131;refine C1.out.mono ?_;rintro e w1 ⟨rfl,hb⟩)
   have hst:=HST.out _ hb
   clear C1 HST hb
   go_loopw [0,1] (fun xv yv wr=>∃ (p:Option Addr) (n c:Nat) (q:Option Addr) (m d X' Y':Nat),xv = .slice p n c∧yv = .slice q m d∧Hid (GcdAt w wr p q n c m d X' Y' g)) (fun _ yv wr=>mv yv wr)
   case atStart=>exact ⟨_,_,_,_,_,_,_,_,rfl,rfl,Lib.hid hst⟩
   case round =>
     clear hst
     obtain ⟨p,n,c,q,m,d,X',Y',rfl,rfl,HS⟩:=hrel
     have hv:=HMV.out _ _ _ _ _ HS.out.sy
     have HV:=Lib.hid hv
     have hlY:(pcM Y').length≤(pcM X').length:=pcM_len_mono HS.out.le
     have hlX:=HS.out.len
     have hml:=HS.out.sy.len
     have hnl:=HS.out.sx.len
     have hm9:m≤80000:=by omega
     have LX:Hid ((pcM X').length≤90000):=Lib.hid (by omega)
     have LY:Hid ((pcM Y').length≤90000):=Lib.hid (by omega)
     clear hv
     by_cases hm:2 < m
     · have hmi:(2:Int) < (m:Int):=by omega
       have hY0:Y'≠0:=fun e=>by rw [hml,e,pcM_zero] at hm;simp at hm
       obtain ⟨N,rfl⟩:∃ N,n=N+3:=⟨n - 3,by omega⟩
       have cl:=lead_sm HS.out.sx HS.out.sy HS.out.le (by omega)
       have CL:=Lib.hid cl
       clear cl hlY hlX hml hnl
       go_upto_region 5 with (go_at_call 132;refine CL.out.mono ?_;rintro e w5 ⟨a,b,c',d',rfl,hLO,hb5⟩;refine Hid.out ?_)
       refine Lib.hid ?_
       go_upto_region 5 with fail
       obtain ⟨W6,hW6⟩:∃ W6,w5.alloc (Obj.cells #[Value.int .i64 a,Value.int .i64 b,Value.int .i64 c',Value.int .i64 d'] 165)=W6:=⟨_,rfl⟩
       have kk:W6.heap[w5.heap.size]? = some (Obj.cells #[Value.int .i64 a,Value.int .i64 b,Value.int .i64 c',Value.int .i64 d'] 165 (0,0)):=by rw [← hW6];exact World.alloc_heap_new w5 _
       have hs6:w5.heap.size < W6.heap.size:=by rw [← hW6];simp
       have hb6:Below wr.heap.size wr W6:=by rw [← hW6];exact hb5.alloc hb5.size _
       obtain ⟨BB,hBB⟩:∃ BB,w5.heap.size=BB:=⟨_,rfl⟩
       rw [hW6,hBB]
       rw [hBB] at kk hs6
       have e0:W6.cell? ⟨BB,0,none⟩=some (.int .i64 a):=zA kk
       have e1:W6.cell? ⟨BB,1,none⟩=some (.int .i64 b):=zA kk
       have e2:W6.cell? ⟨BB,2,none⟩=some (.int .i64 c'):=zA kk
       have e3:W6.cell? ⟨BB,3,none⟩=some (.int .i64 d'):=zA kk
       have SX:=Lib.hid (HS.out.sx.below hb6)
       have SY:=Lib.hid (HS.out.sy.below hb6)
       have HBW:=Lib.hid (HS.out.bel.trans (hb6.mono HS.out.bel.size))
       clear hW6 hBB kk hb5 hb6 CL
       rcases hLO with rfl | ⟨hbne,⟨ha0,ha1⟩,⟨hb0,hb1⟩,⟨hc0,hc1⟩,⟨hd0,hd1⟩,X2,Y2,eX,eY,h21,h22,h23,hgc⟩
       · have hbb:((0:Int) == 0)=true:=rfl
         go_wp2_with (go_at_call 133;refine (divide_sm SX.out SY.out LX.out LY.out hY0).mono ?_;rintro e w7 ⟨p7,n7,c7,p8,n8,c8,rfl,hs7,hs8,hb7⟩;refine Hid.out ?_)
         refine Lib.hid ?_
         have hnew:GcdAt w w7 q p8 m d n8 c8 Y' (X' % Y') g:=⟨SY.out.below hb7,hs8,Nat.le_of_lt (Nat.mod_lt _ (Nat.pos_of_ne_zero hY0)),by rw [gcd_step];exact HS.out.gc,Nat.le_trans (pcM_len_mono HS.out.le) HS.out.len,HBW.out.trans (hb7.mono HBW.out.size)⟩
         have HN:=Lib.hid hnew
         have hml:=Nat.mod_lt X' (Nat.pos_of_ne_zero hY0)
         have hvn:=HMV.out _ _ _ _ _ hs8
         have HVN:=Lib.hid hvn
         have HML:=Lib.hid hml
         clear hnew hs7 hs8 hb7 hvn hml
         go_wp2
         exact ⟨⟨_,_,_,_,_,_,Y',X' % Y',rfl,rfl,HN⟩,by rw [HVN.out,HV.out];exact HML.out⟩
       · have hbb:(b == 0)=false:=by rw [beq_eq_false_iff_ne];exact hbne
         have l1:X2 < 1000000000 ^ (max (pcM X').length (pcM Y').length+1):=by
           refine Nat.lt_of_le_of_lt h23 (Nat.lt_of_lt_of_le (pcM_lt X') (Nat.pow_le_pow_right (by decide) ?_))
           exact Nat.le_trans (Nat.le_max_left _ _) (Nat.le_succ _)
         have l2:=Nat.lt_of_le_of_lt h21 l1
         have cm1:∀ w,Sm w p (N+3) c X'→Sm w q m d Y'→Calls Tryz.prog 134 #[.slice p (N+3) c,.int .i64 a,.slice q m d,.int .i64 b] w (RetP w (pcM X2)):=fun w h1 h2=>combine_sm h1 h2 (Nat.le_trans LX.out (by decide)) (Nat.le_trans LY.out (by decide)) a b ha0 ha1 hb0 hb1 X2 eX l1
         have cm2:∀ w,Sm w p (N+3) c X'→Sm w q m d Y'→Calls Tryz.prog 134 #[.slice p (N+3) c,.int .i64 c',.slice q m d,.int .i64 d'] w (RetP w (pcM Y2)):=fun w h1 h2=>combine_sm h1 h2 (Nat.le_trans LX.out (by decide)) (Nat.le_trans LY.out (by decide)) c' d' hc0 hc1 hd0 hd1 Y2 eY l2
         have CM1:=Lib.hid cm1
         have CM2:=Lib.hid cm2
         have HGC:=Lib.hid (hgc.trans HS.out.gc)
         have H21:=Lib.hid h21
         have H22:=Lib.hid h22
         have H2L:Hid ((pcM X2).length≤80000):=Lib.hid (Nat.le_trans (pcM_len_mono h23) HS.out.len)
         clear cm1 cm2 hgc h21 h22 h23 l1 l2 eX eY ha0 ha1 hb0 hb1 hc0 hc1 hd0 hd1
         go_upto_region 8 with fail
         go_region_held3 (fun w' => w'.cell? ⟨BB,0,none⟩=some (.int .i64 a)∧w'.cell? ⟨BB,1,none⟩=some (.int .i64 b)∧w'.cell? ⟨BB,2,none⟩=some (.int .i64 c')∧w'.cell? ⟨BB,3,none⟩=some (.int .i64 d'))
           (first | go_keep | exact ⟨g0,g1,g2,g3⟩ | exact ⟨i0,i1,i2,i3⟩)
           (first | (go_at_call 134;(with_reducible refine (CM1.out W6.drew (SX.out.below (Below.refl _ _).drew) (SY.out.below (Below.refl _ _).drew)).mono ?_);rintro e w7 ⟨p7,n7,c7,rfl,hr7⟩;have hb7:=(Below.refl W6.heap.size W6).drew.trans hr7.2.2.2.2.2;have HR7:=Lib.hid hr7;have HB7:=Lib.hid hb7;have g0:=(hb7.cell (p:=⟨BB,0,none⟩) hs6).trans e0;have g1:=(hb7.cell (p:=⟨BB,1,none⟩) hs6).trans e1;have g2:=(hb7.cell (p:=⟨BB,2,none⟩) hs6).trans e2;have g3:=(hb7.cell (p:=⟨BB,3,none⟩) hs6).trans e3;clear hr7 hb7) | (go_at_call 134;(with_reducible refine (CM2.out w7 (SX.out.below HB7.out) (SY.out.below HB7.out)).mono ?_);rintro e w8 ⟨p8,n8,c8,rfl,hr8⟩;have hb8:=HB7.out.trans (hr8.2.2.2.2.2.mono HB7.out.size);have HR8:=Lib.hid hr8;have HB8:=Lib.hid hb8;have i0:=(hb8.cell (p:=⟨BB,0,none⟩) hs6).trans e0;have i1:=(hb8.cell (p:=⟨BB,1,none⟩) hs6).trans e1;have i2:=(hb8.cell (p:=⟨BB,2,none⟩) hs6).trans e2;have i3:=(hb8.cell (p:=⟨BB,3,none⟩) hs6).trans e3;clear hr8 hb8))
         have hsx2:Sm w8 p7 n7 c7 X2:=Sm.below (w:=w7) ⟨HR7.out.1,HR7.out.2.1,HR7.out.2.2.1,HR7.out.2.2.2.1,HR7.out.2.2.2.2.1⟩ HR8.out.2.2.2.2.2
         have hsy2:Sm w8 p8 n8 c8 Y2:=⟨HR8.out.1,HR8.out.2.1,HR8.out.2.2.1,HR8.out.2.2.2.1,HR8.out.2.2.2.2.1⟩
         have hnew:GcdAt w w8 p7 p8 n7 c7 n8 c8 X2 Y2 g:=⟨hsx2,hsy2,H21.out,HGC.out,H2L.out,HBW.out.trans (HB8.out.mono HBW.out.size)⟩
         have HN:=Lib.hid hnew
         have hvn:=HMV.out _ _ _ _ _ hsy2
         have HVN:=Lib.hid hvn
         clear hnew hsx2 hsy2 hvn
         go_wp2
         exact ⟨⟨_,_,_,_,_,_,X2,Y2,rfl,rfl,HN⟩,by rw [HVN.out,HV.out];exact H22.out⟩
     · have hmi:¬ (2:Int) < (m:Int):=by omega
       by_cases hm0:m=0
       · subst hm0
         have hY0:Y'=0:=pcM_nil hml.symm
         have hgX:X'=g:=by have:=HS.out.gc;rw [hY0,Nat.gcd_zero_right] at this;exact this
         have HGX:=Lib.hid hgX
         clear hgX hY0 hml hnl hlX hlY
         go_wp2
         go_ret
         have h9:=HS.out.sx
         exact ⟨p,n,c,rfl,by rw [← HGX.out];exact h9.len,h9.cap,h9.top,h9.nil,by rw [← HGX.out];exact h9.has,HS.out.bel⟩
       · have hY0:Y'≠0:=fun e=>hm0 (by rw [hml,e,pcM_zero];rfl)
         have hm0b:((m:Int) == 0)=false:=by rw [beq_eq_false_iff_ne];omega
         have hlY2:(pcM Y').length≤2:=by omega
         have hrl:(pcM (X' % Y')).length≤2:=Nat.le_trans (pcM_len_mono (Nat.le_of_lt (Nat.mod_lt X' (Nat.pos_of_ne_zero hY0)))) hlY2
         have hy18:=pcM_lt18 hlY2
         have hr18:=pcM_lt18 hrl
         have hgg:Nat.gcd Y' (X' % Y')=g:=by rw [gcd_step];exact HS.out.gc
         have hg18:g < 1000000000000000000:=by
           rw [← hgg];exact Nat.lt_of_le_of_lt (Nat.gcd_le_left _ (Nat.pos_of_ne_zero hY0)) hy18
         have cg:∀ w,Calls Tryz.prog 106 #[.int .i64 Y',.int .i64 ((X' % Y':Nat):Int)] w (Ret w (.int .i64 g)):=fun w=>by
           have:=gcdInts_any Y' (X' % Y') w hy18 hr18
           rwa [hgg] at this
         have t1:(g:Int).tmod 1000000000=((g % 1000000000:Nat):Int):=by rw [Int.tmod_eq_emod_of_nonneg (by omega)];rfl
         have t2:(g:Int).tdiv 1000000000=((g / 1000000000:Nat):Int):=by rw [Int.tdiv_eq_ediv_of_nonneg (by omega)];rfl
         have htw:=trim_two g hg18
         obtain ⟨g1,hg1⟩:∃ g1,g % 1000000000=g1:=⟨_,rfl⟩
         obtain ⟨g2,hg2⟩:∃ g2,g / 1000000000=g2:=⟨_,rfl⟩
         have hg1b:g1 < 1000000000:=by omega
         have hg2b:g2 < 1000000000:=by omega
         rw [hg1] at t1 htw
         rw [hg2] at t2 htw
         have CG:=Lib.hid cg
         have HTW:=Lib.hid htw
         have HRL:=Lib.hid hrl
         have HYL:=Lib.hid hlY2
         have HG18:=Lib.hid hg18
         have hgi:(g:Int) < 1000000000000000000:=by omega
         clear cg htw hrl hlY2 hgg hy18 hr18 hg1 hg2 hml hnl hlX hlY hg18
         go_wp2_with (first | (go_at_call 133;refine (divide_sm HS.out.sx HS.out.sy LX.out LY.out hY0).mono ?_;rintro e w7 ⟨p7,n7,c7,p8,n8,c8,rfl,hs7,hs8,hb7⟩;have HS8:=Lib.hid hs8;have HSY:=Lib.hid (HS.out.sy.below hb7);have hbq:=HS.out.bel.trans (hb7.mono HS.out.bel.size);clear hs7 hs8 hb7) | (go_at_call 135;first | (with_reducible refine (value_sm HSY.out HYL.out).mono ?_;rintro e w8 ⟨rfl,rfl⟩) | (with_reducible refine (value_sm HS8.out HRL.out).mono ?_;rintro e w8 ⟨rfl,rfl⟩)) | (go_at_call 106;refine (chain hbq (CG.out _)).mono ?_;clear hbq;rintro e w9 ⟨rfl,hbq⟩;refine Hid.out ?_))
         refine Lib.hid ?_
         have hh:Has (w9.alloc (.cells #[.int .i64 g1,.int .i64 g2] 3)) (some ⟨w9.heap.size,0,none⟩) [(g1:Int),(g2:Int)]:=by
           refine Or.inr ⟨w9.heap.size,0,rfl,by simp,fun i hi=>?_⟩
           rw [World.cell?_alloc_new]
           rcases i with _ | _ | i
           · rfl
           · rfl
           · simp at hi;omega
         have ht:=trim_any (some ⟨w9.heap.size,0,none⟩) 2 2 [(g1:Int),(g2:Int)] _ rfl (Nat.le_refl _) (by omega) (fun h=>by cases h) hh
         rw [HTW.out] at ht
         have HT:=Lib.hid ht
         have HBA:=Lib.hid (hbq.alloc hbq.size (.cells #[.int .i64 g1,.int .i64 g2] 3))
         clear hh ht hbq
         go_wp2_with (go_at_call 136;refine HT.out.mono ?_;rintro e wz ⟨p3,n3,c3,rfl,hr3⟩;have HR3:=Lib.hid hr3;clear hr3)
         go_ret
         exact RetP.behind HBA.out (⟨p3,n3,c3,rfl,HR3.out⟩:RetP _ _ (.returned (.slice p3 n3 c3)) wz)
 · have c1 := pcmp_sm h1 h2 (by omega) (by omega)
   obtain ⟨z,hz⟩:∃ z,Lib.compareInt X Y=z:=⟨_,rfl⟩
   have hz0:¬ z < 0:=by
     rw [← hz]
     rcases Nat.lt_or_eq_of_le (show Y≤X by omega) with h | h
     · rw [cI_gt (by omega)];decide
     · rw [cI_eq (by omega)];decide
   rw [hz] at c1
   have C1:=Lib.hid c1
   have hst0:∀ w1,Below w.heap.size w w1→GcdAt w w1 p q n c m d X Y g:=fun w1 hb=>⟨h1.below hb,h2.below hb,by omega,hg,hX,hb⟩
   have HST:=Lib.hid hst0
   clear hst0 c1 h1 h2 hX hY hg hmv hlt hz
   go_enter Tryz.func108,Tryz.ntmps108
   go_wp2_with (go_at_call 131;refine C1.out.mono ?_;rintro e w1 ⟨rfl,hb⟩)
   have hst:=HST.out _ hb
   clear C1 HST hb
   go_loopw [0,1] (fun xv yv wr=>∃ (p:Option Addr) (n c:Nat) (q:Option Addr) (m d X' Y':Nat),xv = .slice p n c∧yv = .slice q m d∧Hid (GcdAt w wr p q n c m d X' Y' g)) (fun _ yv wr=>mv yv wr)
   case atStart=>exact ⟨_,_,_,_,_,_,_,_,rfl,rfl,Lib.hid hst⟩
   case round =>
     clear hst
     obtain ⟨p,n,c,q,m,d,X',Y',rfl,rfl,HS⟩:=hrel
     have hv:=HMV.out _ _ _ _ _ HS.out.sy
     have HV:=Lib.hid hv
     have hlY:(pcM Y').length≤(pcM X').length:=pcM_len_mono HS.out.le
     have hlX:=HS.out.len
     have hml:=HS.out.sy.len
     have hnl:=HS.out.sx.len
     have hm9:m≤80000:=by omega
     have LX:Hid ((pcM X').length≤90000):=Lib.hid (by omega)
     have LY:Hid ((pcM Y').length≤90000):=Lib.hid (by omega)
     clear hv
     by_cases hm:2 < m
     · have hmi:(2:Int) < (m:Int):=by omega
       have hY0:Y'≠0:=fun e=>by rw [hml,e,pcM_zero] at hm;simp at hm
       obtain ⟨N,rfl⟩:∃ N,n=N+3:=⟨n - 3,by omega⟩
       have cl:=lead_sm HS.out.sx HS.out.sy HS.out.le (by omega)
       have CL:=Lib.hid cl
       clear cl hlY hlX hml hnl
       go_upto_region 5 with (go_at_call 132;refine CL.out.mono ?_;rintro e w5 ⟨a,b,c',d',rfl,hLO,hb5⟩;refine Hid.out ?_)
       refine Lib.hid ?_
       go_upto_region 5 with fail
       obtain ⟨W6,hW6⟩:∃ W6,w5.alloc (Obj.cells #[Value.int .i64 a,Value.int .i64 b,Value.int .i64 c',Value.int .i64 d'] 165)=W6:=⟨_,rfl⟩
       have kk:W6.heap[w5.heap.size]? = some (Obj.cells #[Value.int .i64 a,Value.int .i64 b,Value.int .i64 c',Value.int .i64 d'] 165 (0,0)):=by rw [← hW6];exact World.alloc_heap_new w5 _
       have hs6:w5.heap.size < W6.heap.size:=by rw [← hW6];simp
       have hb6:Below wr.heap.size wr W6:=by rw [← hW6];exact hb5.alloc hb5.size _
       obtain ⟨BB,hBB⟩:∃ BB,w5.heap.size=BB:=⟨_,rfl⟩
       rw [hW6,hBB]
       rw [hBB] at kk hs6
       have e0:W6.cell? ⟨BB,0,none⟩=some (.int .i64 a):=zA kk
       have e1:W6.cell? ⟨BB,1,none⟩=some (.int .i64 b):=zA kk
       have e2:W6.cell? ⟨BB,2,none⟩=some (.int .i64 c'):=zA kk
       have e3:W6.cell? ⟨BB,3,none⟩=some (.int .i64 d'):=zA kk
       have SX:=Lib.hid (HS.out.sx.below hb6)
       have SY:=Lib.hid (HS.out.sy.below hb6)
       have HBW:=Lib.hid (HS.out.bel.trans (hb6.mono HS.out.bel.size))
       clear hW6 hBB kk hb5 hb6 CL
       rcases hLO with rfl | ⟨hbne,⟨ha0,ha1⟩,⟨hb0,hb1⟩,⟨hc0,hc1⟩,⟨hd0,hd1⟩,X2,Y2,eX,eY,h21,h22,h23,hgc⟩
       · have hbb:((0:Int) == 0)=true:=rfl
         go_wp2_with (go_at_call 133;refine (divide_sm SX.out SY.out LX.out LY.out hY0).mono ?_;rintro e w7 ⟨p7,n7,c7,p8,n8,c8,rfl,hs7,hs8,hb7⟩;refine Hid.out ?_)
         refine Lib.hid ?_
         have hnew:GcdAt w w7 q p8 m d n8 c8 Y' (X' % Y') g:=⟨SY.out.below hb7,hs8,Nat.le_of_lt (Nat.mod_lt _ (Nat.pos_of_ne_zero hY0)),by rw [gcd_step];exact HS.out.gc,Nat.le_trans (pcM_len_mono HS.out.le) HS.out.len,HBW.out.trans (hb7.mono HBW.out.size)⟩
         have HN:=Lib.hid hnew
         have hml:=Nat.mod_lt X' (Nat.pos_of_ne_zero hY0)
         have hvn:=HMV.out _ _ _ _ _ hs8
         have HVN:=Lib.hid hvn
         have HML:=Lib.hid hml
         clear hnew hs7 hs8 hb7 hvn hml
         go_wp2
         exact ⟨⟨_,_,_,_,_,_,Y',X' % Y',rfl,rfl,HN⟩,by rw [HVN.out,HV.out];exact HML.out⟩
       · have hbb:(b == 0)=false:=by rw [beq_eq_false_iff_ne];exact hbne
         have l1:X2 < 1000000000 ^ (max (pcM X').length (pcM Y').length+1):=by
           refine Nat.lt_of_le_of_lt h23 (Nat.lt_of_lt_of_le (pcM_lt X') (Nat.pow_le_pow_right (by decide) ?_))
           exact Nat.le_trans (Nat.le_max_left _ _) (Nat.le_succ _)
         have l2:=Nat.lt_of_le_of_lt h21 l1
         have cm1:∀ w,Sm w p (N+3) c X'→Sm w q m d Y'→Calls Tryz.prog 134 #[.slice p (N+3) c,.int .i64 a,.slice q m d,.int .i64 b] w (RetP w (pcM X2)):=fun w h1 h2=>combine_sm h1 h2 (Nat.le_trans LX.out (by decide)) (Nat.le_trans LY.out (by decide)) a b ha0 ha1 hb0 hb1 X2 eX l1
         have cm2:∀ w,Sm w p (N+3) c X'→Sm w q m d Y'→Calls Tryz.prog 134 #[.slice p (N+3) c,.int .i64 c',.slice q m d,.int .i64 d'] w (RetP w (pcM Y2)):=fun w h1 h2=>combine_sm h1 h2 (Nat.le_trans LX.out (by decide)) (Nat.le_trans LY.out (by decide)) c' d' hc0 hc1 hd0 hd1 Y2 eY l2
         have CM1:=Lib.hid cm1
         have CM2:=Lib.hid cm2
         have HGC:=Lib.hid (hgc.trans HS.out.gc)
         have H21:=Lib.hid h21
         have H22:=Lib.hid h22
         have H2L:Hid ((pcM X2).length≤80000):=Lib.hid (Nat.le_trans (pcM_len_mono h23) HS.out.len)
         clear cm1 cm2 hgc h21 h22 h23 l1 l2 eX eY ha0 ha1 hb0 hb1 hc0 hc1 hd0 hd1
         go_upto_region 8 with fail
         go_region_held3 (fun w' => w'.cell? ⟨BB,0,none⟩=some (.int .i64 a)∧w'.cell? ⟨BB,1,none⟩=some (.int .i64 b)∧w'.cell? ⟨BB,2,none⟩=some (.int .i64 c')∧w'.cell? ⟨BB,3,none⟩=some (.int .i64 d'))
           (first | go_keep | exact ⟨g0,g1,g2,g3⟩ | exact ⟨i0,i1,i2,i3⟩)
           (first | (go_at_call 134;(with_reducible refine (CM1.out W6.drew (SX.out.below (Below.refl _ _).drew) (SY.out.below (Below.refl _ _).drew)).mono ?_);rintro e w7 ⟨p7,n7,c7,rfl,hr7⟩;have hb7:=(Below.refl W6.heap.size W6).drew.trans hr7.2.2.2.2.2;have HR7:=Lib.hid hr7;have HB7:=Lib.hid hb7;have g0:=(hb7.cell (p:=⟨BB,0,none⟩) hs6).trans e0;have g1:=(hb7.cell (p:=⟨BB,1,none⟩) hs6).trans e1;have g2:=(hb7.cell (p:=⟨BB,2,none⟩) hs6).trans e2;have g3:=(hb7.cell (p:=⟨BB,3,none⟩) hs6).trans e3;clear hr7 hb7) | (go_at_call 134;(with_reducible refine (CM2.out w7 (SX.out.below HB7.out) (SY.out.below HB7.out)).mono ?_);rintro e w8 ⟨p8,n8,c8,rfl,hr8⟩;have hb8:=HB7.out.trans (hr8.2.2.2.2.2.mono HB7.out.size);have HR8:=Lib.hid hr8;have HB8:=Lib.hid hb8;have i0:=(hb8.cell (p:=⟨BB,0,none⟩) hs6).trans e0;have i1:=(hb8.cell (p:=⟨BB,1,none⟩) hs6).trans e1;have i2:=(hb8.cell (p:=⟨BB,2,none⟩) hs6).trans e2;have i3:=(hb8.cell (p:=⟨BB,3,none⟩) hs6).trans e3;clear hr8 hb8))
         have hsx2:Sm w8 p7 n7 c7 X2:=Sm.below (w:=w7) ⟨HR7.out.1,HR7.out.2.1,HR7.out.2.2.1,HR7.out.2.2.2.1,HR7.out.2.2.2.2.1⟩ HR8.out.2.2.2.2.2
         have hsy2:Sm w8 p8 n8 c8 Y2:=⟨HR8.out.1,HR8.out.2.1,HR8.out.2.2.1,HR8.out.2.2.2.1,HR8.out.2.2.2.2.1⟩
         have hnew:GcdAt w w8 p7 p8 n7 c7 n8 c8 X2 Y2 g:=⟨hsx2,hsy2,H21.out,HGC.out,H2L.out,HBW.out.trans (HB8.out.mono HBW.out.size)⟩
         have HN:=Lib.hid hnew
         have hvn:=HMV.out _ _ _ _ _ hsy2
         have HVN:=Lib.hid hvn
         clear hnew hsx2 hsy2 hvn
         go_wp2
         exact ⟨⟨_,_,_,_,_,_,X2,Y2,rfl,rfl,HN⟩,by rw [HVN.out,HV.out];exact H22.out⟩
     · have hmi:¬ (2:Int) < (m:Int):=by omega
       by_cases hm0:m=0
       · subst hm0
         have hY0:Y'=0:=pcM_nil hml.symm
         have hgX:X'=g:=by have:=HS.out.gc;rw [hY0,Nat.gcd_zero_right] at this;exact this
         have HGX:=Lib.hid hgX
         clear hgX hY0 hml hnl hlX hlY
         go_wp2
         go_ret
         have h9:=HS.out.sx
         exact ⟨p,n,c,rfl,by rw [← HGX.out];exact h9.len,h9.cap,h9.top,h9.nil,by rw [← HGX.out];exact h9.has,HS.out.bel⟩
       · have hY0:Y'≠0:=fun e=>hm0 (by rw [hml,e,pcM_zero];rfl)
         have hm0b:((m:Int) == 0)=false:=by rw [beq_eq_false_iff_ne];omega
         have hlY2:(pcM Y').length≤2:=by omega
         have hrl:(pcM (X' % Y')).length≤2:=Nat.le_trans (pcM_len_mono (Nat.le_of_lt (Nat.mod_lt X' (Nat.pos_of_ne_zero hY0)))) hlY2
         have hy18:=pcM_lt18 hlY2
         have hr18:=pcM_lt18 hrl
         have hgg:Nat.gcd Y' (X' % Y')=g:=by rw [gcd_step];exact HS.out.gc
         have hg18:g < 1000000000000000000:=by
           rw [← hgg];exact Nat.lt_of_le_of_lt (Nat.gcd_le_left _ (Nat.pos_of_ne_zero hY0)) hy18
         have cg:∀ w,Calls Tryz.prog 106 #[.int .i64 Y',.int .i64 ((X' % Y':Nat):Int)] w (Ret w (.int .i64 g)):=fun w=>by
           have:=gcdInts_any Y' (X' % Y') w hy18 hr18
           rwa [hgg] at this
         have t1:(g:Int).tmod 1000000000=((g % 1000000000:Nat):Int):=by rw [Int.tmod_eq_emod_of_nonneg (by omega)];rfl
         have t2:(g:Int).tdiv 1000000000=((g / 1000000000:Nat):Int):=by rw [Int.tdiv_eq_ediv_of_nonneg (by omega)];rfl
         have htw:=trim_two g hg18
         obtain ⟨g1,hg1⟩:∃ g1,g % 1000000000=g1:=⟨_,rfl⟩
         obtain ⟨g2,hg2⟩:∃ g2,g / 1000000000=g2:=⟨_,rfl⟩
         have hg1b:g1 < 1000000000:=by omega
         have hg2b:g2 < 1000000000:=by omega
         rw [hg1] at t1 htw
         rw [hg2] at t2 htw
         have CG:=Lib.hid cg
         have HTW:=Lib.hid htw
         have HRL:=Lib.hid hrl
         have HYL:=Lib.hid hlY2
         have HG18:=Lib.hid hg18
         have hgi:(g:Int) < 1000000000000000000:=by omega
         clear cg htw hrl hlY2 hgg hy18 hr18 hg1 hg2 hml hnl hlX hlY hg18
         go_wp2_with (first | (go_at_call 133;refine (divide_sm HS.out.sx HS.out.sy LX.out LY.out hY0).mono ?_;rintro e w7 ⟨p7,n7,c7,p8,n8,c8,rfl,hs7,hs8,hb7⟩;have HS8:=Lib.hid hs8;have HSY:=Lib.hid (HS.out.sy.below hb7);have hbq:=HS.out.bel.trans (hb7.mono HS.out.bel.size);clear hs7 hs8 hb7) | (go_at_call 135;first | (with_reducible refine (value_sm HSY.out HYL.out).mono ?_;rintro e w8 ⟨rfl,rfl⟩) | (with_reducible refine (value_sm HS8.out HRL.out).mono ?_;rintro e w8 ⟨rfl,rfl⟩)) | (go_at_call 106;refine (chain hbq (CG.out _)).mono ?_;clear hbq;rintro e w9 ⟨rfl,hbq⟩;refine Hid.out ?_))
         refine Lib.hid ?_
         have hh:Has (w9.alloc (.cells #[.int .i64 g1,.int .i64 g2] 3)) (some ⟨w9.heap.size,0,none⟩) [(g1:Int),(g2:Int)]:=by
           refine Or.inr ⟨w9.heap.size,0,rfl,by simp,fun i hi=>?_⟩
           rw [World.cell?_alloc_new]
           rcases i with _ | _ | i
           · rfl
           · rfl
           · simp at hi;omega
         have ht:=trim_any (some ⟨w9.heap.size,0,none⟩) 2 2 [(g1:Int),(g2:Int)] _ rfl (Nat.le_refl _) (by omega) (fun h=>by cases h) hh
         rw [HTW.out] at ht
         have HT:=Lib.hid ht
         have HBA:=Lib.hid (hbq.alloc hbq.size (.cells #[.int .i64 g1,.int .i64 g2] 3))
         clear hh ht hbq
         go_wp2_with (go_at_call 136;refine HT.out.mono ?_;rintro e wz ⟨p3,n3,c3,rfl,hr3⟩;have HR3:=Lib.hid hr3;clear hr3)
         go_ret
         exact RetP.behind HBA.out (⟨p3,n3,c3,rfl,HR3.out⟩:RetP _ _ (.returned (.slice p3 n3 c3)) wz)
structure PartsAt (ps:List Int) (Y gq nq j R:Nat) (outs:List Int) (W0 wr:World):Prop where
 le:j≤nq
 len:outs.length=nq - j
 inr:Inr 10000 outs
 sum:pval 10000 (ps.drop j)=Y*pval 10000 outs+R
 lt:R < Y
 own:wr.ownsRow W0.heap.size 3 1 (.slice (some ⟨gq,0,none⟩) nq nq) nq (iv (List.replicate j 0 ++ outs))
 bel:Below W0.heap.size W0 wr
theorem PartsAt.below {ps:List Int} {Y gq nq j R:Nat} {outs:List Int} {W0 wr w':World} (h:PartsAt ps Y gq nq j R outs W0 wr) (hb:Below wr.heap.size wr w'):PartsAt ps Y gq nq j R outs W0 w':=
 ⟨h.le,h.len,h.inr,h.sum,h.lt,own_below h.own hb,h.bel.trans (hb.mono h.bel.size)⟩
theorem PartsAt.next {ps:List Int} {Y gq nq j R:Nat} {outs:List Int} {W0 wr:World} (h:PartsAt ps Y gq nq (j+1) R outs W0 wr) (x D T:Nat) (hx:ps.drop j=(x:Int) :: ps.drop (j+1)) (hx1:x < 10000) (hT:T=x+10000*R) (hD:D=T / Y) :
   D < 10000∧PartsAt ps Y gq nq j (T % Y) ((D:Int) :: outs) W0 (wr.setCell ⟨gq,j,none⟩ (.int .i64 D)):=by
 have hl:=h.lt
 have hY:0 < Y:=by omega
 have hD1:D < 10000:=by rw [hD];exact Nat.div_lt_of_lt_mul (by rw [hT];omega)
 have hgb:=(h.own.lt gq rfl).1
 refine ⟨hD1,by have:=h.le;omega,by rw [List.length_cons,h.len];have:=h.le;omega,fun z hz=>?_,?_,Nat.mod_lt _ hY,?_,h.bel.setCell (p:=⟨gq,j,none⟩) hgb _⟩
 · rcases List.mem_cons.1 hz with rfl | hz
   · omega
   · exact h.inr z hz
 · rw [hx]
   show (x:Int)+10000*pval 10000 (ps.drop (j+1))=(Y:Int)*((D:Int)+10000*pval 10000 outs)+((T % Y:Nat):Int)
   have hm:=Nat.mod_add_div T Y
   rw [← hD] at hm
   have e:((Y*D:Nat):Int)=(Y:Int)*(D:Int):=Int.natCast_mul _ _
   rw [h.sum,Int.mul_add (Y:Int),Int.mul_left_comm (Y:Int) 10000]
   omega
 · have hs:=(h.own.stored j (.int .i64 D)).1
   rw [iv_set,rep_set] at hs
   exact hs
theorem gcd_long (x y:Int) (w:World) (E:Env w) (hs:18 < max ((itoaB x).size:Int) ((itoaB y).size:Int)) (hx:dlen x≤40000) (hy:dlen y≤40000) :
   Calls Tryz.prog 75 #[.string (itoaB x),.string (itoaB y)] w (Ret w (.string (itoaB (Nat.gcd x.natAbs y.natAbs)))):=by
 have k1:∀ w,Calls Tryz.prog 105 #[.string (itoaB x),.string (itoaB y)] w (Ret w (.tuple #[.int .i64 0,.int .i64 0,.bool false])):=fun w=>ints_long _ _ w hs
 have r1:∀ w,Calls Tryz.prog 107 #[.string (itoaB x)] w (RetN w x):=fun w=>read_itoa x w (by omega)
 have r2:∀ w,Calls Tryz.prog 107 #[.string (itoaB y)] w (RetN w y):=fun w=>read_itoa y w (by omega)
 have hlx:(pcM x.natAbs).length≤40000:=by unfold dlen at hx;exact pcM_len_dec x.natAbs 40000 hx
 have hly:(pcM y.natAbs).length≤40000:=by unfold dlen at hy;exact pcM_len_dec y.natAbs 40000 hy
 have hgl:(pcM (Nat.gcd x.natAbs y.natAbs)).length≤100000:=by
   rcases Nat.eq_zero_or_pos x.natAbs with e | e
   · rw [e,Nat.gcd_zero_left];omega
   · have:=pcM_len_mono (Nat.gcd_le_left y.natAbs e);omega
 have HX:Hid ((pcM x.natAbs).length≤80000):=Lib.hid (Nat.le_trans hlx (by decide))
 have HY:Hid ((pcM y.natAbs).length≤80000):=Lib.hid (Nat.le_trans hly (by decide))
 have HGL:=Lib.hid hgl
 have hfld:∀ (b:Bool) (p:Option Addr) (n c:Nat) (w:World),(Instr.field 137 (.agg #[.bool b,.slice p n c]) 1).run Tryz.prog w = .ok (.slice p n c) w:=fun b p n c w=>by kernel_rfl
 obtain ⟨g,hg⟩:∃ g,itoaB ((Nat.gcd x.natAbs y.natAbs:Nat):Int)=g:=⟨_,rfl⟩
 obtain ⟨a,ha⟩:∃ a,itoaB x=a:=⟨_,rfl⟩
 obtain ⟨b,hb'⟩:∃ b,itoaB y=b:=⟨_,rfl⟩
 have HG:=Lib.hid hg
 rw [ha,hb'] at k1
 rw [ha] at r1
 rw [hb'] at r2
 rw [ha,hb',hg]
 have K1:=Lib.hid k1
 have R1:=Lib.hid r1
 have R2:=Lib.hid r2
 clear k1 r1 r2 ha hb' hs hx hy hg hlx hly hgl
 have hb:=Below.refl w.heap.size w
 go_enter Tryz.func75,Tryz.ntmps75
 go_wp2_with (first | (go_at_call 105;refine (chain hb (K1.out _)).mono ?_;clear hb;rintro e w1 ⟨rfl,hb⟩) | (go_at_call 107;first | (with_reducible refine (chainN hb (R1.out _)).mono ?_;clear hb;rintro e w1 ⟨b1,p1,n1,c1,rfl,hs1,hb⟩) | (with_reducible refine (chainN hb (R2.out _)).mono ?_;clear hb;rintro e w2 ⟨b2,p2,n2,c2,rfl,hs2,hb⟩)) | (go_at_call 108;refine (chainM hb (gcd_loop (hs1.out.1.below hs2.out.2.2) hs2.out.1 HX.out HY.out)).mono ?_;clear hb;rintro e w3 ⟨p3,n3,c3,rfl,hs3,hl3,hb⟩;have HS3:=Lib.hid hs3;clear hs3 hl3) | (go_at_call 109;refine (chain hb (text_z (E.below hb) HS3.out (sgI_f _) HGL.out)).mono ?_;clear hb;rintro e w4 ⟨rfl,hb⟩))
 go_ret
 exact ⟨retS HG.out,hb⟩
theorem gcd_any (x y:Int) (w:World) (E:Env w) (hx:dlen x≤40000) (hy:dlen y≤40000) :
   Calls Tryz.prog 75 #[.string (itoaB x),.string (itoaB y)] w (Ret w (.string (itoaB (Nat.gcd x.natAbs y.natAbs)))):=by
 by_cases hs:(itoaB x).size≤18∧(itoaB y).size≤18
 · have bx:=short_bound x hs.1
   have b2:=short_bound y hs.2
   exact gcd_short _ _ w hs.1 hs.2 x y (short_small x hs.1) (short_small y hs.2) E bx.1 bx.2 b2.1 b2.2
 · exact gcd_long x y w E (by omega) hx hy
end Go.Proofs.YtpiiclmkbplkhaaGreatDoor.Kl
