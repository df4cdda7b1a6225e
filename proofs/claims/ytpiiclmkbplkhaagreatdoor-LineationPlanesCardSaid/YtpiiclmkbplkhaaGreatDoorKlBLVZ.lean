import Derived.Test.YtpiiclmkbplkhaaGreatDoorKlBLAZ
import Derived.Test.YtpiiclmkbplkhaaGreatDoorKlBLRZ
namespace Go.Proofs.YtpiiclmkbplkhaaGreatDoor.Kl
open Go Go.RowKit
set_option maxRecDepth 100000
set_option maxHeartbeats 8000000
theorem dotk (k t:Rat) (X Y Z P Q S:Int):(k*(X:Rat))*(t*(P:Rat))+(k*(Y:Rat))*(t*(Q:Rat))+(k*(Z:Rat))*(t*(S:Rat))=(k*t)*((X*P+Y*Q+Z*S:Int):Rat):=by push_cast;grind
theorem detk (k t:Rat) (Y Z Q S:Int):(k*(Y:Rat))*(t*(S:Rat)) - (k*(Z:Rat))*(t*(Q:Rat))=(k*t)*((Y*S - Z*Q:Int):Rat):=by push_cast;grind
theorem divk (t:Rat) (A B:Int) (ht:t≠0) (hB:B≠0):(t*(A:Rat)) / (t*(B:Rat))=Rat.divInt A B:=by
 have hB':(B:Rat)≠0:=fun e=>hB (by exact_mod_cast e)
 rw [Rat.divInt_eq_div,Rat.div_def,Rat.div_def]
 grind
theorem sgk (t:Rat) (A:Int) (ht:0 < t):(t*(A:Rat)).num.sign=A.sign:=by
 obtain ⟨p1,p2,p3⟩:=sg_pos ht A
 obtain ⟨s1,s2,s3⟩:=sgn_iff (t*(A:Rat))
 rcases Int.lt_trichotomy A 0 with h | h | h
 · rw [s2.2 (p3.2 h),Int.sign_eq_neg_one_of_neg h]
 · rw [s3.2 (p2.2 h),h];rfl
 · rw [s1.2 (p1.2 h),Int.sign_eq_one_of_pos h]
theorem ne_of_pos' {t:Rat} (h:0 < t):t≠0:=fun e=>by rw [e] at h;exact absurd h (by decide)
theorem zk {k:Rat} (hk:0 < k) (X:Int):k*(X:Rat)=0↔X=0:=(sg_pos hk X).2.1
structure DV (k:Rat) (X Y Z:Int):Prop where
 kp:0 < k
 n0:RN (k*(X:Rat)) 6 3
 n1:RN (k*(Y:Rat)) 6 3
 n2:RN (k*(Z:Rat)) 6 3
 b0:X.natAbs≤1000
 b1:Y.natAbs≤1000
 b2:Z.natAbs≤1000
 nz:X≠0∨Y≠0∨Z≠0
theorem DV.ne {k:Rat} {X Y Z:Int} (h:DV k X Y Z):k*(X:Rat)≠0∨k*(Y:Rat)≠0∨k*(Z:Rat)≠0:=by
 rcases h.nz with g | g | g
 · exact Or.inl (fun e=>g ((zk h.kp X).1 e))
 · exact Or.inr (Or.inl (fun e=>g ((zk h.kp Y).1 e)))
 · exact Or.inr (Or.inr (fun e=>g ((zk h.kp Z).1 e)))
theorem DV.ne2 {k:Rat} {X Y Z:Int} (h:DV k X Y Z) (g:¬ (X=0∧Y=0)):k*(X:Rat)≠0∨k*(Y:Rat)≠0:=by
 by_cases q:X=0
 · exact Or.inr (fun e=>g ⟨q,(zk h.kp Y).1 e⟩)
 · exact Or.inl (fun e=>q ((zk h.kp X).1 e))
theorem DV.dn {k:Rat} {X Y Z:Int} (h:DV k X Y Z):(k*(X:Rat))*dnF (k*(X:Rat)) (k*(Y:Rat)) (k*(Z:Rat))=((X.tdiv (dnG X Y Z):Int):Rat)∧(k*(Y:Rat))*dnF (k*(X:Rat)) (k*(Y:Rat)) (k*(Z:Rat))=((Y.tdiv (dnG X Y Z):Int):Rat)∧(k*(Z:Rat))*dnF (k*(X:Rat)) (k*(Y:Rat)) (k*(Z:Rat))=((Z.tdiv (dnG X Y Z):Int):Rat):=dn_ints (k*(X:Rat)) (k*(Y:Rat)) (k*(Z:Rat)) k X Y Z h.kp rfl rfl rfl h.nz
theorem big {n:Int} (h:n.natAbs≤1000):n.natAbs≤1000000000000:=Nat.le_trans h (by decide)
def SS (X Y Z:Int):Int:=X*X+Y*Y+Z*Z
theorem SS_pos {X Y Z:Int} (h:X≠0∨Y≠0∨Z≠0):0 < SS X Y Z:=by
 unfold SS
 have p:∀ V:Int,0≤V*V:=fun V=>by rw [← Int.natAbs_mul_self];exact Int.natCast_nonneg _
 have q:∀ V:Int,V≠0→0 < V*V:=fun V hV=>by
   have h1:=p V
   have h2:V*V≠0:=Int.mul_ne_zero hV hV
   omega
 have a:=p X;have b:=p Y;have c:=p Z
 rcases h with h | h | h
 · have:=q X h;omega
 · have:=q Y h;omega
 · have:=q Z h;omega
theorem S2_pos {X Y:Int} (h:¬ (X=0∧Y=0)):0 < X*X+Y*Y:=by
 have:=SS_pos (X:=X) (Y:=Y) (Z:=0) (by by_cases q:X=0;exact Or.inr (Or.inl (fun e=>h ⟨q,e⟩));exact Or.inl q)
 unfold SS at this;omega
theorem cosk (k t:Rat) (hk:0 < k) (ht:0 < t) (X Y Z P Q S:Int) (h:X≠0∨Y≠0∨Z≠0) (g:P≠0∨Q≠0∨S≠0) :
   (((k*(X:Rat))*(t*(P:Rat))+(k*(Y:Rat))*(t*(Q:Rat))+(k*(Z:Rat))*(t*(S:Rat)))*((k*(X:Rat))*(t*(P:Rat))+(k*(Y:Rat))*(t*(Q:Rat))+(k*(Z:Rat))*(t*(S:Rat)))) / (((k*(X:Rat))*(k*(X:Rat))+(k*(Y:Rat))*(k*(Y:Rat))+(k*(Z:Rat))*(k*(Z:Rat)))*((t*(P:Rat))*(t*(P:Rat))+(t*(Q:Rat))*(t*(Q:Rat))+(t*(S:Rat))*(t*(S:Rat))))=Rat.divInt ((X*P+Y*Q+Z*S)*(X*P+Y*Q+Z*S)) (SS X Y Z*SS P Q S):=by
 rw [dotk k t,dotk k k,dotk t t]
 have kn:=ne_of_pos' hk
 have tn:=ne_of_pos' ht
 have e1:(k*t*((X*P+Y*Q+Z*S:Int):Rat))*(k*t*((X*P+Y*Q+Z*S:Int):Rat))=((k*t)*(k*t))*(((X*P+Y*Q+Z*S)*(X*P+Y*Q+Z*S):Int):Rat):=by rw [Rat.intCast_mul];grind
 have e2:(k*k*((X*X+Y*Y+Z*Z:Int):Rat))*(t*t*((P*P+Q*Q+S*S:Int):Rat))=((k*t)*(k*t))*((SS X Y Z*SS P Q S:Int):Rat):=by unfold SS;rw [Rat.intCast_mul];grind
 rw [e1,e2]
 exact divk _ _ _ (mul_ne (mul_ne kn tn) (mul_ne kn tn)) (by have a:=SS_pos h;have b:=SS_pos g;have:=Int.mul_pos a b;omega)
theorem ptk (k t:Rat) (hk:0 < k) (ht:0 < t) (X Y P Q S:Int) (h:¬ (X=0∧Y=0)) (g:P≠0∨Q≠0∨S≠0) (e d:Int) (he:e = -Y*P+X*Q+0*S) (hd:d=(-Y)*(-Y)+X*X+0*0) :
   ((-(k*(Y:Rat))*(t*(P:Rat))+(k*(X:Rat))*(t*(Q:Rat))+(0:Rat)*(t*(S:Rat)))*(-(k*(Y:Rat))*(t*(P:Rat))+(k*(X:Rat))*(t*(Q:Rat))+(0:Rat)*(t*(S:Rat)))) / ((-(k*(Y:Rat)) * -(k*(Y:Rat))+(k*(X:Rat))*(k*(X:Rat))+(0:Rat)*(0:Rat))*((t*(P:Rat))*(t*(P:Rat))+(t*(Q:Rat))*(t*(Q:Rat))+(t*(S:Rat))*(t*(S:Rat))))=Rat.divInt (e*e) (d*SS P Q S):=by
 have kn:=ne_of_pos' hk
 have tn:=ne_of_pos' ht
 have q1 : -(k*(Y:Rat))*(t*(P:Rat))+(k*(X:Rat))*(t*(Q:Rat))+(0:Rat)*(t*(S:Rat))=(k*t)*(e:Rat):=by rw [he];push_cast;grind
 have q2 : -(k*(Y:Rat)) * -(k*(Y:Rat))+(k*(X:Rat))*(k*(X:Rat))+(0:Rat)*(0:Rat)=(k*k)*(d:Rat):=by rw [hd];push_cast;grind
 rw [q1,q2,dotk t t]
 have e1:(k*t*(e:Rat))*(k*t*(e:Rat))=((k*t)*(k*t))*((e*e:Int):Rat):=by rw [Rat.intCast_mul];grind
 have e2:(k*k*(d:Rat))*(t*t*((P*P+Q*Q+S*S:Int):Rat))=((k*t)*(k*t))*((d*SS P Q S:Int):Rat):=by unfold SS;rw [Rat.intCast_mul];grind
 rw [e1,e2]
 have dp:0 < d:=by have:=S2_pos h;rw [hd];have h2:(-Y)*(-Y)=Y*Y:=Int.neg_mul_neg Y Y;omega
 exact divk _ _ _ (mul_ne (mul_ne kn tn) (mul_ne kn tn)) (by have b:=SS_pos g;have:=Int.mul_pos dp b;omega)
theorem cmpk (A B p q:Int) (hB:0 < B) (hq:0 < q):(Rat.divInt A B - Rat.divInt p q).num.sign=(q*A - p*B).sign:=by
 have hB':(B:Rat)≠0:=fun e=>by
   have:B=0:=by exact_mod_cast e
   omega
 have hq':(q:Rat)≠0:=fun e=>by
   have:q=0:=by exact_mod_cast e
   omega
 have hp:0 < ((B*q:Int):Rat)⁻¹:=Rat.inv_pos.2 (by exact_mod_cast Int.mul_pos hB hq)
 refine Eq.trans (congrArg (fun q:Rat=>q.num.sign) ?_) (sgk (((B*q:Int):Rat)⁻¹) _ hp)
 rw [Rat.divInt_eq_div,Rat.divInt_eq_div,Rat.div_def,Rat.div_def]
 push_cast
 grind
theorem RL_quot (A B:Int) (hA:A.natAbs≤1000000000000000) (hB:B.natAbs≤1000000000000000) (h0:B≠0):RL (Rat.divInt A B) 200:=by
 have e:Rat.divInt A B=(A:Rat) / (B:Rat):=Rat.divInt_eq_div A B
 have r:∀ n:Int,n.natAbs≤1000000000000000→RN (n:Rat) 16 1:=fun n hn=>⟨dlen_le _ 16 (by decide) (Nat.lt_of_le_of_lt hn (by decide +kernel)),(by show dlen ((1:Nat):Int)≤1;decide +kernel)⟩
 rw [e]
 exact (RN_div (r A hA) (r B hB) (fun e=>h0 (by exact_mod_cast e))).rl
theorem rb_14 : ratB (Rat.divInt 1 4)=⟨#[49,47,52]⟩:=by decide +kernel
theorem rb_34 : ratB (Rat.divInt 3 4)=⟨#[51,47,52]⟩:=by decide +kernel
theorem dvOf {k:Rat} {X Y Z:Int} (h:DV k X Y Z) (w:World) (R:EnvV w) :
   Calls Tryz.prog 25 #[.agg #[.string (ratB (k*(X:Rat))),.string (ratB (k*(Y:Rat))),.string (ratB (k*(Z:Rat)))]] w (Ret w (.tuple #[.agg #[.string (itoaB (X.tdiv (dnG X Y Z))),.string (itoaB (Y.tdiv (dnG X Y Z))),.string (itoaB (Z.tdiv (dnG X Y Z)))],.int .i64 0])):=by
 obtain ⟨e1,e2,e3⟩:=h.dn
 exact lOf _ _ _ _ _ _ h.ne (h.n0.rl) (h.n1.rl) (h.n2.rl) e1 e2 e3 (dn_bound _ _ _ (big h.b0)) (dn_bound _ _ _ (big h.b1)) (dn_bound _ _ _ (big h.b2)) w R
theorem dvCheck {k:Rat} {X Y Z:Int} (h:DV k X Y Z) (w:World) (R:EnvV w) :
   Calls Tryz.prog 15 #[.agg #[.string (ratB (k*(X:Rat))),.string (ratB (k*(Y:Rat))),.string (ratB (k*(Z:Rat)))]] w (Ret w (.int .i64 0)):=
 lcheck_ok _ _ _ h.ne (h.n0.rl) (h.n1.rl) (h.n2.rl) w R
theorem crossz {k t:Rat} (hk:0 < k) (ht:0 < t) (X Y Z P Q S:Int) :
   ((k*(Y:Rat))*(t*(S:Rat)) - (k*(Z:Rat))*(t*(Q:Rat))=0∧(k*(Z:Rat))*(t*(P:Rat)) - (k*(X:Rat))*(t*(S:Rat))=0∧(k*(X:Rat))*(t*(Q:Rat)) - (k*(Y:Rat))*(t*(P:Rat))=0)↔(Y*S - Z*Q=0∧Z*P - X*S=0∧X*Q - Y*P=0):=by
 rw [detk,detk,detk,zk (Rat.mul_pos hk ht),zk (Rat.mul_pos hk ht),zk (Rat.mul_pos hk ht)]
theorem dvCos {k t:Rat} {X Y Z P Q S:Int} (h:DV k X Y Z) (g:DV t P Q S) (w:World) (R:EnvV w) :
   Calls Tryz.prog 50 #[.agg #[.string (ratB (k*(X:Rat))),.string (ratB (k*(Y:Rat))),.string (ratB (k*(Z:Rat)))],.agg #[.string (ratB (t*(P:Rat))),.string (ratB (t*(Q:Rat))),.string (ratB (t*(S:Rat)))]] w (Ret w (.string (ratB (Rat.divInt ((X*P+Y*Q+Z*S)*(X*P+Y*Q+Z*S)) (SS X Y Z*SS P Q S))))):=by
 have c:=lcosN _ _ _ _ _ _ h.n0 h.n1 h.n2 g.n0 g.n1 g.n2 h.ne g.ne w R
 rwa [cosk k t h.kp g.kp X Y Z P Q S h.nz g.nz] at c
theorem dotz {k t:Rat} (hk:0 < k) (ht:0 < t) (X Y Z P Q S:Int):(k*(X:Rat))*(t*(P:Rat))+(k*(Y:Rat))*(t*(Q:Rat))+(k*(Z:Rat))*(t*(S:Rat))=0↔X*P+Y*Q+Z*S=0:=by
 rw [dotk,zk (Rat.mul_pos hk ht)]
theorem dvPitch {k t:Rat} {X Y Z P Q S:Int} (h:DV k X Y Z) (g:DV t P Q S) (v:¬ (X=0∧Y=0)) (q:X*P+Y*Q+Z*S=0) (e d:Int) (he:e = -Y*P+X*Q+0*S) (hd:d=(-Y)*(-Y)+X*X+0*0) (w:World) (R:EnvV w) :
   Calls Tryz.prog 23 #[.agg #[.string (ratB (k*(X:Rat))),.string (ratB (k*(Y:Rat))),.string (ratB (k*(Z:Rat)))],.agg #[.string (ratB (t*(P:Rat))),.string (ratB (t*(Q:Rat))),.string (ratB (t*(S:Rat)))]] w fun e_ w' => e_ = .returned (.tuple #[.string (ratB (Rat.divInt (e*e) (d*SS P Q S))),.int .i64 0])∧Below w.heap.size w w':=by
 have c:=lPitch_ok _ _ _ _ _ _ h.n0 h.n1 h.n2 g.n0 g.n1 g.n2 h.ne g.ne (h.ne2 v) ((dotz h.kp g.kp X Y Z P Q S).2 q) w R
 rwa [ptk k t h.kp g.kp X Y P Q S v g.nz e d he hd] at c
theorem dvIntersect {k t:Rat} {X Y Z P Q S:Int} (h:DV k X Y Z) (g:DV t P Q S) (K0 K1 K2:Int) (e0:Y*S - Z*Q=K0) (e1:Z*P - X*S=K1) (e2:X*Q - Y*P=K2) (hc:¬ (K0=0∧K1=0∧K2=0)) (b0:K0.natAbs≤1000000000000) (b1:K1.natAbs≤1000000000000) (b2:K2.natAbs≤1000000000000) (w:World) (R:EnvV w) :
   Calls Tryz.prog 22 #[.agg #[.string (ratB (k*(X:Rat))),.string (ratB (k*(Y:Rat))),.string (ratB (k*(Z:Rat)))],.agg #[.string (ratB (t*(P:Rat))),.string (ratB (t*(Q:Rat))),.string (ratB (t*(S:Rat)))]] w (Ret w (.tuple #[.agg #[.string (itoaB (K0.tdiv (dnG K0 K1 K2))),.string (itoaB (K1.tdiv (dnG K0 K1 K2))),.string (itoaB (K2.tdiv (dnG K0 K1 K2)))],.int .i64 0])):=by
 have hn:K0≠0∨K1≠0∨K2≠0:=by
   by_cases q0:K0=0
   · by_cases q1:K1=0
     · exact Or.inr (Or.inr (fun q2=>hc ⟨q0,q1,q2⟩))
     · exact Or.inr (Or.inl q1)
   · exact Or.inl q0
 have d:=dn_ints ((k*(Y:Rat))*(t*(S:Rat)) - (k*(Z:Rat))*(t*(Q:Rat))) ((k*(Z:Rat))*(t*(P:Rat)) - (k*(X:Rat))*(t*(S:Rat))) ((k*(X:Rat))*(t*(Q:Rat)) - (k*(Y:Rat))*(t*(P:Rat))) (k*t) K0 K1 K2 (Rat.mul_pos h.kp g.kp) (by rw [detk,e0]) (by rw [detk,e1]) (by rw [detk,e2]) hn
 exact lIntersect_ok _ _ _ _ _ _ h.n0 h.n1 h.n2 g.n0 g.n1 g.n2 h.ne g.ne (fun z=>hc (by have:=(crossz h.kp g.kp X Y Z P Q S).1 z;rwa [e0,e1,e2] at this)) _ _ _ d.1 (dn_bound _ _ _ b0) d.2.1 (dn_bound _ _ _ b1) d.2.2 (dn_bound _ _ _ b2) w R
def clsI (d B:Int):Int:=if 0 < d then (if B < 4*(d*d) then 1 else 2) else if 4*(d*d) < B then 3 else if 4*(d*d) < 3*B then 4 else 5
theorem dvInter {k t:Rat} {X Y Z P Q S:Int} (h:DV k X Y Z) (g:DV t P Q S) (d B n:Int) (hd:X*P+Y*Q+Z*S=d) (hB:SS X Y Z*SS P Q S=B) (bd:d.natAbs≤10000000) (bB:B.natAbs≤100000000000000) (hn:clsI d B=n) (w:World) (R:EnvV w) :
   Calls Tryz.prog 24 #[.agg #[.string (ratB (k*(X:Rat))),.string (ratB (k*(Y:Rat))),.string (ratB (k*(Z:Rat)))],.agg #[.string (ratB (t*(P:Rat))),.string (ratB (t*(Q:Rat))),.string (ratB (t*(S:Rat)))]] w (Ret w (.tuple #[.int .i64 n,.int .i64 0])):=by
 have Bp:0 < B:=by rw [← hB];exact Int.mul_pos (SS_pos h.nz) (SS_pos g.nz)
 have kq:∀ w,EnvV w→_:=fun w R=>dvCos h g w R
 rw [hd,hB] at kq
 have rq:RL (Rat.divInt (d*d) B) 10000:=(RL_quot (d*d) B (mulS bd bd (by decide)) (Nat.le_trans bB (by decide)) (by omega)).mono (by decide)
 have kd:∀ w,EnvV w→_:=fun w R=>xdotN _ _ _ _ _ _ h.n0 h.n1 h.n2 g.n0 g.n1 g.n2 w R
 rw [dotk,hd] at kd
 have rd:RL (k*t*(d:Rat)) 100000:=by
   have r:=RN_add (N:=40) (RN_add (N:=24) (RN_mul h.n0 g.n0) (RN_mul h.n1 g.n1)) (RN_mul h.n2 g.n2)
   rw [dotk,hd] at r
   exact r.rl
 have ks:∀ w,EnvV w→_:=fun w R=>rsign_any (k*t*(d:Rat)) rd w R.toEnvR
 rw [sgk _ _ (Rat.mul_pos h.kp g.kp)] at ks
 have k4:∀ w,EnvV w→_:=fun w R=>rcompare_any (Rat.divInt (d*d) B) (Rat.divInt 1 4) rq (by unfold RL;decide +kernel) w R.toEnvR
 have k3:∀ w,EnvV w→_:=fun w R=>rcompare_any (Rat.divInt (d*d) B) (Rat.divInt 3 4) rq (by unfold RL;decide +kernel) w R.toEnvR
 rw [rb_14,cmpk _ _ _ _ Bp (by decide)] at k4
 rw [rb_34,cmpk _ _ _ _ Bp (by decide)] at k3
 have s0:∀ x:Int,(0 < x.sign↔0 < x)∧(x.sign < 0↔x < 0):=fun x=>by
   rcases Int.lt_trichotomy x 0 with q | q | q
   · rw [Int.sign_eq_neg_one_of_neg q];omega
   · rw [q];decide
   · rw [Int.sign_eq_one_of_pos q];omega
 subst hn
 unfold clsI
 by_cases c1:0 < d
 · rw [if_pos c1]
   by_cases c2:B < 4*(d*d)
   · rw [if_pos c2]
     exact linter_1 _ _ _ _ _ _ _ _ _ _ (dvCheck h) (dvCheck g) kq kd ks k4 (decide_eq_true ((s0 d).1.2 c1)) (decide_eq_true ((s0 _).1.2 (by omega))) w R
   · rw [if_neg c2]
     exact linter_2 _ _ _ _ _ _ _ _ _ _ (dvCheck h) (dvCheck g) kq kd ks k4 (decide_eq_true ((s0 d).1.2 c1)) (decide_eq_false (fun e=>by have:=(s0 _).1.1 e;omega)) w R
 · rw [if_neg c1]
   have n1:=decide_eq_false (fun e=>c1 ((s0 d).1.1 e))
   by_cases c3:4*(d*d) < B
   · rw [if_pos c3]
     exact linter_3 _ _ _ _ _ _ _ _ _ _ (dvCheck h) (dvCheck g) kq kd ks k4 n1 (decide_eq_true ((s0 _).2.2 (by omega))) w R
   · rw [if_neg c3]
     have n2:decide ((4*(d*d) - 1*B).sign < 0)=false:=decide_eq_false (fun e=>by have:=(s0 _).2.1 e;omega)
     by_cases c4:4*(d*d) < 3*B
     · rw [if_pos c4]
       exact linter_4 _ _ _ _ _ _ _ _ _ _ _ (dvCheck h) (dvCheck g) kq kd ks k4 k3 n1 n2 (decide_eq_true ((s0 _).2.2 (by omega))) w R
     · rw [if_neg c4]
       exact linter_5 _ _ _ _ _ _ _ _ _ _ _ (dvCheck h) (dvCheck g) kq kd ks k4 k3 n1 n2 (decide_eq_false (fun e=>by have:=(s0 _).2.1 e;omega)) w R
def hfS (a b:Int):Int:=if 0 < firstNZ [a,b] then 0 else 1
def cwI (u v p q:Int):Int:=if Lib.compareInt (hfS u.sign v.sign) (hfS p.sign q.sign)=0 then (u*q - v*p).sign else Lib.compareInt (hfS u.sign v.sign) (hfS p.sign q.sign)
theorem ksgn (t:Rat) (u:Int) (ht:0 < t) (r:RN (t*(u:Rat)) 6 3) (w:World) (R:EnvV w) :
   Calls Tryz.prog 54 #[.string (ratB (t*(u:Rat)))] w (Ret w (.int .i64 u.sign)):=by
 have h:=rsign_any (t*(u:Rat)) (r.rl) w R.toEnvR
 rwa [sgk t u ht] at h
theorem dvHalf (t:Rat) (u v:Int) (ht:0 < t) (ru:RN (t*(u:Rat)) 6 3) (rv:RN (t*(v:Rat)) 6 3) (w:World) (R:EnvV w) :
   Calls Tryz.prog 78 #[.agg #[.string (ratB (t*(u:Rat))),.string (ratB (t*(v:Rat)))]] w (Ret w (.int .i64 (hfS u.sign v.sign))):=by
 unfold hfS
 by_cases h:0 < firstNZ [u.sign,v.sign]
 · rw [if_pos h]
   exact lhalf_0 _ _ _ _ _ (fun w R=>ksgn t u ht ru w R) (fun w R=>ksgn t v ht rv w R) (decide_eq_true h) rfl w R
 · rw [if_neg h]
   exact lhalf_1 _ _ _ _ _ (fun w R=>ksgn t u ht ru w R) (fun w R=>ksgn t v ht rv w R) (decide_eq_false h) rfl w R
theorem dvClock (t s:Rat) (u v p q:Int) (ht:0 < t) (hs:0 < s) (ru:RN (t*(u:Rat)) 6 3) (rv:RN (t*(v:Rat)) 6 3) (rp:RN (s*(p:Rat)) 6 3) (rq:RN (s*(q:Rat)) 6 3) (w:World) (R:EnvV w) :
   Calls Tryz.prog 46 #[.agg #[.string (ratB (t*(u:Rat))),.string (ratB (t*(v:Rat)))],.agg #[.string (ratB (s*(p:Rat))),.string (ratB (s*(q:Rat)))]] w (Ret w (.int .i64 (cwI u v p q))):=by
 unfold cwI
 by_cases h:Lib.compareInt (hfS u.sign v.sign) (hfS p.sign q.sign)=0
 · rw [if_pos h]
   have kd:∀ w,EnvV w→_:=fun w R=>xdetN _ _ _ _ ru rv rp rq w R
   have rd:=RN_sub (N:=18) (RN_mul ru rq) (RN_mul rv rp)
   rw [detk] at kd rd
   have ks:∀ w,EnvV w→_:=fun w R=>rsign_any _ (rd.rl) w R.toEnvR
   rw [sgk _ _ (Rat.mul_pos ht hs)] at ks
   exact lclock_e _ _ _ _ _ _ _ _ _ (fun w R=>dvHalf t u v ht ru rv w R) (fun w R=>dvHalf s p q hs rp rq w R) kd ks (beq_iff_eq.2 h) rfl w R
 · rw [if_neg h]
   exact lclock_n _ _ _ _ _ _ _ (fun w R=>dvHalf t u v ht ru rv w R) (fun w R=>dvHalf s p q hs rp rq w R) (beq_eq_false_iff_ne.2 h) rfl w R
theorem dvBear {k:Rat} {X Y Z:Int} (h:DV k X Y Z):∃ t:Rat,0 < t∧RN (t*((X.tdiv (dnG X Y Z):Int):Rat)) 6 3∧RN (t*((Y.tdiv (dnG X Y Z):Int):Rat)) 6 3∧∀ w,EnvV w →
   Calls Tryz.prog 47 #[.agg #[.string (ratB (k*(X:Rat))),.string (ratB (k*(Y:Rat))),.string (ratB (k*(Z:Rat)))]] w (Ret w (.agg #[.string (ratB (t*((X.tdiv (dnG X Y Z):Int):Rat))),.string (ratB (t*((Y.tdiv (dnG X Y Z):Int):Rat)))])):=by
 obtain ⟨d1,d2,d3⟩:=g3_dvd X Y Z
 have gp:=g3_pos X Y Z h.nz
 have hu:=up_ints (k*(X:Rat)) (k*(Y:Rat)) (k*(Z:Rat)) k X Y Z h.kp rfl rfl rfl
 have gq:(0:Rat) < ((g3 X Y Z:Int):Rat):=by exact_mod_cast (show (0:Int) < (g3 X Y Z:Int) by omega)
 refine ⟨k*((g3 X Y Z:Int):Rat),Rat.mul_pos h.kp gq,?_⟩
 have R200:∀ {q:Rat},RN q 6 3→RL q 200:=fun r=>r.rl
 by_cases u:upI X Y Z
 · have key:∀ V:Int,(g3 X Y Z:Int) ∣ V→k*((g3 X Y Z:Int):Rat)*((V.tdiv (dnG X Y Z):Int):Rat) = -(k*(V:Rat)):=fun V hV=>by
     obtain ⟨c,hc⟩:=hV
     unfold dnG
     rw [if_pos u,Int.tdiv_neg,hc,Int.mul_tdiv_cancel_left _ (by omega)]
     push_cast
     grind
   rw [key X d1,key Y d2]
   refine ⟨RN_neg h.n0,RN_neg h.n1,fun w R=>?_⟩
   exact lbear_w _ _ _ _ _ _ (fun w R=>ldown _ _ _ h.ne (R200 h.n0) (R200 h.n1) (R200 h.n2) w R _ _ (-(k*(Z:Rat))) (if_pos (hu.2 u)).symm (if_pos (hu.2 u)).symm (if_pos (hu.2 u)).symm) w R
 · have key:∀ V:Int,(g3 X Y Z:Int) ∣ V→k*((g3 X Y Z:Int):Rat)*((V.tdiv (dnG X Y Z):Int):Rat)=k*(V:Rat):=fun V hV=>by
     obtain ⟨c,hc⟩:=hV
     unfold dnG
     rw [if_neg u,hc,Int.mul_tdiv_cancel_left _ (by omega)]
     push_cast
     grind
   rw [key X d1,key Y d2]
   refine ⟨h.n0,h.n1,fun w R=>?_⟩
   exact lbear_w _ _ _ _ _ _ (fun w R=>ldown _ _ _ h.ne (R200 h.n0) (R200 h.n1) (R200 h.n2) w R _ _ (k*(Z:Rat)) (if_neg (mt hu.1 u)).symm (if_neg (mt hu.1 u)).symm (if_neg (mt hu.1 u)).symm) w R
theorem e_t0 : ratB ((1:Rat)*((0:Int):Rat))=⟨#[48]⟩:=by decide +kernel
theorem e_t1 : ratB ((1:Rat)*((1:Int):Rat))=⟨#[49]⟩:=by decide +kernel
theorem e_tm : ratB ((1:Rat)*((-1:Int):Rat))=⟨#[45,49]⟩:=by decide +kernel
theorem e_r0 : RN ((1:Rat)*((0:Int):Rat)) 6 3:=by unfold RN;decide +kernel
theorem e_r1 : RN ((1:Rat)*((1:Int):Rat)) 6 3:=by unfold RN;decide +kernel
theorem e_rm : RN ((1:Rat)*((-1:Int):Rat)) 6 3:=by unfold RN;decide +kernel
def cwS (a b x y:Int) (d:Int):Int:=if Lib.compareInt (hfS a b) (hfS x y)=0 then d else Lib.compareInt (hfS a b) (hfS x y)
theorem cw0 (u v:Int):cwI 0 1 u v=cwS 0 1 u.sign v.sign (-u.sign):=by unfold cwI cwS;rw [show 0*v - 1*u = -u by omega,Int.sign_neg];rfl
theorem cw1 (u v:Int):cwI 1 0 u v=cwS 1 0 u.sign v.sign v.sign:=by unfold cwI cwS;rw [show 1*v - 0*u=v by omega];rfl
theorem cw2 (u v:Int):cwI 0 (-1) u v=cwS 0 (-1) u.sign v.sign u.sign:=by unfold cwI cwS;rw [show 0*v - -1*u=u by omega];rfl
theorem cw3 (u v:Int):cwI (-1) 0 u v=cwS (-1) 0 u.sign v.sign (-v.sign):=by unfold cwI cwS;rw [show -1*v - 0*u = -v by omega,show (-v).sign = -v.sign from Int.sign_neg v];rfl
theorem sgnI (x:Int):(0 < x∧x.sign=1)∨(x < 0∧x.sign = -1)∨(x=0∧x.sign=0):=by
 rcases Int.lt_trichotomy x 0 with h | h | h
 · exact Or.inr (Or.inl ⟨h,Int.sign_eq_neg_one_of_neg h⟩)
 · exact Or.inr (Or.inr ⟨h,by rw [h];rfl⟩)
 · exact Or.inl ⟨h,Int.sign_eq_one_of_pos h⟩
def SearchC (t0 t1:ByteArray) (n:Int) (f:Bool):Prop:=∀ (blk:Nat) (w:World),EnvV w→w.cell? ⟨blk,0,none⟩=some (.string ⟨#[48]⟩)→w.cell? ⟨blk,1,none⟩=some (.string ⟨#[49]⟩)→w.cell? ⟨blk,2,none⟩=some (.string ⟨#[49]⟩)→w.cell? ⟨blk,3,none⟩=some (.string ⟨#[48]⟩)→w.cell? ⟨blk,4,none⟩=some (.string ⟨#[48]⟩)→w.cell? ⟨blk,5,none⟩=some (.string ⟨#[45,49]⟩)→w.cell? ⟨blk,6,none⟩=some (.string ⟨#[45,49]⟩)→w.cell? ⟨blk,7,none⟩=some (.string ⟨#[48]⟩) →
 Calls Tryz.prog 57 #[.slice (some ⟨blk,0,none⟩) 4 4,.agg #[.string t0,.string t1],.func (Fn.func 46) #[] #[]] w (Ret w (.tuple #[.int .i64 n,.bool f]))
theorem dvSearch (t:Rat) (u v:Int) (ht:0 < t) (ru:RN (t*(u:Rat)) 6 3) (rv:RN (t*(v:Rat)) 6 3) (hz:¬ (u=0∧v=0)) :
   (∃ n,octI u v=2*n∧0≤n∧n≤4∧SearchC (ratB (t*(u:Rat))) (ratB (t*(v:Rat))) n true)∨∃ n,octI u v=2*n - 1∧0≤n∧n≤4∧SearchC (ratB (t*(u:Rat))) (ratB (t*(v:Rat))) n false:=by
 have c0:∀ w,EnvV w→_:=fun w R=>dvClock 1 t 0 1 u v (by decide) ht e_r0 e_r1 ru rv w R
 have c1:∀ w,EnvV w→_:=fun w R=>dvClock 1 t 1 0 u v (by decide) ht e_r1 e_r0 ru rv w R
 have c2:∀ w,EnvV w→_:=fun w R=>dvClock 1 t 0 (-1) u v (by decide) ht e_r0 e_rm ru rv w R
 have c3:∀ w,EnvV w→_:=fun w R=>dvClock 1 t (-1) 0 u v (by decide) ht e_rm e_r0 ru rv w R
 rw [e_t0,e_t1,cw0] at c0
 rw [e_t0,e_t1,cw1] at c1
 rw [e_t0,e_tm,cw2] at c2
 rw [e_t0,e_tm,cw3] at c3
 rcases sgnI u with ⟨hu,su⟩ | ⟨hu,su⟩ | ⟨hu,su⟩ <;> rcases sgnI v with ⟨hv,sv⟩ | ⟨hv,sv⟩ | ⟨hv,sv⟩ <;> rw [su,sv] at c0 c1 c2 c3
 · exact Or.inr ⟨1,by unfold octI;(repeat' split) <;> omega,by decide,by decide,fun blk w R y0 y1 y2 y3 y4 y5 y6 y7=>bsearch_1 blk _ _ _ _ _ _ c0 c1 c2 (by decide) (by decide) (by decide) (by decide) w R y0 y1 y2 y3 y4 y5 y6 y7⟩
 · exact Or.inr ⟨2,by unfold octI;(repeat' split) <;> omega,by decide,by decide,fun blk w R y0 y1 y2 y3 y4 y5 y6 y7=>bsearch_2 blk _ _ _ _ _ c1 c2 (by decide) (by decide) (by decide) w R y0 y1 y2 y3 y4 y5 y6 y7⟩
 · exact Or.inl ⟨1,by unfold octI;(repeat' split) <;> omega,by decide,by decide,fun blk w R y0 y1 y2 y3 y4 y5 y6 y7=>bsearch_1 blk _ _ _ _ _ _ c0 c1 c2 (by decide) (by decide) (by decide) (by decide) w R y0 y1 y2 y3 y4 y5 y6 y7⟩
 · exact Or.inr ⟨4,by unfold octI;(repeat' split) <;> omega,by decide,by decide,fun blk w R y0 y1 y2 y3 y4 y5 y6 y7=>bsearch_4 blk _ _ _ _ c2 c3 (by decide) (by decide) w R y0 y1 y2 y3 y4 y5 y6 y7⟩
 · exact Or.inr ⟨3,by unfold octI;(repeat' split) <;> omega,by decide,by decide,fun blk w R y0 y1 y2 y3 y4 y5 y6 y7=>bsearch_3 blk _ _ _ _ _ c2 c3 (by decide) (by decide) (by decide) w R y0 y1 y2 y3 y4 y5 y6 y7⟩
 · exact Or.inl ⟨3,by unfold octI;(repeat' split) <;> omega,by decide,by decide,fun blk w R y0 y1 y2 y3 y4 y5 y6 y7=>bsearch_3 blk _ _ _ _ _ c2 c3 (by decide) (by decide) (by decide) w R y0 y1 y2 y3 y4 y5 y6 y7⟩
 · exact Or.inl ⟨0,by unfold octI;(repeat' split) <;> omega,by decide,by decide,fun blk w R y0 y1 y2 y3 y4 y5 y6 y7=>bsearch_0 blk _ _ _ _ _ _ c0 c1 c2 (by decide) (by decide) (by decide) (by decide) w R y0 y1 y2 y3 y4 y5 y6 y7⟩
 · exact Or.inl ⟨2,by unfold octI;(repeat' split) <;> omega,by decide,by decide,fun blk w R y0 y1 y2 y3 y4 y5 y6 y7=>bsearch_2 blk _ _ _ _ _ c1 c2 (by decide) (by decide) (by decide) w R y0 y1 y2 y3 y4 y5 y6 y7⟩
 · exact absurd ⟨hu,hv⟩ hz
theorem dvVert_f {k:Rat} {X Y Z:Int} (h:DV k X Y Z) (v:¬ (X=0∧Y=0)) (w:World) (R:EnvV w) :
   Calls Tryz.prog 45 #[.agg #[.string (ratB (k*(X:Rat))),.string (ratB (k*(Y:Rat))),.string (ratB (k*(Z:Rat)))]] w (Ret w (.bool false)):=lver_f _ _ _ (h.ne2 v) w R
theorem tdivz {X Y Z:Int} (h:X≠0∨Y≠0∨Z≠0):(X.tdiv (dnG X Y Z)=0∧Y.tdiv (dnG X Y Z)=0)↔(X=0∧Y=0):=by
 obtain ⟨d1,d2,d3⟩:=g3_dvd X Y Z
 have gp:=g3_pos X Y Z h
 have key:∀ V:Int,(g3 X Y Z:Int) ∣ V→(V.tdiv (dnG X Y Z)=0↔V=0):=fun V hV=>by
   obtain ⟨c,hc⟩:=hV
   have g0:(g3 X Y Z:Int)≠0:=by omega
   have e:V.tdiv (dnG X Y Z)=c∨V.tdiv (dnG X Y Z) = -c:=by
     unfold dnG
     by_cases u:upI X Y Z
     · rw [if_pos u,Int.tdiv_neg,hc,Int.mul_tdiv_cancel_left _ g0];exact Or.inr rfl
     · rw [if_neg u,hc,Int.mul_tdiv_cancel_left _ g0];exact Or.inl rfl
   have hv:V=0↔c=0:=by
     rw [hc,Int.mul_eq_zero];exact ⟨fun k=>k.resolve_left g0,Or.inr⟩
   rw [hv]
   omega
 rw [key X d1,key Y d2]
theorem dvTrend {k:Rat} {X Y Z:Int} (h:DV k X Y Z) (v:¬ (X=0∧Y=0)) (w:World) (R:EnvV w) :
   Calls Tryz.prog 26 #[.agg #[.string (ratB (k*(X:Rat))),.string (ratB (k*(Y:Rat))),.string (ratB (k*(Z:Rat)))]] w (Ret w (.tuple #[.int .i64 (octI (X.tdiv (dnG X Y Z)) (Y.tdiv (dnG X Y Z))),.int .i64 0])):=by
 obtain ⟨t,ht,ru,rv,hb⟩:=dvBear h
 have hc:∀ w,EnvV w→_:=fun w R=>lcheck_ok _ _ _ h.ne (h.n0.rl) (h.n1.rl) (h.n2.rl) w R
 rcases dvSearch t _ _ ht ru rv (mt (tdivz h.nz).1 v) with ⟨n,e,n0,n4,hs⟩ | ⟨n,e,n0,n4,hs⟩
 · rw [e]
   exact lTrend_t _ _ _ _ _ n (2*n) hs hc (fun w R=>dvVert_f h v w R) hb (wrapS _ (by omega)) w R
 · rw [e]
   exact lTrend_f _ _ _ _ _ n (2*n) (2*n - 1) hs hc (fun w R=>dvVert_f h v w R) hb (wrapS _ (by omega)) (wrapS _ (by omega)) w R
theorem lknown_w  (hv0:CV 40 #[.int .i64 2,.int .i64 (-4),.int .i64 6] (.agg #[.string ⟨#[50]⟩,.string ⟨#[45,52]⟩,.string ⟨#[54]⟩])) (hv1:CV 40 #[.int .i64 (-1),.int .i64 2,.int .i64 (-3)] (.agg #[.string ⟨#[45,49]⟩,.string ⟨#[50]⟩,.string ⟨#[45,51]⟩])) (hv2:CV 40 #[.int .i64 1,.int .i64 0,.int .i64 1] (.agg #[.string ⟨#[49]⟩,.string ⟨#[48]⟩,.string ⟨#[49]⟩])) (hv3:CV 40 #[.int .i64 0,.int .i64 1,.int .i64 1] (.agg #[.string ⟨#[48]⟩,.string ⟨#[49]⟩,.string ⟨#[49]⟩])) (hv4:CV 40 #[.int .i64 1,.int .i64 1,.int .i64 (-1)] (.agg #[.string ⟨#[49]⟩,.string ⟨#[49]⟩,.string ⟨#[45,49]⟩])) (hv5:CV 40 #[.int .i64 2,.int .i64 0,.int .i64 3] (.agg #[.string ⟨#[50]⟩,.string ⟨#[48]⟩,.string ⟨#[51]⟩])) (hv6:CV 40 #[.int .i64 (-2),.int .i64 0,.int .i64 3] (.agg #[.string ⟨#[45,50]⟩,.string ⟨#[48]⟩,.string ⟨#[51]⟩])) (ho:CV 25 #[.agg #[.string ⟨#[50]⟩,.string ⟨#[45,52]⟩,.string ⟨#[54]⟩]] (.tuple #[.agg #[.string ⟨#[45,49]⟩,.string ⟨#[50]⟩,.string ⟨#[45,51]⟩],.int .i64 0])) (ht:CV 26 #[.agg #[.string ⟨#[50]⟩,.string ⟨#[45,52]⟩,.string ⟨#[54]⟩]] (.tuple #[.int .i64 7,.int .i64 0])) (hi:CV 22 #[.agg #[.string ⟨#[49]⟩,.string ⟨#[48]⟩,.string ⟨#[49]⟩],.agg #[.string ⟨#[48]⟩,.string ⟨#[49]⟩,.string ⟨#[49]⟩]] (.tuple #[.agg #[.string ⟨#[49]⟩,.string ⟨#[49]⟩,.string ⟨#[45,49]⟩],.int .i64 0])) (hp:CV 23 #[.agg #[.string ⟨#[49]⟩,.string ⟨#[48]⟩,.string ⟨#[49]⟩],.agg #[.string ⟨#[49]⟩,.string ⟨#[49]⟩,.string ⟨#[45,49]⟩]] (.tuple #[.string ⟨#[49,47,51]⟩,.int .i64 0])) (hc:CV 24 #[.agg #[.string ⟨#[50]⟩,.string ⟨#[48]⟩,.string ⟨#[51]⟩],.agg #[.string ⟨#[45,50]⟩,.string ⟨#[48]⟩,.string ⟨#[51]⟩]] (.tuple #[.int .i64 2,.int .i64 0])) (w:World) (R:EnvV w) :
   Calls Tryz.prog 12 #[] w (Ret w (.bool true)):=by
 have c1:=hv0
 have c2:=ho
 have c4:=ht
 have c5:=hv2
 have c6:=hv3
 have c7:=hi
 have c9:=hp
 have c10:=hv5
 have c11:=hv6
 have c12:=hc
 have c13:=hv1
 have c14:=hv4
 have C1:=Lib.hid c1
 have C2:=Lib.hid c2
 have C4:=Lib.hid c4
 have C5:=Lib.hid c5
 have C6:=Lib.hid c6
 have C7:=Lib.hid c7
 have C9:=Lib.hid c9
 have C10:=Lib.hid c10
 have C11:=Lib.hid c11
 have C12:=Lib.hid c12
 have C13:=Lib.hid c13
 have C14:=Lib.hid c14
 clear c1 c2 c4 c5 c6 c7 c9 c10 c11 c12 c13 c14 hv0 hv1 hv2 hv3 hv4 hv5 hv6 ho ht hi hp hc
 have hb:=Below.refl w.heap.size w
 go_enter Tryz.func12,Tryz.ntmps12
 go_upto_region 2 with ((first | (go_at_call 40;with_reducible refine (chVB hb R C1).mono ?_) | (go_at_call 25;with_reducible refine (chVB hb R C2).mono ?_));clear hb;rintro e w1 ⟨rfl,hk,hb⟩;clear hk)
 refine wp_alloc1 (fun w1 Aa hk=>?_)
 replace hb:=hb.trans (hk.mono hb.size)
 clear hk
 obtain ⟨Ac,Ad,Ae⟩:=ce3 Aa
 go_upto_region 4 with ((first | (go_at_call 40;first | with_reducible refine (chVB hb R C1).mono ?_ | with_reducible refine (chVB hb R C5).mono ?_ | with_reducible refine (chVB hb R C6).mono ?_) | (go_at_call 26;with_reducible refine (chVB hb R C4).mono ?_) | (go_at_call 22;with_reducible refine (chVB hb R C7).mono ?_));clear hb;rintro e w1 ⟨rfl,hk,hb⟩;clear Ac Ad Ae;replace Aa:=zB hk Aa;obtain ⟨Ac,Ad,Ae⟩:=ce3 Aa;clear hk)
 refine wp_alloc1 (fun w1 Ab hk=>?_)
 clear Ac Ad Ae
 replace Aa:=zB hk Aa
 obtain ⟨Ac,Ad,Ae⟩:=ce3 Aa
 replace hb:=hb.trans (hk.mono hb.size)
 clear hk
 obtain ⟨Af,Ag,Ah⟩:=ce3 Ab
 obtain ⟨Ai,Aj,Ak⟩:=cy3 Aa
 obtain ⟨Al,Am,An⟩:=cy3 Ab
 have Ao:=rrV C5 R hb
 have Ap:=rrV C9 R hb
 refine wp_region_quiet_below (by first | assumption | kernel_rfl) (by kernel_rfl) ?_
 repeat (quiet_step (first | (with_reducible exact Ao.out _ _) | (with_reducible exact Ap.out _ _)))
 refine wpQuiet_nil ?_
 intro w1 hw'
 obtain ⟨hk,hb⟩:=zQ hb hw'
 clear Ac Ad Ae Af Ag Ah
 replace Aa:=zB hk Aa
 replace Ab:=zB hk Ab
 obtain ⟨Ac,Ad,Ae⟩:=ce3 Aa
 obtain ⟨Af,Ag,Ah⟩:=ce3 Ab
 clear Ao Ap Ai Aj Ak Al Am An
 clear hk hw'
 go_upto_region 6 with ((first | (go_at_call 40;first | with_reducible refine (chVB hb R C10).mono ?_ | with_reducible refine (chVB hb R C11).mono ?_) | (go_at_call 24;with_reducible refine (chVB hb R C12).mono ?_));clear hb;rintro e w1 ⟨rfl,hk,hb⟩;clear Ac Ad Ae Af Ag Ah;replace Aa:=zB hk Aa;replace Ab:=zB hk Ab;obtain ⟨Ac,Ad,Ae⟩:=ce3 Aa;obtain ⟨Af,Ag,Ah⟩:=ce3 Ab;clear hk)
 obtain ⟨Ai,Aj,Ak⟩:=cy3 Aa
 obtain ⟨Al,Am,An⟩:=cy3 Ab
 have Aq:=rrV C13 R hb
 have Ar:=rrV C14 R hb
 refine wp_region_quiet_below (by first | assumption | kernel_rfl) (by kernel_rfl) ?_
 repeat (quiet_step (first | (with_reducible exact Aq.out _ _) | (with_reducible exact Ar.out _ _)))
 refine wpQuiet_nil ?_
 intro w1 hw'
 obtain ⟨hk,hb⟩:=zQ hb hw'
 clear Ac Ad Ae Af Ag Ah
 replace Aa:=zB hk Aa
 replace Ab:=zB hk Ab
 obtain ⟨Ac,Ad,Ae⟩:=ce3 Aa
 obtain ⟨Af,Ag,Ah⟩:=ce3 Ab
 clear Aq Ar Ai Aj Ak Al Am An
 clear hk hw'
 go_wp2
 first | go_ret | go_ret2 | go_ret3
 exact ⟨rfl,hb⟩
theorem ki_m4 : itoaB (-4)=⟨#[45,52]⟩:=by decide +kernel
theorem kr_m4 : ratB ((1:Rat)*(((-4):Int):Rat))=⟨#[45,52]⟩:=by decide +kernel
theorem kn_m4 : RN ((1:Rat)*(((-4):Int):Rat)) 6 3:=by unfold RN;decide +kernel
theorem ki_m3 : itoaB (-3)=⟨#[45,51]⟩:=by decide +kernel
theorem ki_m2 : itoaB (-2)=⟨#[45,50]⟩:=by decide +kernel
theorem kr_m2 : ratB ((1:Rat)*(((-2):Int):Rat))=⟨#[45,50]⟩:=by decide +kernel
theorem kn_m2 : RN ((1:Rat)*(((-2):Int):Rat)) 6 3:=by unfold RN;decide +kernel
theorem ki_m1 : itoaB (-1)=⟨#[45,49]⟩:=by decide +kernel
theorem kr_m1 : ratB ((1:Rat)*(((-1):Int):Rat))=⟨#[45,49]⟩:=by decide +kernel
theorem kn_m1 : RN ((1:Rat)*(((-1):Int):Rat)) 6 3:=by unfold RN;decide +kernel
theorem ki_0 : itoaB 0=⟨#[48]⟩:=by decide +kernel
theorem kr_0 : ratB ((1:Rat)*((0:Int):Rat))=⟨#[48]⟩:=by decide +kernel
theorem kn_0 : RN ((1:Rat)*((0:Int):Rat)) 6 3:=by unfold RN;decide +kernel
theorem ki_1 : itoaB 1=⟨#[49]⟩:=by decide +kernel
theorem kr_1 : ratB ((1:Rat)*((1:Int):Rat))=⟨#[49]⟩:=by decide +kernel
theorem kn_1 : RN ((1:Rat)*((1:Int):Rat)) 6 3:=by unfold RN;decide +kernel
theorem ki_2 : itoaB 2=⟨#[50]⟩:=by decide +kernel
theorem kr_2 : ratB ((1:Rat)*((2:Int):Rat))=⟨#[50]⟩:=by decide +kernel
theorem kn_2 : RN ((1:Rat)*((2:Int):Rat)) 6 3:=by unfold RN;decide +kernel
theorem ki_3 : itoaB 3=⟨#[51]⟩:=by decide +kernel
theorem kr_3 : ratB ((1:Rat)*((3:Int):Rat))=⟨#[51]⟩:=by decide +kernel
theorem kn_3 : RN ((1:Rat)*((3:Int):Rat)) 6 3:=by unfold RN;decide +kernel
theorem ki_6 : itoaB 6=⟨#[54]⟩:=by decide +kernel
theorem kr_6 : ratB ((1:Rat)*((6:Int):Rat))=⟨#[54]⟩:=by decide +kernel
theorem kn_6 : RN ((1:Rat)*((6:Int):Rat)) 6 3:=by unfold RN;decide +kernel
theorem kd_2_m4_6 : DV 1 2 (-4) 6:=⟨by decide,kn_2,kn_m4,kn_6,by decide,by decide,by decide,by decide⟩
theorem kd_1_0_1 : DV 1 1 0 1:=⟨by decide,kn_1,kn_0,kn_1,by decide,by decide,by decide,by decide⟩
theorem kd_0_1_1 : DV 1 0 1 1:=⟨by decide,kn_0,kn_1,kn_1,by decide,by decide,by decide,by decide⟩
theorem kd_1_1_m1 : DV 1 1 1 (-1):=⟨by decide,kn_1,kn_1,kn_m1,by decide,by decide,by decide,by decide⟩
theorem kd_2_0_3 : DV 1 2 0 3:=⟨by decide,kn_2,kn_0,kn_3,by decide,by decide,by decide,by decide⟩
theorem kd_m2_0_3 : DV 1 (-2) 0 3:=⟨by decide,kn_m2,kn_0,kn_3,by decide,by decide,by decide,by decide⟩
theorem known16_any (w:World) (R:EnvV w):Calls Tryz.prog 12 #[] w (Ret w (.bool true)):=by
 have v0:∀ w,EnvV w→_:=fun w R=>lvector_any 2 (-4) 6 (by decide) (by decide) (by decide) w R
 simp only [ki_2,ki_6,ki_m4] at v0
 have v1:∀ w,EnvV w→_:=fun w R=>lvector_any (-1) 2 (-3) (by decide) (by decide) (by decide) w R
 simp only [ki_2,ki_m1,ki_m3] at v1
 have v2:∀ w,EnvV w→_:=fun w R=>lvector_any 1 0 1 (by decide) (by decide) (by decide) w R
 simp only [ki_0,ki_1] at v2
 have v3:∀ w,EnvV w→_:=fun w R=>lvector_any 0 1 1 (by decide) (by decide) (by decide) w R
 simp only [ki_0,ki_1] at v3
 have v4:∀ w,EnvV w→_:=fun w R=>lvector_any 1 1 (-1) (by decide) (by decide) (by decide) w R
 simp only [ki_1,ki_m1] at v4
 have v5:∀ w,EnvV w→_:=fun w R=>lvector_any 2 0 3 (by decide) (by decide) (by decide) w R
 simp only [ki_0,ki_2,ki_3] at v5
 have v6:∀ w,EnvV w→_:=fun w R=>lvector_any (-2) 0 3 (by decide) (by decide) (by decide) w R
 simp only [ki_0,ki_3,ki_m2] at v6
 have h1:∀ w,EnvV w→_:=fun w R=>dvOf kd_2_m4_6 w R
 rw [show itoaB (Int.tdiv 2 (dnG 2 (-4) 6))=⟨#[45,49]⟩ from by decide +kernel,show itoaB (Int.tdiv (-4) (dnG 2 (-4) 6))=⟨#[50]⟩ from by decide +kernel,show itoaB (Int.tdiv 6 (dnG 2 (-4) 6))=⟨#[45,51]⟩ from by decide +kernel,kr_2,kr_m4,kr_6] at h1
 have h2:∀ w,EnvV w→_:=fun w R=>dvTrend kd_2_m4_6 (by decide) w R
 rw [show octI (Int.tdiv 2 (dnG 2 (-4) 6)) (Int.tdiv (-4) (dnG 2 (-4) 6))=7 from by decide +kernel,kr_2,kr_m4,kr_6] at h2
 have h3:∀ w,EnvV w→_:=fun w R=>dvIntersect kd_1_0_1 kd_0_1_1 (-1) (-1) 1 (by decide) (by decide) (by decide) (by decide) (by decide) (by decide) (by decide) w R
 rw [show itoaB (Int.tdiv (-1) (dnG (-1) (-1) 1))=⟨#[49]⟩ from by decide +kernel,show itoaB (Int.tdiv 1 (dnG (-1) (-1) 1))=⟨#[45,49]⟩ from by decide +kernel,kr_1,kr_0] at h3
 have h4:∀ w,EnvV w→_:=fun w R=>dvPitch kd_1_0_1 kd_1_1_m1 (by decide) (by decide) 1 1 (by decide) (by decide) w R
 rw [show ratB (Rat.divInt (1*1) (1*SS 1 1 (-1)))=⟨#[49,47,51]⟩ from by decide +kernel,kr_1,kr_0,kr_m1] at h4
 have h5:∀ w,EnvV w→_:=fun w R=>dvInter kd_2_0_3 kd_m2_0_3 5 169 2 (by decide) (by decide) (by decide) (by decide) (by decide) w R
 rw [kr_2,kr_0,kr_3,kr_m2] at h5
 exact lknown_w v0 v1 v2 v3 v4 v5 v6 h1 h2 h3 h4 h5 w R
end Go.Proofs.YtpiiclmkbplkhaaGreatDoor.Kl
