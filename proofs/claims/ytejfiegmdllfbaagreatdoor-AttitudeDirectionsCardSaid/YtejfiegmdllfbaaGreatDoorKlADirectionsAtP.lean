import Derived.Test.YtejfiegmdllfbaaGreatDoorKlADirectionsAtC
import Derived.Test.YtejfiegmdllfbaaGreatDoorKlBAtFZ
namespace Go.Proofs.YtejfiegmdllfbaaGreatDoor.Kl
open Go Go.RowKit
set_option maxRecDepth 100000
set_option maxHeartbeats 8000000
def gk (qs:Nat→Rat):Nat→Nat
 | 0=>0
 | k+1=>Nat.gcd (gk qs k) (qs k).num.natAbs
theorem lprim_w (blk:Nat) (qs:Nat→Rat) (hd:∀ j,j < 3→(qs j).den=1) (hr:∀ j,j < 3→RL (qs j) 10000) (hg:gk qs 3=1) (w:World) (R:EnvV w) (hc:∀ j,j < 3→w.cell? ⟨blk,j,none⟩=some (.string (ratB (qs j)))) :
   Calls Tryz.prog 25 #[.slice (some ⟨blk,0,none⟩) 3 3] w (Ret w (.bool true)):=by
 have HD:=Lib.hid hd
 have HR:=Lib.hid hr
 have HG:=Lib.hid hg
 have HC:=Lib.hid hc
 clear hd hr hg hc
 go_enter Tryz.func25,Tryz.ntmps25
 go_wp2
 go_loopw [4,3] (fun i g wr=>∃ (k:Nat) (z:Int),k≤3∧i = .int .i64 k∧g = .int .i64 z∧z.natAbs=gk qs k∧z.natAbs < 1000000000000000000∧Below w.heap.size w wr) (fun i _ _=>3 - (intOf i).toNat)
 case atStart=>exact ⟨0,0,by omega,rfl,rfl,rfl,by decide,Below.refl _ _⟩
 case round =>
   obtain ⟨k,z,hk,rfl,rfl,hz,hzl,hb⟩:=hrel
   have HZ:=Lib.hid hz
   clear hz
   by_cases hlt:k < 3
   · have x0:=zC hb (HC.out k hlt)
     have cP:=fun (w:World) (R:EnvV w)=>rparts_any (qs k) w R.toEnvR ((HR.out k hlt).mono (by decide))
     have e1:itoaB ((qs k).den:Int)=⟨#[49]⟩:=by rw [HD.out k hlt];decide +kernel
     have e2:itoaB (qs k).num=ratB (qs k):=(ratB_int (HD.out k hlt)).symm
     simp only [e1,e2] at cP
     by_cases hs:shortQ (qs k)
     · have cS:=fun (w:World) (R:EnvV w)=>rsmall_yes (qs k) hs w R.toEnvR
       have hn:(qs k).num.natAbs < 1000000000000000000:=by have h1:=hs.1;have h2:=hs.2.1;omega
       obtain ⟨s,es⟩:∃ s,ratB (qs k)=s:=⟨_,rfl⟩
       obtain ⟨n,en⟩:∃ n,(qs k).num=n:=⟨_,rfl⟩
       obtain ⟨d,ed⟩:∃ d:Int,((qs k).den:Int)=d:=⟨_,rfl⟩
       have hgs:gk qs (k+1)=Nat.gcd z.natAbs n.natAbs:=by rw [← en,HZ.out];rfl
       have HGS:=Lib.hid hgs
       simp only [es] at cP cS x0
       simp only [en,ed] at cS
       rw [en] at hn
       have CP:=Lib.hid cP
       have CS:=Lib.hid cS
       clear cP cS es en ed e1 e2 hs hgs
       go_wp2_with ((first | (go_at_call 48;with_reducible refine (chVB hb R CP).mono ?_) | (go_at_call 63;with_reducible refine (chVB hb R CS).mono ?_));clear hb;rintro e w1 ⟨rfl,hk1,hb⟩;clear hk1)
       have HB:=Lib.hid hb
       clear hb x0
       go_loopw [7,3] (fun a g wr=>∃ x y:Int,a = .int .i64 x∧g = .int .i64 y∧x.natAbs < 1000000000000000000∧y.natAbs < 1000000000000000000∧Nat.gcd y.natAbs x.natAbs=gk qs (k+1)∧Below w.heap.size w wr) (fun a _ _=>(intOf a).natAbs)
       case atStart=>exact ⟨n,z,rfl,rfl,hn,hzl,HGS.out.symm,HB.out⟩
       case round =>
         obtain ⟨x,y,rfl,rfl,hx,hy,hxy,hb⟩:=hrel
         have HXY:=Lib.hid hxy
         clear hxy
         by_cases h0:x=0
         · subst h0
           go_wp2
           go_roundw
           case rel=>exact ⟨k+1,y,by omega,by go_num,rfl,by rw [← HXY.out];simp,hy,hb⟩
           case measure=>simp [intOf];omega
         · have hne:(x == 0)=false:=by simpa using h0
           have hm:(y.tmod x).natAbs=y.natAbs % x.natAbs:=Int.natAbs_tmod y x
           have hml:=Nat.mod_lt y.natAbs (show 0 < x.natAbs by omega)
           have hw1:IntKind.i64.wrap (y.tmod x)=y.tmod x:=IntWalk.i64_in _ (by omega)
           go_wp2
           go_quiet (fail)
           go_wp2
           go_roundw
           case rel=>exact ⟨y.tmod x,x,rfl,rfl,by omega,hx,by rw [← HXY.out,hm,Nat.gcd_comm x.natAbs,← Nat.gcd_rec,Nat.gcd_comm],Below.drews hb _⟩
           case measure=>simp [intOf];omega
     · have cS:=fun (w:World) (R:EnvV w)=>rsmall_no (qs k) hs w R.toEnvR ((HR.out k hlt).mono (by decide))
       obtain ⟨s,es⟩:∃ s,ratB (qs k)=s:=⟨_,rfl⟩
       simp only [es] at cP cS x0
       have CP:=Lib.hid cP
       have CS:=Lib.hid cS
       clear cP cS es e1 e2 hs
       go_wp2_with ((first | (go_at_call 48;with_reducible refine (chVB hb R CP).mono ?_) | (go_at_call 63;with_reducible refine (chVB hb R CS).mono ?_));clear hb;rintro e w1 ⟨rfl,hk1,hb⟩;clear hk1)
       go_ret
       exact ⟨rfl,hb⟩
   · have ek:k=3:=by omega
     subst ek
     have h1:z.natAbs=1:=HZ.out.trans HG.out
     have h2:z=1∨z = -1:=by omega
     rcases h2 with rfl | rfl
     all_goals
       go_wp2
       go_ret
       exact ⟨rfl,hb⟩
set_option maxRecDepth 512 in
theorem lprim3 (p q:Rat) (hp:p.den=1) (hq:q.den=1) (rp:RL p 10000) (rq:RL q 10000) (hg:Nat.gcd p.num.natAbs q.num.natAbs=1) (w:World) (R:EnvV w) :
   Calls Tryz.prog 25 #[.slice (some ⟨w.heap.size,0,none⟩) 3 3] (w.alloc (Obj.cells #[Value.string (ratB p),Value.string (ratB q),Value.string ⟨#[48]⟩] 22)) (Ret w (.bool true)):=by
 have hba:Below w.heap.size w (w.alloc (Obj.cells #[Value.string (ratB p),Value.string (ratB q),Value.string ⟨#[48]⟩] 22)):=(Below.refl _ _).alloc (Nat.le_refl _) _
 refine (lprim_w w.heap.size (fun j=>if j=0 then p else if j=1 then q else 0) ?_ ?_ ?_ _ (R.below hba) ?_).mono fun e w' h=>⟨h.1,hba.trans (h.2.mono hba.size)⟩
 · intro j hj
   match j,hj with
   | 0,_=>exact hp
   | 1,_=>exact hq
   | 2,_=>rfl
 · intro j hj
   match j,hj with
   | 0,_=>exact rp
   | 1,_=>exact rq
   | 2,_=>exact rn_0.rl
 · show Nat.gcd (Nat.gcd (Nat.gcd 0 p.num.natAbs) q.num.natAbs) 0=1
   rw [Nat.gcd_zero_left,Nat.gcd_zero_right];exact hg
 · intro j hj
   match j,hj with
   | 0,_=>simp [go_sem]
   | 1,_=>simp [go_sem]
   | 2,_=>simp [go_sem,rb_0]
theorem dir_den (x y:Rat) (h:x≠0∨y≠0):(x*primF x y (0:Rat)).den=1∧(y*primF x y (0:Rat)).den=1:=by
 have hD:=primD_pos x y 0 (h.elim Or.inl (fun k=>Or.inr (Or.inl k)))
 obtain ⟨d1,d2,_⟩:=primD_dvd x y 0
 obtain ⟨m1,m2,_⟩:=primM_dvd x y 0
 unfold primF
 rw [prim_int x _ _ hD d1 m1,prim_int y _ _ hD d2 m2]
 exact ⟨rfl,rfl⟩
theorem den_part (p:Rat) (g:Nat) (hp:p.den=1) (hg:0 < g) (hd:g ∣ p.num.natAbs):(p*Rat.divInt 1 (g:Int)).den=1:=by
 obtain ⟨m,hm⟩:=Int.ofNat_dvd_left.2 hd
 have e:p=Rat.divInt p.num 1:=by have:=Rat.num_divInt_den p;rw [hp] at this;exact this.symm
 rw [e,hm,Rat.divInt_mul_divInt]
 have h2:Rat.divInt ((g:Int)*m*1) (1*(g:Int))=Rat.divInt m 1:=by
   rw [Int.mul_one,Int.one_mul,Int.mul_comm (g:Int) m]
   have:=Rat.divInt_mul_right (n:=m) (d:=1) (a:=(g:Int)) (by omega)
   rwa [Int.one_mul] at this
 rw [h2]
 have h3:=(mk_parts m 1 (by decide)).2
 rw [show (1:Int).natAbs=1 from rfl,Nat.gcd_one_right] at h3
 have h4:((Rat.divInt m 1).den:Int)=1:=h3.trans (by decide)
 omega
theorem dir_gcd (x y:Rat) (h:x≠0∨y≠0):Nat.gcd (x*primF x y (0:Rat)).num.natAbs (y*primF x y (0:Rat)).num.natAbs=1:=by
 have h3:x≠0∨y≠0∨(0:Rat)≠0:=h.elim Or.inl (fun k=>Or.inr (Or.inl k))
 obtain ⟨d1,d2⟩:=dir_den x y h
 have hF:=prim_pos x y 0 h3
 have hF0:primF x y (0:Rat)≠0:=fun k=>by rw [k] at hF;exact absurd hF (by decide)
 obtain ⟨g,hg⟩:∃ g,Nat.gcd (x*primF x y (0:Rat)).num.natAbs (y*primF x y (0:Rat)).num.natAbs=g:=⟨_,rfl⟩
 have g1:g ∣ (x*primF x y (0:Rat)).num.natAbs:=hg ▸ Nat.gcd_dvd_left ..
 have g2:g ∣ (y*primF x y (0:Rat)).num.natAbs:=hg ▸ Nat.gcd_dvd_right ..
 rw [hg]
 by_cases h0:g=0
 · subst h0
   have z1:x*primF x y (0:Rat)=0:=Rat.num_eq_zero.1 (Int.natAbs_eq_zero.1 (Nat.eq_zero_of_zero_dvd g1))
   have z2:y*primF x y (0:Rat)=0:=Rat.num_eq_zero.1 (Int.natAbs_eq_zero.1 (Nat.eq_zero_of_zero_dvd g2))
   rcases h with h | h
   · exact ((Rat.mul_eq_zero.1 z1).elim h hF0).elim
   · exact ((Rat.mul_eq_zero.1 z2).elim h hF0).elim
 · by_cases h1:g=1
   · exact h1
   · exact (prim_no x y 0 h3 g (by omega) (den_part _ g d1 (by omega) g1) (den_part _ g d2 (by omega) g2) (by rw [Rat.zero_mul,Rat.zero_mul];rfl)).elim
theorem dir_cross (x y:Rat):x*(y*primF x y (0:Rat)) - y*(x*primF x y (0:Rat))=0:=by grind
theorem dir_dot (x y:Rat) (h:x≠0∨y≠0):0 < (x*(x*primF x y (0:Rat))+y*(y*primF x y (0:Rat))).num.sign:=by
 have h3:x≠0∨y≠0∨(0:Rat)≠0:=h.elim Or.inl (fun k=>Or.inr (Or.inl k))
 have hF:=prim_pos x y 0 h3
 have e:x*(x*primF x y (0:Rat))+y*(y*primF x y (0:Rat))=primF x y (0:Rat)*(x*x+y*y):=by grind
 have sq:∀ q:Rat,0≤q*q:=fun q=>by
   rcases (Rat.le_total:(0:Rat)≤q∨q≤0) with h | h
   · exact Rat.mul_nonneg h h
   · have:0 ≤ -q:=by grind
     have:=Rat.mul_nonneg this this
     grind
 have sp:∀ q:Rat,q≠0→0 < q*q:=fun q hq=>by
   have h0:=sq q
   have hne:q*q≠0:=fun h=>(Rat.mul_eq_zero.1 h).elim hq hq
   grind
 have hs:0 < x*x+y*y:=by
   have ha:=sq x
   have hb:=sq y
   rcases h with h | h
   · have:=sp x h;grind
   · have:=sp y h;grind
 have hp:0 < primF x y (0:Rat)*(x*x+y*y):=Rat.mul_pos hF hs
 rw [e,sign_rat,if_neg (by grind),if_neg (by grind)];decide
end Go.Proofs.YtejfiegmdllfbaaGreatDoor.Kl
