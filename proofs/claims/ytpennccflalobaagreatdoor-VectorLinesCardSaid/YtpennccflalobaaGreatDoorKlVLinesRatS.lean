import Derived.Test.YtpennccflalobaaGreatDoorKlVLinesRatZ
namespace Go.Proofs.YtpennccflalobaaGreatDoor.Kl
open Go Go.RowKit
set_option maxRecDepth 100000
set_option maxHeartbeats 8000000
theorem mul_bound (a b:Int) (h0 : -1000000000 < a) (h1:a < 1000000000) (h2 : -1000000000 < b) (h3:b < 1000000000) : -1000000000000000000 < a*b∧a*b < 1000000000000000000:=by
 have h:a.natAbs*b.natAbs < 1000000000*1000000000:=Nat.mul_lt_mul'' (by omega) (by omega)
 rw [← Int.natAbs_mul] at h
 omega
theorem refAdd_ss (p q:Rat) (hp:(ratB p).size≤9) (hq:(ratB q).size≤9) (w:World) (R:EnvR w) :
   Calls Tryz.prog 85 #[.string (ratB p),.string (ratB q)] w (Ret w (.string (ratB (Rat.divInt (p.num*(q.den:Int)+q.num*(p.den:Int)) ((p.den:Int)*(q.den:Int)))))):=by
 obtain ⟨bp1,bp2⟩:=short_parts p hp
 obtain ⟨bq1,bq2⟩:=short_parts q hq
 have k1:=mul_bound p.num (q.den:Int) (by omega) (by omega) (by omega) (by omega)
 have k2:=mul_bound q.num (p.den:Int) (by omega) (by omega) (by omega) (by omega)
 have k3:=mul_bound (p.den:Int) (q.den:Int) (by omega) (by omega) (by omega) (by omega)
 have k4:0 < ((p.den:Int)*(q.den:Int)):=Int.mul_pos (by omega) (by omega)
 have c1:=refBrief_short p hp
 have c2:=refBrief_short q hq
 have c3:CR 109 #[.int .i64 (p.num*(q.den:Int)+q.num*(p.den:Int)),.int .i64 ((p.den:Int)*(q.den:Int))] (.string (ratB (Rat.divInt (p.num*(q.den:Int)+q.num*(p.den:Int)) ((p.den:Int)*(q.den:Int))))):=fun w R=>refLowest_any _ _ (by omega) (by omega) (by omega) (by omega) w R
 have w1:IntKind.i64.wrap (p.num*(q.den:Int))=p.num*(q.den:Int):=IntWalk.i64_in _ (by have:=k1;omega)
 have w2:IntKind.i64.wrap (q.num*(p.den:Int))=q.num*(p.den:Int):=IntWalk.i64_in _ (by have:=k2;omega)
 have w3:IntKind.i64.wrap (p.num*(q.den:Int)+q.num*(p.den:Int))=p.num*(q.den:Int)+q.num*(p.den:Int):=IntWalk.i64_in _ (by have:=k1;have:=k2;omega)
 have w4:IntKind.i64.wrap ((p.den:Int)*(q.den:Int))=((p.den:Int)*(q.den:Int)):=IntWalk.i64_in _ (by have:=k3;omega)
 obtain ⟨r,er⟩:∃ v,ratB (Rat.divInt (p.num*(q.den:Int)+q.num*(p.den:Int)) ((p.den:Int)*(q.den:Int)))=v:=⟨_,rfl⟩
 try simp only [er] at c1 c2 c3 w1 w2 w3 w4 ⊢
 obtain ⟨n,en⟩:∃ v,p.num=v:=⟨_,rfl⟩
 try simp only [en] at c1 c2 c3 w1 w2 w3 w4 ⊢
 obtain ⟨d,ed⟩:∃ v,(p.den:Int)=v:=⟨_,rfl⟩
 try simp only [ed] at c1 c2 c3 w1 w2 w3 w4 ⊢
 obtain ⟨m,em⟩:∃ v,q.num=v:=⟨_,rfl⟩
 try simp only [em] at c1 c2 c3 w1 w2 w3 w4 ⊢
 obtain ⟨e,ee⟩:∃ v,(q.den:Int)=v:=⟨_,rfl⟩
 try simp only [ee] at c1 c2 c3 w1 w2 w3 w4 ⊢
 obtain ⟨a,ea⟩:∃ v,ratB p=v:=⟨_,rfl⟩
 try simp only [ea] at c1 c2 c3 w1 w2 w3 w4 ⊢
 obtain ⟨b,eb⟩:∃ v,ratB q=v:=⟨_,rfl⟩
 try simp only [eb] at c1 c2 c3 w1 w2 w3 w4 ⊢
 have C1:=Lib.hid c1
 have C2:=Lib.hid c2
 have C3:=Lib.hid c3
 clear c1 c2 c3 er en ed em ee ea eb bp1 bp2 bq1 bq2 hp hq k1 k2 k3 k4
 have hb:=Below.refl w.heap.size w
 go_enter Tryz.func85,Tryz.ntmps85
 go_wp2_with ((first | (go_at_call 108;first | with_reducible refine (chRA hb R C1).mono ?_ | with_reducible refine (chRA hb R C2).mono ?_) | (go_at_call 109;with_reducible refine (chRA hb R C3).mono ?_));clear hb;rintro e w1 ⟨rfl,hb⟩)
 go_ret
 exact ⟨rfl,hb⟩
theorem refAdd_l (p q:Rat) (hlp:RL p 400) (hlq:RL q 400) (hp:9 < (ratB p).size) (w:World) (R:EnvR w) :
   Calls Tryz.prog 85 #[.string (ratB p),.string (ratB q)] w (Ret w (.string (ratB (Rat.divInt (p.num*(q.den:Int)+q.num*(p.den:Int)) ((p.den:Int)*(q.den:Int)))))):=by
 have g1:dlen (p.num*(q.den:Int))≤800:=dlen_mul _ _ 400 400 (by decide) hlp.1 hlq.2
 have g2:dlen (q.num*(p.den:Int))≤800:=dlen_mul _ _ 400 400 (by decide) hlq.1 hlp.2
 have g4:dlen (p.num*(q.den:Int)+q.num*(p.den:Int))≤801:=dlen_add _ _ 800 (by decide) g1 g2
 have g3:dlen ((p.den:Int)*(q.den:Int))≤800:=dlen_mul _ _ 400 400 (by decide) hlp.2 hlq.2
 have k4:0 < ((p.den:Int)*(q.den:Int)):=Int.mul_pos (by have:=p.den_pos;omega) (by have:=q.den_pos;omega)
 have c1:CR 108 #[.string (ratB p)] (.tuple #[.int .i64 0,.int .i64 0,.bool false]):=fun w R=>refBrief_long _ hp w R
 have c2:=fun (w:World) (R:EnvR w)=>refParts_any p w R (hlp.mono (by decide))
 have c3:=fun (w:World) (R:EnvR w)=>refParts_any q w R (hlq.mono (by decide))
 have c4:CR 110 #[.string (itoaB p.num),.string (itoaB (q.den:Int))] (.string (itoaB (p.num*(q.den:Int)))):=fun w R=>refMul_any _ _ w R.env (Nat.le_trans hlp.1 (by decide)) (Nat.le_trans hlq.2 (by decide))
 have c5:CR 110 #[.string (itoaB q.num),.string (itoaB (p.den:Int))] (.string (itoaB (q.num*(p.den:Int)))):=fun w R=>refMul_any _ _ w R.env (Nat.le_trans hlq.1 (by decide)) (Nat.le_trans hlp.2 (by decide))
 have c6:CR 140 #[.string (itoaB (p.num*(q.den:Int))),.string (itoaB (q.num*(p.den:Int)))] (.string (itoaB (p.num*(q.den:Int)+q.num*(p.den:Int)))):=fun w R=>refAdd_any _ _ w R.env (Nat.le_trans g1 (by decide)) (Nat.le_trans g2 (by decide))
 have c7:CR 110 #[.string (itoaB (p.den:Int)),.string (itoaB (q.den:Int))] (.string (itoaB ((p.den:Int)*(q.den:Int)))):=fun w R=>refMul_any _ _ w R.env (Nat.le_trans hlp.2 (by decide)) (Nat.le_trans hlq.2 (by decide))
 have c8:CR 93 #[.string (itoaB (p.num*(q.den:Int)+q.num*(p.den:Int))),.string (itoaB ((p.den:Int)*(q.den:Int)))] (.string (ratB (Rat.divInt (p.num*(q.den:Int)+q.num*(p.den:Int)) ((p.den:Int)*(q.den:Int))))):=fun w R=>refFrac_any _ _ w R (Nat.le_trans g4 (by decide)) (Nat.le_trans g3 (by decide)) (by omega)
 obtain ⟨r,er⟩:∃ v,ratB (Rat.divInt (p.num*(q.den:Int)+q.num*(p.den:Int)) ((p.den:Int)*(q.den:Int)))=v:=⟨_,rfl⟩
 try simp only [er] at c1 c2 c3 c4 c5 c6 c7 c8 ⊢
 obtain ⟨x,ex⟩:∃ v,itoaB (p.num*(q.den:Int)+q.num*(p.den:Int))=v:=⟨_,rfl⟩
 try simp only [ex] at c1 c2 c3 c4 c5 c6 c7 c8 ⊢
 obtain ⟨y,ey⟩:∃ v,itoaB ((p.den:Int)*(q.den:Int))=v:=⟨_,rfl⟩
 try simp only [ey] at c1 c2 c3 c4 c5 c6 c7 c8 ⊢
 obtain ⟨u,eu⟩:∃ v,itoaB (p.num*(q.den:Int))=v:=⟨_,rfl⟩
 try simp only [eu] at c1 c2 c3 c4 c5 c6 c7 c8 ⊢
 obtain ⟨v,ev⟩:∃ v,itoaB (q.num*(p.den:Int))=v:=⟨_,rfl⟩
 try simp only [ev] at c1 c2 c3 c4 c5 c6 c7 c8 ⊢
 obtain ⟨n,en⟩:∃ v,itoaB p.num=v:=⟨_,rfl⟩
 try simp only [en] at c1 c2 c3 c4 c5 c6 c7 c8 ⊢
 obtain ⟨d,ed⟩:∃ v,itoaB (p.den:Int)=v:=⟨_,rfl⟩
 try simp only [ed] at c1 c2 c3 c4 c5 c6 c7 c8 ⊢
 obtain ⟨m,em⟩:∃ v,itoaB q.num=v:=⟨_,rfl⟩
 try simp only [em] at c1 c2 c3 c4 c5 c6 c7 c8 ⊢
 obtain ⟨e,ee⟩:∃ v,itoaB (q.den:Int)=v:=⟨_,rfl⟩
 try simp only [ee] at c1 c2 c3 c4 c5 c6 c7 c8 ⊢
 obtain ⟨a,ea⟩:∃ v,ratB p=v:=⟨_,rfl⟩
 try simp only [ea] at c1 c2 c3 c4 c5 c6 c7 c8 ⊢
 obtain ⟨b,eb⟩:∃ v,ratB q=v:=⟨_,rfl⟩
 try simp only [eb] at c1 c2 c3 c4 c5 c6 c7 c8 ⊢
 have C1:=Lib.hid c1
 have C2:=Lib.hid c2
 have C3:=Lib.hid c3
 have C4:=Lib.hid c4
 have C5:=Lib.hid c5
 have C6:=Lib.hid c6
 have C7:=Lib.hid c7
 have C8:=Lib.hid c8
 clear c1 c2 c3 c4 c5 c6 c7 c8 er ex ey eu ev en ed em ee ea eb g3 g4 k4 hlp hlq g1 g2 hp
 have hb:=Below.refl w.heap.size w
 go_enter Tryz.func85,Tryz.ntmps85
 go_wp2_with ((first | (go_at_call 108;with_reducible refine (chRA hb R C1).mono ?_) | (go_at_call 79;first | with_reducible refine (chRA hb R C2).mono ?_ | with_reducible refine (chRA hb R C3).mono ?_) | (go_at_call 110;first | with_reducible refine (chRA hb R C4).mono ?_ | with_reducible refine (chRA hb R C5).mono ?_ | with_reducible refine (chRA hb R C7).mono ?_) | (go_at_call 140;with_reducible refine (chRA hb R C6).mono ?_) | (go_at_call 93;with_reducible refine (chRA hb R C8).mono ?_));clear hb;rintro e w1 ⟨rfl,hb⟩)
 go_ret
 exact ⟨rfl,hb⟩
theorem refAdd_sl (p q:Rat) (hlp:RL p 400) (hlq:RL q 400) (hp:(ratB p).size≤9) (hq:9 < (ratB q).size) (w:World) (R:EnvR w) :
   Calls Tryz.prog 85 #[.string (ratB p),.string (ratB q)] w (Ret w (.string (ratB (Rat.divInt (p.num*(q.den:Int)+q.num*(p.den:Int)) ((p.den:Int)*(q.den:Int)))))):=by
 have g1:dlen (p.num*(q.den:Int))≤800:=dlen_mul _ _ 400 400 (by decide) hlp.1 hlq.2
 have g2:dlen (q.num*(p.den:Int))≤800:=dlen_mul _ _ 400 400 (by decide) hlq.1 hlp.2
 have g4:dlen (p.num*(q.den:Int)+q.num*(p.den:Int))≤801:=dlen_add _ _ 800 (by decide) g1 g2
 have g3:dlen ((p.den:Int)*(q.den:Int))≤800:=dlen_mul _ _ 400 400 (by decide) hlp.2 hlq.2
 have k4:0 < ((p.den:Int)*(q.den:Int)):=Int.mul_pos (by have:=p.den_pos;omega) (by have:=q.den_pos;omega)
 have c1:=refBrief_short p hp
 have c2:CR 108 #[.string (ratB q)] (.tuple #[.int .i64 0,.int .i64 0,.bool false]):=fun w R=>refBrief_long _ hq w R
 have c3:=fun (w:World) (R:EnvR w)=>refParts_any p w R (hlp.mono (by decide))
 have c4:=fun (w:World) (R:EnvR w)=>refParts_any q w R (hlq.mono (by decide))
 have c5:CR 110 #[.string (itoaB p.num),.string (itoaB (q.den:Int))] (.string (itoaB (p.num*(q.den:Int)))):=fun w R=>refMul_any _ _ w R.env (Nat.le_trans hlp.1 (by decide)) (Nat.le_trans hlq.2 (by decide))
 have c6:CR 110 #[.string (itoaB q.num),.string (itoaB (p.den:Int))] (.string (itoaB (q.num*(p.den:Int)))):=fun w R=>refMul_any _ _ w R.env (Nat.le_trans hlq.1 (by decide)) (Nat.le_trans hlp.2 (by decide))
 have c7:CR 140 #[.string (itoaB (p.num*(q.den:Int))),.string (itoaB (q.num*(p.den:Int)))] (.string (itoaB (p.num*(q.den:Int)+q.num*(p.den:Int)))):=fun w R=>refAdd_any _ _ w R.env (Nat.le_trans g1 (by decide)) (Nat.le_trans g2 (by decide))
 have c8:CR 110 #[.string (itoaB (p.den:Int)),.string (itoaB (q.den:Int))] (.string (itoaB ((p.den:Int)*(q.den:Int)))):=fun w R=>refMul_any _ _ w R.env (Nat.le_trans hlp.2 (by decide)) (Nat.le_trans hlq.2 (by decide))
 have c9:CR 93 #[.string (itoaB (p.num*(q.den:Int)+q.num*(p.den:Int))),.string (itoaB ((p.den:Int)*(q.den:Int)))] (.string (ratB (Rat.divInt (p.num*(q.den:Int)+q.num*(p.den:Int)) ((p.den:Int)*(q.den:Int))))):=fun w R=>refFrac_any _ _ w R (Nat.le_trans g4 (by decide)) (Nat.le_trans g3 (by decide)) (by omega)
 obtain ⟨r,er⟩:∃ v,ratB (Rat.divInt (p.num*(q.den:Int)+q.num*(p.den:Int)) ((p.den:Int)*(q.den:Int)))=v:=⟨_,rfl⟩
 try simp only [er] at c1 c2 c3 c4 c5 c6 c7 c8 c9 ⊢
 obtain ⟨x,ex⟩:∃ v,itoaB (p.num*(q.den:Int)+q.num*(p.den:Int))=v:=⟨_,rfl⟩
 try simp only [ex] at c1 c2 c3 c4 c5 c6 c7 c8 c9 ⊢
 obtain ⟨y,ey⟩:∃ v,itoaB ((p.den:Int)*(q.den:Int))=v:=⟨_,rfl⟩
 try simp only [ey] at c1 c2 c3 c4 c5 c6 c7 c8 c9 ⊢
 obtain ⟨u,eu⟩:∃ v,itoaB (p.num*(q.den:Int))=v:=⟨_,rfl⟩
 try simp only [eu] at c1 c2 c3 c4 c5 c6 c7 c8 c9 ⊢
 obtain ⟨v,ev⟩:∃ v,itoaB (q.num*(p.den:Int))=v:=⟨_,rfl⟩
 try simp only [ev] at c1 c2 c3 c4 c5 c6 c7 c8 c9 ⊢
 obtain ⟨n,en⟩:∃ v,itoaB p.num=v:=⟨_,rfl⟩
 try simp only [en] at c1 c2 c3 c4 c5 c6 c7 c8 c9 ⊢
 obtain ⟨d,ed⟩:∃ v,itoaB (p.den:Int)=v:=⟨_,rfl⟩
 try simp only [ed] at c1 c2 c3 c4 c5 c6 c7 c8 c9 ⊢
 obtain ⟨m,em⟩:∃ v,itoaB q.num=v:=⟨_,rfl⟩
 try simp only [em] at c1 c2 c3 c4 c5 c6 c7 c8 c9 ⊢
 obtain ⟨e,ee⟩:∃ v,itoaB (q.den:Int)=v:=⟨_,rfl⟩
 try simp only [ee] at c1 c2 c3 c4 c5 c6 c7 c8 c9 ⊢
 obtain ⟨a,ea⟩:∃ v,ratB p=v:=⟨_,rfl⟩
 try simp only [ea] at c1 c2 c3 c4 c5 c6 c7 c8 c9 ⊢
 obtain ⟨b,eb⟩:∃ v,ratB q=v:=⟨_,rfl⟩
 try simp only [eb] at c1 c2 c3 c4 c5 c6 c7 c8 c9 ⊢
 obtain ⟨n',en'⟩:∃ v,p.num=v:=⟨_,rfl⟩
 try simp only [en'] at c1 c2 c3 c4 c5 c6 c7 c8 c9 ⊢
 obtain ⟨d',ed'⟩:∃ v,(p.den:Int)=v:=⟨_,rfl⟩
 try simp only [ed'] at c1 c2 c3 c4 c5 c6 c7 c8 c9 ⊢
 have C1:=Lib.hid c1
 have C2:=Lib.hid c2
 have C3:=Lib.hid c3
 have C4:=Lib.hid c4
 have C5:=Lib.hid c5
 have C6:=Lib.hid c6
 have C7:=Lib.hid c7
 have C8:=Lib.hid c8
 have C9:=Lib.hid c9
 clear c1 c2 c3 c4 c5 c6 c7 c8 c9 er ex ey eu ev en ed em ee ea eb en' ed' g3 g4 k4 hlp hlq g1 g2 hp hq
 have hb:=Below.refl w.heap.size w
 go_enter Tryz.func85,Tryz.ntmps85
 go_wp2_with ((first | (go_at_call 108;first | with_reducible refine (chRA hb R C1).mono ?_ | with_reducible refine (chRA hb R C2).mono ?_) | (go_at_call 79;first | with_reducible refine (chRA hb R C3).mono ?_ | with_reducible refine (chRA hb R C4).mono ?_) | (go_at_call 110;first | with_reducible refine (chRA hb R C5).mono ?_ | with_reducible refine (chRA hb R C6).mono ?_ | with_reducible refine (chRA hb R C8).mono ?_) | (go_at_call 140;with_reducible refine (chRA hb R C7).mono ?_) | (go_at_call 93;with_reducible refine (chRA hb R C9).mono ?_));clear hb;rintro e w1 ⟨rfl,hb⟩)
 go_ret
 exact ⟨rfl,hb⟩
theorem refRAdd_any (p q:Rat) (w:World) (R:EnvR w) (hlp:RL p 400) (hlq:RL q 400) :
   Calls Tryz.prog 85 #[.string (ratB p),.string (ratB q)] w (Ret w (.string (ratB (p+q)))):=by
 rw [← add_mk p q,Int.natCast_mul]
 by_cases hp:(ratB p).size≤9
 · by_cases hq:(ratB q).size≤9
   · exact refAdd_ss p q hp hq w R
   · exact refAdd_sl p q hlp hlq hp (by omega) w R
 · exact refAdd_l p q hlp hlq (by omega) w R
theorem refMul_ss (p q:Rat) (hp:(ratB p).size≤9) (hq:(ratB q).size≤9) (w:World) (R:EnvR w) :
   Calls Tryz.prog 58 #[.string (ratB p),.string (ratB q)] w (Ret w (.string (ratB (Rat.divInt (p.num*q.num) ((p.den:Int)*(q.den:Int)))))):=by
 obtain ⟨bp1,bp2⟩:=short_parts p hp
 obtain ⟨bq1,bq2⟩:=short_parts q hq
 have k1:=mul_bound p.num q.num (by omega) (by omega) (by omega) (by omega)
 have k3:=mul_bound (p.den:Int) (q.den:Int) (by omega) (by omega) (by omega) (by omega)
 have k4:0 < ((p.den:Int)*(q.den:Int)):=Int.mul_pos (by omega) (by omega)
 have c1:=refBrief_short p hp
 have c2:=refBrief_short q hq
 have c3:CR 109 #[.int .i64 (p.num*q.num),.int .i64 ((p.den:Int)*(q.den:Int))] (.string (ratB (Rat.divInt (p.num*q.num) ((p.den:Int)*(q.den:Int))))):=fun w R=>refLowest_any _ _ (by omega) (by omega) (by omega) (by omega) w R
 have w1:IntKind.i64.wrap (p.num*q.num)=p.num*q.num:=IntWalk.i64_in _ (by have:=k1;omega)
 have w4:IntKind.i64.wrap ((p.den:Int)*(q.den:Int))=((p.den:Int)*(q.den:Int)):=IntWalk.i64_in _ (by have:=k3;omega)
 obtain ⟨r,er⟩:∃ v,ratB (Rat.divInt (p.num*q.num) ((p.den:Int)*(q.den:Int)))=v:=⟨_,rfl⟩
 try simp only [er] at c1 c2 c3 w1 w4 ⊢
 obtain ⟨n,en⟩:∃ v,p.num=v:=⟨_,rfl⟩
 try simp only [en] at c1 c2 c3 w1 w4 ⊢
 obtain ⟨d,ed⟩:∃ v,(p.den:Int)=v:=⟨_,rfl⟩
 try simp only [ed] at c1 c2 c3 w1 w4 ⊢
 obtain ⟨m,em⟩:∃ v,q.num=v:=⟨_,rfl⟩
 try simp only [em] at c1 c2 c3 w1 w4 ⊢
 obtain ⟨e,ee⟩:∃ v,(q.den:Int)=v:=⟨_,rfl⟩
 try simp only [ee] at c1 c2 c3 w1 w4 ⊢
 obtain ⟨a,ea⟩:∃ v,ratB p=v:=⟨_,rfl⟩
 try simp only [ea] at c1 c2 c3 w1 w4 ⊢
 obtain ⟨b,eb⟩:∃ v,ratB q=v:=⟨_,rfl⟩
 try simp only [eb] at c1 c2 c3 w1 w4 ⊢
 have C1:=Lib.hid c1
 have C2:=Lib.hid c2
 have C3:=Lib.hid c3
 clear c1 c2 c3 er en ed em ee ea eb bp1 bp2 bq1 bq2 hp hq k1 k3 k4
 have hb:=Below.refl w.heap.size w
 go_enter Tryz.func58,Tryz.ntmps58
 go_wp2_with ((first | (go_at_call 108;first | with_reducible refine (chRA hb R C1).mono ?_ | with_reducible refine (chRA hb R C2).mono ?_) | (go_at_call 109;with_reducible refine (chRA hb R C3).mono ?_));clear hb;rintro e w1 ⟨rfl,hb⟩)
 go_ret
 exact ⟨rfl,hb⟩
theorem refMul_l (p q:Rat) (hlp:RL p 400) (hlq:RL q 400) (hp:9 < (ratB p).size) (w:World) (R:EnvR w) :
   Calls Tryz.prog 58 #[.string (ratB p),.string (ratB q)] w (Ret w (.string (ratB (Rat.divInt (p.num*q.num) ((p.den:Int)*(q.den:Int)))))):=by
 have g4:dlen (p.num*q.num)≤800:=dlen_mul _ _ 400 400 (by decide) hlp.1 hlq.1
 have g3:dlen ((p.den:Int)*(q.den:Int))≤800:=dlen_mul _ _ 400 400 (by decide) hlp.2 hlq.2
 have k4:0 < ((p.den:Int)*(q.den:Int)):=Int.mul_pos (by have:=p.den_pos;omega) (by have:=q.den_pos;omega)
 have c1:CR 108 #[.string (ratB p)] (.tuple #[.int .i64 0,.int .i64 0,.bool false]):=fun w R=>refBrief_long _ hp w R
 have c2:=fun (w:World) (R:EnvR w)=>refParts_any p w R (hlp.mono (by decide))
 have c3:=fun (w:World) (R:EnvR w)=>refParts_any q w R (hlq.mono (by decide))
 have c4:CR 110 #[.string (itoaB p.num),.string (itoaB q.num)] (.string (itoaB (p.num*q.num))):=fun w R=>refMul_any _ _ w R.env (Nat.le_trans hlp.1 (by decide)) (Nat.le_trans hlq.1 (by decide))
 have c5:CR 110 #[.string (itoaB (p.den:Int)),.string (itoaB (q.den:Int))] (.string (itoaB ((p.den:Int)*(q.den:Int)))):=fun w R=>refMul_any _ _ w R.env (Nat.le_trans hlp.2 (by decide)) (Nat.le_trans hlq.2 (by decide))
 have c6:CR 93 #[.string (itoaB (p.num*q.num)),.string (itoaB ((p.den:Int)*(q.den:Int)))] (.string (ratB (Rat.divInt (p.num*q.num) ((p.den:Int)*(q.den:Int))))):=fun w R=>refFrac_any _ _ w R (Nat.le_trans g4 (by decide)) (Nat.le_trans g3 (by decide)) (by omega)
 obtain ⟨r,er⟩:∃ v,ratB (Rat.divInt (p.num*q.num) ((p.den:Int)*(q.den:Int)))=v:=⟨_,rfl⟩
 try simp only [er] at c1 c2 c3 c4 c5 c6 ⊢
 obtain ⟨x,ex⟩:∃ v,itoaB (p.num*q.num)=v:=⟨_,rfl⟩
 try simp only [ex] at c1 c2 c3 c4 c5 c6 ⊢
 obtain ⟨y,ey⟩:∃ v,itoaB ((p.den:Int)*(q.den:Int))=v:=⟨_,rfl⟩
 try simp only [ey] at c1 c2 c3 c4 c5 c6 ⊢
 obtain ⟨n,en⟩:∃ v,itoaB p.num=v:=⟨_,rfl⟩
 try simp only [en] at c1 c2 c3 c4 c5 c6 ⊢
 obtain ⟨d,ed⟩:∃ v,itoaB (p.den:Int)=v:=⟨_,rfl⟩
 try simp only [ed] at c1 c2 c3 c4 c5 c6 ⊢
 obtain ⟨m,em⟩:∃ v,itoaB q.num=v:=⟨_,rfl⟩
 try simp only [em] at c1 c2 c3 c4 c5 c6 ⊢
 obtain ⟨e,ee⟩:∃ v,itoaB (q.den:Int)=v:=⟨_,rfl⟩
 try simp only [ee] at c1 c2 c3 c4 c5 c6 ⊢
 obtain ⟨a,ea⟩:∃ v,ratB p=v:=⟨_,rfl⟩
 try simp only [ea] at c1 c2 c3 c4 c5 c6 ⊢
 obtain ⟨b,eb⟩:∃ v,ratB q=v:=⟨_,rfl⟩
 try simp only [eb] at c1 c2 c3 c4 c5 c6 ⊢
 have C1:=Lib.hid c1
 have C2:=Lib.hid c2
 have C3:=Lib.hid c3
 have C4:=Lib.hid c4
 have C5:=Lib.hid c5
 have C6:=Lib.hid c6
 clear c1 c2 c3 c4 c5 c6 er ex ey en ed em ee ea eb g3 g4 k4 hlp hlq hp
 have hb:=Below.refl w.heap.size w
 go_enter Tryz.func58,Tryz.ntmps58
 go_wp2_with ((first | (go_at_call 108;with_reducible refine (chRA hb R C1).mono ?_) | (go_at_call 79;first | with_reducible refine (chRA hb R C2).mono ?_ | with_reducible refine (chRA hb R C3).mono ?_) | (go_at_call 110;first | with_reducible refine (chRA hb R C4).mono ?_ | with_reducible refine (chRA hb R C5).mono ?_) | (go_at_call 93;with_reducible refine (chRA hb R C6).mono ?_));clear hb;rintro e w1 ⟨rfl,hb⟩)
 go_ret
 exact ⟨rfl,hb⟩
theorem refMul_sl (p q:Rat) (hlp:RL p 400) (hlq:RL q 400) (hp:(ratB p).size≤9) (hq:9 < (ratB q).size) (w:World) (R:EnvR w) :
   Calls Tryz.prog 58 #[.string (ratB p),.string (ratB q)] w (Ret w (.string (ratB (Rat.divInt (p.num*q.num) ((p.den:Int)*(q.den:Int)))))):=by
 have g4:dlen (p.num*q.num)≤800:=dlen_mul _ _ 400 400 (by decide) hlp.1 hlq.1
 have g3:dlen ((p.den:Int)*(q.den:Int))≤800:=dlen_mul _ _ 400 400 (by decide) hlp.2 hlq.2
 have k4:0 < ((p.den:Int)*(q.den:Int)):=Int.mul_pos (by have:=p.den_pos;omega) (by have:=q.den_pos;omega)
 have c1:=refBrief_short p hp
 have c2:CR 108 #[.string (ratB q)] (.tuple #[.int .i64 0,.int .i64 0,.bool false]):=fun w R=>refBrief_long _ hq w R
 have c3:=fun (w:World) (R:EnvR w)=>refParts_any p w R (hlp.mono (by decide))
 have c4:=fun (w:World) (R:EnvR w)=>refParts_any q w R (hlq.mono (by decide))
 have c5:CR 110 #[.string (itoaB p.num),.string (itoaB q.num)] (.string (itoaB (p.num*q.num))):=fun w R=>refMul_any _ _ w R.env (Nat.le_trans hlp.1 (by decide)) (Nat.le_trans hlq.1 (by decide))
 have c6:CR 110 #[.string (itoaB (p.den:Int)),.string (itoaB (q.den:Int))] (.string (itoaB ((p.den:Int)*(q.den:Int)))):=fun w R=>refMul_any _ _ w R.env (Nat.le_trans hlp.2 (by decide)) (Nat.le_trans hlq.2 (by decide))
 have c7:CR 93 #[.string (itoaB (p.num*q.num)),.string (itoaB ((p.den:Int)*(q.den:Int)))] (.string (ratB (Rat.divInt (p.num*q.num) ((p.den:Int)*(q.den:Int))))):=fun w R=>refFrac_any _ _ w R (Nat.le_trans g4 (by decide)) (Nat.le_trans g3 (by decide)) (by omega)
 obtain ⟨r,er⟩:∃ v,ratB (Rat.divInt (p.num*q.num) ((p.den:Int)*(q.den:Int)))=v:=⟨_,rfl⟩
 try simp only [er] at c1 c2 c3 c4 c5 c6 c7 ⊢
 obtain ⟨x,ex⟩:∃ v,itoaB (p.num*q.num)=v:=⟨_,rfl⟩
 try simp only [ex] at c1 c2 c3 c4 c5 c6 c7 ⊢
 obtain ⟨y,ey⟩:∃ v,itoaB ((p.den:Int)*(q.den:Int))=v:=⟨_,rfl⟩
 try simp only [ey] at c1 c2 c3 c4 c5 c6 c7 ⊢
 obtain ⟨n,en⟩:∃ v,itoaB p.num=v:=⟨_,rfl⟩
 try simp only [en] at c1 c2 c3 c4 c5 c6 c7 ⊢
 obtain ⟨d,ed⟩:∃ v,itoaB (p.den:Int)=v:=⟨_,rfl⟩
 try simp only [ed] at c1 c2 c3 c4 c5 c6 c7 ⊢
 obtain ⟨m,em⟩:∃ v,itoaB q.num=v:=⟨_,rfl⟩
 try simp only [em] at c1 c2 c3 c4 c5 c6 c7 ⊢
 obtain ⟨e,ee⟩:∃ v,itoaB (q.den:Int)=v:=⟨_,rfl⟩
 try simp only [ee] at c1 c2 c3 c4 c5 c6 c7 ⊢
 obtain ⟨a,ea⟩:∃ v,ratB p=v:=⟨_,rfl⟩
 try simp only [ea] at c1 c2 c3 c4 c5 c6 c7 ⊢
 obtain ⟨b,eb⟩:∃ v,ratB q=v:=⟨_,rfl⟩
 try simp only [eb] at c1 c2 c3 c4 c5 c6 c7 ⊢
 obtain ⟨n',en'⟩:∃ v,p.num=v:=⟨_,rfl⟩
 try simp only [en'] at c1 c2 c3 c4 c5 c6 c7 ⊢
 obtain ⟨d',ed'⟩:∃ v,(p.den:Int)=v:=⟨_,rfl⟩
 try simp only [ed'] at c1 c2 c3 c4 c5 c6 c7 ⊢
 have C1:=Lib.hid c1
 have C2:=Lib.hid c2
 have C3:=Lib.hid c3
 have C4:=Lib.hid c4
 have C5:=Lib.hid c5
 have C6:=Lib.hid c6
 have C7:=Lib.hid c7
 clear c1 c2 c3 c4 c5 c6 c7 er ex ey en ed em ee ea eb en' ed' g3 g4 k4 hlp hlq hp hq
 have hb:=Below.refl w.heap.size w
 go_enter Tryz.func58,Tryz.ntmps58
 go_wp2_with ((first | (go_at_call 108;first | with_reducible refine (chRA hb R C1).mono ?_ | with_reducible refine (chRA hb R C2).mono ?_) | (go_at_call 79;first | with_reducible refine (chRA hb R C3).mono ?_ | with_reducible refine (chRA hb R C4).mono ?_) | (go_at_call 110;first | with_reducible refine (chRA hb R C5).mono ?_ | with_reducible refine (chRA hb R C6).mono ?_) | (go_at_call 93;with_reducible refine (chRA hb R C7).mono ?_));clear hb;rintro e w1 ⟨rfl,hb⟩)
 go_ret
 exact ⟨rfl,hb⟩
theorem refRMul_any (p q:Rat) (w:World) (R:EnvR w) (hlp:RL p 400) (hlq:RL q 400) :
   Calls Tryz.prog 58 #[.string (ratB p),.string (ratB q)] w (Ret w (.string (ratB (p*q)))):=by
 rw [← mul_mk p q,Int.natCast_mul]
 by_cases hp:(ratB p).size≤9
 · by_cases hq:(ratB q).size≤9
   · exact refMul_ss p q hp hq w R
   · exact refMul_sl p q hlp hlq hp (by omega) w R
 · exact refMul_l p q hlp hlq (by omega) w R
theorem neg_zero_rat {q:Rat} (h:q.num=0):q=0:=Rat.num_eq_zero.1 h
theorem refRNeg_zero (a:ByteArray) (h:(a.toList == [48])=true) (w:World) (_R:EnvR w) :
   Calls Tryz.prog 105 #[.string a] w (Ret w (.string a)):=by
 have hb:=Below.refl w.heap.size w
 go_enter Tryz.func105,Tryz.ntmps105
 go_wp2
 go_ret
 exact ⟨rfl,hb⟩
theorem refRNeg_minus (a r:ByteArray) (h:(a.toList == [48])=false) (h0:0 < a.size) (hs:a.size≤1000000) (h45:((a[0].toNat:Int) == 45)=true) (hr:a.extract 1 a.size=r) (w:World) (_R:EnvR w) :
   Calls Tryz.prog 105 #[.string a] w (Ret w (.string r)):=by
 have HR:=Lib.hid hr
 clear hr
 have h0':(0:Int) < (a.size:Int):=by omega
 have hb:=Below.refl w.heap.size w
 go_enter Tryz.func105,Tryz.ntmps105
 go_wp2
 go_ret
 exact ⟨retS HR.out,hb⟩
theorem refRNeg_plus (a r:ByteArray) (h:(a.toList == [48])=false) (h0:0 < a.size) (hs:a.size≤1000000) (h45:((a[0].toNat:Int) == 45)=false) (hr:(⟨#[45]⟩:ByteArray) ++ a=r) (w:World) (_R:EnvR w) :
   Calls Tryz.prog 105 #[.string a] w (Ret w (.string r)):=by
 have HR:=Lib.hid hr
 clear hr
 have h0':(0:Int) < (a.size:Int):=by omega
 have hb:=Below.refl w.heap.size w
 go_enter Tryz.func105,Tryz.ntmps105
 go_wp2
 go_ret
 exact ⟨retS HR.out,hb⟩
theorem refRNeg_any (q:Rat) (w:World) (R:EnvR w) (hq:RL q 100000) :
   Calls Tryz.prog 105 #[.string (ratB q)] w (Ret w (.string (ratB (-q)))):=by
 have h0:=ratB_pos q
 have hs:=size_of_RL hq
 rcases Int.lt_trichotomy q.num 0 with h | h | h
 · refine refRNeg_minus (ratB q) _ ?_ h0 (by omega) (head45 q h0 _ (decide_eq_true h)) (ratB_tail h) w R
   rw [ratB_eq_zero];exact decide_eq_false (fun e=>by rw [e] at h;exact absurd h (by decide))
 · have:=neg_zero_rat h
   subst this
   rw [Rat.neg_zero]
   exact refRNeg_zero _ (by rw [ratB_eq_zero];rfl) w R
 · refine refRNeg_plus (ratB q) _ ?_ h0 (by omega) (head45 q h0 _ (decide_eq_false (by omega))) (ratB_plus h) w R
   rw [ratB_eq_zero];exact decide_eq_false (fun e=>by rw [e] at h;exact absurd h (by decide))
theorem refRSub_any (p q:Rat) (hlp:RL p 400) (hlq:RL q 400) (w:World) (R:EnvR w) :
   Calls Tryz.prog 55 #[.string (ratB p),.string (ratB q)] w (Ret w (.string (ratB (p - q)))):=by
 have c1:=fun (w:World) (R:EnvR w)=>refRNeg_any q w R (hlq.mono (by decide))
 have c2:CR 85 #[.string (ratB p),.string (ratB (-q))] (.string (ratB (p - q))):=fun w R=>by have:=refRAdd_any p (-q) w R hlp (RL_neg hlq);rwa [← Rat.sub_eq_add_neg] at this
 obtain ⟨r,er⟩:∃ v,ratB (p - q)=v:=⟨_,rfl⟩
 try simp only [er] at c1 c2 ⊢
 obtain ⟨c,ec⟩:∃ v,ratB (-q)=v:=⟨_,rfl⟩
 try simp only [ec] at c1 c2 ⊢
 obtain ⟨a,ea⟩:∃ v,ratB p=v:=⟨_,rfl⟩
 try simp only [ea] at c1 c2 ⊢
 obtain ⟨b,eb⟩:∃ v,ratB q=v:=⟨_,rfl⟩
 try simp only [eb] at c1 c2 ⊢
 have C1:=Lib.hid c1
 have C2:=Lib.hid c2
 clear c1 c2 er ec ea eb hlp hlq
 have hb:=Below.refl w.heap.size w
 go_enter Tryz.func55,Tryz.ntmps55
 go_wp2_with ((first | (go_at_call 105;with_reducible refine (chRA hb R C1).mono ?_) | (go_at_call 85;with_reducible refine (chRA hb R C2).mono ?_));clear hb;rintro e w1 ⟨rfl,hb⟩)
 go_ret
 exact ⟨rfl,hb⟩
theorem refRSign_zero (a:ByteArray) (h:(a.toList == [48])=true) (w:World) (_R:EnvR w) :
   Calls Tryz.prog 42 #[.string a] w (Ret w (.int .i64 0)):=by
 have hb:=Below.refl w.heap.size w
 go_enter Tryz.func42,Tryz.ntmps42
 go_wp2
 go_ret
 exact ⟨rfl,hb⟩
theorem refRSign_minus (a:ByteArray) (h:(a.toList == [48])=false) (h0:0 < a.size) (h45:((a[0].toNat:Int) == 45)=true) (w:World) (_R:EnvR w) :
   Calls Tryz.prog 42 #[.string a] w (Ret w (.int .i64 (-1))):=by
 have h0':(0:Int) < (a.size:Int):=by omega
 have hb:=Below.refl w.heap.size w
 go_enter Tryz.func42,Tryz.ntmps42
 go_wp2
 go_ret
 exact ⟨rfl,hb⟩
theorem refRSign_plus (a:ByteArray) (h:(a.toList == [48])=false) (h0:0 < a.size) (h45:((a[0].toNat:Int) == 45)=false) (w:World) (_R:EnvR w) :
   Calls Tryz.prog 42 #[.string a] w (Ret w (.int .i64 1)):=by
 have h0':(0:Int) < (a.size:Int):=by omega
 have hb:=Below.refl w.heap.size w
 go_enter Tryz.func42,Tryz.ntmps42
 go_wp2
 go_ret
 exact ⟨rfl,hb⟩
theorem refRSign_any (q:Rat) (w:World) (R:EnvR w) :
   Calls Tryz.prog 42 #[.string (ratB q)] w (Ret w (.int .i64 q.num.sign)):=by
 have h0:=ratB_pos q
 rcases Int.lt_trichotomy q.num 0 with h | h | h
 · rw [Int.sign_eq_neg_one_of_neg h]
   refine refRSign_minus (ratB q) ?_ h0 (head45 q h0 _ (decide_eq_true h)) w R
   rw [ratB_eq_zero];exact decide_eq_false (fun e=>by rw [e] at h;exact absurd h (by decide))
 · have:=neg_zero_rat h
   subst this
   exact refRSign_zero _ (by rw [ratB_eq_zero];rfl) w R
 · rw [Int.sign_eq_one_of_pos h]
   refine refRSign_plus (ratB q) ?_ h0 (head45 q h0 _ (decide_eq_false (by omega))) w R
   rw [ratB_eq_zero];exact decide_eq_false (fun e=>by rw [e] at h;exact absurd h (by decide))
theorem refRCompare_any (p q:Rat) (hlp:RL p 400) (hlq:RL q 400) (w:World) (R:EnvR w) :
   Calls Tryz.prog 101 #[.string (ratB p),.string (ratB q)] w (Ret w (.int .i64 (p - q).num.sign)):=by
 have c1:=refRSub_any p q hlp hlq
 have c2:CR 42 #[.string (ratB (p - q))] (.int .i64 (p - q).num.sign):=fun w R=>refRSign_any _ w R
 obtain ⟨z,ez⟩:∃ v,(p - q).num.sign=v:=⟨_,rfl⟩
 try simp only [ez] at c1 c2 ⊢
 obtain ⟨c,ec⟩:∃ v,ratB (p - q)=v:=⟨_,rfl⟩
 try simp only [ec] at c1 c2 ⊢
 obtain ⟨a,ea⟩:∃ v,ratB p=v:=⟨_,rfl⟩
 try simp only [ea] at c1 c2 ⊢
 obtain ⟨b,eb⟩:∃ v,ratB q=v:=⟨_,rfl⟩
 try simp only [eb] at c1 c2 ⊢
 have C1:=Lib.hid c1
 have C2:=Lib.hid c2
 clear c1 c2 ez ec ea eb hlp hlq
 have hb:=Below.refl w.heap.size w
 go_enter Tryz.func101,Tryz.ntmps101
 go_wp2_with ((first | (go_at_call 55;with_reducible refine (chRA hb R C1).mono ?_) | (go_at_call 42;with_reducible refine (chRA hb R C2).mono ?_));clear hb;rintro e w1 ⟨rfl,hb⟩)
 go_ret
 exact ⟨rfl,hb⟩
end Go.Proofs.YtpennccflalobaaGreatDoor.Kl
