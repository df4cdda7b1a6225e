import Derived.Laws.BitsAllLaws
import Derived.Test.YtpphjnekkjeacaaGreatDoorKlSRootsVKZ
namespace Go.Proofs.YtpphjnekkjeacaaGreatDoor.Kl
open Go Go.RowKit
set_option maxRecDepth 100000
set_option maxHeartbeats 8000000
theorem prim_bounds : ∀ k,3≤prim k∧prim k≤47∨14≤k:=by
 intro k
 by_cases h:k < 14
 · have:(List.range 14).all (fun k=>decide (3≤prim k∧prim k≤47))=true:=by decide
   rw [List.all_eq_true] at this
   exact Or.inl (of_decide_eq_true (this k (List.mem_range.2 h)))
 · exact Or.inr (by omega)
theorem prim_dvd : ∀ k,k < 14→307444891294245705 % prim k=0:=by
 intro k h
 have:(List.range 14).all (fun k=>decide (307444891294245705 % prim k=0))=true:=by decide
 rw [List.all_eq_true] at this
 exact of_decide_eq_true (this k (List.mem_range.2 h))
theorem mod_prim (r k:Nat) (h:k < 14):r % 307444891294245705 % prim k=r % prim k:=
 Nat.mod_mod_of_dvd _ (Nat.dvd_of_mod_eq_zero (prim_dvd k h))
theorem idx_run (k:Nat) (h:k < 14) (w:World):(Instr.index 187 (.agg #[.int .i64 3,.int .i64 5,.int .i64 7,.int .i64 11,.int .i64 13,.int .i64 17,.int .i64 19,.int .i64 23,.int .i64 29,.int .i64 31,.int .i64 37,.int .i64 41,.int .i64 43,.int .i64 47]) (.int .i64 k)).run Tryz.prog w = .ok (.int .i64 (prim k)) w:=by
 obtain rfl | rfl | rfl | rfl | rfl | rfl | rfl | rfl | rfl | rfl | rfl | rfl | rfl | rfl:k=0∨k=1∨k=2∨k=3∨k=4∨k=5∨k=6∨k=7∨k=8∨k=9∨k=10∨k=11∨k=12∨k=13:=by omega
 all_goals kernel_rfl
theorem or_run (a b:Nat) (ha:a < 16384) (hb:b < 16384):bits .or .u64 (a:Int) (b:Int)=((a ||| b:Nat):Int):=u64_or_nat a b (by omega) (by omega)
theorem blk_cell {w:World} {B:Nat} {cs:Array Value} {T:TypeId} (h:w.heap[B]? = some (.cells cs T (0,0))) (j:Nat) {v:Value} (hv:cs[j]? = some v):w.cell? ⟨B,j,none⟩=some v:=by
 rw [Lib.cell_of_heap h];exact hv
theorem blk_frozen {w:World} {B:Nat} {cs:Array Value} {T:TypeId} (h:w.heap[B]? = some (.cells cs T (0,0))) (j:Nat):w.frozen? ⟨B,j,none⟩=false:=by
 simp [World.frozen?,h]
theorem blk_lt {w:World} {B:Nat} {o:Obj} (h:w.heap[B]? = some o):B < w.heap.size:=by
 rcases Nat.lt_or_ge B w.heap.size with h1 | h1
 · exact h1
 · rw [Array.getElem?_eq_none h1] at h;cases h
theorem blk_below {w w':World} (hb:Below w.heap.size w w') {B:Nat} {o:Obj} (h:w.heap[B]? = some o):w'.heap[B]? = some o:=(hb.block B (blk_lt h)).trans h
theorem pmK_z {r k:Nat} (h:r % prim k=0):pmK r (k+1)=pmK r k:=by show (if _ then _ else _)=_;rw [if_pos h]
theorem pmK_o {r k:Nat} (h:r % prim k≠0):pmK r (k+1)=pmK r k ||| 2 ^ k:=by show (if _ then _ else _)=_;rw [if_neg h]
theorem smK_z {r k:Nat} (h:r % prim k=0):smK r (k+1)=smK r k:=by show (if _ then _ else _)=_;rw [if_pos h]
theorem smK_o {r k:Nat} (h:r % prim k≠0) (g:qrB (r % prim k) (prim k)=true):smK r (k+1)=smK r k ||| 2 ^ k:=by show (if _ then _ else _)=_;rw [if_neg h,if_pos g]
theorem smK_n {r k:Nat} (h:r % prim k≠0) (g:qrB (r % prim k) (prim k)=false):smK r (k+1)=smK r k:=by show (if _ then _ else _)=_;rw [if_neg h,if_neg (by rw [g];decide)]
theorem mark_any (s:ByteArray) (r:Nat) (hr:dlen (r:Int)≤10000) (w:World) (R:EnvS w) :
   Calls Tryz.prog 105 #[.agg #[.string s,.string (itoaB (r:Int))]] w (Ret w (.agg #[.string s,.string (itoaB (r:Int)),.int .u64 (pmK r 14:Nat),.int .u64 (smK r 14:Nat)])):=by
 obtain ⟨m,hm⟩:∃ m,r % 307444891294245705=m:=⟨_,rfl⟩
 have hm9:m < 307444891294245705:=by rw [← hm];exact Nat.mod_lt _ (by decide)
 have hmi:(r:Int) % 307444891294245705=(m:Int):=by omega
 have e1:itoaB 307444891294245705=⟨#[51,48,55,52,52,52,56,57,49,50,57,52,50,52,53,55,48,53]⟩:=by decide +kernel
 have c1:CR 119 #[.string (itoaB (r:Int)),.string ⟨#[51,48,55,52,52,52,56,57,49,50,57,52,50,52,53,55,48,53]⟩] (.tuple #[.string (itoaB ((r:Int) / 307444891294245705)),.string (itoaB (m:Int)),.int .i64 0]):=fun w R=>by
   have:=divMod_any (r:Int) 307444891294245705 w R.env (by omega) (by decide +kernel) (by decide)
   rwa [e1,hmi] at this
 have c2:=ismall_in (m:Int) (by omega) (by omega)
 have c3:∀ k,k < 14→∀ w,Calls Tryz.prog 150 #[.int .i64 ((m % prim k:Nat):Int),.int .i64 (prim k)] w (Ret w (.bool (qrB (r % prim k) (prim k)))):=fun k hk w=>by
   have:=isSq_any (m % prim k) (prim k) (by have:=prim_bounds k;omega) (by have:=prim_bounds k;omega) w
   rwa [← hm,mod_prim r k hk] at this ⊢
 have hmp:∀ k,k < 14→m % prim k=r % prim k:=fun k hk=>by rw [← hm];exact mod_prim r k hk
 obtain ⟨q,hq⟩:∃ v,itoaB ((r:Int) / 307444891294245705)=v:=⟨_,rfl⟩
 obtain ⟨rb,hrb⟩:∃ v,itoaB (r:Int)=v:=⟨_,rfl⟩
 obtain ⟨mb,hmb⟩:∃ v,itoaB (m:Int)=v:=⟨_,rfl⟩
 rw [hq,hrb,hmb] at c1
 rw [hmb] at c2
 have C1:=Lib.hid c1
 have C2:=Lib.hid c2
 have C3:=Lib.hid c3
 have HMP:=Lib.hid hmp
 clear c1 c2 c3 hmp hq hmb hm e1 hmi hr
 go_enter Tryz.func105,Tryz.ntmps105
 rw [hrb]
 clear hrb
 go_upto_region 2 with fail
 refine wp_alloc3 (fun wa h0 h1 h2 hb=>?_)
 obtain ⟨B1,hB1⟩:∃ B,w.heap.size+1=B:=⟨_,rfl⟩
 obtain ⟨B2,hB2⟩:∃ B,w.heap.size+2=B:=⟨_,rfl⟩
 have hB12:B1≠B2:=by omega
 have hB1w:w.heap.size≤B1:=by omega
 have hB2w:w.heap.size≤B2:=by omega
 rw [show w.heap.size+1+1=w.heap.size+2 from rfl,hB1,hB2]
 rw [hB1] at h1
 rw [hB2] at h2
 clear hB1 hB2
 have x0:=blk_cell h0 1 rfl
 go_upto_region 4 with (first | (go_at_call 119;(with_reducible refine (zK hb (C1.out _ (R.toEnvR.below hb))).mono ?_);clear hb;rintro e w1 ⟨rfl,hk,hb⟩;replace h0:=blk_below hk h0;replace h1:=blk_below hk h1;replace h2:=blk_below hk h2;clear hk) | (go_at_call 149;(with_reducible refine (zK hb (C2.out _ (R.toEnvR.below hb))).mono ?_);clear hb;rintro e w1 ⟨rfl,hk,hb⟩;replace h0:=blk_below hk h0;replace h1:=blk_below hk h1;replace h2:=blk_below hk h2;clear hk))
 have y0:w1.cell? ⟨0,0,none⟩=some (.int .i64 3):=zC hb (R.pr 0 (by decide))
 have y1:w1.cell? ⟨0,1,none⟩=some (.int .i64 5):=zC hb (R.pr 1 (by decide))
 have y2:w1.cell? ⟨0,2,none⟩=some (.int .i64 7):=zC hb (R.pr 2 (by decide))
 have y3:w1.cell? ⟨0,3,none⟩=some (.int .i64 11):=zC hb (R.pr 3 (by decide))
 have y4:w1.cell? ⟨0,4,none⟩=some (.int .i64 13):=zC hb (R.pr 4 (by decide))
 have y5:w1.cell? ⟨0,5,none⟩=some (.int .i64 17):=zC hb (R.pr 5 (by decide))
 have y6:w1.cell? ⟨0,6,none⟩=some (.int .i64 19):=zC hb (R.pr 6 (by decide))
 have y7:w1.cell? ⟨0,7,none⟩=some (.int .i64 23):=zC hb (R.pr 7 (by decide))
 have y8:w1.cell? ⟨0,8,none⟩=some (.int .i64 29):=zC hb (R.pr 8 (by decide))
 have y9:w1.cell? ⟨0,9,none⟩=some (.int .i64 31):=zC hb (R.pr 9 (by decide))
 have y10:w1.cell? ⟨0,10,none⟩=some (.int .i64 37):=zC hb (R.pr 10 (by decide))
 have y11:w1.cell? ⟨0,11,none⟩=some (.int .i64 41):=zC hb (R.pr 11 (by decide))
 have y12:w1.cell? ⟨0,12,none⟩=some (.int .i64 43):=zC hb (R.pr 12 (by decide))
 have y13:w1.cell? ⟨0,13,none⟩=some (.int .i64 47):=zC hb (R.pr 13 (by decide))
 go_wp2
 clear y0 y1 y2 y3 y4 y5 y6 y7 y8 y9 y10 y11 y12 y13
 go_loopw [26] (fun v wr=>∃ k:Nat,k≤14∧v = .int .i64 k∧wr.heap[B1]? = some (.cells #[Value.string ⟨#[]⟩,Value.string ⟨#[]⟩,Value.int IntKind.u64 0,Value.int IntKind.u64 0] 149 (0,0))∧wr.heap[B2]? = some (.cells #[Value.string s,Value.string rb,Value.int IntKind.u64 (pmK r k:Nat),Value.int IntKind.u64 (smK r k:Nat)] 149 (0,0))∧Below w.heap.size w wr) (fun v _=>14 - (intOf v).toNat)
 case atStart=>exact ⟨0,by decide,rfl,h1,h2,hb⟩
 case round =>
   clear h0 h1 h2 hb x0
   obtain ⟨k,hk,rfl,h1,h2,hb⟩:=hrel
   by_cases hlt:k < 14
   · have hlt2:(k:Int) < 14:=by omega
     have hix:=idx_run k hlt
     have hmk:=HMP.out k hlt
     have hpb:=prim_bounds k
     have c3k:=C3.out k hlt
     have hpz:=@pmK_z r k
     have hpo:=@pmK_o r k
     have hsz:=@smK_z r k
     have hso:=@smK_o r k
     have hsn:=@smK_n r k
     have hP:=pmK_lt r k
     have hS:=smK_lt r k
     have h2k:2 ^ k≤8192:=Nat.pow_le_pow_right (by decide) (show k≤13 by omega)
     obtain ⟨P,eP⟩:∃ P,pmK r k=P:=⟨_,rfl⟩
     obtain ⟨S,eS⟩:∃ S,smK r k=S:=⟨_,rfl⟩
     obtain ⟨T,eT⟩:∃ T,2 ^ k=T:=⟨_,rfl⟩
     obtain ⟨p,hp⟩:∃ p,prim k=p:=⟨_,rfl⟩
     rw [eP] at hP hpz hpo h2
     rw [eS] at hS hsz hso hsn h2
     have hsh:IntKind.u64.wrap ((2:Int) ^ k)=(T:Int):=by
       rw [← eT,Int.natCast_pow]
       have:((2 ^ k:Nat):Int)≤8192:=by omega
       rw [Int.natCast_pow] at this
       exact IntWalk.u64_in _ ⟨Int.le_of_lt (Int.pow_pos (by decide)),Int.le_trans this (by decide)⟩
     rw [eT] at hP hS hpo hso h2k
     rw [hp] at hix hmk hpb c3k hpz hpo hsz hso hsn
     have hor1:=or_run P T (by omega) (by omega)
     have hor2:=or_run S T (by omega) (by omega)
     obtain ⟨PT,ePT⟩:∃ PT,P ||| T=PT:=⟨_,rfl⟩
     obtain ⟨ST,eST⟩:∃ ST,S ||| T=ST:=⟨_,rfl⟩
     rw [ePT] at hor1 hpo
     rw [eST] at hor2 hso
     have hp1:(0:Int) < (p:Int):=by omega
     have hmod:(m:Int).tmod (p:Int)=((m % p:Nat):Int):=by rw [Int.tmod_eq_emod_of_nonneg (by omega)];rfl
     rw [hmk] at hmod c3k
     clear eP eS eT hp ePT eST hmk hP hS h2k hpb
     have x1:=blk_cell h2 1 rfl
     have x2:=blk_cell h2 2 rfl
     have x3:=blk_cell h2 3 rfl
     have f2:=blk_frozen h2 2
     have f3:=blk_frozen h2 3
     obtain ⟨z,hz⟩:∃ z,r % p=z:=⟨_,rfl⟩
     rw [hz] at hmod c3k hpz hpo hsz hso hsn
     by_cases h0:z=0
     · have e1:((z:Int) == 0)=true:=by rw [h0];rfl
       have HPZ:=Lib.hid (hpz h0)
       have HSZ:=Lib.hid (hsz h0)
       have HB:=Lib.hid hb
       have H1:=Lib.hid h1
       have H2:=Lib.hid h2
       clear hpz hpo hsz hso hsn c3k h0 hz h1 h2 hb hor1 hor2
       go_wp2
       go_roundw
       case rel=>exact ⟨k+1,by omega,by go_num,H1.out,by rw [HPZ.out,HSZ.out];exact H2.out,HB.out⟩
       case measure=>simp [intOf];omega
     · have e1:((z:Int) == 0)=false:=by simp only [beq_eq_false_iff_ne,ne_eq];omega
       have HPO:=Lib.hid (hpo h0)
       have HSO:=Lib.hid (hso h0)
       have HSN:=Lib.hid (hsn h0)
       have HB:=Lib.hid hb
       have H1:=Lib.hid h1
       have H2:=Lib.hid h2
       have CC:=Lib.hid c3k
       clear hpz hpo hsz hso hsn c3k h0 hz h1 h2 hb
       go_wp2
       go_still_tail 6,(by kernel_rfl)
       change wpList _ _ _ _ _ wr.drew
       go_upto_region 9 with fail
       obtain ⟨wb,hwb⟩:∃ wb,(wr.setCell ⟨B2,2,none⟩ (Value.int IntKind.u64 (PT:Int))).drew=wb:=⟨_,rfl⟩
       have h2b:wb.heap[B2]? = some (.cells #[Value.string s,Value.string rb,Value.int IntKind.u64 (PT:Int),Value.int IntKind.u64 (S:Int)] 149 (0,0)):=by
         rw [← hwb];exact heap_setCell_same wr B2 2 _ _ _ H2.out
       have h1b:wb.heap[B1]? = some (.cells #[Value.string ⟨#[]⟩,Value.string ⟨#[]⟩,Value.int IntKind.u64 0,Value.int IntKind.u64 0] 149 (0,0)):=by
         rw [← hwb];exact (heap_setCell_other wr ⟨B2,2,none⟩ B1 _ hB12).trans H1.out
       have hbb:Below w.heap.size w wb:=by rw [← hwb];exact (HB.out.setCell (p:=⟨B2,2,none⟩) hB2w _).drew
       rw [hwb]
       clear hwb x1 x2 x3 f2 f3 H1 H2 HB
       have cc:=CC.out
       clear CC
       cases hq:qrB z p with
       | false =>
         rw [hq] at cc
         have HS:=Lib.hid (HSN.out hq)
         have CC:=Lib.hid cc
         clear hq cc HSN HSO
         go_wp2_with (go_at_call 150;(with_reducible refine (zK hbb (CC.out _)).mono ?_);clear hbb;rintro e w3 ⟨rfl,hk3,hbb⟩;replace h2b:=blk_below hk3 h2b;replace h1b:=blk_below hk3 h1b;clear hk3)
         go_roundw
         case rel=>exact ⟨k+1,by omega,by go_num,h1b,by rw [HPO.out,HS.out];exact h2b,hbb⟩
         case measure=>simp [intOf];omega
       | true =>
         rw [hq] at cc
         have HS:=Lib.hid (HSO.out hq)
         have CC:=Lib.hid cc
         clear hq cc HSN HSO
         go_upto_region 10 with (go_at_call 150;(with_reducible refine (zK hbb (CC.out _)).mono ?_);clear hbb;rintro e w3 ⟨rfl,hk3,hbb⟩;replace h2b:=blk_below hk3 h2b;replace h1b:=blk_below hk3 h1b;clear hk3)
         have x2:=blk_cell h2b 2 rfl
         have x3:=blk_cell h2b 3 rfl
         have f3:=blk_frozen h2b 3
         go_still_tail 6,(by kernel_rfl)
         change wpList _ _ _ _ _ w3.drew
         go_wp2
         have h2c:=heap_setCell_same w3 B2 3 _ _ (Value.int IntKind.u64 (ST:Int)) h2b
         have h1c:=(heap_setCell_other w3 ⟨B2,3,none⟩ B1 (Value.int IntKind.u64 (ST:Int)) hB12).trans h1b
         have hbc:=(hbb.setCell (p:=⟨B2,3,none⟩) hB2w (Value.int IntKind.u64 (ST:Int))).drew
         go_roundw
         case rel=>exact ⟨k+1,by omega,by go_num,h1c,by rw [HPO.out,HS.out];exact h2c,hbc⟩
         case measure=>simp [intOf];omega
   · have hk14:k=14:=by omega
     subst hk14
     have x0:=blk_cell h2 0 rfl
     have x1:=blk_cell h2 1 rfl
     have x2:=blk_cell h2 2 rfl
     have x3:=blk_cell h2 3 rfl
     have z0:=blk_cell h1 0 rfl
     have z1:=blk_cell h1 1 rfl
     have z2:=blk_cell h1 2 rfl
     have z3:=blk_cell h1 3 rfl
     have f0:=blk_frozen h1 0
     have f1:=blk_frozen h1 1
     have f2:=blk_frozen h1 2
     have f3:=blk_frozen h1 3
     go_wp2
     have g1:=heap_setCell_same _ B1 3 _ _ (Value.int IntKind.u64 (smK r 14:Nat)) (heap_setCell_same _ B1 2 _ _ (Value.int IntKind.u64 (pmK r 14:Nat)) (heap_setCell_same _ B1 1 _ _ (Value.string rb) (heap_setCell_same wr B1 0 _ _ (Value.string s) h1)))
     have gb:=(((hb.setCell (p:=⟨B1,0,none⟩) hB1w (Value.string s)).setCell (p:=⟨B1,1,none⟩) hB1w (Value.string rb)).setCell (p:=⟨B1,2,none⟩) hB1w (Value.int IntKind.u64 (pmK r 14:Nat))).setCell (p:=⟨B1,3,none⟩) hB1w (Value.int IntKind.u64 (smK r 14:Nat))
     obtain ⟨wz,hwz⟩:∃ wz,((((wr.setCell ⟨B1,0,none⟩ (Value.string s)).setCell ⟨B1,1,none⟩ (Value.string rb)).setCell ⟨B1,2,none⟩ (Value.int IntKind.u64 (pmK r 14:Nat))).setCell ⟨B1,3,none⟩ (Value.int IntKind.u64 (smK r 14:Nat)))=wz:=⟨_,rfl⟩
     rw [hwz] at g1 gb ⊢
     clear hwz x0 x1 x2 x3 z0 z1 z2 z3 f0 f1 f2 f3 h1 h2 hb
     have x0:=blk_cell g1 0 rfl
     have x1:=blk_cell g1 1 rfl
     have x2:=blk_cell g1 2 rfl
     have x3:=blk_cell g1 3 rfl
     exact bodyPost_ret (v:=.agg #[.string s,.string rb,.int .u64 (pmK r 14:Nat),.int .u64 (smK r 14:Nat)]) (by simp [results,Tryz.results105,go_sem,x0,x1,x2,x3]) rfl ⟨rfl,gb⟩
def sqN (a:Nat):Bool:=decide (rootN a*rootN a=a)
theorem sqN_iff {a:Nat}:sqN a=true↔∃ s,s*s=a:=by
 unfold sqN
 rw [decide_eq_true_iff]
 refine ⟨fun h=>⟨_,h⟩,fun ⟨s,hs⟩=>?_⟩
 subst hs
 have h:=rootN_is (s*s)
 have:rootN (s*s)=s:=rootN_eq ⟨Nat.le_refl _,Nat.mul_self_lt_mul_self (Nat.lt_succ_self s)⟩
 rw [this]
theorem sqB_nat (a:Nat):sqB (a:Int)=sqN a:=by
 unfold sqB sqN
 rw [Int.toNat_natCast]
 exact decide_eq_decide.2 ⟨fun h=>by omega,fun h=>by omega⟩
theorem ratB_nat (a:Nat):ratB ((a:Int):Rat)=itoaB (a:Int):=by
 rw [ratB_int (by rfl)];rfl
theorem rootN_one : rootN 1=1:=by decide
theorem rootQ_nat (a:Nat):rootQ ((a:Int):Rat)=((rootN a:Int):Rat):=by
 unfold rootQ
 rw [show (((a:Int):Rat).num)=(a:Int) from rfl,show (((a:Int):Rat).den)=1 from rfl,Int.toNat_natCast,rootN_one]
 exact rat_mk ((rootN a:Int):Rat)
theorem rl_nat {a K:Nat} (hK:1≤K) (h:dlen (a:Int)≤K):RL ((a:Int):Rat) K:=⟨h,by show dlen ((1:Nat):Int)≤K;rw [dlen_one];exact hK⟩
theorem rootN_dlen (a K:Nat) (hK:0 < K) (h:dlen (a:Int)≤K):dlen (rootN a:Int)≤K:=
 dlen_nat_le _ (a:Int) K hK (by rw [Int.natAbs_natCast];exact rootN_le a) h
theorem parts_none (w:World) (R:EnvR w):Calls Tryz.prog 91 #[.string ⟨#[]⟩] w (Ret w (.tuple #[.string ⟨#[]⟩,.string ⟨#[49]⟩])):=
 rparts_cut ⟨#[]⟩ ⟨#[]⟩ ⟨#[]⟩ _ _ false (fun w R=>cut_call ⟨#[]⟩ ⟨#[47]⟩ _ _ _ (by decide) (by decide) w R) (fun h=>by cases h) (fun _=>⟨rfl,rfl⟩) w R
def rootS (a:Nat):ByteArray:=if sqN a then itoaB (rootN a:Int) else ⟨#[]⟩
theorem sqRoot_w (s a b d:ByteArray) (is:Bool) (h1:CR 95 #[.string s] (.tuple #[.string a,.bool is])) (h2:CR 91 #[.string a] (.tuple #[.string b,.string d])) (w:World) (R:EnvR w) :
   Calls Tryz.prog 151 #[.string s] w (Ret w (.tuple #[.string b,.bool is])):=by
 have C1:=Lib.hid h1
 have C2:=Lib.hid h2
 clear h1 h2
 have hb:=Below.refl w.heap.size w
 go_enter Tryz.func151,Tryz.ntmps151
 go_wp2_with ((first | (go_at_call 95;with_reducible refine (chRA hb R C1).mono ?_) | (go_at_call 91;with_reducible refine (chRA hb R C2).mono ?_));clear hb;rintro e w1 ⟨rfl,hb⟩)
 go_ret2
 exact ⟨rfl,hb⟩
theorem sqRoot_any (a:Nat) (ha:dlen (a:Int)≤10000) (w:World) (R:EnvR w) :
   Calls Tryz.prog 151 #[.string (itoaB (a:Int))] w (Ret w (.tuple #[.string (rootS a),.bool (sqN a)])):=by
 have h1:CR 95 #[.string (itoaB (a:Int))] (.tuple #[.string (rootS a),.bool (sqN a)]):=fun w R=>by
   have:=rroot_any ((a:Int):Rat) w R (rl_nat (by decide) ha)
   rw [ratB_nat,rootQ_nat,ratB_nat,show (((a:Int):Rat).num)=(a:Int) from rfl,show (((a:Int):Rat).den)=1 from rfl,sqB_nat,show sqB ((1:Nat):Int)=true by decide,Bool.and_true] at this
   exact this
 cases h:sqN a with
 | true =>
   have e:rootS a=itoaB (rootN a:Int):=by unfold rootS;rw [h];rfl
   rw [h,e] at h1
   rw [e]
   exact sqRoot_w _ _ _ _ _ h1 (fun w R=>by
     have:=rparts_any ((rootN a:Int):Rat) w R (rl_nat (by decide) (Nat.le_trans (rootN_dlen a 10000 (by decide) ha) (by decide)))
     rw [ratB_nat] at this
     exact this) w R
 | false =>
   have e:rootS a=⟨#[]⟩:=by unfold rootS;rw [h];rfl
   rw [h,e] at h1
   rw [e]
   exact sqRoot_w _ _ _ _ _ h1 parts_none w R
theorem isSquare_no (s rb:ByteArray) (P S:Nat) (h:P≠S) (w:World) :
   Calls Tryz.prog 106 #[.agg #[.string s,.string rb,.int .u64 (P:Int),.int .u64 (S:Int)]] w (Ret w (.bool false)):=by
 have hb:Below w.heap.size w (w.alloc (Obj.cells #[Value.string s,Value.string rb,Value.int .u64 (P:Int),Value.int .u64 (S:Int)] 149)):=(Below.refl _ _).alloc (Nat.le_refl _) _
 have e1:((P:Int) == (S:Int))=false:=by simp only [beq_eq_false_iff_ne,ne_eq];omega
 have e2:((P:Int) != (S:Int))=true:=by rw [bne,e1];rfl
 clear h
 go_enter Tryz.func106,Tryz.ntmps106
 go_wp2
 go_ret
 exact ⟨rfl,hb⟩
theorem isSquare_yes (s rb x:ByteArray) (is:Bool) (P:Nat) (h1:CR 151 #[.string rb] (.tuple #[.string x,.bool is])) (w:World) (R:EnvR w) :
   Calls Tryz.prog 106 #[.agg #[.string s,.string rb,.int .u64 (P:Int),.int .u64 (P:Int)]] w (Ret w (.bool is)):=by
 have hb:Below w.heap.size w (w.alloc (Obj.cells #[Value.string s,Value.string rb,Value.int .u64 (P:Int),Value.int .u64 (P:Int)] 149)):=(Below.refl _ _).alloc (Nat.le_refl _) _
 have C1:=Lib.hid h1
 clear h1
 go_enter Tryz.func106,Tryz.ntmps106
 go_wp2_with (go_at_call 151;with_reducible refine (chRA hb R C1).mono ?_;clear hb;rintro e w1 ⟨rfl,hb⟩)
 go_ret
 exact ⟨rfl,hb⟩
theorem isSquare_any (s:ByteArray) (r:Nat) (hr:dlen (r:Int)≤10000) (w:World) (R:EnvR w) :
   Calls Tryz.prog 106 #[.agg #[.string s,.string (itoaB (r:Int)),.int .u64 (pmK r 14:Nat),.int .u64 (smK r 14:Nat)]] w (Ret w (.bool (sqN r))):=by
 by_cases h:pmK r 14=smK r 14
 · rw [← h]
   exact isSquare_yes s _ _ _ _ (fun w R=>sqRoot_any r hr w R) w R
 · have:sqN r=false:=by
     cases e:sqN r with
     | false=>rfl
     | true=>obtain ⟨t,ht⟩:=sqN_iff.1 e;exact absurd (mark_sq ht) h
   rw [this]
   exact isSquare_no s _ _ _ h w
theorem text_eq {a b:ByteArray} (h:a=b):(a.toList == b.toList)=true:=by rw [h];exact beq_self_eq_true _
theorem text_ne {a b:ByteArray} (h:a≠b):(a.toList == b.toList)=false:=by
 rw [beq_eq_false_iff_ne]
 intro e
 rw [Lib.toList_data,Lib.toList_data] at e
 exact h (dat_inj e)
theorem common_same (s t rb:ByteArray) (P S P2 S2:Nat) (w:World) :
   Calls Tryz.prog 145 #[.agg #[.string s,.string rb,.int .u64 (P:Int),.int .u64 (S:Int)],.agg #[.string t,.string rb,.int .u64 (P2:Int),.int .u64 (S2:Int)]] w (Ret w (.tuple #[.string rb,.bool true])):=by
 have hb:=((Below.refl w.heap.size w).alloc (Nat.le_refl _) (Obj.cells #[Value.string s,Value.string rb,Value.int .u64 (P:Int),Value.int .u64 (S:Int)] 149)).alloc (by simp) (Obj.cells #[Value.string t,Value.string rb,Value.int .u64 (P2:Int),Value.int .u64 (S2:Int)] 149)
 have e1:(rb.toList == rb.toList)=true:=beq_self_eq_true _
 go_enter Tryz.func145,Tryz.ntmps145
 go_wp2
 go_ret2
 exact ⟨rfl,hb⟩
theorem common_no (s t ra rb:ByteArray) (P S P2 S2 A X Y:Nat) (h:ra≠rb) (hA:bits .and .u64 (P:Int) (P2:Int)=(A:Int)) (hX:bits .xor .u64 (S:Int) (S2:Int)=(X:Int)) (hY:bits .and .u64 (A:Int) (X:Int)=(Y:Int)) (hY0:Y≠0) (w:World) :
   Calls Tryz.prog 145 #[.agg #[.string s,.string ra,.int .u64 (P:Int),.int .u64 (S:Int)],.agg #[.string t,.string rb,.int .u64 (P2:Int),.int .u64 (S2:Int)]] w (Ret w (.tuple #[.string ⟨#[]⟩,.bool false])):=by
 have hb:=((Below.refl w.heap.size w).alloc (Nat.le_refl _) (Obj.cells #[Value.string s,Value.string ra,Value.int .u64 (P:Int),Value.int .u64 (S:Int)] 149)).alloc (by simp) (Obj.cells #[Value.string t,Value.string rb,Value.int .u64 (P2:Int),Value.int .u64 (S2:Int)] 149)
 have e1:=text_ne h
 have e2:((Y:Int) == 0)=false:=by simp only [beq_eq_false_iff_ne,ne_eq];omega
 have e3:((Y:Int) != 0)=true:=by rw [bne,e2];rfl
 clear h hY0
 go_enter Tryz.func145,Tryz.ntmps145
 go_wp2
 go_ret2
 exact ⟨rfl,hb⟩
theorem common_root (s t ra rb m x:ByteArray) (is:Bool) (P S P2 S2 A X:Nat) (h:ra≠rb) (hA:bits .and .u64 (P:Int) (P2:Int)=(A:Int)) (hX:bits .xor .u64 (S:Int) (S2:Int)=(X:Int)) (hY:bits .and .u64 (A:Int) (X:Int)=0)
   (h1:CR 96 #[.string ra,.string rb] (.string m)) (h2:CR 151 #[.string m] (.tuple #[.string x,.bool is])) (w:World) (R:EnvR w) :
   Calls Tryz.prog 145 #[.agg #[.string s,.string ra,.int .u64 (P:Int),.int .u64 (S:Int)],.agg #[.string t,.string rb,.int .u64 (P2:Int),.int .u64 (S2:Int)]] w (Ret w (.tuple #[.string x,.bool is])):=by
 have hb:=((Below.refl w.heap.size w).alloc (Nat.le_refl _) (Obj.cells #[Value.string s,Value.string ra,Value.int .u64 (P:Int),Value.int .u64 (S:Int)] 149)).alloc (by simp) (Obj.cells #[Value.string t,Value.string rb,Value.int .u64 (P2:Int),Value.int .u64 (S2:Int)] 149)
 have e1:=text_ne h
 have C1:=Lib.hid h1
 have C2:=Lib.hid h2
 clear h h1 h2
 go_enter Tryz.func145,Tryz.ntmps145
 go_wp2_with ((first | (go_at_call 96;with_reducible refine (chRA hb R C1).mono ?_) | (go_at_call 151;with_reducible refine (chRA hb R C2).mono ?_));clear hb;rintro e w1 ⟨rfl,hb⟩)
 go_ret2
 exact ⟨rfl,hb⟩
theorem common_any (s t:ByteArray) (a b:Nat) (ha:dlen (a:Int)≤4000) (hb:dlen (b:Int)≤4000) (w:World) (R:EnvR w) :
   Calls Tryz.prog 145 #[.agg #[.string s,.string (itoaB (a:Int)),.int .u64 (pmK a 14:Nat),.int .u64 (smK a 14:Nat)],.agg #[.string t,.string (itoaB (b:Int)),.int .u64 (pmK b 14:Nat),.int .u64 (smK b 14:Nat)]] w (Ret w (.tuple #[.string (rootS (a*b)),.bool (sqN (a*b))])):=by
 by_cases he:a=b
 · subst he
   have h1:sqN (a*a)=true:=sqN_iff.2 ⟨a,rfl⟩
   have h2:rootS (a*a)=itoaB (a:Int):=by
     unfold rootS
     rw [h1,show rootN (a*a)=a from rootN_eq ⟨Nat.le_refl _,Nat.mul_self_lt_mul_self (Nat.lt_succ_self a)⟩];rfl
   rw [h1,h2]
   exact common_same s t _ _ _ _ _ w
 · have hne:itoaB (a:Int)≠itoaB (b:Int):=fun e=>he (by have:=itoa_inj e;omega)
   have b1:=pmK_lt a 14
   have b2:=pmK_lt b 14
   have b3:=smK_lt a 14
   have b4:=smK_lt b 14
   have b5:pmK a 14 &&& pmK b 14 < 2 ^ 14:=Nat.and_lt_two_pow _ b2
   have b6:smK a 14 ^^^ smK b 14 < 2 ^ 14:=Nat.xor_lt_two_pow b3 b4
   have hA:=u64_and_nat (pmK a 14) (pmK b 14) (by omega) (by omega)
   have hX:=u64_xor_nat (smK a 14) (smK b 14) (by omega) (by omega)
   have hY:=u64_and_nat (pmK a 14 &&& pmK b 14) (smK a 14 ^^^ smK b 14) (by omega) (by omega)
   by_cases h0:(pmK a 14 &&& pmK b 14) &&& (smK a 14 ^^^ smK b 14)=0
   · rw [h0] at hY
     exact common_root s t _ _ _ _ _ _ _ _ _ _ _ hne hA hX hY (fun w R=>mul_any (a:Int) (b:Int) w R.env (by omega) (by omega)) (fun w R=>by
       have:=sqRoot_any (a*b) (by rw [Int.natCast_mul];exact Nat.le_trans (dlen_mul _ _ 4000 4000 (by decide) ha hb) (by decide)) w R
       rwa [Int.natCast_mul] at this) w R
   · have hn:sqN (a*b)=false:=by
       cases e:sqN (a*b) with
       | false=>rfl
       | true=>obtain ⟨r,hr⟩:=sqN_iff.1 e;exact absurd (mark_alike hr) h0
     have h2:rootS (a*b)=⟨#[]⟩:=by unfold rootS;rw [hn];rfl
     rw [hn,h2]
     exact common_no s t _ _ _ _ _ _ _ _ _ hne hA hX hY h0 w
theorem isAlike_w (s t ra rb x:ByteArray) (is:Bool) (P S P2 S2:Nat)
   (h1:CR 145 #[.agg #[.string s,.string ra,.int .u64 (P:Int),.int .u64 (S:Int)],.agg #[.string t,.string rb,.int .u64 (P2:Int),.int .u64 (S2:Int)]] (.tuple #[.string x,.bool is])) (w:World) (R:EnvR w) :
   Calls Tryz.prog 108 #[.agg #[.string s,.string ra,.int .u64 (P:Int),.int .u64 (S:Int)],.agg #[.string t,.string rb,.int .u64 (P2:Int),.int .u64 (S2:Int)]] w (Ret w (.bool is)):=by
 have hb:=((Below.refl w.heap.size w).alloc (Nat.le_refl _) (Obj.cells #[Value.string s,Value.string ra,Value.int .u64 (P:Int),Value.int .u64 (S:Int)] 149)).alloc (by simp) (Obj.cells #[Value.string t,Value.string rb,Value.int .u64 (P2:Int),Value.int .u64 (S2:Int)] 149)
 have C1:=Lib.hid h1
 clear h1
 go_enter Tryz.func108,Tryz.ntmps108
 go_wp2_with (go_at_call 145;with_reducible refine (chRA hb R C1).mono ?_;clear hb;rintro e w1 ⟨rfl,hb⟩)
 go_ret
 exact ⟨rfl,hb⟩
theorem isAlike_any (s t:ByteArray) (a b:Nat) (ha:dlen (a:Int)≤4000) (hb:dlen (b:Int)≤4000) (w:World) (R:EnvR w) :
   Calls Tryz.prog 108 #[.agg #[.string s,.string (itoaB (a:Int)),.int .u64 (pmK a 14:Nat),.int .u64 (smK a 14:Nat)],.agg #[.string t,.string (itoaB (b:Int)),.int .u64 (pmK b 14:Nat),.int .u64 (smK b 14:Nat)]] w (Ret w (.bool (sqN (a*b)))):=
 isAlike_w s t _ _ _ _ _ _ _ _ (fun w R=>common_any s t a b ha hb w R) w R
end Go.Proofs.YtpphjnekkjeacaaGreatDoor.Kl
