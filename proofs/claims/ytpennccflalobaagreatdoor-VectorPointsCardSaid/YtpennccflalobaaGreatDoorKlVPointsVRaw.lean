import Derived.Test.YtpennccflalobaaGreatDoorKlVPointsVX
import Derived.Test.YtpennccflalobaaGreatDoorKlBVYZ
namespace Go.Proofs.YtpennccflalobaaGreatDoor.Kl
open Go Go.RowKit
set_option maxRecDepth 100000
set_option maxHeartbeats 8000000
theorem rat_of {s:ByteArray} (h:IsRat s.data.toList):∃ q:Rat,s=ratB q∧RL q 200:=by
 obtain ⟨q,e,hq⟩:=h
 refine ⟨q,?_,hq⟩
 unfold ratB strOf
 rw [← e]
theorem ne2 : (2:Int)≠0:=by decide
theorem li_ne {s t:ByteArray} (h:s≠t):(s.toList == t.toList)=false:=by
 refine beq_eq_false_iff_ne.2 (fun g=>h ?_)
 rw [Lib.toList_data,Lib.toList_data] at g
 exact ByteArray.ext (Array.toList_inj.1 g)
theorem li_ne2 {s t:ByteArray} (h:s≠t):¬ s.toList=t.toList:=fun g=>by
 have:=li_ne h
 rw [g] at this;simp at this
theorem not_rat_x : ¬ IsRat (⟨#[120]⟩:ByteArray).data.toList:=fun h=>absurd ((isRat_nos (l:=[120]) (by decide)).1 h) (by decide +kernel)
theorem check2_raw  (a b:ByteArray) (v:Int) (h0:(IsRat a.data.toList∧IsRat b.data.toList)→v=0) (h2:¬ (IsRat a.data.toList∧IsRat b.data.toList)→v=2) (za:a.size≤100000) (zb:b.size≤100000) (w:World) (R:EnvV w) :
   Calls Tryz.prog 17 #[.agg #[.string a,.string b]] w (Ret w (.int .i64 v)):=by
 have c1:=fun (w:World) (R:EnvV w)=>numCheck2 a b v h0 h2 za zb w R.toEnvR
 have C1:=Lib.hid c1
 clear c1 h0 h2 za zb
 have hb:=Below.refl w.heap.size w
 go_enter Tryz.func17,Tryz.ntmps17
 go_upto_region 1 with fail
 refine wp_alloc1 (fun w1 a0 hk=>?_)
 replace hb:=hb.trans (hk.mono hb.size)
 clear hk
 obtain ⟨Aa,Ab⟩:=ce2 a0
 go_wp2_with (go_at_call 67;with_reducible refine (zL hb (C1.out _ (R.below hb))).mono ?_;clear hb;rintro e w1 ⟨rfl,hk,hb⟩;clear Aa Ab;replace a0:=zB hk a0;obtain ⟨Aa,Ab⟩:=ce2 a0;clear hk)
 first | go_ret | go_ret2 | go_ret3
 exact ⟨rfl,hb⟩
theorem right2_0  (a b:ByteArray) (ia:¬ IsRat a.data.toList) (za:a.size≤100000) (_zb:b.size≤100000) (w:World) (R:EnvV w) :
   Calls Tryz.prog 68 #[.agg #[.string a,.string b]] w (Ret w (.bool false)):=by
 have c1:=fun (w:World) (R:EnvV w)=>refRRight_any a false ⟨(fun h=>by cases h),fun h=>absurd h ia⟩ za w R.toEnvR
 have C1:=Lib.hid c1
 clear c1 ia za _zb
 have hb:=Below.refl w.heap.size w
 go_enter Tryz.func68,Tryz.ntmps68
 go_upto_region 1 with fail
 refine wp_alloc1 (fun w1 a0 hk=>?_)
 replace hb:=hb.trans (hk.mono hb.size)
 clear hk
 obtain ⟨Aa,Ab⟩:=ce2 a0
 go_wp2_with (go_at_call 28;with_reducible refine (chVB hb R C1).mono ?_;clear hb;rintro e w1 ⟨rfl,hk,hb⟩;clear Aa Ab;replace a0:=zB hk a0;obtain ⟨Aa,Ab⟩:=ce2 a0;clear hk)
 first | go_ret | go_ret2 | go_ret3
 exact ⟨rfl,hb⟩
theorem right2_1  (a b:ByteArray) (ia:IsRat a.data.toList) (ib:¬ IsRat b.data.toList) (za:a.size≤100000) (zb:b.size≤100000) (w:World) (R:EnvV w) :
   Calls Tryz.prog 68 #[.agg #[.string a,.string b]] w (Ret w (.bool false)):=by
 have c1:CV 28 #[.string a] (.bool true):=fun w R=>refRRight_any a true ⟨fun _=>ia,fun _=>rfl⟩ za w R.toEnvR
 have c2:=fun (w:World) (R:EnvV w)=>refRRight_any b false ⟨(fun h=>by cases h),fun h=>absurd h ib⟩ zb w R.toEnvR
 have C1:=Lib.hid c1
 have C2:=Lib.hid c2
 clear c1 c2 ia ib za zb
 have hb:=Below.refl w.heap.size w
 go_enter Tryz.func68,Tryz.ntmps68
 go_upto_region 1 with fail
 refine wp_alloc1 (fun w1 a0 hk=>?_)
 replace hb:=hb.trans (hk.mono hb.size)
 clear hk
 obtain ⟨Aa,Ab⟩:=ce2 a0
 go_wp2_with ((go_at_call 28;first | with_reducible refine (chVB hb R C1).mono ?_ | with_reducible refine (chVB hb R C2).mono ?_);clear hb;rintro e w1 ⟨rfl,hk,hb⟩;clear Aa Ab;replace a0:=zB hk a0;obtain ⟨Aa,Ab⟩:=ce2 a0;clear hk)
 first | go_ret | go_ret2 | go_ret3
 exact ⟨rfl,hb⟩
theorem right2_2  (a b:ByteArray) (ia:IsRat a.data.toList) (ib:IsRat b.data.toList) (za:a.size≤100000) (zb:b.size≤100000) (w:World) (R:EnvV w) :
   Calls Tryz.prog 68 #[.agg #[.string a,.string b]] w (Ret w (.bool true)):=by
 have c1:CV 28 #[.string a] (.bool true):=fun w R=>refRRight_any a true ⟨fun _=>ia,fun _=>rfl⟩ za w R.toEnvR
 have c2:CV 28 #[.string b] (.bool true):=fun w R=>refRRight_any b true ⟨fun _=>ib,fun _=>rfl⟩ zb w R.toEnvR
 have C1:=Lib.hid c1
 have C2:=Lib.hid c2
 clear c1 c2 ia ib za zb
 have hb:=Below.refl w.heap.size w
 go_enter Tryz.func68,Tryz.ntmps68
 go_upto_region 1 with fail
 refine wp_alloc1 (fun w1 a0 hk=>?_)
 replace hb:=hb.trans (hk.mono hb.size)
 clear hk
 obtain ⟨Aa,Ab⟩:=ce2 a0
 go_wp2_with ((go_at_call 28;first | with_reducible refine (chVB hb R C1).mono ?_ | with_reducible refine (chVB hb R C2).mono ?_);clear hb;rintro e w1 ⟨rfl,hk,hb⟩;clear Aa Ab;replace a0:=zB hk a0;obtain ⟨Aa,Ab⟩:=ce2 a0;clear hk)
 first | go_ret | go_ret2 | go_ret3
 exact ⟨rfl,hb⟩
theorem right2_raw (a b:ByteArray) (r:Bool) (hr:r=true↔(IsRat a.data.toList∧IsRat b.data.toList)) (za:a.size≤100000) (zb:b.size≤100000) (w:World) (R:EnvV w) :
   Calls Tryz.prog 68 #[.agg #[.string a,.string b]] w (Ret w (.bool r)):=by
 by_cases ia:IsRat a.data.toList
 · skip
   by_cases ib:IsRat b.data.toList
   · skip
     obtain rfl:r=true:=hr.2 ⟨ia,ib⟩
     exact right2_2 a b ia ib za zb w R
   · obtain rfl:r=false:=Bool.eq_false_iff.2 (fun h=>ib (hr.1 h).2)
     exact right2_1 a b ia ib za zb w R
 · obtain rfl:r=false:=Bool.eq_false_iff.2 (fun h=>ia (hr.1 h).1)
   exact right2_0 a b ia za zb w R
theorem of2_t  (a b:ByteArray) (h:(IsRat a.data.toList∧IsRat b.data.toList)) (za:a.size≤100000) (zb:b.size≤100000) (w:World) (R:EnvV w) :
   Calls Tryz.prog 18 #[.agg #[.string a,.string b]] w (Ret w (.int .i64 0)):=by
 have c1:CV 68 #[.agg #[.string a,.string b]] (.bool true):=fun w R=>right2_raw a b true ⟨fun _=>h,fun _=>rfl⟩ za zb w R
 have C1:=Lib.hid c1
 clear c1 h za zb
 have hb:=Below.refl w.heap.size w
 go_enter Tryz.func18,Tryz.ntmps18
 go_upto_region 1 with fail
 refine wp_alloc1 (fun w1 a0 hk=>?_)
 replace hb:=hb.trans (hk.mono hb.size)
 clear hk
 obtain ⟨Aa,Ab⟩:=ce2 a0
 go_wp2_with (go_at_call 68;with_reducible refine (chVB hb R C1).mono ?_;clear hb;rintro e w1 ⟨rfl,hk,hb⟩;clear Aa Ab;replace a0:=zB hk a0;obtain ⟨Aa,Ab⟩:=ce2 a0;clear hk)
 first | go_ret | go_ret2 | go_ret3
 exact ⟨rfl,hb⟩
theorem of2_f  (a b:ByteArray) (h:¬ (IsRat a.data.toList∧IsRat b.data.toList)) (za:a.size≤100000) (zb:b.size≤100000) (w:World) (R:EnvV w) :
   Calls Tryz.prog 18 #[.agg #[.string a,.string b]] w (Ret w (.int .i64 2)):=by
 have c1:=right2_raw a b false ⟨(fun h=>by cases h),fun k=>absurd k h⟩ za zb
 have C1:=Lib.hid c1
 clear c1 h za zb
 have hb:=Below.refl w.heap.size w
 go_enter Tryz.func18,Tryz.ntmps18
 go_upto_region 1 with fail
 refine wp_alloc1 (fun w1 a0 hk=>?_)
 replace hb:=hb.trans (hk.mono hb.size)
 clear hk
 obtain ⟨Aa,Ab⟩:=ce2 a0
 go_wp2_with (go_at_call 68;with_reducible refine (chVB hb R C1).mono ?_;clear hb;rintro e w1 ⟨rfl,hk,hb⟩;clear Aa Ab;replace a0:=zB hk a0;obtain ⟨Aa,Ab⟩:=ce2 a0;clear hk)
 first | go_ret | go_ret2 | go_ret3
 exact ⟨rfl,hb⟩
theorem of2_raw (a b:ByteArray) (v:Int) (h0:(IsRat a.data.toList∧IsRat b.data.toList)→v=0) (h2:¬ (IsRat a.data.toList∧IsRat b.data.toList)→v=2) (za:a.size≤100000) (zb:b.size≤100000) (w:World) (R:EnvV w) :
   Calls Tryz.prog 18 #[.agg #[.string a,.string b]] w (Ret w (.int .i64 v)):=by
 by_cases h:IsRat a.data.toList∧IsRat b.data.toList
 · obtain rfl:=h0 h
   exact of2_t a b h za zb w R
 · obtain rfl:=h2 h
   exact of2_f a b h za zb w R
theorem checkPtsRaw_w (blk n c:Nat) (ps:List (ByteArray × ByteArray)) (cs:List Int) (hn:ps.length=n) (hl:cs.length=n) (_hnb:n≤10) (v:Int) (hv:firstNZ cs=v)
   (hp:∀ (j:Nat) (p:ByteArray × ByteArray) (t:Int),ps[j]? = some p→cs[j]? = some t→CV 17 #[.agg #[.string p.1,.string p.2]] (.int .i64 t)) (w:World) (R:EnvV w)
   (hc:∀ (j:Nat) (p:ByteArray × ByteArray),ps[j]? = some p→w.cell? ⟨blk,j*2,none⟩=some (.string p.1)∧w.cell? ⟨blk,j*2+1,none⟩=some (.string p.2)) :
   Calls Tryz.prog 95 #[.slice (some ⟨blk,0,none⟩) n c] w (Ret w (.int .i64 v)):=by
 have HC:=Lib.hid hc
 have HP:=Lib.hid hp
 have HV:=Lib.hid hv
 have HN:=Lib.hid hn
 have HL:=Lib.hid hl
 clear hc hp hv hn hl
 go_enter Tryz.func95,Tryz.ntmps95
 go_wp2
 go_loopw [8] (fun i wr=>∃ k:Nat,k≤n∧i = .int .i64 k∧(∀ t,t ∈ cs.take k→t=0)∧Below w.heap.size w wr) (fun i _=>n - (intOf i).toNat)
 case atStart=>exact ⟨0,Nat.zero_le _,rfl,by simp,Below.refl _ _⟩
 case round =>
   obtain ⟨k,hk,rfl,hall,hb⟩:=hrel
   have HA:=Lib.hid hall
   clear hall
   by_cases hlt:k < n
   · obtain ⟨⟨p,q⟩,ht⟩:∃ t,ps[k]? = some t:=⟨_,List.getElem?_eq_getElem (by rw [HN.out];exact hlt)⟩
     obtain ⟨t,hu⟩:∃ t,cs[k]? = some t:=⟨_,List.getElem?_eq_getElem (by rw [HL.out];exact hlt)⟩
     have x0:wr.cell? ⟨blk,k*2,none⟩=some (.string p):=zC hb (HC.out k _ ht).1
     have x1:wr.cell? ⟨blk,k*2+1,none⟩=some (.string q):=zC hb (HC.out k _ ht).2
     have CR:=Lib.hid (HP.out k _ _ ht hu)
     have HT:=Lib.hid hu
     clear ht hu
     by_cases hz:t=0
     · have HF:=Lib.hid hz
       go_wp2_with (go_at_call 17;(refine calls_alloc1 (fun w1 a9 hk=>?_));replace hb:=hb.trans (hk.mono hb.size);clear hk a9;(with_reducible refine (zK hb (CR.out _ (R.below hb))).mono ?_);clear hb;rintro e w1 ⟨rfl,hk2,hb⟩;clear hk2)
       go_roundw
       case rel =>
         refine ⟨k+1,by omega,by go_num,fun u hu=>?_,hb⟩
         rw [List.take_add_one,HT.out] at hu
         rcases List.mem_append.1 hu with h | h
         · exact HA.out u h
         · have:u=t:=by simpa using h
           rw [this];exact HF.out
       case measure=>simp [intOf];omega
     · have HG:Hid (t=v):=Lib.hid ((firstNZ_at cs k t HA.out HT.out hz).symm.trans HV.out)
       go_wp2_with (go_at_call 17;(refine calls_alloc1 (fun w1 a9 hk=>?_));replace hb:=hb.trans (hk.mono hb.size);clear hk a9;(with_reducible refine (zK hb (CR.out _ (R.below hb))).mono ?_);clear hb;rintro e w1 ⟨rfl,hk2,hb⟩;clear hk2)
       go_ret
       exact ⟨retI HG.out,hb⟩
   · have ek:k=n:=by omega
     have HG:Hid (0=v):=Lib.hid (by rw [← HV.out];symm;exact firstNZ_zero cs (fun t ht=>HA.out t (by rw [List.take_of_length_le (by rw [HL.out];omega)];exact ht)))
     go_wp2
     go_ret
     exact ⟨retI HG.out,hb⟩
set_option maxRecDepth 512 in
theorem checkPts2Raw (a0 a1 b0 b1:ByteArray) (ea eb v:Int) (ca:CV 17 #[.agg #[.string a0,.string a1]] (.int .i64 ea)) (cb:CV 17 #[.agg #[.string b0,.string b1]] (.int .i64 eb)) (hv:firstNZ [ea,eb]=v) (w:World) (R:EnvV w) :
   Calls Tryz.prog 95 #[.slice (some ⟨w.heap.size,0,none⟩) 2 2] (w.alloc (Obj.cells #[Value.string a0,Value.string a1,Value.string b0,Value.string b1] 30)) (Ret w (.int .i64 v)):=by
 have hba:Below w.heap.size w (w.alloc (Obj.cells #[Value.string a0,Value.string a1,Value.string b0,Value.string b1] 30)):=(Below.refl _ _).alloc (Nat.le_refl _) _
 refine (checkPtsRaw_w w.heap.size 2 2 [(a0,a1),(b0,b1)] [ea,eb] rfl rfl (by decide) v hv ?_ _ (R.below hba) ?_).mono fun e w' h=>⟨h.1,hba.trans (h.2.mono hba.size)⟩
 · intro j p t h1 h2
   match j,h1,h2 with
   | 0,h1,h2=>injection h1 with h1;injection h2 with h2;subst h1 h2;exact ca
   | 1,h1,h2=>injection h1 with h1;injection h2 with h2;subst h1 h2;exact cb
   | j+2,h1,_=>simp at h1
 · intro j t h
   match j,h with
   | 0,h=>injection h with h;subst h;simp [go_sem]
   | 1,h=>injection h with h;subst h;simp [go_sem]
   | j+2,h=>simp at h
set_option maxRecDepth 512 in
theorem checkPts3Raw (a0 a1 b0 b1 c0 c1:ByteArray) (ea eb ec v:Int) (ca:CV 17 #[.agg #[.string a0,.string a1]] (.int .i64 ea)) (cb:CV 17 #[.agg #[.string b0,.string b1]] (.int .i64 eb)) (cc:CV 17 #[.agg #[.string c0,.string c1]] (.int .i64 ec)) (hv:firstNZ [ea,eb,ec]=v) (w:World) (R:EnvV w) :
   Calls Tryz.prog 95 #[.slice (some ⟨w.heap.size,0,none⟩) 3 3] (w.alloc (Obj.cells #[Value.string a0,Value.string a1,Value.string b0,Value.string b1,Value.string c0,Value.string c1] 30)) (Ret w (.int .i64 v)):=by
 have hba:Below w.heap.size w (w.alloc (Obj.cells #[Value.string a0,Value.string a1,Value.string b0,Value.string b1,Value.string c0,Value.string c1] 30)):=(Below.refl _ _).alloc (Nat.le_refl _) _
 refine (checkPtsRaw_w w.heap.size 3 3 [(a0,a1),(b0,b1),(c0,c1)] [ea,eb,ec] rfl rfl (by decide) v hv ?_ _ (R.below hba) ?_).mono fun e w' h=>⟨h.1,hba.trans (h.2.mono hba.size)⟩
 · intro j p t h1 h2
   match j,h1,h2 with
   | 0,h1,h2=>injection h1 with h1;injection h2 with h2;subst h1 h2;exact ca
   | 1,h1,h2=>injection h1 with h1;injection h2 with h2;subst h1 h2;exact cb
   | 2,h1,h2=>injection h1 with h1;injection h2 with h2;subst h1 h2;exact cc
   | j+3,h1,_=>simp at h1
 · intro j t h
   match j,h with
   | 0,h=>injection h with h;subst h;simp [go_sem]
   | 1,h=>injection h with h;subst h;simp [go_sem]
   | 2,h=>injection h with h;subst h;simp [go_sem]
   | j+3,h=>simp at h
theorem turn_err  (ta0 ta1 tb0 tb1 tc0 tc1:ByteArray) (ea eb ec v:Int) (ca:CV 17 #[.agg #[.string ta0,.string ta1]] (.int .i64 ea)) (cb:CV 17 #[.agg #[.string tb0,.string tb1]] (.int .i64 eb)) (cc:CV 17 #[.agg #[.string tc0,.string tc1]] (.int .i64 ec)) (hv:firstNZ [ea,eb,ec]=v) (q0:v≠0) (w:World) (R:EnvV w) :
   Calls Tryz.prog 45 #[.agg #[.string ta0,.string ta1],.agg #[.string tb0,.string tb1],.agg #[.string tc0,.string tc1]] w (Ret w (.tuple #[.int .i64 0,.int .i64 v])):=by
 have c1:=checkPts3Raw ta0 ta1 tb0 tb1 tc0 tc1 ea eb ec v ca cb cc hv
 have eq0:(v == 0)=false:=beq_eq_false_iff_ne.2 q0
 have pq0:¬ v=0:=q0
 have C1:=Lib.hid c1
 clear c1 q0 ca cb cc hv
 have hb:=Below.refl w.heap.size w
 go_enter Tryz.func45,Tryz.ntmps45
 go_upto_region 1 with fail
 refine wp_alloc3 (fun w1 a0 a1 a2 hk=>?_)
 replace hb:=hb.trans (hk.mono hb.size)
 clear hk
 obtain ⟨Aa,Ab⟩:=ce2 a0
 obtain ⟨Ac,Ad⟩:=ce2 a1
 obtain ⟨Ae,Af⟩:=ce2 a2
 go_wp2_with (go_at_call 95;with_reducible refine (zL hb (C1.out _ (R.below hb))).mono ?_;clear hb;rintro e w1 ⟨rfl,hk,hb⟩;clear Aa Ab Ac Ad Ae Af;replace a0:=zB hk a0;replace a1:=zB hk a1;replace a2:=zB hk a2;obtain ⟨Aa,Ab⟩:=ce2 a0;obtain ⟨Ac,Ad⟩:=ce2 a1;obtain ⟨Ae,Af⟩:=ce2 a2;clear hk)
 first | go_ret | go_ret2 | go_ret3
 exact ⟨rfl,hb⟩
theorem area_err  (ta0 ta1 tb0 tb1 tc0 tc1:ByteArray) (ea eb ec v:Int) (ca:CV 17 #[.agg #[.string ta0,.string ta1]] (.int .i64 ea)) (cb:CV 17 #[.agg #[.string tb0,.string tb1]] (.int .i64 eb)) (cc:CV 17 #[.agg #[.string tc0,.string tc1]] (.int .i64 ec)) (hv:firstNZ [ea,eb,ec]=v) (q0:v≠0) (w:World) (R:EnvV w) :
   Calls Tryz.prog 46 #[.agg #[.string ta0,.string ta1],.agg #[.string tb0,.string tb1],.agg #[.string tc0,.string tc1]] w (Ret w (.tuple #[.string ⟨#[]⟩,.int .i64 v])):=by
 have c1:=checkPts3Raw ta0 ta1 tb0 tb1 tc0 tc1 ea eb ec v ca cb cc hv
 have eq0:(v == 0)=false:=beq_eq_false_iff_ne.2 q0
 have pq0:¬ v=0:=q0
 have C1:=Lib.hid c1
 clear c1 q0 ca cb cc hv
 have hb:=Below.refl w.heap.size w
 go_enter Tryz.func46,Tryz.ntmps46
 go_upto_region 1 with fail
 refine wp_alloc3 (fun w1 a0 a1 a2 hk=>?_)
 replace hb:=hb.trans (hk.mono hb.size)
 clear hk
 obtain ⟨Aa,Ab⟩:=ce2 a0
 obtain ⟨Ac,Ad⟩:=ce2 a1
 obtain ⟨Ae,Af⟩:=ce2 a2
 go_wp2_with (go_at_call 95;with_reducible refine (zL hb (C1.out _ (R.below hb))).mono ?_;clear hb;rintro e w1 ⟨rfl,hk,hb⟩;clear Aa Ab Ac Ad Ae Af;replace a0:=zB hk a0;replace a1:=zB hk a1;replace a2:=zB hk a2;obtain ⟨Aa,Ab⟩:=ce2 a0;obtain ⟨Ac,Ad⟩:=ce2 a1;obtain ⟨Ae,Af⟩:=ce2 a2;clear hk)
 first | go_ret | go_ret2 | go_ret3
 exact ⟨rfl,hb⟩
theorem between_err  (ta0 ta1 tb0 tb1 tc0 tc1:ByteArray) (ea eb ec v:Int) (ca:CV 17 #[.agg #[.string ta0,.string ta1]] (.int .i64 ea)) (cb:CV 17 #[.agg #[.string tb0,.string tb1]] (.int .i64 eb)) (cc:CV 17 #[.agg #[.string tc0,.string tc1]] (.int .i64 ec)) (hv:firstNZ [ea,eb,ec]=v) (q0:v≠0) (w:World) (R:EnvV w) :
   Calls Tryz.prog 47 #[.agg #[.string ta0,.string ta1],.agg #[.string tb0,.string tb1],.agg #[.string tc0,.string tc1]] w (Ret w (.tuple #[.bool false,.int .i64 v])):=by
 have c1:=checkPts3Raw ta0 ta1 tb0 tb1 tc0 tc1 ea eb ec v ca cb cc hv
 have eq0:(v == 0)=false:=beq_eq_false_iff_ne.2 q0
 have pq0:¬ v=0:=q0
 have C1:=Lib.hid c1
 clear c1 q0 ca cb cc hv
 have hb:=Below.refl w.heap.size w
 go_enter Tryz.func47,Tryz.ntmps47
 go_upto_region 1 with fail
 refine wp_alloc3 (fun w1 a0 a1 a2 hk=>?_)
 replace hb:=hb.trans (hk.mono hb.size)
 clear hk
 obtain ⟨Aa,Ab⟩:=ce2 a0
 obtain ⟨Ac,Ad⟩:=ce2 a1
 obtain ⟨Ae,Af⟩:=ce2 a2
 go_wp2_with (go_at_call 95;with_reducible refine (zL hb (C1.out _ (R.below hb))).mono ?_;clear hb;rintro e w1 ⟨rfl,hk,hb⟩;clear Aa Ab Ac Ad Ae Af;replace a0:=zB hk a0;replace a1:=zB hk a1;replace a2:=zB hk a2;obtain ⟨Aa,Ab⟩:=ce2 a0;obtain ⟨Ac,Ad⟩:=ce2 a1;obtain ⟨Ae,Af⟩:=ce2 a2;clear hk)
 first | go_ret | go_ret2 | go_ret3
 exact ⟨rfl,hb⟩
theorem through_err  (ta0 ta1 tb0 tb1:ByteArray) (ea eb v:Int) (ca:CV 17 #[.agg #[.string ta0,.string ta1]] (.int .i64 ea)) (cb:CV 17 #[.agg #[.string tb0,.string tb1]] (.int .i64 eb)) (hv:firstNZ [ea,eb]=v) (q0:v≠0) (w:World) (R:EnvV w) :
   Calls Tryz.prog 54 #[.agg #[.string ta0,.string ta1],.agg #[.string tb0,.string tb1]] w (Ret w (.tuple #[.agg #[.string ⟨#[]⟩,.string ⟨#[]⟩,.string ⟨#[]⟩],.int .i64 v])):=by
 have c1:=checkPts2Raw ta0 ta1 tb0 tb1 ea eb v ca cb hv
 have eq0:(v == 0)=false:=beq_eq_false_iff_ne.2 q0
 have pq0:¬ v=0:=q0
 have C1:=Lib.hid c1
 clear c1 q0 ca cb hv
 have hb:=Below.refl w.heap.size w
 go_enter Tryz.func54,Tryz.ntmps54
 go_upto_region 1 with fail
 refine wp_alloc3 (fun w1 a0 a1 a2 hk=>?_)
 replace hb:=hb.trans (hk.mono hb.size)
 clear hk
 obtain ⟨Ad,Ae⟩:=ce2 a0
 obtain ⟨Af,Ag⟩:=ce2 a1
 obtain ⟨Aa,Ah,Ab,Ai,Ac,Aj⟩:=cf3 a2
 go_wp2_with (go_at_call 95;with_reducible refine (zL hb (C1.out _ (R.below hb))).mono ?_;clear hb;rintro e w1 ⟨rfl,hk,hb⟩;clear Ad Ae Af Ag Aa Ab Ac Ah Ai Aj;replace a0:=zB hk a0;replace a1:=zB hk a1;replace a2:=zB hk a2;obtain ⟨Ad,Ae⟩:=ce2 a0;obtain ⟨Af,Ag⟩:=ce2 a1;obtain ⟨Aa,Ah,Ab,Ai,Ac,Aj⟩:=cf3 a2;clear hk)
 refine bodyPost_ret (v:=.tuple #[.agg #[.string ⟨#[]⟩,.string ⟨#[]⟩,.string ⟨#[]⟩],.int .i64 v]) (by simp [results,Tryz.results54,go_sem,Aa,Ab,Ac]) rfl ⟨rfl,?_⟩
 repeat' (first | exact hb | refine Below.setCell ?_ (by first | exact Nat.le_refl _ | (dsimp only;omega)) _)
theorem toward_err  (ta0 ta1 tb0 tb1 k:ByteArray) (ea eb ek u v:Int) (ca:CV 17 #[.agg #[.string ta0,.string ta1]] (.int .i64 ea)) (cb:CV 17 #[.agg #[.string tb0,.string tb1]] (.int .i64 eb)) (ck:CV 70 #[.string k] (.int .i64 ek)) (hu:firstNZ [ea,eb]=u) (hv:firstNZ [u,ek]=v) (q0:v≠0) (w:World) (R:EnvV w) :
   Calls Tryz.prog 48 #[.agg #[.string ta0,.string ta1],.agg #[.string tb0,.string tb1],.string k] w (Ret w (.tuple #[.agg #[.string ⟨#[]⟩,.string ⟨#[]⟩],.int .i64 v])):=by
 have c1:=checkPts2Raw ta0 ta1 tb0 tb1 ea eb u ca cb hu
 have c2:=ck
 have c3:=fun (w:World) (R:EnvV w)=>orErr2 u ek v hv w R.toEnvR
 have eq0:(v == 0)=false:=beq_eq_false_iff_ne.2 q0
 have pq0:¬ v=0:=q0
 have C1:=Lib.hid c1
 have C2:=Lib.hid c2
 have C3:=Lib.hid c3
 clear c1 c2 c3 q0 ca cb ck hu hv
 have hb:=Below.refl w.heap.size w
 go_enter Tryz.func48,Tryz.ntmps48
 go_upto_region 1 with fail
 refine wp_alloc3 (fun w1 a0 a1 a2 hk=>?_)
 replace hb:=hb.trans (hk.mono hb.size)
 clear hk
 obtain ⟨Ac,Ad⟩:=ce2 a0
 obtain ⟨Ae,Af⟩:=ce2 a1
 obtain ⟨Aa,Ag,Ab,Ah⟩:=cf2 a2
 go_wp2_with ((first | (go_at_call 95;with_reducible refine (zL hb (C1.out _ (R.below hb))).mono ?_) | (go_at_call 70;with_reducible refine (chVB hb R C2).mono ?_) | (go_at_call 69;with_reducible refine (zL hb (C3.out _ (R.below hb))).mono ?_));clear hb;rintro e w1 ⟨rfl,hk,hb⟩;clear Ac Ad Ae Af Aa Ab Ag Ah;replace a0:=zB hk a0;replace a1:=zB hk a1;replace a2:=zB hk a2;obtain ⟨Ac,Ad⟩:=ce2 a0;obtain ⟨Ae,Af⟩:=ce2 a1;obtain ⟨Aa,Ag,Ab,Ah⟩:=cf2 a2;clear hk)
 refine bodyPost_ret (v:=.tuple #[.agg #[.string ⟨#[]⟩,.string ⟨#[]⟩],.int .i64 v]) (by simp [results,Tryz.results48,go_sem,Aa,Ab]) rfl ⟨rfl,?_⟩
 repeat' (first | exact hb | refine Below.setCell ?_ (by first | exact Nat.le_refl _ | (dsimp only;omega)) _)
end Go.Proofs.YtpennccflalobaaGreatDoor.Kl
