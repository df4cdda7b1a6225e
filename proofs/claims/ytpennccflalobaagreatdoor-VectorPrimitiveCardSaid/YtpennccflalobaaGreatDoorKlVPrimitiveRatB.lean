import Derived.Test.YtpennccflalobaaGreatDoorKlVPrimitiveRatZ
namespace Go.Proofs.YtpennccflalobaaGreatDoor.Kl
open Go Go.RowKit
set_option maxRecDepth 100000
set_option maxHeartbeats 8000000
theorem refBrief_long (s:ByteArray) (h:9 < s.size) (w:World) (_R:EnvR w) :
   Calls Tryz.prog 108 #[.string s] w (Ret w (.tuple #[.int .i64 0,.int .i64 0,.bool false])):=by
 have h':(9:Int) < (s.size:Int):=by omega
 have hb:=Below.refl w.heap.size w
 go_enter Tryz.func108,Tryz.ntmps108
 go_wp2
 go_ret3
 exact ⟨rfl,hb⟩
theorem brief_step (s:ByteArray) (off:Nat) (D rest:List UInt8) (hs:s.data.toList.drop off=D ++ rest) (hD:D.all isDig=true) (j:Nat) (h0:off≤j) (h1:j < off+D.length) (h:j < s.size) :
   isDig s[j]=true∧val (D.take (j+1 - off))=val (D.take (j - off))*10+(s[j].toNat - 48):=by
 have e1:s.data.toList[j]? = some s[j]:=by
   rw [List.getElem?_eq_getElem (by rw [← size_len];exact h)];rfl
 have e2:D[j - off]? = some s[j]:=by
   have:(s.data.toList.drop off)[j - off]? = s.data.toList[j]?:=by rw [List.getElem?_drop,show off+(j - off)=j by omega]
   rw [hs,List.getElem?_append_left (by omega),e1] at this
   exact this
 refine ⟨List.all_eq_true.1 hD _ (List.mem_of_getElem? e2),?_⟩
 rw [show j+1 - off=(j - off)+1 by omega,List.take_add_one,e2]
 show val (D.take (j - off) ++ [s[j]])=_
 unfold val
 rw [valFrom_append,valFrom_cons,valFrom_nil]
theorem val_take_lt (D:List UInt8) (k N:Nat) (h:val D < N):val (D.take k) < N:=Nat.lt_of_le_of_lt (val_take_le D k) h
theorem byte_at_slash (s:ByteArray) (off:Nat) (D E:List UInt8) (hs:s.data.toList.drop off=D ++ 47 :: E) (h:off+D.length < s.size):((s[off+D.length].toNat:Int) == 47)=true:=by
 refine byte_eq (d:=47) rfl ?_
 have e1:s.data.toList[off+D.length]? = some s[off+D.length]:=by
   rw [List.getElem?_eq_getElem (by rw [← size_len];exact h)];rfl
 have e2:(s.data.toList.drop off)[D.length]? = s.data.toList[off+D.length]?:=by rw [List.getElem?_drop]
 rw [hs,e1,List.getElem?_append_right (Nat.le_refl _),Nat.sub_self] at e2
 exact (Option.some.inj e2).symm
theorem brief_pi (s:ByteArray) (D:List UInt8) (N:Nat) (hD:D.all isDig=true) (hN:val D=N) (hNb:N < 1000000000) (hsz:s.size≤9) (h0:0 < s.size) (h45:((s[0].toNat:Int) == 45)=false) (hs:s.data.toList.drop 0=D ++ []) (hl:s.size=D.length) (w:World) (_R:EnvR w) :
   Calls Tryz.prog 108 #[.string s] w (Ret w (.tuple #[.int .i64 (N:Int),.int .i64 1,.bool true])):=by
 have HS:=Lib.hid hs
 have HD:=Lib.hid hD
 have HN:=Lib.hid hN
 clear hs hD hN
 have h0':(0:Int) < (s.size:Int):=by omega
 have hsz':(s.size:Int)≤9:=by omega
 obtain ⟨L,hL⟩:∃ L,D.length=L:=⟨_,rfl⟩
 have HL:=Lib.hid hL
 rw [hL] at hl
 clear hL
 go_enter Tryz.func108,Tryz.ntmps108
 go_wp2
 go_loop [2,5] (fun x i=>∃ j V:Nat,0≤j∧j≤L∧i = .int .i64 j∧x = .int .i64 (V:Int)∧V=val (D.take (j - 0))∧V < 1000000000) (fun _ i=>20 - (intOf i).toNat)
 case atStart=>exact ⟨0,0,by omega,by omega,rfl,rfl,by simp [val,valFrom],by omega⟩
 case round =>
   obtain ⟨j,V,hj0,hj1,rfl,rfl,hV,hVb⟩:=hrel
   have HV:=Lib.hid hV
   clear hV
   by_cases hlt:j < L
   · have hjs:j < s.size:=by omega
     have hst:=brief_step s 0 D _ HS.out HD.out j hj0 (by rw [HL.out];omega) hjs
     have hd1:=isDig_iff.1 hst.1
     have hne:s[j]≠47:=dig_ne47 hst.1
     have h47a:((s[j].toNat:Int) == 47)=false:=byte_ne (d:=47) rfl hne
     have h47b:((s[j].toNat:Int) != 47)=true:=by rw [bne,h47a];rfl
     have hbd:val (D.take (j+1 - 0)) < 1000000000:=val_take_lt D _ _ (by rw [HN.out];exact hNb)
     have hnew:V*10+(s[j].toNat - 48)=val (D.take (j+1 - 0)):=by rw [hst.2,← HV.out]
     rw [← hnew] at hbd
     have HW:=Lib.hid hnew
     clear hst hne hnew
     go_wp2
     go_round
     case rel=>exact ⟨j+1,V*10+(s[j].toNat - 48),by omega,by omega,by go_num,by go_num,HW.out,hbd⟩
     case measure=>simp [intOf];omega
   · have ej:L=j:=by omega
     subst ej
     have eV:V=N:=by rw [HV.out,show L - 0=L by omega,← HL.out,List.take_length];exact HN.out
     subst eV
     have hge:¬ (((L:Nat):Int) < (s.size:Int)):=by omega
     go_wp2
     go_ret3
     exact ⟨retIIB (by omega) rfl rfl,Below.refl _ _⟩
theorem brief_pf (s:ByteArray) (D E:List UInt8) (N M:Nat) (hD:D.all isDig=true) (hN:val D=N) (hNb:N < 1000000000) (hsz:s.size≤9) (h0:0 < s.size) (h45:((s[0].toNat:Int) == 45)=false) (hE:E.all isDig=true) (hM:val E=M) (hMb:M < 1000000000) (hs:s.data.toList.drop 0=D ++ 47 :: E) (hl:s.size=D.length+1+E.length) (hs2:s.data.toList.drop (D.length+1)=E ++ []) (w:World) (_R:EnvR w) :
   Calls Tryz.prog 108 #[.string s] w (Ret w (.tuple #[.int .i64 (N:Int),.int .i64 (M:Int),.bool true])):=by
 have HS:=Lib.hid hs
 have HD:=Lib.hid hD
 have HN:=Lib.hid hN
 have HE:=Lib.hid hE
 have HM:=Lib.hid hM
 have HS2:=Lib.hid hs2
 have h47:∀ (h:D.length < s.size),((s[D.length].toNat:Int) == 47)=true:=fun h=>by have:=byte_at_slash s 0 D E hs (by omega);simpa only [Nat.zero_add] using this
 have H47:=Lib.hid h47
 clear hE hM hs2 h47
 clear hs hD hN
 have h0':(0:Int) < (s.size:Int):=by omega
 have hsz':(s.size:Int)≤9:=by omega
 obtain ⟨L,hL⟩:∃ L,D.length=L:=⟨_,rfl⟩
 have HL:=Lib.hid hL
 rw [hL] at hl
 rw [hL] at H47 HS2
 obtain ⟨K,hK⟩:∃ K,E.length=K:=⟨_,rfl⟩
 have HK:=Lib.hid hK
 rw [hK] at hl
 clear hK
 clear hL
 go_enter Tryz.func108,Tryz.ntmps108
 go_wp2
 go_loop [2,5] (fun x i=>∃ j V:Nat,0≤j∧j≤L∧i = .int .i64 j∧x = .int .i64 (V:Int)∧V=val (D.take (j - 0))∧V < 1000000000) (fun _ i=>20 - (intOf i).toNat)
 case atStart=>exact ⟨0,0,by omega,by omega,rfl,rfl,by simp [val,valFrom],by omega⟩
 case round =>
   obtain ⟨j,V,hj0,hj1,rfl,rfl,hV,hVb⟩:=hrel
   have HV:=Lib.hid hV
   clear hV
   by_cases hlt:j < L
   · have hjs:j < s.size:=by omega
     have hst:=brief_step s 0 D _ HS.out HD.out j hj0 (by rw [HL.out];omega) hjs
     have hd1:=isDig_iff.1 hst.1
     have hne:s[j]≠47:=dig_ne47 hst.1
     have h47a:((s[j].toNat:Int) == 47)=false:=byte_ne (d:=47) rfl hne
     have h47b:((s[j].toNat:Int) != 47)=true:=by rw [bne,h47a];rfl
     have hbd:val (D.take (j+1 - 0)) < 1000000000:=val_take_lt D _ _ (by rw [HN.out];exact hNb)
     have hnew:V*10+(s[j].toNat - 48)=val (D.take (j+1 - 0)):=by rw [hst.2,← HV.out]
     rw [← hnew] at hbd
     have HW:=Lib.hid hnew
     clear hst hne hnew
     go_wp2
     go_round
     case rel=>exact ⟨j+1,V*10+(s[j].toNat - 48),by omega,by omega,by go_num,by go_num,HW.out,hbd⟩
     case measure=>simp [intOf];omega
   · have ej:L=j:=by omega
     subst ej
     have eV:V=N:=by rw [HV.out,show L - 0=L by omega,← HL.out,List.take_length];exact HN.out
     subst eV
     have hlt2:L < s.size:=by omega
     have hlt3:(((L:Nat):Int) < (s.size:Int)):=by omega
     have h47a:=H47.out hlt2
     have h47b:((s[L].toNat:Int) != 47)=false:=by rw [bne,h47a];rfl
     go_wp2
     go_loop [3,5] (fun x i=>∃ j U:Nat,L+1≤j∧j≤L+1+K∧i = .int .i64 j∧x = .int .i64 (U:Int)∧U=val (E.take (j - (L+1)))∧U < 1000000000) (fun _ i=>20 - (intOf i).toNat)
     case atStart=>exact ⟨L+1,0,by omega,by omega,by go_num,rfl,by simp [val,valFrom],by omega⟩
     case round =>
       obtain ⟨j,U,hj0,hj1,rfl,rfl,hU,hUb⟩:=hrel
       have HU:=Lib.hid hU
       clear hU
       by_cases hlt:j < L+1+K
       · have hjs:j < s.size:=by omega
         have hst:=brief_step s (L+1) E _ HS2.out HE.out j hj0 (by rw [HK.out];omega) hjs
         have hd1:=isDig_iff.1 hst.1
         have hbd:val (E.take (j+1 - (L+1))) < 1000000000:=val_take_lt E _ _ (by rw [HM.out];exact hMb)
         have hnew:U*10+(s[j].toNat - 48)=val (E.take (j+1 - (L+1))):=by rw [hst.2,← HU.out]
         rw [← hnew] at hbd
         have HW:=Lib.hid hnew
         clear hst hnew
         go_wp2
         go_round
         case rel=>exact ⟨j+1,U*10+(s[j].toNat - 48),by omega,by omega,by go_num,by go_num,HW.out,hbd⟩
         case measure=>simp [intOf];omega
       · have ej:j=L+1+K:=by omega
         subst ej
         have eU:U=M:=by rw [HU.out,show L+1+K - (L+1)=K by omega,← HK.out,List.take_length];exact HM.out
         subst eU
         have hge:¬ (((L+1+K:Nat):Int) < (s.size:Int)):=by omega
         go_wp2
         go_ret3
         exact ⟨retIIB (by omega) rfl rfl,Below.refl _ _⟩
theorem brief_mi (s:ByteArray) (D:List UInt8) (N:Nat) (hD:D.all isDig=true) (hN:val D=N) (hNb:N < 1000000000) (hsz:s.size≤9) (h0:0 < s.size) (h45:((s[0].toNat:Int) == 45)=true) (hs:s.data.toList.drop 1=D ++ []) (hl:s.size=1+D.length) (w:World) (_R:EnvR w) :
   Calls Tryz.prog 108 #[.string s] w (Ret w (.tuple #[.int .i64 (-(N:Int)),.int .i64 1,.bool true])):=by
 have HS:=Lib.hid hs
 have HD:=Lib.hid hD
 have HN:=Lib.hid hN
 clear hs hD hN
 have h0':(0:Int) < (s.size:Int):=by omega
 have hsz':(s.size:Int)≤9:=by omega
 obtain ⟨L,hL⟩:∃ L,D.length=L:=⟨_,rfl⟩
 have HL:=Lib.hid hL
 rw [hL] at hl
 clear hL
 go_enter Tryz.func108,Tryz.ntmps108
 go_wp2
 go_loop [2,5] (fun x i=>∃ j V:Nat,1≤j∧j≤1+L∧i = .int .i64 j∧x = .int .i64 (V:Int)∧V=val (D.take (j - 1))∧V < 1000000000) (fun _ i=>20 - (intOf i).toNat)
 case atStart=>exact ⟨1,0,by omega,by omega,rfl,rfl,by simp [val,valFrom],by omega⟩
 case round =>
   obtain ⟨j,V,hj0,hj1,rfl,rfl,hV,hVb⟩:=hrel
   have HV:=Lib.hid hV
   clear hV
   by_cases hlt:j < 1+L
   · have hjs:j < s.size:=by omega
     have hst:=brief_step s 1 D _ HS.out HD.out j hj0 (by rw [HL.out];omega) hjs
     have hd1:=isDig_iff.1 hst.1
     have hne:s[j]≠47:=dig_ne47 hst.1
     have h47a:((s[j].toNat:Int) == 47)=false:=byte_ne (d:=47) rfl hne
     have h47b:((s[j].toNat:Int) != 47)=true:=by rw [bne,h47a];rfl
     have hbd:val (D.take (j+1 - 1)) < 1000000000:=val_take_lt D _ _ (by rw [HN.out];exact hNb)
     have hnew:V*10+(s[j].toNat - 48)=val (D.take (j+1 - 1)):=by rw [hst.2,← HV.out]
     rw [← hnew] at hbd
     have HW:=Lib.hid hnew
     clear hst hne hnew
     go_wp2
     go_round
     case rel=>exact ⟨j+1,V*10+(s[j].toNat - 48),by omega,by omega,by go_num,by go_num,HW.out,hbd⟩
     case measure=>simp [intOf];omega
   · have ej:j=1+L:=by omega
     subst ej
     have eV:V=N:=by rw [HV.out,show 1+L - 1=L by omega,← HL.out,List.take_length];exact HN.out
     subst eV
     have hge:¬ (((1+L:Nat):Int) < (s.size:Int)):=by omega
     go_wp2
     go_ret3
     exact ⟨retIIB (by omega) rfl rfl,Below.refl _ _⟩
theorem brief_mf (s:ByteArray) (D E:List UInt8) (N M:Nat) (hD:D.all isDig=true) (hN:val D=N) (hNb:N < 1000000000) (hsz:s.size≤9) (h0:0 < s.size) (h45:((s[0].toNat:Int) == 45)=true) (hE:E.all isDig=true) (hM:val E=M) (hMb:M < 1000000000) (hs:s.data.toList.drop 1=D ++ 47 :: E) (hl:s.size=1+D.length+1+E.length) (hs2:s.data.toList.drop (1+D.length+1)=E ++ []) (w:World) (_R:EnvR w) :
   Calls Tryz.prog 108 #[.string s] w (Ret w (.tuple #[.int .i64 (-(N:Int)),.int .i64 (M:Int),.bool true])):=by
 have HS:=Lib.hid hs
 have HD:=Lib.hid hD
 have HN:=Lib.hid hN
 have HE:=Lib.hid hE
 have HM:=Lib.hid hM
 have HS2:=Lib.hid hs2
 have h47:∀ (h:1+D.length < s.size),((s[1+D.length].toNat:Int) == 47)=true:=fun h=>byte_at_slash s 1 D E hs h
 have H47:=Lib.hid h47
 clear hE hM hs2 h47
 clear hs hD hN
 have h0':(0:Int) < (s.size:Int):=by omega
 have hsz':(s.size:Int)≤9:=by omega
 obtain ⟨L,hL⟩:∃ L,D.length=L:=⟨_,rfl⟩
 have HL:=Lib.hid hL
 rw [hL] at hl
 rw [hL] at H47 HS2
 obtain ⟨K,hK⟩:∃ K,E.length=K:=⟨_,rfl⟩
 have HK:=Lib.hid hK
 rw [hK] at hl
 clear hK
 clear hL
 go_enter Tryz.func108,Tryz.ntmps108
 go_wp2
 go_loop [2,5] (fun x i=>∃ j V:Nat,1≤j∧j≤1+L∧i = .int .i64 j∧x = .int .i64 (V:Int)∧V=val (D.take (j - 1))∧V < 1000000000) (fun _ i=>20 - (intOf i).toNat)
 case atStart=>exact ⟨1,0,by omega,by omega,rfl,rfl,by simp [val,valFrom],by omega⟩
 case round =>
   obtain ⟨j,V,hj0,hj1,rfl,rfl,hV,hVb⟩:=hrel
   have HV:=Lib.hid hV
   clear hV
   by_cases hlt:j < 1+L
   · have hjs:j < s.size:=by omega
     have hst:=brief_step s 1 D _ HS.out HD.out j hj0 (by rw [HL.out];omega) hjs
     have hd1:=isDig_iff.1 hst.1
     have hne:s[j]≠47:=dig_ne47 hst.1
     have h47a:((s[j].toNat:Int) == 47)=false:=byte_ne (d:=47) rfl hne
     have h47b:((s[j].toNat:Int) != 47)=true:=by rw [bne,h47a];rfl
     have hbd:val (D.take (j+1 - 1)) < 1000000000:=val_take_lt D _ _ (by rw [HN.out];exact hNb)
     have hnew:V*10+(s[j].toNat - 48)=val (D.take (j+1 - 1)):=by rw [hst.2,← HV.out]
     rw [← hnew] at hbd
     have HW:=Lib.hid hnew
     clear hst hne hnew
     go_wp2
     go_round
     case rel=>exact ⟨j+1,V*10+(s[j].toNat - 48),by omega,by omega,by go_num,by go_num,HW.out,hbd⟩
     case measure=>simp [intOf];omega
   · have ej:j=1+L:=by omega
     subst ej
     have eV:V=N:=by rw [HV.out,show 1+L - 1=L by omega,← HL.out,List.take_length];exact HN.out
     subst eV
     have hlt2:1+L < s.size:=by omega
     have hlt3:(((1+L:Nat):Int) < (s.size:Int)):=by omega
     have h47a:=H47.out hlt2
     have h47b:((s[1+L].toNat:Int) != 47)=false:=by rw [bne,h47a];rfl
     go_wp2
     go_loop [3,5] (fun x i=>∃ j U:Nat,1+L+1≤j∧j≤1+L+1+K∧i = .int .i64 j∧x = .int .i64 (U:Int)∧U=val (E.take (j - (1+L+1)))∧U < 1000000000) (fun _ i=>20 - (intOf i).toNat)
     case atStart=>exact ⟨1+L+1,0,by omega,by omega,by go_num,rfl,by simp [val,valFrom],by omega⟩
     case round =>
       obtain ⟨j,U,hj0,hj1,rfl,rfl,hU,hUb⟩:=hrel
       have HU:=Lib.hid hU
       clear hU
       by_cases hlt:j < 1+L+1+K
       · have hjs:j < s.size:=by omega
         have hst:=brief_step s (1+L+1) E _ HS2.out HE.out j hj0 (by rw [HK.out];omega) hjs
         have hd1:=isDig_iff.1 hst.1
         have hbd:val (E.take (j+1 - (1+L+1))) < 1000000000:=val_take_lt E _ _ (by rw [HM.out];exact hMb)
         have hnew:U*10+(s[j].toNat - 48)=val (E.take (j+1 - (1+L+1))):=by rw [hst.2,← HU.out]
         rw [← hnew] at hbd
         have HW:=Lib.hid hnew
         clear hst hnew
         go_wp2
         go_round
         case rel=>exact ⟨j+1,U*10+(s[j].toNat - 48),by omega,by omega,by go_num,by go_num,HW.out,hbd⟩
         case measure=>simp [intOf];omega
       · have ej:j=1+L+1+K:=by omega
         subst ej
         have eU:U=M:=by rw [HU.out,show 1+L+1+K - (1+L+1)=K by omega,← HK.out,List.take_length];exact HM.out
         subst eU
         have hge:¬ (((1+L+1+K:Nat):Int) < (s.size:Int)):=by omega
         go_wp2
         go_ret3
         exact ⟨retIIB (by omega) rfl rfl,Below.refl _ _⟩
theorem drop_past (D E:List UInt8):(D ++ 47 :: E).drop (D.length+1)=E:=by
 induction D with
 | nil=>rfl
 | cons a D ih=>simp
theorem head45 (q:Rat) (h0:0 < (ratB q).size) (b:Bool) (h:decide (q.num < 0)=b):(((ratB q)[0].toNat:Int) == 45)=b:=by
 have hn:=neg_of (ratB q) h0
 rw [show neg (ratB q).data.toList=decide (q.num < 0) from neg_ratS q,h] at hn
 cases b
 · exact byte_ne (d:=45) rfl (by simpa using hn.symm)
 · exact byte_eq (d:=45) rfl (by simpa using hn.symm)
theorem ratS_drop (q:Rat):(ratS q).drop (if q.num < 0 then 1 else 0)=Lib.decDigits q.num.natAbs ++ (if q.den=1 then [] else 47 :: Lib.decDigits q.den):=by
 have e0:(Lib.itoa q.num).drop (if q.num < 0 then 1 else 0)=Lib.decDigits q.num.natAbs:=by
   unfold Lib.itoa
   by_cases h:q.num < 0
   · rw [if_pos h,if_pos h];rfl
   · rw [if_neg h,if_neg h,List.drop_zero,show q.num.toNat=q.num.natAbs by omega]
 have el:(if q.num < 0 then 1 else 0)≤(Lib.itoa q.num).length:=by
   rw [itoa_len];have:=dlen_pos q.num;split <;> omega
 by_cases hd:q.den=1
 · rw [ratS_int hd,if_pos hd,List.append_nil,e0]
 · rw [ratS_frac hd,if_neg hd,List.drop_append_of_le_length el,e0,itoa_nat _ (Int.natCast_nonneg _),Int.toNat_natCast]
theorem short_parts (q:Rat) (h:(ratB q).size≤9):(-1000000000 < q.num∧q.num < 1000000000)∧(0 < (q.den:Int)∧(q.den:Int) < 1000000000):=by
 have hl:=ratS_len q
 rw [ratB_size] at h
 have h1:=dlen_lt q.num 9 (by omega)
 have h2:=dlen_lt (q.den:Int) 9 (by omega)
 have:=q.den_pos
 omega
theorem refBrief_short (q:Rat) (hs:(ratB q).size≤9) (w:World) (R:EnvR w) :
   Calls Tryz.prog 108 #[.string (ratB q)] w (Ret w (.tuple #[.int .i64 q.num,.int .i64 q.den,.bool true])):=by
 obtain ⟨b1,b2⟩:=short_parts q hs
 have h0:=ratB_pos q
 have hdr:=ratS_drop q
 have hln:=congrArg List.length hdr
 rw [List.length_drop,List.length_append] at hln
 have hsz:=ratB_size q
 have v1:=val_decDigits q.num.natAbs
 have v2:=val_decDigits q.den
 have d1:=decDigits_dig q.num.natAbs
 have d2:=decDigits_dig q.den
 by_cases hn:q.num < 0
 · rw [if_pos hn] at hdr hln
   have h45:=head45 q h0 _ (decide_eq_true hn)
   have hpos:=ratS_len q
   have:=dlen_pos q.num
   by_cases hd:q.den=1
   · rw [if_pos hd] at hdr hln
     rw [hd]
     have:=brief_mi (ratB q) _ _ d1 v1 (by omega) hs h0 h45 hdr (by simp only [List.length_nil] at hln;omega) w R
     rwa [show -((q.num.natAbs:Nat):Int)=q.num by omega] at this
   · rw [if_neg hd] at hdr hln
     rw [List.length_cons] at hln
     have hs2:(ratB q).data.toList.drop (1+(Lib.decDigits q.num.natAbs).length+1)=Lib.decDigits q.den ++ []:=by
       rw [List.append_nil,show 1+(Lib.decDigits q.num.natAbs).length+1=1+((Lib.decDigits q.num.natAbs).length+1) by omega,← List.drop_drop]
       exact (congrArg (List.drop ((Lib.decDigits q.num.natAbs).length+1)) hdr).trans (drop_past _ _)
     have:=brief_mf (ratB q) _ _ _ _ d1 v1 (by omega) hs h0 h45 d2 v2 (by omega) hdr (by omega) hs2 w R
     rwa [show -((q.num.natAbs:Nat):Int)=q.num by omega] at this
 · rw [if_neg hn] at hdr hln
   have h45:=head45 q h0 _ (decide_eq_false hn)
   by_cases hd:q.den=1
   · rw [if_pos hd] at hdr hln
     rw [hd]
     have:=brief_pi (ratB q) _ _ d1 v1 (by omega) hs h0 h45 hdr (by simp only [List.length_nil] at hln;omega) w R
     rwa [show ((q.num.natAbs:Nat):Int)=q.num by omega] at this
   · rw [if_neg hd] at hdr hln
     rw [List.length_cons] at hln
     have hs2:(ratB q).data.toList.drop ((Lib.decDigits q.num.natAbs).length+1)=Lib.decDigits q.den ++ []:=by
       rw [List.append_nil]
       rw [List.drop_zero] at hdr
       exact (congrArg (List.drop ((Lib.decDigits q.num.natAbs).length+1)) hdr).trans (drop_past _ _)
     have:=brief_pf (ratB q) _ _ _ _ d1 v1 (by omega) hs h0 h45 d2 v2 (by omega) hdr (by omega) hs2 w R
     rwa [show ((q.num.natAbs:Nat):Int)=q.num by omega] at this
end Go.Proofs.YtpennccflalobaaGreatDoor.Kl
