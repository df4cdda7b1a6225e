import Derived.Test.YtpiiclmkbplkhaaGreatDoorKlLChecksCLQ
import Derived.Test.YtpiiclmkbplkhaaGreatDoorKlBLVZ
import Derived.Test.YtpiiclmkbplkhaaGreatDoorKlLChecksCLawLChecks
namespace Go.Proofs.YtpiiclmkbplkhaaGreatDoor.Kl
open Go Go.RowKit
set_option maxRecDepth 100000
set_option maxHeartbeats 8000000
theorem ldir_cases (ta tb tc:ByteArray) (sa:ta.size≤30) (sb:tb.size≤30) (sc:tc.size≤30) :
   (∃ v,LErr ta tb tc v)∨∃ a b c:Rat,ta=ratB a∧tb=ratB b∧tc=ratB c∧RL a 200∧RL b 200∧RL c 200∧(a≠0∨b≠0∨c≠0):=by
 by_cases h:IsRat ta.data.toList∧IsRat tb.data.toList∧IsRat tc.data.toList
 · obtain ⟨a,rfl,_⟩:=rat_of h.1
   obtain ⟨b,rfl,_⟩:=rat_of h.2.1
   obtain ⟨c,rfl,_⟩:=rat_of h.2.2
   by_cases g:a=0∧b=0∧c=0
   · obtain ⟨rfl,rfl,rfl⟩:=g
     exact Or.inl ⟨17,Or.inr ⟨⟨rb_0,rb_0,rb_0⟩,rfl⟩⟩
   · exact Or.inr ⟨a,b,c,rfl,rfl,rfl,(RL_of_size sa).mono (by decide),(RL_of_size sb).mono (by decide),(RL_of_size sc).mono (by decide),nz3R g⟩
 · exact Or.inl ⟨2,Or.inl ⟨h,rfl⟩⟩
theorem lawChecks (s0 s1 s2 s3 s4 s5:ByteArray) (z0:s0.size≤9223372036854775807) (z1:s1.size≤9223372036854775807) (z2:s2.size≤9223372036854775807) (z3:s3.size≤9223372036854775807) (z4:s4.size≤9223372036854775807) (z5:s5.size≤9223372036854775807) (w:World) (R:EnvV w) :
   Calls Tryz.prog 3 #[.agg #[.string s0,.string s1,.string s2],.agg #[.string s3,.string s4,.string s5]] w (Ret w (.bool true)):=by
 by_cases hu:s0.size≤30∧s1.size≤30∧s2.size≤30
 case neg=>exact lchecks_u s0 s1 s2 s3 s4 s5 (fun w R=>known16_any w R) (fun w R=>llong_t s0 s1 s2 hu z0 z1 z2 w R) w R
 by_cases hv:s3.size≤30∧s4.size≤30∧s5.size≤30
 case neg=>exact lchecks_v s0 s1 s2 s3 s4 s5 (fun w R=>known16_any w R) (fun w R=>llong_3 s0 s1 s2 hu.1 hu.2.1 hu.2.2 w R) (fun w R=>llong_t s3 s4 s5 hv z3 z4 z5 w R) w R
 have y0:s0.size≤100000:=by omega
 have y1:s1.size≤100000:=by omega
 have y2:s2.size≤100000:=by omega
 have y3:s3.size≤100000:=by omega
 have y4:s4.size≤100000:=by omega
 have y5:s5.size≤100000:=by omega
 have gv:∃ eb,CV 15 #[.agg #[.string s3,.string s4,.string s5]] (.int .i64 eb):=by
   rcases ldir_cases s3 s4 s5 hv.1 hv.2.1 hv.2.2 with ⟨v,e⟩ | ⟨a,b,c,rfl,rfl,rfl,ra,rb,rc,nz⟩
   · exact ⟨v,fun w R=>lcheck_err _ _ _ v e y3 y4 y5 w R⟩
   · exact ⟨0,fun w R=>lcheck_ok a b c nz ra rb rc w R⟩
 rcases ldir_cases s0 s1 s2 hu.1 hu.2.1 hu.2.2 with ⟨v,e⟩ | ⟨a,b,c,rfl,rfl,rfl,ra,rb,rc,nz⟩
 · obtain ⟨eb,cv⟩:=gv
   have hv0:=e.ne
   have cu:∀ w,EnvV w→_:=fun w R=>lcheck_err s0 s1 s2 v e y0 y1 y2 w R
   have fe:firstNZ [v,eb]=v:=firstNZ_at [v,eb] 0 v (fun y hy=>by simp at hy) rfl hv0
   have fe4:firstNZ [v,eb,v,v]=v:=firstNZ_at [v,eb,v,v] 0 v (fun y hy=>by simp at hy) rfl hv0
   exact lchecks_e1 s0 s1 s2 s3 s4 s5 v (fun w R=>known16_any w R) (fun w R=>llong_3 s0 s1 s2 hu.1 hu.2.1 hu.2.2 w R) (fun w R=>llong_3 s3 s4 s5 hv.1 hv.2.1 hv.2.2 w R) (fun w R=>scheck_err s0 s1 s2 v e y0 y1 y2 w R) cu (fun w R=>lSame_err s0 s1 s2 s3 s4 s5 v eb v cu cv fe hv0 w R) (fun w R=>lCmpTrend_err s0 s1 s2 s3 s4 s5 v eb v cu cv fe hv0 w R) (fun w R=>lCmpPlunge_err s0 s1 s2 s3 s4 s5 v eb v cu cv fe hv0 w R) (fun w R=>lAngle_err s0 s1 s2 s3 s4 s5 v eb v cu cv fe hv0 w R) (fun w R=>lCmpAngles_err s0 s1 s2 s3 s4 s5 v eb v cu cv fe4 hv0 w R) (fun w R=>lLies_err s0 s1 s2 s3 s4 s5 v eb v cu cv fe hv0 w R) (fun w R=>lIntersect_err s0 s1 s2 s3 s4 s5 v (fun w R=>lSame_err s0 s1 s2 s3 s4 s5 v eb v cu cv fe hv0 w R) hv0 w R) (fun w R=>lPitch_err s0 s1 s2 s3 s4 s5 v eb v cu cv fe hv0 w R) (fun w R=>lInterlimb_err s0 s1 s2 s3 s4 s5 v eb v cu cv fe hv0 w R) (fun w R=>lOf_err s0 s1 s2 v cu hv0 w R) (fun w R=>lTrend_err s0 s1 s2 v cu hv0 w R) (fun w R=>lPlunge_err s0 s1 s2 v cu hv0 w R) hv0 w R
 · have cu:∀ w,EnvV w→_:=fun w R=>lcheck_ok a b c nz ra rb rc w R
   rcases ldir_cases s3 s4 s5 hv.1 hv.2.1 hv.2.2 with ⟨v,e⟩ | ⟨a',b',c',rfl,rfl,rfl,ra',rb',rc',nz'⟩
   · have hv0:=e.ne
     have cv:∀ w,EnvV w→_:=fun w R=>lcheck_err s3 s4 s5 v e y3 y4 y5 w R
     have fe:firstNZ [0,v]=v:=firstNZ_at [0,v] 1 v (fun y hy=>by simpa using hy) rfl hv0
     have fe4:firstNZ [0,v,0,0]=v:=firstNZ_at [0,v,0,0] 1 v (fun y hy=>by simpa using hy) rfl hv0
     exact lchecks_e2 _ _ _ s3 s4 s5 v (fun w R=>known16_any w R) (fun w R=>llong_3 _ _ _ hu.1 hu.2.1 hu.2.2 w R) (fun w R=>llong_3 s3 s4 s5 hv.1 hv.2.1 hv.2.2 w R) (fun w R=>scheck_ok a b c nz ra rb rc w R) (fun w R=>scheck_err s3 s4 s5 v e y3 y4 y5 w R) cu (fun w R=>lSame_err _ _ _ s3 s4 s5 0 v v cu cv fe hv0 w R) (fun w R=>lCmpTrend_err _ _ _ s3 s4 s5 0 v v cu cv fe hv0 w R) (fun w R=>lCmpPlunge_err _ _ _ s3 s4 s5 0 v v cu cv fe hv0 w R) (fun w R=>lAngle_err _ _ _ s3 s4 s5 0 v v cu cv fe hv0 w R) (fun w R=>lCmpAngles_err _ _ _ s3 s4 s5 0 v v cu cv fe4 hv0 w R) (fun w R=>lLies_err _ _ _ s3 s4 s5 0 v v cu cv fe hv0 w R) (fun w R=>lIntersect_err _ _ _ s3 s4 s5 v (fun w R=>lSame_err _ _ _ s3 s4 s5 0 v v cu cv fe hv0 w R) hv0 w R) (fun w R=>lPitch_err _ _ _ s3 s4 s5 0 v v cu cv fe hv0 w R) (fun w R=>lInterlimb_err _ _ _ s3 s4 s5 0 v v cu cv fe hv0 w R) hv0 w R
   · exact lchecks_ok _ _ _ _ _ _ (fun w R=>known16_any w R) (fun w R=>llong_3 _ _ _ hu.1 hu.2.1 hu.2.2 w R) (fun w R=>llong_3 _ _ _ hv.1 hv.2.1 hv.2.2 w R) (fun w R=>scheck_ok a b c nz ra rb rc w R) (fun w R=>scheck_ok a' b' c' nz' ra' rb' rc' w R) cu w R
end Go.Proofs.YtpiiclmkbplkhaaGreatDoor.Kl
