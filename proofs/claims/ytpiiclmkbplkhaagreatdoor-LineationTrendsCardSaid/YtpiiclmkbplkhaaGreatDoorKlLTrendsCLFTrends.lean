import Derived.Test.YtpiiclmkbplkhaaGreatDoorKlLTrendsCLVZ
import Derived.Test.YtpiiclmkbplkhaaGreatDoorKlLTrendsCLawLTrendsA
import Derived.Test.YtpiiclmkbplkhaaGreatDoorKlLTrendsCLawLTrendsB
import Derived.Test.YtpiiclmkbplkhaaGreatDoorKlLTrendsCLawLTrendsC
namespace Go.Proofs.YtpiiclmkbplkhaaGreatDoor.Kl
open Go Go.RowKit
set_option maxRecDepth 100000
set_option maxHeartbeats 8000000
theorem lawTrends (i0 i1 i2 d j0 j1 j2 e:Int) (bi0 : -128≤i0∧i0≤127) (bi1 : -128≤i1∧i1≤127) (bi2 : -128≤i2∧i2≤127) (bi3:0≤d∧d≤255) (bj0 : -128≤j0∧j0≤127) (bj1 : -128≤j1∧j1≤127) (bj2 : -128≤j2∧j2≤127) (bj3:0≤e∧e≤255) (w:World) (R:EnvV w) :
   Calls Tryz.prog 5 #[.agg #[.int .i8 i0,.int .i8 i1,.int .i8 i2,.int .u8 d],.agg #[.int .i8 j0,.int .i8 j1,.int .i8 j2,.int .u8 e]] w fun e_ w' => e_ = .returned (.bool true)∧Below w.heap.size w w':=by
 obtain ⟨X0,X1,X2,kX,bX,pX,rX,ca,ma⟩:=descr i0 i1 i2 d bi0 bi1 bi2 bi3
 obtain ⟨Y0,Y1,Y2,kY,bY,pY,rY,cb,mb⟩:=descr j0 j1 j2 e bj0 bj1 bj2 bj3
 by_cases zX:X0=0∧X1=0∧X2=0
 · exact ltrends_za i0 i1 i2 j0 j1 j2 _ _ _ d e (fun w R=>known16_any w R) ca (fun w _=>lzero_t zX w) w R
 by_cases zY:Y0=0∧Y1=0∧Y2=0
 · exact ltrends_zb i0 i1 i2 j0 j1 j2 _ _ _ _ _ _ d e (fun w R=>known16_any w R) ca (fun w _=>lzero_f zX w) cb (fun w _=>lzero_t zY w) w R
 have h:=DV_of bX pX rX zX
 have g:=DV_of bY pY rY zY
 have du:=dvTrend h
 have tu0:=tdivz h.nz
 have Aa:=tdivz g.nz
 have da:∀ w,EnvV w→_:=fun w (_:EnvV w)=>ldown_any X0 X1 X2 h.b0 h.b1 h.b2 h.nz w
 have db:∀ w,EnvV w→_:=fun w (_:EnvV w)=>ldown_any Y0 Y1 Y2 g.b0 g.b1 g.b2 g.nz w
 have bu0:=dn_bound X0 (dnG X0 X1 X2) 1000 h.b0
 have bu1:=dn_bound X1 (dnG X0 X1 X2) 1000 h.b1
 have bv0:=dn_bound Y0 (dnG Y0 Y1 Y2) 1000 g.b0
 have bv1:=dn_bound Y1 (dnG Y0 Y1 Y2) 1000 g.b1
 have cmp:=dvCmpTrend h g
 generalize X0.tdiv (dnG X0 X1 X2)=U0 at *
 generalize X1.tdiv (dnG X0 X1 X2)=U1 at *
 generalize X2.tdiv (dnG X0 X1 X2)=U2 at *
 generalize Y0.tdiv (dnG Y0 Y1 Y2)=V0 at *
 generalize Y1.tdiv (dnG Y0 Y1 Y2)=V1 at *
 generalize Y2.tdiv (dnG Y0 Y1 Y2)=V2 at *
 by_cases vu:U0=0∧U1=0
 · exact ltrends_v i0 i1 i2 j0 j1 j2 _ _ _ _ _ _ _ _ _ _ _ _ d e _ _ _ _ _ _ (fun w R=>known16_any w R) ca (fun w _=>lzero_f zX w) cb (fun w _=>lzero_f zY w) ma mb da db (fun w R=>dvTrend_v h (tu0.1 vu) w R) (fun w R=>dvCmpTrend_v h g (Or.inl (tu0.1 vu)) w R) (beq_iff_eq.2 vu.1) (beq_iff_eq.2 vu.2) w R
 have hu:=mt tu0.2 vu
 have tr:∀ w,EnvV w→_:=du hu
 by_cases vv:V0=0∧V1=0
 · have ct:∀ w,EnvV w→_:=fun w R=>dvCmpTrend_v h g (Or.inr (Aa.1 vv)) w R
   have ou:∀ w,EnvV w→_:=fun w (_:EnvV w)=>loct_w U0 U1 _ rfl w
   by_cases q:U0=0
   · exact ltrends_w1 i0 i1 i2 j0 j1 j2 _ _ _ _ _ _ _ _ _ _ _ _ d e _ _ _ _ _ _ _ (fun w R=>known16_any w R) ca (fun w _=>lzero_f zX w) cb (fun w _=>lzero_f zY w) ma mb da db tr ct ou (beq_iff_eq.2 q) (beq_eq_false_iff_ne.2 (fun k=>vu ⟨q,k⟩)) (beq_iff_eq.2 vv.1) (beq_iff_eq.2 vv.2) w R
   · exact ltrends_w0 i0 i1 i2 j0 j1 j2 _ _ _ _ _ _ _ _ _ _ _ _ d e _ _ _ _ _ _ _ (fun w R=>known16_any w R) ca (fun w _=>lzero_f zX w) cb (fun w _=>lzero_f zY w) ma mb da db tr ct ou (beq_eq_false_iff_ne.2 q) (beq_iff_eq.2 vv.1) (beq_iff_eq.2 vv.2) w R
 have hv:=mt Aa.2 vv
 have cm:∀ v:Int,cwI U0 U1 V0 V1=v→∀ w,EnvV w→_:=fun v hv' w R=>hv' ▸ cmp hu hv w R
 have key:=cwI_oct U0 U1 V0 V1 vu vv
 obtain ⟨p1,ep1⟩:∃ v,U0*V1=v:=⟨_,rfl⟩
 have bp1:=mulS (a:=1000*1000) bu0 bv1 (Nat.le_refl _)
 rw [ep1] at bp1
 have wp1:IntKind.i64.wrap (U0*V1)=p1:=by rw [ep1];exact wrapS _ (Nat.le_trans bp1 (by decide))
 obtain ⟨p2,ep2⟩:∃ v,U1*V0=v:=⟨_,rfl⟩
 have bp2:=mulS (a:=1000*1000) bu1 bv0 (Nat.le_refl _)
 rw [ep2] at bp2
 have wp2:IntKind.i64.wrap (U1*V0)=p2:=by rw [ep2];exact wrapS _ (Nat.le_trans bp2 (by decide))
 obtain ⟨tu,etu⟩:∃ v,p1 - p2=v:=⟨_,rfl⟩
 have wtu:IntKind.i64.wrap (p1 - p2)=tu:=by rw [etu];exact wrapS _ (by omega)
 rw [ep1,ep2,etu] at key
 have ou:∀ w,EnvV w→_:=fun w (_:EnvV w)=>loct_w U0 U1 _ rfl w
 have ov:∀ w,EnvV w→_:=fun w (_:EnvV w)=>loct_w V0 V1 _ rfl w
 generalize octI U0 U1=N at *
 generalize octI V0 V1=M at *
 rcases Int.lt_trichotomy N M with c | c | c
 · skip
   by_cases qu:U0=0
   · by_cases qv:V0=0
     · exact ltrends_11a i0 i1 i2 j0 j1 j2 _ _ _ _ _ _ _ _ _ _ _ _ d e _ _ _ _ _ _ _ _ _ _ _ (fun w R=>known16_any w R) ca (fun w _=>lzero_f zX w) cb (fun w _=>lzero_f zY w) ma mb da db tr (cm (-1) (by rw [key];(repeat' split) <;> omega)) ou ov wp1 wp2 wtu (beq_iff_eq.2 qu) (beq_eq_false_iff_ne.2 (fun k=>vu ⟨qu,k⟩)) (beq_iff_eq.2 qv) (beq_eq_false_iff_ne.2 (fun k=>vv ⟨qv,k⟩)) (decide_eq_true c) w R
     · exact ltrends_10a i0 i1 i2 j0 j1 j2 _ _ _ _ _ _ _ _ _ _ _ _ d e _ _ _ _ _ _ _ _ _ _ _ (fun w R=>known16_any w R) ca (fun w _=>lzero_f zX w) cb (fun w _=>lzero_f zY w) ma mb da db tr (cm (-1) (by rw [key];(repeat' split) <;> omega)) ou ov wp1 wp2 wtu (beq_iff_eq.2 qu) (beq_eq_false_iff_ne.2 (fun k=>vu ⟨qu,k⟩)) (beq_eq_false_iff_ne.2 qv) (decide_eq_true c) w R
   · by_cases qv:V0=0
     · exact ltrends_01a i0 i1 i2 j0 j1 j2 _ _ _ _ _ _ _ _ _ _ _ _ d e _ _ _ _ _ _ _ _ _ _ _ (fun w R=>known16_any w R) ca (fun w _=>lzero_f zX w) cb (fun w _=>lzero_f zY w) ma mb da db tr (cm (-1) (by rw [key];(repeat' split) <;> omega)) ou ov wp1 wp2 wtu (beq_eq_false_iff_ne.2 qu) (beq_iff_eq.2 qv) (beq_eq_false_iff_ne.2 (fun k=>vv ⟨qv,k⟩)) (decide_eq_true c) w R
     · exact ltrends_00a i0 i1 i2 j0 j1 j2 _ _ _ _ _ _ _ _ _ _ _ _ d e _ _ _ _ _ _ _ _ _ _ _ (fun w R=>known16_any w R) ca (fun w _=>lzero_f zX w) cb (fun w _=>lzero_f zY w) ma mb da db tr (cm (-1) (by rw [key];(repeat' split) <;> omega)) ou ov wp1 wp2 wtu (beq_eq_false_iff_ne.2 qu) (beq_eq_false_iff_ne.2 qv) (decide_eq_true c) w R
 · subst c
   rcases Int.lt_trichotomy tu 0 with cy | cy | cy
   · skip
     by_cases qu:U0=0
     · by_cases qv:V0=0
       · exact ltrends_11b i0 i1 i2 j0 j1 j2 _ _ _ _ _ _ _ _ _ _ _ _ d e _ _ _ _ _ _ _ _ _ _ (fun w R=>known16_any w R) ca (fun w _=>lzero_f zX w) cb (fun w _=>lzero_f zY w) ma mb da db tr (cm (-1) (by rw [key];(repeat' split) <;> omega)) ou ov wp1 wp2 wtu (beq_iff_eq.2 qu) (beq_eq_false_iff_ne.2 (fun k=>vu ⟨qu,k⟩)) (beq_iff_eq.2 qv) (beq_eq_false_iff_ne.2 (fun k=>vv ⟨qv,k⟩)) (decide_eq_false (Int.lt_irrefl _)) (beq_self_eq_true _) (decide_eq_true cy) w R
       · exact ltrends_10b i0 i1 i2 j0 j1 j2 _ _ _ _ _ _ _ _ _ _ _ _ d e _ _ _ _ _ _ _ _ _ _ (fun w R=>known16_any w R) ca (fun w _=>lzero_f zX w) cb (fun w _=>lzero_f zY w) ma mb da db tr (cm (-1) (by rw [key];(repeat' split) <;> omega)) ou ov wp1 wp2 wtu (beq_iff_eq.2 qu) (beq_eq_false_iff_ne.2 (fun k=>vu ⟨qu,k⟩)) (beq_eq_false_iff_ne.2 qv) (decide_eq_false (Int.lt_irrefl _)) (beq_self_eq_true _) (decide_eq_true cy) w R
     · by_cases qv:V0=0
       · exact ltrends_01b i0 i1 i2 j0 j1 j2 _ _ _ _ _ _ _ _ _ _ _ _ d e _ _ _ _ _ _ _ _ _ _ (fun w R=>known16_any w R) ca (fun w _=>lzero_f zX w) cb (fun w _=>lzero_f zY w) ma mb da db tr (cm (-1) (by rw [key];(repeat' split) <;> omega)) ou ov wp1 wp2 wtu (beq_eq_false_iff_ne.2 qu) (beq_iff_eq.2 qv) (beq_eq_false_iff_ne.2 (fun k=>vv ⟨qv,k⟩)) (decide_eq_false (Int.lt_irrefl _)) (beq_self_eq_true _) (decide_eq_true cy) w R
       · exact ltrends_00b i0 i1 i2 j0 j1 j2 _ _ _ _ _ _ _ _ _ _ _ _ d e _ _ _ _ _ _ _ _ _ _ (fun w R=>known16_any w R) ca (fun w _=>lzero_f zX w) cb (fun w _=>lzero_f zY w) ma mb da db tr (cm (-1) (by rw [key];(repeat' split) <;> omega)) ou ov wp1 wp2 wtu (beq_eq_false_iff_ne.2 qu) (beq_eq_false_iff_ne.2 qv) (decide_eq_false (Int.lt_irrefl _)) (beq_self_eq_true _) (decide_eq_true cy) w R
   · skip
     by_cases qu:U0=0
     · by_cases qv:V0=0
       · exact ltrends_11e i0 i1 i2 j0 j1 j2 _ _ _ _ _ _ _ _ _ _ _ _ d e _ _ _ _ _ _ _ _ _ _ (fun w R=>known16_any w R) ca (fun w _=>lzero_f zX w) cb (fun w _=>lzero_f zY w) ma mb da db tr (cm 0 (by rw [key];(repeat' split) <;> omega)) ou ov wp1 wp2 wtu (beq_iff_eq.2 qu) (beq_eq_false_iff_ne.2 (fun k=>vu ⟨qu,k⟩)) (beq_iff_eq.2 qv) (beq_eq_false_iff_ne.2 (fun k=>vv ⟨qv,k⟩)) (decide_eq_false (Int.lt_irrefl _)) (beq_self_eq_true _) (decide_eq_false (by omega)) (decide_eq_false (Int.lt_irrefl _)) (decide_eq_false (by omega)) w R
       · exact ltrends_10e i0 i1 i2 j0 j1 j2 _ _ _ _ _ _ _ _ _ _ _ _ d e _ _ _ _ _ _ _ _ _ _ (fun w R=>known16_any w R) ca (fun w _=>lzero_f zX w) cb (fun w _=>lzero_f zY w) ma mb da db tr (cm 0 (by rw [key];(repeat' split) <;> omega)) ou ov wp1 wp2 wtu (beq_iff_eq.2 qu) (beq_eq_false_iff_ne.2 (fun k=>vu ⟨qu,k⟩)) (beq_eq_false_iff_ne.2 qv) (decide_eq_false (Int.lt_irrefl _)) (beq_self_eq_true _) (decide_eq_false (by omega)) (decide_eq_false (Int.lt_irrefl _)) (decide_eq_false (by omega)) w R
     · by_cases qv:V0=0
       · exact ltrends_01e i0 i1 i2 j0 j1 j2 _ _ _ _ _ _ _ _ _ _ _ _ d e _ _ _ _ _ _ _ _ _ _ (fun w R=>known16_any w R) ca (fun w _=>lzero_f zX w) cb (fun w _=>lzero_f zY w) ma mb da db tr (cm 0 (by rw [key];(repeat' split) <;> omega)) ou ov wp1 wp2 wtu (beq_eq_false_iff_ne.2 qu) (beq_iff_eq.2 qv) (beq_eq_false_iff_ne.2 (fun k=>vv ⟨qv,k⟩)) (decide_eq_false (Int.lt_irrefl _)) (beq_self_eq_true _) (decide_eq_false (by omega)) (decide_eq_false (Int.lt_irrefl _)) (decide_eq_false (by omega)) w R
       · exact ltrends_00e i0 i1 i2 j0 j1 j2 _ _ _ _ _ _ _ _ _ _ _ _ d e _ _ _ _ _ _ _ _ _ _ (fun w R=>known16_any w R) ca (fun w _=>lzero_f zX w) cb (fun w _=>lzero_f zY w) ma mb da db tr (cm 0 (by rw [key];(repeat' split) <;> omega)) ou ov wp1 wp2 wtu (beq_eq_false_iff_ne.2 qu) (beq_eq_false_iff_ne.2 qv) (decide_eq_false (Int.lt_irrefl _)) (beq_self_eq_true _) (decide_eq_false (by omega)) (decide_eq_false (Int.lt_irrefl _)) (decide_eq_false (by omega)) w R
   · skip
     by_cases qu:U0=0
     · by_cases qv:V0=0
       · exact ltrends_11d i0 i1 i2 j0 j1 j2 _ _ _ _ _ _ _ _ _ _ _ _ d e _ _ _ _ _ _ _ _ _ _ (fun w R=>known16_any w R) ca (fun w _=>lzero_f zX w) cb (fun w _=>lzero_f zY w) ma mb da db tr (cm 1 (by rw [key];(repeat' split) <;> omega)) ou ov wp1 wp2 wtu (beq_iff_eq.2 qu) (beq_eq_false_iff_ne.2 (fun k=>vu ⟨qu,k⟩)) (beq_iff_eq.2 qv) (beq_eq_false_iff_ne.2 (fun k=>vv ⟨qv,k⟩)) (decide_eq_false (Int.lt_irrefl _)) (beq_self_eq_true _) (decide_eq_false (by omega)) (decide_eq_false (Int.lt_irrefl _)) (decide_eq_true cy) w R
       · exact ltrends_10d i0 i1 i2 j0 j1 j2 _ _ _ _ _ _ _ _ _ _ _ _ d e _ _ _ _ _ _ _ _ _ _ (fun w R=>known16_any w R) ca (fun w _=>lzero_f zX w) cb (fun w _=>lzero_f zY w) ma mb da db tr (cm 1 (by rw [key];(repeat' split) <;> omega)) ou ov wp1 wp2 wtu (beq_iff_eq.2 qu) (beq_eq_false_iff_ne.2 (fun k=>vu ⟨qu,k⟩)) (beq_eq_false_iff_ne.2 qv) (decide_eq_false (Int.lt_irrefl _)) (beq_self_eq_true _) (decide_eq_false (by omega)) (decide_eq_false (Int.lt_irrefl _)) (decide_eq_true cy) w R
     · by_cases qv:V0=0
       · exact ltrends_01d i0 i1 i2 j0 j1 j2 _ _ _ _ _ _ _ _ _ _ _ _ d e _ _ _ _ _ _ _ _ _ _ (fun w R=>known16_any w R) ca (fun w _=>lzero_f zX w) cb (fun w _=>lzero_f zY w) ma mb da db tr (cm 1 (by rw [key];(repeat' split) <;> omega)) ou ov wp1 wp2 wtu (beq_eq_false_iff_ne.2 qu) (beq_iff_eq.2 qv) (beq_eq_false_iff_ne.2 (fun k=>vv ⟨qv,k⟩)) (decide_eq_false (Int.lt_irrefl _)) (beq_self_eq_true _) (decide_eq_false (by omega)) (decide_eq_false (Int.lt_irrefl _)) (decide_eq_true cy) w R
       · exact ltrends_00d i0 i1 i2 j0 j1 j2 _ _ _ _ _ _ _ _ _ _ _ _ d e _ _ _ _ _ _ _ _ _ _ (fun w R=>known16_any w R) ca (fun w _=>lzero_f zX w) cb (fun w _=>lzero_f zY w) ma mb da db tr (cm 1 (by rw [key];(repeat' split) <;> omega)) ou ov wp1 wp2 wtu (beq_eq_false_iff_ne.2 qu) (beq_eq_false_iff_ne.2 qv) (decide_eq_false (Int.lt_irrefl _)) (beq_self_eq_true _) (decide_eq_false (by omega)) (decide_eq_false (Int.lt_irrefl _)) (decide_eq_true cy) w R
 · skip
   by_cases qu:U0=0
   · by_cases qv:V0=0
     · exact ltrends_11c i0 i1 i2 j0 j1 j2 _ _ _ _ _ _ _ _ _ _ _ _ d e _ _ _ _ _ _ _ _ _ _ _ (fun w R=>known16_any w R) ca (fun w _=>lzero_f zX w) cb (fun w _=>lzero_f zY w) ma mb da db tr (cm 1 (by rw [key];(repeat' split) <;> omega)) ou ov wp1 wp2 wtu (beq_iff_eq.2 qu) (beq_eq_false_iff_ne.2 (fun k=>vu ⟨qu,k⟩)) (beq_iff_eq.2 qv) (beq_eq_false_iff_ne.2 (fun k=>vv ⟨qv,k⟩)) (decide_eq_false (by omega)) (beq_eq_false_iff_ne.2 (by omega)) (decide_eq_true c) w R
     · exact ltrends_10c i0 i1 i2 j0 j1 j2 _ _ _ _ _ _ _ _ _ _ _ _ d e _ _ _ _ _ _ _ _ _ _ _ (fun w R=>known16_any w R) ca (fun w _=>lzero_f zX w) cb (fun w _=>lzero_f zY w) ma mb da db tr (cm 1 (by rw [key];(repeat' split) <;> omega)) ou ov wp1 wp2 wtu (beq_iff_eq.2 qu) (beq_eq_false_iff_ne.2 (fun k=>vu ⟨qu,k⟩)) (beq_eq_false_iff_ne.2 qv) (decide_eq_false (by omega)) (beq_eq_false_iff_ne.2 (by omega)) (decide_eq_true c) w R
   · by_cases qv:V0=0
     · exact ltrends_01c i0 i1 i2 j0 j1 j2 _ _ _ _ _ _ _ _ _ _ _ _ d e _ _ _ _ _ _ _ _ _ _ _ (fun w R=>known16_any w R) ca (fun w _=>lzero_f zX w) cb (fun w _=>lzero_f zY w) ma mb da db tr (cm 1 (by rw [key];(repeat' split) <;> omega)) ou ov wp1 wp2 wtu (beq_eq_false_iff_ne.2 qu) (beq_iff_eq.2 qv) (beq_eq_false_iff_ne.2 (fun k=>vv ⟨qv,k⟩)) (decide_eq_false (by omega)) (beq_eq_false_iff_ne.2 (by omega)) (decide_eq_true c) w R
     · exact ltrends_00c i0 i1 i2 j0 j1 j2 _ _ _ _ _ _ _ _ _ _ _ _ d e _ _ _ _ _ _ _ _ _ _ _ (fun w R=>known16_any w R) ca (fun w _=>lzero_f zX w) cb (fun w _=>lzero_f zY w) ma mb da db tr (cm 1 (by rw [key];(repeat' split) <;> omega)) ou ov wp1 wp2 wtu (beq_eq_false_iff_ne.2 qu) (beq_eq_false_iff_ne.2 qv) (decide_eq_false (by omega)) (beq_eq_false_iff_ne.2 (by omega)) (decide_eq_true c) w R
end Go.Proofs.YtpiiclmkbplkhaaGreatDoor.Kl
