import Derived.Test.YtpiiclmkbplkhaaGreatDoorKlLFoldsCLV
import Derived.Test.YtpiiclmkbplkhaaGreatDoorKlLFoldsCLawLFolds
namespace Go.Proofs.YtpiiclmkbplkhaaGreatDoor.Kl
open Go Go.RowKit
set_option maxRecDepth 100000
set_option maxHeartbeats 8000000
theorem lawFolds (i0 i1 i2 d j0 j1 j2 e:Int) (bi0 : -128≤i0∧i0≤127) (bi1 : -128≤i1∧i1≤127) (bi2 : -128≤i2∧i2≤127) (bi3:0≤d∧d≤255) (bj0 : -128≤j0∧j0≤127) (bj1 : -128≤j1∧j1≤127) (bj2 : -128≤j2∧j2≤127) (bj3:0≤e∧e≤255) (w:World) (R:EnvV w) :
   Calls Tryz.prog 9 #[.agg #[.int .i8 i0,.int .i8 i1,.int .i8 i2,.int .u8 d],.agg #[.int .i8 j0,.int .i8 j1,.int .i8 j2,.int .u8 e]] w fun e_ w' => e_ = .returned (.bool true)∧Below w.heap.size w w':=by
 obtain ⟨X0,X1,X2,kX,bX,pX,rX,ca,ma⟩:=descr i0 i1 i2 d bi0 bi1 bi2 bi3
 obtain ⟨Y0,Y1,Y2,kY,bY,pY,rY,cb,mb⟩:=descr j0 j1 j2 e bj0 bj1 bj2 bj3
 by_cases zX:X0=0∧X1=0∧X2=0
 · exact lfolds_za i0 i1 i2 j0 j1 j2 _ _ _ d e (fun w R=>known16_any w R) ca (fun w _=>lzero_t zX w) w R
 by_cases zY:Y0=0∧Y1=0∧Y2=0
 · exact lfolds_zb i0 i1 i2 j0 j1 j2 _ _ _ _ _ _ d e (fun w R=>known16_any w R) ca (fun w _=>lzero_f zX w) cb (fun w _=>lzero_t zY w) w R
 have h:=DV_of bX pX rX zX
 have g:=DV_of bY pY rY zY
 obtain ⟨dd,edd⟩:∃ v,X0*Y0+X1*Y1+X2*Y2=v:=⟨_,rfl⟩
 have bdd:dd.natAbs≤1200:=by
   have q0:=mulS (a:=400) bX.1 bY.1 (by decide)
   have q1:=mulS (a:=400) bX.2.1 bY.2.1 (by decide)
   have q2:=mulS (a:=400) bX.2.2 bY.2.2 (by decide)
   omega
 obtain ⟨m,em⟩:∃ v,X0*X0+X1*X1+X2*X2=v:=⟨_,rfl⟩
 have bm:m.natAbs≤1200:=by
   have q0:=mulS (a:=400) bX.1 bX.1 (by decide)
   have q1:=mulS (a:=400) bX.2.1 bX.2.1 (by decide)
   have q2:=mulS (a:=400) bX.2.2 bX.2.2 (by decide)
   omega
 obtain ⟨n,en⟩:∃ v,Y0*Y0+Y1*Y1+Y2*Y2=v:=⟨_,rfl⟩
 have bn:n.natAbs≤1200:=by
   have q0:=mulS (a:=400) bY.1 bY.1 (by decide)
   have q1:=mulS (a:=400) bY.2.1 bY.2.1 (by decide)
   have q2:=mulS (a:=400) bY.2.2 bY.2.2 (by decide)
   omega
 obtain ⟨sq,esq⟩:∃ v,m*n=v:=⟨_,rfl⟩
 have bsq:=mulS (a:=1200*1200) bm bn (Nat.le_refl _)
 rw [esq] at bsq
 have wsq:IntKind.i64.wrap (m*n)=sq:=by rw [esq];exact wrapS _ (Nat.le_trans bsq (by decide))
 obtain ⟨d4,ed4⟩:∃ v,4*dd=v:=⟨_,rfl⟩
 have bd4:=mulS (a:=4*1200) (show (4:Int).natAbs≤4 by decide) bdd (Nat.le_refl _)
 rw [ed4] at bd4
 have wd4:IntKind.i64.wrap (4*dd)=d4:=by rw [ed4];exact wrapS _ (Nat.le_trans bd4 (by decide))
 obtain ⟨dq,edq⟩:∃ v,d4*dd=v:=⟨_,rfl⟩
 have bdq:=mulS (a:=4800*1200) bd4 bdd (Nat.le_refl _)
 rw [edq] at bdq
 have wdq:IntKind.i64.wrap (d4*dd)=dq:=by rw [edq];exact wrapS _ (Nat.le_trans bdq (by decide))
 obtain ⟨s3,es3⟩:∃ v,3*sq=v:=⟨_,rfl⟩
 have bs3:=mulS (a:=3*1440000) (show (3:Int).natAbs≤3 by decide) bsq (Nat.le_refl _)
 rw [es3] at bs3
 have ws3:IntKind.i64.wrap (3*sq)=s3:=by rw [es3];exact wrapS _ (Nat.le_trans bs3 (by decide))
 have hB:SS X0 X1 X2*SS Y0 Y1 Y2=sq:=by unfold SS;rw [em,en,esq]
 have hq:4*(dd*dd)=dq:=by rw [← edq,← ed4,Int.mul_assoc]
 have key:∀ n:Int,clsI dd sq=n→∀ w,EnvV w→_:=fun n hn w R=>dvInter h g dd sq n edd hB (Nat.le_trans bdd (by decide)) (Nat.le_trans bsq (by decide)) hn w R
 by_cases c1:0 < dd
 · by_cases c2:sq < dq
   · exact lfolds_1 i0 i1 i2 j0 j1 j2 _ _ _ _ _ _ d e _ _ _ _ _ _ _ _ _ _ _ _ _ (fun w R=>known16_any w R) ca (fun w _=>lzero_f zX w) cb (fun w _=>lzero_f zY w) ma mb (fun w _=>by have c:=ldot_any _ _ _ _ _ _ h.b0 h.b1 h.b2 g.b0 g.b1 g.b2 w;rw [edd] at c;exact c) (fun w _=>by have c:=ldot_any _ _ _ _ _ _ h.b0 h.b1 h.b2 h.b0 h.b1 h.b2 w;rw [em] at c;exact c) (fun w _=>by have c:=ldot_any _ _ _ _ _ _ g.b0 g.b1 g.b2 g.b0 g.b1 g.b2 w;rw [en] at c;exact c) (key 1 (by unfold clsI;rw [hq];rw [if_pos c1];rw [if_pos c2])) wsq wd4 wdq ws3 (decide_eq_true c1) (decide_eq_true c2) w R
   · exact lfolds_2 i0 i1 i2 j0 j1 j2 _ _ _ _ _ _ d e _ _ _ _ _ _ _ _ _ _ _ _ _ (fun w R=>known16_any w R) ca (fun w _=>lzero_f zX w) cb (fun w _=>lzero_f zY w) ma mb (fun w _=>by have c:=ldot_any _ _ _ _ _ _ h.b0 h.b1 h.b2 g.b0 g.b1 g.b2 w;rw [edd] at c;exact c) (fun w _=>by have c:=ldot_any _ _ _ _ _ _ h.b0 h.b1 h.b2 h.b0 h.b1 h.b2 w;rw [em] at c;exact c) (fun w _=>by have c:=ldot_any _ _ _ _ _ _ g.b0 g.b1 g.b2 g.b0 g.b1 g.b2 w;rw [en] at c;exact c) (key 2 (by unfold clsI;rw [hq];rw [if_pos c1];rw [if_neg c2])) wsq wd4 wdq ws3 (decide_eq_true c1) (decide_eq_false c2) w R
 · by_cases c3:dq < sq
   · exact lfolds_3 i0 i1 i2 j0 j1 j2 _ _ _ _ _ _ d e _ _ _ _ _ _ _ _ _ _ _ _ _ (fun w R=>known16_any w R) ca (fun w _=>lzero_f zX w) cb (fun w _=>lzero_f zY w) ma mb (fun w _=>by have c:=ldot_any _ _ _ _ _ _ h.b0 h.b1 h.b2 g.b0 g.b1 g.b2 w;rw [edd] at c;exact c) (fun w _=>by have c:=ldot_any _ _ _ _ _ _ h.b0 h.b1 h.b2 h.b0 h.b1 h.b2 w;rw [em] at c;exact c) (fun w _=>by have c:=ldot_any _ _ _ _ _ _ g.b0 g.b1 g.b2 g.b0 g.b1 g.b2 w;rw [en] at c;exact c) (key 3 (by unfold clsI;rw [hq];rw [if_neg c1];rw [if_pos c3])) wsq wd4 wdq ws3 (decide_eq_false c1) (decide_eq_true c3) w R
   · by_cases c4:dq < s3
     · exact lfolds_4 i0 i1 i2 j0 j1 j2 _ _ _ _ _ _ d e _ _ _ _ _ _ _ _ _ _ _ _ _ (fun w R=>known16_any w R) ca (fun w _=>lzero_f zX w) cb (fun w _=>lzero_f zY w) ma mb (fun w _=>by have c:=ldot_any _ _ _ _ _ _ h.b0 h.b1 h.b2 g.b0 g.b1 g.b2 w;rw [edd] at c;exact c) (fun w _=>by have c:=ldot_any _ _ _ _ _ _ h.b0 h.b1 h.b2 h.b0 h.b1 h.b2 w;rw [em] at c;exact c) (fun w _=>by have c:=ldot_any _ _ _ _ _ _ g.b0 g.b1 g.b2 g.b0 g.b1 g.b2 w;rw [en] at c;exact c) (key 4 (by unfold clsI;rw [hq,es3];rw [if_neg c1];rw [if_neg c3];rw [if_pos c4])) wsq wd4 wdq ws3 (decide_eq_false c1) (decide_eq_false c3) (decide_eq_true c4) w R
     · exact lfolds_5 i0 i1 i2 j0 j1 j2 _ _ _ _ _ _ d e _ _ _ _ _ _ _ _ _ _ _ _ _ (fun w R=>known16_any w R) ca (fun w _=>lzero_f zX w) cb (fun w _=>lzero_f zY w) ma mb (fun w _=>by have c:=ldot_any _ _ _ _ _ _ h.b0 h.b1 h.b2 g.b0 g.b1 g.b2 w;rw [edd] at c;exact c) (fun w _=>by have c:=ldot_any _ _ _ _ _ _ h.b0 h.b1 h.b2 h.b0 h.b1 h.b2 w;rw [em] at c;exact c) (fun w _=>by have c:=ldot_any _ _ _ _ _ _ g.b0 g.b1 g.b2 g.b0 g.b1 g.b2 w;rw [en] at c;exact c) (key 5 (by unfold clsI;rw [hq,es3];rw [if_neg c1];rw [if_neg c3];rw [if_neg c4])) wsq wd4 wdq ws3 (decide_eq_false c1) (decide_eq_false c3) (decide_eq_false c4) w R
end Go.Proofs.YtpiiclmkbplkhaaGreatDoor.Kl
