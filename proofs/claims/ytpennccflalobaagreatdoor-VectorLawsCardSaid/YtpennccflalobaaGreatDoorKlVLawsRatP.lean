import Derived.Test.YtpennccflalobaaGreatDoorKlVLawsText
import Derived.Test.YtpennccflalobaaGreatDoorKlBRatZ
namespace Go.Proofs.YtpennccflalobaaGreatDoor.Kl
open Go Go.RowKit
set_option maxRecDepth 100000
set_option maxHeartbeats 8000000
theorem rsign_any (q:Rat) (hq:RL q 100000) (w:World) (R:EnvR w) :
   Calls Tryz.prog 96 #[.string (ratB q)] w (Ret w (.int .i64 q.num.sign)):=by
 have c1:=fun (w:World) (R:EnvR w)=>rparts_any q w R hq
 have c2:CR 152 #[.string (itoaB q.num)] (.int .i64 q.num.sign):=fun w R=>sign_any _ w
 obtain ⟨z,ez⟩:∃ v,q.num.sign=v:=⟨_,rfl⟩
 try simp only [ez] at c1 c2 ⊢
 obtain ⟨a,ea⟩:∃ v,itoaB q.num=v:=⟨_,rfl⟩
 try simp only [ea] at c1 c2 ⊢
 obtain ⟨b,eb⟩:∃ v,itoaB q.den=v:=⟨_,rfl⟩
 try simp only [eb] at c1 c2 ⊢
 obtain ⟨s,es⟩:∃ v,ratB q=v:=⟨_,rfl⟩
 try simp only [es] at c1 c2 ⊢
 have C1:=Lib.hid c1
 have C2:=Lib.hid c2
 clear c1 c2 ez ea eb es hq
 have hb:=Below.refl w.heap.size w
 go_enter Tryz.func96,Tryz.ntmps96
 go_wp2_with ((first | (go_at_call 87;with_reducible refine (chRA hb R C1).mono ?_) | (go_at_call 152;with_reducible refine (chRA hb R C2).mono ?_));clear hb;rintro e w1 ⟨rfl,hb⟩)
 go_ret
 exact ⟨rfl,hb⟩
end Go.Proofs.YtpennccflalobaaGreatDoor.Kl
