import Derived.Test.YtpennccflalobaaGreatDoorKlVLineErrorsRat
namespace Go.Proofs.YtpennccflalobaaGreatDoor.Kl
open Go Go.RowKit
set_option maxRecDepth 100000
set_option maxHeartbeats 8000000
theorem refParts_int (s:ByteArray) (hc:∀ w,Calls Tryz.prog 81 #[.string s,.int .u8 47] w (Ret w (.int .i64 (-1)))) (w:World) (R:EnvR w) :
   Calls Tryz.prog 79 #[.string s] w (Ret w (.tuple #[.string s,.string ⟨#[49]⟩])):=by
 have c1:=fun (w:World) (R:EnvR w)=>hc w
 have C1:=Lib.hid c1
 clear c1 hc
 have hb:=Below.refl w.heap.size w
 go_enter Tryz.func79,Tryz.ntmps79
 go_wp2_with (go_at_call 81;with_reducible refine (chRA hb R C1).mono ?_;clear hb;rintro e w1 ⟨rfl,hb⟩)
 go_ret2
 exact ⟨rfl,hb⟩
theorem refParts_frac (s a b:ByteArray) (L:Nat) (hL:L < s.size) (hs:s.size≤1000000) (h1:s.extract 0 L=a) (h2:s.extract (L+1) s.size=b) (hc:∀ w,Calls Tryz.prog 81 #[.string s,.int .u8 47] w (Ret w (.int .i64 (L:Int)))) (w:World) (R:EnvR w) :
   Calls Tryz.prog 79 #[.string s] w (Ret w (.tuple #[.string a,.string b])):=by
 have c1:=fun (w:World) (R:EnvR w)=>hc w
 have C1:=Lib.hid c1
 clear c1 hc
 have H1:=Lib.hid h1
 have H2:=Lib.hid h2
 clear h1 h2
 have hb:=Below.refl w.heap.size w
 go_enter Tryz.func79,Tryz.ntmps79
 go_wp2_with (go_at_call 81;with_reducible refine (chRA hb R C1).mono ?_;clear hb;rintro e w1 ⟨rfl,hb⟩)
 go_quiet (fail)
 go_wp2
 go_ret2
 exact ⟨retSS H1.out H2.out,Below.drews hb _⟩
end Go.Proofs.YtpennccflalobaaGreatDoor.Kl
