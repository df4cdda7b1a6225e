import Derived.Test.YtpennccflalobaaGreatDoorKlVPointsRefDiv
import Derived.Test.YtpennccflalobaaGreatDoorKlBRatZ
namespace Go.Proofs.YtpennccflalobaaGreatDoor.Kl
open Go
set_option maxRecDepth 100000
set_option maxHeartbeats 8000000
theorem idx_miss : ∀ {l:List UInt8},(47:UInt8) ∉ l→Lib.indexByte l 47 = -1
 | [],_=>rfl
 | b :: l,h=>by
   have hb:(b == 47)=false:=by rw [beq_eq_false_iff_ne];exact fun e=>h (by simp [e])
   have ih:=idx_miss (l:=l) (fun hm=>h (List.mem_cons_of_mem _ hm))
   unfold Lib.indexByte
   rw [hb,ih];rfl
theorem idx_hit : ∀ {a b:List UInt8},(47:UInt8) ∉ a→Lib.indexByte (a ++ 47 :: b) 47=a.length
 | [],_,_=>rfl
 | c :: a,b,h=>by
   have hb:(c == 47)=false:=by rw [beq_eq_false_iff_ne];exact fun e=>h (by simp [e])
   have ih:=idx_hit (a:=a) (b:=b) (fun hm=>h (List.mem_cons_of_mem _ hm))
   rw [List.cons_append]
   unfold Lib.indexByte
   rw [hb,ih,if_neg (by decide),if_neg (by rw [beq_iff_eq];omega)]
   simp
theorem RL_of_size {q:Rat} {K:Nat} (h:(ratB q).size≤K):RL q K:=by
 have:=ratS_len q;rw [ratB_size] at h;exact ⟨by omega,by omega⟩
end Go.Proofs.YtpennccflalobaaGreatDoor.Kl
