import Derived.StillTailTactics
import Derived.Laws.AppendOwnNone
import Derived.Test.YtpiiclmkbplkhaaGreatDoorKlBCarryZ
namespace Go.Proofs.YtpiiclmkbplkhaaGreatDoor.Kl
open Go Go.RowKit
set_option maxRecDepth 100000
set_option maxHeartbeats 8000000
def psum (B:Int) (f:Nat→Int):Nat→Int
 | 0=>0
 | n+1=>psum B f n+B ^ n*f n
theorem psum_congr (B:Int) {f g:Nat→Int}:∀ (n:Nat),(∀ j,j < n→f j=g j)→psum B f n=psum B g n
 | 0,_=>rfl
 | n+1,h=>by show psum B f n+B ^ n*f n=psum B g n+B ^ n*g n;rw [psum_congr B n (fun j hj=>h j (by omega)),h n (by omega)]
theorem pval_psum (B:Int) (xs:List Int):∀ n,xs.length≤n→pval B xs=psum B (fun j=>xs[j]?.getD 0) n:=by
 have key:∀ k,k≤xs.length→psum B (fun j=>xs[j]?.getD 0) k=pval B (xs.take k):=by
   intro k
   induction k with
   | zero=>intro _;rfl
   | succ k ih =>
     intro hk
     rw [take_last hk,pval_append,List.length_take,Nat.min_eq_left (by omega),← ih (by omega)]
     show psum B _ k+B ^ k*_=psum B _ k+B ^ k*(xs[k]?.getD 0+B*0)
     simp
 intro n hn
 obtain ⟨d,rfl⟩:∃ d,n=xs.length+d:=⟨n - xs.length,by omega⟩
 clear hn
 induction d with
 | zero=>have:=key xs.length (Nat.le_refl _);rw [List.take_length] at this;exact this.symm
 | succ d ih =>
   rw [ih]
   show _=psum B _ (xs.length+d)+B ^ (xs.length+d)*(xs[xs.length+d]?.getD 0)
   rw [List.getElem?_eq_none (by omega)];simp
end Go.Proofs.YtpiiclmkbplkhaaGreatDoor.Kl
