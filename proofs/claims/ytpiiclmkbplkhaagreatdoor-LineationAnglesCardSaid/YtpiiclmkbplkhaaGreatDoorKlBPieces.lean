import Derived.Lib.ItoaMem
import Derived.Test.YtpiiclmkbplkhaaGreatDoorKlBNum
namespace Go.Proofs.YtpiiclmkbplkhaaGreatDoor.Kl
open Go
set_option maxRecDepth 100000
set_option maxHeartbeats 8000000
def pval (B:Int):List Int→Int
 | [] => 0
 | x :: r=>x+B*pval B r
def Inr (B:Int) (xs:List Int):Prop:=∀ x ∈ xs,0≤x∧x < B
def IsP (B:Int) (xs:List Int):Prop:=Inr B xs∧xs.getLast? ≠ some 0
theorem pval_append (B:Int):∀ (xs ys:List Int),pval B (xs ++ ys)=pval B xs+B ^ xs.length*pval B ys
 | [],ys=>by simp [pval]
 | x :: r,ys=>by
   rw [List.cons_append]
   show x+B*pval B (r ++ ys)=x+B*pval B r+B ^ (r.length+1)*pval B ys
   rw [pval_append B r ys,Int.mul_add,Int.pow_succ,Int.add_assoc,Int.mul_comm (B ^ r.length) B,Int.mul_assoc]
theorem pval_nonneg {B:Int} (hB:0 < B):∀ {xs:List Int},Inr B xs→0≤pval B xs
 | [],_=>Int.le_refl _
 | x :: r,h=>by
   have h1:=(h x (List.mem_cons_self)).1
   have h2:=pval_nonneg hB (xs:=r) (fun y hy=>h y (List.mem_cons_of_mem _ hy))
   have h3:=Int.mul_nonneg (Int.le_of_lt hB) h2
   show 0≤x+B*pval B r
   omega
theorem pval_lt {B:Int} (hB:0 < B):∀ {xs:List Int},Inr B xs→pval B xs < B ^ xs.length
 | [],_=>by simp [pval]
 | x :: r,h=>by
   have h1:=(h x (List.mem_cons_self)).2
   have h2:=pval_lt hB (xs:=r) (fun y hy=>h y (List.mem_cons_of_mem _ hy))
   have h3:B*(pval B r+1)≤B*B ^ r.length:=Int.mul_le_mul_of_nonneg_left (by omega) (Int.le_of_lt hB)
   rw [Int.mul_add,Int.mul_one] at h3
   show x+B*pval B r < B ^ (r.length+1)
   rw [Int.pow_succ,Int.mul_comm (B ^ r.length) B]
   omega
theorem isP_tail {B:Int} {x:Int} {r:List Int} (h:IsP B (x :: r)):IsP B r:=by
 refine ⟨fun y hy=>h.1 y (List.mem_cons_of_mem _ hy),fun e=>?_⟩
 apply h.2
 cases r with
 | nil=>simp at e
 | cons a b=>rw [List.getLast?_cons_cons];exact e
theorem isP_pos {B:Int} (hB:0 < B):∀ {xs:List Int},IsP B xs→xs≠[]→0 < pval B xs
 | [],_,h=>absurd rfl h
 | [x],h,_=>by
   have h1:=h.1 x (List.mem_cons_self)
   have h2:x≠0:=fun e=>h.2 (by rw [e];rfl)
   show 0 < x+B*0
   omega
 | x :: y :: r,h,_=>by
   have h1:=(h.1 x (List.mem_cons_self)).1
   have h2:=isP_pos hB (xs:=y :: r) (isP_tail h) (by simp)
   have h3:=Int.mul_pos hB h2
   show 0 < x+B*pval B (y :: r)
   omega
theorem isP_unique {B:Int} (hB:0 < B):∀ {xs ys:List Int},IsP B xs→IsP B ys→pval B xs=pval B ys→xs=ys
 | [],[],_,_,_=>rfl
 | [],y :: s,_,h2,e=>by
   have:=isP_pos hB h2 (by simp)
   rw [← e] at this;exact absurd this (Int.lt_irrefl 0)
 | x :: r,[],h1,_,e=>by
   have:=isP_pos hB h1 (by simp)
   rw [e] at this;exact absurd this (Int.lt_irrefl 0)
 | x :: r,y :: s,h1,h2,e=>by
   have e':x+B*pval B r=y+B*pval B s:=e
   have hx:=h1.1 x (List.mem_cons_self)
   have hy:=h2.1 y (List.mem_cons_self)
   have hm:(x+B*pval B r) % B=(y+B*pval B s) % B:=by rw [e']
   rw [Int.add_mul_emod_self_left,Int.add_mul_emod_self_left,Int.emod_eq_of_lt hx.1 hx.2,Int.emod_eq_of_lt hy.1 hy.2] at hm
   have h3:B*pval B r=B*pval B s:=by omega
   have h4:=Int.eq_of_mul_eq_mul_left (by omega:B≠0) h3
   rw [hm,isP_unique hB (isP_tail h1) (isP_tail h2) h4]
def trimP (xs:List Int):List Int:=(xs.reverse.dropWhile (· == 0)).reverse
theorem trimP_snoc_zero (xs:List Int):trimP (xs ++ [0])=trimP xs:=by simp [trimP]
theorem trimP_snoc (xs:List Int) {x:Int} (h:x≠0):trimP (xs ++ [x])=xs ++ [x]:=by
 have:(x == 0)=false:=by simpa using h
 simp [trimP,this]
theorem snoc_cases {α:Type} (xs:List α):xs=[]∨∃ ys y,xs=ys ++ [y]:=by
 rcases List.eq_nil_or_concat xs with h | ⟨l,b,h⟩
 · exact Or.inl h
 · exact Or.inr ⟨l,b,by simpa using h⟩
theorem trimP_isP {B:Int}:∀ (n:Nat) (xs:List Int),xs.length=n→Inr B xs→IsP B (trimP xs)∧pval B (trimP xs)=pval B xs
 | 0,xs,hn,_=>by
   obtain rfl:=List.length_eq_zero_iff.1 hn
   exact ⟨⟨fun x hx=>by simp [trimP] at hx,by simp [trimP]⟩,rfl⟩
 | n + 1,xs,hn,h=>by
   rcases snoc_cases xs with rfl | ⟨ys,y,rfl⟩
   · simp at hn
   · by_cases hy:y=0
     · subst hy
       rw [trimP_snoc_zero,pval_append]
       have:=trimP_isP n ys (by simpa using hn) (fun x hx=>h x (List.mem_append_left _ hx))
       refine ⟨this.1,?_⟩
       rw [this.2];simp [pval]
     · rw [trimP_snoc _ hy]
       exact ⟨⟨h,by simpa using hy⟩,rfl⟩
end Go.Proofs.YtpiiclmkbplkhaaGreatDoor.Kl
