import Derived.Test.YtpiiclmkbplkhaaGreatDoorKlBIntZ
import Derived.Test.YtpiiclmkbplkhaaGreatDoorKlBPieces
namespace Go.Proofs.YtpiiclmkbplkhaaGreatDoor.Kl
open Go Go.RowKit
set_option maxRecDepth 100000
set_option maxHeartbeats 8000000
def Has (w:World) (p:Option Addr) (xs:List Int):Prop:=
 xs=[]∨∃ b o,p=some ⟨b,o,none⟩∧b < w.heap.size∧∀ i,i < xs.length→w.cell? ⟨b,o+i,none⟩=some (.int .i64 (xs[i]?.getD 0))
theorem Has.below {w w':World} {p:Option Addr} {xs:List Int} (h:Has w p xs) (hb:Below w.heap.size w w'):Has w' p xs:=by
 rcases h with h | ⟨b,o,hp,hlt,hc⟩
 · exact Or.inl h
 · exact Or.inr ⟨b,o,hp,Nat.lt_of_lt_of_le hlt hb.size,fun i hi=>(hb.cell (p:=⟨b,o+i,none⟩) hlt).trans (hc i hi)⟩
theorem Has.take {w:World} {p:Option Addr} {xs:List Int} (h:Has w p xs) (k:Nat):Has w p (xs.take k):=by
 rcases h with h | ⟨b,o,hp,hlt,hc⟩
 · exact Or.inl (by rw [h];simp)
 · refine Or.inr ⟨b,o,hp,hlt,fun i hi=>?_⟩
   rw [List.length_take] at hi
   rw [hc i (by omega),List.getElem?_take,if_pos (by omega)]
def RetP (w:World) (ys:List Int) (e:Ending) (w':World):Prop:=
 ∃ (p:Option Addr) (n c:Nat),e = .returned (.slice p n c)∧n=ys.length∧n≤c∧c≤9223372036854775807∧(p=none→c=0)∧Has w' p ys∧Below w.heap.size w w'
theorem take_last {xs:List Int} {k:Nat} (h:k+1≤xs.length):xs.take (k+1)=xs.take k ++ [xs[k]?.getD 0]:=by
 rw [List.take_succ_eq_append_getElem (by omega)]
 congr 2
 rw [List.getElem?_eq_getElem (by omega)];rfl
theorem pval_top {B:Int} (hB:0 < B) {xs ys:List Int} {k:Nat} (hx:Inr B xs) (hy:Inr B ys) (hkx:k < xs.length) (hky:k < ys.length) (hd:xs.drop (k+1)=ys.drop (k+1)) (hlt:xs[k]?.getD 0 < ys[k]?.getD 0):pval B xs < pval B ys:=by
 have split:∀ (zs:List Int) (h:k < zs.length),pval B zs=pval B (zs.take k)+B ^ k*(zs[k]?.getD 0+B*pval B (zs.drop (k+1))):=by
   intro zs h
   have e:zs=zs.take k ++ (zs[k]?.getD 0 :: zs.drop (k+1)):=by
     rw [List.getElem?_eq_getElem h]
     show zs=zs.take k ++ (zs[k] :: zs.drop (k+1))
     rw [List.getElem_cons_drop,List.take_append_drop]
   have e2:=pval_append B (zs.take k) (zs[k]?.getD 0 :: zs.drop (k+1))
   rw [← e,List.length_take,Nat.min_eq_left (by omega)] at e2
   exact e2
 rw [split xs hkx,split ys hky,hd]
 have h1:pval B (xs.take k) < B ^ k:=by
   have:=pval_lt hB (xs:=xs.take k) (fun z hz=>hx z (List.mem_of_mem_take hz))
   rwa [List.length_take,Nat.min_eq_left (by omega)] at this
 have h2:0≤pval B (ys.take k):=pval_nonneg hB (fun z hz=>hy z (List.mem_of_mem_take hz))
 generalize B*pval B (ys.drop (k+1))=D
 have h3:B ^ k*(xs[k]?.getD 0+1+D)≤B ^ k*(ys[k]?.getD 0+D):=Int.mul_le_mul_of_nonneg_left (by omega) (Int.le_of_lt (Int.pow_pos hB))
 rw [Int.add_assoc,Int.add_comm 1 D,← Int.add_assoc,Int.mul_add _ _ 1,Int.mul_one] at h3
 omega
theorem pow_le {B:Int} (hB:0 < B) {m n:Nat} (h:m≤n):B ^ m≤B ^ n:=by
 obtain ⟨k,rfl⟩:∃ k,n=m+k:=⟨n - m,by omega⟩
 rw [Int.pow_add]
 have h1:0 < B ^ k:=Int.pow_pos hB
 have h2:B ^ m*1≤B ^ m*B ^ k:=Int.mul_le_mul_of_nonneg_left (by omega) (Int.le_of_lt (Int.pow_pos hB))
 omega
theorem pval_len {B:Int} (hB:0 < B) {xs ys:List Int} (hx:IsP B xs) (hy:IsP B ys) (h:xs.length < ys.length):pval B xs < pval B ys:=by
 have h1:=pval_lt hB hx.1
 rcases snoc_cases ys with rfl | ⟨zs,z,rfl⟩
 · simp at h
 · have hz:z≠0:=fun e=>hy.2 (by rw [e];simp)
   have hz1:=hy.1 z (by simp)
   have h2:0≤pval B zs:=pval_nonneg hB (fun u hu=>hy.1 u (List.mem_append_left _ hu))
   rw [pval_append]
   have h3:B ^ xs.length≤B ^ zs.length:=by
     rw [List.length_append] at h
     exact pow_le hB (by simp at h;omega)
   have h4:B ^ zs.length*1≤B ^ zs.length*pval B [z]:=Int.mul_le_mul_of_nonneg_left (by show 1≤z+B*0;omega) (Int.le_of_lt (Int.pow_pos hB))
   omega
end Go.Proofs.YtpiiclmkbplkhaaGreatDoor.Kl
