import Derived.Test.YtpennccflalobaaGreatDoorKlVLawsVM
namespace Go.Proofs.YtpennccflalobaaGreatDoor.Kl
open Go Go.RowKit
set_option maxRecDepth 100000
set_option maxHeartbeats 8000000
theorem firstErr_w (blk n c:Nat) (ts:List Int) (hn:ts.length=n) (_hnb:n≤20) (v:Int) (hv:firstNZ ts=v) (w:World) (hc:∀ (j:Nat) (t:Int),ts[j]? = some t→w.cell? ⟨blk,j,none⟩=some (.int .i64 t)) :
   Calls Tryz.prog 21 #[.slice (some ⟨blk,0,none⟩) n c] w (Ret w (.int .i64 v)):=by
 have HC:=Lib.hid hc
 have HV:=Lib.hid hv
 have HN:=Lib.hid hn
 clear hc hv hn
 go_enter Tryz.func21,Tryz.ntmps21
 go_wp2
 go_loopw [3] (fun i wr=>∃ k:Nat,k≤n∧i = .int .i64 k∧(∀ t,t ∈ ts.take k→t=0)∧Below w.heap.size w wr) (fun i _=>n - (intOf i).toNat)
 case atStart=>exact ⟨0,Nat.zero_le _,rfl,by simp,Below.refl _ _⟩
 case round =>
   obtain ⟨k,hk,rfl,hall,hb⟩:=hrel
   have HA:=Lib.hid hall
   clear hall
   by_cases hlt:k < n
   · obtain ⟨t,ht⟩:∃ t,ts[k]? = some t:=⟨_,List.getElem?_eq_getElem (by rw [HN.out];exact hlt)⟩
     have x0:wr.cell? ⟨blk,k,none⟩=some (.int .i64 t):=zC hb (HC.out k t ht)
     have HT:=Lib.hid ht
     clear ht
     by_cases hz:t=0
     · have HF:=Lib.hid hz
       go_wp2
       go_roundw
       case rel =>
         refine ⟨k+1,by omega,by go_num,fun u hu=>?_,hb⟩
         rw [List.take_add_one,HT.out] at hu
         rcases List.mem_append.1 hu with h | h
         · exact HA.out u h
         · have:u=t:=by simpa using h
           rw [this];exact HF.out
       case measure=>simp [intOf];omega
     · have HF2:t=v:=(firstNZ_at ts k t HA.out HT.out hz).symm.trans HV.out
       have HG:=Lib.hid HF2
       clear HF2
       go_wp2
       go_ret
       exact ⟨retI HG.out,hb⟩
   · have ek:k=n:=by omega
     have HG:Hid (0=v):=Lib.hid (by rw [← HV.out];symm;exact firstNZ_zero ts (fun t ht=>HA.out t (by rw [List.take_of_length_le (by rw [HN.out];omega)];exact ht)))
     go_wp2
     go_ret
     exact ⟨retI HG.out,hb⟩
set_option maxRecDepth 512 in
theorem firstErr4 (a0 a1 a2 a3:Int) (v:Int) (hv:firstNZ [a0,a1,a2,a3]=v) (w:World) (_R:EnvR w) :
   Calls Tryz.prog 21 #[.slice (some ⟨w.heap.size,0,none⟩) 4 4] (w.alloc (Obj.cells #[Value.int .i64 a0,Value.int .i64 a1,Value.int .i64 a2,Value.int .i64 a3] 31)) (Ret w (.int .i64 v)):=by
 have hba:Below w.heap.size w (w.alloc (Obj.cells #[Value.int .i64 a0,Value.int .i64 a1,Value.int .i64 a2,Value.int .i64 a3] 31)):=(Below.refl _ _).alloc (Nat.le_refl _) _
 refine (firstErr_w w.heap.size 4 4 [a0,a1,a2,a3] rfl (by decide) v hv _ ?_).mono fun e w' h=>⟨h.1,hba.trans (h.2.mono hba.size)⟩
 intro j t h
 match j,h with
 | 0,h=>injection h with h;subst h;simp [go_sem]
 | 1,h=>injection h with h;subst h;simp [go_sem]
 | 2,h=>injection h with h;subst h;simp [go_sem]
 | 3,h=>injection h with h;subst h;simp [go_sem]
 | j+4,h=>simp at h
set_option maxRecDepth 512 in
theorem firstErr6 (a0 a1 a2 a3 a4 a5:Int) (v:Int) (hv:firstNZ [a0,a1,a2,a3,a4,a5]=v) (w:World) (_R:EnvR w) :
   Calls Tryz.prog 21 #[.slice (some ⟨w.heap.size,0,none⟩) 6 6] (w.alloc (Obj.cells #[Value.int .i64 a0,Value.int .i64 a1,Value.int .i64 a2,Value.int .i64 a3,Value.int .i64 a4,Value.int .i64 a5] 31)) (Ret w (.int .i64 v)):=by
 have hba:Below w.heap.size w (w.alloc (Obj.cells #[Value.int .i64 a0,Value.int .i64 a1,Value.int .i64 a2,Value.int .i64 a3,Value.int .i64 a4,Value.int .i64 a5] 31)):=(Below.refl _ _).alloc (Nat.le_refl _) _
 refine (firstErr_w w.heap.size 6 6 [a0,a1,a2,a3,a4,a5] rfl (by decide) v hv _ ?_).mono fun e w' h=>⟨h.1,hba.trans (h.2.mono hba.size)⟩
 intro j t h
 match j,h with
 | 0,h=>injection h with h;subst h;simp [go_sem]
 | 1,h=>injection h with h;subst h;simp [go_sem]
 | 2,h=>injection h with h;subst h;simp [go_sem]
 | 3,h=>injection h with h;subst h;simp [go_sem]
 | 4,h=>injection h with h;subst h;simp [go_sem]
 | 5,h=>injection h with h;subst h;simp [go_sem]
 | j+6,h=>simp at h
end Go.Proofs.YtpennccflalobaaGreatDoor.Kl
