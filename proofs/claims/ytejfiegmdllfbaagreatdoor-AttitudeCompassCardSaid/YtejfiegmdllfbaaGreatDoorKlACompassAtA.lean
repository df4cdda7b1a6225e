import Derived.Test.YtejfiegmdllfbaaGreatDoorKlACompassVRaw
namespace Go.Proofs.YtejfiegmdllfbaaGreatDoor.Kl
open Go Go.RowKit
set_option maxRecDepth 100000
set_option maxHeartbeats 8000000
set_option maxRecDepth 512 in
theorem right3 (s0 s1 s2:ByteArray) (r:Bool) (hr:r=true↔(IsRat s0.data.toList∧IsRat s1.data.toList∧IsRat s2.data.toList)) (z0:s0.size≤100000) (z1:s1.size≤100000) (z2:s2.size≤100000) (w:World) (R:EnvV w) :
   Calls Tryz.prog 21 #[.slice (some ⟨w.heap.size,0,none⟩) 3 3] (w.alloc (Obj.cells #[Value.string s0,Value.string s1,Value.string s2] 22)) (Ret w (.bool r)):=by
 have hba:Below w.heap.size w (w.alloc (Obj.cells #[Value.string s0,Value.string s1,Value.string s2] 22)):=(Below.refl _ _).alloc (Nat.le_refl _) _
 have he:(IsRat s0.data.toList∧IsRat s1.data.toList∧IsRat s2.data.toList)↔(∀ t,t ∈ [s0,s1,s2]→IsRat t.data.toList):=by
   constructor
   · rintro ⟨h0,h1,h2⟩ t h
     simp only [List.mem_cons,List.not_mem_nil,or_false] at h
     rcases h with rfl | rfl | rfl <;> assumption
   · intro h
     exact ⟨h s0 (by simp),h s1 (by simp),h s2 (by simp)⟩
 have hz:∀ t,t ∈ [s0,s1,s2]→t.size≤100000:=by
   intro t h
   simp only [List.mem_cons,List.not_mem_nil,or_false] at h
   rcases h with rfl | rfl | rfl <;> assumption
 refine (rightL_w w.heap.size 3 3 [s0,s1,s2] rfl (by decide) r (hr.trans he) _ (R.below hba) hz ?_).mono fun e w' h=>⟨h.1,hba.trans (h.2.mono hba.size)⟩
 intro j t h
 match j,h with
 | 0,h=>injection h with h;subst h;simp [go_sem]
 | 1,h=>injection h with h;subst h;simp [go_sem]
 | 2,h=>injection h with h;subst h;simp [go_sem]
 | j+3,h=>simp at h
set_option maxRecDepth 512 in
theorem short2 (s0 s1:ByteArray) (r:Bool) (hr:r=true↔(s0.size≤24∧s1.size≤24)) (z0:s0.size≤9223372036854775807) (z1:s1.size≤9223372036854775807) (w:World) (_R:EnvV w) :
   Calls Tryz.prog 12 #[.slice (some ⟨w.heap.size,0,none⟩) 2 2] (w.alloc (Obj.cells #[Value.string s0,Value.string s1] 22)) (Ret w (.bool r)):=by
 have hba:Below w.heap.size w (w.alloc (Obj.cells #[Value.string s0,Value.string s1] 22)):=(Below.refl _ _).alloc (Nat.le_refl _) _
 have he:(s0.size≤24∧s1.size≤24)↔(∀ t,t ∈ [s0,s1]→t.size≤24):=by
   constructor
   · rintro ⟨h0,h1⟩ t h
     simp only [List.mem_cons,List.not_mem_nil,or_false] at h
     rcases h with rfl | rfl <;> assumption
   · intro h
     exact ⟨h s0 (by simp),h s1 (by simp)⟩
 have hz:∀ t,t ∈ [s0,s1]→t.size≤9223372036854775807:=by
   intro t h
   simp only [List.mem_cons,List.not_mem_nil,or_false] at h
   rcases h with rfl | rfl <;> assumption
 refine (shortL_w w.heap.size 2 2 [s0,s1] rfl (by decide) r (hr.trans he) _ hz ?_).mono fun e w' h=>⟨h.1,hba.trans (h.2.mono hba.size)⟩
 intro j t h
 match j,h with
 | 0,h=>injection h with h;subst h;simp [go_sem]
 | 1,h=>injection h with h;subst h;simp [go_sem]
 | j+2,h=>simp at h
end Go.Proofs.YtejfiegmdllfbaaGreatDoor.Kl
