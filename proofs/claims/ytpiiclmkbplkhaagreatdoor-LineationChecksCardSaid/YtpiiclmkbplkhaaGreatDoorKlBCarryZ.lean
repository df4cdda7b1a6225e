import Derived.Lib.SmallJoins
import Derived.Test.YtpiiclmkbplkhaaGreatDoorKlBSlice
namespace Go.Proofs.YtpiiclmkbplkhaaGreatDoor.Kl
open Go Go.RowKit
set_option maxRecDepth 100000
set_option maxHeartbeats 8000000
def pcN (n:Nat):List Int:=if h:n=0 then [] else ((n % 10000:Nat):Int) :: pcN (n / 10000)
termination_by n
decreasing_by omega
theorem info3 : (Tryz.prog.info? 3).map (fun i=>(i.zero,i.size,i.bytes))=some (some (.int .i64 0),1,8):=by kernel_rfl
def iv (xs:List Int):List Value:=xs.map (Value.int .i64)
theorem iv_snoc (xs:List Int) (x:Int):iv xs ++ [Value.int .i64 x]=iv (xs ++ [x]):=by simp [iv]
theorem has_of_row {w:World} {B n:Nat} {v:Value} {xs:List Int} (h:w.ownsRow B 3 1 v n (iv xs)) (hl:xs.length=n) :
   ∃ p c,v = .slice p n c∧n≤c∧c≤9223372036854775807∧(p=none→c=0)∧Has w p xs:=by
 obtain ⟨_,h2⟩:=h
 rcases h2 with ⟨rfl,rfl⟩ | ⟨g,cap,cur,rfl,_,hh,hnc,hm,hsz,ht⟩
 · exact ⟨none,0,rfl,Nat.le_refl _,by omega,fun _=>rfl,Or.inl (List.length_eq_zero_iff.1 hl)⟩
 · refine ⟨some ⟨g,0,none⟩,cap,rfl,hnc,by unfold maxLen at hm;omega,(fun h=>by cases h),Or.inr ⟨g,0,rfl,?_,fun i hi=>?_⟩⟩
   · by_cases hn:g < w.heap.size
     · exact hn
     · rw [Array.getElem?_eq_none (by omega)] at hh;cases hh
   · have e:cur.toList[i]? = some (Value.int .i64 (xs[i]?.getD 0)):=by
       have:(cur.toList.take (n*1))[i]? = (iv xs)[i]?:=by rw [ht]
       rw [List.getElem?_take,if_pos (by omega)] at this
       rw [this,iv,List.getElem?_map,List.getElem?_eq_getElem hi];rfl
     rw [Nat.zero_add]
     simp only [World.cell?,hh]
     simpa using e
theorem own_ge3 {w:World} {B:Nat} {e:TypeId} {size:Nat} {v:Value} {n:Nat} {xs:List Value} (h:w.ownsRow B e size v n xs):∀ r,v.ownBlock=some r→B≤r:=by
 intro r hr
 rcases h.2 with ⟨h1,_⟩ | ⟨g,cap,cur,hv,hg,_⟩
 · subst h1;cases hr
 · subst hv;simp [Value.ownBlock] at hr;omega
theorem RetP.behind {w w1:World} {ys:List Int} {e:Ending} {w':World} (hb:Below w.heap.size w w1) (h:RetP w1 ys e w'):RetP w ys e w':=by
 obtain ⟨p,n,c,h1,h2,h3,h4,h5,h6,h7⟩:=h
 exact ⟨p,n,c,h1,h2,h3,h4,h5,h6,hb.trans (h7.mono hb.size)⟩
def win (l:List UInt8) (a b:Nat):List UInt8:=(l.take b).drop a
theorem val_whole (s:ByteArray):val (s.data.toList.take s.size)=val s.data.toList:=by
 rw [List.take_of_length_le (by rw [Array.length_toList];exact Nat.le_refl _)]
theorem win_succ (s:ByteArray) (a b:Nat) (hab:a≤b) (hb:b < s.size):valFrom 0 (win s.data.toList a (b+1))=valFrom 0 (win s.data.toList a b)*10+(s[b].toNat - 48):=by
 unfold win
 rw [take_snoc s b hb,List.drop_append_of_le_length (by rw [List.length_take,← size_len];omega),valFrom_append,valFrom_cons,valFrom_nil]
theorem win_dig {l:List UInt8} (h:l.all isDig=true) (a b:Nat):(win l a b).all isDig=true:=by
 rw [List.all_eq_true] at h ⊢
 exact fun x hx=>h x (List.mem_of_mem_take (List.mem_of_mem_drop hx))
theorem win_len (l:List UInt8) (a b:Nat) (h:b≤l.length):(win l a b).length=b - a:=by
 unfold win;rw [List.length_drop,List.length_take];omega
theorem val_split (l:List UInt8) (a b:Nat) (hab:a≤b) (hb:b≤l.length):val (l.take b)=val (l.take a)*10 ^ (b - a)+val (win l a b):=by
 have e:l.take b=l.take a ++ win l a b:=by
   have h:=List.take_append_drop a (l.take b)
   rw [List.take_take,Nat.min_eq_left hab] at h
   exact h.symm
 have h2:val (l.take b)=valFrom (val (l.take a)) (win l a b):=by
   unfold val;rw [e,valFrom_append]
 rw [h2,valFrom_eq,win_len l a b hb];rfl
end Go.Proofs.YtpiiclmkbplkhaaGreatDoor.Kl
