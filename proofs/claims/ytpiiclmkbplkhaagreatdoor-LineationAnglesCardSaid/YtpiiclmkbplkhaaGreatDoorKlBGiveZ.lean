import Derived.Lib.ItoaLen
import Derived.Test.YtpiiclmkbplkhaaGreatDoorKlBJoined
namespace Go.Proofs.YtpiiclmkbplkhaaGreatDoor.Kl
open Go Go.RowKit
set_option maxRecDepth 100000
set_option maxHeartbeats 8000000
theorem dec_big {u:Nat} (h:¬ u < 10):Lib.decDigits u=Lib.decDigits (u / 10) ++ [UInt8.ofNat (48+u % 10)]:=by rw [Lib.decDigits,dif_neg h]
theorem itoa_nat (n:Int) (h:0≤n):Lib.itoa n=Lib.decDigits n.toNat:=by unfold Lib.itoa;rw [if_neg (by omega)]
theorem drop_isP {B:Int}:∀ (k:Nat) {xs:List Int},IsP B xs→IsP B (xs.drop k)
 | 0,_,h=>h
 | k+1,[],h=>by simpa using h
 | k+1,_ :: r,h=>drop_isP k (isP_tail h)
def sgn (b:Bool) (N:Nat):List UInt8:=if b && decide (0 < N) then 45 :: Lib.decDigits N else Lib.decDigits N
theorem sgn_itoa (x:Int):sgn (decide (x < 0)) x.natAbs=Lib.itoa x:=by
 unfold sgn Lib.itoa
 by_cases h:x < 0
 · have h2:0 < x.natAbs:=by omega
   rw [decide_eq_true h,decide_eq_true h2,if_pos h];rfl
 · rw [decide_eq_false h,if_neg h]
   show Lib.decDigits x.natAbs=Lib.decDigits x.toNat
   congr 1;omega
theorem dec_len_le (N:Nat):∀ k,N < 10 ^ k→0 < k→(Lib.decDigits N).length≤k:=by
 induction N using Nat.strongRecOn with
 | _ N ih =>
   intro k h h0
   by_cases hN:N < 10
   · rw [Lib.decDigits,dif_pos hN];exact h0
   · rw [dec_big hN,List.length_append]
     obtain ⟨m,rfl⟩:∃ m,k=m+1:=⟨k - 1,by omega⟩
     rw [Nat.pow_succ] at h
     have hm:0 < m:=by
       rcases Nat.eq_zero_or_pos m with e | e
       · subst e;simp at h;omega
       · exact e
     have:=ih (N / 10) (by omega) m (by omega) hm
     simp;omega
def dlen (x:Int):Nat:=(Lib.decDigits x.natAbs).length
theorem itoaB_data (x:Int):(itoaB x).data.toList=Lib.itoa x:=rfl
theorem magB_itoa (x:Int):magB (itoaB x)=strOf (Lib.decDigits x.natAbs):=by unfold magB;rw [itoaB_data,mag_itoa]
theorem itoa_len (x:Int):(Lib.itoa x).length=dlen x+(if x < 0 then 1 else 0):=by
 have h1:=mag_length (Lib.itoa x)
 rw [mag_itoa,neg_itoa] at h1
 have h2:=itoa_pos' x
 unfold dlen
 by_cases h:x < 0
 · rw [decide_eq_true h,if_pos rfl] at h1;rw [if_pos h];omega
 · rw [decide_eq_false h,if_neg (by decide)] at h1;rw [if_neg h];omega
where
 itoa_pos' (x:Int):0 < (Lib.itoa x).length:=by
   unfold Lib.itoa;split
   · simp
   · exact List.length_pos_iff.2 (decDigits_ne _)
theorem itoaB_size (x:Int) (h:dlen x≤100000):(itoaB x).size≤100001:=by
 unfold itoaB;rw [strOf_size,itoa_len];split <;> omega
theorem dig_lt (N:Nat):N < 10 ^ (Lib.decDigits N).length:=by
 have:=val_lt _ (decDigits_dig N);rwa [val_decDigits] at this
theorem sgn_of (z:Int) (b:Bool) (N:Nat) (h:N=z.natAbs) (hb:0 < N→b=decide (z < 0)):sgn b N=Lib.itoa z:=by
 rw [← sgn_itoa]
 by_cases h0:0 < N
 · rw [hb h0,h]
 · have e1:N=0:=by omega
   have e2:z.natAbs=0:=by omega
   rw [e1,e2];unfold sgn
   simp
theorem dec_add_len (K N M x:Nat) (hK:0 < K) (h1:(Lib.decDigits N).length≤K) (h2:(Lib.decDigits M).length≤K) (hx:x≤N+M):(Lib.decDigits x).length≤K+1:=by
 refine dec_len_le x (K+1) ?_ (by omega)
 have a:=Nat.lt_of_lt_of_le (dig_lt N) (Nat.pow_le_pow_right (by decide) h1)
 have b:=Nat.lt_of_lt_of_le (dig_lt M) (Nat.pow_le_pow_right (by decide) h2)
 rw [Nat.pow_succ];omega
structure Sl (w:World) (p:Option Addr) (n c:Nat) (X:Nat):Prop where
 len:n=(pcN X).length
 cap:n≤c
 top:c≤9223372036854775807
 nil:p=none→c=0
 has:Has w p (pcN X)
theorem Sl.below {w w':World} {p:Option Addr} {n c X:Nat} (h:Sl w p n c X) (hb:Below w.heap.size w w'):Sl w' p n c X:=⟨h.len,h.cap,h.top,h.nil,h.has.below hb⟩
theorem chain2 {P:Program} {K:FuncId} {args:Array Value} {w w0:World} {v:Value} (hb:Below w0.heap.size w0 w)
   (h:Calls P K args w fun e w' => e = .returned v∧Below w.heap.size w w'):Calls P K args w fun e w' => e = .returned v∧Below w.heap.size w w'∧Below w0.heap.size w0 w':=
 h.mono fun _ _ ⟨a,b⟩=>⟨a,b,hb.trans (b.mono hb.size)⟩
theorem neg_itoaB (x:Int):neg (itoaB x).data.toList=decide (x < 0):=by rw [itoaB_data,neg_itoa]
theorem dat_inj {a b:ByteArray} (h:a.data.toList=b.data.toList):a=b:=by
 cases a;cases b;congr;exact Array.toList_inj.1 h
theorem itoa_zero : itoaB 0=⟨#[48]⟩:=by unfold itoaB;rw [show Lib.itoa 0=[48] by rw [itoa_nat _ (by decide)];show Lib.decDigits 0=_;rw [Lib.decDigits];rfl];rfl
theorem itoa_inj {x y:Int} (h:itoaB x=itoaB y):x=y:=by
 have hl:Lib.itoa x=Lib.itoa y:=by rw [← itoaB_data,← itoaB_data,h]
 have h1:=neg_itoa x
 have h2:=val_decDigits x.natAbs
 have h3:=val_decDigits y.natAbs
 rw [← mag_itoa] at h2 h3
 rw [hl] at h1 h2
 rw [neg_itoa] at h1
 rw [h3] at h2
 rw [decide_eq_decide] at h1
 omega
theorem itoa_eq_zero (x:Int):itoaB x=⟨#[48]⟩↔x=0:=by
 rw [← itoa_zero];exact ⟨itoa_inj,fun h=>by rw [h]⟩
theorem dlen_neg (x:Int):dlen (-x)=dlen x:=by unfold dlen;rw [Int.natAbs_neg]
theorem itoa_pos_size (x:Int):0 < (itoaB x).size:=by
 unfold itoaB;rw [strOf_size]
 unfold Lib.itoa;split
 · simp
 · exact List.length_pos_iff.2 (decDigits_ne _)
theorem sign_any (x:Int) (w:World):Calls Tryz.prog 86 #[.string (itoaB x)] w (Ret w (.int .i64 x.sign)):=by
 have hz:((itoaB x).toList == [48])=decide (x=0):=by
   rw [Bool.eq_iff_iff,beq_iff_eq,decide_eq_true_iff,← itoa_eq_zero,Lib.toList_data]
   exact ⟨fun h=>dat_inj h,fun h=>by rw [h]⟩
 have h0:=itoa_pos_size x
 have he:((itoaB x).toList == [])=false:=by
   rw [beq_eq_false_iff_ne,Lib.toList_data]
   intro h;rw [size_len,h] at h0;exact absurd h0 (by decide)
 have hn:=neg_itoaB x
 obtain ⟨a,ha⟩:∃ a,itoaB x=a:=⟨_,rfl⟩
 rw [ha] at hz he h0 hn ⊢
 rw [neg_of a h0] at hn
 clear ha
 have h0':(0:Int) < (a.size:Int):=by omega
 rcases Int.lt_trichotomy x 0 with h | h | h
 · have e:x.sign = -1:=Int.sign_eq_neg_one_of_neg h
   rw [e]
   have h2:((a[0].toNat:Int) == 45)=true:=byte_eq (d:=45) rfl (by rw [decide_eq_true h] at hn;simpa using hn)
   rw [decide_eq_false (by omega)] at hz
   clear e h hn
   go_enter Tryz.func86,Tryz.ntmps86
   go_wp2
   go_ret
   exact ⟨rfl,Below.refl _ _⟩
 · have e:x.sign=0:=by rw [h];rfl
   rw [e]
   rw [decide_eq_true h] at hz
   clear e h hn
   go_enter Tryz.func86,Tryz.ntmps86
   go_wp2
   go_ret
   exact ⟨rfl,Below.refl _ _⟩
 · have e:x.sign=1:=Int.sign_eq_one_of_pos h
   rw [e]
   have h2:((a[0].toNat:Int) == 45)=false:=byte_ne (d:=45) rfl (by rw [decide_eq_false (by omega)] at hn;simpa using hn)
   rw [decide_eq_false (by omega)] at hz
   clear e h hn
   go_enter Tryz.func86,Tryz.ntmps86
   go_wp2
   go_ret
   exact ⟨rfl,Below.refl _ _⟩
theorem neg_any (x:Int) (w:World) (hl:dlen x≤100000):Calls Tryz.prog 70 #[.string (itoaB x)] w (Ret w (.string (itoaB (-x)))):=by
 have s1:∀ w,Calls Tryz.prog 86 #[.string (itoaB x)] w (Ret w (.int .i64 x.sign)):=fun w=>sign_any x w
 have hsz:(itoaB x).size≤100001:=itoaB_size x hl
 have h0:=itoa_pos_size x
 have hr0:x < 0→(itoaB x).extract 1 (itoaB x).size=itoaB (-x):=fun h=>by
   rw [magB_minus _ (by rw [neg_itoaB,decide_eq_true h]),magB_itoa];unfold itoaB
   rw [itoa_nat (-x) (by omega),show (-x).toNat=x.natAbs by omega]
 have hr1:0 < x→(⟨#[45]⟩:ByteArray) ++ itoaB x=itoaB (-x):=fun h=>by
   rw [magB_plus (itoaB x) (by rw [neg_itoaB,decide_eq_false (by omega)]),magB_itoa,cat_minus];unfold itoaB
   rw [← sgn_of (-x) true x.natAbs (by omega) (fun _=>by rw [decide_eq_true (by omega)])]
   unfold sgn;rw [decide_eq_true (by omega:0 < x.natAbs)];rfl
 have hr2:x=0→(⟨#[48]⟩:ByteArray)=itoaB (-x):=fun h=>by rw [h];exact itoa_zero.symm
 obtain ⟨r,hr⟩:∃ r,itoaB (-x)=r:=⟨_,rfl⟩
 obtain ⟨a,ha⟩:∃ a,itoaB x=a:=⟨_,rfl⟩
 rw [hr] at hr0 hr1 hr2
 rw [ha] at s1 hsz h0 hr0 hr1
 rw [ha,hr]
 clear ha hr hl
 have h0':(0:Int) < (a.size:Int):=by omega
 have hb:=Below.refl w.heap.size w
 rcases Int.lt_trichotomy x 0 with h | h | h
 · have R:=Lib.hid (hr0 h)
   rw [show x.sign = -1 from Int.sign_eq_neg_one_of_neg h] at s1
   have S1:=Lib.hid s1
   clear h hr0 hr1 hr2 s1
   go_enter Tryz.func70,Tryz.ntmps70
   go_wp2_with (go_at_call 86;refine (chain hb (S1.out _)).mono ?_;clear hb;rintro e w1 ⟨rfl,hb⟩)
   go_ret
   exact ⟨retS R.out,hb⟩
 · have R:=Lib.hid (hr2 h)
   rw [show x.sign=0 by rw [h];rfl] at s1
   have S1:=Lib.hid s1
   clear h hr0 hr1 hr2 s1
   go_enter Tryz.func70,Tryz.ntmps70
   go_wp2_with (go_at_call 86;refine (chain hb (S1.out _)).mono ?_;clear hb;rintro e w1 ⟨rfl,hb⟩)
   go_ret
   exact ⟨retS R.out,hb⟩
 · have R:=Lib.hid (hr1 h)
   rw [show x.sign=1 from Int.sign_eq_one_of_pos h] at s1
   have S1:=Lib.hid s1
   clear h hr0 hr1 hr2 s1
   go_enter Tryz.func70,Tryz.ntmps70
   go_wp2_with (go_at_call 86;refine (chain hb (S1.out _)).mono ?_;clear hb;rintro e w1 ⟨rfl,hb⟩)
   go_ret
   exact ⟨retS R.out,hb⟩
theorem cmp_digs : ∀ (l m:List UInt8),l.length=m.length→l.all isDig=true→m.all isDig=true→Lib.compareBytes l m=Lib.compareInt (val l) (val m)
 | [],[],_,_,_=>rfl
 | [],_ :: _,h,_,_=>by simp at h
 | _ :: _,[],h,_,_=>by simp at h
 | a :: al,b :: bl,h,ha,hb=>by
   rw [List.all_cons,Bool.and_eq_true] at ha hb
   have hl:al.length=bl.length:=by simpa using h
   have ih:=cmp_digs al bl hl ha.2 hb.2
   have h1:=val_lt al ha.2
   have h2:=val_lt bl hb.2
   rw [← hl] at h2
   have da:=ha.1
   have db:=hb.1
   unfold isDig at da db
   rw [Bool.and_eq_true,decide_eq_true_iff,decide_eq_true_iff] at da db
   show (if a < b then (-1:Int) else if b < a then 1 else Lib.compareBytes al bl)=_
   rw [val_cons,val_cons,← hl]
   obtain ⟨P,hP⟩:∃ P,10 ^ al.length=P:=⟨_,rfl⟩
   rw [hP] at h1 h2 ⊢
   have key:∀ u v:Nat,u < v→u*P+P≤v*P:=fun u v huv=>by
     have:=Nat.mul_le_mul_right P (show u+1≤v by omega)
     rwa [Nat.add_mul,Nat.one_mul] at this
   unfold Lib.compareInt
   by_cases c1:a < b
   · have c1':a.toNat < b.toNat:=UInt8.lt_iff_toNat_lt.1 c1
     have:=key (a.toNat - 48) (b.toNat - 48) (by omega)
     rw [if_pos c1,if_pos (by omega)]
   · by_cases c2:b < a
     · have c2':b.toNat < a.toNat:=UInt8.lt_iff_toNat_lt.1 c2
       have:=key (b.toNat - 48) (a.toNat - 48) (by omega)
       rw [if_neg c1,if_pos c2,if_neg (by omega),if_pos (by omega)]
     · have e:a=b:=UInt8.toNat.inj (by
         have h1:¬ a.toNat < b.toNat:=fun h=>c1 (UInt8.lt_iff_toNat_lt.2 h)
         have h2:¬ b.toNat < a.toNat:=fun h=>c2 (UInt8.lt_iff_toNat_lt.2 h)
         omega)
       rw [if_neg c1,if_neg c2,ih,e]
       unfold Lib.compareInt
       by_cases d1:val al < val bl
       · rw [if_pos (by omega),if_pos (by omega)]
       · by_cases d2:val bl < val al
         · rw [if_neg (by omega),if_pos (by omega),if_neg (by omega),if_pos (by omega)]
         · rw [if_neg (by omega),if_neg (by omega),if_neg (by omega),if_neg (by omega)]
def orI (x y:Int):Int:=if x=0 then y else x
theorem or_two (b o c:Nat) (x y:Int) (w:World) (h0:w.cell? ⟨b,o,none⟩=some (.int .i64 x)) (h1:w.cell? ⟨b,o+1,none⟩=some (.int .i64 y)) :
   Calls Tryz.prog 95 #[.slice (some ⟨b,o,none⟩) 2 c] w (Ret w (.int .i64 (orI x y))):=by
 unfold orI
 by_cases hx:x=0
 · rw [if_pos hx]
   subst hx
   by_cases hy:y=0
   · subst hy
     go_enter Tryz.func95,Tryz.ntmps95
     go_wp2
     refine wp_loop_rounds 3 ?_
     rw [rounds_succ]
     go_wp2
     rw [rounds_succ]
     go_wp2
     rw [rounds_succ]
     go_wp2
     go_ret
     exact ⟨rfl,Below.refl _ _⟩
   · have hyb:(y == 0)=false:=by simpa using hy
     go_enter Tryz.func95,Tryz.ntmps95
     go_wp2
     refine wp_loop_rounds 2 ?_
     rw [rounds_succ]
     go_wp2
     rw [rounds_succ]
     go_wp2
     go_ret
     exact ⟨rfl,Below.refl _ _⟩
 · rw [if_neg hx]
   have hxb:(x == 0)=false:=by simpa using hx
   go_enter Tryz.func95,Tryz.ntmps95
   go_wp2
   refine wp_loop_rounds 1 ?_
   rw [rounds_succ]
   go_wp2
   go_ret
   exact ⟨rfl,Below.refl _ _⟩
theorem mag_cmp (X Y:Nat):orI (Lib.compareInt ((Lib.decDigits X).length:Nat) ((Lib.decDigits Y).length:Nat)) (Lib.compareBytes (Lib.decDigits X) (Lib.decDigits Y))=Lib.compareInt X Y:=by
 have key:∀ X Y:Nat,(Lib.decDigits X).length < (Lib.decDigits Y).length→X < Y:=fun X Y h=>by
   refine Nat.lt_of_not_le fun h2=>?_
   have h3:=dec_len_le Y (Lib.decDigits X).length (Nat.lt_of_le_of_lt h2 (dig_lt X)) (List.length_pos_iff.2 (decDigits_ne _))
   omega
 unfold orI
 rcases Nat.lt_trichotomy (Lib.decDigits X).length (Lib.decDigits Y).length with h | h | h
 · have:=key X Y h
   unfold Lib.compareInt
   rw [if_pos (by omega:((Lib.decDigits X).length:Int) < ((Lib.decDigits Y).length:Int)),if_neg (by decide),if_pos (by omega)]
 · rw [cmp_digs _ _ h (decDigits_dig X) (decDigits_dig Y),val_decDigits,val_decDigits]
   unfold Lib.compareInt
   rw [if_neg (by omega:¬ ((Lib.decDigits X).length:Int) < ((Lib.decDigits Y).length:Int)),if_neg (by omega:¬ ((Lib.decDigits X).length:Int) > ((Lib.decDigits Y).length:Int)),if_pos rfl]
 · have:=key Y X h
   unfold Lib.compareInt
   rw [if_neg (by omega:¬ ((Lib.decDigits X).length:Int) < ((Lib.decDigits Y).length:Int)),if_pos (by omega:((Lib.decDigits X).length:Int) > ((Lib.decDigits Y).length:Int)),if_neg (by decide),if_neg (by omega),if_pos (by omega)]
theorem or_built (l z o:Int) (h:orI l z=o) (w:World) :
   Calls Tryz.prog 95 #[.slice (some ⟨w.heap.size,0,none⟩) 2 2] (w.alloc (Obj.cells #[.int .i64 l,.int .i64 z] 3)) (Ret w (.int .i64 o)):=by
 subst h
 exact chain ((Below.refl w.heap.size w).alloc (Nat.le_refl _) _) (or_two w.heap.size 0 2 l z _ (by rw [World.cell?_alloc_new];rfl) (by rw [World.cell?_alloc_new];rfl))
theorem compare_same (a b:ByteArray) (l z s o:Int) (w:World)
   (s1:∀ w,Calls Tryz.prog 86 #[.string a] w (Ret w (.int .i64 s)))
   (s2:∀ w,Calls Tryz.prog 86 #[.string b] w (Ret w (.int .i64 s)))
   (c1:∀ w,Calls Tryz.prog 61 #[.int .i64 a.size,.int .i64 b.size] w fun e w' => e = .returned (.int .i64 l)∧w'=w)
   (c2:∀ w,Calls Tryz.prog 104 #[.string a,.string b] w fun e w' => e = .returned (.int .i64 z)∧w'=w)
   (ho:orI l z=o) (hs:s=1∨s=0∨s = -1) (ho2:o=1∨o=0∨o = -1) :
   Calls Tryz.prog 74 #[.string a,.string b] w (Ret w (.int .i64 (s*o))):=by
 have c0:∀ w,Calls Tryz.prog 61 #[.int .i64 s,.int .i64 s] w fun e w' => e = .returned (.int .i64 0)∧w'=w:=fun w=>by
   have:=Tryz.cmp_Compare_int s s w
   rwa [show Lib.compareInt s s=0 by unfold Lib.compareInt;rw [if_neg (by omega),if_neg (by omega)]] at this
 have OR:=Lib.hid (or_built l z o ho)
 have S1:=Lib.hid s1
 have S2:=Lib.hid s2
 have C0:=Lib.hid c0
 have C1:=Lib.hid c1
 have C2:=Lib.hid c2
 clear s1 s2 c0 c1 c2 ho
 have hb:=Below.refl w.heap.size w
 rcases hs with rfl | rfl | rfl <;> rcases ho2 with rfl | rfl | rfl <;>
   (go_enter Tryz.func74,Tryz.ntmps74
    go_wp2_with (first | (go_at_call 86;first | (with_reducible refine (chain hb (S1.out _)).mono ?_;clear hb;rintro e w1 ⟨rfl,hb⟩) | (with_reducible refine (chain hb (S2.out _)).mono ?_;clear hb;rintro e w1 ⟨rfl,hb⟩)) | (go_at_call 61;first | (with_reducible refine (C0.out _).mono ?_;rintro e w2 ⟨rfl,rfl⟩) | (with_reducible refine (C1.out _).mono ?_;rintro e w2 ⟨rfl,rfl⟩)) | (go_at_call 104;refine (C2.out _).mono ?_;rintro e w2 ⟨rfl,rfl⟩) | (go_at_call 95;refine (OR.out _).mono ?_;rintro e w3 ⟨rfl,hb1⟩;replace hb:=hb.trans (hb1.mono hb.size);clear hb1))
    go_ret
    exact ⟨rfl,hb⟩)
theorem compare_diff (a b:ByteArray) (s t:Int) (w:World)
   (s1:∀ w,Calls Tryz.prog 86 #[.string a] w (Ret w (.int .i64 s)))
   (s2:∀ w,Calls Tryz.prog 86 #[.string b] w (Ret w (.int .i64 t)))
   (o:Int) (ho:Lib.compareInt s t=o) (ho2:o=1∨o = -1) :
   Calls Tryz.prog 74 #[.string a,.string b] w (Ret w (.int .i64 o)):=by
 have c0:∀ w,Calls Tryz.prog 61 #[.int .i64 s,.int .i64 t] w fun e w' => e = .returned (.int .i64 o)∧w'=w:=fun w=>by
   have:=Tryz.cmp_Compare_int s t w
   rwa [ho] at this
 have S1:=Lib.hid s1
 have S2:=Lib.hid s2
 have C0:=Lib.hid c0
 clear s1 s2 c0 ho
 have hb:=Below.refl w.heap.size w
 rcases ho2 with rfl | rfl <;>
   (go_enter Tryz.func74,Tryz.ntmps74
    go_wp2_with (first
     | (go_at_call 86;first
       | (with_reducible refine (chain hb (S1.out _)).mono ?_;clear hb;rintro e w1 ⟨rfl,hb⟩)
       | (with_reducible refine (chain hb (S2.out _)).mono ?_;clear hb;rintro e w1 ⟨rfl,hb⟩))
     | (go_at_call 61;refine (C0.out _).mono ?_;rintro e w2 ⟨rfl,rfl⟩))
    go_ret
    exact ⟨rfl,hb⟩)
theorem cmpInt_tri (x y:Int):Lib.compareInt x y=1∨Lib.compareInt x y=0∨Lib.compareInt x y = -1:=by
 unfold Lib.compareInt;split
 · exact Or.inr (Or.inr rfl)
 · split
   · exact Or.inl rfl
   · exact Or.inr (Or.inl rfl)
theorem itoa_size (x:Int):((itoaB x).size:Int)=dlen x+(if x < 0 then 1 else 0):=by
 unfold itoaB;rw [strOf_size,itoa_len];split <;> omega
theorem cmpInt_add (x y k:Int):Lib.compareInt (x+k) (y+k)=Lib.compareInt x y:=by
 unfold Lib.compareInt
 by_cases h:x < y
 · rw [if_pos h,if_pos (by omega)]
 · rw [if_neg h,if_neg (by omega)]
   by_cases h2:x > y
   · rw [if_pos h2,if_pos (by omega)]
   · rw [if_neg h2,if_neg (by omega)]
theorem sign_cmp (x y:Int):(x - y).sign=Lib.compareInt x y:=by
 unfold Lib.compareInt
 rcases Int.lt_trichotomy x y with h | h | h
 · rw [if_pos h,Int.sign_eq_neg_one_of_neg (by omega)]
 · rw [if_neg (by omega),if_neg (by omega),h,Int.sub_self];rfl
 · rw [if_neg (by omega),if_pos h,Int.sign_eq_one_of_pos (by omega)]
theorem compare_any (x y:Int) (w:World) :
   Calls Tryz.prog 74 #[.string (itoaB x),.string (itoaB y)] w (Ret w (.int .i64 (x - y).sign)):=by
 rw [sign_cmp]
 by_cases hs:x.sign=y.sign
 · have hxy:(x < 0∧y < 0)∨(x=0∧y=0)∨(0 < x∧0 < y):=by
     rcases Int.lt_trichotomy x 0 with h | h | h <;> rcases Int.lt_trichotomy y 0 with h2 | h2 | h2 <;>
       simp_all [Int.sign_eq_neg_one_of_neg,Int.sign_eq_one_of_pos]
   have hm:=mag_cmp x.natAbs y.natAbs
   have hor:orI (Lib.compareInt (itoaB x).size (itoaB y).size) (Lib.compareBytes (itoaB x).data.toList (itoaB y).data.toList)=Lib.compareInt x.natAbs y.natAbs:=by
     rw [← hm,itoa_size,itoa_size,itoaB_data,itoaB_data]
     rcases hxy with ⟨h1,h2⟩ | h
     · rw [if_pos h1,if_pos h2,cmpInt_add]
       unfold Lib.itoa
       rw [if_pos h1,if_pos h2]
       rfl
     · have h1:¬ x < 0:=by omega
       have h2:¬ y < 0:=by omega
       rw [if_neg h1,if_neg h2,cmpInt_add,itoa_nat x (by omega),itoa_nat y (by omega),show x.toNat=x.natAbs by omega,show y.toNat=y.natAbs by omega]
       rfl
   have:=compare_same (itoaB x) (itoaB y) _ _ x.sign _ w (fun w=>sign_any x w) (fun w=>by rw [hs];exact sign_any y w) (fun w=>Tryz.cmp_Compare_int _ _ w) (fun w=>Tryz.strings_Compare _ _ w) hor
     (by rcases Int.lt_trichotomy x 0 with h | h | h
         · exact Or.inr (Or.inr (Int.sign_eq_neg_one_of_neg h))
         · exact Or.inr (Or.inl (by rw [h];rfl))
         · exact Or.inl (Int.sign_eq_one_of_pos h)) (cmpInt_tri _ _)
   have e:x.sign*Lib.compareInt x.natAbs y.natAbs=Lib.compareInt x y:=by
     rcases hxy with ⟨h1,h2⟩ | ⟨h1,h2⟩ | ⟨h1,h2⟩
     · rw [Int.sign_eq_neg_one_of_neg h1]
       unfold Lib.compareInt
       rcases Int.lt_trichotomy x y with h | h | h
       · rw [if_neg (by omega),if_pos (by omega),if_pos h];rfl
       · rw [if_neg (by omega),if_neg (by omega),if_neg (by omega),if_neg (by omega)];rfl
       · rw [if_pos (by omega),if_neg (by omega),if_pos h];rfl
     · rw [h1,h2];rfl
     · rw [Int.sign_eq_one_of_pos h1,show ((x.natAbs:Nat):Int)=x by omega,show ((y.natAbs:Nat):Int)=y by omega,Int.one_mul]
   rwa [e] at this
 · have e:Lib.compareInt x.sign y.sign=Lib.compareInt x y∧(Lib.compareInt x y=1∨Lib.compareInt x y = -1):=by
     have key:∀ z:Int,(z < 0∧z.sign = -1)∨(z=0∧z.sign=0)∨(0 < z∧z.sign=1):=fun z=>by
       rcases Int.lt_trichotomy z 0 with h | h | h
       · exact Or.inl ⟨h,Int.sign_eq_neg_one_of_neg h⟩
       · exact Or.inr (Or.inl ⟨h,by rw [h];rfl⟩)
       · exact Or.inr (Or.inr ⟨h,Int.sign_eq_one_of_pos h⟩)
     have kx:=key x
     have ky:=key y
     by_cases h:x < y
     · have e1:Lib.compareInt x y = -1:=by unfold Lib.compareInt;rw [if_pos h]
       have e2:Lib.compareInt x.sign y.sign = -1:=by unfold Lib.compareInt;rw [if_pos (by omega)]
       exact ⟨by rw [e1,e2],Or.inr e1⟩
     · have hne:x≠y:=fun h=>hs (by rw [h])
       have e1:Lib.compareInt x y=1:=by unfold Lib.compareInt;rw [if_neg h,if_pos (by omega)]
       have e2:Lib.compareInt x.sign y.sign=1:=by unfold Lib.compareInt;rw [if_neg (by omega),if_pos (by omega)]
       exact ⟨by rw [e1,e2],Or.inl e1⟩
   exact compare_diff (itoaB x) (itoaB y) x.sign y.sign w (fun w=>sign_any x w) (fun w=>sign_any y w) _ e.1 e.2
theorem dig_unique : ∀ (l m:List UInt8),l.length=m.length→l.all isDig=true→m.all isDig=true→val l=val m→l=m
 | [],[],_,_,_,_=>rfl
 | [],_ :: _,h,_,_,_=>by simp at h
 | _ :: _,[],h,_,_,_=>by simp at h
 | a :: al,b :: bl,h,ha,hb,hv=>by
   rw [List.all_cons,Bool.and_eq_true] at ha hb
   have hl:al.length=bl.length:=by simpa using h
   have h1:=val_lt al ha.2
   have h2:=val_lt bl hb.2
   have da:=isDig_iff.1 ha.1
   have db:=isDig_iff.1 hb.1
   rw [val_cons,val_cons,← hl] at hv
   rw [← hl] at h2
   have ih:=dig_unique al bl hl ha.2 hb.2
   obtain ⟨P,hP⟩:∃ P,10 ^ al.length=P:=⟨_,rfl⟩
   rw [hP] at h1 h2 hv
   have key:∀ u v:Nat,u < v→u*P+P≤v*P:=fun u v huv=>by
     have:=Nat.mul_le_mul_right P (show u+1≤v by omega)
     rwa [Nat.add_mul,Nat.one_mul] at this
   have hd:a.toNat - 48=b.toNat - 48:=by
     rcases Nat.lt_trichotomy (a.toNat - 48) (b.toNat - 48) with c | c | c
     · have:=key _ _ c;omega
     · exact c
     · have:=key _ _ c;omega
   rw [hd] at hv
   have e1:a=b:=UInt8.toNat.inj (by omega)
   rw [e1,ih (by omega)]
theorem dec_of_canon {m:List UInt8} (h:m.all isDig=true) (h0:m≠[]) (h1:m.head? = some 48→m.length=1):m=Lib.decDigits (val m):=by
 refine dig_unique _ _ ?_ h (decDigits_dig _) (val_decDigits _).symm
 have hp:0 < m.length:=List.length_pos_iff.2 h0
 have a1:=dec_len_le (val m) m.length (val_lt m h) hp
 by_cases hh:m.head? = some 48
 · have:=List.length_pos_iff.2 (decDigits_ne (val m))
   have:=h1 hh
   omega
 · have a2:=val_ge_of_head h h0 hh
   have a3:10 ^ (m.length - 1) < 10 ^ (Lib.decDigits (val m)).length:=Nat.lt_of_le_of_lt a2 (dig_lt _)
   have a4:=(Nat.pow_lt_pow_iff_right (by decide:1 < 10)).1 a3
   omega
theorem canon_is_itoa {l:List UInt8} (h:canonB l=true):∃ x:Int,l=Lib.itoa x∧dlen x=(mag l).length:=by
 obtain ⟨h1,h2,h3⟩:=canon_parts h
 have e:=dec_of_canon h1 h2 (fun hh=>(h3 hh).2)
 cases hn:neg l with
 | false =>
   have em:=mag_pos hn
   refine ⟨(val (mag l):Int),?_,?_⟩
   · rw [itoa_nat _ (by omega),show ((val (mag l):Nat):Int).toNat=val (mag l) by omega,← e,em]
   · unfold dlen;rw [show ((val (mag l):Nat):Int).natAbs=val (mag l) by omega,← e]
 | true =>
   have hpos:0 < val (mag l):=by
     have hh:(mag l).head? ≠ some 48:=fun hh=>by have:=(h3 hh).1;rw [hn] at this;cases this
     exact Nat.lt_of_lt_of_le (Nat.pow_pos (by decide)) (val_ge_of_head h1 h2 hh)
   refine ⟨-(val (mag l):Int),?_,?_⟩
   · rw [← sgn_of (-(val (mag l):Int)) true (val (mag l)) (by omega) (fun _=>by rw [decide_eq_true (by omega)])]
     unfold sgn;rw [decide_eq_true hpos,← e];exact mag_neg_cons hn
   · unfold dlen;rw [show (-(val (mag l):Int)).natAbs=val (mag l) by omega,← e]
end Go.Proofs.YtpiiclmkbplkhaaGreatDoor.Kl
namespace Go.Proofs.YtpiiclmkbplkhaaGreatDoor.Kl
open Go
set_option maxRecDepth 100000
set_option maxHeartbeats 8000000
def pcM (n:Nat):List Int:=if h:n=0 then [] else ((n % 1000000000:Nat):Int) :: pcM (n / 1000000000)
termination_by n
decreasing_by omega
theorem pcM_isP (n:Nat):IsP 1000000000 (pcM n)∧pval 1000000000 (pcM n)=n:=by
 induction n using Nat.strongRecOn with
 | _ n ih =>
   by_cases h:n=0
   · subst h;rw [pcM,dif_pos rfl];exact ⟨⟨fun x hx=>by simp at hx,by simp⟩,rfl⟩
   · rw [pcM,dif_neg h]
     obtain ⟨⟨i1,i2⟩,i3⟩:=ih (n / 1000000000) (by omega)
     refine ⟨⟨fun x hx=>?_,?_⟩,?_⟩
     · rcases List.mem_cons.1 hx with rfl | hx
       · omega
       · exact i1 x hx
     · cases hr:pcM (n / 1000000000) with
       | nil =>
         rw [hr] at i3
         have:n / 1000000000=0:=by have:(0:Int)=((n / 1000000000:Nat):Int):=i3;omega
         intro e
         simp at e
         omega
       | cons a b=>rw [hr] at i2;rw [List.getLast?_cons_cons];exact i2
     · show ((n % 1000000000:Nat):Int)+1000000000*pval 1000000000 (pcM (n / 1000000000))=n
       rw [i3];omega
theorem eq_pcM {xs:List Int} (h:IsP 1000000000 xs):xs=pcM (pval 1000000000 xs).toNat:=by
 have h0:=pval_nonneg (by decide:(0:Int) < 1000000000) h.1
 obtain ⟨h1,h2⟩:=pcM_isP (pval 1000000000 xs).toNat
 exact isP_unique (by decide) h h1 (by rw [h2];omega)
theorem trim_pcM {xs:List Int} (h:Inr 1000000000 xs):trimP xs=pcM (pval 1000000000 xs).toNat:=by
 obtain ⟨h1,h2⟩:=trimP_isP xs.length xs rfl h
 rw [eq_pcM h1,h2]
theorem trim_pcM_of {xs:List Int} (h:Inr 1000000000 xs) (N:Nat) (hN:pval 1000000000 xs=N):trimP xs=pcM N:=by
 rw [trim_pcM h,hN];rfl
theorem pcM_zero : pcM 0=[]:=by rw [pcM,dif_pos rfl]
theorem pcM_nil {N:Nat} (h:(pcM N).length=0):N=0:=by
 have h1:=(pcM_isP N).2
 rw [List.length_eq_zero_iff.1 h] at h1
 have h2:(0:Int)=(N:Int):=h1
 omega
theorem pcM_in (N i:Nat):0≤(pcM N)[i]?.getD 0∧(pcM N)[i]?.getD 0 < 1000000000:=by
 rcases h:(pcM N)[i]? with _ | z
 · exact ⟨by decide,by decide⟩
 · exact (pcM_isP N).1.1 z (List.mem_of_getElem? h)
theorem pcM_len (N:Nat) (k:Nat) (h:N < 1000000000 ^ k):(pcM N).length≤k:=by
 by_cases h0:N=0
 · subst h0;rw [pcM_zero];exact Nat.zero_le _
 · obtain ⟨hI,hV⟩:=pcM_isP N
   rcases snoc_cases (pcM N) with e | ⟨ys,y,e⟩
   · rw [e];exact Nat.zero_le _
   · have hy:y≠0:=fun e2=>hI.2 (by rw [e,e2];simp)
     have hy1:=hI.1 y (by rw [e];simp)
     have h1:0≤pval 1000000000 ys:=pval_nonneg (by decide) (fun u hu=>hI.1 u (by rw [e];exact List.mem_append_left _ hu))
     rw [e,pval_append] at hV
     have h2:(1000000000:Int) ^ ys.length*1≤1000000000 ^ ys.length*pval 1000000000 [y]:=Int.mul_le_mul_of_nonneg_left (by show 1≤y+1000000000*0;omega) (Int.le_of_lt (Int.pow_pos (by decide)))
     have h3:(1000000000:Int) ^ ys.length≤(N:Int):=by omega
     have h4:1000000000 ^ ys.length≤N:=by
       have:((1000000000 ^ ys.length:Nat):Int)≤(N:Int):=by rw [Int.natCast_pow];exact h3
       omega
     rw [e,List.length_append]
     have h5:1000000000 ^ ys.length < 1000000000 ^ k:=Nat.lt_of_le_of_lt h4 h
     have:=(Nat.pow_lt_pow_iff_right (by decide:1 < 1000000000)).1 h5
     simp;omega
theorem pcM_lt (N:Nat):N < 1000000000 ^ (pcM N).length:=by
 have h1:=pval_lt (by decide:(0:Int) < 1000000000) (pcM_isP N).1.1
 rw [(pcM_isP N).2] at h1
 have:((1000000000 ^ (pcM N).length:Nat):Int)=(1000000000:Int) ^ (pcM N).length:=by rw [Int.natCast_pow];rfl
 omega
theorem pcM_ge (N:Nat) (h:N≠0):1000000000 ^ ((pcM N).length - 1)≤N:=by
 refine Nat.le_of_not_lt fun h1=>?_
 have h2:=pcM_len N _ h1
 have h3:(pcM N).length≠0:=fun e=>h (pcM_nil e)
 omega
theorem pcM_len_dec (N k:Nat) (h:(Lib.decDigits N).length≤k):(pcM N).length≤k:=by
 refine pcM_len N k (Nat.lt_of_lt_of_le (dig_lt N) ?_)
 exact Nat.le_trans (Nat.pow_le_pow_right (by decide) h) (Nat.pow_le_pow_left (by decide) k)
theorem pcM_len_mono {N M:Nat} (h:N≤M):(pcM N).length≤(pcM M).length:=pcM_len N _ (Nat.lt_of_le_of_lt h (pcM_lt M))
theorem cast_pow9 {k V:Nat} (h:V < 1000000000 ^ k):(V:Int) < (1000000000:Int) ^ k:=by
 have:((1000000000 ^ k:Nat):Int)=(1000000000:Int) ^ k:=by rw [Int.natCast_pow];rfl
 omega
structure ColAt (B:Int) (f:Nat→Int) (k:Nat) (o:Int) (out:List Int):Prop where
 len:out.length=k
 inr:Inr B out
 sum:pval B out+B ^ k*o=psum B f k
theorem col_zero (B:Int) (f:Nat→Int):ColAt B f 0 0 []:=⟨rfl,fun x hx=>by simp at hx,by simp [pval,psum]⟩
theorem col_step {B:Int} (hB:0 < B) {f:Nat→Int} {k:Nat} {o:Int} {out:List Int} (h:ColAt B f k o out):ColAt B f (k+1) ((o+f k) / B) (out ++ [(o+f k) % B]):=by
 refine ⟨by rw [List.length_append,h.len];rfl,fun z hz=>?_,?_⟩
 · rcases List.mem_append.1 hz with hz | hz
   · exact h.inr z hz
   · obtain rfl:z=(o+f k) % B:=by simpa using hz
     exact ⟨Int.emod_nonneg _ (by omega),Int.emod_lt_of_pos _ hB⟩
 · rw [pval_append,h.len]
   show pval B out+B ^ k*((o+f k) % B+B*0)+B ^ (k+1)*((o+f k) / B)=psum B f k+B ^ k*f k
   rw [← h.sum,Int.pow_succ,Int.mul_zero,Int.add_zero,Int.mul_assoc (B ^ k) B,Int.add_assoc,← Int.mul_add,Int.emod_add_mul_ediv,Int.mul_add,Int.add_assoc]
theorem col_end {B:Int} (hB:0 < B) {f:Nat→Int} {L:Nat} {o:Int} {out:List Int} (h:ColAt B f L o out) (h0:0≤psum B f L) (h1:psum B f L < B ^ L):o=0∧pval B out=psum B f L:=by
 have a:=pval_nonneg hB h.inr
 have b:=pval_lt hB h.inr
 rw [h.len] at b
 have s:=h.sum
 have P:0 < B ^ L:=Int.pow_pos hB
 generalize B ^ L=Q at *
 have ho:o=0:=by
   rcases Int.lt_trichotomy o 0 with c | c | c
   · have:Q*o≤Q*(-1):=Int.mul_le_mul_of_nonneg_left (by omega) (by omega)
     omega
   · exact c
   · have:Q*1≤Q*o:=Int.mul_le_mul_of_nonneg_left (by omega) (by omega)
     omega
 subst ho
 exact ⟨rfl,by omega⟩
theorem psum_add2 (B a b:Int) (f g:Nat→Int):∀ n,psum B (fun j=>a*f j+b*g j) n=a*psum B f n+b*psum B g n
 | 0=>by simp [psum]
 | n+1=>by
   show psum B (fun j=>a*f j+b*g j) n+B ^ n*(a*f n+b*g n)=a*(psum B f n+B ^ n*f n)+b*(psum B g n+B ^ n*g n)
   rw [psum_add2 B a b f g n,Int.mul_add,Int.mul_add,Int.mul_add,Int.mul_left_comm (B ^ n),Int.mul_left_comm (B ^ n)]
   omega
theorem psum_shift (B:Int) (f:Nat→Int):∀ n,psum B f (n+1)=f 0+B*psum B (fun j=>f (j+1)) n
 | 0=>by simp [psum]
 | n+1=>by
   show psum B f (n+1)+B ^ (n+1)*f (n+1)=f 0+B*(psum B (fun j=>f (j+1)) n+B ^ n*f (n+1))
   rw [psum_shift B f n,Int.mul_add,Int.pow_succ,Int.mul_comm (B ^ n) B,Int.mul_assoc]
   omega
def dsum (f:Nat→Int):Nat→Int
 | 0=>0
 | n+1=>dsum f n+f n
theorem dsum_shift (f:Nat→Int):∀ n,dsum f (n+1)=f 0+dsum (fun j=>f (j+1)) n
 | 0=>by simp [dsum]
 | n+1=>by
   show dsum f (n+1)+f (n+1)=f 0+(dsum (fun j=>f (j+1)) n+f (n+1))
   rw [dsum_shift f n];omega
theorem dsum_congr {f g:Nat→Int}:∀ (n:Nat),(∀ j,j < n→f j=g j)→dsum f n=dsum g n
 | 0,_=>rfl
 | n+1,h=>by show dsum f n+f n=dsum g n+g n;rw [dsum_congr n (fun j hj=>h j (by omega)),h n (by omega)]
theorem dsum_zero {f:Nat→Int}:∀ (n:Nat),(∀ j,j < n→f j=0)→dsum f n=0
 | 0,_=>rfl
 | n+1,h=>by show dsum f n+f n=0;rw [dsum_zero n (fun j hj=>h j (by omega)),h n (by omega)];rfl
theorem dsum_more {f:Nat→Int} {n m:Nat} (hnm:n≤m) (h:∀ j,n≤j→j < m→f j=0):dsum f m=dsum f n:=by
 obtain ⟨d,rfl⟩:∃ d,m=n+d:=⟨m - n,by omega⟩
 clear hnm
 induction d with
 | zero=>rfl
 | succ d ih =>
   show dsum f (n+d)+f (n+d)=_
   rw [ih (fun j h1 h2=>h j h1 (by omega)),h (n+d) (by omega) (by omega)];omega
def convAt (xs ys:List Int) (k:Nat) (i:Nat):Int:=xs[i]?.getD 0*ys[k - i]?.getD 0
def conv (xs ys:List Int) (k:Nat):Int:=dsum (convAt xs ys k) (k+1)
theorem psum_zero' (B:Int) {f:Nat→Int}:∀ (n:Nat),(∀ j,f j=0)→psum B f n=0
 | 0,_=>rfl
 | n+1,h=>by show psum B f n+B ^ n*f n=0;rw [psum_zero' B n h,h n];simp
theorem conv_cons (x:Int) (r ys:List Int) (k:Nat):conv (x :: r) ys k=1*(x*ys[k]?.getD 0)+1*(match k with | 0=>0 | m+1=>conv r ys m):=by
 unfold conv
 rw [dsum_shift]
 have e0:convAt (x :: r) ys k 0=x*ys[k]?.getD 0:=by unfold convAt;simp
 rw [e0]
 cases k with
 | zero=>simp [dsum]
 | succ m =>
   have:dsum (fun j=>convAt (x :: r) ys (m+1) (j+1)) (m+1)=dsum (convAt r ys m) (m+1):=dsum_congr _ fun j _=>by
     unfold convAt
     rw [List.getElem?_cons_succ,show m+1 - (j+1)=m - j by omega]
   rw [this]
   show _=1*(x*ys[m+1]?.getD 0)+1*dsum (convAt r ys m) (m+1)
   omega
theorem conv_sum (B:Int) (ys:List Int):∀ (xs:List Int) (L:Nat),xs.length+ys.length≤L→psum B (conv xs ys) L=pval B xs*pval B ys
 | [],L,_=>by
   rw [psum_zero' B (f:=conv [] ys) L (fun k=>dsum_zero _ fun j _=>by unfold convAt;simp)]
   simp [pval]
 | x :: r,L,h=>by
   rw [List.length_cons] at h
   obtain ⟨M,rfl⟩:∃ M,L=M+1:=⟨L - 1,by omega⟩
   rw [psum_congr B (M+1) (fun k _=>conv_cons x r ys k),psum_add2 B 1 1]
   rw [psum_shift B (fun k=>match k with | 0=>0 | m+1=>conv r ys m) M]
   have e1:psum B (fun j=>x*ys[j]?.getD 0) (M+1)=x*pval B ys:=by
     have:=psum_add2 B x 0 (fun j=>ys[j]?.getD 0) (fun _=>0) (M+1)
     rw [← pval_psum B ys (M+1) (by omega)] at this
     rw [← psum_congr B (M+1) (fun j _=>show x*ys[j]?.getD 0+0*0=x*ys[j]?.getD 0 by omega),this];omega
   have e2:psum B (fun j=>(match j+1 with | 0=>(0:Int) | m+1=>conv r ys m)) M=pval B r*pval B ys:=conv_sum B ys r M (by omega)
   rw [e1,e2]
   show 1*(x*pval B ys)+1*(0+B*(pval B r*pval B ys))=(x+B*pval B r)*pval B ys
   rw [Int.add_mul,Int.mul_assoc B];omega
def low : Nat→Nat→List UInt8
 | 0,_=>[]
 | j+1,p=>UInt8.ofNat (48+p / 10 ^ j % 10) :: low j p
theorem low_length : ∀ (j p:Nat),(low j p).length=j
 | 0,_=>rfl
 | j+1,p=>by show (low j p).length+1=j+1;rw [low_length j p]
theorem dec_low (N:Nat):∀ j,0 < N / 10 ^ j→Lib.decDigits N=Lib.decDigits (N / 10 ^ j) ++ low j N
 | 0,_=>by simp [low]
 | j+1,h=>by
   have e:N / 10 ^ (j+1)=N / 10 ^ j / 10:=by rw [Nat.pow_succ,Nat.div_div_eq_div_mul]
   rw [e] at h ⊢
   rw [dec_low N j (by omega),dec_big (u:=N / 10 ^ j) (by omega)]
   simp [low]
theorem low_nine (A b:Nat):low 9 (1000000000*A+b)=low 9 b:=by
 unfold low low low low low low low low low low
 have d:∀ k,k ∣ 1000000000→k*10 ∣ 1000000000→(1000000000*A+b) / k % 10=b / k % 10:=fun k h1 h2=>by
   obtain ⟨q,hq⟩:=h2
   by_cases hk:k=0
   · subst hk;simp
   · rw [hq,Nat.mul_assoc,Nat.mul_assoc,Nat.mul_add_div (by omega),Nat.mul_add_mod]
 rw [d (10 ^ 8) (by decide) (by decide),d (10 ^ 7) (by decide) (by decide),d (10 ^ 6) (by decide) (by decide),d (10 ^ 5) (by decide) (by decide),d (10 ^ 4) (by decide) (by decide),d (10 ^ 3) (by decide) (by decide),d (10 ^ 2) (by decide) (by decide),d (10 ^ 1) (by decide) (by decide),d (10 ^ 0) (by decide) (by decide)]
theorem dec_nine (A b:Nat) (hA:0 < A) (hb:b < 1000000000):Lib.decDigits (1000000000*A+b)=Lib.decDigits A ++ low 9 b:=by
 have e:(1000000000*A+b) / 10 ^ 9=A:=by
   show (1000000000*A+b) / 1000000000=A;omega
 rw [dec_low (1000000000*A+b) 9 (by rw [e];exact hA),e,low_nine]
def padAt (j p:Nat):List UInt8:=List.replicate (9 - j) 48 ++ low j p
theorem padAt_step (j p:Nat) (h:j < 9):(padAt j p).set (8 - j) (UInt8.ofNat (48+p / 10 ^ j % 10))=padAt (j+1) p:=by
 unfold padAt
 have e1:List.replicate (9 - j) (48:UInt8)=List.replicate (8 - j) 48 ++ [48]:=by
   rw [show 9 - j=(8 - j)+1 by omega,List.replicate_succ']
 rw [e1,List.append_assoc,List.set_append_right _ _ (by rw [List.length_replicate];exact Nat.le_refl _),List.length_replicate,Nat.sub_self,show 9 - (j+1)=8 - j by omega]
 rfl
theorem low_small : ∀ (d j p:Nat),p < 10 ^ j→low (j+d) p=List.replicate d 48 ++ low j p
 | 0,j,p,_=>by simp
 | d+1,j,p,h=>by
   show UInt8.ofNat (48+p / 10 ^ (j+d) % 10) :: low (j+d) p=_
   have h1:10 ^ j≤10 ^ (j+d):=Nat.pow_le_pow_right (by decide) (by omega)
   rw [Nat.div_eq_of_lt (by omega),low_small d j p h,List.replicate_succ];rfl
theorem padAt_end (j p:Nat) (hj:j≤9) (h:p / 10 ^ j=0):padAt j p=low 9 p:=by
 have h1:p < 10 ^ j:=by
   have hp:0 < 10 ^ j:=Nat.pow_pos (by decide)
   rcases Nat.lt_or_ge p (10 ^ j) with h2 | h2
   · exact h2
   · have:=Nat.div_pos h2 hp;omega
 unfold padAt
 have:=low_small (9 - j) j p h1
 rw [show j+(9 - j)=9 by omega] at this
 exact this.symm
end Go.Proofs.YtpiiclmkbplkhaaGreatDoor.Kl
