import Derived.Test.YtpiiclmkbplkhaaGreatDoorKlShelf
import Derived.WalkSpells
import Derived.WalkLawsBesides
import Derived.Outline
import Derived.LoopTactic
import Derived.Lib.AppendIntMem
import Derived.Sort.Grow
import Derived.Lib.AtoiErrMem
import Derived.Deep.QuietTactic
import Derived.BigQuiet
import Derived.Test.YtpiiclmkbplkhaaGreatDoorKlBNum
import Derived.Test.YtpiiclmkbplkhaaGreatDoorKlBRt
namespace Go.Proofs.YtpiiclmkbplkhaaGreatDoor.Kl
open Go Go.RowKit
set_option maxRecDepth 100000
set_option maxHeartbeats 8000000
theorem retB {a b:Bool} (h:a=b):Ending.returned (.bool a) = .returned (.bool b):=by rw [h]
theorem retI {k:IntKind} {a b:Int} (h:a=b):Ending.returned (.int k a) = .returned (.int k b):=by rw [h]
theorem retS {a b:ByteArray} (h:a=b):Ending.returned (.string a) = .returned (.string b):=by rw [h]
theorem retIB {k:IntKind} {a b:Int} {x y:Bool} (h:a=b) (g:x=y):Ending.returned (.tuple #[.int k a,.bool x]) = .returned (.tuple #[.int k b,.bool y]):=by rw [h,g]
theorem var_stays {P:Program} {w w':World} {n:String} {cs:Array Value} (h:w.var? P n=some cs) (hb:Below w.heap.size w w'):w'.var? P n=some cs:=by
 unfold World.var? at *
 cases hg:P.globalNamed n with
 | none=>simp [hg] at h
 | some g =>
   simp only [hg,Option.bind_some] at h ⊢
   have hlt:g < w.heap.size:=by
     by_cases hn:g < w.heap.size
     · exact hn
     · rw [Array.getElem?_eq_none (by omega)] at h;simp at h
   rw [hb.block g hlt];exact h
structure Env (w:World):Prop where
 tab : Lib.TabIs Tryz.prog w "internal/strconv.uint64pow10" .u64 Lib.pow10Tab
 esyn : ∃ tp p, w.var? Tryz.prog "strconv.ErrSyntax" = some #[.iface tp p]
 erng : ∃ tp p, w.var? Tryz.prog "strconv.ErrRange" = some #[.iface tp p]
theorem Env.below {w w':World} (h:Env w) (hb:Below w.heap.size w w'):Env w':=by
 obtain ⟨a,⟨t1,p1,b⟩,⟨t2,p2,c⟩⟩:=h
 exact ⟨var_stays a hb,⟨t1,p1,var_stays b hb⟩,⟨t2,p2,var_stays c hb⟩⟩
@[reducible] def CE (f : FuncId) (args : Array Value) (v : Value) : Prop := ∀ w, Env w → Calls Tryz.prog f args w (Ret w v)
theorem below_grow (w:World) (k:Nat) (os:Array Obj):Below w.heap.size w (Sort.grow (w.drewN k) os):=
 ⟨rfl,rfl,rfl,by show w.heap.size≤(w.heap ++ os).size;rw [Array.size_append];omega,fun j hj=>by
   show (w.heap ++ os)[j]? = w.heap[j]?
   rw [Array.getElem?_append_left hj]⟩
theorem trimPrefix_call (s p:ByteArray) (w:World) :
   Calls Tryz.prog 128 #[.string s,.string p] w fun e w' => e = .returned (.string ⟨(Lib.trimPrefix s.data.toList p.data.toList).toArray⟩)∧w=w':=
 (Tryz.strings_TrimPrefix s p w).mono fun _ _ ⟨h,k⟩=>⟨h,k.symm⟩
theorem below_drewN (w:World) (n:Nat):Below w.heap.size w (w.drewN n):=⟨rfl,rfl,rfl,Nat.le_refl _,fun _ _=>rfl⟩
def strOf (l:List UInt8):ByteArray:=⟨l.toArray⟩
theorem strOf_data (l:List UInt8):(strOf l).data.toList=l:=rfl
theorem strOf_size (l:List UInt8):(strOf l).size=l.length:=by simp [strOf,ByteArray.size]
theorem eq_strOf {s:ByteArray} {l:List UInt8} (h:s.data.toList=l):s=strOf l:=by
 subst h;rfl
theorem size_len (s:ByteArray):s.size=s.data.toList.length:=by rw [Array.length_toList];rfl
def magB (s:ByteArray):ByteArray:=strOf (mag s.data.toList)
def itoaB (n:Int):ByteArray:=strOf (Lib.itoa n)
theorem magB_data (s:ByteArray):(magB s).data.toList=mag s.data.toList:=rfl
theorem magB_size (s:ByteArray):(magB s).size=(mag s.data.toList).length:=strOf_size _
theorem magB_le (s:ByteArray):(magB s).size≤s.size:=by rw [magB_size,mag_length,size_len];omega
set_option maxRecDepth 512 in
theorem magnitude_any (s:ByteArray) (w:World) :
   Calls Tryz.prog 102 #[.string s] w fun e w' => e = .returned (.string (magB s))∧w=w':=by
 go_enter Tryz.func102,Tryz.ntmps102
 go_wp2_with (go_at_call 128;refine (trimPrefix_call _ _ _).mono ?_;rintro e w' ⟨rfl,rfl⟩)
 go_ret
 exact ⟨retS (by rw [trimPrefix_minus];rfl),rfl⟩
set_option maxRecDepth 512 in
theorem isDigits_any (s:ByteArray) (w:World) (hs:s.size≤maxLen) :
   Calls Tryz.prog 103 #[.string s] w fun e w' => e = .returned (.bool (digB s.data.toList))∧w=w':=by
 unfold maxLen at hs
 go_enter Tryz.func103,Tryz.ntmps103
 go_wp2
 go_loop [6] (fun i=>∃ k:Nat,k≤s.size∧i = .int .i64 k∧(s.data.toList.take k).all isDig=true) (fun i=>s.size - (intOf i).toNat)
 case atStart=>exact ⟨0,Nat.zero_le _,rfl,rfl⟩
 case round =>
   obtain ⟨k,hk,rfl,hall⟩:=hrel
   have HA:=Lib.hid hall
   clear hall
   by_cases hlt:k < s.size
   · go_wp2
     · go_ret
       have hd:9 < ((s[k].toNat:Int) - 48) % 256:=by assumption
       exact ⟨retB (digB_false_at s k hlt (isDig_false_of hd)).symm,rfl⟩
     · have hd:((s[k].toNat:Int) - 48) % 256≤9:=by assumption
       go_round
       case rel=>exact ⟨k+1,by omega,by go_num,all_step s k hlt HA.out (isDig_true_of hd)⟩
       case measure=>simp [intOf];omega
   · go_wp2
     go_ret
     have e:k=s.size:=by omega
     subst e
     exact ⟨retB (digB_end s HA.out).symm,rfl⟩
theorem byte_eq {c d:UInt8} {k:Int} (hk:k=(d.toNat:Int)) (h:c=d):((c.toNat:Int) == k)=true:=by subst hk;subst h;simp
theorem byte_ne {c d:UInt8} {k:Int} (hk:k=(d.toNat:Int)) (h:c≠d):((c.toNat:Int) == k)=false:=by
 subst hk
 rw [beq_eq_false_iff_ne]
 intro e
 exact h (UInt8.toNat.inj (by omega))
theorem neg_of (s:ByteArray) (h:0 < s.size):neg s.data.toList=(s[0] == 45):=by
 obtain ⟨⟨l⟩⟩:=s
 cases l with
 | nil=>simp [ByteArray.size] at h
 | cons c r=>rw [neg_cons];rfl
theorem magB_minus (s:ByteArray) (h:neg s.data.toList=true):s.extract 1 s.size=magB s:=by
 apply eq_strOf
 rw [Lib.extract_to_end]
 unfold mag;rw [h];simp
theorem magB_plus (s:ByteArray) (h:neg s.data.toList=false):s=magB s:=by
 apply eq_strOf;rw [mag_pos h]
theorem itoa_call (n:Int) (h0 : -9223372036854775808≤n) (h1:n≤9223372036854775807) (w:World) (E:Env w) :
   Calls Tryz.prog 121 #[.int .i64 n] w (Ret w (.string (itoaB n))):=
 (Tryz.strconv_Itoa n h0 h1 w E.tab).mono fun _ _ ⟨h,k,os,e⟩=>⟨h,by rw [e];exact below_grow _ _ _⟩
set_option maxRecDepth 512 in
theorem of_any (n:Int) (h0 : -9223372036854775808≤n) (h1:n≤9223372036854775807) (w:World) (E:Env w) :
   Calls Tryz.prog 89 #[.int .i64 n] w (Ret w (.string (itoaB n))):=by
 go_enter Tryz.func89,Tryz.ntmps89
 go_wp2_with (go_at_call 121;refine (itoa_call _ h0 h1 _ E).mono ?_;rintro e w1 ⟨rfl,hb1⟩)
 go_ret
 exact ⟨rfl,hb1⟩
theorem parseInt_ok (s:ByteArray) (hs:s.size≤1000000) (v:Int) (h:Lib.parseIntB 64 s.data.toList = .ok v) (w:World) :
   Calls Tryz.prog 148 #[.string s,.int .i64 10,.int .i64 64] w (Ret w (.tuple #[.int .i64 v,.nilIface])):=
 (Tryz.strconv_ParseInt_10_at64_ok s (by omega) v h w).mono fun _ _ ⟨a,b⟩=>⟨a,by
   rcases b with rfl | ⟨t,rfl⟩
   · exact Below.refl _ _
   · exact Lib.bytesWorld_below _ _ _⟩
theorem parseInt_err (s:ByteArray) (hs:s.size≤1000000) (h:∀ v,Lib.parseIntB 64 s.data.toList ≠ .ok v) (w:World) (E:Env w) :
   Calls Tryz.prog 148 #[.string s,.int .i64 10,.int .i64 64] w fun e w' => ∃ (v:Int) (N:Nat),e = .returned (.tuple #[.int .i64 v,.iface 219 (.pointer (some ⟨N,0,none⟩))])∧Below w.heap.size w w':=by
 cases hp:Lib.parseIntB 64 s.data.toList with
 | ok v=>exact absurd hp (h v)
 | range =>
   obtain ⟨tp,p,hv⟩:=E.erng
   exact (Tryz.strconv_ParseInt_10_at64_range_var s (by omega) hp tp p w hv).mono fun _ _ ⟨N,a,_,_,b⟩=>⟨_,N,a,b⟩
 | _ =>
   obtain ⟨tp,p,hv⟩:=E.esyn
   have c:Calls Tryz.prog 148 #[.string s,.int .i64 10,.int .i64 64] w fun e w' => ∃ N,e = .returned (.tuple #[.int .i64 (0),.iface 219 (.pointer (some ⟨N,0,none⟩))])∧w.heap.size≤N∧w'.heap[N]? = some (.cells #[.string ⟨#[80,97,114,115,101,73,110,116]⟩,.string s,.iface tp p] 229 (0,0))∧Below w.heap.size w w':=
     Any.strconv_ParseInt_10_at64_syntax_var Tryz.laysC174 s (by omega) hp tp p w hv
   exact c.mono fun _ _ ⟨N,a,_,_,b⟩=>⟨_,N,a,b⟩
theorem smallV_long {s:ByteArray} (h:20 < s.size):smallV s.data.toList=none:=by
 unfold smallV;rw [if_pos (by rw [← size_len];exact h)]
theorem smallV_ok {s:ByteArray} (h:s.size≤20) {v:Int} (hp:Lib.parseIntB 64 s.data.toList = .ok v):smallV s.data.toList=some v:=by
 unfold smallV;rw [if_neg (by rw [← size_len];omega),hp]
theorem smallV_err {s:ByteArray} (h:s.size≤20) (hp:∀ v,Lib.parseIntB 64 s.data.toList ≠ .ok v):smallV s.data.toList=none:=by
 unfold smallV;rw [if_neg (by rw [← size_len];omega)]
 cases hq:Lib.parseIntB 64 s.data.toList with
 | ok v=>exact absurd hq (hp v)
 | range=>rfl
 | _=>rfl
set_option maxRecDepth 512 in
theorem small_any (s:ByteArray) (w:World) (hs:s.size≤1000000) (E:Env w) :
   Calls Tryz.prog 122 #[.string s] w (Ret w (.tuple #[.int .i64 (smI s.data.toList),.bool (smB s.data.toList)])):=by
 by_cases hl:20 < s.size
 · have h1:=smallV_long hl
   have H1:=Lib.hid h1
   clear h1
   go_enter Tryz.func122,Tryz.ntmps122
   go_wp2
   go_ret2
   exact ⟨retIB (by unfold smI;rw [H1.out];rfl) (by unfold smB;rw [H1.out];rfl),Below.refl _ _⟩
 · by_cases hp:∃ v,Lib.parseIntB 64 s.data.toList = .ok v
   · obtain ⟨v,hv⟩:=hp
     have h1:=smallV_ok (by omega) hv
     have H1:=Lib.hid h1
     have HV:=Lib.hid hv
     clear h1 hv
     go_enter Tryz.func122,Tryz.ntmps122
     go_wp2_with (go_at_call 148;refine (parseInt_ok _ hs v HV.out _).mono ?_;rintro e w1 ⟨rfl,hb1⟩)
     go_ret2
     exact ⟨retIB (by unfold smI;rw [H1.out];rfl) (by unfold smB;rw [H1.out];rfl),hb1⟩
   · have hp':∀ v,Lib.parseIntB 64 s.data.toList ≠ .ok v:=fun v h=>hp ⟨v,h⟩
     have h1:=smallV_err (by omega) hp'
     have H1:=Lib.hid h1
     have HP:=Lib.hid hp'
     clear h1 hp' hp
     go_enter Tryz.func122,Tryz.ntmps122
     go_wp2_with (go_at_call 148;refine (parseInt_err _ hs HP.out _ E).mono ?_;rintro e w1 ⟨v,N,rfl,hb1⟩)
     go_ret2
     exact ⟨retIB (by unfold smI;rw [H1.out];rfl) (by unfold smB;rw [H1.out];rfl),hb1⟩
theorem retIIB {k:IntKind} {a b c d:Int} {x y:Bool} (h:a=b) (g:c=d) (i:x=y):Ending.returned (.tuple #[.int k a,.int k c,.bool x]) = .returned (.tuple #[.int k b,.int k d,.bool y]):=by rw [h,g,i]
theorem retII {k:IntKind} {a b c d:Int} (h:a=b) (g:c=d):Ending.returned (.tuple #[.int k a,.int k c]) = .returned (.tuple #[.int k b,.int k d]):=by rw [h,g]
theorem chain {P:Program} {K:FuncId} {args:Array Value} {w w0:World} {v:Value} (hb:Below w0.heap.size w0 w)
   (h:Calls P K args w fun e w' => e = .returned v∧Below w.heap.size w w'):Calls P K args w fun e w' => e = .returned v∧Below w0.heap.size w0 w':=
 h.mono fun _ _ ⟨a,b⟩=>⟨a,hb.trans (b.mono hb.size)⟩
theorem Below.drews {B:Nat} {a w:World} (h:Below B a w) (n:Nat):Below B a (w.drewN n):=⟨h.os,h.tape,h.output,h.size,h.block⟩
set_option maxRecDepth 512 in
theorem ints_short (s t:ByteArray) (w:World) (hs:s.size≤18) (ht:t.size≤18) (x y:Int) (hx:smallV s.data.toList=some x) (hy:smallV t.data.toList=some y) (E:Env w) :
   Calls Tryz.prog 105 #[.string s,.string t] w (Ret w (.tuple #[.int .i64 x,.int .i64 y,.bool true])):=by
 have HX:Hid (smI s.data.toList=x):=by show smI _=_;unfold smI;rw [hx];rfl
 have HY:Hid (smI t.data.toList=y):=by show smI _=_;unfold smI;rw [hy];rfl
 have bx:smB s.data.toList=true:=by unfold smB;rw [hx];rfl
 have by':smB t.data.toList=true:=by unfold smB;rw [hy];rfl
 clear hx hy
 have hb:=Below.refl w.heap.size w
 go_enter Tryz.func105,Tryz.ntmps105
 go_wp2_with (go_at_call 122;refine (chain hb (small_any _ _ (by omega) (E.below hb))).mono ?_;clear hb;rintro e w1 ⟨rfl,hb⟩)
 go_ret3
 exact ⟨retIIB HX.out HY.out rfl,hb⟩
theorem tdiv_facts (x y:Int) (hx0 : -1000000000000000000 < x) (hx1:x < 1000000000000000000) (hy:y≠0) :
   -1000000000000000000 < x.tdiv y∧x.tdiv y < 1000000000000000000∧(0 < y → -y < x.tmod y∧x.tmod y < y)∧(y < 0→y < x.tmod y∧x.tmod y < -y):=by
 have h1:=Int.natAbs_tmod x y
 have h2:(x.tdiv y).natAbs=x.natAbs / y.natAbs:=Int.natAbs_tdiv x y
 have h3:x.natAbs / y.natAbs≤x.natAbs:=Nat.div_le_self _ _
 have h4:x.natAbs % y.natAbs < y.natAbs:=Nat.mod_lt _ (by omega)
 omega
theorem euclid_minus {x y:Int} (h:0 < y) (hr:x.tmod y < 0) (hb : -y < x.tmod y):x.tdiv y - 1=x / y∧x.tmod y+y=x % y:=by
 have e:=Int.tmod_add_mul_tdiv x y
 have:=(Int.ediv_emod_unique h (a:=x) (r:=x.tmod y+y) (q:=x.tdiv y - 1)).2 ⟨by rw [Int.mul_sub];omega,by omega,by omega⟩
 exact ⟨this.1.symm,this.2.symm⟩
theorem euclid_plus {x y:Int} (h:y < 0) (hr:x.tmod y < 0) (hb:y < x.tmod y):x.tdiv y+1=x / y∧x.tmod y - y=x % y:=by
 have e:=Int.tmod_add_mul_tdiv x y
 have:=(Int.ediv_emod_unique' h (a:=x) (r:=x.tmod y - y) (q:=x.tdiv y+1)).2 ⟨by rw [Int.mul_add];omega,by omega,by omega⟩
 exact ⟨this.1.symm,this.2.symm⟩
theorem euclid_zero {x y:Int} (hy:y≠0) (hr:0≤x.tmod y) (h1:0 < y→x.tmod y < y) (h2:y < 0→x.tmod y < -y):x.tdiv y=x / y∧x.tmod y=x % y:=by
 have e:=Int.tmod_add_mul_tdiv x y
 rcases Int.lt_or_gt_of_ne hy with h | h
 · have:=(Int.ediv_emod_unique' h (a:=x) (r:=x.tmod y) (q:=x.tdiv y)).2 ⟨by omega,by omega,by omega⟩
   exact ⟨this.1.symm,this.2.symm⟩
 · have:=(Int.ediv_emod_unique h (a:=x) (r:=x.tmod y) (q:=x.tdiv y)).2 ⟨by omega,by omega,by omega⟩
   exact ⟨this.1.symm,this.2.symm⟩
set_option maxRecDepth 512 in
theorem divideInts_any (x y:Int) (w:World) (hx0 : -1000000000000000000 < x) (hx1:x < 1000000000000000000) (hy0 : -1000000000000000000 < y) (hy1:y < 1000000000000000000) (hy:y≠0) :
   Calls Tryz.prog 151 #[.int .i64 x,.int .i64 y] w (Ret w (.tuple #[.int .i64 (x / y),.int .i64 (x % y)])):=by
 have hy':(y == 0)=false:=by simpa using hy
 obtain ⟨q0,q1,r0,r1⟩:=tdiv_facts x y hx0 hx1 hy
 have q2:wrap64 (x.tdiv y)=x.tdiv y:=IntWalk.wrap64_in _ ⟨by omega,by omega⟩
 have r2 : -1000000000000000000 < x.tmod y:=by omega
 have r3:x.tmod y < 1000000000000000000:=by omega
 have HR0:=Lib.hid r0
 have HR1:=Lib.hid r1
 clear r0 r1
 go_enter Tryz.func151,Tryz.ntmps151
 go_wp2
 go_quiet (fail)
 go_wp2
 · have e:=euclid_minus (x:=x) (y:=y) (by assumption) (by assumption) (HR0.out (by assumption)).1
   go_ret2
   exact ⟨retII e.1 e.2,below_drewN _ _⟩
 · have hz:y < 0:=by omega
   have e:=euclid_plus (x:=x) (y:=y) hz (by assumption) (HR1.out hz).1
   go_ret2
   exact ⟨retII e.1 e.2,below_drewN _ _⟩
 · have e:=euclid_zero (x:=x) (y:=y) hy (by assumption) (fun h=>(HR0.out h).2) (fun h=>(HR1.out h).2)
   go_ret2
   exact ⟨retII e.1 e.2,below_drewN _ _⟩
set_option maxRecDepth 512 in
theorem gcdInts_any (x y:Nat) (w:World) (hx1:x < 1000000000000000000) (hy1:y < 1000000000000000000) :
   Calls Tryz.prog 106 #[.int .i64 x,.int .i64 y] w (Ret w (.int .i64 (Nat.gcd x y))):=by
 go_enter Tryz.func106,Tryz.ntmps106
 go_wp2
 go_loopw [0,1] (fun a b wr=>∃ m n:Nat,a = .int .i64 m∧b = .int .i64 n∧m < 1000000000000000000∧n < 1000000000000000000∧Nat.gcd m n=Nat.gcd x y∧Below w.heap.size w wr) (fun _ b _=>(intOf b).toNat)
 case atStart=>exact ⟨x,y,rfl,rfl,hx1,hy1,rfl,Below.refl _ _⟩
 case round =>
   obtain ⟨m,n,rfl,rfl,hm,hn,hg,hb⟩:=hrel
   have HG:=Lib.hid hg
   clear hg
   by_cases h0:n=0
   · subst h0
     go_wp2
     go_ret
     exact ⟨retI (by rw [← HG.out];simp),hb⟩
   · have hne:((n:Int) == 0)=false:=by simpa using h0
     have hpos:(0:Int) < (n:Int):=by omega
     go_wp2
     go_quiet (fail)
     go_wp2
     go_roundw
     case rel=>exact ⟨n,m % n,rfl,by go_num,hn,by have:=Nat.mod_lt m (Nat.pos_of_ne_zero h0);omega,by rw [← HG.out,Nat.gcd_comm m n,Nat.gcd_rec n m,Nat.gcd_comm];done,Below.drews hb _⟩
     case measure=>simp [intOf];have:=Int.emod_lt_of_pos (m:Int) hpos;omega
theorem head_of (s:ByteArray) (h:0 < s.size):s.data.toList.head? = some s[0]:=by
 obtain ⟨⟨l⟩⟩:=s
 cases l with
 | nil=>simp [ByteArray.size] at h
 | cons c r=>rfl
theorem isDigits_is (s:ByteArray) (w:World) (hs:s.size≤1000000) (b:Bool) (h:digB s.data.toList=b) :
   Calls Tryz.prog 103 #[.string s] w fun e w' => e = .returned (.bool b)∧w=w':=by
 rw [← h];exact isDigits_any s w (by unfold maxLen;omega)
theorem cat_minus (l:List UInt8):(⟨#[45]⟩:ByteArray) ++ strOf l=strOf (45 :: l):=by
 apply eq_strOf
 simp [strOf]
theorem canon_nodig {l:List UInt8} (h:digB (mag l)=false):canonB l=false:=by unfold canonB;rw [h];rfl
theorem canon_of {l:List UInt8} (h:digB (mag l)=true) (h48:(mag l).head? ≠ some 48):canonB l=true:=by
 unfold canonB;rw [h,beq_eq_false_iff_ne.2 h48];rfl
theorem canon_zero {l:List UInt8} (h:digB (mag l)=true) (h48:(mag l).head? = some 48):canonB l = !(neg l || decide (1 < (mag l).length)):=by
 unfold canonB;rw [h,h48];rfl
theorem head_eq {m:ByteArray} (h:0 < m.size) (e:((m[0].toNat:Int) == 48)=true):m.data.toList.head? = some 48:=by
 rw [head_of m h]
 have e':m[0].toNat=48:=by have:=beq_iff_eq.1 e;omega
 congr 1;exact UInt8.toNat.inj e'
theorem head_ne {m:ByteArray} (h:0 < m.size) (e:((m[0].toNat:Int) == 48)=false):m.data.toList.head? ≠ some 48:=by
 rw [head_of m h]
 intro e2
 have e3:=beq_eq_false_iff_ne.1 e
 injection e2 with e2
 apply e3
 rw [e2];rfl
theorem right_long {s:ByteArray} (h:200 < (magB s).size):rightB s.data.toList=false:=by
 unfold rightB;rw [← magB_size,decide_eq_false (by omega)];simp
theorem right_nodig {s:ByteArray} (h:digB (magB s).data.toList=false):rightB s.data.toList=false:=by
 unfold rightB;rw [canon_nodig (by rw [← magB_data];exact h)];rfl
theorem right_plain {s:ByteArray} (h:digB (magB s).data.toList=true) (h0:0 < (magB s).size) (h48:(((magB s)[0].toNat:Int) == 48)=false) (hl:¬ 200 < (magB s).size):rightB s.data.toList=true:=by
 unfold rightB
 rw [canon_of (by rw [← magB_data];exact h) (by rw [← magB_data];exact head_ne h0 h48),← magB_size,decide_eq_true (by omega)];rfl
theorem right_zero {s:ByteArray} (h:s.data.toList=[48]):rightB s.data.toList=true:=by rw [h];decide
theorem right_lead {s:ByteArray} (h:digB (magB s).data.toList=true) (h0:0 < (magB s).size) (h48:(((magB s)[0].toNat:Int) == 48)=true) (hne:s.data.toList≠[48]):rightB s.data.toList=false:=by
 unfold rightB
 have hh:=head_eq h0 h48
 rw [magB_data] at h hh
 rw [canon_zero h hh]
 cases hn:neg s.data.toList with
 | true=>rfl
 | false =>
   rw [mag_pos hn] at hh ⊢
   by_cases h1:1 < s.data.toList.length
   · rw [decide_eq_true h1];rfl
   · exfalso
     apply hne
     cases hs:s.data.toList with
     | nil=>rw [hs] at hh;cases hh
     | cons c r =>
       rw [hs] at hh h1
       simp only [List.head?_cons,Option.some.injEq] at hh
       simp only [List.length_cons] at h1
       have:r=[]:=List.length_eq_zero_iff.1 (by omega)
       rw [hh,this]
theorem check_any (s:ByteArray) (w:World) (_hs:s.size≤1000000) (v:Int) (hv:(if rightB s.data.toList then (0:Int) else 2)=v) :
   Calls Tryz.prog 73 #[.string s] w fun e w' => e = .returned (.int .i64 v)∧w=w':=by
 have hm:=magB_le s
 have HV:=Lib.hid hv
 clear hv
 by_cases hl:200 < (magB s).size
 · have HR:=Lib.hid (right_long hl)
   go_enter Tryz.func73,Tryz.ntmps73
   go_wp2_with (first | (go_at_call 102;refine (magnitude_any _ _).mono ?_;rintro e w1 ⟨rfl,rfl⟩))
   go_ret
   exact ⟨retI (by rw [← HV.out,HR.out];rfl),rfl⟩
 · cases hd:digB (magB s).data.toList with
   | false =>
     have HR:=Lib.hid (right_nodig hd)
     have HD:=Lib.hid hd
     clear hd
     go_enter Tryz.func73,Tryz.ntmps73
     go_wp2_with (first | (go_at_call 102;refine (magnitude_any _ _).mono ?_;rintro e w1 ⟨rfl,rfl⟩) | (go_at_call 103;refine (isDigits_is _ _ (by omega) _ HD.out).mono ?_;rintro e w1 ⟨rfl,rfl⟩))
     go_ret
     exact ⟨retI (by rw [← HV.out,HR.out];rfl),rfl⟩
   | true =>
     have h0:0 < (magB s).size:=by
       have:=(digB_iff.1 hd).2
       rw [size_len];exact List.length_pos_iff.2 this
     have h0':(0:Int) < ((magB s).size:Int):=by omega
     by_cases h48:(((magB s)[0].toNat:Int) == 48)=true
     · by_cases hz:s.data.toList=[48]
       · have HR:=Lib.hid (right_zero hz)
         have hz':(s.toList == [48])=true:=by rw [Lib.toList_data,hz];rfl
         have HD:=Lib.hid hd
         clear hd hz
         go_enter Tryz.func73,Tryz.ntmps73
         go_wp2_with (first | (go_at_call 102;refine (magnitude_any _ _).mono ?_;rintro e w1 ⟨rfl,rfl⟩) | (go_at_call 103;refine (isDigits_is _ _ (by omega) _ HD.out).mono ?_;rintro e w1 ⟨rfl,rfl⟩))
         go_ret
         exact ⟨retI (by rw [← HV.out,HR.out];rfl),rfl⟩
       · have HR:=Lib.hid (right_lead hd h0 h48 hz)
         have hz':(s.toList == [48])=false:=by rw [Lib.toList_data];exact beq_eq_false_iff_ne.2 hz
         have HD:=Lib.hid hd
         clear hd hz
         go_enter Tryz.func73,Tryz.ntmps73
         go_wp2_with (first | (go_at_call 102;refine (magnitude_any _ _).mono ?_;rintro e w1 ⟨rfl,rfl⟩) | (go_at_call 103;refine (isDigits_is _ _ (by omega) _ HD.out).mono ?_;rintro e w1 ⟨rfl,rfl⟩))
         go_ret
         exact ⟨retI (by rw [← HV.out,HR.out];rfl),rfl⟩
     · have h48':(((magB s)[0].toNat:Int) == 48)=false:=by simpa using h48
       have HR:=Lib.hid (right_plain hd h0 h48' hl)
       have HD:=Lib.hid hd
       clear hd h48
       go_enter Tryz.func73,Tryz.ntmps73
       go_wp2_with (first | (go_at_call 102;refine (magnitude_any _ _).mono ?_;rintro e w1 ⟨rfl,rfl⟩) | (go_at_call 103;refine (isDigits_is _ _ (by omega) _ HD.out).mono ?_;rintro e w1 ⟨rfl,rfl⟩))
       go_ret
       exact ⟨retI (by rw [← HV.out,HR.out];rfl),rfl⟩
theorem retSSI {k:IntKind} {a b c d:ByteArray} {x y:Int} (h:a=b) (g:c=d) (i:x=y):Ending.returned (.tuple #[.string a,.string c,.int k x]) = .returned (.tuple #[.string b,.string d,.int k y]):=by rw [h,g,i]
set_option maxRecDepth 512 in
theorem divMod_short (s t:ByteArray) (w:World) (hs:s.size≤18) (ht:t.size≤18) (x y:Int) (hx:smallV s.data.toList=some x) (hy:smallV t.data.toList=some y) (E:Env w)
   (hx0 : -1000000000000000000 < x) (hx1:x < 1000000000000000000) (hy0 : -1000000000000000000 < y) (hy1:y < 1000000000000000000) (hyz:y≠0) :
   Calls Tryz.prog 126 #[.string s,.string t] w (Ret w (.tuple #[.string (itoaB (x / y)),.string (itoaB (x % y)),.int .i64 0])):=by
 have hy':(y == 0)=false:=by simpa using hyz
 have hb:=Below.refl w.heap.size w
 have HX:=Lib.hid hx
 have HY:=Lib.hid hy
 clear hx hy
 have q : -1000000000000000000 < x / y∧x / y < 1000000000000000000:=by have:=Int.natAbs_ediv_le_natAbs x y;omega
 have r:0≤x % y∧x % y < 1000000000000000000:=by have h1:=Int.emod_nonneg x hyz;have h2:=Int.emod_lt x hyz;omega
 go_enter Tryz.func126,Tryz.ntmps126
 go_wp2_with (first | (go_at_call 105;refine (chain hb (ints_short _ _ _ hs ht _ _ HX.out HY.out (E.below hb))).mono ?_;clear hb;rintro e w1 ⟨rfl,hb⟩) | (go_at_call 151;refine (chain hb (divideInts_any _ _ _ hx0 hx1 hy0 hy1 hyz)).mono ?_;clear hb;rintro e w1 ⟨rfl,hb⟩) | (go_at_call 89;refine (chain hb (of_any _ (by omega) (by omega) _ (E.below hb))).mono ?_;clear hb;rintro e w1 ⟨rfl,hb⟩))
 go_ret3
 exact ⟨retSSI rfl rfl rfl,hb⟩
theorem gcdInts_max (x y:Int) (w:World) (hx0 : -1000000000000000000 < x) (hx1:x < 1000000000000000000) (hy0 : -1000000000000000000 < y) (hy1:y < 1000000000000000000) :
   Calls Tryz.prog 106 #[.int .i64 (max x (-x)),.int .i64 (max y (-y))] w (Ret w (.int .i64 (Nat.gcd x.natAbs y.natAbs))):=by
 have e1:max x (-x)=(x.natAbs:Int):=by omega
 have e2:max y (-y)=(y.natAbs:Int):=by omega
 rw [e1,e2]
 exact gcdInts_any _ _ w (by omega) (by omega)
set_option maxRecDepth 512 in
theorem gcd_short (s t:ByteArray) (w:World) (hs:s.size≤18) (ht:t.size≤18) (x y:Int) (hx:smallV s.data.toList=some x) (hy:smallV t.data.toList=some y) (E:Env w)
   (hx0 : -1000000000000000000 < x) (hx1:x < 1000000000000000000) (hy0 : -1000000000000000000 < y) (hy1:y < 1000000000000000000) :
   Calls Tryz.prog 75 #[.string s,.string t] w (Ret w (.string (itoaB (Nat.gcd x.natAbs y.natAbs)))):=by
 have hb:=Below.refl w.heap.size w
 have hg:(Nat.gcd x.natAbs y.natAbs:Int)≤1000000000000000000:=by
   rcases Nat.eq_zero_or_pos x.natAbs with e | e
   · rw [e,Nat.gcd_zero_left];omega
   · have:=Nat.gcd_le_left y.natAbs e;omega
 have HX:=Lib.hid hx
 have HY:=Lib.hid hy
 clear hx hy
 go_enter Tryz.func75,Tryz.ntmps75
 go_wp2_with (first | (go_at_call 105;refine (chain hb (ints_short _ _ _ hs ht _ _ HX.out HY.out (E.below hb))).mono ?_;clear hb;rintro e w1 ⟨rfl,hb⟩) | (go_at_call 106;refine (chain hb (gcdInts_max _ _ _ hx0 hx1 hy0 hy1)).mono ?_;clear hb;rintro e w1 ⟨rfl,hb⟩) | (go_at_call 89;refine (chain hb (of_any _ (by omega) (by omega) _ (E.below hb))).mono ?_;clear hb;rintro e w1 ⟨rfl,hb⟩))
 go_ret
 exact ⟨retS rfl,hb⟩
set_option maxRecDepth 512 in
theorem mul_short (s t:ByteArray) (w:World) (hst:s.size+t.size≤18) (x y:Int) (hx:smallV s.data.toList=some x) (hy:smallV t.data.toList=some y) (E:Env w)
   (h0 : -9223372036854775808≤x*y) (h1:x*y≤9223372036854775807) :
   Calls Tryz.prog 97 #[.string s,.string t] w (Ret w (.string (itoaB (x*y)))):=by
 have hb:=Below.refl w.heap.size w
 have HX:=Lib.hid hx
 have HY:=Lib.hid hy
 clear hx hy
 go_enter Tryz.func97,Tryz.ntmps97
 go_wp2_with (first | (go_at_call 105;refine (chain hb (ints_short _ _ _ (by omega) (by omega) _ _ HX.out HY.out (E.below hb))).mono ?_;clear hb;rintro e w1 ⟨rfl,hb⟩) | (go_at_call 89;refine (chain hb (of_any _ (by omega) (by omega) _ (E.below hb))).mono ?_;clear hb;rintro e w1 ⟨rfl,hb⟩))
 go_ret
 exact ⟨retS rfl,hb⟩
end Go.Proofs.YtpiiclmkbplkhaaGreatDoor.Kl
