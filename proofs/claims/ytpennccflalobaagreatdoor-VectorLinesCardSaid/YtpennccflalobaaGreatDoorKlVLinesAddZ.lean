import Derived.Test.YtpennccflalobaaGreatDoorKlBBigZ
namespace Go.Proofs.YtpennccflalobaaGreatDoor.Kl
open Go Go.RowKit
set_option maxRecDepth 100000
set_option maxHeartbeats 8000000
structure AddIn (a b sx sy:ByteArray) (v1 v2:Int) (b1 b2 mx my:Bool) (X Y:Nat):Prop where
 br1:∀ w,Calls Tryz.prog 180 #[.string a] w (Ret w (.tuple #[.int .i64 v1,.bool b1]))
 br2:∀ w,Calls Tryz.prog 180 #[.string b] w (Ret w (.tuple #[.int .i64 v2,.bool b2]))
 sp1:∀ w,Calls Tryz.prog 131 #[.string a] w (Ret w (.tuple #[.bool mx,.string sx]))
 sp2:∀ w,Calls Tryz.prog 131 #[.string b] w (Ret w (.tuple #[.bool my,.string sy]))
 tk1:∀ w,Calls Tryz.prog 162 #[.string sx] w (RetP w (pcN X))
 tk2:∀ w,Calls Tryz.prog 162 #[.string sy] w (RetP w (pcN Y))
 lX:(pcN X).length≤100000
 lY:(pcN Y).length≤100000
 lS:∀ V,V≤X+Y→(pcN V).length≤100000∧(Lib.decDigits V).length≤1000000
theorem add_same {a b sx sy:ByteArray} {v1 v2:Int} {b1 b2 mx my:Bool} {X Y:Nat} (I:AddIn a b sx sy v1 v2 b1 b2 mx my X Y) (hmy:mx=my) (hn:(b1 && b2)=false) (r:ByteArray) (hr:strOf (sgn mx (X+Y))=r) (w:World) (E:Env w) :
   Calls Tryz.prog 140 #[.string a,.string b] w (Ret w (.string r)):=by
 subst hmy
 have hb:=Below.refl w.heap.size w
 have j:∀ p n c q m d w,Sl w p n c X→Sl w q m d Y→Calls Tryz.prog 182 #[.slice p n c,.slice q m d,.int .i64 1,.int .i64 0] w (RetP w (pcN (X+Y))):=
   fun p n c q m d w h1 h2=>joined_sl h1 h2 I.lX I.lY (1) (by decide) (by decide) (X+Y) (by omega)
 have J:=Lib.hid j
 have m0:∀ p n c w,Env w→Sl w p n c (X+Y)→Calls Tryz.prog 160 #[.bool (mx),.slice p n c] w (Ret w (.string r)):=
   fun p n c w E h=>made_sl E h (I.lS _ (Nat.le_refl _)).1 (I.lS _ (Nat.le_refl _)).2 (mx) r hr
 have M:=Lib.hid m0
 clear hr j m0
 go_enter Tryz.func140,Tryz.ntmps140
 cases b1 with
 | false =>
   clear hn
   cases mx <;> (go_wp2_with (first | (go_at_call 180;first | (with_reducible refine (chain hb (I.br1 _)).mono ?_;clear hb;rintro e w1 ⟨rfl,hb⟩) | (with_reducible refine (chain hb (I.br2 _)).mono ?_;clear hb;rintro e w1 ⟨rfl,hb⟩)) | (go_at_call 131;first | (with_reducible refine (chain hb (I.sp1 _)).mono ?_;clear hb;rintro e w1 ⟨rfl,hb⟩) | (with_reducible refine (chain hb (I.sp2 _)).mono ?_;clear hb;rintro e w1 ⟨rfl,hb⟩)) | (go_at_call 162;first | (with_reducible refine (chainR hb (I.tk1 _)).mono ?_;clear hb;rintro e w1 ⟨p,n,c,rfl,hp,-,hb⟩) | (with_reducible refine (chainR hb (I.tk2 _)).mono ?_;clear hb;rintro e w2 ⟨q,m,d,rfl,hq,hb1,hb⟩;replace hp:=hp.below hb1;clear hb1)) | (go_at_call 182;refine (chainR hb (J.out _ _ _ _ _ _ _ hp hq)).mono ?_;clear hb hp hq;rintro e w3 ⟨o,l,f,rfl,ho,-,hb⟩) | (go_at_call 183;refine (chain2 hb (L.out _ _ _ _ _ _ _ hp hq)).mono ?_;clear hb;rintro e w4 ⟨rfl,hb1,hb⟩;replace hp:=hp.below hb1;replace hq:=hq.below hb1;clear hb1) | (go_at_call 160;refine (chain hb (M.out _ _ _ _ (E.below hb) ho)).mono ?_;clear hb;rintro e w5 ⟨rfl,hb⟩));go_ret;exact ⟨rfl,hb⟩)
 | true =>
   cases b2 with
   | true=>exact absurd hn (by decide)
   | false =>
     clear hn
     cases mx <;> (go_wp2_with (first | (go_at_call 180;first | (with_reducible refine (chain hb (I.br1 _)).mono ?_;clear hb;rintro e w1 ⟨rfl,hb⟩) | (with_reducible refine (chain hb (I.br2 _)).mono ?_;clear hb;rintro e w1 ⟨rfl,hb⟩)) | (go_at_call 131;first | (with_reducible refine (chain hb (I.sp1 _)).mono ?_;clear hb;rintro e w1 ⟨rfl,hb⟩) | (with_reducible refine (chain hb (I.sp2 _)).mono ?_;clear hb;rintro e w1 ⟨rfl,hb⟩)) | (go_at_call 162;first | (with_reducible refine (chainR hb (I.tk1 _)).mono ?_;clear hb;rintro e w1 ⟨p,n,c,rfl,hp,-,hb⟩) | (with_reducible refine (chainR hb (I.tk2 _)).mono ?_;clear hb;rintro e w2 ⟨q,m,d,rfl,hq,hb1,hb⟩;replace hp:=hp.below hb1;clear hb1)) | (go_at_call 182;refine (chainR hb (J.out _ _ _ _ _ _ _ hp hq)).mono ?_;clear hb hp hq;rintro e w3 ⟨o,l,f,rfl,ho,-,hb⟩) | (go_at_call 183;refine (chain2 hb (L.out _ _ _ _ _ _ _ hp hq)).mono ?_;clear hb;rintro e w4 ⟨rfl,hb1,hb⟩;replace hp:=hp.below hb1;replace hq:=hq.below hb1;clear hb1) | (go_at_call 160;refine (chain hb (M.out _ _ _ _ (E.below hb) ho)).mono ?_;clear hb;rintro e w5 ⟨rfl,hb⟩));go_ret;exact ⟨rfl,hb⟩)
theorem add_less {a b sx sy:ByteArray} {v1 v2:Int} {b1 b2 mx my:Bool} {X Y:Nat} (I:AddIn a b sx sy v1 v2 b1 b2 mx my X Y) (hmy:my = !mx) (hn:(b1 && b2)=false) (hlt:X < Y) (r:ByteArray) (hr:strOf (sgn (!mx) (Y - X))=r) (w:World) (E:Env w) :
   Calls Tryz.prog 140 #[.string a,.string b] w (Ret w (.string r)):=by
 subst hmy
 have hb:=Below.refl w.heap.size w
 have j:∀ p n c q m d w,Sl w p n c X→Sl w q m d Y→Calls Tryz.prog 182 #[.slice q m d,.slice p n c,.int .i64 (-1),.int .i64 0] w (RetP w (pcN (Y - X))):=
   fun p n c q m d w h1 h2=>joined_sl h2 h1 I.lY I.lX ((-1)) (by decide) (by decide) (Y - X) (by omega)
 have J:=Lib.hid j
 have m0:∀ p n c w,Env w→Sl w p n c (Y - X)→Calls Tryz.prog 160 #[.bool (!mx),.slice p n c] w (Ret w (.string r)):=
   fun p n c w E h=>made_sl E h (I.lS _ (by omega)).1 (I.lS _ (by omega)).2 (!mx) r hr
 have M:=Lib.hid m0
 have l:∀ p n c q m d w,Sl w p n c X→Sl w q m d Y→Calls Tryz.prog 183 #[.slice p n c,.slice q m d] w (Ret w (.bool true)):=
   fun p n c q m d w h1 h2=>less_sl h1 h2 I.lX I.lY true (by first | exact decide_eq_true hlt | exact decide_eq_false hlt)
 have L:=Lib.hid l
 clear hr j m0 l hlt
 go_enter Tryz.func140,Tryz.ntmps140
 cases b1 with
 | false =>
   clear hn
   cases mx <;> (go_wp2_with (first | (go_at_call 180;first | (with_reducible refine (chain hb (I.br1 _)).mono ?_;clear hb;rintro e w1 ⟨rfl,hb⟩) | (with_reducible refine (chain hb (I.br2 _)).mono ?_;clear hb;rintro e w1 ⟨rfl,hb⟩)) | (go_at_call 131;first | (with_reducible refine (chain hb (I.sp1 _)).mono ?_;clear hb;rintro e w1 ⟨rfl,hb⟩) | (with_reducible refine (chain hb (I.sp2 _)).mono ?_;clear hb;rintro e w1 ⟨rfl,hb⟩)) | (go_at_call 162;first | (with_reducible refine (chainR hb (I.tk1 _)).mono ?_;clear hb;rintro e w1 ⟨p,n,c,rfl,hp,-,hb⟩) | (with_reducible refine (chainR hb (I.tk2 _)).mono ?_;clear hb;rintro e w2 ⟨q,m,d,rfl,hq,hb1,hb⟩;replace hp:=hp.below hb1;clear hb1)) | (go_at_call 182;refine (chainR hb (J.out _ _ _ _ _ _ _ hp hq)).mono ?_;clear hb hp hq;rintro e w3 ⟨o,l,f,rfl,ho,-,hb⟩) | (go_at_call 183;refine (chain2 hb (L.out _ _ _ _ _ _ _ hp hq)).mono ?_;clear hb;rintro e w4 ⟨rfl,hb1,hb⟩;replace hp:=hp.below hb1;replace hq:=hq.below hb1;clear hb1) | (go_at_call 160;refine (chain hb (M.out _ _ _ _ (E.below hb) ho)).mono ?_;clear hb;rintro e w5 ⟨rfl,hb⟩));go_ret;exact ⟨rfl,hb⟩)
 | true =>
   cases b2 with
   | true=>exact absurd hn (by decide)
   | false =>
     clear hn
     cases mx <;> (go_wp2_with (first | (go_at_call 180;first | (with_reducible refine (chain hb (I.br1 _)).mono ?_;clear hb;rintro e w1 ⟨rfl,hb⟩) | (with_reducible refine (chain hb (I.br2 _)).mono ?_;clear hb;rintro e w1 ⟨rfl,hb⟩)) | (go_at_call 131;first | (with_reducible refine (chain hb (I.sp1 _)).mono ?_;clear hb;rintro e w1 ⟨rfl,hb⟩) | (with_reducible refine (chain hb (I.sp2 _)).mono ?_;clear hb;rintro e w1 ⟨rfl,hb⟩)) | (go_at_call 162;first | (with_reducible refine (chainR hb (I.tk1 _)).mono ?_;clear hb;rintro e w1 ⟨p,n,c,rfl,hp,-,hb⟩) | (with_reducible refine (chainR hb (I.tk2 _)).mono ?_;clear hb;rintro e w2 ⟨q,m,d,rfl,hq,hb1,hb⟩;replace hp:=hp.below hb1;clear hb1)) | (go_at_call 182;refine (chainR hb (J.out _ _ _ _ _ _ _ hp hq)).mono ?_;clear hb hp hq;rintro e w3 ⟨o,l,f,rfl,ho,-,hb⟩) | (go_at_call 183;refine (chain2 hb (L.out _ _ _ _ _ _ _ hp hq)).mono ?_;clear hb;rintro e w4 ⟨rfl,hb1,hb⟩;replace hp:=hp.below hb1;replace hq:=hq.below hb1;clear hb1) | (go_at_call 160;refine (chain hb (M.out _ _ _ _ (E.below hb) ho)).mono ?_;clear hb;rintro e w5 ⟨rfl,hb⟩));go_ret;exact ⟨rfl,hb⟩)
theorem add_more {a b sx sy:ByteArray} {v1 v2:Int} {b1 b2 mx my:Bool} {X Y:Nat} (I:AddIn a b sx sy v1 v2 b1 b2 mx my X Y) (hmy:my = !mx) (hn:(b1 && b2)=false) (hlt:¬ X < Y) (r:ByteArray) (hr:strOf (sgn mx (X - Y))=r) (w:World) (E:Env w) :
   Calls Tryz.prog 140 #[.string a,.string b] w (Ret w (.string r)):=by
 subst hmy
 have hb:=Below.refl w.heap.size w
 have j:∀ p n c q m d w,Sl w p n c X→Sl w q m d Y→Calls Tryz.prog 182 #[.slice p n c,.slice q m d,.int .i64 (-1),.int .i64 0] w (RetP w (pcN (X - Y))):=
   fun p n c q m d w h1 h2=>joined_sl h1 h2 I.lX I.lY ((-1)) (by decide) (by decide) (X - Y) (by omega)
 have J:=Lib.hid j
 have m0:∀ p n c w,Env w→Sl w p n c (X - Y)→Calls Tryz.prog 160 #[.bool (mx),.slice p n c] w (Ret w (.string r)):=
   fun p n c w E h=>made_sl E h (I.lS _ (by omega)).1 (I.lS _ (by omega)).2 (mx) r hr
 have M:=Lib.hid m0
 have l:∀ p n c q m d w,Sl w p n c X→Sl w q m d Y→Calls Tryz.prog 183 #[.slice p n c,.slice q m d] w (Ret w (.bool false)):=
   fun p n c q m d w h1 h2=>less_sl h1 h2 I.lX I.lY false (by first | exact decide_eq_true hlt | exact decide_eq_false hlt)
 have L:=Lib.hid l
 clear hr j m0 l hlt
 go_enter Tryz.func140,Tryz.ntmps140
 cases b1 with
 | false =>
   clear hn
   cases mx <;> (go_wp2_with (first | (go_at_call 180;first | (with_reducible refine (chain hb (I.br1 _)).mono ?_;clear hb;rintro e w1 ⟨rfl,hb⟩) | (with_reducible refine (chain hb (I.br2 _)).mono ?_;clear hb;rintro e w1 ⟨rfl,hb⟩)) | (go_at_call 131;first | (with_reducible refine (chain hb (I.sp1 _)).mono ?_;clear hb;rintro e w1 ⟨rfl,hb⟩) | (with_reducible refine (chain hb (I.sp2 _)).mono ?_;clear hb;rintro e w1 ⟨rfl,hb⟩)) | (go_at_call 162;first | (with_reducible refine (chainR hb (I.tk1 _)).mono ?_;clear hb;rintro e w1 ⟨p,n,c,rfl,hp,-,hb⟩) | (with_reducible refine (chainR hb (I.tk2 _)).mono ?_;clear hb;rintro e w2 ⟨q,m,d,rfl,hq,hb1,hb⟩;replace hp:=hp.below hb1;clear hb1)) | (go_at_call 182;refine (chainR hb (J.out _ _ _ _ _ _ _ hp hq)).mono ?_;clear hb hp hq;rintro e w3 ⟨o,l,f,rfl,ho,-,hb⟩) | (go_at_call 183;refine (chain2 hb (L.out _ _ _ _ _ _ _ hp hq)).mono ?_;clear hb;rintro e w4 ⟨rfl,hb1,hb⟩;replace hp:=hp.below hb1;replace hq:=hq.below hb1;clear hb1) | (go_at_call 160;refine (chain hb (M.out _ _ _ _ (E.below hb) ho)).mono ?_;clear hb;rintro e w5 ⟨rfl,hb⟩));go_ret;exact ⟨rfl,hb⟩)
 | true =>
   cases b2 with
   | true=>exact absurd hn (by decide)
   | false =>
     clear hn
     cases mx <;> (go_wp2_with (first | (go_at_call 180;first | (with_reducible refine (chain hb (I.br1 _)).mono ?_;clear hb;rintro e w1 ⟨rfl,hb⟩) | (with_reducible refine (chain hb (I.br2 _)).mono ?_;clear hb;rintro e w1 ⟨rfl,hb⟩)) | (go_at_call 131;first | (with_reducible refine (chain hb (I.sp1 _)).mono ?_;clear hb;rintro e w1 ⟨rfl,hb⟩) | (with_reducible refine (chain hb (I.sp2 _)).mono ?_;clear hb;rintro e w1 ⟨rfl,hb⟩)) | (go_at_call 162;first | (with_reducible refine (chainR hb (I.tk1 _)).mono ?_;clear hb;rintro e w1 ⟨p,n,c,rfl,hp,-,hb⟩) | (with_reducible refine (chainR hb (I.tk2 _)).mono ?_;clear hb;rintro e w2 ⟨q,m,d,rfl,hq,hb1,hb⟩;replace hp:=hp.below hb1;clear hb1)) | (go_at_call 182;refine (chainR hb (J.out _ _ _ _ _ _ _ hp hq)).mono ?_;clear hb hp hq;rintro e w3 ⟨o,l,f,rfl,ho,-,hb⟩) | (go_at_call 183;refine (chain2 hb (L.out _ _ _ _ _ _ _ hp hq)).mono ?_;clear hb;rintro e w4 ⟨rfl,hb1,hb⟩;replace hp:=hp.below hb1;replace hq:=hq.below hb1;clear hb1) | (go_at_call 160;refine (chain hb (M.out _ _ _ _ (E.below hb) ho)).mono ?_;clear hb;rintro e w5 ⟨rfl,hb⟩));go_ret;exact ⟨rfl,hb⟩)
theorem add_brief (x y:Int) (w:World) (E:Env w) (hx:dlen x≤17) (hy:dlen y≤17) :
   Calls Tryz.prog 140 #[.string (itoaB x),.string (itoaB y)] w (Ret w (.string (itoaB (x+y)))):=by
 have e1:x.natAbs < 100000000000000000:=Nat.lt_of_lt_of_le (dig_lt _) (Nat.pow_le_pow_right (by decide) hx)
 have e2:y.natAbs < 100000000000000000:=Nat.lt_of_lt_of_le (dig_lt _) (Nat.pow_le_pow_right (by decide) hy)
 have b1:∀ w,Calls Tryz.prog 180 #[.string (itoaB x)] w (Ret w (.tuple #[.int .i64 x,.bool true])):=fun w=>brief_short x w hx
 have b2:∀ w,Calls Tryz.prog 180 #[.string (itoaB y)] w (Ret w (.tuple #[.int .i64 y,.bool true])):=fun w=>brief_short y w hy
 have ew:IntKind.i64.wrap (x+y)=x+y:=IntWalk.i64_in _ (by omega)
 have B1:=Lib.hid b1
 have B2:=Lib.hid b2
 have o1:CE 94 #[.int .i64 (x+y)] (.string (itoaB (x+y))):=fun w E=>refOf_any (x+y) (by omega) (by omega) w E
 have O:=Lib.hid o1
 obtain ⟨a,ha⟩:∃ a,itoaB x=a:=⟨_,rfl⟩
 obtain ⟨b,hb0⟩:∃ b,itoaB y=b:=⟨_,rfl⟩
 rw [ha] at B1 ⊢
 rw [hb0] at B2 ⊢
 clear ha hb0 b1 b2 o1 e1 e2
 have hb:=Below.refl w.heap.size w
 go_enter Tryz.func140,Tryz.ntmps140
 go_wp2_with (first
   | (go_at_call 180;first
     | (with_reducible refine (chain hb (B1.out _)).mono ?_;clear hb;rintro e w1 ⟨rfl,hb⟩)
     | (with_reducible refine (chain hb (B2.out _)).mono ?_;clear hb;rintro e w1 ⟨rfl,hb⟩))
   | (go_at_call 94;(try rw [ew]);refine (chain hb (O.out _ (E.below hb))).mono ?_;clear hb;rintro e w1 ⟨rfl,hb⟩))
 go_ret
 exact ⟨rfl,hb⟩
theorem refAdd_any (x y:Int) (w:World) (E:Env w) (hx:dlen x≤99999) (hy:dlen y≤99999) :
   Calls Tryz.prog 140 #[.string (itoaB x),.string (itoaB y)] w (Ret w (.string (itoaB (x+y)))):=by
 by_cases hs:dlen x≤17∧dlen y≤17
 · exact add_brief x y w E hs.1 hs.2
 obtain ⟨v1,b1,hb1,B1⟩:=brief_any x (by omega)
 obtain ⟨v2,b2,hb2,B2⟩:=brief_any y (by omega)
 have hn:(b1 && b2)=false:=by
   rcases Bool.eq_false_or_eq_true (b1 && b2) with h | h
   · rw [Bool.and_eq_true] at h;exact absurd ⟨hb1 h.1,hb2 h.2⟩ hs
   · exact h
 have S:∀ V,V≤x.natAbs+y.natAbs→(pcN V).length≤100000∧(Lib.decDigits V).length≤1000000:=fun V hV=>by
   have h:=dec_add_len 99999 x.natAbs y.natAbs V (by omega) hx hy hV
   exact ⟨pcN_len_dec V 100000 h,by omega⟩
 have I:AddIn (itoaB x) (itoaB y) (magB (itoaB x)) (magB (itoaB y)) v1 v2 b1 b2 (decide (x < 0)) (decide (y < 0)) x.natAbs y.natAbs:=
   ⟨B1,B2,fun w=>split_any _ w _ (neg_itoaB x),fun w=>split_any _ w _ (neg_itoaB y),fun w=>take_itoa x w (by omega),fun w=>take_itoa y w (by omega),
     (S _ (by omega)).1,(S _ (by omega)).1,S⟩
 by_cases hxy:decide (x < 0)=decide (y < 0)
 · refine add_same I hxy hn _ ?_ w E
   rw [sgn_of (x+y) _ (x.natAbs+y.natAbs) ?_ ?_]
   · rfl
   · rw [decide_eq_decide] at hxy;omega
   · intro h0;rw [decide_eq_decide] at hxy ⊢;omega
 · have hne:decide (y < 0) = !decide (x < 0):=by cases hp:decide (x < 0) <;> cases hq:decide (y < 0) <;> simp_all
   have hsg:(x < 0∧¬ y < 0)∨(¬ x < 0∧y < 0):=by
     rw [decide_eq_decide] at hxy;omega
   by_cases hlt:x.natAbs < y.natAbs
   · refine add_less I hne hn hlt _ ?_ w E
     rw [sgn_of (x+y) _ (y.natAbs - x.natAbs) ?_ ?_]
     · rfl
     · omega
     · intro h0;rw [← hne,decide_eq_decide];omega
   · refine add_more I hne hn hlt _ ?_ w E
     rw [sgn_of (x+y) _ (x.natAbs - y.natAbs) ?_ ?_]
     · rfl
     · omega
     · intro h0;rw [decide_eq_decide];omega
theorem pval_set (B v:Int):∀ (xs:List Int) (j:Nat),j < xs.length→pval B (xs.set j (xs[j]?.getD 0+v))=pval B xs+B ^ j*v
 | [],j,h=>by simp at h
 | x :: r,0,_=>by
   show x+v+B*pval B r=x+B*pval B r+B ^ 0*v
   simp;omega
 | x :: r,j+1,h=>by
   have ih:=pval_set B v r j (by simpa using h)
   show x+B*pval B (r.set j (r[j]?.getD 0+v))=x+B*pval B r+B ^ (j+1)*v
   rw [ih,Int.mul_add,Int.pow_succ,Int.mul_comm (B ^ j) B,Int.mul_assoc];omega
theorem pval_take_succ (B:Int) (xs:List Int) (k:Nat) (h:k < xs.length):pval B (xs.take (k+1))=pval B (xs.take k)+B ^ k*xs[k]?.getD 0:=by
 rw [take_last h,pval_append,List.length_take,Nat.min_eq_left (by omega)]
 show _+B ^ k*(xs[k]?.getD 0+B*0)=_
 simp
theorem pval_zeros (B:Int):∀ n,pval B (List.replicate n 0)=0
 | 0=>rfl
 | n+1=>by rw [List.replicate_succ];show 0+B*pval B (List.replicate n 0)=0;rw [pval_zeros B n];simp
structure RTAt (xs ys:List Int) (L i k:Nat) (out:List Int) (W0 wr:World) (B:Nat):Prop where
 len:out.length=L
 val:pval 10000 out=pval 10000 (xs.take i)*pval 10000 ys+10000 ^ i*(xs[i]?.getD 0*pval 10000 (ys.take k))
 lo:∀ j:Nat,0≤out[j]?.getD 0
 hi:∀ j:Nat,out[j]?.getD 0≤(if j < i+k then (i:Int)+1 else i)*100000000
 own:wr.ownsRow B 3 1 (.slice (some ⟨B,0,none⟩) L L) L (iv out)
 bel:Below B W0 wr
theorem rt_next {xs ys:List Int} {L i k:Nat} {out:List Int} {W0 wr:World} {B:Nat} (h:RTAt xs ys L i k out W0 wr B) (hi:i < xs.length) (hk:k < ys.length) (hL:L=xs.length+ys.length)
   (hxs:∀ j:Nat,0≤xs[j]?.getD 0∧xs[j]?.getD 0 < 10000) (hys:∀ j:Nat,0≤ys[j]?.getD 0∧ys[j]?.getD 0 < 10000) {wr':World}
   (hown:wr'.ownsRow B 3 1 (.slice (some ⟨B,0,none⟩) L L) L (iv (out.set (i+k) (out[i+k]?.getD 0+xs[i]?.getD 0*ys[k]?.getD 0)))) (hbel:Below B W0 wr') :
   RTAt xs ys L i (k+1) (out.set (i+k) (out[i+k]?.getD 0+xs[i]?.getD 0*ys[k]?.getD 0)) W0 wr' B:=by
 have hp0:0≤xs[i]?.getD 0*ys[k]?.getD 0:=Int.mul_nonneg (hxs i).1 (hys k).1
 have hp1:xs[i]?.getD 0*ys[k]?.getD 0≤100000000:=by
   have:=Int.mul_le_mul (show xs[i]?.getD 0≤10000 by have:=hxs i;omega) (show ys[k]?.getD 0≤10000 by have:=hys k;omega) (hys k).1 (by decide);omega
 refine ⟨by rw [List.length_set];exact h.len,?_,fun j=>?_,fun j=>?_,hown,hbel⟩
 · rw [pval_set _ _ _ _ (by rw [h.len];omega),h.val,pval_take_succ _ _ _ hk,Int.pow_add,Int.mul_add,Int.mul_add,Int.add_assoc]
   congr 2
   rw [Int.mul_assoc,Int.mul_left_comm (xs[i]?.getD 0)]
 · by_cases hj:j=i+k
   · subst hj
     rw [List.getElem?_set_self (by rw [h.len];omega)]
     have:=h.lo (i+k)
     show 0≤out[i+k]?.getD 0+_;omega
   · rw [List.getElem?_set_ne (by omega)];exact h.lo j
 · by_cases hj:j=i+k
   · subst hj
     rw [List.getElem?_set_self (by rw [h.len];omega),if_pos (by omega)]
     have:=h.hi (i+k)
     rw [if_neg (by omega)] at this
     show out[i+k]?.getD 0+_≤_;omega
   · rw [List.getElem?_set_ne (by omega)]
     have:=h.hi j
     by_cases h2:j < i+k
     · rw [if_pos h2] at this;rw [if_pos (by omega)];exact this
     · rw [if_neg h2] at this;rw [if_neg (by omega)];exact this
theorem rt_row {xs ys:List Int} {L i:Nat} {out:List Int} {W0 wr:World} {B:Nat} (h:RTAt xs ys L i ys.length out W0 wr B) (hi:i < xs.length):RTAt xs ys L (i+1) 0 out W0 wr B:=by
 refine ⟨h.len,?_,h.lo,fun j=>?_,h.own,h.bel⟩
 · rw [h.val,List.take_length,pval_take_succ _ _ _ hi,List.take_zero]
   show _=_+10000 ^ (i+1)*(_*0)
   rw [Int.add_mul,Int.mul_zero,Int.mul_zero,Int.add_zero,Int.mul_assoc]
 · have:=h.hi j
   split at this <;> split <;> omega
theorem rt_drew {xs ys:List Int} {L i k:Nat} {out:List Int} {W0 wr:World} {B:Nat} (h:RTAt xs ys L i k out W0 wr B):RTAt xs ys L i k out W0 wr.drew B:=⟨h.len,h.val,h.lo,h.hi,h.own.drew,h.bel.drew⟩
theorem refTimes_any (p q:Option Addr) (c d n m:Nat) (xs ys:List Int) (w:World) (hn:n=xs.length) (hm:m=ys.length) (hnl:n≤9000) (hml:m≤9000) (hp:Has w p xs) (hq:Has w q ys)
   (hxs:∀ j:Nat,0≤xs[j]?.getD 0∧xs[j]?.getD 0 < 10000) (hys:∀ j:Nat,0≤ys[j]?.getD 0∧ys[j]?.getD 0 < 10000)
   (V:Nat) (hV:pval 10000 xs*pval 10000 ys=V) :
   Calls Tryz.prog 161 #[.slice p n c,.slice q m d] w (RetP w (pcN V)):=by
 obtain ⟨L,hL⟩:∃ L:Nat,n+m=L:=⟨_,rfl⟩
 have hLi:(n:Int)+(m:Int)=(L:Int):=by omega
 have hmk:(Instr.makeSlice 163 (.int .i64 (L:Int)) (.int .i64 (L:Int))).run Tryz.prog w = .ok (.slice (some ⟨w.heap.size,0,none⟩) L L) (w.alloc (.cells (madeCells #[Value.int .i64 0] L) 3)):=
   make_ints _ Tryz.underlying163 L L (Nat.le_refl _) (by omega) w
 have hz:=own_zeros w L (by omega)
 have hbel:=(Below.refl w.heap.size w).alloc (Nat.le_refl _) (.cells (madeCells #[Value.int .i64 0] L) 3)
 have h0:RTAt xs ys L 0 0 (List.replicate L 0) w (w.alloc (.cells (madeCells #[Value.int .i64 0] L) 3)) w.heap.size:=by
   have hr:∀ j:Nat,(List.replicate L (0:Int))[j]?.getD 0=0:=fun j=>by
     rcases hj:(List.replicate L (0:Int))[j]? with _ | z
     · rfl
     · have:=List.mem_of_getElem? hj;rw [List.mem_replicate] at this;exact this.2
   refine ⟨by simp,?_,fun j=>by rw [hr j];exact Int.le_refl _,fun j=>by rw [hr j];split <;> omega,hz,hbel⟩
   rw [pval_zeros,List.take_zero,List.take_zero];simp [pval]
 have HN:=Lib.hid hn
 have HM:=Lib.hid hm
 have HP:=Lib.hid hp
 have HQ:=Lib.hid hq
 have HXS:=Lib.hid hxs
 have HYS:=Lib.hid hys
 have HV:=Lib.hid hV
 have HL:=Lib.hid hL
 have H0:=Lib.hid h0
 have hLb:L≤18000:=by omega
 clear hn hm hp hq hxs hys hV hL hz hbel h0
 go_enter Tryz.func161,Tryz.ntmps161
 go_wp2
 go_loopw [6] (fun iv2 wr=>∃ (i:Nat) (out:List Int),iv2 = .int .i64 i∧i≤n∧RTAt xs ys L i 0 out w wr w.heap.size) (fun iv2 _=>n - (intOf iv2).toNat)
 case atStart=>exact ⟨0,_,rfl,Nat.zero_le _,H0.out⟩
 case round =>
   obtain ⟨i,out0,rfl,hin,hR⟩:=hrel
   have HR0:=Lib.hid hR
   clear hR H0 hmk hLi
   by_cases hi:i < n
   · have hi':(i:Int) < (n:Int):=by omega
     go_wp2
     go_loopw [7] (fun kv wr=>∃ (k:Nat) (out:List Int),kv = .int .i64 k∧k≤m∧RTAt xs ys L i k out w wr w.heap.size) (fun kv _=>m - (intOf kv).toNat)
     case atStart=>exact ⟨0,out0,rfl,Nat.zero_le _,HR0.out⟩
     case round =>
       obtain ⟨k,out,rfl,hkm,hR⟩:=hrel
       have HR:=Lib.hid hR
       clear hR HR0
       by_cases hk:k < m
       · have hk':(k:Int) < (m:Int):=by omega
         rcases HP.out with hpe | ⟨b1,o1,rfl,hb1,hcx⟩
         · exfalso;have:=HN.out;rw [hpe] at this;rw [this] at hi;exact absurd hi (Nat.not_lt_zero _)
         rcases HQ.out with hqe | ⟨b2,o2,rfl,hb2,hcy⟩
         · exfalso;have:=HM.out;rw [hqe] at this;rw [this] at hk;exact absurd hk (Nat.not_lt_zero _)
         have c1:=(HR.out.bel.cell (p:=⟨b1,o1+i,none⟩) hb1).trans (hcx i (by have:=HN.out;omega))
         have c2:=(HR.out.bel.cell (p:=⟨b2,o2+k,none⟩) hb2).trans (hcy k (by have:=HM.out;omega))
         obtain ⟨j,hj⟩:∃ j:Nat,i+k=j:=⟨_,rfl⟩
         have hjL:j < L:=by have:=HL.out;omega
         have hji:(i:Int)+(k:Int)=(j:Int):=by omega
         have hjL':(j:Int) < (L:Int):=by omega
         have hlen:=HR.out.len
         have hown:=HR.out.own
         have ci:wr.cell? ⟨w.heap.size,j,none⟩=some (.int .i64 (out[j]?.getD 0)):=by
           rw [hown.cellAt j (by omega),iv,List.getElem?_map,List.getElem?_eq_getElem (by omega)];rfl
         have fi:wr.frozen? ⟨w.heap.size,j,none⟩=false:=hown.frozenAt j
         have hz0:=HR.out.lo j
         have hz1:=HR.out.hi j
         rw [if_neg (by omega)] at hz1
         have hx:=HXS.out i
         have hy:=HYS.out k
         have hso:=(hown.stored j (.int .i64 (out[j]?.getD 0+xs[i]?.getD 0*ys[k]?.getD 0))).1
         rw [iv_set] at hso
         have hbl:=HR.out.bel.setCell (p:=⟨w.heap.size,j,none⟩) (Nat.le_refl _) (.int .i64 (out[j]?.getD 0+xs[i]?.getD 0*ys[k]?.getD 0))
         have hnx:=rt_next HR.out (by have:=HN.out;omega) (by have:=HM.out;omega) (by have:=HN.out;have:=HM.out;have:=HL.out;omega) HXS.out HYS.out (by rw [hj];exact hso) hbl
         rw [hj] at hnx
         obtain ⟨x,hxd⟩:∃ x,xs[i]?.getD 0=x:=⟨_,rfl⟩
         obtain ⟨y,hyd⟩:∃ y,ys[k]?.getD 0=y:=⟨_,rfl⟩
         obtain ⟨z,hzd⟩:∃ z,out[j]?.getD 0=z:=⟨_,rfl⟩
         rw [hxd,hyd,hzd] at hnx
         rw [hxd] at c1 hx
         rw [hyd] at c2 hy
         rw [hzd] at ci hz0 hz1
         have hp0:0≤x*y:=Int.mul_nonneg hx.1 hy.1
         have hp1:x*y≤100000000:=by
           have:=Int.mul_le_mul (show x≤10000 by omega) (show y≤10000 by omega) hy.1 (by decide);omega
         have hz2:z≤1000000000000:=by omega
         have hkm1:k+1≤m:=by omega
         have hms:m - (k+1) < m - k:=by omega
         have hj0:(0:Int)≤(j:Int):=by omega
         have hi0:(0:Int)≤(i:Int):=by omega
         have hk0:(0:Int)≤(k:Int):=by omega
         have w3:IntKind.i64.wrap ((i:Int)+(k:Int))=(j:Int):=by rw [hji];exact IntWalk.i64_in _ (by omega)
         have w4:IntKind.i64.wrap (j:Int)=(j:Int):=IntWalk.i64_in _ (by omega)
         obtain ⟨pr,hpr⟩:∃ pr,x*y=pr:=⟨_,rfl⟩
         have w1:IntKind.i64.wrap (x*y)=pr:=by rw [hpr];exact IntWalk.i64_in _ (by omega)
         have w2:IntKind.i64.wrap (z+pr)=z+pr:=IntWalk.i64_in _ (by omega)
         rw [hpr] at hnx
         have HNX:=Lib.hid hnx
         clear hnx hso hbl hown hlen hxd hyd hzd hpr hz0 hz1 hz2 hp0 hp1 hcx hcy hj hjL
         go_wp2
         go_still_tail 16,(by kernel_rfl)
         change wpList _ _ _ _ _ wr.drew
         go_wp2
         exact ⟨⟨k+1,_,by go_num,hkm1,rt_drew HNX.out⟩,hms⟩
       · obtain rfl:k=m:=by omega
         have hrow:=rt_row (by have h1:=HR.out;rw [HM.out] at h1;exact h1) (by have:=HN.out;omega:i < xs.length)
         have HROW:=Lib.hid hrow
         have hin1:i+1≤n:=by omega
         have hms:n - (i+1) < n - i:=by omega
         clear hrow
         go_wp2
         exact ⟨⟨i+1,out,by go_num,hin1,HROW.out⟩,hms⟩
   · obtain rfl:i=n:=by omega
     have hval:=HR0.out.val
     rw [List.take_zero,HN.out,List.take_length,HV.out] at hval
     have hval':pval 10000 out0=(V:Int):=by rw [hval];simp [pval]
     have hown:=HR0.out.own
     obtain ⟨p1,c1,hv1,hnc,hc1,hpn,hh⟩:=has_of_row hown HR0.out.len
     have hpp:some (⟨w.heap.size,0,none⟩:Addr)=p1∧L=c1:=by injection hv1 with h1 _ h3;exact ⟨h1,h3⟩
     obtain ⟨rfl,rfl⟩:=hpp
     have hbd:∀ j:Nat,-1000000000000≤out0[j]?.getD 0∧out0[j]?.getD 0≤1000000000000:=fun j=>by
       have h1:=HR0.out.lo j
       have h2:=HR0.out.hi j
       split at h2 <;> omega
     have hca:=carry_any (some ⟨w.heap.size,0,none⟩) L L out0 _ wr HR0.out.len.symm (by omega) hh hbd hval' (by omega)
     rw [show ((V:Nat):Int).toNat=V by omega] at hca
     have HH:=Lib.hid hca
     have HB:=Lib.hid HR0.out.bel
     clear hown hh hv1 hval hval' hbd hca
     go_wp2_with (go_at_call 202;refine HH.out.mono ?_;rintro e w1 ⟨p2,n2,c2,rfl,hr⟩;have HR:=Lib.hid hr;clear hr)
     go_ret
     exact RetP.behind HB.out (⟨p2,n2,c2,rfl,HR.out⟩:RetP wr _ (.returned (.slice p2 n2 c2)) _)
theorem refTimes_sl {p q:Option Addr} {n c m d X Y:Nat} {w:World} (h1:Sl w p n c X) (h2:Sl w q m d Y) (hX:(pcN X).length≤9000) (hY:(pcN Y).length≤9000) :
   Calls Tryz.prog 161 #[.slice p n c,.slice q m d] w (RetP w (pcN (X*Y))):=by
 have hr:∀ N:Nat,∀ j:Nat,0≤(pcN N)[j]?.getD 0∧(pcN N)[j]?.getD 0 < 10000:=fun N j=>by
   rcases h:(pcN N)[j]? with _ | z
   · exact ⟨by decide,by decide⟩
   · exact (pcN_isP N).1.1 z (List.mem_of_getElem? h)
 exact refTimes_any p q c d n m _ _ w h1.len h2.len (by rw [h1.len];exact hX) (by rw [h2.len];exact hY) h1.has h2.has (hr X) (hr Y) (X*Y) (by rw [(pcN_isP X).2,(pcN_isP Y).2,Int.natCast_mul])
end Go.Proofs.YtpennccflalobaaGreatDoor.Kl
