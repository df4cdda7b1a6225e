import Derived.Test.YtpennccflalobaaGreatDoorKlVErrorsCanon
import Derived.Test.YtpennccflalobaaGreatDoorKlBGiveZ
namespace Go.Proofs.YtpennccflalobaaGreatDoor.Kl
open Go Go.RowKit
set_option maxRecDepth 100000
set_option maxHeartbeats 8000000
structure AddIn (a b sx sy:ByteArray) (v1 v2:Int) (b1 b2 mx my:Bool) (X Y:Nat):Prop where
 br1:∀ w,Calls Tryz.prog 180 #[.string a] w (Ret w (.tuple #[.int .i64 v1,.bool b1]))
 br2:∀ w,Calls Tryz.prog 180 #[.string b] w (Ret w (.tuple #[.int .i64 v2,.bool b2]))
 sp1:∀ w,Calls Tryz.prog 131 #[.string a] w (Ret w (.tuple #[.bool mx,.string sx]))
 sp2:∀ w,Calls Tryz.prog 131 #[.string b] w (Ret w (.tuple #[.bool my,.string sy]))
 tk1:∀ w,Calls Tryz.prog 162 #[.string sx] w (RetP w (pcN X))
 tk2:∀ w,Calls Tryz.prog 162 #[.string sy] w (RetP w (pcN Y))
 lX:(pcN X).length≤100000
 lY:(pcN Y).length≤100000
 lS:∀ V,V≤X+Y→(pcN V).length≤100000∧(Lib.decDigits V).length≤1000000
theorem add_same {a b sx sy:ByteArray} {v1 v2:Int} {b1 b2 mx my:Bool} {X Y:Nat} (I:AddIn a b sx sy v1 v2 b1 b2 mx my X Y) (hmy:mx=my) (hn:(b1 && b2)=false) (r:ByteArray) (hr:strOf (sgn mx (X+Y))=r) (w:World) (E:Env w) :
   Calls Tryz.prog 140 #[.string a,.string b] w (Ret w (.string r)):=by
 subst hmy
 have hb:=Below.refl w.heap.size w
 have j:∀ p n c q m d w,Sl w p n c X→Sl w q m d Y→Calls Tryz.prog 182 #[.slice p n c,.slice q m d,.int .i64 1,.int .i64 0] w (RetP w (pcN (X+Y))):=
   fun p n c q m d w h1 h2=>joined_sl h1 h2 I.lX I.lY (1) (by decide) (by decide) (X+Y) (by omega)
 have J:=Lib.hid j
 have m0:∀ p n c w,Env w→Sl w p n c (X+Y)→Calls Tryz.prog 160 #[.bool (mx),.slice p n c] w (Ret w (.string r)):=
   fun p n c w E h=>made_sl E h (I.lS _ (Nat.le_refl _)).1 (I.lS _ (Nat.le_refl _)).2 (mx) r hr
 have M:=Lib.hid m0
 clear hr j m0
 go_enter Tryz.func140,Tryz.ntmps140
 cases b1 with
 | false =>
   clear hn
   cases mx <;> (go_wp2_with (first | (go_at_call 180;first | (with_reducible refine (chain hb (I.br1 _)).mono ?_;clear hb;rintro e w1 ⟨rfl,hb⟩) | (with_reducible refine (chain hb (I.br2 _)).mono ?_;clear hb;rintro e w1 ⟨rfl,hb⟩)) | (go_at_call 131;first | (with_reducible refine (chain hb (I.sp1 _)).mono ?_;clear hb;rintro e w1 ⟨rfl,hb⟩) | (with_reducible refine (chain hb (I.sp2 _)).mono ?_;clear hb;rintro e w1 ⟨rfl,hb⟩)) | (go_at_call 162;first | (with_reducible refine (chainR hb (I.tk1 _)).mono ?_;clear hb;rintro e w1 ⟨p,n,c,rfl,hp,-,hb⟩) | (with_reducible refine (chainR hb (I.tk2 _)).mono ?_;clear hb;rintro e w2 ⟨q,m,d,rfl,hq,hb1,hb⟩;replace hp:=hp.below hb1;clear hb1)) | (go_at_call 182;refine (chainR hb (J.out _ _ _ _ _ _ _ hp hq)).mono ?_;clear hb hp hq;rintro e w3 ⟨o,l,f,rfl,ho,-,hb⟩) | (go_at_call 183;refine (chain2 hb (L.out _ _ _ _ _ _ _ hp hq)).mono ?_;clear hb;rintro e w4 ⟨rfl,hb1,hb⟩;replace hp:=hp.below hb1;replace hq:=hq.below hb1;clear hb1) | (go_at_call 160;refine (chain hb (M.out _ _ _ _ (E.below hb) ho)).mono ?_;clear hb;rintro e w5 ⟨rfl,hb⟩));go_ret;exact ⟨rfl,hb⟩)
 | true =>
   cases b2 with
   | true=>exact absurd hn (by decide)
   | false =>
     clear hn
     cases mx <;> (go_wp2_with (first | (go_at_call 180;first | (with_reducible refine (chain hb (I.br1 _)).mono ?_;clear hb;rintro e w1 ⟨rfl,hb⟩) | (with_reducible refine (chain hb (I.br2 _)).mono ?_;clear hb;rintro e w1 ⟨rfl,hb⟩)) | (go_at_call 131;first | (with_reducible refine (chain hb (I.sp1 _)).mono ?_;clear hb;rintro e w1 ⟨rfl,hb⟩) | (with_reducible refine (chain hb (I.sp2 _)).mono ?_;clear hb;rintro e w1 ⟨rfl,hb⟩)) | (go_at_call 162;first | (with_reducible refine (chainR hb (I.tk1 _)).mono ?_;clear hb;rintro e w1 ⟨p,n,c,rfl,hp,-,hb⟩) | (with_reducible refine (chainR hb (I.tk2 _)).mono ?_;clear hb;rintro e w2 ⟨q,m,d,rfl,hq,hb1,hb⟩;replace hp:=hp.below hb1;clear hb1)) | (go_at_call 182;refine (chainR hb (J.out _ _ _ _ _ _ _ hp hq)).mono ?_;clear hb hp hq;rintro e w3 ⟨o,l,f,rfl,ho,-,hb⟩) | (go_at_call 183;refine (chain2 hb (L.out _ _ _ _ _ _ _ hp hq)).mono ?_;clear hb;rintro e w4 ⟨rfl,hb1,hb⟩;replace hp:=hp.below hb1;replace hq:=hq.below hb1;clear hb1) | (go_at_call 160;refine (chain hb (M.out _ _ _ _ (E.below hb) ho)).mono ?_;clear hb;rintro e w5 ⟨rfl,hb⟩));go_ret;exact ⟨rfl,hb⟩)
theorem add_less {a b sx sy:ByteArray} {v1 v2:Int} {b1 b2 mx my:Bool} {X Y:Nat} (I:AddIn a b sx sy v1 v2 b1 b2 mx my X Y) (hmy:my = !mx) (hn:(b1 && b2)=false) (hlt:X < Y) (r:ByteArray) (hr:strOf (sgn (!mx) (Y - X))=r) (w:World) (E:Env w) :
   Calls Tryz.prog 140 #[.string a,.string b] w (Ret w (.string r)):=by
 subst hmy
 have hb:=Below.refl w.heap.size w
 have j:∀ p n c q m d w,Sl w p n c X→Sl w q m d Y→Calls Tryz.prog 182 #[.slice q m d,.slice p n c,.int .i64 (-1),.int .i64 0] w (RetP w (pcN (Y - X))):=
   fun p n c q m d w h1 h2=>joined_sl h2 h1 I.lY I.lX ((-1)) (by decide) (by decide) (Y - X) (by omega)
 have J:=Lib.hid j
 have m0:∀ p n c w,Env w→Sl w p n c (Y - X)→Calls Tryz.prog 160 #[.bool (!mx),.slice p n c] w (Ret w (.string r)):=
   fun p n c w E h=>made_sl E h (I.lS _ (by omega)).1 (I.lS _ (by omega)).2 (!mx) r hr
 have M:=Lib.hid m0
 have l:∀ p n c q m d w,Sl w p n c X→Sl w q m d Y→Calls Tryz.prog 183 #[.slice p n c,.slice q m d] w (Ret w (.bool true)):=
   fun p n c q m d w h1 h2=>less_sl h1 h2 I.lX I.lY true (by first | exact decide_eq_true hlt | exact decide_eq_false hlt)
 have L:=Lib.hid l
 clear hr j m0 l hlt
 go_enter Tryz.func140,Tryz.ntmps140
 cases b1 with
 | false =>
   clear hn
   cases mx <;> (go_wp2_with (first | (go_at_call 180;first | (with_reducible refine (chain hb (I.br1 _)).mono ?_;clear hb;rintro e w1 ⟨rfl,hb⟩) | (with_reducible refine (chain hb (I.br2 _)).mono ?_;clear hb;rintro e w1 ⟨rfl,hb⟩)) | (go_at_call 131;first | (with_reducible refine (chain hb (I.sp1 _)).mono ?_;clear hb;rintro e w1 ⟨rfl,hb⟩) | (with_reducible refine (chain hb (I.sp2 _)).mono ?_;clear hb;rintro e w1 ⟨rfl,hb⟩)) | (go_at_call 162;first | (with_reducible refine (chainR hb (I.tk1 _)).mono ?_;clear hb;rintro e w1 ⟨p,n,c,rfl,hp,-,hb⟩) | (with_reducible refine (chainR hb (I.tk2 _)).mono ?_;clear hb;rintro e w2 ⟨q,m,d,rfl,hq,hb1,hb⟩;replace hp:=hp.below hb1;clear hb1)) | (go_at_call 182;refine (chainR hb (J.out _ _ _ _ _ _ _ hp hq)).mono ?_;clear hb hp hq;rintro e w3 ⟨o,l,f,rfl,ho,-,hb⟩) | (go_at_call 183;refine (chain2 hb (L.out _ _ _ _ _ _ _ hp hq)).mono ?_;clear hb;rintro e w4 ⟨rfl,hb1,hb⟩;replace hp:=hp.below hb1;replace hq:=hq.below hb1;clear hb1) | (go_at_call 160;refine (chain hb (M.out _ _ _ _ (E.below hb) ho)).mono ?_;clear hb;rintro e w5 ⟨rfl,hb⟩));go_ret;exact ⟨rfl,hb⟩)
 | true =>
   cases b2 with
   | true=>exact absurd hn (by decide)
   | false =>
     clear hn
     cases mx <;> (go_wp2_with (first | (go_at_call 180;first | (with_reducible refine (chain hb (I.br1 _)).mono ?_;clear hb;rintro e w1 ⟨rfl,hb⟩) | (with_reducible refine (chain hb (I.br2 _)).mono ?_;clear hb;rintro e w1 ⟨rfl,hb⟩)) | (go_at_call 131;first | (with_reducible refine (chain hb (I.sp1 _)).mono ?_;clear hb;rintro e w1 ⟨rfl,hb⟩) | (with_reducible refine (chain hb (I.sp2 _)).mono ?_;clear hb;rintro e w1 ⟨rfl,hb⟩)) | (go_at_call 162;first | (with_reducible refine (chainR hb (I.tk1 _)).mono ?_;clear hb;rintro e w1 ⟨p,n,c,rfl,hp,-,hb⟩) | (with_reducible refine (chainR hb (I.tk2 _)).mono ?_;clear hb;rintro e w2 ⟨q,m,d,rfl,hq,hb1,hb⟩;replace hp:=hp.below hb1;clear hb1)) | (go_at_call 182;refine (chainR hb (J.out _ _ _ _ _ _ _ hp hq)).mono ?_;clear hb hp hq;rintro e w3 ⟨o,l,f,rfl,ho,-,hb⟩) | (go_at_call 183;refine (chain2 hb (L.out _ _ _ _ _ _ _ hp hq)).mono ?_;clear hb;rintro e w4 ⟨rfl,hb1,hb⟩;replace hp:=hp.below hb1;replace hq:=hq.below hb1;clear hb1) | (go_at_call 160;refine (chain hb (M.out _ _ _ _ (E.below hb) ho)).mono ?_;clear hb;rintro e w5 ⟨rfl,hb⟩));go_ret;exact ⟨rfl,hb⟩)
theorem add_more {a b sx sy:ByteArray} {v1 v2:Int} {b1 b2 mx my:Bool} {X Y:Nat} (I:AddIn a b sx sy v1 v2 b1 b2 mx my X Y) (hmy:my = !mx) (hn:(b1 && b2)=false) (hlt:¬ X < Y) (r:ByteArray) (hr:strOf (sgn mx (X - Y))=r) (w:World) (E:Env w) :
   Calls Tryz.prog 140 #[.string a,.string b] w (Ret w (.string r)):=by
 subst hmy
 have hb:=Below.refl w.heap.size w
 have j:∀ p n c q m d w,Sl w p n c X→Sl w q m d Y→Calls Tryz.prog 182 #[.slice p n c,.slice q m d,.int .i64 (-1),.int .i64 0] w (RetP w (pcN (X - Y))):=
   fun p n c q m d w h1 h2=>joined_sl h1 h2 I.lX I.lY ((-1)) (by decide) (by decide) (X - Y) (by omega)
 have J:=Lib.hid j
 have m0:∀ p n c w,Env w→Sl w p n c (X - Y)→Calls Tryz.prog 160 #[.bool (mx),.slice p n c] w (Ret w (.string r)):=
   fun p n c w E h=>made_sl E h (I.lS _ (by omega)).1 (I.lS _ (by omega)).2 (mx) r hr
 have M:=Lib.hid m0
 have l:∀ p n c q m d w,Sl w p n c X→Sl w q m d Y→Calls Tryz.prog 183 #[.slice p n c,.slice q m d] w (Ret w (.bool false)):=
   fun p n c q m d w h1 h2=>less_sl h1 h2 I.lX I.lY false (by first | exact decide_eq_true hlt | exact decide_eq_false hlt)
 have L:=Lib.hid l
 clear hr j m0 l hlt
 go_enter Tryz.func140,Tryz.ntmps140
 cases b1 with
 | false =>
   clear hn
   cases mx <;> (go_wp2_with (first | (go_at_call 180;first | (with_reducible refine (chain hb (I.br1 _)).mono ?_;clear hb;rintro e w1 ⟨rfl,hb⟩) | (with_reducible refine (chain hb (I.br2 _)).mono ?_;clear hb;rintro e w1 ⟨rfl,hb⟩)) | (go_at_call 131;first | (with_reducible refine (chain hb (I.sp1 _)).mono ?_;clear hb;rintro e w1 ⟨rfl,hb⟩) | (with_reducible refine (chain hb (I.sp2 _)).mono ?_;clear hb;rintro e w1 ⟨rfl,hb⟩)) | (go_at_call 162;first | (with_reducible refine (chainR hb (I.tk1 _)).mono ?_;clear hb;rintro e w1 ⟨p,n,c,rfl,hp,-,hb⟩) | (with_reducible refine (chainR hb (I.tk2 _)).mono ?_;clear hb;rintro e w2 ⟨q,m,d,rfl,hq,hb1,hb⟩;replace hp:=hp.below hb1;clear hb1)) | (go_at_call 182;refine (chainR hb (J.out _ _ _ _ _ _ _ hp hq)).mono ?_;clear hb hp hq;rintro e w3 ⟨o,l,f,rfl,ho,-,hb⟩) | (go_at_call 183;refine (chain2 hb (L.out _ _ _ _ _ _ _ hp hq)).mono ?_;clear hb;rintro e w4 ⟨rfl,hb1,hb⟩;replace hp:=hp.below hb1;replace hq:=hq.below hb1;clear hb1) | (go_at_call 160;refine (chain hb (M.out _ _ _ _ (E.below hb) ho)).mono ?_;clear hb;rintro e w5 ⟨rfl,hb⟩));go_ret;exact ⟨rfl,hb⟩)
 | true =>
   cases b2 with
   | true=>exact absurd hn (by decide)
   | false =>
     clear hn
     cases mx <;> (go_wp2_with (first | (go_at_call 180;first | (with_reducible refine (chain hb (I.br1 _)).mono ?_;clear hb;rintro e w1 ⟨rfl,hb⟩) | (with_reducible refine (chain hb (I.br2 _)).mono ?_;clear hb;rintro e w1 ⟨rfl,hb⟩)) | (go_at_call 131;first | (with_reducible refine (chain hb (I.sp1 _)).mono ?_;clear hb;rintro e w1 ⟨rfl,hb⟩) | (with_reducible refine (chain hb (I.sp2 _)).mono ?_;clear hb;rintro e w1 ⟨rfl,hb⟩)) | (go_at_call 162;first | (with_reducible refine (chainR hb (I.tk1 _)).mono ?_;clear hb;rintro e w1 ⟨p,n,c,rfl,hp,-,hb⟩) | (with_reducible refine (chainR hb (I.tk2 _)).mono ?_;clear hb;rintro e w2 ⟨q,m,d,rfl,hq,hb1,hb⟩;replace hp:=hp.below hb1;clear hb1)) | (go_at_call 182;refine (chainR hb (J.out _ _ _ _ _ _ _ hp hq)).mono ?_;clear hb hp hq;rintro e w3 ⟨o,l,f,rfl,ho,-,hb⟩) | (go_at_call 183;refine (chain2 hb (L.out _ _ _ _ _ _ _ hp hq)).mono ?_;clear hb;rintro e w4 ⟨rfl,hb1,hb⟩;replace hp:=hp.below hb1;replace hq:=hq.below hb1;clear hb1) | (go_at_call 160;refine (chain hb (M.out _ _ _ _ (E.below hb) ho)).mono ?_;clear hb;rintro e w5 ⟨rfl,hb⟩));go_ret;exact ⟨rfl,hb⟩)
theorem add_brief (x y:Int) (w:World) (E:Env w) (hx:dlen x≤17) (hy:dlen y≤17) :
   Calls Tryz.prog 140 #[.string (itoaB x),.string (itoaB y)] w (Ret w (.string (itoaB (x+y)))):=by
 have e1:x.natAbs < 100000000000000000:=Nat.lt_of_lt_of_le (dig_lt _) (Nat.pow_le_pow_right (by decide) hx)
 have e2:y.natAbs < 100000000000000000:=Nat.lt_of_lt_of_le (dig_lt _) (Nat.pow_le_pow_right (by decide) hy)
 have b1:∀ w,Calls Tryz.prog 180 #[.string (itoaB x)] w (Ret w (.tuple #[.int .i64 x,.bool true])):=fun w=>brief_short x w hx
 have b2:∀ w,Calls Tryz.prog 180 #[.string (itoaB y)] w (Ret w (.tuple #[.int .i64 y,.bool true])):=fun w=>brief_short y w hy
 have ew:IntKind.i64.wrap (x+y)=x+y:=IntWalk.i64_in _ (by omega)
 have B1:=Lib.hid b1
 have B2:=Lib.hid b2
 have o1:CE 94 #[.int .i64 (x+y)] (.string (itoaB (x+y))):=fun w E=>refOf_any (x+y) (by omega) (by omega) w E
 have O:=Lib.hid o1
 obtain ⟨a,ha⟩:∃ a,itoaB x=a:=⟨_,rfl⟩
 obtain ⟨b,hb0⟩:∃ b,itoaB y=b:=⟨_,rfl⟩
 rw [ha] at B1 ⊢
 rw [hb0] at B2 ⊢
 clear ha hb0 b1 b2 o1 e1 e2
 have hb:=Below.refl w.heap.size w
 go_enter Tryz.func140,Tryz.ntmps140
 go_wp2_with (first
   | (go_at_call 180;first
     | (with_reducible refine (chain hb (B1.out _)).mono ?_;clear hb;rintro e w1 ⟨rfl,hb⟩)
     | (with_reducible refine (chain hb (B2.out _)).mono ?_;clear hb;rintro e w1 ⟨rfl,hb⟩))
   | (go_at_call 94;(try rw [ew]);refine (chain hb (O.out _ (E.below hb))).mono ?_;clear hb;rintro e w1 ⟨rfl,hb⟩))
 go_ret
 exact ⟨rfl,hb⟩
theorem refAdd_any (x y:Int) (w:World) (E:Env w) (hx:dlen x≤99999) (hy:dlen y≤99999) :
   Calls Tryz.prog 140 #[.string (itoaB x),.string (itoaB y)] w (Ret w (.string (itoaB (x+y)))):=by
 by_cases hs:dlen x≤17∧dlen y≤17
 · exact add_brief x y w E hs.1 hs.2
 obtain ⟨v1,b1,hb1,B1⟩:=brief_any x (by omega)
 obtain ⟨v2,b2,hb2,B2⟩:=brief_any y (by omega)
 have hn:(b1 && b2)=false:=by
   rcases Bool.eq_false_or_eq_true (b1 && b2) with h | h
   · rw [Bool.and_eq_true] at h;exact absurd ⟨hb1 h.1,hb2 h.2⟩ hs
   · exact h
 have S:∀ V,V≤x.natAbs+y.natAbs→(pcN V).length≤100000∧(Lib.decDigits V).length≤1000000:=fun V hV=>by
   have h:=dec_add_len 99999 x.natAbs y.natAbs V (by omega) hx hy hV
   exact ⟨pcN_len_dec V 100000 h,by omega⟩
 have I:AddIn (itoaB x) (itoaB y) (magB (itoaB x)) (magB (itoaB y)) v1 v2 b1 b2 (decide (x < 0)) (decide (y < 0)) x.natAbs y.natAbs:=
   ⟨B1,B2,fun w=>split_any _ w _ (neg_itoaB x),fun w=>split_any _ w _ (neg_itoaB y),fun w=>take_itoa x w (by omega),fun w=>take_itoa y w (by omega),
     (S _ (by omega)).1,(S _ (by omega)).1,S⟩
 by_cases hxy:decide (x < 0)=decide (y < 0)
 · refine add_same I hxy hn _ ?_ w E
   rw [sgn_of (x+y) _ (x.natAbs+y.natAbs) ?_ ?_]
   · rfl
   · rw [decide_eq_decide] at hxy;omega
   · intro h0;rw [decide_eq_decide] at hxy ⊢;omega
 · have hne:decide (y < 0) = !decide (x < 0):=by cases hp:decide (x < 0) <;> cases hq:decide (y < 0) <;> simp_all
   have hsg:(x < 0∧¬ y < 0)∨(¬ x < 0∧y < 0):=by
     rw [decide_eq_decide] at hxy;omega
   by_cases hlt:x.natAbs < y.natAbs
   · refine add_less I hne hn hlt _ ?_ w E
     rw [sgn_of (x+y) _ (y.natAbs - x.natAbs) ?_ ?_]
     · rfl
     · omega
     · intro h0;rw [← hne,decide_eq_decide];omega
   · refine add_more I hne hn hlt _ ?_ w E
     rw [sgn_of (x+y) _ (x.natAbs - y.natAbs) ?_ ?_]
     · rfl
     · omega
     · intro h0;rw [decide_eq_decide];omega
theorem refSub_any (x y:Int) (w:World) (E:Env w) (hx:dlen x≤99999) (hy:dlen y≤99999) :
   Calls Tryz.prog 135 #[.string (itoaB x),.string (itoaB y)] w (Ret w (.string (itoaB (x - y)))):=by
 have n1:∀ w,Calls Tryz.prog 157 #[.string (itoaB y)] w (Ret w (.string (itoaB (-y)))):=fun w=>refNeg_any y w (by omega)
 have a1:CE 140 #[.string (itoaB x),.string (itoaB (-y))] (.string (itoaB (x - y))):=fun w E=>by
   have:=refAdd_any x (-y) w E hx (by rw [dlen_neg];exact hy)
   rwa [← Int.sub_eq_add_neg] at this
 obtain ⟨r,hr⟩:∃ r,itoaB (x - y)=r:=⟨_,rfl⟩
 obtain ⟨c,hc⟩:∃ c,itoaB (-y)=c:=⟨_,rfl⟩
 obtain ⟨a,ha⟩:∃ a,itoaB x=a:=⟨_,rfl⟩
 obtain ⟨b,hb0⟩:∃ b,itoaB y=b:=⟨_,rfl⟩
 rw [hb0,hc] at n1
 rw [ha,hc,hr] at a1
 rw [ha,hb0,hr]
 have N1:=Lib.hid n1
 have A1:=Lib.hid a1
 clear n1 a1 hr hc ha hb0 hx hy
 have hb:=Below.refl w.heap.size w
 go_enter Tryz.func135,Tryz.ntmps135
 go_wp2_with (first
   | (go_at_call 157;refine (chain hb (N1.out _)).mono ?_;clear hb;rintro e w1 ⟨rfl,hb⟩)
   | (go_at_call 140;refine (chain hb (A1.out _ (E.below hb))).mono ?_;clear hb;rintro e w1 ⟨rfl,hb⟩))
 go_ret
 exact ⟨rfl,hb⟩
theorem refCompare_any (x y:Int) (w:World) (E:Env w) (hx:dlen x≤99999) (hy:dlen y≤99999) :
   Calls Tryz.prog 82 #[.string (itoaB x),.string (itoaB y)] w (Ret w (.int .i64 (x - y).sign)):=by
 have n1:CE 135 #[.string (itoaB x),.string (itoaB y)] (.string (itoaB (x - y))):=fun w E=>refSub_any x y w E hx hy
 have a1:∀ w,Calls Tryz.prog 134 #[.string (itoaB (x - y))] w (Ret w (.int .i64 (x - y).sign)):=fun w=>refSign_any (x - y) w
 obtain ⟨z,hz⟩:∃ z,(x - y).sign=z:=⟨_,rfl⟩
 obtain ⟨r,hr⟩:∃ r,itoaB (x - y)=r:=⟨_,rfl⟩
 obtain ⟨a,ha⟩:∃ a,itoaB x=a:=⟨_,rfl⟩
 obtain ⟨b,hb0⟩:∃ b,itoaB y=b:=⟨_,rfl⟩
 rw [ha,hb0,hr] at n1
 rw [hr,hz] at a1
 rw [ha,hb0,hz]
 have N1:=Lib.hid n1
 have A1:=Lib.hid a1
 clear n1 a1 hr hz ha hb0 hx hy
 have hb:=Below.refl w.heap.size w
 go_enter Tryz.func82,Tryz.ntmps82
 go_wp2_with (first
   | (go_at_call 135;refine (chain hb (N1.out _ (E.below hb))).mono ?_;clear hb;rintro e w1 ⟨rfl,hb⟩)
   | (go_at_call 134;refine (chain hb (A1.out _)).mono ?_;clear hb;rintro e w1 ⟨rfl,hb⟩))
 go_ret
 exact ⟨rfl,hb⟩
end Go.Proofs.YtpennccflalobaaGreatDoor.Kl
