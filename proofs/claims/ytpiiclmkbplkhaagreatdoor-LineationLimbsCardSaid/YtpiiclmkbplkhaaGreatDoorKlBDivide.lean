import Derived.Test.YtpiiclmkbplkhaaGreatDoorKlBNumb
import Derived.Test.YtpiiclmkbplkhaaGreatDoorKlBReduce
namespace Go.Proofs.YtpiiclmkbplkhaaGreatDoor.Kl
open Go Go.RowKit
set_option maxRecDepth 100000
set_option maxHeartbeats 8000000
theorem retPI {k:IntKind} {p:Option Addr} {n c:Nat} {a b:Int} (h:a=b):Ending.returned (.tuple #[.slice p n c,.int k a]) = .returned (.tuple #[.slice p n c,.int k b]):=by rw [h]
theorem rep_set (i:Nat) (q:Int) (qs:List Int):(List.replicate (i+1) 0 ++ qs).set i q=List.replicate i 0 ++ (q :: qs):=by
 rw [List.replicate_succ',List.append_assoc,List.set_append_right _ _ (by simp)]
 simp
structure DivSAt (xs:List Int) (d:Int) (n j:Nat) (r:Int) (qs:List Int) (W0 wr:World) (B:Nat):Prop where
 le:j≤n
 len:qs.length=n - j
 inr:Inr 1000000000 qs
 sum:pval 1000000000 (xs.drop j)=d*pval 1000000000 qs+r
 r0:0≤r
 r1:r < d
 own:wr.ownsRow B 3 1 (.slice (some ⟨B,0,none⟩) n n) n (iv (List.replicate j 0 ++ qs))
 bel:Below B W0 wr
theorem divS_drew {xs:List Int} {d:Int} {n j:Nat} {r:Int} {qs:List Int} {W0 wr:World} {B:Nat} (h:DivSAt xs d n j r qs W0 wr B):DivSAt xs d n j r qs W0 wr.drew B:=⟨h.le,h.len,h.inr,h.sum,h.r0,h.r1,h.own.drew,h.bel.drew⟩
theorem divS_any (p:Option Addr) (n c:Nat) (xs:List Int) (d:Int) (w:World) (hn:n=xs.length) (hnl:n≤200000) (hp:Has w p xs) (hd0:1≤d) (hd1:d≤1000000000)
   (hxs:∀ j:Nat,0≤xs[j]?.getD 0∧xs[j]?.getD 0 < 1000000000) (V:Nat) (hV:pval 1000000000 xs=V) :
   Calls Tryz.prog 163 #[.slice p n c,.int .i64 d] w fun e w' => ∃ p2 n2 c2,e = .returned (.tuple #[.slice p2 n2 c2,.int .i64 ((V:Int) % d)])∧Sm w' p2 n2 c2 ((V:Int) / d).toNat∧Below w.heap.size w w':=by
 have hmk:(Instr.makeSlice 135 (.int .i64 (n:Int)) (.int .i64 (n:Int))).run Tryz.prog w = .ok (.slice (some ⟨w.heap.size,0,none⟩) n n) (w.alloc (.cells (madeCells #[Value.int .i64 0] n) 3)):=
   make_ints _ Tryz.underlying135 n n (Nat.le_refl _) (by omega) w
 have hz:=own_zeros w n (by omega)
 have hbel:=(Below.refl w.heap.size w).alloc (Nat.le_refl _) (.cells (madeCells #[Value.int .i64 0] n) 3)
 have hlast:=xs.drop_length
 rw [← hn] at hlast
 have h0:DivSAt xs d n n 0 [] w (w.alloc (.cells (madeCells #[Value.int .i64 0] n) 3)) w.heap.size:=
   ⟨Nat.le_refl _,by simp,fun x hx=>by simp at hx,by rw [hlast];simp [pval],Int.le_refl _,by omega,by rw [List.append_nil];exact hz,hbel⟩
 have HN:=Lib.hid hn
 have HP:=Lib.hid hp
 have HXS:=Lib.hid hxs
 have HV:=Lib.hid hV
 have H0:=Lib.hid h0
 clear hn hp hxs hV hz hbel hlast h0
 go_enter Tryz.func163,Tryz.ntmps163
 go_wp2
 go_loopw [5,6] (fun rv iv2 wr=>∃ (j:Nat) (r:Int) (qs:List Int),rv = .int .i64 r∧iv2 = .int .i64 ((j:Int) - 1)∧DivSAt xs d n j r qs w wr w.heap.size) (fun _ iv2 _=>(intOf iv2+1).toNat)
 case atStart=>exact ⟨n,0,[],rfl,rfl,H0.out⟩
 case round =>
   obtain ⟨j,r,qs,rfl,rfl,hD⟩:=hrel
   have HD:=Lib.hid hD
   have hjn:=hD.le
   have hr0:=hD.r0
   have hr1:=hD.r1
   clear hD H0 hmk
   by_cases hj:j=0
   · subst hj
     have hsum:=HD.out.sum
     rw [List.drop_zero,HV.out] at hsum
     have hdp:0 < d:=by omega
     have hue:=(Int.ediv_emod_unique hdp (a:=(V:Int)) (r:=r) (q:=pval 1000000000 qs)).2 ⟨by rw [hsum];omega,hr0,hr1⟩
     have hQ0:=pval_nonneg (by decide:(0:Int) < 1000000000) HD.out.inr
     have hown:=HD.out.own
     rw [List.replicate_zero,List.nil_append] at hown
     have hlen:qs.length=n:=by have:=HD.out.len;omega
     obtain ⟨p1,c1,hv1,hnc,hc1,hpn,hh⟩:=has_of_row hown hlen
     have hpp:some (⟨w.heap.size,0,none⟩:Addr)=p1∧n=c1:=by injection hv1 with h1 _ h3;exact ⟨h1,h3⟩
     obtain ⟨rfl,rfl⟩:=hpp
     have HH:=Lib.hid (trim_any (some ⟨w.heap.size,0,none⟩) n n qs wr hlen.symm hnc hc1 hpn hh)
     have HE:Hid (trimP qs=pcM ((V:Int) / d).toNat):=by show _=_;exact trim_pcM_of HD.out.inr _ (by rw [hue.1];omega)
     have HM:Hid (r=(V:Int) % d):=Lib.hid hue.2.symm
     have HB:=Lib.hid HD.out.bel
     clear hown hh hv1 hsum hue hQ0
     go_wp2_with (go_at_call 136;refine HH.out.mono ?_;rintro e w1 ⟨p2,n2,c2,rfl,hr⟩;have HR:=Lib.hid hr;clear hr)
     go_ret2
     have h9:=HR.out
     rw [HE.out] at h9
     exact ⟨p2,n2,c2,retPI HM.out,⟨h9.1,h9.2.1,h9.2.2.1,h9.2.2.2.1,h9.2.2.2.2.1⟩,HB.out.trans (h9.2.2.2.2.2.mono HB.out.size)⟩
   · obtain ⟨i,rfl⟩:∃ i,j=i+1:=⟨j - 1,by omega⟩
     have hin:i < n:=by omega
     rcases HP.out with hpe | ⟨b1,o1,rfl,hb1,hcx⟩
     · exfalso;have:=HN.out;rw [hpe] at this;rw [this] at hin;exact absurd hin (Nat.not_lt_zero _)
     have hci:=(HD.out.bel.cell (p:=⟨b1,o1+i,none⟩) hb1).trans (hcx i (by have:=HN.out;omega))
     have hx:=HXS.out i
     have hdrop:pval 1000000000 (xs.drop i)=xs[i]?.getD 0+1000000000*pval 1000000000 (xs.drop (i+1)):=by
       have hil:i < xs.length:=by have:=HN.out;omega
       rw [← List.getElem_cons_drop hil,List.getElem?_eq_getElem hil];rfl
     obtain ⟨x,hxd⟩:∃ x,xs[i]?.getD 0=x:=⟨_,rfl⟩
     rw [hxd] at hci hx hdrop
     obtain ⟨s,hs⟩:∃ s,r*1000000000+x=s:=⟨_,rfl⟩
     have hs0:0≤s:=by omega
     have hs1:s < d*1000000000:=by
       have:r*1000000000≤(d - 1)*1000000000:=Int.mul_le_mul_of_nonneg_right (by omega) (by decide)
       rw [Int.sub_mul] at this;omega
     have hs2:s≤1000000000000000000:=by omega
     have hq0:0≤s / d:=Int.ediv_nonneg hs0 (by omega)
     have hq1:s / d < 1000000000:=Int.ediv_lt_of_lt_mul (by omega) (by rw [Int.mul_comm];exact hs1)
     have hm0:=Int.emod_nonneg s (by omega:d≠0)
     have hm1:=Int.emod_lt_of_pos s (by omega:0 < d)
     have hdm:=Int.emod_add_mul_ediv s d
     have hown:=HD.out.own
     have fi:wr.frozen? ⟨w.heap.size,i,none⟩=false:=hown.frozenAt i
     obtain ⟨u0,ci⟩:∃ u0,wr.cell? ⟨w.heap.size,i,none⟩=some u0:=by
       rw [hown.cellAt i (by omega)]
       exact ⟨_,List.getElem?_eq_getElem (by have:=hown.1;omega)⟩
     have hso:=(hown.stored i (.int .i64 (s / d))).1
     rw [iv_set,rep_set] at hso
     have hbl:=HD.out.bel.setCell (p:=⟨w.heap.size,i,none⟩) (Nat.le_refl _) (.int .i64 (s / d))
     have hnx:DivSAt xs d n i (s % d) (s / d :: qs) w ((wr.setCell ⟨w.heap.size,i,none⟩ (.int .i64 (s / d)))) w.heap.size:=by
       refine ⟨by omega,by rw [List.length_cons,HD.out.len];omega,fun z hz=>?_,?_,hm0,hm1,hso,hbl⟩
       · rcases List.mem_cons.1 hz with rfl | hz
         · exact ⟨hq0,hq1⟩
         · exact HD.out.inr z hz
       · rw [hdrop,HD.out.sum]
         show x+1000000000*(d*pval 1000000000 qs+r)=d*(s / d+1000000000*pval 1000000000 qs)+s % d
         rw [Int.mul_add,Int.mul_add,Int.mul_left_comm d 1000000000];omega
     have hyne:(d == 0)=false:=by rw [beq_eq_false_iff_ne];omega
     have t1:s.tdiv d=s / d:=Int.tdiv_eq_ediv_of_nonneg hs0
     have t2:s.tmod d=s % d:=Int.tmod_eq_emod_of_nonneg hs0
     obtain ⟨q,hq⟩:∃ q,s / d=q:=⟨_,rfl⟩
     obtain ⟨m,hm⟩:∃ m,s % d=m:=⟨_,rfl⟩
     rw [hq,hm] at hnx
     rw [hq] at hq0 hq1 t1
     rw [hm] at t2 hm0 hm1
     have w0:IntKind.i64.wrap (r*1000000000)=r*1000000000:=IntWalk.i64_in _ (by omega)
     have w1:IntKind.i64.wrap (r*1000000000+x)=s:=by rw [hs];exact IntWalk.i64_in _ (by omega)
     have w2:wrap64 q=q:=IntWalk.wrap64_in _ ⟨by omega,by omega⟩
     have HNX:=Lib.hid hnx
     clear hnx hso hbl hown hxd hdrop hdm hq hm hcx hs1
     go_wp2
     go_region
     go_wp2
     exact ⟨⟨i,m,q :: qs,rfl,by go_num,divS_drew HNX.out⟩,by simp [intOf]⟩
theorem divS_sm {p:Option Addr} {n c X:Nat} {w:World} (h1:Sm w p n c X) (hX:(pcM X).length≤100000) (d:Nat) (hd0:1≤d) (hd1:d≤1000000000) :
   Calls Tryz.prog 163 #[.slice p n c,.int .i64 d] w fun e w' => ∃ p2 n2 c2,e = .returned (.tuple #[.slice p2 n2 c2,.int .i64 ((X % d:Nat):Int)])∧Sm w' p2 n2 c2 (X / d)∧Below w.heap.size w w':=by
 have:=divS_any p n c _ d w h1.len (by rw [h1.len];omega) h1.has (by omega) (by omega) (pcM_in X) X (pcM_isP X).2
 have e1:((X:Int) / (d:Int)).toNat=X / d:=by rw [← Int.natCast_ediv];exact Int.toNat_natCast _
 rw [e1] at this
 refine this.mono fun e w' ⟨p2,n2,c2,h,hs,hb⟩=>⟨p2,n2,c2,by rw [h,Int.natCast_emod],hs,hb⟩
theorem clone_none (w:World):Calls Tryz.prog 162 #[.slice none 0 0] w (RetP w []):=by
 have e1:Sem.run Tryz.prog (binOp BinOp.eql 135 (.slice none 0 0) (.slice none 0 0)) w = .ok (.bool true) w:=by kernel_rfl
 go_enter Tryz.func162,Tryz.ntmps162
 go_wp2
 go_ret
 exact ⟨_,_,_,rfl,rfl,Nat.le_refl _,by omega,(fun _=>rfl),Or.inl rfl,Below.refl _ _⟩
theorem clone_some (ad:Addr) (n c:Nat) (xs:List Int) (w:World) (hn:n=xs.length) (hnl:n≤1000000) (h:Has w (some ad) xs) :
   Calls Tryz.prog 162 #[.slice (some ad) n c] w (RetP w xs):=by
 obtain ⟨i0,hi,hz0,hz1,hz2⟩:=info_parts info3
 have HN:=Lib.hid hn
 have HP:=Lib.hid h
 clear hn h
 have hown0:(w.alloc (.cells #[] 3)).ownsRow w.heap.size 3 1 (.slice (some ⟨w.heap.size,0,none⟩) 0 0) 0 []:=
   World.ownsRow_made w #[] 0 (Nat.le_refl _) (by decide) rfl
 have e1:Sem.run Tryz.prog (binOp BinOp.eql 135 (.slice (some ad) n c) (.slice none 0 0)) w = .ok (.bool false) w:=by kernel_rfl
 go_enter Tryz.func162,Tryz.ntmps162
 go_wp2_with (at_builtin;refine wpList_append_own _ rfl _ _ 135 rfl w.heap.size 3 i0 (.int .i64 0) 1 8 Tryz.underlying135 hi hz0 hz1 hz2 rfl (by decide) _ _ _ rfl hown0 ad n c (iv xs) rfl ?hl ?hnews ?h1 ?c3 ?c4 ?c5 ?_)
 case hl=>rw [iv,List.length_map];have:=HN.out;omega
 case hnews =>
   intro j u hu
   rw [iv,List.getElem?_map] at hu
   by_cases hj:j < xs.length
   · rcases HP.out with hp | ⟨b,o,hpe,hlt,hcell⟩
     · rw [hp] at hj;simp at hj
     · injection hpe with hpe
       subst hpe
       rw [List.getElem?_eq_getElem hj] at hu
       have hc:=hcell j hj
       rw [List.getElem?_eq_getElem hj] at hc
       rw [World.cell?_alloc_lt _ _ _ (by rw [Go.WideShapes.add_plain];exact hlt),Go.WideShapes.add_plain,hc]
       exact hu
   · rw [List.getElem?_eq_none (by omega)] at hu;cases hu
 case h1=>intro u hu;simp [iv] at hu;obtain ⟨x,_,rfl⟩:=hu;simp [Value.oneCell']
 case c3=>unfold maxLen;omega
 case c4=>omega
 case c5=>simp only [World.size_alloc];omega
 intro v' w1 hown1 hgrow hnil
 have hb1:=((Below.refl w.heap.size w).alloc (Nat.le_refl _) (Obj.cells #[] 3)).grown hgrow (by simp only [World.size_alloc];omega) (own_ge3 hown0)
 obtain ⟨p1,c1,rfl,hnc,hc1,hpn,hh⟩:=has_of_row hown1 HN.out.symm
 have HH:=Lib.hid hh
 have HB:=Lib.hid hb1
 clear hown1 hh hb1 hgrow hown0 hnil
 go_wp2
 go_ret
 exact ⟨p1,n,c1,rfl,HN.out,hnc,hc1,hpn,HH.out,HB.out⟩
theorem clone_sm {p:Option Addr} {n c X:Nat} {w:World} (h:Sm w p n c X) (hX:(pcM X).length≤100000) :
   Calls Tryz.prog 162 #[.slice p n c] w (RetP w (pcM X)):=by
 rcases p with _ | ad
 · have hc:=h.nil rfl
   have hn:(pcM X)=[]:=by
     rcases h.has with h1 | ⟨_,_,h1,_⟩
     · exact h1
     · cases h1
   have hl:=h.len
   rw [hn] at hl ⊢
   obtain rfl:n=0:=hl
   subst hc
   exact clone_none w
 · exact clone_some ad n c _ w h.len (by rw [h.len];omega) h.has
def RetQ (w:World) (Q R:Nat) (e:Ending) (w':World):Prop:=
 ∃ (p1:Option Addr) (n1 c1:Nat) (p2:Option Addr) (n2 c2:Nat),e = .returned (.tuple #[.slice p1 n1 c1,.slice p2 n2 c2])∧Sm w' p1 n1 c1 Q∧Sm w' p2 n2 c2 R∧Below w.heap.size w w'
theorem divide_less {p q:Option Addr} {n c m d X Y:Nat} {w:World} (h1:Sm w p n c X) (h2:Sm w q m d Y) (hX:(pcM X).length≤90000) (hY:(pcM Y).length≤90000) (hlt:X < Y) :
   Calls Tryz.prog 133 #[.slice p n c,.slice q m d] w (RetQ w (X / Y) (X % Y)):=by
 rw [Nat.div_eq_of_lt hlt,Nat.mod_eq_of_lt hlt]
 have c1:=pcmp_sm h1 h2 (by omega) (by omega)
 rw [cI_lt (by omega)] at c1
 have C1:=Lib.hid c1
 have H1:=Lib.hid h1
 have HX:Hid ((pcM X).length≤100000):=Lib.hid (by omega)
 clear c1 h1 h2 hX hY hlt
 have hb:=Below.refl w.heap.size w
 go_enter Tryz.func133,Tryz.ntmps133
 go_wp2_with (first | (go_at_call 131;refine (chain hb C1.out).mono ?_;clear hb;rintro e w1 ⟨rfl,hb⟩) | (go_at_call 162;refine (chainM hb (clone_sm (H1.out.below hb) HX.out)).mono ?_;clear hb;rintro e w2 ⟨p2,n2,c2,rfl,hs2,hl2,hb⟩;have HS2:=Lib.hid hs2;clear hs2 hl2))
 go_ret2
 exact ⟨none,0,0,p2,n2,c2,rfl,⟨by rw [pcM_zero];rfl,Nat.le_refl _,by omega,fun _=>rfl,Or.inl pcM_zero⟩,HS2.out,hb⟩
theorem pcM_small (Y:Nat) (h0:Y≠0) (h1:Y < 1000000000):pcM Y=[(Y:Int)]:=by
 rw [pcM,dif_neg h0,Nat.mod_eq_of_lt h1,Nat.div_eq_of_lt h1,pcM_zero]
theorem pcM_one_lt (Y:Nat) (h:(pcM Y).length=1):Y < 1000000000∧Y≠0:=by
 have h1:=pcM_lt Y
 rw [h] at h1
 exact ⟨by simpa using h1,fun e=>by rw [e,pcM_zero] at h;simp at h⟩
theorem trim_small (r:Nat) (h:r < 1000000000):trimP [(r:Int)]=pcM r:=by
 refine trim_pcM_of (fun x hx=>?_) r (by simp [pval])
 obtain rfl:x=(r:Int):=by simpa using hx
 omega
theorem divide_short {p q:Option Addr} {n c m d X Y:Nat} {w:World} (h1:Sm w p n c X) (h2:Sm w q m d Y) (hX:(pcM X).length≤90000) (hY:(pcM Y).length=1) (hle:Y≤X) :
   Calls Tryz.prog 133 #[.slice p n c,.slice q m d] w (RetQ w (X / Y) (X % Y)):=by
 obtain ⟨hy1,hy0⟩:=pcM_one_lt Y hY
 have c1:=pcmp_sm h1 h2 (by omega) (by omega)
 obtain ⟨z,hz⟩:∃ z,Lib.compareInt X Y=z:=⟨_,rfl⟩
 have hz0:0≤z:=by
   rw [← hz]
   rcases Nat.lt_or_eq_of_le hle with h | h
   · rw [cI_gt (by omega)];decide
   · rw [cI_eq (by omega)];decide
 rw [hz] at c1
 obtain rfl:m=1:=by rw [h2.len,hY]
 have hp:=h2.has
 rw [pcM_small Y hy0 hy1] at hp
 rcases hp with hp | ⟨b,o,rfl,hb0,hc⟩
 · simp at hp
 have hc0:=hc 0 (by simp)
 have C1:=Lib.hid c1
 have H1:=Lib.hid h1
 have HX:Hid ((pcM X).length≤100000):=Lib.hid (by omega)
 have HC0:Hid (w.cell? ⟨b,o+0,none⟩=some (.int .i64 (Y:Int))):=Lib.hid hc0
 have hm:=Nat.mod_lt X (by omega:0 < Y)
 obtain ⟨R,hR⟩:∃ R,X % Y=R:=⟨_,rfl⟩
 obtain ⟨Q,hQ⟩:∃ Q,X / Y=Q:=⟨_,rfl⟩
 have HD:Hid (∀ w,Sm w p n c X→Calls Tryz.prog 163 #[.slice p n c,.int .i64 Y] w fun e w' => ∃ p2 n2 c2,e = .returned (.tuple #[.slice p2 n2 c2,.int .i64 (R:Int)])∧Sm w' p2 n2 c2 Q∧Below w.heap.size w w'):=Lib.hid fun w h=>by
   have:=divS_sm h (by omega) Y (by omega) (by omega)
   rwa [hR,hQ] at this
 rw [hR,hQ]
 rw [hR] at hm
 have hR9:R < 1000000000:=by omega
 clear c1 h1 h2 hX hY hle hc hc0 hz hm hR hQ
 have hb:=Below.refl w.heap.size w
 go_enter Tryz.func133,Tryz.ntmps133
 go_wp2_with (first | (go_at_call 131;refine (chain hb C1.out).mono ?_;clear hb;rintro e w1 ⟨rfl,hb⟩;have k0:=(hb.cell (p:=⟨b,o,none⟩) hb0).trans HC0.out) | (go_at_call 163;refine (HD.out _ (H1.out.below hb)).mono ?_;rintro e w2 ⟨p2,n2,c2,rfl,hs2,hl2⟩;have HS2:=Lib.hid hs2;have HB2:=Lib.hid (hb.trans (hl2.mono hb.size));clear hs2 hl2 hb;refine Hid.out ?_))
 refine Lib.hid ?_
 have hz1:=own_zeros w2 1 (by omega)
 have hh:Has (w2.alloc (.cells #[.int .i64 R] 3)) (some ⟨w2.heap.size,0,none⟩) [(R:Int)]:=by
   refine Or.inr ⟨w2.heap.size,0,rfl,by simp,fun i hi=>?_⟩
   obtain rfl:i=0:=by simpa using hi
   rw [World.cell?_alloc_new];rfl
 have HT:=Lib.hid (trim_any (some ⟨w2.heap.size,0,none⟩) 1 1 [(R:Int)] _ rfl (Nat.le_refl _) (by omega) (fun h=>by cases h) hh)
 have HTE:=Lib.hid (trim_small R hR9)
 have HBA:=Lib.hid ((Below.refl w2.heap.size w2).alloc (Nat.le_refl _) (.cells #[.int .i64 R] 3))
 clear hz1 hh
 go_wp2_with (go_at_call 136;refine HT.out.mono ?_;rintro e w3 ⟨p3,n3,c3,rfl,hr3⟩;have HR3:=Lib.hid hr3;clear hr3)
 go_ret2
 have h9:=HR3.out
 rw [HTE.out] at h9
 have hbz:Below w2.heap.size w2 w3:=HBA.out.trans (h9.2.2.2.2.2.mono HBA.out.size)
 exact ⟨p2,n2,c2,p3,n3,c3,rfl,HS2.out.below hbz,⟨h9.1,h9.2.1,h9.2.2.1,h9.2.2.2.1,h9.2.2.2.2.1⟩,HB2.out.trans (hbz.mono HB2.out.size)⟩
theorem factor_facts (yt:Int) (h0:0≤yt) (h1:yt < 1000000000):∃ F:Nat,1≤F∧F≤1000000000∧(1000000000:Int).tdiv (yt+1)=F:=by
 have f0:1≤1000000000 / (yt+1):=(Int.le_ediv_iff_mul_le (by omega)).2 (by omega)
 have f1:1000000000 / (yt+1)≤1000000000:=Int.ediv_le_self _ (by decide)
 have f2:(1000000000:Int).tdiv (yt+1)=1000000000 / (yt+1):=Int.tdiv_eq_ediv_of_nonneg (by decide)
 rw [f2]
 generalize 1000000000 / (yt+1)=z at f0 f1 ⊢
 exact ⟨z.toNat,by omega,by omega,by omega⟩
theorem neg_le_nat (F:Nat) : -1000000000≤(F:Int):=by omega
theorem own_base {w:World} {B g:Nat} {T:TypeId} {n c:Nat} {xs:List Value} (h:w.ownsRow B T 1 (.slice (some ⟨g,0,none⟩) n c) n xs):w.ownsRow g T 1 (.slice (some ⟨g,0,none⟩) n c) n xs:=by
 obtain ⟨h1,h2⟩:=h
 refine ⟨h1,?_⟩
 rcases h2 with ⟨h2,_⟩ | ⟨g',cap,cur,hv,_,hh,hnc,hm,hsz,ht⟩
 · cases h2
 · injection hv with e1 e2 e3
   injection e1 with e1
   injection e1 with e1
   subst e1
   exact .inr ⟨g,cap,cur,by rw [e3],Nat.le_refl _,hh,hnc,hm,hsz,ht⟩
theorem pcM_top (N k:Nat) (h:(pcM N).length=k+1):1≤(pcM N)[k]?.getD 0:=by
 obtain ⟨⟨h1,h2⟩,_⟩:=pcM_isP N
 rw [List.getLast?_eq_getElem?,h,Nat.add_sub_cancel] at h2
 have h3:k < (pcM N).length:=by omega
 rw [List.getElem?_eq_getElem h3] at h2 ⊢
 have h4:=(h1 _ (List.getElem_mem h3)).1
 show 1≤(pcM N)[k]
 have:(pcM N)[k]≠0:=fun e=>h2 (by rw [e])
 omega
theorem reduce_at (Bu bv ov nv j c d L C:Nat) (pre seg post vs:List Int) (w:World) (hn:2≤nv) (hj:pre.length=j)
   (hs:seg.length=nv+1) (hvl:vs.length=nv) (hml:nv≤300000) (hne:bv≠Bu)
   (hu:RedU pre seg post L C Bu w w) (hcv:∀ i,i < vs.length→w.cell? ⟨bv,ov+i,none⟩=some (.int .i64 (vs[i]?.getD 0)))
   (hsi:Inr 1000000000 seg) (hvi:Inr 1000000000 vs) (hv1:1≤vs[nv - 1]?.getD 0) (U V:Int) (hU:pval 1000000000 seg=U) (hV:pval 1000000000 vs=V) (hlt:U < 1000000000*V) :
   Calls Tryz.prog 164 #[.slice (some ⟨Bu,j,none⟩) (nv+1) c,.slice (some ⟨bv,ov,none⟩) nv d] w fun e w' =>
     ∃ low,e = .returned (.int .i64 (U / V))∧low.length=nv∧Inr 1000000000 low∧pval 1000000000 low=U % V∧RedU pre (low ++ [0]) post L C Bu w w':=by
 obtain ⟨m,rfl⟩:∃ m,nv=m+2:=⟨nv - 2,by omega⟩
 subst hj
 exact reduce_any Bu bv ov m c d L C pre seg post vs w hs hvl (by omega) hne hu hcv hsi hvi hv1 U V hU hV hlt
theorem inr_drop {B:Int} {xs:List Int} (h:Inr B xs) (k:Nat):Inr B (xs.drop k):=fun x hx=>h x (List.mem_of_mem_drop hx)
structure LongAt (us vs:List Int) (V:Int) (L C gu nv nq gq gv k:Nat) (Rl qs post:List Int) (W0 wr:World):Prop where
 le:k≤nq
 rl:Rl.length=nv
 rin:Inr 1000000000 Rl
 ql:qs.length=nq - k
 qin:Inr 1000000000 qs
 sum:pval 1000000000 (us.drop k)=V*pval 1000000000 qs+pval 1000000000 Rl
 rlt:pval 1000000000 Rl < V
 ured:RedU (us.take k) Rl post L C gu wr wr
 qown:wr.ownsRow gq 3 1 (.slice (some ⟨gq,0,none⟩) nq nq) nq (iv (List.replicate k 0 ++ qs))
 vcell:∀ i,i < vs.length→wr.cell? ⟨gv,0+i,none⟩=some (.int .i64 (vs[i]?.getD 0))
 bel:Below W0.heap.size W0 wr
theorem grow_refl (w:World) (r:Option Nat):w.grownBy w r:=⟨rfl,rfl,rfl,Nat.le_refl _,fun _ _ _=>rfl⟩
theorem drop_cons {us:List Int} {j:Nat} (hj:j < us.length):us.drop j=us[j]?.getD 0 :: us.drop (j+1):=by
 rw [List.getElem?_eq_getElem hj];exact (List.getElem_cons_drop hj).symm
theorem LongAt.seg {us vs:List Int} {V:Int} {L C gu nv nq gq gv j:Nat} {Rl qs post:List Int} {W0 wr:World} (h:LongAt us vs V L C gu nv nq gq gv (j+1) Rl qs post W0 wr) (hj:j < us.length) :
   RedU (us.take j) (us[j]?.getD 0 :: Rl) post L C gu wr wr:=by
 have h1:=h.ured.own
 rw [take_last (by omega),List.append_assoc,List.append_assoc] at h1
 refine ⟨?_,grow_refl _ _⟩
 rw [List.append_assoc];exact h1
theorem LongAt.next {us vs:List Int} {V:Int} {L C gu nv nq gq gv j:Nat} {Rl qs post low:List Int} {W0 wr w1:World} (h:LongAt us vs V L C gu nv nq gq gv (j+1) Rl qs post W0 wr) (hj:j < us.length)
   (hus:Inr 1000000000 us) (hV:0 < V) (hne:gq≠gu) (hnv:gv≠gu) (hqv:gv≠gq) (hgu:W0.heap.size≤gu) (hgq:W0.heap.size≤gq)
   (U:Int) (hU:pval 1000000000 (us[j]?.getD 0 :: Rl)=U) (hl:low.length=nv) (hin:Inr 1000000000 low) (hlow:pval 1000000000 low=U % V) (hred:RedU (us.take j) (low ++ [0]) post L C gu wr w1) :
   U < 1000000000*V∧LongAt us vs V L C gu nv nq gq gv j low (U / V :: qs) (0 :: post) W0 (w1.setCell ⟨gq,j,none⟩ (.int .i64 (U / V))):=by
 have hx:=inr_get (by decide:(0:Int) < 1000000000) hus j
 have hU':us[j]?.getD 0+1000000000*pval 1000000000 Rl=U:=hU
 have hr:=h.rlt
 have hlt:U < 1000000000*V:=by omega
 have hR0:=pval_nonneg (by decide:(0:Int) < 1000000000) h.rin
 have hU0:0≤U:=by omega
 have hq0:0≤U / V:=Int.ediv_nonneg hU0 (by omega)
 have hq1:U / V < 1000000000:=Int.ediv_lt_of_lt_mul hV hlt
 refine ⟨hlt,by have:=h.le;omega,hl,hin,by rw [List.length_cons,h.ql];have:=h.le;omega,fun z hz=>?_,?_,by rw [hlow];exact Int.emod_lt_of_pos _ hV,?_,?_,?_,?_⟩
 · rcases List.mem_cons.1 hz with rfl | hz
   · exact ⟨hq0,hq1⟩
   · exact h.qin z hz
 · rw [drop_cons hj,hlow]
   show us[j]?.getD 0+1000000000*pval 1000000000 (us.drop (j+1))=V*(U / V+1000000000*pval 1000000000 qs)+U % V
   have hd:=Int.emod_add_mul_ediv U V
   rw [h.sum,Int.mul_add V,Int.mul_left_comm V]
   omega
 · have hq:=(h.qown.kept hred.gr (Or.inr (by simp [Value.ownBlock,hne])))
   have hs:=(hq.stored j (.int .i64 (U / V))).2
   have h1:=hred.own.kept hs (Or.inr (by simp only [Value.ownBlock];intro e;injection e with e;exact hne e.symm))
   refine ⟨?_,grow_refl _ _⟩
   have e:us.take j ++ low ++ (0 :: post)=us.take j ++ (low ++ [0]) ++ post:=by simp
   rw [e];exact h1
 · have hq:=(h.qown.kept hred.gr (Or.inr (by simp [Value.ownBlock,hne])))
   have hs:=(hq.stored j (.int .i64 (U / V))).1
   rw [iv_set,rep_set] at hs
   exact hs
 · intro i hi
   have h1:=hred.gr.cell (h.vcell i hi) (fun e=>hnv (by injection e))
   rw [World.cell?_setCell_other _ _ _ _ (by intro e;exact hqv (congrArg Addr.block e).symm)]
   exact h1
 · have h1:=h.bel.grown hred.gr h.bel.size (fun k hk=>by injection hk with hk;omega)
   exact h1.setCell (p:=⟨gq,j,none⟩) hgq _
theorem divide_long {p q:Option Addr} {n c d X Y M:Nat} {w:World} (h1:Sm w p n c X) (h2:Sm w q (M+2) d Y) (hX:(pcM X).length≤90000) (hY:(pcM Y).length=M+2) (hY9:M≤90000) (hle:Y≤X) :
   Calls Tryz.prog 133 #[.slice p n c,.slice q (M+2) d] w (RetQ w (X / Y) (X % Y)):=by
 have hY0:Y≠0:=fun e=>by rw [e,pcM_zero] at hY;simp at hY
 have c1:=pcmp_sm h1 h2 (by omega) (by omega)
 obtain ⟨z,hz⟩:∃ z,Lib.compareInt X Y=z:=⟨_,rfl⟩
 have hz0:0≤z:=by
   rw [← hz]
   rcases Nat.lt_or_eq_of_le hle with h | h
   · rw [cI_gt (by omega)];decide
   · rw [cI_eq (by omega)];decide
 rw [hz] at c1
 -- the factor
 obtain ⟨b,o,rfl,hb0,hc⟩:∃ b o,q=some ⟨b,o,none⟩∧b < w.heap.size∧∀ i,i < (pcM Y).length→w.cell? ⟨b,o+i,none⟩=some (.int .i64 ((pcM Y)[i]?.getD 0)):=by
   rcases h2.has with h | h
   · rw [h] at hY;simp at hY
   · exact h
 have hcy:=hc (M+1) (by omega)
 have hyt:=pcM_in Y (M+1)
 obtain ⟨yt,hyte⟩:∃ yt,(pcM Y)[M+1]?.getD 0=yt:=⟨_,rfl⟩
 rw [hyte] at hcy hyt
 obtain ⟨F,hF0,hF1,f2⟩:=factor_facts yt hyt.1 hyt.2
 have f1:(F:Int)≤1000000000:=Int.ofNat_le.2 hF1
 have hyne:(yt+1 == 0)=false:=by rw [beq_eq_false_iff_ne];omega
 have w1':IntKind.i64.wrap (yt+1)=yt+1:=IntWalk.i64_in _ (by omega)
 have w2':wrap64 (F:Int)=F:=IntWalk.wrap64_in _ ⟨by omega,by omega⟩
 have cmb:∀ (g:Option Addr) (k cap Z:Nat) (w:World),Sm w g k cap Z→(pcM Z).length≤100000→Calls Tryz.prog 134 #[.slice g k cap,.int .i64 (F:Int),.slice none 0 0,.int .i64 0] w (RetO w (pcM (F*Z))):=fun g k cap Z w h hZ=>by
   refine combine_own g none k cap 0 0 (pcM Z) [] F 0 w h.len rfl (by rw [h.len];exact hZ) (by decide) h.has (Or.inl rfl) (neg_le_nat F) f1 (by decide) (by decide) (pcM_in Z) (fun j=>by simp) (F*Z) (by rw [(pcM_isP Z).2];simp) ?_
   have a:=pcM_lt Z
   rw [show max k 0+1=(pcM Z).length+1 by rw [h.len];omega,Nat.pow_succ,Nat.mul_comm F]
   exact Nat.mul_lt_mul_of_lt_of_le a hF1 (by decide)
 have cy:∀ w,Sm w (some ⟨b,o,none⟩) (M+2) d Y→(pcM Y).length≤100000→Calls Tryz.prog 134 #[.slice (some ⟨b,o,none⟩) (M+2) d,.int .i64 (F:Int),.slice none 0 0,.int .i64 0] w (RetO w (pcM (F*Y))):=fun w h hl=>cmb _ _ _ _ w h hl
 have cx:∀ w,Sm w p n c X→(pcM X).length≤100000→Calls Tryz.prog 134 #[.slice p n c,.int .i64 (F:Int),.slice none 0 0,.int .i64 0] w (RetO w (pcM (F*X))):=fun w h hl=>cmb _ _ _ _ w h hl
 unfold RetO at cy cx
 have C1:=Lib.hid c1
 have H1:=Lib.hid h1
 have H2:=Lib.hid h2
 have HCY:Hid (w.cell? ⟨b,o+(M+1),none⟩=some (.int .i64 yt)):=Lib.hid hcy
 have hlv:(pcM (F*Y)).length≤M+3:=by
   refine pcM_len _ _ ?_
   have a:=pcM_lt Y
   rw [hY] at a
   rw [Nat.mul_comm,Nat.pow_succ]
   exact Nat.mul_lt_mul_of_lt_of_le a hF1 (by decide)
 have hlx:(pcM (F*X)).length≤90001:=by
   refine Nat.le_trans (pcM_len _ ((pcM X).length+1) ?_) (Nat.succ_le_succ hX)
   have a:=pcM_lt X
   rw [Nat.mul_comm,Nat.pow_succ]
   exact Nat.mul_lt_mul_of_lt_of_le a hF1 (by decide)
 have hle2:F*Y≤F*X:=Nat.mul_le_mul_left _ hle
 have hlv2:=pcM_len_mono hle2
 have hlv3:M+2≤(pcM (F*Y)).length:=by rw [← hY];exact pcM_len_mono (Nat.le_mul_of_pos_left Y hF0)
 obtain ⟨nv,hnv⟩:∃ nv,(pcM (F*Y)).length=nv:=⟨_,rfl⟩
 obtain ⟨lx,hlxe⟩:∃ lx,(pcM (F*X)).length=lx:=⟨_,rfl⟩
 have HX9:Hid ((pcM X).length≤100000):=Lib.hid (by omega)
 have HY9:Hid ((pcM Y).length≤100000):=Lib.hid (by omega)
 rw [hnv] at hlv hlv2 hlv3
 rw [hlxe] at hlx hlv2
 simp only [hnv] at cy
 simp only [hlxe] at cx
 have CY:=Lib.hid cy
 have CX:=Lib.hid cx
 have HNV:=Lib.hid hnv
 have HLX:=Lib.hid hlxe
 have HY:=Lib.hid hY
 have HLE:=Lib.hid hle2
 obtain ⟨i0,hi,hi0,hi1,hi2⟩:=info_parts info3
 clear cmb cy cx c1 h1 h2 hcy hc hz hyte hnv hlxe hX hY hle hle2
 have hb:=Below.refl w.heap.size w
 go_enter Tryz.func133,Tryz.ntmps133
 go_upto_region 9 with (first | (go_at_call 131;refine (chain hb C1.out).mono ?_;clear hb;rintro e wa ⟨rfl,hb⟩;have k0:=(hb.cell (p:=⟨b,o+(M+1),none⟩) hb0).trans HCY.out) | (go_at_call 134;refine (CY.out _ (H2.out.below hb) HY9.out).mono ?_;rintro e wb ⟨gv,cv,rfl,hgv,hov,hbv⟩;have HOV:=Lib.hid hov;have HGV:=Lib.hid hgv;have HBA:=Lib.hid hb;have hb2:=hb.trans (hbv.mono hb.size);have HBV:=Lib.hid hbv;clear hb hov hgv hbv))
 have hgv9:gv < wb.heap.size:=(HOV.out.lt gv rfl).2
 go_upto_region 10 with (first | (go_at_call 134;refine (CX.out _ (H1.out.below hb2) HX9.out).mono ?_;rintro e wc ⟨gx,cx,rfl,hgx,hox,hbx⟩;have HOX:=Lib.hid hox;have HGX:=Lib.hid hgx;have HBX:=Lib.hid hbx;have hb3:=hb2.trans (hbx.mono hb2.size);have HB3:=Lib.hid hb3;clear hb2 hox hgx hbx hb3) | (at_builtin;refine wpList_append_own _ rfl _ _ 135 rfl wb.heap.size 3 i0 (.int .i64 0) 1 8 Tryz.underlying135 hi hi0 hi1 hi2 rfl (by decide) _ _ _ rfl (HOX.out.alloc _) ⟨wc.heap.size,0,none⟩ 1 1 [.int .i64 (0:Int)] rfl rfl ?c1 ?c2 ?c3 ?c4 ?c5 ?_))
 case c1 =>
   intro j u hu
   rcases j with _ | j
   · have:Value.int .i64 0=u:=by simpa using hu
     subst this
     rw [Go.WideShapes.add_plain,World.cell?_alloc_new];rfl
   · simp at hu
 case c2=>simp [Value.oneCell']
 case c3=>unfold maxLen;omega
 case c4=>omega
 case c5=>have:=HBX.out.size;simp only [World.size_alloc];omega
 intro v' w1 hown1 hgrow hnil
 obtain ⟨L,hL⟩:∃ L,lx+1=L:=⟨_,rfl⟩
 rw [hL,iv_snoc] at hown1
 obtain ⟨gu,C,rfl,hgu,hLC,hCm⟩:∃ gu C,v' = .slice (some ⟨gu,0,none⟩) L C∧wb.heap.size≤gu∧L≤C∧C≤9223372036854775807:=by
   rcases hown1.2 with ⟨_,h0⟩ | ⟨g,cap,cur,hv,hg,_,hnc,hm,_⟩
   · omega
   · exact ⟨g,cap,hv,hg,hnc,by unfold maxLen at hm;omega⟩
 obtain ⟨nq,hnq⟩:∃ nq,L - nv=nq:=⟨_,rfl⟩
 have hnq1:1≤nq:=by omega
 have hnqi:(L:Int) - (nv:Int)=(nq:Int):=by omega
 have hmk:∀ w,(Instr.makeSlice 135 (.int .i64 (nq:Int)) (.int .i64 (nq:Int))).run Tryz.prog w = .ok (.slice (some ⟨w.heap.size,0,none⟩) nq nq) (w.alloc (.cells (madeCells #[Value.int .i64 0] nq) 3)):=fun w =>
   make_ints _ Tryz.underlying135 nq nq (Nat.le_refl _) (by omega) w
 have hwr:IntKind.i64.wrap ((L:Int) - (nv:Int))=(nq:Int):=by rw [hnqi];exact IntWalk.i64_in _ (by omega)
 have hnvL:nv+1≤L:=by omega
 have hnq2:nq≤90002:=by omega
 have HOU:=Lib.hid hown1
 have HGR:=Lib.hid hgrow
 have HNQ:=Lib.hid hnq
 have HL:=Lib.hid hL
 have HNQI:=Lib.hid hnqi
 have hmk1:=hmk w1
 obtain ⟨us,hus⟩:∃ us,pcM (F*X) ++ [0]=us:=⟨_,rfl⟩
 obtain ⟨vs,hvs⟩:∃ vs,pcM (F*Y)=vs:=⟨_,rfl⟩
 obtain ⟨gq,hgq⟩:∃ gq,w1.heap.size=gq:=⟨_,rfl⟩
 obtain ⟨V,hVe⟩:∃ V:Int,((F*Y:Nat):Int)=V:=⟨_,rfl⟩
 have husl:us.length=L:=by rw [← hus,List.length_append,HLX.out];exact hL
 have husi:Inr 1000000000 us:=by
   rw [← hus];intro x hx
   rcases List.mem_append.1 hx with h | h
   · exact (pcM_isP _).1.1 x h
   · obtain rfl:x=0:=by simpa using h
     exact ⟨by decide,by decide⟩
 have husv:pval 1000000000 us=((F*X:Nat):Int):=by rw [← hus,pval_append,(pcM_isP _).2];simp [pval]
 have hvsl:vs.length=nv:=by rw [← hvs];exact HNV.out
 have hvsi:Inr 1000000000 vs:=by rw [← hvs];exact (pcM_isP _).1.1
 have hvsv:pval 1000000000 vs=V:=by rw [← hvs,← hVe];exact (pcM_isP _).2
 have hvt:1≤vs[nv - 1]?.getD 0:=by rw [← hvs];exact pcM_top _ _ (by have:=HNV.out;omega)
 have hV0:0 < V:=by rw [← hVe];have:=Nat.mul_pos hF0 (Nat.pos_of_ne_zero hY0);omega
 have hgvu:gv≠gu:=by omega
 have hs1:wc.heap.size+1≤gq:=by have:=hgrow.size;rw [World.size_alloc] at this;omega
 have hbs:=HBX.out.size
 have hgu1:gu < gq:=by rw [← hgq];exact (hown1.lt gu rfl).2
 have hgq9:w.heap.size≤wb.heap.size:=Nat.le_trans HBA.out.size HBV.out.size
 have hq9:(us.drop nq)=(pcM (F*X)).drop nq ++ [0]:=by rw [← hus,List.drop_append_of_le_length (by rw [HLX.out];omega)]
 have hrl:(us.drop nq).length=nv:=by rw [List.length_drop,husl];omega
 have hrlt:pval 1000000000 (us.drop nq) < V:=by
   rw [hq9,pval_append]
   have a1:=pval_lt (by decide:(0:Int) < 1000000000) (inr_drop (pcM_isP (F*X)).1.1 nq)
   rw [List.length_drop,HLX.out,show lx - nq=nv - 1 by omega] at a1
   have a2:=pcM_ge (F*Y) (Nat.mul_ne_zero (by omega) hY0)
   rw [HNV.out] at a2
   have a3:(1000000000:Int) ^ (nv - 1)≤V:=by
     rw [← hVe]
     have:=Int.ofNat_le.2 a2
     rwa [Int.natCast_pow] at this
   rw [show pval 1000000000 [(0:Int)]=0 by simp [pval],Int.mul_zero,Int.add_zero]
   omega
 have hlong:LongAt us vs V L C gu nv nq gq gv nq (us.drop nq) [] [] w (w1.alloc (.cells (madeCells #[Value.int .i64 0] nq) 3)):=by
   refine ⟨Nat.le_refl _,hrl,inr_drop husi _,by simp,fun x hx=>by simp at hx,by simp [pval],hrlt,⟨?_,grow_refl _ _⟩,?_,?_,?_⟩
   · rw [List.take_append_drop,List.append_nil,← hus]
     exact own_base (hown1.alloc _)
   · rw [List.append_nil,← hgq]
     exact own_zeros w1 nq (by omega)
   · intro i hi
     rw [Nat.zero_add,World.cell?_alloc_lt _ _ _ (by show gv < w1.heap.size;omega)]
     refine hgrow.cell ?_ (by intro e;have h9:=HGX.out;injection e with e;change gv=gx at e;omega)
     rw [World.cell?_alloc_lt _ _ _ (by show gv < wc.heap.size;omega),HBX.out.cell (p:=⟨gv,i,none⟩) hgv9,HOV.out.cellAt i (by omega),iv,List.getElem?_map,hvs,List.getElem?_eq_getElem hi];rfl
   · exact ((HB3.out.alloc HB3.out.size _).grown hgrow (by rw [World.size_alloc];have:=HB3.out.size;omega) (fun k hk=>by have h9:=HGX.out;injection hk with hk;change gx=k at hk;omega)).alloc (by omega) _
 rw [hgq] at hmk1
 have HLONG:=Lib.hid hlong
 have HUSL:=Lib.hid husl
 have HUSI:=Lib.hid husi
 have HUSV:=Lib.hid husv
 have HVSL:=Lib.hid hvsl
 have HVSI:=Lib.hid hvsi
 have HVSV:=Lib.hid hvsv
 have HVT:=Lib.hid hvt
 have HVE:=Lib.hid hVe
 clear hown1 hgrow hnil hmk hnq hL hnqi hlong hus hvs husl husi husv hvsl hvsi hvsv hvt hVe hq9 hrl hrlt hgq hbs HOV HOX HGX HBX HB3 HOU
 go_upto_region 11 with fail
 go_wp2
 go_loopw [12] (fun jv wr=>∃ (k:Nat) (Rl qs post:List Int),jv = .int .i64 ((k:Int) - 1)∧LongAt us vs V L C gu nv nq gq gv k Rl qs post w wr) (fun jv _=>(intOf jv+1).toNat)
 case atStart=>exact ⟨nq,_,_,_,by go_num,HLONG.out⟩
 case round =>
   obtain ⟨k,Rl,qs,post,rfl,hG⟩:=hrel
   have HG:=Lib.hid hG
   have hkn:=hG.le
   clear hG HLONG
   by_cases h0:k=0
   · subst h0
     have hsum:=HG.out.sum
     rw [List.drop_zero,HUSV.out] at hsum
     have hue:=(Int.ediv_emod_unique hV0 (a:=((F*X:Nat):Int)) (r:=pval 1000000000 Rl) (q:=pval 1000000000 qs)).2 ⟨by rw [hsum];omega,pval_nonneg (by decide) HG.out.rin,HG.out.rlt⟩
     rw [← HVE.out,← Int.natCast_ediv,← Int.natCast_emod,Nat.mul_div_mul_left _ _ hF0,Nat.mul_mod_mul_left] at hue
     have hhu:Has wr (some ⟨gu,0,none⟩) Rl:=Or.inr ⟨gu,0,rfl,(HG.out.ured.own.lt gu rfl).2,fun i hi=>by
       have:=HG.out.ured.cell hi
       rwa [List.take_zero] at this⟩
     have e1:trimP Rl=pcM (F*(X % Y)):=trim_pcM_of HG.out.rin _ hue.2.symm
     have e2:trimP qs=pcM (X / Y):=trim_pcM_of HG.out.qin _ hue.1.symm
     have ht:=trim_any (some ⟨gu,0,none⟩) nv C Rl wr HG.out.rl.symm (by omega) hCm (fun h=>by cases h) hhu
     rw [e1] at ht
     have hqo:=HG.out.qown
     rw [List.replicate_zero,List.nil_append] at hqo
     have tq:∀ w',Below wr.heap.size wr w'→Calls Tryz.prog 136 #[.slice (some ⟨gq,0,none⟩) nq nq] w' (RetP w' (pcM (X / Y))):=fun w' hb=>by
       have ho:=own_below hqo hb
       have hl:qs.length=nq:=by rw [HG.out.ql];rfl
       obtain ⟨p1,c1,hv1,hnc,hc1,hpn,hh⟩:=has_of_row ho hl
       have hpp:some (⟨gq,0,none⟩:Addr)=p1∧nq=c1:=by injection hv1 with h1 _ h3;exact ⟨h1,h3⟩
       obtain ⟨rfl,rfl⟩:=hpp
       have:=trim_any (some ⟨gq,0,none⟩) nq nq qs w' hl.symm hnc hc1 hpn hh
       rwa [e2] at this
     have hl9:(pcM (F*(X % Y))).length≤100000:=by
       have h1:F*(X % Y)≤F*Y:=Nat.mul_le_mul_left _ (Nat.le_of_lt (Nat.mod_lt _ (Nat.pos_of_ne_zero hY0)))
       have h2:=pcM_len_mono h1
       have:=HNV.out
       omega
     have hnvC:(nv:Int)≤(C:Int):=by omega
     have HT:=Lib.hid ht
     have TQ:=Lib.hid tq
     have HL9:=Lib.hid hl9
     have HBG:=Lib.hid HG.out.bel
     have hed:F*(X % Y) / F=X % Y:=Nat.mul_div_cancel_left _ hF0
     have HED:=Lib.hid hed
     clear hsum hue hhu e1 e2 ht hqo tq hl9 hed
     go_wp2_with (first | (go_at_call 136;first | ((with_reducible refine HT.out.mono ?_);rintro e w4 ⟨p4,n4,c4,rfl,hr4⟩;have HR4:=Lib.hid hr4;clear hr4) | ((with_reducible refine (TQ.out _ HB5.out).mono ?_);rintro e w6 ⟨p6,n6,c6,rfl,hr6⟩;have HR6:=Lib.hid hr6;clear hr6)) | (go_at_call 163;refine (divS_sm (⟨HR4.out.1,HR4.out.2.1,HR4.out.2.2.1,HR4.out.2.2.2.1,HR4.out.2.2.2.2.1⟩:Sm w4 p4 n4 c4 (F*(X % Y))) HL9.out F hF0 hF1).mono ?_;rintro e w5 ⟨p5,n5,c5,rfl,hs5,hb5⟩;have HS5:=Lib.hid hs5;have HB5:=Lib.hid (HR4.out.2.2.2.2.2.trans (hb5.mono HR4.out.2.2.2.2.2.size));clear hs5 hb5))
     go_ret2
     have h9:=HS5.out
     rw [HED.out] at h9
     have h6:=HR6.out
     exact ⟨p6,n6,c6,p5,n5,c5,rfl,⟨h6.1,h6.2.1,h6.2.2.1,h6.2.2.2.1,h6.2.2.2.2.1⟩,h9.below h6.2.2.2.2.2,HBG.out.trans ((HB5.out.trans (h6.2.2.2.2.2.mono HB5.out.size)).mono HBG.out.size)⟩
   · obtain ⟨j,rfl⟩:∃ j,k=j+1:=⟨k - 1,by omega⟩
     have hjL:j < us.length:=by have:=HUSL.out;have:=HNQ.out;omega
     obtain ⟨U,hU⟩:∃ U,pval 1000000000 (us[j]?.getD 0 :: Rl)=U:=⟨_,rfl⟩
     have hsg:=HG.out.seg hjL
     have hlt:U < 1000000000*V:=by
       have hx:=inr_get (by decide:(0:Int) < 1000000000) HUSI.out j
       have hU':us[j]?.getD 0+1000000000*pval 1000000000 Rl=U:=hU
       have:=HG.out.rlt
       omega
     have hpl:(us.take j).length=j:=by rw [List.length_take];omega
     have hic:j+nv+1≤C:=by have:=HNQ.out;omega
     have hsub:j+nv+1 - j=nv+1:=by omega
     have rc:∀ c',Calls Tryz.prog 164 #[.slice (some ⟨gu,j,none⟩) (nv+1) c',.slice (some ⟨gv,0,none⟩) nv cv] wr fun e w' =>
         ∃ low,e = .returned (.int .i64 (U / V))∧low.length=nv∧Inr 1000000000 low∧pval 1000000000 low=U % V∧RedU (us.take j) (low ++ [0]) post L C gu wr w':=fun c' =>
       reduce_at gu gv 0 nv j c' cv L C (us.take j) (us[j]?.getD 0 :: Rl) post vs wr (by omega) hpl (by rw [List.length_cons,HG.out.rl]) HVSL.out (by omega) hgvu hsg HG.out.vcell (by
         intro x hx
         rcases List.mem_cons.1 hx with rfl | hx
         · exact inr_get (by decide) HUSI.out j
         · exact HG.out.rin x hx) HVSI.out HVT.out U V hU HVSV.out hlt
     have RC:=Lib.hid rc
     have HU:=Lib.hid hU
     clear rc hU hsg hlt hpl
     go_wp2_with (go_at_call 164;rw [hsub];refine (RC.out _).mono ?_;rintro e w3 ⟨low,rfl,hll,hli,hlv,hrd⟩;refine Hid.out ?_)
     refine Lib.hid ?_
     have hqo:=HG.out.qown.kept hrd.gr (Or.inr (by simp only [Value.ownBlock];intro e;injection e with e;omega))
     have cq:w3.cell? ⟨gq,j,none⟩=some (.int .i64 0):=by
       rw [hqo.cellAt j (by omega),iv,List.getElem?_map,List.getElem?_append_left (by simp),List.getElem?_eq_getElem (by simp),List.getElem_replicate];rfl
     have fq:=hqo.frozenAt j
     have NX:=Lib.hid (HG.out.next hjL HUSI.out hV0 (by omega) hgvu (by omega) (by omega) (by omega) U HU.out hll hli hlv hrd).2
     clear hqo hll hli hlv hrd
     go_wp2
     exact ⟨⟨j,low,_,_,rfl,NX.out⟩,by simp [intOf]⟩
theorem divide_sm {p q:Option Addr} {n c m d X Y:Nat} {w:World} (h1:Sm w p n c X) (h2:Sm w q m d Y) (hX:(pcM X).length≤90000) (hY:(pcM Y).length≤90000) (hY0:Y≠0) :
   Calls Tryz.prog 133 #[.slice p n c,.slice q m d] w (RetQ w (X / Y) (X % Y)):=by
 by_cases hlt:X < Y
 · exact divide_less h1 h2 hX hY hlt
 · have hl:(pcM Y).length≠0:=fun e=>hY0 (pcM_nil e)
   by_cases hs:(pcM Y).length=1
   · exact divide_short h1 h2 hX hs (by omega)
   · obtain ⟨M,rfl⟩:∃ M,m=M+2:=⟨m - 2,by have:=h2.len;omega⟩
     have hm:=h2.len
     exact divide_long h1 h2 hX hm.symm (by omega) (by omega)
end Go.Proofs.YtpiiclmkbplkhaaGreatDoor.Kl
