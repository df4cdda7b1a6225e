import Derived.Deep.RegionWith
import Derived.Test.YtpiiclmkbplkhaaGreatDoorKlBNumb
namespace Go.Proofs.YtpiiclmkbplkhaaGreatDoor.Kl
open Go Go.RowKit
set_option maxRecDepth 100000
set_option maxHeartbeats 8000000
theorem nplus_same (b1 b2:Bool) (p q:Option Addr) (n c m d X Y:Nat) (w:World) (h1:Sm w p n c X) (h2:Sm w q m d Y) (hX:(pcM X).length≤100000) (hY:(pcM Y).length≤100000) (hb:(b1 == b2)=true) :
   Calls Tryz.prog 166 #[.agg #[.bool b1,.slice p n c],.agg #[.bool b2,.slice q m d]] w (RetN w (sgI b1 X+sgI b2 Y)):=by
 have H1:=Lib.hid h1
 have H2:=Lib.hid h2
 clear h1 h2
 go_enter Tryz.func166,Tryz.ntmps166
 go_wp2
 obtain ⟨W3,hW3⟩:∃ W3,((w.alloc (Obj.cells #[Value.bool b1,Value.slice p n c] 137)).alloc (Obj.cells #[Value.bool b2,Value.slice q m d] 137)).alloc (Obj.cells #[Value.bool false,Value.slice none 0 0] 137)=W3:=⟨_,rfl⟩
 have hs3:W3.heap.size=w.heap.size+3:=by rw [← hW3];simp only [World.size_alloc]
 have hh:=heap3 w (Obj.cells #[Value.bool b1,Value.slice p n c] 137) (Obj.cells #[Value.bool b2,Value.slice q m d] 137) (Obj.cells #[Value.bool false,Value.slice none 0 0] 137)
 rw [hW3] at hh ⊢
 have hb3:Below w.heap.size w W3:=by rw [← hW3];exact (((Below.refl _ _).alloc (Nat.le_refl _) _).alloc (by simp) _).alloc (by simp;omega) _
 clear hW3
 have H1:=Lib.hid (H1.out.below hb3)
 have H2:=Lib.hid (H2.out.below hb3)
 obtain ⟨k0,k1,k2⟩:=hh
 have c0:W3.cell? ⟨w.heap.size,0,none⟩=some (Value.bool b1):=zA k0
 have c1:W3.cell? ⟨w.heap.size,1,none⟩=some (Value.slice p n c):=zA k0
 have c2:W3.cell? ⟨w.heap.size+1,1,none⟩=some (Value.slice q m d):=zA k1
 have K0:=Lib.hid k0
 have K2:=Lib.hid k2
 have HS3:=Lib.hid hs3
 have HB3:=Lib.hid hb3
 clear k0 k1 k2 hs3 hb3
 have cc:Calls Tryz.prog 152 #[Value.slice p n c,Value.slice q m d] W3.drew (RetP W3.drew (pcM (X+Y))):=plus_sm (H1.out.below (Below.refl _ _).drew) (H2.out.below (Below.refl _ _).drew) hX hY
 have CC:=Lib.hid cc
 clear cc
 go_region_with (go_at_call 152;refine CC.out.mono ?_;rintro e w5 ⟨r5,n5,c5,rfl,hr5⟩;have HR:=Lib.hid hr5;clear hr5;have a5:w5.heap[w.heap.size+2]? = some (Obj.cells #[Value.bool false,Value.slice none 0 0] 137 (0,0)):=(HR.out.2.2.2.2.2.block _ (by have:=HS3.out;show w.heap.size+2 < W3.heap.size;omega)).trans K2.out;have b5:w5.cell? ⟨w.heap.size,0,none⟩=some (Value.bool b1):=zA ((HR.out.2.2.2.2.2.block _ (by have:=HS3.out;show w.heap.size < W3.heap.size;omega)).trans K0.out);have e0:w5.cell? ⟨w.heap.size+1+1,0,none⟩=some (Value.bool false):=zA a5;have e1:w5.cell? ⟨w.heap.size+1+1,1,none⟩=some (Value.slice none 0 0):=zA a5;have f0:w5.frozen? ⟨w.heap.size+1+1,0,none⟩=false:=zD a5;have f1:w5.frozen? ⟨w.heap.size+1+1,1,none⟩=false:=zD a5;have A5:=Lib.hid a5;clear a5)
 all_goals
   go_wp2
   have G:=(show Sm w5 r5 n5 c5 (X+Y) from ⟨HR.out.1,HR.out.2.1,HR.out.2.2.1,HR.out.2.2.2.1,HR.out.2.2.2.2.1⟩)
   refine bodyPost_ret (v:=.agg #[.bool b1,.slice r5 n5 c5]) (by simp [results,Tryz.results166,go_sem,e0,e1]) rfl ⟨b1,r5,n5,c5,X+Y,rfl,?_,?_,?_⟩
   · exact (G.setNum A5.out _ _).setNum (num_set0 A5.out) _ _
   · (obtain rfl:b1=b2:=by simpa using hb);cases b1 <;> (unfold sgI;simp;try omega)
   · exact ((HB3.out.drew.trans (HR.out.2.2.2.2.2.mono (by have:=HS3.out;show w.heap.size≤W3.heap.size;omega))).setCell (by show w.heap.size≤w.heap.size+1+1;omega) _).setCell (by show w.heap.size≤w.heap.size+1+1;omega) _
theorem nplus_diff_ge (b1 b2:Bool) (p q:Option Addr) (n c m d X Y:Nat) (w:World) (h1:Sm w p n c X) (h2:Sm w q m d Y) (hX:(pcM X).length≤100000) (hY:(pcM Y).length≤100000) (hb:(b1 == b2)=false) (hle:Y≤X) :
   Calls Tryz.prog 166 #[.agg #[.bool b1,.slice p n c],.agg #[.bool b2,.slice q m d]] w (RetN w (sgI b1 X+sgI b2 Y)):=by
 obtain ⟨v,hv,hvv⟩:∃ v:Int,Lib.compareInt X Y=v∧0≤v:=by
   unfold Lib.compareInt
   rw [if_neg (by omega)];split <;> exact ⟨_,rfl,by decide⟩
 have H1:=Lib.hid h1
 have H2:=Lib.hid h2
 clear h1 h2
 have kc:∀ w',Below w.heap.size w w'→Calls Tryz.prog 131 #[.slice p n c,.slice q m d] w' fun e w'' => e = .returned (.int .i64 v)∧Below w'.heap.size w' w'':=fun w' hb=>by
   have:=pcmp_sm (H1.out.below hb) (H2.out.below hb) hX hY;rwa [hv] at this
 have KC:=Lib.hid kc
 clear kc hv
 go_enter Tryz.func166,Tryz.ntmps166
 have hb0:Below w.heap.size w (((w.alloc (Obj.cells #[Value.bool b1,Value.slice p n c] 137)).alloc (Obj.cells #[Value.bool b2,Value.slice q m d] 137)).alloc (Obj.cells #[Value.bool false,Value.slice none 0 0] 137)):=
   (((Below.refl _ _).alloc (Nat.le_refl _) _).alloc (by simp) _).alloc (by simp;omega) _
 have hh:=heap3 w (Obj.cells #[Value.bool b1,Value.slice p n c] 137) (Obj.cells #[Value.bool b2,Value.slice q m d] 137) (Obj.cells #[Value.bool false,Value.slice none 0 0] 137)
 have HH0:=Lib.hid hh
 have HB0:=Lib.hid hb0
 clear hh hb0
 go_wp2_with (go_at_call 131;refine (KC.out _ HB0.out).mono ?_;rintro e W3 ⟨rfl,hbc⟩;have HBC:=Lib.hid hbc;clear hbc;refine Hid.out ?_)
 refine Lib.hid ?_
 have hs0:(((w.alloc (Obj.cells #[Value.bool b1,Value.slice p n c] 137)).alloc (Obj.cells #[Value.bool b2,Value.slice q m d] 137)).alloc (Obj.cells #[Value.bool false,Value.slice none 0 0] 137)).heap.size=w.heap.size+3:=by simp only [World.size_alloc]
 have hs3:w.heap.size+3≤W3.heap.size:=by have:=HBC.out.size;rw [hs0] at this;exact this
 have hb3:Below w.heap.size w W3:=HB0.out.trans (HBC.out.mono (by rw [hs0];omega))
 have k0:W3.heap[w.heap.size]? = some (Obj.cells #[Value.bool b1,Value.slice p n c] 137):=(HBC.out.block _ (by rw [hs0];omega)).trans HH0.out.1
 have k1:W3.heap[w.heap.size+1]? = some (Obj.cells #[Value.bool b2,Value.slice q m d] 137):=(HBC.out.block _ (by rw [hs0];omega)).trans HH0.out.2.1
 have k2:W3.heap[w.heap.size+2]? = some (Obj.cells #[Value.bool false,Value.slice none 0 0] 137):=(HBC.out.block _ (by rw [hs0];omega)).trans HH0.out.2.2
 clear HBC HB0 HH0 hs0 KC
 have H1:=Lib.hid (H1.out.below hb3)
 have H2:=Lib.hid (H2.out.below hb3)
 go_wp2
 have c0:W3.cell? ⟨w.heap.size,0,none⟩=some (Value.bool b1):=zA k0
 have c1:W3.cell? ⟨w.heap.size,1,none⟩=some (Value.slice p n c):=zA k0
 have c2:W3.cell? ⟨w.heap.size+1,1,none⟩=some (Value.slice q m d):=zA k1
 have K0:=Lib.hid k0
 have K2:=Lib.hid k2
 have HS3:=Lib.hid hs3
 have HB3:=Lib.hid hb3
 clear k0 k1 k2 hs3 hb3
 have cc:Calls Tryz.prog 153 #[Value.slice p n c,Value.slice q m d] W3.drew (RetP W3.drew (pcM (X - Y))):=less_sm (H1.out.below (Below.refl _ _).drew) (H2.out.below (Below.refl _ _).drew) hX hY hle
 have CC:=Lib.hid cc
 clear cc
 go_region_with (go_at_call 153;refine CC.out.mono ?_;rintro e w5 ⟨r5,n5,c5,rfl,hr5⟩;have HR:=Lib.hid hr5;clear hr5;have a5:w5.heap[w.heap.size+2]? = some (Obj.cells #[Value.bool false,Value.slice none 0 0] 137 (0,0)):=(HR.out.2.2.2.2.2.block _ (by have:=HS3.out;show w.heap.size+2 < W3.heap.size;omega)).trans K2.out;have b5:w5.cell? ⟨w.heap.size,0,none⟩=some (Value.bool b1):=zA ((HR.out.2.2.2.2.2.block _ (by have:=HS3.out;show w.heap.size < W3.heap.size;omega)).trans K0.out);have e0:w5.cell? ⟨w.heap.size+1+1,0,none⟩=some (Value.bool false):=zA a5;have e1:w5.cell? ⟨w.heap.size+1+1,1,none⟩=some (Value.slice none 0 0):=zA a5;have f0:w5.frozen? ⟨w.heap.size+1+1,0,none⟩=false:=zD a5;have f1:w5.frozen? ⟨w.heap.size+1+1,1,none⟩=false:=zD a5;have A5:=Lib.hid a5;clear a5)
 all_goals
   go_wp2
   have G:=(show Sm w5 r5 n5 c5 (X - Y) from ⟨HR.out.1,HR.out.2.1,HR.out.2.2.1,HR.out.2.2.2.1,HR.out.2.2.2.2.1⟩)
   refine bodyPost_ret (v:=.agg #[.bool b1,.slice r5 n5 c5]) (by simp [results,Tryz.results166,go_sem,e0,e1]) rfl ⟨b1,r5,n5,c5,X - Y,rfl,?_,?_,?_⟩
   · exact (G.setNum A5.out _ _).setNum (num_set0 A5.out) _ _
   · have hne:b1≠b2:=by simpa using hb
     cases b1 <;> cases b2 <;> first | exact absurd rfl hne | (unfold sgI;simp;omega)
   · exact ((HB3.out.drew.trans (HR.out.2.2.2.2.2.mono (by have:=HS3.out;show w.heap.size≤W3.heap.size;omega))).setCell (by show w.heap.size≤w.heap.size+1+1;omega) _).setCell (by show w.heap.size≤w.heap.size+1+1;omega) _
theorem nplus_diff_lt (b1 b2:Bool) (p q:Option Addr) (n c m d X Y:Nat) (w:World) (h1:Sm w p n c X) (h2:Sm w q m d Y) (hX:(pcM X).length≤100000) (hY:(pcM Y).length≤100000) (hb:(b1 == b2)=false) (hle:X < Y) :
   Calls Tryz.prog 166 #[.agg #[.bool b1,.slice p n c],.agg #[.bool b2,.slice q m d]] w (RetN w (sgI b1 X+sgI b2 Y)):=by
 obtain ⟨v,hv,hvv⟩:∃ v:Int,Lib.compareInt X Y=v∧v < 0:=by
   unfold Lib.compareInt
   rw [if_pos (by omega)];exact ⟨_,rfl,by decide⟩
 have H1:=Lib.hid h1
 have H2:=Lib.hid h2
 clear h1 h2
 have kc:∀ w',Below w.heap.size w w'→Calls Tryz.prog 131 #[.slice p n c,.slice q m d] w' fun e w'' => e = .returned (.int .i64 v)∧Below w'.heap.size w' w'':=fun w' hb=>by
   have:=pcmp_sm (H1.out.below hb) (H2.out.below hb) hX hY;rwa [hv] at this
 have KC:=Lib.hid kc
 clear kc hv
 go_enter Tryz.func166,Tryz.ntmps166
 have hb0:Below w.heap.size w (((w.alloc (Obj.cells #[Value.bool b1,Value.slice p n c] 137)).alloc (Obj.cells #[Value.bool b2,Value.slice q m d] 137)).alloc (Obj.cells #[Value.bool false,Value.slice none 0 0] 137)):=
   (((Below.refl _ _).alloc (Nat.le_refl _) _).alloc (by simp) _).alloc (by simp;omega) _
 have hh:=heap3 w (Obj.cells #[Value.bool b1,Value.slice p n c] 137) (Obj.cells #[Value.bool b2,Value.slice q m d] 137) (Obj.cells #[Value.bool false,Value.slice none 0 0] 137)
 have HH0:=Lib.hid hh
 have HB0:=Lib.hid hb0
 clear hh hb0
 go_wp2_with (go_at_call 131;refine (KC.out _ HB0.out).mono ?_;rintro e W3 ⟨rfl,hbc⟩;have HBC:=Lib.hid hbc;clear hbc;refine Hid.out ?_)
 refine Lib.hid ?_
 have hs0:(((w.alloc (Obj.cells #[Value.bool b1,Value.slice p n c] 137)).alloc (Obj.cells #[Value.bool b2,Value.slice q m d] 137)).alloc (Obj.cells #[Value.bool false,Value.slice none 0 0] 137)).heap.size=w.heap.size+3:=by simp only [World.size_alloc]
 have hs3:w.heap.size+3≤W3.heap.size:=by have:=HBC.out.size;rw [hs0] at this;exact this
 have hb3:Below w.heap.size w W3:=HB0.out.trans (HBC.out.mono (by rw [hs0];omega))
 have k0:W3.heap[w.heap.size]? = some (Obj.cells #[Value.bool b1,Value.slice p n c] 137):=(HBC.out.block _ (by rw [hs0];omega)).trans HH0.out.1
 have k1:W3.heap[w.heap.size+1]? = some (Obj.cells #[Value.bool b2,Value.slice q m d] 137):=(HBC.out.block _ (by rw [hs0];omega)).trans HH0.out.2.1
 have k2:W3.heap[w.heap.size+2]? = some (Obj.cells #[Value.bool false,Value.slice none 0 0] 137):=(HBC.out.block _ (by rw [hs0];omega)).trans HH0.out.2.2
 clear HBC HB0 HH0 hs0 KC
 have H1:=Lib.hid (H1.out.below hb3)
 have H2:=Lib.hid (H2.out.below hb3)
 have c0:W3.cell? ⟨w.heap.size,0,none⟩=some (Value.bool b1):=zA k0
 have c1:W3.cell? ⟨w.heap.size,1,none⟩=some (Value.slice p n c):=zA k0
 have d0:W3.cell? ⟨w.heap.size+1,0,none⟩=some (Value.bool b2):=zA k1
 have d1:W3.cell? ⟨w.heap.size+1,1,none⟩=some (Value.slice q m d):=zA k1
 have g0:W3.frozen? ⟨w.heap.size,0,none⟩=false:=zD k0
 have g1:W3.frozen? ⟨w.heap.size,1,none⟩=false:=zD k0
 have g2:W3.frozen? ⟨w.heap.size+1,0,none⟩=false:=zD k1
 have g3:W3.frozen? ⟨w.heap.size+1,1,none⟩=false:=zD k1
 have K0:=Lib.hid k0
 have K1:=Lib.hid k1
 have K2:=Lib.hid k2
 clear k0 k1 k2
 go_wp2
 obtain ⟨WA,hWA⟩:∃ WA,(W3.setCell ⟨w.heap.size,0,none⟩ (Value.bool b2)).setCell ⟨w.heap.size,1,none⟩ (Value.slice q m d)=WA:=⟨_,rfl⟩
 have i0:WA.heap[w.heap.size]? = some (Obj.cells #[Value.bool b2,Value.slice q m d] 137 (0,0)):=by rw [← hWA];exact num_set1 (num_set0 K0.out)
 have i1:WA.heap[w.heap.size+1]? = some (Obj.cells #[Value.bool b2,Value.slice q m d] 137 (0,0)):=by rw [← hWA,heap_set_other _ _ _ _ _ (by omega),heap_set_other _ _ _ _ _ (by omega)];exact K1.out
 have i2:WA.heap[w.heap.size+2]? = some (Obj.cells #[Value.bool false,Value.slice none 0 0] 137 (0,0)):=by rw [← hWA,heap_set_other _ _ _ _ _ (by omega),heap_set_other _ _ _ _ _ (by omega)];exact K2.out
 have S1:Sm WA p n c X:=by rw [← hWA];exact (H1.out.setNum K0.out _ _).setNum (num_set0 K0.out) _ _
 have S2:Sm WA q m d Y:=by rw [← hWA];exact (H2.out.setNum K0.out _ _).setNum (num_set0 K0.out) _ _
 have bA:Below w.heap.size w WA:=by rw [← hWA];exact (hb3.setCell (p:=⟨w.heap.size,0,none⟩) (Nat.le_refl _) _).setCell (p:=⟨w.heap.size,1,none⟩) (Nat.le_refl _) _
 have sA:w.heap.size+3≤WA.heap.size:=by rw [← hWA];simp only [World.size_setCell];exact hs3
 rw [hWA]
 clear hWA c0 c1 d0 d1 g0 g1 g2 g3 hs3 hb3
 obtain ⟨W8,hW8⟩:∃ W8,(WA.setCell ⟨w.heap.size+1,0,none⟩ (Value.bool b1)).setCell ⟨w.heap.size+1,1,none⟩ (Value.slice p n c)=W8:=⟨_,rfl⟩
 have k0:W8.heap[w.heap.size]? = some (Obj.cells #[Value.bool b2,Value.slice q m d] 137 (0,0)):=by rw [← hW8,heap_set_other _ _ _ _ _ (by omega),heap_set_other _ _ _ _ _ (by omega)];exact i0
 have k1:W8.heap[w.heap.size+1]? = some (Obj.cells #[Value.bool b1,Value.slice p n c] 137 (0,0)):=by rw [← hW8];exact num_set1 (num_set0 i1)
 have k2:W8.heap[w.heap.size+2]? = some (Obj.cells #[Value.bool false,Value.slice none 0 0] 137 (0,0)):=by rw [← hW8,heap_set_other _ _ _ _ _ (by omega),heap_set_other _ _ _ _ _ (by omega)];exact i2
 have H1:Hid (Sm W8 p n c X):=Lib.hid (by rw [← hW8];exact (S1.setNum i1 _ _).setNum (num_set0 i1) _ _)
 have H2:Hid (Sm W8 q m d Y):=Lib.hid (by rw [← hW8];exact (S2.setNum i1 _ _).setNum (num_set0 i1) _ _)
 have hb3:Below w.heap.size w W8:=by rw [← hW8];exact (bA.setCell (p:=⟨w.heap.size+1,0,none⟩) (by show w.heap.size≤w.heap.size+1;omega) _).setCell (p:=⟨w.heap.size+1,1,none⟩) (by show w.heap.size≤w.heap.size+1;omega) _
 have hs3:w.heap.size+3≤W8.heap.size:=by rw [← hW8];simp only [World.size_setCell];exact sA
 rw [hW8]
 clear hW8 i0 i1 i2 S1 S2 bA sA
 have c0:W8.cell? ⟨w.heap.size,0,none⟩=some (Value.bool b2):=zA k0
 have c1:W8.cell? ⟨w.heap.size,1,none⟩=some (Value.slice q m d):=zA k0
 have c2:W8.cell? ⟨w.heap.size+1,1,none⟩=some (Value.slice p n c):=zA k1
 have K0:=Lib.hid k0
 have K2:=Lib.hid k2
 have HS3:=Lib.hid hs3
 have HB3:=Lib.hid hb3
 clear k0 k1 k2 hs3 hb3
 have cc:Calls Tryz.prog 153 #[Value.slice q m d,Value.slice p n c] W8.drew (RetP W8.drew (pcM (Y - X))):=less_sm (H2.out.below (Below.refl _ _).drew) (H1.out.below (Below.refl _ _).drew) hY hX (Nat.le_of_lt hle)
 have CC:=Lib.hid cc
 clear cc
 go_region_with (go_at_call 153;refine CC.out.mono ?_;rintro e w5 ⟨r5,n5,c5,rfl,hr5⟩;have HR:=Lib.hid hr5;clear hr5;have a5:w5.heap[w.heap.size+2]? = some (Obj.cells #[Value.bool false,Value.slice none 0 0] 137 (0,0)):=(HR.out.2.2.2.2.2.block _ (by have:=HS3.out;show w.heap.size+2 < W8.heap.size;omega)).trans K2.out;have b5:w5.cell? ⟨w.heap.size,0,none⟩=some (Value.bool b2):=zA ((HR.out.2.2.2.2.2.block _ (by have:=HS3.out;show w.heap.size < W8.heap.size;omega)).trans K0.out);have e0:w5.cell? ⟨w.heap.size+1+1,0,none⟩=some (Value.bool false):=zA a5;have e1:w5.cell? ⟨w.heap.size+1+1,1,none⟩=some (Value.slice none 0 0):=zA a5;have f0:w5.frozen? ⟨w.heap.size+1+1,0,none⟩=false:=zD a5;have f1:w5.frozen? ⟨w.heap.size+1+1,1,none⟩=false:=zD a5;have A5:=Lib.hid a5;clear a5)
 all_goals
   go_wp2
   have G:=(show Sm w5 r5 n5 c5 (Y - X) from ⟨HR.out.1,HR.out.2.1,HR.out.2.2.1,HR.out.2.2.2.1,HR.out.2.2.2.2.1⟩)
   refine bodyPost_ret (v:=.agg #[.bool b2,.slice r5 n5 c5]) (by simp [results,Tryz.results166,go_sem,e0,e1]) rfl ⟨b2,r5,n5,c5,Y - X,rfl,?_,?_,?_⟩
   · exact (G.setNum A5.out _ _).setNum (num_set0 A5.out) _ _
   · have hne:b1≠b2:=by simpa using hb
     cases b1 <;> cases b2 <;> first | exact absurd rfl hne | (unfold sgI;simp;omega)
   · exact ((HB3.out.drew.trans (HR.out.2.2.2.2.2.mono (by have:=HS3.out;show w.heap.size≤W8.heap.size;omega))).setCell (by show w.heap.size≤w.heap.size+1+1;omega) _).setCell (by show w.heap.size≤w.heap.size+1+1;omega) _
theorem nplus_any (b1 b2:Bool) (p q:Option Addr) (n c m d X Y:Nat) (w:World) (h1:Sm w p n c X) (h2:Sm w q m d Y) (hX:(pcM X).length≤100000) (hY:(pcM Y).length≤100000) :
   Calls Tryz.prog 166 #[.agg #[.bool b1,.slice p n c],.agg #[.bool b2,.slice q m d]] w (RetN w (sgI b1 X+sgI b2 Y)):=by
 cases h:(b1 == b2) with
 | true=>exact nplus_same b1 b2 p q n c m d X Y w h1 h2 hX hY h
 | false =>
   by_cases hle:Y≤X
   · exact nplus_diff_ge b1 b2 p q n c m d X Y w h1 h2 hX hY h hle
   · exact nplus_diff_lt b1 b2 p q n c m d X Y w h1 h2 hX hY h (by omega)
end Go.Proofs.YtpiiclmkbplkhaaGreatDoor.Kl
