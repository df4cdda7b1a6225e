import Derived.Test.YtpiiclmkbplkhaaGreatDoorKlShelf
import Derived.Deep.Strs
import Derived.Test.YtpiiclmkbplkhaaGreatDoorKlBEnv
import Derived.Test.YtpiiclmkbplkhaaGreatDoorKlBVKZ
namespace Go.Proofs.YtpiiclmkbplkhaaGreatDoor.Kl
open Go Go.ChangeShapes Go.WideShapes Go.ChangeAt Go.RowKit Go.Lib
set_option maxRecDepth 1000000
set_option maxHeartbeats 8000000
def leafS : DataW Unit→Value
 | .lit (.string s)=>.string ⟨s.toArray⟩
 | _=>undef
def texts : DataW Unit→List Value
 | .agg l=>l.map leafS
 | _=>[]
noncomputable def laidWorld (os:Os):World:=
 let N:=(World.settled Tryz.prog os).heap.size
 let w0:=World.holding Tryz.prog os ⟨#[.cells #[.string rangeS] 235,.cells #[.string syntaxS] 235],#[],[]⟩
 let h0:=put w0.heap 5 #[.iface 233 (.pointer (some ⟨N+1,0,none⟩))]
 let h1:=put h0 6 #[.iface 233 (.pointer (some ⟨N,0,none⟩))]
 let h2:=put h1 4 (ints Rows.laid_internal_strconv_uint64pow10).toArray
 let h3:=put h2 0 (texts Rows.laid_klippe_vector_zero).toArray
 let h6:=put h3 7 (ints Rows.laid_math_bits_deBruijn32tab).toArray
 let h7:=put h6 8 (ints Rows.laid_math_bits_deBruijn64tab).toArray
 { w0 with heap:=h7 }
noncomputable def N5 : Nat:=(World.settled Tryz.prog default).heap.size
theorem pieceA (os : Os) (args : Array Value) : LaidIn Tryz.prog ((laidWorld os).forCall (fun _ _ => 0) ⟨#[], args, []⟩).memory [("math/bits.deBruijn32tab", Rows.laid_math_bits_deBruijn32tab), ("math/bits.deBruijn64tab", Rows.laid_math_bits_deBruijn64tab), ("internal/strconv.uint64pow10", Rows.laid_internal_strconv_uint64pow10)] [7, 8, 4] :=
 LaidIn.of_run [7,8,4] 8 (by kernel_rfl) (by kernel_rfl) (by kernel_rfl) (by kernel_rfl)
theorem pieceB (os : Os) (args : Array Value) : LaidIn Tryz.prog ((laidWorld os).forCall (fun _ _ => 0) ⟨#[], args, []⟩).memory [("strconv.ErrRange", Rows.laid_strconv_ErrRange), ("strconv.ErrSyntax", Rows.laid_strconv_ErrSyntax)] [6, N5, 5, N5 + 1] :=
 LaidIn.of_run [6,N5,5,N5+1] 8 (by kernel_rfl) (by kernel_rfl) (by kernel_rfl) (by kernel_rfl)
theorem pieceC (os : Os) (args : Array Value) : LaidIn Tryz.prog ((laidWorld os).forCall (fun _ _ => 0) ⟨#[], args, []⟩).memory [("klippe/vector.zero", Rows.laid_klippe_vector_zero)] [0] :=
 LaidIn.of_run [0] 8 (by kernel_rfl) (by kernel_rfl) (by kernel_rfl) (by kernel_rfl)
theorem take_one {l:List Value} {i:Nat} {v:Value} (h:(l.drop i).take 1=[v]):l[i]? = some v:=by
 have:=congrArg (fun x=>x[0]?) h
 simpa using this
theorem zero_cells {W : World} {r : List (String × DataW Unit)} (h : laidMet Tryz.prog (("klippe/vector.zero", Rows.laid_klippe_vector_zero) :: r) W) :
   W.cell? ⟨0,0,none⟩=some (.string ⟨#[48]⟩)∧W.cell? ⟨0,1,none⟩=some (.string ⟨#[48]⟩)∧W.cell? ⟨0,2,none⟩=some (.string ⟨#[48]⟩):=by
 have hg : Tryz.prog.globalNamed "klippe/vector.zero" = some 0 := by kernel_rfl
 have hty:(Tryz.prog.globals[0]?).map (·.type)=some 24:=by kernel_rfl
 have hc : Tryz.prog.cellsOf 22=1:=by kernel_rfl
 obtain ⟨ps,⟨g',t',cs,fuel,p,q,hg',ht',hvar,hd,_,_⟩,_⟩:=h
 obtain rfl:=Option.some.inj (hg.symm.trans hg')
 obtain rfl:=Option.some.inj (hty.symm.trans ht')
 obtain ⟨y0,y1,y2,n,hx,_,e0,e1,e2⟩:=Go.Deep.trod_struct3 Tryz.underlying24 hd
 rw [hc] at e0 e1 e2
 obtain ⟨s0,c0,x0,_⟩:=DataW.trod_string Tryz.underlying22 e0
 obtain ⟨s1,c1,x1,_⟩:=DataW.trod_string Tryz.underlying22 e1
 obtain ⟨s2,c2,x2,_⟩:=DataW.trod_string Tryz.underlying22 e2
 rw [x0,x1,x2] at hx
 have hy:Rows.laid_klippe_vector_zero=(DataW.agg [.lit (.string s0.data.toList),.lit (.string s1.data.toList),.lit (.string s2.data.toList)]:DataW Unit):=congrArg Prod.fst hx
 unfold Rows.laid_klippe_vector_zero at hy
 injection hy with hy
 simp only [List.cons.injEq,DataW.lit.injEq,Lit.string.injEq,and_true] at hy
 obtain ⟨h0,h1,h2⟩:=hy
 have d0:s0=⟨#[48]⟩:=dat_inj h0.symm
 have d1:s1=⟨#[48]⟩:=dat_inj h1.symm
 have d2:s2=⟨#[48]⟩:=dat_inj h2.symm
 subst d0 d1 d2
 refine ⟨?_,?_,?_⟩
 · rw [World.var?_cell hg hvar 0,← take_one c0];simp
 · rw [World.var?_cell hg hvar 1,← take_one c1];simp
 · rw [World.var?_cell hg hvar 2,← take_one c2];simp
theorem laid_met16 (os:Os) (args:Array Value):laidMet Tryz.prog Rows.lineationFormsRow.laid ((laidWorld os).forCall (fun _ _=>0) ⟨#[],args,[]⟩).memory:=
 (((pieceA os args).append (pieceB os args) (by kernel_rfl)).append (pieceC os args) (by kernel_rfl)).met
theorem env16_of {W:World} (h:laidMet Tryz.prog Rows.lineationFormsRow.laid W):Env W:=by
 have h2:=h.tail.tail
 have h4:=h2.tail
 refine ⟨tabIs_of_head gTab gTabT Tryz.underlying223 Tryz.underlying122 cells121 cells142 h2,?_,?_⟩
 · obtain ⟨a,s,hv,_⟩:=laid_sentinel h4.tail gSyn gSynT Tryz.underlying181 row156 Tryz.underlying233 Tryz.underlying235 rfl rfl Tryz.underlying9 cells158 cells9
   exact ⟨_,_,hv⟩
 · obtain ⟨a,s,hv,_⟩:=laid_sentinel h4 gRng gRngT Tryz.underlying181 row156 Tryz.underlying233 Tryz.underlying235 rfl rfl Tryz.underlying9 cells158 cells9
   exact ⟨_,_,hv⟩
theorem envV_of {W:World} (h:laidMet Tryz.prog Rows.lineationFormsRow.laid W) (hSh:W.ShapedOpen Tryz.prog):EnvV W:=by
 obtain ⟨c0,c1,c2⟩:=zero_cells h.tail.tail.tail.tail.tail
 exact ⟨⟨env16_of h,Tryz.laysM145.s1_3 W hSh⟩,c0,c1,c2⟩
end Go.Proofs.YtpiiclmkbplkhaaGreatDoor.Kl
