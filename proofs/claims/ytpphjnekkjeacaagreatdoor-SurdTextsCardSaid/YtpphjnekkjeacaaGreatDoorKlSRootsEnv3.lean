import Derived.Test.YtpphjnekkjeacaaGreatDoorKlSRootsEnv
import Derived.Test.YtpphjnekkjeacaaGreatDoorKlSRootsVKZ
namespace Go.Proofs.YtpphjnekkjeacaaGreatDoor.Kl
open Go Go.ChangeShapes Go.WideShapes Go.ChangeAt Go.RowKit Go.Lib
set_option maxRecDepth 1000000
set_option maxHeartbeats 8000000
noncomputable def laidWorld (os:Os):World:=
 let N:=(World.settled Tryz.prog os).heap.size
 let w0:=World.holding Tryz.prog os ⟨#[.cells #[.string rangeS] 288,.cells #[.string syntaxS] 288],#[],[]⟩
 let h0:=put w0.heap 3 #[.iface 286 (.pointer (some ⟨N+1,0,none⟩))]
 let h1:=put h0 4 #[.iface 286 (.pointer (some ⟨N,0,none⟩))]
 let h2:=put h1 2 (ints Rows.laid_internal_strconv_uint64pow10).toArray
 let h3:=put h2 0 (ints Rows.laid_klippe_roots_primes).toArray
 let h6:=put h3 5 (ints Rows.laid_math_bits_deBruijn32tab).toArray
 let h7:=put h6 6 (ints Rows.laid_math_bits_deBruijn64tab).toArray
 { w0 with heap:=h7 }
noncomputable def N3 : Nat:=(World.settled Tryz.prog default).heap.size
theorem pieceA (os : Os) (args : Array Value) : LaidIn Tryz.prog ((laidWorld os).forCall (fun _ _ => 0) ⟨#[], args, []⟩).memory [("math/bits.deBruijn32tab", Rows.laid_math_bits_deBruijn32tab), ("math/bits.deBruijn64tab", Rows.laid_math_bits_deBruijn64tab), ("internal/strconv.uint64pow10", Rows.laid_internal_strconv_uint64pow10)] [5, 6, 2] :=
 LaidIn.of_run [5,6,2] 8 (by kernel_rfl) (by kernel_rfl) (by kernel_rfl) (by kernel_rfl)
theorem pieceB (os : Os) (args : Array Value) : LaidIn Tryz.prog ((laidWorld os).forCall (fun _ _ => 0) ⟨#[], args, []⟩).memory [("strconv.ErrRange", Rows.laid_strconv_ErrRange), ("strconv.ErrSyntax", Rows.laid_strconv_ErrSyntax)] [4, N3, 3, N3 + 1] :=
 LaidIn.of_run [4,N3,3,N3+1] 8 (by kernel_rfl) (by kernel_rfl) (by kernel_rfl) (by kernel_rfl)
theorem pieceC (os : Os) (args : Array Value) : LaidIn Tryz.prog ((laidWorld os).forCall (fun _ _ => 0) ⟨#[], args, []⟩).memory [("klippe/roots.primes", Rows.laid_klippe_roots_primes)] [0] :=
 LaidIn.of_run [0] 8 (by kernel_rfl) (by kernel_rfl) (by kernel_rfl) (by kernel_rfl)
theorem gPr : Tryz.prog.globalNamed "klippe/roots.primes" = some 0 := by kernel_rfl
theorem gPrT : (Tryz.prog.globals[0]?).map (·.type)=some 187:=by kernel_rfl
theorem cellsPr : Tryz.prog.cellsOf 187=14:=by kernel_rfl
theorem cellsInt : Tryz.prog.cellsOf 3=1:=by kernel_rfl
theorem laid_met3 (os:Os) (args:Array Value):laidMet Tryz.prog Rows.surdRootsRow.laid ((laidWorld os).forCall (fun _ _=>0) ⟨#[],args,[]⟩).memory:=
 (((pieceA os args).append (pieceB os args) (by kernel_rfl)).append (pieceC os args) (by kernel_rfl)).met
theorem env3_of {W:World} (h:laidMet Tryz.prog Rows.surdRootsRow.laid W):Env W:=by
 have h2:=h.tail.tail
 have h4:=h2.tail
 refine ⟨tabIs_of_head gTab gTabT Tryz.underlying261 Tryz.underlying227 cells121 cells142 h2,?_,?_⟩
 · obtain ⟨a,s,hv,_⟩:=laid_sentinel h4.tail gSyn gSynT Tryz.underlying126 row156 Tryz.underlying286 Tryz.underlying288 rfl rfl Tryz.underlying9 cells158 cells9
   exact ⟨_,_,hv⟩
 · obtain ⟨a,s,hv,_⟩:=laid_sentinel h4 gRng gRngT Tryz.underlying126 row156 Tryz.underlying286 Tryz.underlying288 rfl rfl Tryz.underlying9 cells158 cells9
   exact ⟨_,_,hv⟩
theorem envS_of {W:World} (h:laidMet Tryz.prog Rows.surdRootsRow.laid W) (hSh:W.ShapedOpen Tryz.prog):EnvS W:=by
 have hp : TabIs Tryz.prog W "klippe/roots.primes" .i64 [3, 5, 7, 11, 13, 17, 19, 23, 29, 31, 37, 41, 43, 47] := tabIs_of_head gPr gPrT Tryz.underlying187 Tryz.underlying3 cellsInt cellsPr h.tail.tail.tail.tail.tail
 refine ⟨⟨env3_of h,Tryz.laysM145.s1_3 W hSh⟩,fun k hk=>?_⟩
 rw [World.var?_cell gPr hp k]
 obtain rfl | rfl | rfl | rfl | rfl | rfl | rfl | rfl | rfl | rfl | rfl | rfl | rfl | rfl:k=0∨k=1∨k=2∨k=3∨k=4∨k=5∨k=6∨k=7∨k=8∨k=9∨k=10∨k=11∨k=12∨k=13:=by omega
 all_goals rfl
end Go.Proofs.YtpphjnekkjeacaaGreatDoor.Kl
