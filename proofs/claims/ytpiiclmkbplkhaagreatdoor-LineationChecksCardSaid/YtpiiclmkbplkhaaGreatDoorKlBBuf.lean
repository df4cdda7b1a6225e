import Derived.Lib.AppendStr
import Derived.Lib.BufferRead
import Derived.Shelf.Strconv.AppendIntPublic10
import Derived.Test.YtpiiclmkbplkhaaGreatDoorKlBGiveZ
namespace Go.Proofs.YtpiiclmkbplkhaaGreatDoor.Kl
open Go Go.RowKit Go.Sort
set_option maxRecDepth 100000
set_option maxHeartbeats 8000000
def Buf (w:World) (g:Nat) (T:TypeId) (cap:Nat) (l:List UInt8):Prop:=
 ∃ cur,w.heap[g]? = some (.cells cur T (0,0))∧cur.size=cap∧cur.toList.take l.length=Lib.byteCells l
theorem Buf.lt {w:World} {g:Nat} {T:TypeId} {cap:Nat} {l:List UInt8} (h:Buf w g T cap l):g < w.heap.size:=by
 obtain ⟨cur,hg,_⟩:=h
 rcases Nat.lt_or_ge g w.heap.size with h1 | h1
 · exact h1
 · rw [Array.getElem?_eq_none h1] at hg;cases hg
theorem Buf.kept {w w':World} {g:Nat} {T:TypeId} {cap:Nat} {l:List UInt8} (h:Buf w g T cap l) (hb:w'.heap[g]? = w.heap[g]?):Buf w' g T cap l:=by
 obtain ⟨cur,hg,h2⟩:=h
 exact ⟨cur,hb.trans hg,h2⟩
theorem Buf.drew {w:World} {g:Nat} {T:TypeId} {cap:Nat} {l:List UInt8} (h:Buf w g T cap l):Buf w.drew g T cap l:=h
theorem buf_more {w:World} {g:Nat} {T:TypeId} {cap:Nat} {l:List UInt8} (m:List UInt8) {cur:Array Value} (hg:w.heap[g]? = some (.cells cur T (0,0))) (hc:cur.size=cap) (ht:cur.toList.take l.length=Lib.byteCells l) (hroom:l.length+m.length≤cap) :
   Buf (w.setRow g (cur.toList.take l.length ++ Lib.byteCells m ++ cur.toList.drop (l.length+m.length)).toArray) g T cap (l ++ m) ∧
   w.grownBy (w.setRow g (cur.toList.take l.length ++ Lib.byteCells m ++ cur.toList.drop (l.length+m.length)).toArray) (some g):=by
 have hm:(Lib.byteCells m).length=m.length:=Lib.byteCells_length m
 have hl:(Lib.byteCells l).length=l.length:=Lib.byteCells_length l
 refine ⟨⟨_,setRow_heap w g cur _ T _ hg,?_,?_⟩,⟨rfl,rfl,rfl,by simp,fun k _ hk=>setRow_other w g k _ (fun e=>hk (by rw [e]))⟩⟩
 · simp only [List.size_toArray,List.length_append,List.length_take,List.length_drop,Array.length_toList,hm]
   omega
 · rw [ht]
   show ((Lib.byteCells l ++ Lib.byteCells m) ++ _).take (l ++ m).length=Lib.byteCells (l ++ m)
   rw [show Lib.byteCells (l ++ m)=Lib.byteCells l ++ Lib.byteCells m by simp [Lib.byteCells]]
   rw [show (l ++ m).length=(Lib.byteCells l ++ Lib.byteCells m).length by rw [List.length_append,List.length_append,hm,hl]]
   exact List.take_left
theorem cells_one (m:List UInt8):∀ u ∈ Lib.byteCells m,u.oneCell'=true:=by
 intro u hu
 simp only [Lib.byteCells,List.mem_map] at hu
 obtain ⟨b,_,rfl⟩:=hu
 rfl
theorem retSl {p:Option Addr} {a b c:Nat} (h:a=b):Ending.returned (.slice p a c) = .returned (.slice p b c):=by rw [h]
section
variable {P:Program} (w:World)
theorem run_buf_append (t ty e:TypeId) (i:TypeInfo) (ht:P.underlying t=some (.slice e)) (hi:P.info? e=some i) (hs1:i.size=1)
   (g cap:Nat) (T:TypeId) (l m:List UInt8) (cur:Array Value) (hg:w.heap[g]? = some (.cells cur T (0,0))) (hc:cur.size=cap) (a:Addr) (c:Nat)
   (hnews:∀ j u,(Lib.byteCells m)[j]? = some u→w.cell? (a.add j)=some u) (hroom:l.length+m.length≤cap) :
   (Builtin.append_ #[t,t] ty #[.slice (some ⟨g,0,none⟩) l.length cap,.slice (some a) m.length c]).run P w =
     .ok (.slice (some ⟨g,0,none⟩) (l.length+m.length) cap) (w.setRow g (cur.toList.take l.length ++ Lib.byteCells m ++ cur.toList.drop (l.length+m.length)).toArray):=by
 have hm:(Lib.byteCells m).length=m.length:=Lib.byteCells_length m
 have hf:=run_firstCells_some (P:=P) w 1 m.length a m.length c (Lib.byteCells m) (by rw [hm,Nat.mul_one]) hnews
 have hst:=run_storeCells_at P g l.length T (Lib.byteCells m) 0 cur w hg (by rw [hm];omega) (cells_one m)
 simp only [Nat.add_zero,hm] at hst
 simp [Builtin.append_,run_underlying ht,sizeOf,typeInfo,hi,hs1,Builtin.lenOf,hroom,hf,Addr.add_lit,hst]
theorem run_buf_append_str (t u ty e:TypeId) (i:TypeInfo) (ht:P.underlying t=some (.slice e)) (hu:P.underlying u=some .string) (hi:P.info? e=some i) (hs1:i.size=1)
   (g cap:Nat) (T:TypeId) (l m:List UInt8) (cur:Array Value) (hg:w.heap[g]? = some (.cells cur T (0,0))) (hc:cur.size=cap) (hroom:l.length+m.length≤cap) :
   (Builtin.append_ #[t,u] ty #[.slice (some ⟨g,0,none⟩) l.length cap,.string (strOf m)]).run P w =
     .ok (.slice (some ⟨g,0,none⟩) (l.length+m.length) cap) (w.setRow g (cur.toList.take l.length ++ Lib.byteCells m ++ cur.toList.drop (l.length+m.length)).toArray):=by
 have hm:(Lib.byteCells m).length=m.length:=Lib.byteCells_length m
 have hsz:(strOf m).size=m.length:=strOf_size m
 have hf:=Lib.run_firstCells_string (P:=P) w 1 (strOf m)
 have hsc:Lib.strCells (strOf m)=Lib.byteCells m:=rfl
 rw [hsc,hsz] at hf
 have hst:=run_storeCells_at P g l.length T (Lib.byteCells m) 0 cur w hg (by rw [hm];omega) (cells_one m)
 simp only [Nat.add_zero,hm] at hst
 simp [Builtin.append_,run_underlying ht,run_underlying hu,sizeOf,typeInfo,hi,hs1,Builtin.lenOf,hsz,hroom,hf,Addr.add_lit,hst]
theorem wpBuf_append {ops:Array Oper} {rest:List Oper} {o:Oper} {a:Act} {Q:Exit→Act→World→Prop} (hgd:o.guard=none) (s x:Operand) (t:TypeId)
   (ho:o.op = .call { callee:=.builtin .append,args:=#[s,x],argTypes:=#[t,t] }) (e:TypeId) (i:TypeInfo) (ht:P.underlying t=some (.slice e)) (hi:P.info? e=some i) (hs1:i.size=1)
   (g cap:Nat) (T:TypeId) (l m:List UInt8) (hs:a.eval s = .slice (some ⟨g,0,none⟩) l.length cap) (hb:Buf w g T cap l) (ad:Addr) (c:Nat) (hx:a.eval x = .slice (some ad) m.length c)
   (hnews:∀ j u,(Lib.byteCells m)[j]? = some u→w.cell? (ad.add j)=some u) (hroom:l.length+m.length≤cap)
   (h:∀ w',Buf w' g T cap (l ++ m)→w.grownBy w' (some g)→wpList P ops Q rest (a.put o.dst (.slice (some ⟨g,0,none⟩) (l.length+m.length) cap)) w'):wpList P ops Q (o :: rest) a w:=by
 obtain ⟨cur,hg,hc,htk⟩:=hb
 refine wpList_plain hgd fun K hK=>?_
 have hr:=run_buf_append (P:=P) w t o.type e i ht hi hs1 g cap T l m cur hg hc ad c hnews hroom
 obtain ⟨h2,h3⟩:=buf_more m hg hc htk hroom
 unfold Oper.wp execOp
 simp only [ho,resolve,invoke,builtin,Sem.run_bind,Sem.run_pure,Result.andThen_ok,List.map_toArray,List.map_cons,List.map_nil,hs,hx,hr]
 exact hK _ _ (h _ h2 h3)
theorem wpBuf_append_str {ops:Array Oper} {rest:List Oper} {o:Oper} {a:Act} {Q:Exit→Act→World→Prop} (hgd:o.guard=none) (s x:Operand) (t u:TypeId)
   (ho:o.op = .call { callee:=.builtin .append,args:=#[s,x],argTypes:=#[t,u] }) (e:TypeId) (i:TypeInfo) (ht:P.underlying t=some (.slice e)) (hu:P.underlying u=some .string) (hi:P.info? e=some i) (hs1:i.size=1)
   (g cap:Nat) (T:TypeId) (l m:List UInt8) (hs:a.eval s = .slice (some ⟨g,0,none⟩) l.length cap) (hb:Buf w g T cap l) (hx:a.eval x = .string (strOf m)) (hroom:l.length+m.length≤cap)
   (h:∀ w',Buf w' g T cap (l ++ m)→w.grownBy w' (some g)→wpList P ops Q rest (a.put o.dst (.slice (some ⟨g,0,none⟩) (l.length+m.length) cap)) w'):wpList P ops Q (o :: rest) a w:=by
 obtain ⟨cur,hg,hc,htk⟩:=hb
 refine wpList_plain hgd fun K hK=>?_
 have hr:=run_buf_append_str (P:=P) w t u o.type e i ht hu hi hs1 g cap T l m cur hg hc hroom
 obtain ⟨h2,h3⟩:=buf_more m hg hc htk hroom
 unfold Oper.wp execOp
 simp only [ho,resolve,invoke,builtin,Sem.run_bind,Sem.run_pure,Result.andThen_ok,List.map_toArray,List.map_cons,List.map_nil,hs,hx,hr]
 exact hK _ _ (h _ h2 h3)
end
theorem dec_len20 (u:Nat) (h:u < 18446744073709551616):(Lib.decDigits u).length≤20:=dec_len_le _ _ (by omega) (by decide)
theorem byteInfo : ∃ i,Tryz.prog.info? 5=some i∧i.zero=some (.int .u8 0)∧i.size=1∧i.bytes=1:=info_parts Tryz.laysM176.i5
set_option maxRecDepth 512 in
theorem auint_small (w0 w:World) (g cap:Nat) (T:TypeId) (l:List UInt8) (u:Nat) (hu:u < 100) (hb:Below w0.heap.size w0 w) (hg:w0.heap.size≤g) (B:Buf w g T cap l) (hroom:l.length+(Lib.decDigits u).length≤cap) :
   Calls Tryz.prog 178 #[.slice (some ⟨g,0,none⟩) l.length cap,.int .u64 u,.int .i64 10] w fun e w' => e = .returned (.slice (some ⟨g,0,none⟩) (l.length+(Lib.decDigits u).length) cap)∧Buf w' g T cap (l ++ Lib.decDigits u)∧Below w0.heap.size w0 w':=by
 obtain ⟨i0,hi,hz0,hz1,hz2⟩:=byteInfo
 have hlen:=dec_len20 u (by omega)
 have iu:(u:Int) < 100:=by omega
 have c1:∀ w,Calls Tryz.prog 186 #[.int .i64 u] w fun e w' => e = .returned (.string (strOf (Lib.decDigits u)))∧w'=w:=fun w=>Any.internal_strconv_small { Tryz.laysM176 with } u hu w
 have C1:=Lib.hid c1
 clear c1
 go_enter Tryz.func178,Tryz.ntmps178
 go_wp2_with (first
   | (go_at_call 186;refine (C1.out _).mono ?_;rintro e w' ⟨rfl,rfl⟩)
   | (at_builtin;refine wpBuf_append_str _ rfl _ _ 157 9 rfl 5 i0 Tryz.underlying157 Tryz.underlying9 hi hz1 g cap T l (Lib.decDigits u) rfl B rfl (by omega) ?_))
 intro w1 B1 hgrow
 have hb1:Below w0.heap.size w0 w1:=hb.grown hgrow hb.size (fun k hk=>by injection hk with hk;omega)
 go_wp2
 go_ret
 exact ⟨rfl,B1,hb1⟩
theorem auint_big (w0 w:World) (E:Env w0) (g cap:Nat) (T:TypeId) (l:List UInt8) (u:Nat) (hu:100≤u) (hu64:u < 18446744073709551616) (hb:Below w0.heap.size w0 w) (hg:w0.heap.size≤g) (B:Buf w g T cap l) (hroom:l.length+(Lib.decDigits u).length≤cap) :
   Calls Tryz.prog 178 #[.slice (some ⟨g,0,none⟩) l.length cap,.int .u64 u,.int .i64 10] w fun e w' => e = .returned (.slice (some ⟨g,0,none⟩) (l.length+(Lib.decDigits u).length) cap)∧Buf w' g T cap (l ++ Lib.decDigits u)∧Below w0.heap.size w0 w':=by
 obtain ⟨i0,hi,hz0,hz1,hz2⟩:=byteInfo
 have hlen:=dec_len20 u hu64
 have hnl:(Lib.decDigits u).length=Lib.nDigits u:=Lib.decDigits_length u
 have hnd20:Lib.nDigits u≤20:=by omega
 have hu1:1≤u:=by omega
 have hal : Tryz.prog.arrayLen 214=24:=by kernel_rfl
 have hsl:∀ W,(Instr.sliceAt 214 (.pointer (some ⟨w.heap.size,0,none⟩)) none (some (.int .i64 (Lib.nDigits u:Int))) none).run Tryz.prog W = .ok (.slice (some ⟨w.heap.size,0,none⟩) (Lib.nDigits u) 24) W:=fun W=>by
   rw [run_sliceAt_array_h W 214 ⟨w.heap.size,0,none⟩ (by kernel_rfl) .i64 (Lib.nDigits u:Int) (by omega) (by rw [hal];omega)]
   go_simp
 have hH0:=Lib.holds_zero0 w 214 (Lib.nDigits u) (by omega)
 have hfmt:Calls Tryz.prog 188 #[.slice (some ⟨w.heap.size,0,none⟩) (Array.replicate (Lib.nDigits u) (0:UInt8)).size 24,.int .u64 u] (w.alloc (.cells Lib.zeros24 214)) fun e w' =>
     e = .returned (.tuple #[])∧∃ (n v':Nat) (dk:Array UInt8),w'=(putRow (fun (b:UInt8)=>Value.int .u8 (b.toNat:Int)) (w.alloc (.cells Lib.zeros24 214)) w.heap.size 0 dk).drewN n∧Lib.FmtInv (Array.replicate (Lib.nDigits u) (0:UInt8)).size u 0 v' dk:=
   Any.internal_strconv_formatBase10 { Tryz.laysM176 with } w.heap.size 0 24 u (Array.replicate (Lib.nDigits u) 0) (w.alloc (.cells Lib.zeros24 214)) hH0 (by rw [Array.size_replicate];exact Lib.lt_pow_nDigits u) hu64 (by rw [Array.size_replicate];omega)
 rw [Array.size_replicate] at hfmt
 have HH0:=Lib.hid hH0
 have iu:(100:Int)≤(u:Int):=by omega
 have c1:∀ w,Env w→Calls Tryz.prog 187 #[.int .u64 u] w fun e w' => e = .returned (.int .i64 (Lib.nDigits u))∧w'=w:=fun w E=>Any.internal_strconv_numDigits { Tryz.laysM176 with } u hu1 hu64 w E.tab
 have C1:=Lib.hid c1
 have HF:=Lib.hid hfmt
 have hEa:Env (w.alloc (.cells Lib.zeros24 214)):=E.below (hb.alloc hb.size _)
 clear hH0 hal c1 hfmt
 go_enter Tryz.func178,Tryz.ntmps178
 go_wp2_with (go_at_call 187;refine (C1.out _ hEa).mono ?_;rintro e w' ⟨rfl,rfl⟩)
 go_at_call 188
 refine HF.out.mono ?_
 rintro e w' ⟨rfl,k,v',dk,rfl,hF⟩
 have hcells:∀ j u',(Lib.byteCells (Lib.decDigits u))[j]? = some u'→((putRow (fun (b:UInt8)=>Value.int .u8 (b.toNat:Int)) (w.alloc (.cells Lib.zeros24 214)) w.heap.size 0 dk).drewN k).cell? ((⟨w.heap.size,0,none⟩:Addr).add j)=some u':=by
   intro j u' hj
   have hjl:j < (Lib.decDigits u).length:=by
     have h5:=(List.getElem?_eq_some_iff.1 hj).1
     rwa [Lib.byteCells_length] at h5
   have e5:(Lib.byteCells (Lib.decDigits u))[j]? = some (Value.int .u8 ((Lib.decDigits u)[j].toNat:Int)):=by simp [Lib.byteCells,hjl]
   rw [e5] at hj
   cases hj
   rw [Lib.row_is_numeral hF j hjl,Lib.add_plain,World.cell?_drewN]
   exact cell?_putRow (fun (b:UInt8)=>Value.int .u8 (b.toNat:Int)) _ w.heap.size 0 _ dk HH0.out (by rw [hF.size,Array.size_replicate]) j (by rw [hF.size];omega)
 obtain ⟨os,eo⟩:=Lib.fin_at w (.cells Lib.zeros24 214) dk k 0
 obtain ⟨W2,hW2⟩:∃ W2,(putRow (fun (b:UInt8)=>Value.int .u8 (b.toNat:Int)) (w.alloc (.cells Lib.zeros24 214)) w.heap.size 0 dk).drewN k=W2:=⟨_,rfl⟩
 rw [hW2] at eo hcells ⊢
 have B2:Buf W2 g T cap l:=by rw [eo];exact B.kept (Lib.heap_grow_old w k os g B.lt)
 have hb2:Below w0.heap.size w0 W2:=by rw [eo];exact hb.trans (Lib.below_grow w0.heap.size w hb.size k os)
 clear eo hW2 HF C1 HH0
 go_wp2_with (at_builtin;refine wpBuf_append _ rfl _ _ 157 rfl 5 i0 Tryz.underlying157 hi hz1 g cap T l (Lib.decDigits u) rfl B2 ⟨w.heap.size,0,none⟩ 24 (by rw [hnl];rfl) hcells (by omega) ?_)
 intro w3 B3 hgrow
 have hb3:Below w0.heap.size w0 w3:=hb2.grown hgrow hb2.size (fun k hk=>by injection hk with hk;omega)
 go_wp2
 go_ret
 exact ⟨retSl (by omega),B3,hb3⟩
theorem auint_any (w0 w:World) (E:Env w0) (g cap:Nat) (T:TypeId) (l:List UInt8) (u:Nat) (hu64:u < 18446744073709551616) (hb:Below w0.heap.size w0 w) (hg:w0.heap.size≤g) (B:Buf w g T cap l) (hroom:l.length+(Lib.decDigits u).length≤cap) :
   Calls Tryz.prog 178 #[.slice (some ⟨g,0,none⟩) l.length cap,.int .u64 u,.int .i64 10] w fun e w' => e = .returned (.slice (some ⟨g,0,none⟩) (l.length+(Lib.decDigits u).length) cap)∧Buf w' g T cap (l ++ Lib.decDigits u)∧Below w0.heap.size w0 w':=by
 by_cases h:u < 100
 · exact auint_small w0 w g cap T l u h hb hg B hroom
 · exact auint_big w0 w E g cap T l u (by omega) hu64 hb hg B hroom
theorem aint_buf (w0 w:World) (E:Env w0) (g cap:Nat) (T:TypeId) (l:List UInt8) (n:Int) (h0 : -9223372036854775808≤n) (h1:n≤9223372036854775807) (hb:Below w0.heap.size w0 w) (hg:w0.heap.size≤g) (B:Buf w g T cap l) (hroom:l.length+(Lib.itoa n).length≤cap) :
   Calls Tryz.prog 150 #[.slice (some ⟨g,0,none⟩) l.length cap,.int .i64 n,.int .i64 10] w fun e w' => e = .returned (.slice (some ⟨g,0,none⟩) (l.length+(Lib.itoa n).length) cap)∧Buf w' g T cap (l ++ Lib.itoa n)∧Below w0.heap.size w0 w':=by
 obtain ⟨i0,hi,hz0,hz1,hz2⟩:=byteInfo
 by_cases hneg:n < 0
 · obtain ⟨u,rfl⟩:∃ u:Nat,n = -(u:Int):=⟨n.natAbs,by omega⟩
   have hu1:1≤u:=by omega
   have hu64:u < 18446744073709551616:=by omega
   have hwr:IntKind.u64.wrap (-IntKind.u64.wrap (-(u:Int)))=(u:Int):=by rw [IntKind.wrap_u64,IntKind.wrap_u64];omega
   rw [Lib.itoa_neg u hu1] at hroom ⊢
   simp only [List.length_cons] at hroom
   have Ba:∀ o,Buf (w.alloc o) g T cap l:=fun o=>B.kept (Below.heap_alloc _ _ _ B.lt)
   go_enter Tryz.func150,Tryz.ntmps150
   go_wp2_with (at_builtin;refine wpBuf_append _ rfl _ _ 157 rfl 5 i0 Tryz.underlying157 hi hz1 g cap T l [45] rfl (Ba _) ⟨w.heap.size,0,none⟩ 1 rfl (by intro j u' hj;match j,hj with | 0,hj=>simp [Lib.byteCells] at hj;subst hj;simp [Addr.add]) (by simp only [List.length_cons,List.length_nil];omega) ?_)
   intro w1 B1 hgrow
   have hb1:Below w0.heap.size w0 w1:=(hb.alloc hb.size _).grown hgrow (by have:=hb.size;simp;omega) (fun k hk=>by injection hk with hk;omega)
   have c2:=auint_any w0 w1 E g cap T (l ++ [45]) u hu64 hb1 hg B1 (by simp only [List.length_append,List.length_cons,List.length_nil];omega)
   have e1:(l ++ [(45:UInt8)]).length=l.length+1:=by simp
   rw [e1] at c2
   have C2:=Lib.hid c2
   clear c2
   go_wp2_with (go_at_call 178;refine C2.out.mono ?_;rintro e w2 ⟨rfl,B2,hb2⟩)
   go_wp2
   go_ret
   refine ⟨?_,?_,hb2⟩
   · exact retSl (by omega)
   · rwa [List.append_assoc] at B2
 · obtain ⟨u,rfl⟩:∃ u:Nat,n=u:=⟨n.toNat,by omega⟩
   have hu64:u < 18446744073709551616:=by omega
   rw [Lib.itoa_nonneg] at hroom ⊢
   have C2:=Lib.hid (auint_any w0 w E g cap T l u hu64 hb hg B (by omega))
   go_enter Tryz.func150,Tryz.ntmps150
   go_wp2_with (go_at_call 178;refine C2.out.mono ?_;rintro e w2 ⟨rfl,B2,hb2⟩)
   go_wp2
   first | go_ret | go_ret2
   exact ⟨rfl,B2,hb2⟩
set_option maxRecDepth 512 in
theorem appendInt_buf (w0 w:World) (E:Env w0) (g cap:Nat) (T:TypeId) (l:List UInt8) (n:Int) (h0 : -9223372036854775808≤n) (h1:n≤9223372036854775807) (hb:Below w0.heap.size w0 w) (hg:w0.heap.size≤g) (B:Buf w g T cap l) (hroom:l.length+(Lib.itoa n).length≤cap) :
   Calls Tryz.prog 125 #[.slice (some ⟨g,0,none⟩) l.length cap,.int .i64 n,.int .i64 10] w fun e w' => e = .returned (.slice (some ⟨g,0,none⟩) (l.length+(Lib.itoa n).length) cap)∧Buf w' g T cap (l ++ Lib.itoa n)∧Below w0.heap.size w0 w':=by
 have C2:=Lib.hid (aint_buf w0 w E g cap T l n h0 h1 hb hg B hroom)
 go_enter Tryz.func125,Tryz.ntmps125
 go_wp2_with (go_at_call 150;refine C2.out.mono ?_;rintro e w2 ⟨rfl,B2,hb2⟩)
 go_wp2
 go_ret
 exact ⟨rfl,B2,hb2⟩
end Go.Proofs.YtpiiclmkbplkhaaGreatDoor.Kl
