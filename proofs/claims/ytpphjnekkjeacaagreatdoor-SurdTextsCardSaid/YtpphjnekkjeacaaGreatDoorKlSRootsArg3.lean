import Derived.Test.YtpphjnekkjeacaaGreatDoorRows
import Derived.Deep.Strs
import Derived.ChangeSame
import Derived.RowKit
import Derived.Test.YtpphjnekkjeacaaGreatDoorKlSRootsSRZ
/- What an argument list of parts reads as, ahead of the call and behind it. -/
namespace Go.Proofs.YtpphjnekkjeacaaGreatDoor
open Go.ChangeShapes Go.WideShapes Go.ChangeAt Go.RowKit Go.Deep
open Kl (Part HasP)
def Kl.partD {H:Type} (q:Part):DataW H:=.agg [.lit (.int .i8 q.1),.lit (.int .u8 q.2.1),.lit (.int .u8 q.2.2)]
def Kl.PartOk (q:Part):Prop:=(Lit.int .i8 q.1).wf=true∧(Lit.int .u8 q.2.1).wf=true∧(Lit.int .u8 q.2.2).wf=true
theorem Kl.cellsPart : Tryz.prog.cellsOf 91=3:=by kernel_rfl
theorem Kl.cellsI8 : Tryz.prog.cellsOf 89=1:=by kernel_rfl
theorem Kl.cellsU8 : Tryz.prog.cellsOf 5=1:=by kernel_rfl
set_option maxRecDepth 100000 in
theorem Kl.open_one {H:Type} {enc:TypeId × Value→H} {W:World} {base:Nat} {sp:Nat→Bool} {held:Bool} {fuel:Nat} {cs:List Value} {x:DataW H × List MemPlace}
    (h:DataW.trod enc Tryz.prog W base sp held fuel 91 cs=some x):∃ q:Part,cs=[.int .i8 q.1,.int .u8 q.2.1,.int .u8 q.2.2]∧x=(Kl.partD q,[])∧Kl.PartOk q:=by
  obtain ⟨y0,y1,y2,k,hxy,hl,u0,u1,u2⟩:=trod_struct3 Tryz.underlying91 h
  rw [Kl.cellsPart] at hl
  match cs,hl with
  | [v0,v1,v2],_ =>
    simp only [Kl.cellsI8,Kl.cellsU8,List.drop,List.take] at u0 u1 u2
    obtain ⟨s,e0,d0,w0⟩:=DataW.trod_int Tryz.underlying89 u0
    obtain ⟨q,e1,d1,w1⟩:=DataW.trod_int Tryz.underlying5 u1
    obtain ⟨p,e2,d2,w2⟩:=DataW.trod_int Tryz.underlying5 u2
    simp only [List.cons.injEq,and_true] at e0 e1 e2
    subst e0;subst e1;subst e2
    exact ⟨(s,q,p),rfl,by rw [hxy,d0,d1,d2];rfl,w0,w1,w2⟩
set_option maxRecDepth 100000 in
theorem Kl.shut_one {H:Type} {enc:TypeId × Value→H} {W:World} {base:Nat} {sp:Nat→Bool} {held:Bool} (q:Part) (hq:Kl.PartOk q) :
    DataW.trod enc Tryz.prog W base sp held 2 91 [.int .i8 q.1,.int .u8 q.2.1,.int .u8 q.2.2]=some (Kl.partD q,[]):=by
  have h:=trod_struct3_mk (enc:=enc) (w:=W) (base:=base) (spare:=sp) (held:=held) (n:=1) (cs:=[.int .i8 q.1,.int .u8 q.2.1,.int .u8 q.2.2]) Tryz.underlying91 (by rw [Kl.cellsPart];rfl)
    (by simp only [Kl.cellsI8,List.drop,List.take];exact trod_int_mk 0 Tryz.underlying89 hq.1)
    (by simp only [Kl.cellsU8,List.drop,List.take];exact trod_int_mk 0 Tryz.underlying5 hq.2.1)
    (by simp only [Kl.cellsU8,List.drop,List.take];exact trod_int_mk 0 Tryz.underlying5 hq.2.2)
  exact h
theorem Kl.cells_kept {W W':World} {base:Nat} {a:Addr} {n:Nat} (h:W'.heap[a.block]? = W.heap[a.block]?):W'.cells? base a n=W.cells? base a n:=by
  unfold World.cells?
  have e:(fun i=>W'.cell? (a.add i))=fun i=>W.cell? (a.add i):=funext fun i=>by
    refine World.cell?_of_block ?_
    have e:(a.add i).block=a.block:=by unfold Addr.add;split <;> rfl
    rw [e]
    exact h
  rw [e]
set_option maxRecDepth 100000 in
/-- An argument that is a list of parts: what lies in memory, and that it reads the same in a later world. -/
theorem Kl.open_parts {H:Type} {enc:TypeId × Value→H} {W:World} {v:Value} {d:DataW H} {p:List MemPlace} (hok:∃ a len cap,v = .slice a len cap)
    (h:DataW.Trod enc Tryz.prog W 0 (fun _=>true) true 41 v d p) (hlt:∀ x ∈ p,x.block < W.heap.size) :
    ∃ (a:Option Addr) (n c:Nat) (qs:List Part),v = .slice a n c∧n=qs.length∧HasP W a qs ∧
      ∀ W':World,Below W.heap.size W W'→DataW.Trod enc Tryz.prog W' 0 (fun b=>decide (b < W.heap.size)) true 41 v d p:=by
  obtain ⟨a0,len0,cap0,rfl⟩:=hok
  obtain ⟨fuel,hf⟩:=h
  have hcs:(Value.slice a0 len0 cap0).cells.toList=[.slice a0 len0 cap0]:=rfl
  rw [hcs] at hf
  rcases open_slice Tryz.underlying41 hf with ⟨h0,hx⟩ | ⟨a,len,cap,m,n,D,Pl,h0,hb,hl,hm,hmm,hx,hall⟩
  · injection h0 with h0
    rw [h0]
    injection hx with hd hp
    subst hd hp
    exact ⟨none,0,0,[],rfl,rfl,fun i q h=>by simp at h,fun W' _=>shut_slice_nil Tryz.underlying41⟩
  · injection h0 with h0
    injection h0 with e0 e1 e2
    subst e0 e1 e2
    rw [if_pos rfl] at hmm
    subst hmm
    rw [Kl.cellsPart] at hx hall
    have each:∀ i,i < m→∃ q:Part,W.cells? 0 (a.add (i*3)) 3=some [.int .i8 q.1,.int .u8 q.2.1,.int .u8 q.2.2]∧D i=Kl.partD q∧Pl i=[]∧Kl.PartOk q:=fun i hi=>by
      obtain ⟨cs',h1,h2⟩:=hall i hi
      obtain ⟨q,e1,e2,e3⟩:=Kl.open_one h2
      injection e2 with e2 e4
      exact ⟨q,by rw [h1,e1],e2,e4,e3⟩
    obtain ⟨q,hq⟩:=choose_lt each
    injection hx with hd hp
    have hlt':0 < m→a.block < W.heap.size:=fun h0=>by
      have:=hlt (.cell a.block (a.off+0)) (by rw [hp,List.mem_append];left;exact List.mem_map.2 ⟨0,List.mem_range.2 (by omega),rfl⟩)
      exact this
    refine ⟨some a,len0,m,(List.range len0).map q,rfl,by simp,fun i u hu=>?_,fun W' hbw=>?_⟩
    · have hil:i < len0:=by have:=(List.getElem?_eq_some_iff.1 hu).1;simpa using this
      have hqu:q i=u:=by
        rw [List.getElem?_map,List.getElem?_range hil] at hu
        simpa using hu
      subst hqu
      obtain ⟨h1,_,_,w0,w1,w2⟩:=hq i (by omega)
      obtain ⟨_,_,hc⟩:=World.cells?_some h1
      have hs:a.spot=none:=by
        obtain ⟨h1,_⟩:=hq 0 (by omega)
        obtain ⟨_,_,hc⟩:=World.cells?_some h1
        have c0:=hc 0 (by decide)
        rw [add_add] at c0
        exact World.cell?_spot (a:=a) (by simpa [Addr.add] using c0)
      obtain ⟨b,o,s⟩:=a
      obtain rfl:s=none:=hs
      have c0:=hc 0 (by decide)
      have c1:=hc 1 (by decide)
      have c2:=hc 2 (by decide)
      rw [add_add] at c0 c1 c2
      rw [Addr.add_lit] at c0 c1 c2
      have b0:=bounds_i8 w0
      have b1:=bounds_u8 w1
      have b2:=bounds_u8 w2
      exact ⟨b,o,rfl,by simpa using c0,by simpa [Nat.add_assoc] using c1,by simpa [Nat.add_assoc] using c2,by omega,by omega,by omega,by omega,by omega,by omega⟩
    · by_cases h0:0 < m
      · have hbl:=hlt' h0
        have hk:=hbw.block a.block hbl
        obtain ⟨f,hf'⟩:=shut_slice_whole_cells (enc:=enc) (w:=W') (held:=true) (spare:=fun b=>decide (b < W.heap.size)) Tryz.underlying41 hb hl hm (decide_eq_true hbl) D Pl (fun i hi=>by
          obtain ⟨h1,h2,h3,h4⟩:=hq i hi
          refine ⟨[.int .i8 (q i).1,.int .u8 (q i).2.1,.int .u8 (q i).2.2],2,?_,?_⟩
          · rw [Kl.cellsPart]
            have e:(a.add (i*3)).block=a.block:=by unfold Addr.add;split <;> rfl
            exact (Kl.cells_kept (W:=W) (W':=W') (by rw [e];exact hk)).trans h1
          · rw [h2,h3]
            exact Kl.shut_one _ h4)
        refine ⟨f,?_⟩
        rw [hcs,hf',hd,hp,Kl.cellsPart]
      · have hm0:m=0:=by omega
        subst hm0
        have hl0:len0=0:=by omega
        subst hl0
        cases hsp:decide (a.block < W.heap.size) with
        | true =>
          obtain ⟨f,hf'⟩:=shut_slice_whole_cells (enc:=enc) (w:=W') (held:=true) (spare:=fun b=>decide (b < W.heap.size)) Tryz.underlying41 hb hl hm hsp D Pl (fun i hi=>absurd hi (Nat.not_lt_zero _))
          refine ⟨f,?_⟩
          rw [hcs,hf',hd,hp,Kl.cellsPart]
        | false =>
          obtain ⟨f,hf'⟩:=shut_slice_cells (enc:=enc) (w:=W') (held:=true) (spare:=fun b=>decide (b < W.heap.size)) Tryz.underlying41 hb hl hm hsp D Pl (fun i hi=>absurd hi (Nat.not_lt_zero _))
          refine ⟨f,?_⟩
          rw [hcs,hf',hd,hp,Kl.cellsPart]
          rfl
end Go.Proofs.YtpphjnekkjeacaaGreatDoor
