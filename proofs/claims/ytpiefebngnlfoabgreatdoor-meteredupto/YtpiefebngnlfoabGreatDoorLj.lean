import Derived.Test.YtpiefebngnlfoabGreatDoorLi
import Derived.Deep.MidRow
import Derived.Laws.IdiomRangeMap
import Derived.Laws.BytesArg
set_option maxRecDepth 99999
set_option maxHeartbeats 0
set_option linter.unusedVariables false
set_option linter.unusedSimpArgs false
namespace Go.Proofs.YtpiefebngnlfoabGreatDoor
open Go.RowKit Go.Conc Go.Vw
theorem Ck{P:Program}{gf:Func}(h:gf.results=#[])(tmps:Array Value)(w:World)(es:Array Event):(results gf tmps).runT P w es=(.ok (.tuple #[]) w,es):=by
 have:results gf tmps=(Pure.pure (.tuple #[]):Sem Value):=by
  unfold results;rw[h];simp
 rw[this];rfl
end Go.Proofs.YtpiefebngnlfoabGreatDoor
namespace Go.Vw
open Go.Conc
section
variable {P:Program}{S:Nat->Prop}{v:World}{o:Oper}{a:Act}{α : Type}
theorem Ko{t:TypeId}(hop:o.op=.makeMap t none):aA P S (execOp a.eval o):=by
 unfold execOp;simp only[hop,Option.map_none];exact aA.bind (aA.makeMap t) fun _=>aA.pure _
theorem Kr{t:TypeId}{u:World}(hop:o.op=.makeMap t none):(execOp a.eval o).run P u=.ok (.value (.map (some u.heap.size))) (u.alloc (.map #[] 0)):=by
 unfold execOp;simp[hop,Instr.makeMap]
theorem aA.range(t:TypeId)(m:Nat):aA P S (Instr.range t (.map (some m))):=by
 unfold Instr.range;refine aA.bind (aA.underlying t) fun d=>?_
 cases d with
 |map key elem=>
  refine aA.getThen (fun _ o=>?_) (fun v es=>aI.first (aI.stuck _ _ _));cases o with
  |map entries clock=>
   show aA P S (Go.newObj (.mapIter (some m) clock #[] clock) >>= fun l=>Pure.pure (Value.pointer (some ⟨l,0,none⟩)))
   exact aA.bind (aA.newObj trivial) fun _=>aA.pure _
  |_=>exact aA.of_dead fun v W es _=>aI.first (aI.stuck _ _ _)
 |_=>exact aA.of_dead fun v W es _=>aI.first (aI.stuck _ _ _)
theorem aA.next(r:Nat)(t:TypeId):aA P S (Instr.next (.pointer (some ⟨r,0,none⟩)) false t):=by
 unfold Instr.next;refine aA.getThen (fun hs o=>?_) (fun v es=>aI.stuck _ _ _);cases o with
 |mapIter mo since seen last=>
  cases mo with
  |none=>exact aA.pure _
  |some m=>
   refine aA.getThen (fun _ o=>?_) (fun v es=>aI.stuck _ _ _);cases o with
   |map es clock=>
    simp only[];split
    .exact aA.of_dead fun v W es _=>aI.first (aI.unsupported _ _ _)
    .refine aA.bind (aA.choose _) fun i=>?_
     split
     .exact aA.bind (aA.setObj hs trivial) fun _=>aA.pure _
     .exact aA.pure _
     .exact aA.stuck _
   |_=>exact aA.stuck _
 |_=>exact aA.stuck _
theorem Mi{t:TypeId}{x:Operand}{m:Nat}(hop:o.op=.range t x)(hx:a.eval x=.map (some m)):aA P S (execOp a.eval o):=by
 unfold execOp;simp only[hop,hx];exact aA.bind (aA.range t m) fun _=>aA.pure _
theorem Ml{t kt et:TypeId}{x:Operand}{m c:Nat}{es:Array MapEntry}{u:World}(hop:o.op=.range t x)(hx:a.eval x=.map (some m))(ht:P.underlying t=some (.map kt et))(hm:u.heap[m]?=some (.map es c)) :
  (execOp a.eval o).run P u=.ok (.value (.pointer (some ⟨u.heap.size,0,none⟩))) (u.alloc (.mapIter (some m) c #[] c)):=by
 unfold execOp;simp[hop,hx,run_range_map u t kt et m es c ht hm]
theorem tT{x:Operand}{r:Nat}(hop:o.op=.next x false)(hx:a.eval x=.pointer (some ⟨r,0,none⟩)):aA P S (execOp a.eval o):=by
 unfold execOp;simp only[hop,hx];exact aA.bind (aA.next r _) fun _=>aA.pure _
theorem Oq{x:Operand}{r m c since last:Nat}{u:World}(hop:o.op=.next x false)(hx:a.eval x=.pointer (some ⟨r,0,none⟩))(hr:u.heap[r]?=some (.mapIter (some m) since #[] last))(hm:u.heap[m]?=some (.map #[] c)) :
  ∃ w',Twin u w'∧(execOp a.eval o).run P u=.ok (.value (.tuple #[.bool false])) w':=by
 refine⟨u,.refl u,?_⟩;unfold execOp;simp[hop,hx,Instr.next,getObj,Sem.run,hr,hm,choose,Question.forced]
end
section
variable {P:Program}{Stop:Goroutine->(Nat->Prop)->World->Prop}{S:Nat->Prop}{v:World}{fn:FuncId}{cs:List Frame}{k:List Item}{n:Nat}{f:Nat->Value}{ops:Array Oper}{i:Nat}{rest:List Nat}{dst:Option Tmp}{op:Op}{ty:TypeId}{pos:String}{aft:Array Edge}{grd:Option (Nat×Bool)}
theorem Cl{t:TypeId}(ho:ops[i]?=some ⟨dst,op,ty,pos,aft,grd⟩)(hw:Region.wanted ⟨dst,op,ty,pos,aft,grd⟩ (yielded ops (TA n f))=true)(hop:op=.makeMap t none)
  (hn:∀ v',Ext v v'->v'.heap[v.heap.size]?=some (.map #[] 0)->Reach P Stop (G ((base fn).at ⟨TA n (aE f dst (.map (some v.heap.size))),[]⟩ (.inRegion ops rest :: k)) cs) S v') :
  Reach P Stop (G ((base fn).at ⟨TA n f,[]⟩ (.inRegion ops (i :: rest) :: k)) cs) S v:=by
 refine fD (by simp[base]) ho hw (Ko hop) fun u hu=>⟨_,_,.inl (Kr hop),?_⟩
 rw[bU];have:=hn (u.alloc (.map #[] 0)) ((Ext.twin hu).trans _ _ _ (Ext.alloc _ _)) (by rw[<-hu.heap];exact cN _ _);rwa [<-hu.heap]at this
theorem tN{t kt et:TypeId}{x:Operand}{m c:Nat}{es:Array MapEntry}(ho:ops[i]?=some ⟨dst,op,ty,pos,aft,grd⟩)(hw:Region.wanted ⟨dst,op,ty,pos,aft,grd⟩ (yielded ops (TA n f))=true)(hop:op=.range t x)(hx:(⟨TA n f,[]⟩:Act).eval x=.map (some m))(ht:P.underlying t=some (.map kt et))(hm:v.heap[m]?=some (.map es c))
  (hn:∀ v',Ext v v'->v'.heap[v.heap.size]?=some (.mapIter (some m) c #[] c)->Reach P Stop (G ((base fn).at ⟨TA n (aE f dst (.pointer (some ⟨v.heap.size,0,none⟩))),[]⟩ (.inRegion ops rest :: k)) cs) S v') :
  Reach P Stop (G ((base fn).at ⟨TA n f,[]⟩ (.inRegion ops (i :: rest) :: k)) cs) S v:=by
 refine fD (by simp[base]) ho hw (Mi hop hx) fun u hu=>⟨_,_,.inl (Ml hop hx ht ((Ext.twin hu).row hm)),?_⟩
 rw[bU];have:=hn (u.alloc (.mapIter (some m) c #[] c)) ((Ext.twin hu).trans _ _ _ (Ext.alloc _ _)) (by rw[<-hu.heap];exact cN _ _);rwa [<-hu.heap]at this
theorem Mr{x:Operand}{r m c since last:Nat}(ho:ops[i]?=some ⟨dst,op,ty,pos,aft,grd⟩)(hw:Region.wanted ⟨dst,op,ty,pos,aft,grd⟩ (yielded ops (TA n f))=true)(hop:op=.next x false)(hx:(⟨TA n f,[]⟩:Act).eval x=.pointer (some ⟨r,0,none⟩))(hr:v.heap[r]?=some (.mapIter (some m) since #[] last))(hm:v.heap[m]?=some (.map #[] c))
  (hn:Reach P Stop (G ((base fn).at ⟨TA n (aE f dst (.tuple #[.bool false])),[]⟩ (.inRegion ops rest :: k)) cs) S v) :
  Reach P Stop (G ((base fn).at ⟨TA n f,[]⟩ (.inRegion ops (i :: rest) :: k)) cs) S v:=by
 refine fD (by simp[base]) ho hw (tT hop hx) fun u hu=>?_
 obtain⟨w',ht,hr⟩:=Oq (P:=P) (o:=⟨dst,op,ty,pos,aft,grd⟩) hop hx ((Ext.twin hu).row hr) ((Ext.twin hu).row hm);refine⟨_,w',.inl hr,?_⟩;rw[bU];exact Reach.twin ⟨(hu.trans ht).heap.symm,(hu.trans ht).os.symm,(hu.trans ht).output.symm⟩ hn
end
end Go.Vw
namespace Go.Proofs.YtpiefebngnlfoabGreatDoor
open Go.RowKit Go.Conc Go.Vw
section
variable {X D DB M:Nat}{RB:Nat->Nat}{nd nb:Nat}{r l:Value}{w w' v:World}{S:Nat->Prop}
end
theorem Wj:∃ i z,Tryz.prog.info? 4=some i∧i.zero=some z∧i.size=1∧i.bytes=1∧z.cells=#[z]:=⟨_,_,rfl,rfl,rfl,rfl,rfl⟩
theorem pP:Tryz.zeroCells107=eE 96:=by kernel_rfl
theorem yZ(y0 y1:Value)(f:Nat->Value):(((Array.map f (Array.range 2)).setIfInBounds 0 y0).setIfInBounds 1 y1)=#[y0,y1]:=by
 apply Array.ext';simp[List.range,List.range.loop]
theorem Dh{P:Program}{o:Oper}{a:Act}{x0 x1:Operand}{t e:TypeId}{i:TypeInfo}{z y0 y1:Value}(hop:o.op=Op.buildSlice t 2 #[(0,x0),(1,x1)])
  (h1:P.underlying t=some (.slice e)) (h2:P.info? e=some i) (h3:i.zero=some z) (h4:i.size=1) (h6:z.cells=#[z]) (hx0:a.eval x0=y0) (hy0:y0.cells=#[y0]) (hx1:a.eval x1=y1) (hy1:y1.cells=#[y1]) (u:World) :
  (execOp a.eval o).run P u=.ok (.value (.slice (some ⟨u.heap.size,0,none⟩) 2 2)) (u.alloc (.cells #[y0,y1] e)):=by
 have q:∀ f:Nat->Value,(((Array.map f (Array.range 2)).setIfInBounds 0 y0).setIfInBounds 1 y1)=#[y0,y1]:=yZ y0 y1;simp[execOp,hop,hx0,hy0,hx1,hy1,Instr.buildSlice,run_underlying h1,sizeOf,typeInfo,h2,h4,zeroValue,h3,h6,Instr.fill,newRow];rw[q]
section
variable {X D DB M:Nat}{RB:Nat->Nat}{nd nb:Nat}{r l:Value}{w w' v:World}{S:Nat->Prop}
end
theorem Yd(s:ByteArray):∀ (k i:Nat) (r:List UInt8),s.size - i<=k->r≠[]->ByteArray.toList.loop s i r≠[]:=by
 intro k;induction k with
 |zero=>
  intro i r hk hr;unfold ByteArray.toList.loop;rw[if_neg (by omega)];simpa using hr
 |succ k ih=>
  intro i r hk hr;unfold ByteArray.toList.loop;split
  .exact ih _ _ (by omega) (by simp)
  .simpa using hr
theorem Qt{s:ByteArray}(h:s.size≠0):¬s.toList=[]:=by
 unfold ByteArray.toList ByteArray.toList.loop;rw[if_pos (by omega)];exact Yd s s.size _ _ (by omega) (by simp)
def eX(z:Nat->Nat):Nat->Nat
 |0=>0
 |k+1=>if eX z k≠0 then eX z k else z k
theorem yO(z:Nat->Nat)(k:Nat):eX z (k+1)=if eX z k≠0 then eX z k else z k:=rfl
def okZ(z:Nat->Nat):Nat->Bool
 |0=>true
 |k+1=>okZ z k&&(decide (z k=0)||decide (eX z k=0)||decide (z k=eX z k))
theorem zrep(n:Nat):(Array.range n).map (fun i=>(eE 96)[i % (eE 96).size]!)=eE n:=by
 unfold eE;apply Array.map_congr_left;intro i _;have h:i % ((Array.range 96).map fun _=>Value.int .u8 0).size<96:=by
  have:((Array.range 96).map fun _=>Value.int .u8 0).size=96:=by simp
  rw[this];exact Nat.mod_lt _ (by omega)
 rw[getElem!_pos _ _ (by simpa using h)];simp
theorem Ie:∃ i,Tryz.prog.info? 107=some i∧i.zero=some (.agg (eE 96))∧i.size=96∧i.bytes=96:=by
 rw[<-pP];exact⟨_,rfl,rfl,rfl,rfl⟩
theorem Mm(m:Nat)(hm:m<=64)(hm0:m≠0)(u:World):(Instr.makeSlice 105 (.int .i64 (m:Nat)) (.int .i64 (m:Nat))).run Tryz.prog u=.ok (.slice (some ⟨u.heap.size,0,none⟩) m m) (u.alloc (.cells (eE (m*96)) 107)):=by
 obtain⟨inf,hq,h3,h1,h2⟩:=Ie;have wl:IntKind.i64.wrap (m:Int)=(m:Int):=by rw[IntKind.wrap_i64];omega
 have n1:¬((m:Int)<0):=by omega
 have n2:¬((281474976710656:Int)<96*(m:Int)):=by omega
 have n3:¬(m*96 > roomBytes):=by simp only[roomBytes];omega
 have hz:=zrep (m*96);simp[Instr.makeSlice,run_underlying Tryz.underlying105,asInt,asIntOf,typeInfo,hq,h1,h2,h3,sizeOf,askRoom,newRow,zeroValue,wl,n1,n2,n3,hm0,Value.cells,hz];intro h0;exact absurd h0 (by omega)
theorem Rh{o:Oper}{a:Act}{l c:Operand}(m:Nat)(hm:m<=64)(hm0:m≠0)(hop:o.op=.makeSlice 105 l c)(hl:a.eval l=.int .i64 (m:Nat))(hc:a.eval c=.int .i64 (m:Nat))(u:World):(execOp a.eval o).run Tryz.prog u=.ok (.value (.slice (some ⟨u.heap.size,0,none⟩) m m)) (u.alloc (.cells (eE (m*96)) 107)):=by
 unfold execOp;simp only[hop,hl,hc,Sem.run_bind,Mm m hm hm0 u,Result.andThen_ok,Sem.run_pure]
def iH(n j nb:Nat)(RB:Nat->Nat):Array Value:=(Array.range n).map fun i=>if i<j then .slice (some ⟨RB i,0,none⟩) nb nb else .slice none 0 0
theorem Pc(n j nb:Nat)(RB:Nat->Nat):(iH n j nb RB).size=n:=by simp[iH]
theorem oM{n j nb i:Nat}{RB:Nat->Nat}(hi:i<n):(iH n j nb RB)[i]?=some (if i<j then .slice (some ⟨RB i,0,none⟩) nb nb else .slice none 0 0):=by simp[iH,hi]
theorem yL{n j nb g:Nat}{RB:Nat->Nat}(hj:j<n):(iH n j nb RB).setIfInBounds j (.slice (some ⟨g,0,none⟩) nb nb)=iH n (j+1) nb fun i=>if i=j then g else RB i:=by
 apply Array.ext_getElem?;intro i;rw[Array.getElem?_setIfInBounds];by_cases e:j=i
 .subst e;simp[iH,hj]
 .rw[if_neg e];by_cases hi:i<n
  .rw[oM hi,oM hi];have:¬i=j:=fun h=>e h.symm
   simp only[this,if_false];by_cases h1:i<j
   .rw[if_pos h1,if_pos (by omega)]
   .rw[if_neg h1,if_neg (by omega)]
  .simp[iH,hi]
theorem Jq:∃ i,Tryz.prog.info? 38=some i∧i.size=3∧i.bytes=24:=⟨_,rfl,rfl,rfl⟩
theorem Rk{o:Oper}{a:Act}{l c:Operand}(hop:o.op=.makeSlice 32 l c)(hl:a.eval l=.int .i64 0)(hc:a.eval c=.int .i64 0)(u:World):(execOp a.eval o).run Tryz.prog u=.ok (.value (.slice (some ⟨u.heap.size,0,none⟩) 0 0)) (u.alloc (.cells #[] 38)):=by
 obtain⟨inf,hq,h1,h2⟩:=Jq;have wl:IntKind.i64.wrap 0=0:=rfl;unfold execOp;simp[hop,hl,hc,Instr.makeSlice,run_underlying Tryz.underlying32,asInt,asIntOf,typeInfo,hq,h1,h2,sizeOf,askRoom,newRow,wl];have e:Array.map (fun _:Nat=>(default:Value)) (Array.range 0)=#[]:=by
  apply Array.ext';simp
 rw[e]
section
variable {X D DB M:Nat}{RB:Nat->Nat}{nd nb:Nat}{r l:Value}{v:World}{S:Nat->Prop}
end
def zs(n:Nat):ByteArray:=strOfNums (List.replicate n 0)
theorem zZ:∃ i z,Tryz.prog.info? 9=some i∧i.zero=some z∧i.size=1∧i.bytes=16∧z.cells=#[z]:=⟨_,_,rfl,rfl,rfl,rfl,rfl⟩
theorem Gk{B n c:Nat}{u:World}(hz:∀ i,i<n->u.cell? ⟨B,i,none⟩=some (.int .u8 0)):(convert 48 9 (.slice (some ⟨B,0,none⟩) n c)).run Tryz.prog u=.ok (.string (zs n)) u:=
 run_convert_bytes_arg (P:=Tryz.prog) u 48 5 Tryz.underlying48 Tryz.underlying5 B 0 n c (List.replicate n 0) (by simp) (fun i hi=>by rw[Nat.zero_add,hz i hi];simp[List.getD,List.getElem?_replicate,hi]) 9 Tryz.underlying9
theorem Ss{w:World}{b:Nat}{e:Value}{t:TypeId}(h:w.heap[b]?=some (.cells #[e] t)):∀ j y,[e][j]?=some y->w.cell? ((⟨b,0,none⟩:Addr).add j)=some y:=by
 intro j y hy;cases j with
 |zero=>
  simp only[List.getElem?_cons_zero,Option.some.injEq]at hy;subst hy;rw[Addr.add_lit];exact(cell_of_row _ b 0 _ _ _ h).trans rfl
 |succ j=>simp at hy
def pK(z:Nat->Nat)(k:Nat):List Value:=(List.range k).map fun i=>.string (zs (z i))
theorem Qq(z:Nat->Nat)(k:Nat):pK z k++[.string (zs (z k))]=pK z (k+1):=by
 simp[pK,List.range_succ]
