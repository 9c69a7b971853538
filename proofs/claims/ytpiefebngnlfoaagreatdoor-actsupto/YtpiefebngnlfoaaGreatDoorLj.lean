import Derived.Test.YtpiefebngnlfoaaGreatDoorLi
import Derived.Deep.MidRow
import Derived.Laws.IdiomRangeMap
import Derived.Laws.BytesArg
set_option maxRecDepth 99999
set_option maxHeartbeats 0
set_option linter.unusedVariables false
set_option linter.unusedSimpArgs false
namespace Go.Proofs.YtpiefebngnlfoaaGreatDoor
open Go.RowKit Go.Conc Go.Vw
theorem Bb{P:Program}{gf:Func}(h:gf.results=#[])(tmps:Array Value)(w:World)(es:Array Event):(results gf tmps).runT P w es=(.ok (.tuple #[]) w,es):=by
 have:results gf tmps=(Pure.pure (.tuple #[]):Sem Value):=by unfold results;rw[h];simp
 rw[this];rfl
end Go.Proofs.YtpiefebngnlfoaaGreatDoor
namespace Go.Vw
open Go.Conc
section
variable {P:Program}{S:Nat->Prop}{v:World}{o:Oper}{a:Act}{α : Type}
theorem Jo{t:TypeId}(dm:o.op=.makeMap t none):aA P S (execOp a.eval o):=by unfold execOp;simp only[dm,Option.map_none];exact aA.bind (aA.makeMap t) λ_=>aA.pure _
theorem Jq{t:TypeId}{u:World}(dm:o.op=.makeMap t none):(execOp a.eval o).run P u=.ok (.value (.map (some u.heap.size))) (u.alloc (.map #[] 0)):=by unfold execOp;simp[dm,Instr.makeMap]
theorem aA.range(t:TypeId)(m:Nat):aA P S (Instr.range t (.map (some m))):=by
 unfold Instr.range;refine aA.bind (aA.underlying t) λd=>?_;cases d with
 |map key elem=>
  refine aA.getThen (λ_ o=>?_) (λv es=>aK.first (aK.stuck _ _ _));cases o with
  |map entries clock=>show aA P S (Go.newObj (.mapIter (some m) clock #[] clock) >>= λl=>Pure.pure (Value.pointer (some ⟨l,0,none⟩)));exact aA.bind (aA.newObj trivial) λ_=>aA.pure _
  |_=>exact aA.of_dead λv W es _=>aK.first (aK.stuck _ _ _)
 |_=>exact aA.of_dead λv W es _=>aK.first (aK.stuck _ _ _)
theorem aA.next(r:Nat)(t:TypeId):aA P S (Instr.next (.pointer (some ⟨r,0,none⟩)) false t):=by
 unfold Instr.next;refine aA.getThen (λhs o=>?_) (λv es=>aK.stuck _ _ _);cases o with
 |mapIter mo since seen last=>
  cases mo with
  |none=>exact aA.pure _
  |some m=>
   refine aA.getThen (λ_ o=>?_) (λv es=>aK.stuck _ _ _);cases o with
   |map es clock=>
    simp only[];split
    .exact aA.of_dead λv W es _=>aK.first (aK.unsupported _ _ _)
    .refine aA.bind (aA.choose _) λi=>?_;split
     .exact aA.bind (aA.setObj hs trivial) λ_=>aA.pure _
     .exact aA.pure _
     .exact aA.stuck _
   |_=>exact aA.stuck _
 |_=>exact aA.stuck _
theorem Lk{t:TypeId}{x:Operand}{m:Nat}(dm:o.op=.range t x)(hx:a.eval x=.map (some m)):aA P S (execOp a.eval o):=by unfold execOp;simp only[dm,hx];exact aA.bind (aA.range t m) λ_=>aA.pure _
theorem Lo{t kt et:TypeId}{x:Operand}{m c:Nat}{es:Array MapEntry}{u:World}(dm:o.op=.range t x)(hx:a.eval x=.map (some m))(ht:P.underlying t=some (.map kt et))(hm:u.heap[m]?=some (.map es c)):(execOp a.eval o).run P u=.ok (.value (.pointer (some ⟨u.heap.size,0,none⟩))) (u.alloc (.mapIter (some m) c #[] c)):=by unfold execOp;simp[dm,hx,run_range_map u t kt et m es c ht hm]
theorem sF{x:Operand}{r:Nat}(dm:o.op=.next x false)(hx:a.eval x=.pointer (some ⟨r,0,none⟩)):aA P S (execOp a.eval o):=by unfold execOp;simp only[dm,hx];exact aA.bind (aA.next r _) λ_=>aA.pure _
theorem Ng{x:Operand}{r m c since last:Nat}{u:World}(dm:o.op=.next x false)(hx:a.eval x=.pointer (some ⟨r,0,none⟩))(hr:u.heap[r]?=some (.mapIter (some m) since #[] last))(hm:u.heap[m]?=some (.map #[] c)):∃w',Twin u w'∧(execOp a.eval o).run P u=.ok (.value (.tuple #[.bool false])) w':=by refine⟨u,.refl u,?_⟩;unfold execOp;simp[dm,hx,Instr.next,getObj,Sem.run,hr,hm,choose,Question.forced]
end
section
variable {P:Program}{Stop:Goroutine->(Nat->Prop)->World->Prop}{S:Nat->Prop}{v:World}{fn:FuncId}{cs:List Frame}{k:List Item}{n:Nat}{f:Nat->Value}{ops:Array Oper}{i:Nat}{rest:List Nat}{dst:Option Tmp}{op:Op}{ty:TypeId}{pos:String}{dw:Array Edge}{dv:Option (Nat×Bool)}
theorem Bd{t:TypeId}(ho:ops[i]?=some ⟨dst,op,ty,pos,dw,dv⟩)(hw:Region.wanted ⟨dst,op,ty,pos,dw,dv⟩ (yielded ops (TA n f))=true)(dm:op=.makeMap t none)
  (hn:∀v',Ext v v'->v'.heap[v.heap.size]?=some (.map #[] 0)->Reach P Stop (G ((base fn).at ⟨TA n (aG f dst (.map (some v.heap.size))),[]⟩ (.inRegion ops rest::k)) cs) S v') :
  Reach P Stop (G ((base fn).at ⟨TA n f,[]⟩ (.inRegion ops (i::rest)::k)) cs) S v:=by
 refine fC (by simp[base]) ho hw (Jo dm) λu hu=>⟨_,_,.inl (Jq dm),?_⟩
 rw[cC];have:=hn (u.alloc (.map #[] 0)) ((Ext.twin hu).trans _ _ _ (Ext.alloc _ _)) (by rw[<-hu.heap];exact bI _ _);rwa [<-hu.heap]at this
theorem sB{t kt et:TypeId}{x:Operand}{m c:Nat}{es:Array MapEntry}(ho:ops[i]?=some ⟨dst,op,ty,pos,dw,dv⟩)(hw:Region.wanted ⟨dst,op,ty,pos,dw,dv⟩ (yielded ops (TA n f))=true)(dm:op=.range t x)(hx:(⟨TA n f,[]⟩:Act).eval x=.map (some m))(ht:P.underlying t=some (.map kt et))(hm:v.heap[m]?=some (.map es c))
  (hn:∀v',Ext v v'->v'.heap[v.heap.size]?=some (.mapIter (some m) c #[] c)->Reach P Stop (G ((base fn).at ⟨TA n (aG f dst (.pointer (some ⟨v.heap.size,0,none⟩))),[]⟩ (.inRegion ops rest::k)) cs) S v') :
  Reach P Stop (G ((base fn).at ⟨TA n f,[]⟩ (.inRegion ops (i::rest)::k)) cs) S v:=by
 refine fC (by simp[base]) ho hw (Lk dm hx) λu hu=>⟨_,_,.inl (Lo dm hx ht ((Ext.twin hu).row hm)),?_⟩
 rw[cC];have:=hn (u.alloc (.mapIter (some m) c #[] c)) ((Ext.twin hu).trans _ _ _ (Ext.alloc _ _)) (by rw[<-hu.heap];exact bI _ _);rwa [<-hu.heap]at this
theorem Lu{x:Operand}{r m c since last:Nat}(ho:ops[i]?=some ⟨dst,op,ty,pos,dw,dv⟩)(hw:Region.wanted ⟨dst,op,ty,pos,dw,dv⟩ (yielded ops (TA n f))=true)(dm:op=.next x false)(hx:(⟨TA n f,[]⟩:Act).eval x=.pointer (some ⟨r,0,none⟩))(hr:v.heap[r]?=some (.mapIter (some m) since #[] last))(hm:v.heap[m]?=some (.map #[] c))
  (hn:Reach P Stop (G ((base fn).at ⟨TA n (aG f dst (.tuple #[.bool false])),[]⟩ (.inRegion ops rest::k)) cs) S v) :
  Reach P Stop (G ((base fn).at ⟨TA n f,[]⟩ (.inRegion ops (i::rest)::k)) cs) S v:=by
 refine fC (by simp[base]) ho hw (sF dm hx) λu hu=>?_
 obtain⟨w',ht,hr⟩:=Ng (P:=P) (o:=⟨dst,op,ty,pos,dw,dv⟩) dm hx ((Ext.twin hu).row hr) ((Ext.twin hu).row hm);refine⟨_,w',.inl hr,?_⟩;rw[cC];exact Reach.twin ⟨(hu.trans ht).heap.symm,(hu.trans ht).os.symm,(hu.trans ht).output.symm⟩ hn
end
end Go.Vw
namespace Go.Proofs.YtpiefebngnlfoaaGreatDoor
open Go.RowKit Go.Conc Go.Vw
section
variable {X D DB M:Nat}{RB:Nat->Nat}{nd nb:Nat}{r l:Value}{w w' v:World}{S:Nat->Prop}
end
theorem Vk:∃i z,Tryz.prog.info? 4=some i∧i.zero=some z∧i.size=1∧i.bytes=1∧z.cells=#[z]:=⟨_,_,rfl,rfl,rfl,rfl,rfl⟩
theorem oZ:Tryz.zeroCells137=eF 96:=by kernel_rfl
theorem xT(y0 y1:Value)(f:Nat->Value):(((Array.map f (Array.range 2)).setIfInBounds 0 y0).setIfInBounds 1 y1)=#[y0,y1]:=by apply Array.ext';simp[List.range,List.range.loop]
theorem sH{P:Program}{o:Oper}{a:Act}{x0 x1:Operand}{t e:TypeId}{i:TypeInfo}{z y0 y1:Value}(dm:o.op=Op.buildSlice t 2 #[(0,x0),(1,x1)])
  (h1:P.underlying t=some (.slice e)) (h2:P.info? e=some i) (h3:i.zero=some z) (h4:i.size=1) (h6:z.cells=#[z]) (xm:a.eval x0=y0) (KU:y0.cells=#[y0]) (ub:a.eval x1=y1) (KT:y1.cells=#[y1]) (u:World) :
  (execOp a.eval o).run P u=.ok (.value (.slice (some ⟨u.heap.size,0,none⟩) 2 2)) (u.alloc (.cells #[y0,y1] e)):=by
 have q:∀f:Nat->Value,(((Array.map f (Array.range 2)).setIfInBounds 0 y0).setIfInBounds 1 y1)=#[y0,y1]:=xT y0 y1;simp[execOp,dm,xm,KU,ub,KT,Instr.buildSlice,cw h1,sizeOf,typeInfo,h2,h4,zeroValue,h3,h6,Instr.fill,newRow];rw[q]
section
variable {X D DB M:Nat}{RB:Nat->Nat}{nd nb:Nat}{r l:Value}{w w' v:World}{S:Nat->Prop}
end
theorem Xo(s:ByteArray):∀(k i:Nat)(r:List UInt8),s.size-i<=k->r≠[]->ByteArray.toList.loop s i r≠[]:=by
 intro k;induction k with
 |zero=>intro i r hk hr;unfold ByteArray.toList.loop;rw[ah (by omega)];simpa using hr
 |succ k ih=>
  intro i r hk hr;unfold ByteArray.toList.loop;split
  .exact ih _ _ (by omega) (by simp)
  .simpa using hr
theorem Pi{s:ByteArray}(h:s.size≠0):¬s.toList=[]:=by unfold ByteArray.toList ByteArray.toList.loop;rw[ai (by omega)];exact Xo s s.size _ _ (by omega) (by simp)
def eT(z:Nat->Nat):Nat->Nat
 |0=>0
 |k+1=>if eT z k≠0 then eT z k else z k
theorem xI(z:Nat->Nat)(k:Nat):eT z (k+1)=if eT z k≠0 then eT z k else z k:=rfl
def okZ(z:Nat->Nat):Nat->Bool
 |0=>true
 |k+1=>okZ z k&&(decide (z k=0)||decide (eT z k=0)||decide (z k=eT z k))
theorem zrep(n:Nat):(Array.range n).map (λi=>(eF 96)[i%(eF 96).size]!)=eF n:=by
 unfold eF;apply Array.map_congr_left;intro i _;have h:i%((Array.range 96).map λ_=>Value.int .u8 0).size<96:=by
  have:((Array.range 96).map λ_=>Value.int .u8 0).size=96:=by simp
  rw[this];exact Nat.mod_lt _ (by omega)
 rw[getElem!_pos _ _ (by simpa using h)];simp
theorem Ha:∃i,Tryz.prog.info? 137=some i∧i.zero=some (.agg (eF 96))∧i.size=96∧i.bytes=96:=by rw[<-oZ];exact⟨_,rfl,rfl,rfl,rfl⟩
theorem Lp(m:Nat)(hm:m<=64)(xv:m≠0)(u:World):(Instr.makeSlice 116 (.int .i64 (m:Nat)) (.int .i64 (m:Nat))).run Tryz.prog u=.ok (.slice (some ⟨u.heap.size,0,none⟩) m m) (u.alloc (.cells (eF (m*96)) 137)):=by
 obtain⟨inf,hq,h3,h1,h2⟩:=Ha;have wl:IntKind.i64.wrap (m:Int)=(m:Int):=by rw[IntKind.wrap_i64];omega
 have n1:¬((m:Int)<0):=by omega
 have n2:¬((281474976710656:Int)<96*(m:Int)):=by omega
 have n3:¬(m*96 > roomBytes):=by simp only[roomBytes];omega
 have hz:=zrep (m*96);simp[Instr.makeSlice,cw Tryz.underlying116,asInt,asIntOf,typeInfo,hq,h1,h2,h3,sizeOf,askRoom,newRow,zeroValue,wl,n1,n2,n3,xv,Value.cells,hz];intro h0;exact absurd h0 (by omega)
theorem Pw{o:Oper}{a:Act}{l c:Operand}(m:Nat)(hm:m<=64)(xv:m≠0)(dm:o.op=.makeSlice 116 l c)(hl:a.eval l=.int .i64 (m:Nat))(hc:a.eval c=.int .i64 (m:Nat))(u:World):(execOp a.eval o).run Tryz.prog u=.ok (.value (.slice (some ⟨u.heap.size,0,none⟩) m m)) (u.alloc (.cells (eF (m*96)) 137)):=by unfold execOp;simp only[dm,hl,hc,df,Lp m hm xv u,dc,dg]
def gV(n j nb:Nat)(RB:Nat->Nat):Array Value:=(Array.range n).map λi=>if i<j then .slice (some ⟨RB i,0,none⟩) nb nb else .slice none 0 0
theorem Ns(n j nb:Nat)(RB:Nat->Nat):(gV n j nb RB).size=n:=by simp[gV]
theorem oE{n j nb i:Nat}{RB:Nat->Nat}(hi:i<n):(gV n j nb RB)[i]?=some (if i<j then .slice (some ⟨RB i,0,none⟩) nb nb else .slice none 0 0):=by simp[gV,hi]
theorem xD{n j nb g:Nat}{RB:Nat->Nat}(hj:j<n):(gV n j nb RB).setIfInBounds j (.slice (some ⟨g,0,none⟩) nb nb)=gV n (j+1) nb λi=>if i=j then g else RB i:=by
 apply au;intro i;rw[aj];by_cases e:j=i
 .subst e;simp[gV,hj]
 .rw[ah e];by_cases hi:i<n
  .rw[oE hi,oE hi];have:¬i=j:=λh=>e h.symm;simp only[this,if_false];by_cases h1:i<j
   .rw[ai h1,ai (by omega)]
   .rw[ah h1,ah (by omega)]
  .simp[gV,hi]
theorem Ip:∃i,Tryz.prog.info? 94=some i∧i.size=3∧i.bytes=24:=⟨_,rfl,rfl,rfl⟩
theorem Pz{o:Oper}{a:Act}{l c:Operand}(dm:o.op=.makeSlice 91 l c)(hl:a.eval l=.int .i64 0)(hc:a.eval c=.int .i64 0)(u:World):(execOp a.eval o).run Tryz.prog u=.ok (.value (.slice (some ⟨u.heap.size,0,none⟩) 0 0)) (u.alloc (.cells #[] 94)):=by
 obtain⟨inf,hq,h1,h2⟩:=Ip;have wl:IntKind.i64.wrap 0=0:=rfl;unfold execOp;simp[dm,hl,hc,Instr.makeSlice,cw Tryz.underlying91,asInt,asIntOf,typeInfo,hq,h1,h2,sizeOf,askRoom,newRow,wl];have e:Array.map (λ_:Nat=>(default:Value)) (Array.range 0)=#[]:=by apply Array.ext';simp
 rw[e]
section
variable {X D DB M:Nat}{RB:Nat->Nat}{nd nb:Nat}{r l:Value}{v:World}{S:Nat->Prop}
end
def zs(n:Nat):ByteArray:=strOfNums (List.replicate n 0)
theorem Gz:∃i z,Tryz.prog.info? 9=some i∧i.zero=some z∧i.size=1∧i.bytes=16∧z.cells=#[z]:=⟨_,_,rfl,rfl,rfl,rfl,rfl⟩
theorem Tz{B n c:Nat}{u:World}(hz:∀i,i<n->u.cell? ⟨B,i,none⟩=some (.int .u8 0)):(convert 43 9 (.slice (some ⟨B,0,none⟩) n c)).run Tryz.prog u=.ok (.string (zs n)) u:=
 run_convert_bytes_arg (P:=Tryz.prog) u 43 5 Tryz.underlying43 Tryz.underlying5 B 0 n c (List.replicate n 0) (by simp) (λi hi=>by rw[an,hz i hi];simp[List.getD,List.getElem?_replicate,hi]) 9 Tryz.underlying9
theorem pR{w:World}{b:Nat}{e:Value}{t:TypeId}(h:w.heap[b]?=some (.cells #[e] t)):∀j y,[e][j]?=some y->w.cell? ((⟨b,0,none⟩:Addr).add j)=some y:=by
 intro j y hy;cases j with
 |zero=>simp only[List.getElem?_cons_zero,cr]at hy;subst hy;rw[Addr.add_lit];exact(ab _ b 0 _ _ _ h).trans rfl
 |succ j=>simp at hy
def oT(z:Nat->Nat)(k:Nat):List Value:=(List.range k).map λi=>.string (zs (z i))
theorem Pg(z:Nat->Nat)(k:Nat):oT z k++[.string (zs (z k))]=oT z (k+1):=by simp[oT,List.range_succ]
