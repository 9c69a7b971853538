import Derived.Test.YtpiefebngnlfoaaGreatDoorLh
import Derived.Conc.DeferLaws
import Derived.Test.YtpiefebngnlfoaaGreatDoorRows
import Derived.WalkKit
import Derived.Laws.BitsAllLaws
import Derived.ArgAppend
set_option maxRecDepth 99999
set_option maxHeartbeats 0
set_option linter.unusedVariables false
set_option linter.unusedSimpArgs false
namespace Go.Vw
open Go.Conc
section
variable {P:Program}{F:FuncId->Bool}{Stop:Goroutine->(Nat->Prop)->World->Prop}{S:Nat->Prop}{v:World}{fn:FuncId}{cs:List Frame}{k:List Item}{n:Nat}{ops:Array Oper}{i:Nat}{rest:List Nat}{o:Oper}{b:Frame}{a:Act}{α : Type}
def jG(v W:World):World:={v with tape:=W.tape,drawn:=W.drawn}
theorem wD(v W:World):Twin v (jG v W):=⟨rfl,rfl,rfl⟩
structure Step(P:Program)(S:Nat->Prop)(w' W W':World)(es:Array Event):Prop where
 ev:∀e∈es,fI S W'.heap.size e
 size:W.heap.size<=W'.heap.size
 hid:∀b,S b->W'.heap[b]?=W.heap[b]?
 rel:Rel P S 0 w' W'
theorem Hq{s:Sem α}(sa:aA P S s){W:World}(hR:Rel P S 0 v W){x:α}{w':World}(hr:s.run P (jG v W)=.ok x w'):∃W' es,s.runT P W #[]=(.ok x W',es)∧Step P S w' W W' es:=by
 have e1:=Sem.runT_fst P s (jG v W) #[];rw[hr]at e1;cases jj:s.runT P (jG v W) #[]with
 |mk r fw=>
 rw[jj]at e1;simp only at e1;subst e1;have zd:Rel P S w'.drawn (jG v W) W:=⟨λj q _=>rfl,hR.os,hR.output,hR.size,hR.seen,hR.hid,hR.tame,hR.high⟩;have hA:=sa w'.drawn (jG v W) W #[] zd;rw[jj]at hA;obtain⟨W',e,g⟩:=hA (ae _);have hK:=lB (P:=P) s W #[];rw[e]at hK;refine⟨W',fw,e,λx hx=>?_,hK.size,g.hidden,g.rel.zero⟩;obtain⟨l,el,hl⟩:=g.grow;have jh:x∈fw.toList:=by simpa using hx
 rw[el]at jh;simp at jh;have:=hl x jh;rwa [g.rel.size]at this
theorem Ps{s:Sem α}(sa:aA P S s){W:World}(hR:Rel P S 0 v W){x:Value}{w':World}(hr:s.run P (jG v W)=.halt (.panic x) w'):∃W' es,s.runT P W #[]=(.halt (.panic x) W',es)∧Step P S w' W W' es:=by
 have e1:=Sem.runT_fst P s (jG v W) #[];rw[hr]at e1;cases jj:s.runT P (jG v W) #[]with
 |mk r fw=>
 rw[jj]at e1;simp only at e1;subst e1;have zd:Rel P S w'.drawn (jG v W) W:=⟨λj q _=>rfl,hR.os,hR.output,hR.size,hR.seen,hR.hid,hR.tame,hR.high⟩;have hA:=sa w'.drawn (jG v W) W #[] zd;rw[jj]at hA;rcases hA with⟨hd,_⟩|hA
 .exact hd.elim
 obtain⟨_,W',e,g⟩:=hA (ae _);have hK:=lB (P:=P) s W #[];rw[e]at hK;refine⟨W',fw,e,λx hx=>?_,hK.size,g.hidden,g.rel.zero⟩;obtain⟨l,el,hl⟩:=g.grow;have jh:x∈fw.toList:=by simpa using hx
 rw[el]at jh;simp at jh;have:=hl x jh;rwa [g.rel.size]at this
theorem mA{s:Sem α}{W:World}{r:Result α}{es:Array Event}(h:s.runT P W #[]=(r,es)):s.run P W=r∧s.events P W #[]=es:=by have:=Sem.runT_fst P s W #[];rw[h]at this;exact⟨this.symm,by unfold Sem.events;rw[h]⟩
theorem fC(hk:b.kind≠.early)(ho:ops[i]?=some o)(hw:Region.wanted o (yielded ops a.tmps)=true)(sa:aA P S (execOp a.eval o))
  (h:∀u,Twin v u->∃x w',((execOp a.eval o).run P u=.ok (.value x) w'∨((execOp a.eval o).run P u=.ok .skip w'∧x=undef))∧Reach P Stop (G (b.at (a.put o.dst x) (.inRegion ops rest::k)) cs) S w') :
  Reach P Stop (G (b.at a (.inRegion ops (i::rest)::k)) cs) S v:=by
 refine gJ rfl λW hR=>?_
 obtain⟨x,w',dq,hn⟩:=h _ (wD v W);rcases dq with dq|⟨dq,rfl⟩
 .obtain⟨W',es,e,hS⟩:=Hq sa hR dq;obtain⟨e1,e2⟩:=mA e;refine⟨_,W',listed P b.fn a o W,w',stepG_value ho hw hk e1,λy hy=>?_,hS.size,hS.hid,hS.rel,hn⟩
  have hm:=mem_listed hy;rw[e2]at hm;exact hS.ev y hm
 .obtain⟨W',es,e,hS⟩:=Hq sa hR dq;obtain⟨e1,e2⟩:=mA e;refine⟨_,W',listed P b.fn a o W,w',stepG_none ho hw hk e1,λy hy=>?_,hS.size,hS.hid,hS.rel,hn⟩
  have hm:=mem_listed hy;rw[e2]at hm;exact hS.ev y hm
theorem pD{x:Value}(hk:b.kind≠.early)(ho:ops[i]?=some o)(hw:Region.wanted o (yielded ops a.tmps)=true)(sa:aA P S (execOp a.eval o))(h:∀u,Twin v u->(execOp a.eval o).run P u=.halt (.panic x) u)
  (hn:∀todo,Reach P Stop (G {b.at a todo with mode:=.panicking [{v:=x,recovered:=false}]} cs) S v):Reach P Stop (G (b.at a (.inRegion ops (i::rest)::k)) cs) S v:=by
 refine gJ rfl λW hR=>?_
 obtain⟨W',es,e,hS⟩:=Ps sa hR (h _ (wD v W));obtain⟨e1,e2⟩:=mA e;have rf:(b.kind==CallKind.early)=false:=by simpa using hk
 refine⟨G {b.at a (.inRegion ops (i::rest)::k) with mode:=.panicking [{v:=x,recovered:=false}]} cs,W',listed P b.fn a o W,_,?_,λy hy=>?_,hS.size,hS.hid,hS.rel,Reach.twin (wD v W).symm (hn _)⟩
 .rw[stepG_oper ho hw];simp[stepG.apply,e,e1,e2,G,Frame.at,Frame.raise,rf,GStep.after,listed]
 .have hm:=mem_listed hy;rw[e2]at hm;exact hS.ev y hm
theorem Bg{f:FuncId}{PS:Array Operand}{gq:Array TypeId}(ho:ops[i]?=some o)(hw:Region.wanted o (yielded ops a.tmps)=true)(hk:b.kind≠.early)(dm:o.op=.defer {callee:=.value (.func f),args:=PS,argTypes:=gq})
  (hn:Reach P Stop (G (b.at (Act.put ⟨a.tmps,dcall f (PS.map a.eval)::a.defers⟩ o.dst undef) (.inRegion ops rest::k)) cs) S v):Reach P Stop (G (b.at a (.inRegion ops (i::rest)::k)) cs) S v:=
 cP rfl (λw=>stepG_defer ho hw hk dm) hn
theorem Kj{fr c:Frame}{chain:List PanicEntry}{gf:Func}(hm:fr.mode=.panicking chain)(hd:fr.defers=[])(hf:P.funcs[fr.fn]?=some gf)(hn:Reach P Stop (G (c.raise chain) cs) S v):Reach P Stop (G fr (c::cs)) S v:=by refine cP rfl (λw=>?_) hn;simp[G,stepG,unwind,hm,hd,Frame.catches,hf]
theorem Ai{fr:Frame}{f:FuncId}{gf:Func}{c:Code}{args:Array Value}{ds:List Deferred}(hm:fr.mode≠.run)(hd:fr.defers=dcall f args::ds)(hf:P.funcs[f]?=some gf)(fv:(gf.name == "runtime.NumGoroutine")=false)(hb:gf.body=some c)
  (hn:Reach P Stop (G ((baseD f).at {tmps:=args++Array.replicate (gf.ntmps - args.size) undef,defers:=[]} [.code c]) ({fr with defers:=ds}::cs)) S v):Reach P Stop (G fr cs) S v:=by
 have h1:¬gf.name = "runtime.NumGoroutine":=by simpa using fv
 refine cP rfl (λw=>?_) hn;rw[<-enter_atD args hf hb];obtain⟨PC,tmps',lr,WI,PX,A_,WM⟩:=fr;simp only at hm hd;subst hd;cases PX with
 |run=>exact absurd rfl hm
 |returning=>simp[G,stepG,unwind,callDeferred,dcall,invoke,callFunc,hf,h1,hb,GStep.after,seen_none]
 |panicking ch=>simp[G,stepG,unwind,callDeferred,dcall,invoke,callFunc,hf,h1,hb,GStep.after,seen_none]
theorem Jt{c:Frame}{x:Value}{IN:List PanicEntry}(hk:b.kind=.deferred)(ho:ops[i]?=some o)(hw:Region.wanted o (yielded ops a.tmps)=true)(hr:∀w,(execOp a.eval o).runT P w #[]=(.ok .recover w,#[]))(hm:c.mode=.panicking ({v:=x,recovered:=false}::IN))
  (hn:Reach P Stop (G (b.at (a.put o.dst x) (.inRegion ops rest::k)) ({c with mode:=.panicking ({v:=x,recovered:=true}::IN)}::cs)) S v):Reach P Stop (G (b.at a (.inRegion ops (i::rest)::k)) (c::cs)) S v:=by
 refine cP rfl (λw=>?_) hn;have ij:(b.at a (.inRegion ops (i::rest)::k)).finish x=b.at (a.put o.dst x) (.inRegion ops rest::k):=by rw[Frame.finish_at,ho];rfl
 obtain⟨e1,e2⟩:=mA (hr w);rw[stepG_oper ho hw,<-ij];simp[stepG.apply,e1,e2,G,Frame.at,hk,GStep.after,tryRecover,hm,seen_none]
theorem Me{c:Frame}{x:Value}{gf:Func}(hk:b.kind=.deferred)(hd:a.defers=[])(hf:P.funcs[b.fn]?=some gf){y:Value}(hr:∀w,(results gf a.tmps).runT P w #[]=(.ok y w,#[]))(hm:c.mode=.panicking [{v:=x,recovered:=true}])
  {todo:List Item} (hn:Reach P Stop (G {c with mode:=.returning} cs) S v):Reach P Stop (G {b.at a todo with mode:=.returning} (c::cs)) S v:=by
 refine cP rfl (λw=>?_) hn;obtain⟨e1,e2⟩:=mA (hr w);simp[G,stepG,unwind,doReturn,Frame.at,hk,hd,hf,e1,e2,hm,seen_none,GStep.after]
def zJ(P:Program)(g:FuncId)(args:Array Value)(S:Nat->Prop)(v:World)(Post:Value->(Nat->Prop)->World->Prop):Prop:=
 ∀(Stop:Goroutine->(Nat->Prop)->World->Prop)(c:Frame)(cs:List Frame),(∀x S' v',View P S' v'->Post x S' v'->Reach P Stop (G (c.raise [{v:=x,recovered:=false}]) cs) S' v')->Reach P Stop (G (Frame.enter P g args .normal) (c::cs)) S v
theorem Mp{g:FuncId}{gf:Func}{c:Code}{args:Array Value}{Post:Value->(Nat->Prop)->World->Prop}(hf:P.funcs[g]?=some gf)(hb:gf.body=some c)(hn:gf.ntmps=n)(hs:args.size<=n)
  (h:∀(Stop:Goroutine->(Nat->Prop)->World->Prop)(cc:Frame)(cs:List Frame),
   (∀(f':Nat->Value)(todo:List Item)(S':Nat->Prop)(v':World)(x:Value),Post x S' v'->Reach P Stop (G {(base g).at ⟨TA n f',[]⟩ todo with mode:=.panicking [{v:=x,recovered:=false}]} (cc::cs)) S' v')->
   Reach P Stop (G ((base g).at ⟨TA n (eG args),[]⟩ [.code c]) (cc::cs)) S v):zJ P g args S v Post:=by
 intro Stop cc cs hr;rw[enter_at _ hf hb,hn,qA hs];exact h Stop cc cs λf' todo S' v' x q=>Kj rfl rfl hf (mD λhv=>hr x S' v' hv q)
theorem aA.makeMap(t:TypeId):aA P S (Instr.makeMap t none):=aA.bind (aA.newObj trivial) λ_=>aA.pure _
theorem aA.panic_iface(t:TypeId)(x:Value):aA P S (Instr.panic (.iface t x)):=aA.goPanic _
end
section
variable {P:Program}{F:FuncId->Bool}{Stop:Goroutine->(Nat->Prop)->World->Prop}{S:Nat->Prop}{v:World}{fn:FuncId}{cs:List Frame}{k:List Item}{n:Nat}{f:Nat->Value}{ops:Array Oper}{i:Nat}{rest:List Nat}{o:Oper}{dst:Option Tmp}{op:Op}{ty:TypeId}{pos:String}{dw:Array Edge}{dv:Option (Nat×Bool)}{ds:List Deferred}{tmps:Array Value}{a:Act}
theorem sA{x y:Code}(h:Reach P Stop (G ((base fn).at ⟨tmps,ds⟩ (.code x::.code y::k)) cs) S v):Reach P Stop (G ((base fn).at ⟨tmps,ds⟩ (.code (.seq x y)::k)) cs) S v:=cP rfl (λ_=>stepG_seq) h
theorem sE{ops:Array Oper}(h:Reach P Stop (G ((base fn).at ⟨tmps,ds⟩ k) cs) S v):Reach P Stop (G ((base fn).at ⟨tmps,ds⟩ (.inRegion ops []::k)) cs) S v:=cP rfl (λ_=>stepG_region_end) h
theorem sR{id:Nat}{ops:List Oper}(h:Reach P Stop (G ((base fn).at ⟨tmps,ds⟩ (.inRegion ops.toArray (tO 0 ops)::k)) cs) S v):Reach P Stop (G ((base fn).at ⟨tmps,ds⟩ (.code (.region id ops.toArray false)::k)) cs) S v:=
 cP rfl (λ_=>stepG_region) (by rw[yY]at h;simpa using h)
theorem sO(hG:Good P F)(ho:ops[i]?=some ⟨dst,op,ty,pos,dw,dv⟩)
  (h:∀u,Twin v u->∀K:Value->World->Prop,(∀x,Reach P Stop (G ((base fn).at ⟨TA n (aG f dst x),ds⟩ (.inRegion ops rest::k)) cs) S v->K x u)->uA K ((execOp (Act.eval ⟨TA n f,ds⟩) ⟨dst,op,ty,pos,dw,dv⟩).run P u))
  (hw:Region.wanted ⟨dst,op,ty,pos,dw,dv⟩ (yielded ops (TA n f))=true:=by first|rfl|(simp[Region.wanted,yielded,eC, *];first|done|fail)) (dx:bW P F ⟨dst,op,ty,pos,dw,dv⟩=true:=by kernel_rfl) :
  Reach P Stop (G ((base fn).at ⟨TA n f,ds⟩ (.inRegion ops (i::rest)::k)) cs) S v:=by
 refine fC (by simp[base]) ho hw (aA.execOp hG.cc hG.closed (λg=>rfl) dx) λu hu=>?_
 have h1:=h u hu (λx w=>∃x' w',((execOp (Act.eval ⟨TA n f,ds⟩) ⟨dst,op,ty,pos,dw,dv⟩).run P u=.ok (.value x) w->(execOp (Act.eval ⟨TA n f,ds⟩) ⟨dst,op,ty,pos,dw,dv⟩).run P u=.ok (.value x') w')∧Reach P Stop (G ((base fn).at (Act.put ⟨TA n f,ds⟩ dst x') (.inRegion ops rest::k)) cs) S w') λx hx=>⟨x,u,λe=>e,by
  rw[cC]
  exact Reach.twin ⟨hu.heap.symm,hu.os.symm,hu.output.symm⟩ hx⟩
 cases hr:(execOp (Act.eval ⟨TA n f,ds⟩) ⟨dst,op,ty,pos,dw,dv⟩).run P u with
 |halt y w'=>rw[hr]at h1;exact h1.elim
 |ok nx w'=>
  rw[hr]at h1;cases nx with
  |value x=>obtain⟨x',NS,e,hn⟩:=h1;exact⟨x',NS,.inl (e rfl),hn⟩
  |_=>exact h1.elim
theorem Ma{g:FuncId}{gf:Func}{c:Code}{args:Array Operand}{gq:Array TypeId}{vs:Array Value}{Post:Value->(Nat->Prop)->World->Prop}(ho:ops[i]?=some o)(hw:Region.wanted o (yielded ops tmps)=true)(dm:o.op=.call {callee:=.value (.func g),args,argTypes:=gq})
  (hf:P.funcs[g]?=some gf) (fv:(gf.name == "runtime.NumGoroutine")=false) (hb:gf.body=some c) (qe:args.map (⟨tmps,ds⟩:Act).eval=vs) (hc:zJ P g vs S v Post)
  (hn:∀x S' v' todo,View P S' v'->Post x S' v'->Reach P Stop (G {(base fn).at ⟨tmps,ds⟩ todo with mode:=.panicking [{v:=x,recovered:=false}]} cs) S' v') :
  Reach P Stop (G ((base fn).at ⟨tmps,ds⟩ (.inRegion ops (i::rest)::k)) cs) S v:=
 cP rfl (λw=>pC ho hw (by simp[base]) dm hf fv hb qe) (hc Stop _ cs λx S' v' hv q=>hn x S' v' _ hv q)
theorem pH{x:Operand}{t:TypeId}{e:Value}(dm:o.op=.panic x)(hx:a.eval x=.iface t e):aA P S (execOp a.eval o):=by unfold execOp;simp only[dm,hx];exact aA.bind (aA.panic_iface _ _) λ_=>aA.pure _
theorem pI{x:Operand}{t:TypeId}{e:Value}{u:World}(dm:o.op=.panic x)(hx:a.eval x=.iface t e):(execOp a.eval o).run P u=.halt (.panic (.iface t e)) u:=by unfold execOp;simp[dm,hx,Instr.panic,goPanic]
end
section
variable {P:Program}{F:FuncId->Bool}{Stop:Goroutine->(Nat->Prop)->World->Prop}{S:Nat->Prop}{v:World}{fn:FuncId}{cs:List Frame}{k:List Item}{n:Nat}{ops:Array Oper}
def iG(l:Array Bool):List Nat->Nat
 |[]=>0
 |j::js=>(if l.getD j true=false then 1 else 0)+iG l js
theorem wZ(l:Array Bool):∀js,iG l js<=js.length
 |[]=>ae _
 |j::js=>by have:=wZ l js;simp only[iG,av];split<;>omega
theorem wB{l:Array Bool}{i:Nat}(hi:l.getD i true=false):∀js,iG (l.setIfInBounds i true) js<=iG l js∧(i∈js->iG (l.setIfInBounds i true) js+1<=iG l js)
 |[]=>⟨ae _,λh=>by cases h⟩
 |j::js=>by
  obtain⟨h1,h2⟩:=wB hi js;have dp:i<l.size:=by
   refine Nat.lt_of_not_le λh=>?_
   simp[aa,af h]at hi
  by_cases e:i=j
  .subst e;have e1:(l.setIfInBounds i true).getD i true=true:=by simp[aa,aj,dp]
   simp only[iG,e1,hi,Bool.true_eq_false,if_false,if_true];exact⟨by omega,λ_=>by omega⟩
  .have e1:(l.setIfInBounds i true).getD j true=l.getD j true:=by simp[aa,aj,e]
   simp only[iG,e1];refine⟨by omega,λh=>?_⟩
   have:=h2 (by
    rcases List.mem_cons.1 h with h|h
    .exact absurd h e
    .exact h)
   omega
theorem vO{l:Array Bool} : ∀{js:List Nat},iG l js=0->∀j∈js,l.getD j true=true
 |[],_,j,h=>by cases h
 |j'::js,h0,j,h=>by
  simp only[iG]at h0;rcases List.mem_cons.1 h with rfl|h
  .cases hb:l.getD j true with
   |true=>rfl
   |false=>rw[ai hb]at h0;omega
  .exact vO (by omega) j h
def jH(ops:Array Oper):Bool:=(List.range ops.size).all λi=>(bQ ops i).all λa=>decide (a<i)
theorem Gc{l:Array Bool}(ht:jH ops=true)(hs:l.size=ops.size)(hr:Region.ready .any ops l=[]):∀i,i<ops.size->l.getD i false=true:=by
 intro i;induction i using Nat.strongRecOn with
 |ind i ih=>
  intro hi;cases hb:l.getD i false with
  |true=>rfl
  |false=>
   have hd:∀a∈bQ ops i,l.getD a false=true:=λa ha=>by
    have h1:=List.all_eq_true.1 (List.all_eq_true.1 ht i (by simpa using hi)) a ha;have h2:a<i:=by simpa using h1
    exact ih a h2 (by omega)
   have:i∈Region.ready .any ops l:=by
    refine mem_ready.2 ⟨?_,ops[i],bf hi,λe he ic=>hd _ ?_⟩
    .simpa [aa,hs,hi] using hb
    .unfold bQ;rw[bf hi];exact List.mem_map.2 ⟨e,List.mem_filter.2 ⟨by simpa using he,ic⟩,rfl⟩
   rw[hr]at this;cases this
theorem Rt(ht:jH ops=true)(I:Array Bool->(Nat->Value)->World->Prop)
  (step:∀l f v i rest,l.size=ops.size->I l f v->i∈Region.ready .any ops l->(∀f' v',I (l.setIfInBounds i true) f' v'->Reach P Stop (G ((base fn).at ⟨TA n f',[]⟩ (.inRegion ops rest::k)) cs) S v')->Reach P Stop (G ((base fn).at ⟨TA n f,[]⟩ (.inRegion ops (i::rest)::k)) cs) S v)
  (fin:∀l f v,I l f v->(∀i,i<ops.size->l.getD i false=true)->Reach P Stop (G ((base fn).at ⟨TA n f,[]⟩ (.inRegion ops []::k)) cs) S v) :
  ∀(fuel t:Nat)(l:Array Bool)(f:Nat->Value)(v:World),l.size=ops.size->I l f v->iG l (List.range ops.size)<=fuel->Reach P Stop (G ((base fn).at ⟨TA n f,[]⟩ (.inRegion ops (Region.linearise.go .any ops fuel t l [])::k)) cs) S v:=by
 intro fuel;induction fuel with
 |zero=>
  intro t l f v hs hI hle;have h0:=vO (l:=l) (js:=List.range ops.size) (by omega);simp only[Region.linearise.go,List.reverse_nil];refine fin l f v hI λi hi=>?_
  have:=h0 i (by simpa using hi);simpa [aa,hs,hi] using this
 |succ fuel ih=>
  intro t l f v hs hI hle;simp only[Region.linearise.go]
  change Reach P Stop (G ((base fn).at ⟨TA n f,[]⟩ (.inRegion ops (match (Region.ready .any ops l)[t%(Region.ready .any ops l).length]? with
   |some i=>Region.linearise.go .any ops fuel (t/(Region.ready .any ops l).length) (l.setIfInBounds i true) [i]
   |none=>[].reverse)::k)) cs) S v
  cases hi:(Region.ready .any ops l)[t%(Region.ready .any ops l).length]? with
  |none=>
   have jy:Region.ready .any ops l=[]:=by
    cases hr:Region.ready .any ops l with
    |nil=>rfl
    |cons x xs=>rw[hr]at hi;have dp:t%(x::xs).length<(x::xs).length:=Nat.mod_lt _ (by simp);rw[List.getElem?_eq_none_iff]at hi;omega
   exact fin l f v hI (Gc ht hs jy)
  |some i=>
   simp only[];rw[linearise_go_acc,List.reverse_singleton,List.singleton_append];have hm:=al hi;refine step l f v i _ hs hI hm λf' v' xe=>?_
   obtain⟨h1,o,ho,_⟩:=mem_ready.1 hm;have dp:i<ops.size:=(Array.getElem?_eq_some_iff.1 ho).1;refine ih _ _ f' v' (by simpa using hs) xe ?_;have:=(wB (l:=l) (i:=i) (by simpa using h1) (List.range ops.size)).2 (by simpa using dp);omega
theorem Lx(hm:P.follows .mixedOrders=true)(ht:jH ops=true){id:Nat}{f:Nat->Value}(I:Array Bool->(Nat->Value)->World->Prop)(h0:I (Array.replicate ops.size false) f v)
  (step:∀l f v i rest,l.size=ops.size->I l f v->i∈Region.ready .any ops l->(∀f' v',I (l.setIfInBounds i true) f' v'->Reach P Stop (G ((base fn).at ⟨TA n f',[]⟩ (.inRegion ops rest::k)) cs) S v')->Reach P Stop (G ((base fn).at ⟨TA n f,[]⟩ (.inRegion ops (i::rest)::k)) cs) S v)
  (fin:∀l f v,I l f v->(∀i,i<ops.size->l.getD i false=true)->Reach P Stop (G ((base fn).at ⟨TA n f,[]⟩ (.inRegion ops []::k)) cs) S v) :
  Reach P Stop (G ((base fn).at ⟨TA n f,[]⟩ (.code (.region id ops true)::k)) cs) S v:=by
 refine gJ rfl λW hR=>?_
 refine⟨_,{W with drawn:=W.drawn+1},#[],v,stepG_region_draw,by simp,ae _,λ_ _=>rfl,⟨λj q hj=>by omega,hR.os,hR.output,hR.size,hR.seen,hR.hid,hR.tame,hR.high⟩,?_⟩
 simp only[Region.schedule,hm,Bool.true_or,if_true,Region.linearise];refine Rt ht I step fin _ _ _ _ _ (by simp) h0 ?_;have:=wZ (Array.replicate ops.size false) (List.range ops.size);simpa using this
def aF(ops:Array Oper)(i:Nat):Option Nat:=(ops[i]?).bind (·.dst)
def aU(ops:Array Oper)(f:Nat->Value)(j:Nat):Value:=match aF ops j with
 |some s=>f s
 |none=>undef
def mT(ops:Array Oper):Bool:=(List.range ops.size).all λi=>(List.range ops.size).all λj=>decide (i=j)||(match aF ops i,aF ops j with|some s,some t=>decide (s≠t)|_,_=>true)
theorem nT(h:mT ops=true){i j s:Nat}(hi:i<ops.size)(hj:j<ops.size)(dy:i≠j)(h1:aF ops i=some s):aF ops j≠some s:=λh2=>by have:=List.all_eq_true.1 (List.all_eq_true.1 h i (by simpa using hi)) j (by simpa using hj);simp[h1,h2,dy]at this
theorem eU{l:Array Bool}{i j:Nat}(h:(l.setIfInBounds i true).getD j false=true):j=i∨l.getD j false=true:=by
 by_cases e:i=j
 .exact .inl e.symm
 .right;simpa [aa,aj,e] using h
theorem Bc(hm:P.follows .mixedOrders=true)(ht:jH ops=true)(ha:mT ops=true){id:Nat}{f0:Nat->Value}(spec:Nat->Value->World->Prop)(ei:∀j x w w',spec j x w->Ext w w'->spec j x w')(mf:∀j,j<ops.size->aF ops j=none->∀x w,spec j x w->spec j undef w)
  (step:∀i f w rest,i<ops.size->Ext v w->(∀s,(∀j,j<ops.size->aF ops j≠some s)->f s=f0 s)->(∀a,a∈bQ ops i->spec a (aU ops f a) w)->(∀x w',Ext w w'->spec i x w'->Reach P Stop (G ((base fn).at ⟨TA n (aG f (aF ops i) x),[]⟩ (.inRegion ops rest::k)) cs) S w')->Reach P Stop (G ((base fn).at ⟨TA n f,[]⟩ (.inRegion ops (i::rest)::k)) cs) S w)
  (fin:∀f w,Ext v w->(∀s,(∀j,j<ops.size->aF ops j≠some s)->f s=f0 s)->(∀j,j<ops.size->spec j (aU ops f j) w)->Reach P Stop (G ((base fn).at ⟨TA n f,[]⟩ (.inRegion ops []::k)) cs) S w) :
  Reach P Stop (G ((base fn).at ⟨TA n f0,[]⟩ (.code (.region id ops true)::k)) cs) S v:=by
 refine Lx hm ht (λl f w=>Ext v w∧(∀s,(∀j,j<ops.size->aF ops j≠some s)->f s=f0 s)∧∀j,j<ops.size->l.getD j false=true->spec j (aU ops f j) w) ⟨.refl v,λ_ _=>rfl,λj hj h=>?_⟩ ?_ ?_
 .simp[aa,hj]at h
 .rintro l f w i rest hl ⟨hE,hf,hd⟩ hi dj;obtain⟨h1,o,ho,_⟩:=mem_ready.1 hi;have dp:i<ops.size:=(Array.getElem?_eq_some_iff.1 ho).1;refine step i f w rest dp hE hf (λa h=>?_) λx w' FR hs=>dj _ _ ⟨hE.trans _ _ _ FR,λs im=>?_,λj hj jo=>?_⟩
  .have h2:=kD hi a h;refine hd a ?_ h2;refine Nat.lt_of_not_le λh3=>?_
   rw[<-hl]at h3;simp[aa,af h3]at h2
  .rw[<-hf s im];have:=im i dp;cases om:aF ops i with
   |none=>rfl
   |some t=>
    rw[om]at this;have:s≠t:=λe=>this (by rw[e])
    simp[aG,st,this]
  .by_cases e:j=i
   .subst e;have:aU ops (aG f (aF ops j) x) j=if (aF ops j).isSome then x else undef:=by
     unfold aU;cases om:aF ops j<;>simp[aG,st]
    rw[this];cases om:aF ops j with
    |some t=>simpa using hs
    |none=>simp only[Option.isSome_none,ay,if_false];exact mf j hj om x w' hs
   .have h2:=(eU jo).resolve_left e;have:aU ops (aG f (aF ops i) x) j=aU ops f j:=by
     unfold aU;cases DX:aF ops j with
     |none=>rfl
     |some t=>
      cases DY:aF ops i with
      |none=>rfl
      |some t'=>
       have dy:t≠t':=λe'=>nT ha hj dp e DX (by rw[DY,e'])
       simp[aG,st,dy]
    rw[this];exact ei _ _ _ _ (hd j hj h2) FR
 .rintro l f w ⟨hE,hf,hd⟩ fa;exact fin f w hE hf λj hj=>hd j hj (fa j hj)
end
section
variable {P:Program}{F:FuncId->Bool}{Stop:Goroutine->(Nat->Prop)->World->Prop}{S:Nat->Prop}{v:World}{fn:FuncId}{cs:List Frame}{k k':List Item}{n:Nat}{f:Nat->Value}{ops:Array Oper}{i:Nat}{rest:List Nat}{dst:Option Tmp}{op:Op}{ty:TypeId}{pos:String}{dw:Array Edge}{dv:Option (Nat×Bool)}{tmps:Array Value}
def nx:List Item->Option (List Item)
 |.code (.seq x y)::k=>some (.code x::.code y::k)
 |.code .skip::k=>some k
 |.code (.block id c)::k=>some (.code c::.inBlock id::k)
 |.code (.region _ ⟨ops⟩ false)::k=>some (.inRegion ⟨ops⟩ (tO 0 ops)::k)
 |.inBlock _::k=>some k
 |.inRegion _ []::k=>some k
 |_=>none
theorem rQ(h:nx k=some k')(hr:Reach P Stop (G ((base fn).at ⟨tmps,[]⟩ k') cs) S v):Reach P Stop (G ((base fn).at ⟨tmps,[]⟩ k) cs) S v:=by
 unfold nx at h;split at h
 .cases h;exact rA hr
 .cases h;exact rB hr
 .cases h;exact rC hr
 .cases h;exact rR hr
 .cases h;exact rD hr
 .cases h;exact rE hr
 .cases h
theorem rY{d:Nat}{x:Value}(hG:Good P F)(hn:Reach P Stop (G ((base fn).at ⟨TA n (st f d x),[]⟩ (.inRegion ops rest::k)) cs) S v)(ho:ops[i]?=some ⟨some d,op,ty,pos,dw,dv⟩:=by rfl)
  (hy:∀u,Twin v u->∀K:Result Go.Next->Prop,K (.ok (.value x) u)->K ((execOp (Act.eval ⟨TA n f,[]⟩) ⟨some d,op,ty,pos,dw,dv⟩).run P u):=by intro _ dt K_ dr;go_simp;(try rw[wI _]);(try rw[wU _]);exact dr)
  (hw:Region.wanted ⟨some d,op,ty,pos,dw,dv⟩ (yielded ops (TA n f))=true:=by first|rfl|(simp[Region.wanted,yielded,eC, *];first|done|fail)) (dx:bW P F ⟨some d,op,ty,pos,dw,dv⟩=true:=by kernel_rfl) :
  Reach P Stop (G ((base fn).at ⟨TA n f,[]⟩ (.inRegion ops (i::rest)::k)) cs) S v:=
 bV hG ho hw dx (λu hu=>run_eq_of (hy u hu)) hn
theorem rW{d:Nat}(hn:Reach P Stop (G ((base fn).at ⟨TA n (st f d undef),[]⟩ (.inRegion ops rest::k)) cs) S v)(ho:ops[i]?=some ⟨some d,op,ty,pos,dw,dv⟩:=by rfl)
  (hw:Region.wanted ⟨some d,op,ty,pos,dw,dv⟩ (yielded ops (TA n f))=false:=by first|(simp[Region.wanted,yielded,eC, *];first|done|fail)|(simp[Region.wanted,yielded,eC,undef, *];first|done|fail)) :
  Reach P Stop (G ((base fn).at ⟨TA n f,[]⟩ (.inRegion ops (i::rest)::k)) cs) S v:=wH ho hw hn
theorem rU(i:Nat){d:Nat}{op:Op}{ty:TypeId}{pos:String}{dw:Array Edge}{dv:Option (Nat×Bool)}{x:Value}{fuel:Nat}{l:Array Bool}{f:Nat->Value}(h:iT P F Stop S v fn cs k ops fuel (l.setIfInBounds i true) ⟨TA n (st f d x),[]⟩)(hi:ops[i]?=some ⟨some d,op,ty,pos,dw,dv⟩:=by rfl)
  (hy:∀u,Twin v u->∀K:Result Go.Next->Prop,K (.ok (.value x) u)->K ((execOp (Act.eval ⟨TA n f,[]⟩) ⟨some d,op,ty,pos,dw,dv⟩).run P u):=by intro _ dt K_ dr;go_simp;(try rw[wI _]);(try rw[wU _]);exact dr) (hs:Region.noSelect ops=true:=by first|kernel_rfl|decide +kernel) (hf:Region.free .any ops l i=true:=by first|kernel_rfl|decide +kernel) (hr:(Region.ready .any ops l).contains i=true:=by first|kernel_rfl|decide +kernel)
  (hw:Region.wanted ⟨some d,op,ty,pos,dw,dv⟩ (yielded ops (TA n f))=true:=by first|rfl|(simp[Region.wanted,yielded,eC, *];first|done|fail)) (dx:bW P F ⟨some d,op,ty,pos,dw,dv⟩=true:=by kernel_rfl):iT P F Stop S v fn cs k ops (fuel+1) l ⟨TA n f,[]⟩:=rT hi (λu hu=>run_eq_of (hy u hu)) h hs hf hr hw dx
end
section
variable {P:Program}{F:FuncId->Bool}{Stop:Goroutine->(Nat->Prop)->World->Prop}{S:Nat->Prop}{v:World}{fn:FuncId}{cs:List Frame}{k:List Item}{n:Nat}{f:Nat->Value}{ops:Array Oper}{i:Nat}{rest:List Nat}{dst:Option Tmp}{op:Op}{ty:TypeId}{pos:String}{dw:Array Edge}{dv:Option (Nat×Bool)}{tmps:Array Value}
theorem dV{g:FuncId}{gf:Func}{c:Code}{args:Array Operand}{gq:Array TypeId}{vs:Array Value}{Post:Value->(Nat->Prop)->World->Prop}(hf:P.funcs[g]?=some gf)(hc:aJ P g vs S v Post)
  (hn:∀x S' v',View P S' v'->Post x S' v'->Reach P Stop (G ((base fn).at ⟨TA n (aG f dst x),[]⟩ (.inRegion ops rest::k)) cs) S' v')
  (ho:ops[i]?=some ⟨dst,op,ty,pos,dw,dv⟩:=by rfl) (hw:Region.wanted ⟨dst,op,ty,pos,dw,dv⟩ (yielded ops (TA n f))=true:=by first|rfl|simp[Region.wanted,yielded,eC, *]) (dm:op=.call {callee:=.value (.func g),args,argTypes:=gq}:=by rfl)
  (fv:(gf.name == "runtime.NumGoroutine")=false:=by kernel_rfl) (hb:gf.body=some c:=by rfl) (qe:args.map (⟨TA n f,[]⟩:Act).eval=vs:=by simp[Act.eval, *];try rfl) :
  Reach P Stop (G ((base fn).at ⟨TA n f,[]⟩ (.inRegion ops (i::rest)::k)) cs) S v:=vT ho hw dm hf fv hb qe hc hn
theorem rK{g:FuncId}{gf:Func}{c:Code}{args:Array Operand}{gq:Array TypeId}{vs:Array Value}{d:Nat}{Post:Value->(Nat->Prop)->World->Prop}(hf:P.funcs[g]?=some gf)(hc:aJ P g vs S v Post)
  (hn:∀x S' v',View P S' v'->Post x S' v'->Reach P Stop (G ((base fn).at ⟨TA n (st f d x),[]⟩ (.inRegion ops rest::k)) cs) S' v')
  (ho:ops[i]?=some ⟨some d,op,ty,pos,dw,dv⟩:=by rfl) (hw:Region.wanted ⟨some d,op,ty,pos,dw,dv⟩ (yielded ops (TA n f))=true:=by first|rfl|simp[Region.wanted,yielded,eC, *]) (dm:op=.call {callee:=.value (.func g),args,argTypes:=gq}:=by rfl)
  (fv:(gf.name == "runtime.NumGoroutine")=false:=by kernel_rfl) (hb:gf.body=some c:=by rfl) (qe:args.map (⟨TA n f,[]⟩:Act).eval=vs:=by simp[Act.eval, *];try rfl) :
  Reach P Stop (G ((base fn).at ⟨TA n f,[]⟩ (.inRegion ops (i::rest)::k)) cs) S v:=vT ho hw dm hf fv hb qe hc hn
theorem rX{c:Operand}{x y:Code}(hc:(⟨tmps,[]⟩:Act).eval c=.bool true)(h:Reach P Stop (G ((base fn).at ⟨tmps,[]⟩ (.code x::k)) cs) S v):Reach P Stop (G ((base fn).at ⟨tmps,[]⟩ (.code (.cond c x y)::k)) cs) S v:=Cm (t:=true) hc h
theorem rZ{c:Operand}{x y:Code}(hc:(⟨tmps,[]⟩:Act).eval c=.bool false)(h:Reach P Stop (G ((base fn).at ⟨tmps,[]⟩ (.code y::k)) cs) S v):Reach P Stop (G ((base fn).at ⟨tmps,[]⟩ (.code (.cond c x y)::k)) cs) S v:=Cm (t:=false) hc h
def Sp(P:Program)(S:Nat->Prop)(v:World)(fn:FuncId)(a:Array Value)(k:List Item)(b:Array Value)(k':List Item):Prop:=∀(Stop:Goroutine->(Nat->Prop)->World->Prop)(cs:List Frame),Reach P Stop (G ((base fn).at ⟨b,[]⟩ k') cs) S v->Reach P Stop (G ((base fn).at ⟨a,[]⟩ k) cs) S v
theorem spQ{k':List Item}(h:nx k=some k'):Sp P S v fn tmps k tmps k':=λ_ _ hr=>rQ h hr
theorem spY{d:Nat}{x:Value}(hG:Good P F)(ho:ops[i]?=some ⟨some d,op,ty,pos,dw,dv⟩:=by rfl)
  (hy:∀u,Twin v u->∀K:Result Go.Next->Prop,K (.ok (.value x) u)->K ((execOp (Act.eval ⟨TA n f,[]⟩) ⟨some d,op,ty,pos,dw,dv⟩).run P u):=by intro _ dt K_ dr;go_simp;(try rw[wI _]);(try rw[wU _]);exact dr)
  (hw:Region.wanted ⟨some d,op,ty,pos,dw,dv⟩ (yielded ops (TA n f))=true:=by first|rfl|(simp[Region.wanted,yielded,eC, *];first|done|fail)) (dx:bW P F ⟨some d,op,ty,pos,dw,dv⟩=true:=by kernel_rfl) :
  Sp P S v fn (TA n f) (.inRegion ops (i::rest)::k) (TA n (st f d x)) (.inRegion ops rest::k):=λ_ _ hn=>rY hG hn ho hy hw dx
theorem spC{d:Nat}{x y:Value}{A:Addr}(hG:Good P F)(hc:v.cell? A=some y)(ho:ops[i]?=some ⟨some d,op,ty,pos,dw,dv⟩:=by rfl)
  (hy:∀u,Twin v u->u.cell? A=some y->∀K:Result Go.Next->Prop,K (.ok (.value x) u)->K ((execOp (Act.eval ⟨TA n f,[]⟩) ⟨some d,op,ty,pos,dw,dv⟩).run P u):=by intro _ dt I2 K_ dr;go_simp;(try rw[wI _]);(try rw[wU _]);exact dr)
  (hw:Region.wanted ⟨some d,op,ty,pos,dw,dv⟩ (yielded ops (TA n f))=true:=by first|rfl|(simp[Region.wanted,yielded,eC, *];first|done|fail)) (dx:bW P F ⟨some d,op,ty,pos,dw,dv⟩=true:=by kernel_rfl) :
  Sp P S v fn (TA n f) (.inRegion ops (i::rest)::k) (TA n (st f d x)) (.inRegion ops rest::k):=λ_ _ hn=>rY hG hn ho (λu hu=>hy u hu ((Ext.twin hu).cell hc)) hw dx
theorem spW{d:Nat}(ho:ops[i]?=some ⟨some d,op,ty,pos,dw,dv⟩:=by rfl)
  (hw:Region.wanted ⟨some d,op,ty,pos,dw,dv⟩ (yielded ops (TA n f))=false:=by first|(simp[Region.wanted,yielded,eC, *];first|done|fail)|(simp[Region.wanted,yielded,eC,undef, *];first|done|fail)) :
  Sp P S v fn (TA n f) (.inRegion ops (i::rest)::k) (TA n (st f d undef)) (.inRegion ops rest::k):=λ_ _ hn=>rW hn ho hw
theorem dX{g:FuncId}{gf:Func}{c:Code}{x0:Value}{Post:Value->(Nat->Prop)->World->Prop}(hf:P.funcs[g]?=some gf)(hb:gf.body=some c)(hn:gf.ntmps=n)
  (h:∀(Stop:Goroutine->(Nat->Prop)->World->Prop)(cc:Frame)(cs:List Frame),
   (∀(f':Nat->Value)(todo:List Item)(S':Nat->Prop)(v':World)(x:Value),(results gf (TA n f')).run P v'=.ok x v'->Post x S' v'->Reach P Stop (G {(base g).at ⟨TA n f',[]⟩ todo with mode:=.returning} (cc::cs)) S' v')->
   ∀f:Nat->Value,f 0=x0->Reach P Stop (G ((base g).at ⟨TA n f,[]⟩ [.code c]) (cc::cs)) S v) (hs:#[x0].size<=n:=by simp):aJ P g #[x0] S v Post:=
 pM hf hb hn hs λStop cc cs ret=>h Stop cc cs ret _ rfl
theorem cX{g:FuncId}{gf:Func}{c:Code}{x0 x1:Value}{Post:Value->(Nat->Prop)->World->Prop}(hf:P.funcs[g]?=some gf)(hb:gf.body=some c)(hn:gf.ntmps=n)
  (h:∀(Stop:Goroutine->(Nat->Prop)->World->Prop)(cc:Frame)(cs:List Frame),
   (∀(f':Nat->Value)(todo:List Item)(S':Nat->Prop)(v':World)(x:Value),(results gf (TA n f')).run P v'=.ok x v'->Post x S' v'->Reach P Stop (G {(base g).at ⟨TA n f',[]⟩ todo with mode:=.returning} (cc::cs)) S' v')->
   ∀f:Nat->Value,f 0=x0->f 1=x1->Reach P Stop (G ((base g).at ⟨TA n f,[]⟩ [.code c]) (cc::cs)) S v) (hs:#[x0,x1].size<=n:=by simp):aJ P g #[x0,x1] S v Post:=
 pM hf hb hn hs λStop cc cs ret=>h Stop cc cs ret _ rfl rfl
theorem jR{g:FuncId}{gf:Func}{c:Code}{x0 x1 x2:Value}{Post:Value->(Nat->Prop)->World->Prop}(hf:P.funcs[g]?=some gf)(hb:gf.body=some c)(hn:gf.ntmps=n)
  (h:∀(Stop:Goroutine->(Nat->Prop)->World->Prop)(cc:Frame)(cs:List Frame),
   (∀(f':Nat->Value)(todo:List Item)(S':Nat->Prop)(v':World)(x:Value),(results gf (TA n f')).run P v'=.ok x v'->Post x S' v'->Reach P Stop (G {(base g).at ⟨TA n f',[]⟩ todo with mode:=.returning} (cc::cs)) S' v')->
   ∀f:Nat->Value,f 0=x0->f 1=x1->f 2=x2->Reach P Stop (G ((base g).at ⟨TA n f,[]⟩ [.code c]) (cc::cs)) S v) (hs:#[x0,x1,x2].size<=n:=by simp):aJ P g #[x0,x1,x2] S v Post:=
 pM hf hb hn hs λStop cc cs ret=>h Stop cc cs ret _ rfl rfl rfl
theorem pU{g:FuncId}{gf:Func}{c:Code}{x0 x1 x2 x3:Value}{Post:Value->(Nat->Prop)->World->Prop}(hf:P.funcs[g]?=some gf)(hb:gf.body=some c)(hn:gf.ntmps=n)
  (h:∀(Stop:Goroutine->(Nat->Prop)->World->Prop)(cc:Frame)(cs:List Frame),
   (∀(f':Nat->Value)(todo:List Item)(S':Nat->Prop)(v':World)(x:Value),(results gf (TA n f')).run P v'=.ok x v'->Post x S' v'->Reach P Stop (G {(base g).at ⟨TA n f',[]⟩ todo with mode:=.returning} (cc::cs)) S' v')->
   ∀f:Nat->Value,f 0=x0->f 1=x1->f 2=x2->f 3=x3->Reach P Stop (G ((base g).at ⟨TA n f,[]⟩ [.code c]) (cc::cs)) S v) (hs:#[x0,x1,x2,x3].size<=n:=by simp):aJ P g #[x0,x1,x2,x3] S v Post:=
 pM hf hb hn hs λStop cc cs ret=>h Stop cc cs ret _ rfl rfl rfl rfl
end
def tN:TypeDesc->Bool
 |.named _ _=>true
 |_=>false
theorem Jc{info:TypeId->Option TypeInfo}{fs:Array Field}{i:TypeInfo}(h:Made.reckonStruct info fs=some i):tN i.desc=false:=by
 unfold Made.reckonStruct at h;simp only[Option.bind_eq_bind,Option.bind_eq_some_iff,Option.pure_def]at h;obtain⟨st,ei,h⟩:=h;clear ei;split at h
 .simp only[cr]at h;subst h;rfl
 .simp only[cr]at h;subst h;rfl
theorem Ki{info:TypeId->Option TypeInfo}{d:TypeDesc}{i:TypeInfo}(h:Made.reckon info d=some i):tN i.desc=false:=by
 cases d<;>simp only[Made.reckon,Option.bind_eq_bind,Option.bind_eq_some_iff,Option.pure_def,cr,reduceCtorEq]at h
 case struct fs=>exact Jc h
 case pointer e=>
  obtain⟨j,hj,h⟩:=h;split at h
  .cases h
  .split at h
   .cases h
   .simp only[Option.bind_eq_some_iff,cr]at h;obtain⟨s,_,h⟩:=h;subst h;rfl
  .simp only[Option.bind_eq_some_iff,cr]at h;obtain⟨s,_,h⟩:=h;subst h;rfl
 case slice e=>obtain⟨_,_,_,_,h⟩:=h;subst h;rfl
 case array n e=>obtain⟨_,_,_,_,h⟩:=h;subst h;rfl
 case map k e=>obtain⟨_,_,_,_,_,_,_,_,h⟩:=h;subst h;rfl
 case chan d e=>obtain⟨_,_,_,_,h⟩:=h;subst h;rfl
 case func ps rs v=>obtain⟨_,_,h⟩:=h;subst h;rfl
def uC(i:TypeInfo):Bool:=match i.desc with|.named s _=>s != "sync.copyChecker" |_=>true
theorem Xm{P:Program}(h:P.types.toList.all uC=true):iB P:=by
 have h0:∀(t:Nat) i,P.types[t]?=some i->uC i=true:=λt i ht=>List.all_eq_true.1 h i (by
  have:=Array.mem_of_getElem? ht
  simpa using this)
 have h1:∀i u,uC i=true->i.desc≠.named "sync.copyChecker" u:=by intro i u hi e;simp[uC,e]at hi
 have h2:∀(i:TypeInfo) u,tN i.desc=false->i.desc≠.named "sync.copyChecker" u:=by intro i u hi e;simp[tN,e]at hi
 intro t i u hi;unfold Tables.info? at hi;split at hi
 .exact h1 _ _ (h0 t i hi)
 .unfold Made.infoAt at hi;split at hi
  .cases hi
  .split at hi
   .exact h1 _ _ (h0 _ i hi)
   .obtain⟨d,_,hd⟩:=Option.bind_eq_some_iff.1 hi;exact h2 _ _ (Ki hd)
structure Kp(v0:World)(X:Nat->Prop)(v:World):Prop where
 size:v0.heap.size<=v.heap.size
 os:v.os=v0.os
 output:v.output=v0.output
 objs:∀(b:Nat)(o:Obj),¬X b->v0.heap[b]?=some o->o.tame->v.heap[b]?=some o
theorem Kp.cells{v0 v:World}{X:Nat->Prop}(h:Kp v0 X v)(b:Nat)(c:Array Value)(t:TypeId)(fr:Nat×Nat)(hb:¬X b)(hc:v0.heap[b]?=some (.cells c t fr)):v.heap[b]?=some (.cells c t fr):=h.objs b _ hb hc trivial
theorem Kp.refl(v:World)(X:Nat->Prop):Kp v X v:=⟨ae _,rfl,rfl,λ_ _ _ h _=>h⟩
theorem Kp.ext{v0 v u:World}{X:Nat->Prop}(h:Kp v0 X v)(e:Ext v u):Kp v0 X u:=⟨ak h.size e.size,e.os.trans h.os,e.output.trans h.output,λb o hb hc ht=>e.row (h.objs b o hb hc ht)⟩
theorem Kp.trans{v0 v u:World}{X:Nat->Prop}(h:Kp v0 X v)(e:Kp v X u):Kp v0 X u:=⟨ak h.size e.size,e.os.trans h.os,e.output.trans h.output,λb o hb hc ht=>e.objs b o hb (h.objs b o hb hc ht) ht⟩
theorem Kp.mono{v0 v:World}{X Y:Nat->Prop}(h:Kp v0 X v)(hx:∀b,X b->Y b):Kp v0 Y v:=⟨h.size,h.os,h.output,λb o hb hc ht=>h.objs b o (λx=>hb (hx b x)) hc ht⟩
theorem Kp.setRow{v0 v:World}{X:Nat->Prop}(h:Kp v0 X v){g:Nat}(hg:X g∨v0.heap.size<=g)(c:Array Value):Kp v0 X (v.setRow g c):=by
 refine⟨by simpa [World.setRow] using h.size,h.os,h.output,λb o hb hc ht=>?_⟩
 have:b≠g:=by
  rintro rfl;rcases hg with hg|hg
  .exact hb hg
  .have:=(Array.getElem?_eq_some_iff.1 hc).1;omega
 exact(setRow_other _ _ _ _ this).trans (h.objs b o hb hc ht)
theorem aS{w w':World}(h:Ext w w'):Kp w (λ_=>False) w':=(Kp.refl w _).ext h
theorem mL{v w w':World}{b:Nat}{o:Obj}(h:Ext v w)(hb:v.heap.size<=b)(hW:Wr w b o w'):Ext v w':=
 ⟨by rw[hW.size];exact h.size,λc hc=>(hW.other c (by omega)).trans (h.block c hc),hW.os.trans h.os,hW.output.trans h.output⟩
end Go.Vw
namespace Go.Proofs.YtpiefebngnlfoaaGreatDoor
open Go.RowKit Go.Conc Go.Vw
theorem aP{p:Prop}(h:p):Hid p:=h
theorem kX{n:Nat}{x:Nat->Nat} : ∀y∈(List.range n).map (λj=>Value.int .u8 ((x j:Nat):Int)),y.oneCell'=true:=by intro y hy;simp at hy;obtain⟨j,_,rfl⟩:=hy;rfl
theorem oC{n j:Nat}{x:Nat->Nat}{y:Value}(h:((List.range n).map (λj=>Value.int .u8 ((x j:Nat):Int)))[j]?=some y):j<n∧y=.int .u8 (x j:Nat):=by
 have hj:j<n:=by have:=(List.getElem?_eq_some_iff.1 h).1;simpa using this
 refine⟨hj,?_⟩;simp[hj]at h;exact h.symm
theorem lO:iB Tryz.prog:=Xm (by kernel_rfl)
def eF(n:Nat):Array Value:=(Array.range n).map λ_=>.int .u8 0
theorem rP(n:Nat):(eF n).size=n:=by simp[eF]
theorem oR:∃i z,Tryz.prog.info? 5=some i∧i.zero=some z∧i.size=1∧i.bytes=1∧z.cells.size=1:=⟨_,_,rfl,rfl,rfl,rfl,rfl⟩
theorem dL{w:World}{base n g:Nat}{e:TypeId}{sv:Value}{xs:List Value}(h:w.ownsRow base e 1 sv n xs)(hg:sv.ownBlock=some g):∃c,w.heap[g]?=some (.cells c e):=by
 rcases h.2 with⟨rfl,_⟩|⟨g',cap,cur,rfl,_,hc,_⟩
 .cases hg
 .simp only[Value.ownBlock]at hg;cases hg;exact⟨_,hc⟩
structure Gr(w w':World)(row:Option Nat):Prop where
 os:w'.os=w.os
 output:w'.output=w.output
 size:w.heap.size<=w'.heap.size
 block:∀k,k<w.heap.size->some k≠row->w'.heap[k]?=w.heap[k]?
theorem Gr.of{w u w':World}{row:Option Nat}(t:Vw.Twin w u)(g:u.grownBy w' row):Gr w w' row:=
 ⟨g.os.trans t.os,g.output.trans t.output,by rw[<-t.heap];exact g.size,λk hk hr=>by rw[<-t.heap]at hk⊢;exact g.block k hk hr⟩
theorem Gr.ext{w w':World}(g:Gr w w' none):Ext w w':=⟨g.size,λb hb=>g.block b hb (by simp),g.os,g.output⟩
theorem Gr.over{v w w':World}{row:Option Nat}(h:Ext v w)(g:Gr w w' row)(hr:∀b,row=some b->v.heap.size<=b):Ext v w':=
 ⟨ak h.size g.size,λb hb=>(g.block b (bg hb h.size) (λe=>by have:=hr b e.symm;omega)).trans (h.block b hb),g.os.trans h.os,g.output.trans h.output⟩
theorem Gr.row{w w':World}{row:Option Nat}(g:Gr w w' row){b:Nat}{o:Obj}(h:w.heap[b]?=some o)(hr:some b≠row):w'.heap[b]?=some o:=(g.block b (Array.getElem?_eq_some_iff.1 h).1 hr).trans h
theorem jB{w:World}{base n g:Nat}{e:TypeId}{sv:Value}{xs:List Value}(h:w.ownsRow base e 1 sv n xs)(hg:sv.ownBlock=some g):base<=g:=(h.lt g hg).1
theorem mN{w w':World}{base n:Nat}{e:TypeId}{sv:Value}{xs:List Value}{row:Option Nat}(h:w.ownsRow base e 1 sv n xs)(g:Gr w w' row)(hr:∀b,sv.ownBlock=some b->some b≠row):w'.ownsRow base e 1 sv n xs:=
 ⟨h.1,h.2.imp id λ⟨b,cap,cur,q1,q2,q3,q4⟩=>⟨b,cap,cur,q1,q2,g.row q3 (hr b (by rw[q1];rfl)),q4⟩⟩
theorem xW{w u:World}{base n:Nat}{e:TypeId}{sv:Value}{xs:List Value}(h:w.ownsRow base e 1 sv n xs)(t:Vw.Twin w u):u.ownsRow base e 1 sv n xs:=
 ⟨h.1,h.2.imp id λ⟨b,cap,cur,q1,q2,q3,q4⟩=>⟨b,cap,cur,q1,q2,by rw[t.heap];exact q3,q4⟩⟩
theorem kZ{sv:Value}{w:World}{base n:Nat}{e:TypeId}{xs:List Value}(h:w.ownsRow base e 1 sv n xs):sv.cells=#[sv]∧sv.oneCell'=true:=by rcases h.2 with⟨rfl,_⟩|⟨g',cap,cur,rfl,_⟩<;>exact⟨rfl,rfl⟩
theorem Vx{w w':World}{row:Option Nat}(g:Gr w w' row){b off len:Nat}{x:Nat->Nat}(hb:b<w.heap.size)(hr:some b≠row)(h:dD w b off len x):dD w' b off len x:=λj hj=>by have:=h j hj;rw[<-this];exact World.cell?_of_block (g.block b hb hr)
theorem Bs{w:World}{B off m:Nat}{x:Nat->Nat}(h:dD w B off m x):∀j y,((List.range m).map λj=>Value.int .u8 ((x j:Nat):Int))[j]?=some y->w.cell? ((⟨B,off,none⟩:Addr).add j)=some y:=by intro j y hy;rw[bu,Option.map_eq_some_iff]at hy;obtain⟨j',jo,rfl⟩:=hy;obtain⟨dp,e⟩:=List.getElem?_eq_some_iff.1 jo;simp only[List.length_range,List.getElem_range]at dp e;subst e;rw[Addr.add_lit];exact h j dp
theorem mB{w u:World}{o:Oper}{a:Act}{s x:Operand}{t e:TypeId}{i:TypeInfo}{z:Value}{bytes:Nat}(hu:Vw.Twin w u)(base:Nat)
  (h1:Tryz.prog.underlying t=some (.slice e)) (h2:Tryz.prog.info? e=some i) (h3:i.zero=some z) (h4:i.size=1) (h5:i.bytes=bytes) (h6:z.cells.size=1)
  {sv:Value} {n:Nat} {xs:List Value} (gm:w.ownsRow base e 1 sv n xs)
  {ad:Addr} {m c:Nat} {news:List Value} (hl:news.length=m) (iw:∀j y,news[j]?=some y->w.cell? (ad.add j)=some y) (xh:∀y∈news,y.oneCell'=true)
  (b1:n+m<=100000) (b2:bytes<=24) (hb:base<=w.heap.size) (dm:o.op=Op.call {callee:=Callee.builtin Builtin.append,args:=#[s,x],argTypes:=#[t,t]}) (hs:a.eval s=sv) (hx:a.eval x=.slice (some ad) m c) :
  ∃y w',((execOp a.eval o).run Tryz.prog u=.ok (.value y) w'∨((execOp a.eval o).run Tryz.prog u=.ok .skip w'∧y=undef))∧(w'.ownsRow base e 1 y (n+m) (xs++news)∧Gr w w' sv.ownBlock∧(y=.slice none 0 0↔sv=.slice none 0 0∧m=0)):=by
 obtain⟨v',w',dq,ho,hg,hn⟩:=Ak (P:=Tryz.prog) dm base h1 h2 h3 h4 h5 h6 (by omega) hs (xW gm hu) hx (by simpa using hl) (λj y hy=>(Ext.twin hu).cell (iw j y hy)) xh (by unfold maxLen;omega) (by
  have:(n+m)*bytes<=100000*24:=Nat.mul_le_mul b1 b2
  omega) (by rw[hu.heap];exact hb)
 exact⟨v',w',.inl dq,ho,.of hu hg,hn⟩
theorem lD{w:World}{base n:Nat}{e:TypeId}{sv:Value}{xs:List Value}(h:w.ownsRow base e 1 sv n xs)(hn:0<n∨sv≠.slice none 0 0):∃g cap cur,sv=.slice (some ⟨g,0,none⟩) n cap∧base<=g∧w.heap[g]?=some (.cells cur e)∧n<=cap∧cur.size=cap∧∀j,j<n->cur[j]?=xs[j]?:=by
 rcases h.2 with⟨e1,e2⟩|⟨g,cap,cur,q1,q2,q3,q4,q5,q6,q7⟩
 .rcases hn with hn|hn
  .omega
  .exact absurd e1 hn
 .refine⟨g,cap,cur,q1,q2,q3,q4,by simpa using q6,λj hj=>?_⟩
  rw[<-q7,List.getElem?_take,ai (by omega),bd]
theorem nX{w u:World}{o:Oper}{a:Act}{t t':TypeId}{x y:Operand}{g j:Nat}{old:Array Value}{z:Value}(hu:Vw.Twin w u)(du:w.heap[g]?=some (.cells old t'))(hj:j<old.size)(hz:z.cells=#[z])(h1:z.oneCell'=true)
  (dm:o.op=.store t x y) (hx:a.eval x=.pointer (some ⟨g,j,none⟩)) (hy:a.eval y=z) (hs:(Tryz.prog.info? t).map (·.size)=some 1) :
  ∃x w',((execOp a.eval o).run Tryz.prog u=.ok (.value x) w'∨((execOp a.eval o).run Tryz.prog u=.ok .skip w'∧x=undef))∧Wr w g (.cells (old.setIfInBounds j z) t') w':=by
 obtain⟨dq,_⟩:=vE (P:=Tryz.prog) (fn:=0) (w:=u) dm hx hy hz h1 ((Ext.twin hu).row du) hj hs;have hW:=jP (c:=old.setIfInBounds j z) ((Ext.twin hu).row du);have AI:Wr w g (.cells (old.setIfInBounds j z) t') (u.setRow g (old.setIfInBounds j z)):=⟨hW.at_,λb hb=>(hW.other b hb).trans (by rw[hu.heap]),by rw[hW.size,hu.heap],hW.os.trans hu.os,hW.output.trans hu.output⟩
 rcases dq with h|h
 .exact⟨undef,_,.inr ⟨h,rfl⟩,AI⟩
 .exact⟨_,_,.inl h,AI⟩
theorem La{u w':World}{t ty e:TypeId}{i:TypeInfo}{z:Value}{bytes base:Nat}(h1:Tryz.prog.underlying t=some (.slice e))(h2:Tryz.prog.info? e=some i)(h3:i.zero=some z)(h4:i.size=1)(h5:i.bytes=bytes)
  {sv y:Value} {n:Nat} {xs:List Value} (gm:u.ownsRow base e 1 sv n xs) {ad:Addr} {m c:Nat} {news:List Value} (hl:news.length=m) (iw:∀j y,news[j]?=some y->u.cell? (ad.add j)=some y) (xh:∀y∈news,y.oneCell'=true) (hm:0<m)
  (b1:n+m<=maxLen) (b2:(n+m)*bytes<=140737488355328) (dq:(Builtin.append_ #[t,t] ty #[sv,.slice (some ad) m c]).run Tryz.prog u=.ok y w'):∀g,y.ownBlock=some g->sv.ownBlock=some g∨g=u.heap.size:=by
 subst h5;unfold maxLen at b1;intro g hg;rcases gm.2 with⟨rfl,rfl⟩|⟨g0,cap,cur,rfl,_,hr,RI,_,ns,IX⟩
 .rw[run_append_nil u t ty e i z h1 h2 h3 ad m c news (by rw[h4];omega) iw hm (by omega) (by rw[an]at b2;omega)]at dq;cases dq
  simp only[Value.ownBlock,cr]at hg;exact .inr hg.symm
 .by_cases vp:n+m<=cap
  .rw[run_append_room u t ty e i h1 h2 g0 n cap cur hr ad m c news (by rw[h4];omega) iw xh vp (by rw[h4];omega)]at dq;cases dq
   exact .inl hg
  .rw[run_append_grow u t ty e i z h1 h2 h3 ⟨g0,0,none⟩ n cap xs (by rw[h4];exact gm.1) (gm.cells (g:=g0) rfl) ad m c news (by rw[h4];omega) iw (by omega) (by omega) (growslice_fits (by omega) b2)]at dq;cases dq
   simp only[Value.ownBlock,cr]at hg;exact .inr hg.symm
theorem pG{w u:World}{o:Oper}{a:Act}{s x:Operand}{t e:TypeId}{i:TypeInfo}{z:Value}{bytes:Nat}(hu:Vw.Twin w u)(base:Nat)
  (h1:Tryz.prog.underlying t=some (.slice e)) (h2:Tryz.prog.info? e=some i) (h3:i.zero=some z) (h4:i.size=1) (h5:i.bytes=bytes) (h6:z.cells.size=1)
  {sv:Value} {n:Nat} {xs:List Value} (gm:w.ownsRow base e 1 sv n xs)
  {ad:Addr} {m c:Nat} {news:List Value} (hl:news.length=m) (hm:0<m) (iw:∀j y,news[j]?=some y->w.cell? (ad.add j)=some y) (xh:∀y∈news,y.oneCell'=true)
  (b1:n+m<=maxLen) (b2:(n+m)*bytes<=140737488355328) (hb:base<=w.heap.size) (dm:o.op=Op.call {callee:=Callee.builtin Builtin.append,args:=#[s,x],argTypes:=#[t,t]}) (hs:a.eval s=sv) (hx:a.eval x=.slice (some ad) m c) :
  ∃y w',((execOp a.eval o).run Tryz.prog u=.ok (.value y) w'∨((execOp a.eval o).run Tryz.prog u=.ok .skip w'∧y=undef))∧(w'.ownsRow base e 1 y (n+m) (xs++news)∧Gr w w' sv.ownBlock∧(∀g,y.ownBlock=some g->sv.ownBlock=some g∨w.heap.size<=g)):=by
 obtain⟨v',w',dq,ho,hg,hn⟩:=run_append_own (P:=Tryz.prog) u base t o.type e i z 1 bytes h1 h2 h3 h4 h5 h6 (by omega) sv n xs (xW gm hu) ad m c news (by simpa using hl) (λj y hy=>(Ext.twin hu).cell (iw j y hy)) xh b1 b2 (by rw[hu.heap];exact hb);refine⟨v',w',.inl ?_,ho,.of hu hg,λg q=>?_⟩
 .simp[execOp,dm,resolve,invoke,builtin,hs,hx,dq]
 .have:=La h1 h2 h3 h4 h5 (xW gm hu) hl (λj y hy=>(Ext.twin hu).cell (iw j y hy)) xh hm b1 b2 dq g q;rw[hu.heap]at this;exact this.imp id λe=>by omega
theorem Ei{w u:World}{o:Oper}{a:Act}{s x:Operand}{t e:TypeId}{i:TypeInfo}{z:Value}{bytes:Nat}(hu:Vw.Twin w u)
  (h1:Tryz.prog.underlying t=some (.slice e)) (h2:Tryz.prog.info? e=some i) (h3:i.zero=some z) (h4:i.size=1) (h5:i.bytes=bytes) (h6:z.cells.size=1)
  {p:Option Addr} {n cap:Nat} {olds:List Value} (hp:(p=none∧n=0∧cap=0)∨∃b,p=some b) (sg:olds.length=n) (holds:∀b,p=some b->∀j y,olds[j]?=some y->w.cell? (b.add j)=some y)
  {ad:Addr} {m c:Nat} (AB:cap<n+m) {news:List Value} (hl:news.length=m) (iw:∀j y,news[j]?=some y->w.cell? (ad.add j)=some y) (xh:∀y∈news,y.oneCell'=true)
  (b1:n+m<=maxLen) (b2:(n+m)*bytes<=140737488355328) (dm:o.op=Op.call {callee:=Callee.builtin Builtin.append,args:=#[s,x],argTypes:=#[t,t]}) (hs:a.eval s=.slice p n cap) (hx:a.eval x=.slice (some ad) m c) :
  ∃y w',((execOp a.eval o).run Tryz.prog u=.ok (.value y) w'∨((execOp a.eval o).run Tryz.prog u=.ok .skip w'∧y=undef))∧(w'.ownsRow w.heap.size e 1 y (n+m) (olds++news)∧Ext w w'):=by
 have fin:∀(y:Value)(w':World),(Builtin.append_ #[t,t] o.type #[.slice p n cap,.slice (some ad) m c]).run Tryz.prog u=.ok y w'->w'.ownsRow u.heap.size e 1 y (n+m) (olds++news)->u.grownBy w' none->∃y w',((execOp a.eval o).run Tryz.prog u=.ok (.value y) w'∨((execOp a.eval o).run Tryz.prog u=.ok .skip w'∧y=undef))∧(w'.ownsRow w.heap.size e 1 y (n+m) (olds++news)∧Ext w w'):=λy w' dq ho hg=>
  ⟨y,w',.inl (by simp[execOp,dm,resolve,invoke,builtin,hs,hx,dq]),by rw[hu.heap]at ho;exact ho,(Gr.of hu hg).ext⟩
 rcases hp with⟨rfl,rfl,rfl⟩|⟨b,rfl⟩
 .obtain rfl:olds=[]:=List.eq_nil_of_length_eq_zero sg;obtain⟨v',w',dq,ho,hg,hn⟩:=run_append_own (P:=Tryz.prog) u u.heap.size t o.type e i z 1 bytes h1 h2 h3 h4 h5 h6 (by omega) (.slice none 0 0) 0 [] (World.ownsRow_nil _ _ _ _) ad m c news (by simpa using hl) (λj y hy=>(Ext.twin hu).cell (iw j y hy)) xh b1 b2 (ae _);exact fin _ _ dq ho hg
 .obtain⟨v',w',dq,ho,hg⟩:=run_append_arg_grows (P:=Tryz.prog) u t o.type e i z 1 bytes h1 h2 h3 h4 h5 h6 (by omega) b n cap olds (by simpa using sg) (λj y hy=>(Ext.twin hu).cell (holds b rfl j y hy)) ad m c news (by simpa using hl) (λj y hy=>(Ext.twin hu).cell (iw j y hy)) AB b1 b2;exact fin _ _ dq ho hg
theorem tZ(a:Int)(h1:0<=a:=by omega)(h2:a<=18446744073709551615:=by omega):IntKind.u64.wrap a=a:=by rw[IntKind.wrap_u64];omega
theorem gR{P:Program}{o:Oper}{a:Act}{x:Operand}{t:TypeId}{y:Value}(dm:o.op=Op.box t x)(hx:a.eval x=y)(u:World):(execOp a.eval o).run P u=.ok (.value (.pointer (some ⟨u.heap.size,0,none⟩))) (u.alloc (.cells y.cells t)):=by simp[execOp,dm,hx,Instr.box,newVar,newRow]
theorem aD{a:Nat}{l:List Nat}(h:l.contains a=true):a∈l:=by simpa using h
def uD(ops:Array Oper)(s:Nat):Bool:=(List.range ops.size).all λj=>aF ops j != some s
theorem aV{ops:Array Oper}{s:Nat}(h:uD ops s=true):∀j,j<ops.size->aF ops j≠some s:=λj hj e=>by have:=List.all_eq_true.1 h j (by simpa using hj);simp[e]at this
theorem Wq{w w':World}{g:Nat}{o:Obj}(hW:Wr w g o w')(h:w.heap[g]?=some o):Ext w w':=
 ⟨by rw[hW.size];exact ae _,λb hb=>by
  by_cases e:b=g
  .rw[e,hW.at_,h]
  .exact hW.other b e,hW.os,hW.output⟩
def zE:Array Value:=#[.int .i64 0,.int .i64 0,.int .u64 0]
def iH:Array Value:=#[.int .i64 0,.int .i64 0,.int .u64 0,.int .i64 0,.slice none 0 0]
