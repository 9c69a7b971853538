import Derived.Test.YtpiefebngnlfoaaGreatDoorLb
import Derived.Conc.LoneCalls
set_option maxRecDepth 99999
set_option maxHeartbeats 0
set_option linter.unusedVariables false
set_option linter.unusedSimpArgs false
namespace Go.Vw
open Go.Conc
section
variable {P:Program}{F:FuncId->Bool}{S:Nat->Prop}{B:Nat}
section
variable {b:Frame}{a:Act}{ops:Array Oper}{i:Nat}{rest:List Nat}{k:List Item}{cs:List Frame}{s:Sem Next}{w w1:World}{fw:Array Event}
theorem Ar(hk:b.kind≠.early){x:Value}(h:s.runT P w #[]=(.ok (.value x) w1,fw)):stepG.apply P true (b.at a (.inRegion ops (i::rest)::k)) cs none s w=.go (G ((b.at a (.inRegion ops (i::rest)::k)).finish x) cs) w1 (seen P b.fn fw):=by
 have rf:(b.kind==CallKind.early)=false:=by simpa using hk
 simp only[stepG.apply,if_true,h,Frame.at,GStep.after,G,rf];simp
theorem Bt(hk:b.kind≠.early)(h:s.runT P w #[]=(.ok .skip w1,fw)):stepG.apply P true (b.at a (.inRegion ops (i::rest)::k)) cs none s w=.go (G ((b.at a (.inRegion ops (i::rest)::k)).finish undef) cs) w1 (seen P b.fn fw):=by
 have rf:(b.kind==CallKind.early)=false:=by simpa using hk
 simp only[stepG.apply,if_true,h,Frame.at,GStep.after,G,rf];simp
theorem Au(hk:b.kind≠.early){f:FuncId}{args:Array Value}(h:s.runT P w #[]=(.ok (.enter f args) w1,fw)):stepG.apply P true (b.at a (.inRegion ops (i::rest)::k)) cs none s w=.go (G (Frame.enter P f args .normal) (b.at a (.inRegion ops (i::rest)::k)::cs)) w1 (seen P b.fn fw):=by
 have rf:(b.kind==CallKind.early)=false:=by simpa using hk
 simp only[stepG.apply,if_true,h,Frame.at,GStep.after,G,rf];simp
theorem As(hk:b.kind≠.early){x:Value}(h:s.runT P w #[]=(.halt (.panic x) w1,fw)):stepG.apply P true (b.at a (.inRegion ops (i::rest)::k)) cs none s w=.go (G ((b.at a (.inRegion ops (i::rest)::k)).raise [{v:=x,recovered:=false}]) cs) w1 (seen P b.fn fw):=by
 have rf:(b.kind==CallKind.early)=false:=by simpa using hk
 simp only[stepG.apply,if_true,h,Frame.at,GStep.after,G,rf];simp
theorem Mu{y:Halt}(hd:jJ y)(h:s.runT P w #[]=(.halt y w1,fw)){g':Goroutine}{w':World}{es:Array Event}:stepG.apply P true (b.at a (.inRegion ops (i::rest)::k)) cs none s w≠.go g' w' es:=by
 cases y<;>first|(exact hd.elim)|skip
 .rename_i u;cases u<;>first|(exact absurd rfl (hd _))|(simp only[stepG.apply,if_true,h,Frame.at,GStep.after];simp)
 .simp only[stepG.apply,if_true,h,Frame.at,GStep.after];simp
end
def fB(P:Program)(F:FuncId->Bool)(b:Frame)(tmps:Array Value)(todo:List Item)(L:List Item->List Deferred->List Frame->Goroutine):Prop:=
 (∃(tmps':Array Value)(lr:List Item),(∀x∈lr,cH P F x=true)∧L=λk ds cs=>G (b.at ⟨tmps',ds⟩ (lr++k)) cs)∨
 (∃(f:FuncId)(args:Array Value),F f=true∧(∃ops i rest k,todo=.inRegion ops (i::rest)::k)∧L=λk ds cs=>G (Frame.enter P f args .normal) (b.at ⟨tmps,ds⟩ (todo++k)::cs))∨
 (L=λk ds cs=>G {b.at ⟨tmps,ds⟩ (todo++k) with mode:=.returning} cs)∨
 (∃chain:List PanicEntry,L=λk ds cs=>G ((b.at ⟨tmps,ds⟩ (todo++k)).raise chain) cs)
section
variable {P:Program}{F:FuncId->Bool}{b:Frame}{tmps:Array Value}{todo:List Item}
theorem fB.on{tmps':Array Value}{lr:List Item}(h:∀x∈lr,cH P F x=true):fB P F b tmps todo (λk ds cs=>G (b.at ⟨tmps',ds⟩ (lr++k)) cs):=.inl ⟨_,_,h,rfl⟩
theorem fB.into{f:FuncId}{args:Array Value}(h:F f=true)(h':∃ops i rest k,todo=.inRegion ops (i::rest)::k):fB P F b tmps todo (λk ds cs=>G (Frame.enter P f args .normal) (b.at ⟨tmps,ds⟩ (todo++k)::cs)):=.inr (.inl ⟨_,_,h,h',rfl⟩)
theorem fB.back:fB P F b tmps todo (λk ds cs=>G {b.at ⟨tmps,ds⟩ (todo++k) with mode:=.returning} cs):=.inr (.inr (.inl rfl))
theorem fB.up{chain:List PanicEntry} : fB P F b tmps todo (λk ds cs=>G ((b.at ⟨tmps,ds⟩ (todo++k)).raise chain) cs):=.inr (.inr (.inr ⟨_,rfl⟩))
theorem fB.parts{motive:∀L,fB P F b tmps todo L->Prop}{L:List Item->List Deferred->List Frame->Goroutine}(h:fB P F b tmps todo L)
  (on:∀{tmps':Array Value}{lr:List Item}(h:∀x∈lr,cH P F x=true),motive _ (fB.on (b:=b) (tmps:=tmps) (todo:=todo) (tmps':=tmps') h))
  (into:∀{f:FuncId}{args:Array Value}(h:F f=true)(h':∃ops i rest k,todo=.inRegion ops (i::rest)::k),motive _ (fB.into (b:=b) (tmps:=tmps) (args:=args) h h'))
  (back:motive _ fB.back) (up:∀{chain:List PanicEntry},motive _ (fB.up (chain:=chain))):motive L h:=by
 rcases h with⟨_,_,h,rfl⟩|⟨_,_,h,h',rfl⟩|rfl|⟨_,rfl⟩
 .exact on h
 .exact into h h'
 .exact back
 .exact up
end
def oX(P:Program)(S:Nat->Prop)(B:Nat)(v W v':World)(es:Array Event)(step:World->Prop):Prop:=
 (∀e∈es,fI S v'.heap.size e)∧bA v v'∧∃W',step W'∧W'.tape=W.tape∧W'.drawn+v.drawn=W.drawn+v'.drawn∧Rel P S B v' W'∧∀b,S b->W'.heap[b]?=W.heap[b]?
def uI(P:Program)(F:FuncId->Bool)(S:Nat->Prop)(B:Nat)(m:Bool)(b:Frame)(tmps:Array Value)(todo:List Item)(ds0:List Deferred)(cs0:List Frame)(v W:World)(g':Goroutine)(v':World)(es:Array Event):Prop:=
 ∃L,fB P F b tmps todo L∧g'=L [] ds0 cs0∧oX P S B v W v' es λW'=>∀k ds cs,(todo≠[]∨k=[])->stepG P m (G (b.at ⟨tmps,ds⟩ (todo++k)) cs) W=.go (L k ds cs) W' es
theorem sZ{m:Bool}{b:Frame}{tmps:Array Value}{todo:List Item}{ds0:List Deferred}{cs0:List Frame}{g':Goroutine}{v W v':World}{es:Array Event}{L:List Item->List Deferred->List Frame->Goroutine}(hR:Rel P S B v W)(hL:fB P F b tmps todo L)
  (EA:∀k ds cs w,(todo≠[]∨k=[])->stepG P m (G (b.at ⟨tmps,ds⟩ (todo++k)) cs) w=.go (L k ds cs) w #[]) (h:stepG P m (G (b.at ⟨tmps,ds0⟩ todo) cs0) v=.go g' v' es):uI P F S B m b tmps todo ds0 cs0 v W g' v' es:=by
 have h1:=EA [] ds0 cs0 v (.inr rfl);rw[bo]at h1;rw[h1]at h;cases h
 exact⟨L,hL,rfl,by simp,.refl v,W,λk ds cs hk=>EA k ds cs W hk,rfl,rfl,hR,λ_ _=>rfl⟩
theorem wP{b:Frame}{tmps:Array Value}{ops:Array Oper}{i:Nat}{rest:List Nat}{k0:List Item}(eb:∀x∈Item.inRegion ops (i::rest)::k0,cH P F x=true)(x:Value):fB P F b tmps (.inRegion ops (i::rest)::k0) (λk ds cs=>G ((b.at ⟨tmps,ds⟩ (.inRegion ops (i::rest)::(k0++k))).finish x) cs):=by
 have dx:∀y∈Item.inRegion ops rest::k0,cH P F y=true:=by
  intro y hy;rcases List.mem_cons.1 hy with rfl|hk
  .exact eb (.inRegion ops (i::rest)) (by simp)
  .exact eb y (by simp[hk])
 cases hd:(ops[i]?).bind (·.dst) with
 |none=>
  have e:(λ(k:List Item)(ds:List Deferred)(cs:List Frame)=>G ((b.at ⟨tmps,ds⟩ (.inRegion ops (i::rest)::(k0++k))).finish x) cs)=λk ds cs=>G (b.at ⟨tmps,ds⟩ ((.inRegion ops rest::k0)++k)) cs:=by funext k ds cs;rw[Frame.finish_at,hd];rfl
  rw[e];exact .on dx
 |some d=>
  have e:(λ(k:List Item)(ds:List Deferred)(cs:List Frame)=>G ((b.at ⟨tmps,ds⟩ (.inRegion ops (i::rest)::(k0++k))).finish x) cs)=λk ds cs=>G (b.at ⟨tmps.setIfInBounds d x,ds⟩ ((.inRegion ops rest::k0)++k)) cs:=by funext k ds cs;rw[Frame.finish_at,hd];rfl
  rw[e];exact .on dx
theorem Nc(hG:Good P F){m:Bool}{b:Frame}{tmps:Array Value}{ops:Array Oper}{i:Nat}{rest:List Nat}{k0:List Item}{ds0:List Deferred}{cs0:List Frame}{v W:World}{g':Goroutine}{v':World}{es:Array Event}{s:Sem Next}(fc:b.kind≠.early)
  (hR:Rel P S B v W) (eb:∀x∈Item.inRegion ops (i::rest)::k0,cH P F x=true) (hs:aA P S s) (hn:∀w w' n,s.run P w=.ok n w'->Ig F n)
  (ei:∀k ds cs w,stepG P m (G (b.at ⟨tmps,ds⟩ (.inRegion ops (i::rest)::(k0++k))) cs) w=stepG.apply P true (b.at ⟨tmps,ds⟩ (.inRegion ops (i::rest)::(k0++k))) cs none s w)
  (h:stepG P m (G (b.at ⟨tmps,ds0⟩ (.inRegion ops (i::rest)::k0)) cs0) v=.go g' v' es) (hb:v'.drawn<=B) :
  uI P F S B m b tmps (.inRegion ops (i::rest)::k0) ds0 cs0 v W g' v' es:=by
 have QL:=ei [] ds0 cs0 v;rw[bo]at QL;rw[QL]at h;have hA:=hs B v W #[] hR;have hK:=lB (P:=P) s v #[];have dq:=Sem.runT_fst P s v #[];have nil:∀{L:List Item->List Deferred->List Frame->Goroutine}{W':World},(∀k ds cs,stepG.apply P true (b.at ⟨tmps,ds⟩ (.inRegion ops (i::rest)::(k0++k))) cs none s W=.go (L k ds cs) W' es)->
   ∀k ds cs,(Item.inRegion ops (i::rest)::k0≠[]∨k=[])->stepG P m (G (b.at ⟨tmps,ds⟩ ((.inRegion ops (i::rest)::k0)++k)) cs) W=.go (L k ds cs) W' es:=λhx k ds cs _=>(ei k ds cs W).trans (hx k ds cs)
 cases jj:s.runT P v #[]with
 |mk r fw=>
 rw[jj]at hA hK dq;have evs:∀v1:World,jK S v1.heap.size #[] fw->∀e∈seen P b.fn fw,fI S v1.heap.size e:=by
  intro v1 ⟨l,e,hl⟩ x hx;have:=mem_seen hx;have hm:x∈fw.toList:=by simpa using this
  rw[e]at hm;simp at hm;exact hl x hm
 cases r with
 |ok n v1=>
  have uh:=hn v v1 n dq.symm;cases n with
  |value x=>
   rw[Ar fc jj]at h;cases h
   obtain⟨W',e,g⟩:=hA hb;exact⟨_,wP eb x,by simp only[bo],evs _ g.grow,hK,W',nil λk ds cs=>Ar fc e,g.tape,g.drawn,g.rel,g.hidden⟩
  |skip=>
   rw[Bt fc jj]at h;cases h
   obtain⟨W',e,g⟩:=hA hb;exact⟨_,wP eb _,by simp only[bo],evs _ g.grow,hK,W',nil λk ds cs=>Bt fc e,g.tape,g.drawn,g.rel,g.hidden⟩
  |enter f args=>
   rw[Au fc jj]at h;cases h
   obtain⟨W',e,g⟩:=hA hb;exact⟨_,.into uh ⟨_,_,_,_,rfl⟩,by simp only[bo],evs _ g.grow,hK,W',nil λk ds cs=>Au fc e,g.tape,g.drawn,g.rel,g.hidden⟩
  |_=>exact uh.elim
 |halt y v1=>
  rcases hs.halts hR jj with hd|⟨x,rfl⟩
  .exact absurd h (Mu hd jj)
  .rw[As fc jj]at h;cases h
   rcases hA with⟨hd,_⟩|hA
   .exact hd.elim
   .obtain⟨_,W',e,g⟩:=hA hb;exact⟨_,.up,by simp only[bo],evs _ g.grow,hK,W',nil λk ds cs=>As fc e,g.tape,g.drawn,g.rel,g.hidden⟩
theorem wQ{id:Nat}(k:List Item):∀{k0 k':List Item},exitTo id k0=some k'->exitTo id (k0++k)=some (k'++k)
 |[],_,h=>by simp[exitTo]at h
 |x::k0,k',h=>by
  cases x with
  |inBlock V_=>
   simp only[exitTo,List.cons_append]at h⊢;split at h
   .rename_i hid;cases h
    rw[ai hid]
   .rename_i hid;rw[ah hid];exact wQ k h
  |_=>simp only[exitTo,List.cons_append]at h⊢;exact wQ k h
theorem Gk(hG:Good P F){m:Bool}{b:Frame}{tmps:Array Value}{todo:List Item}{ds0:List Deferred}{cs0:List Frame}{v W:World}{g':Goroutine}{v':World}{es:Array Event}(fc:b.kind≠.early)(hR:Rel P S B v W)(eb:∀x∈todo,cH P F x=true)
  (h:stepG P m (G (b.at ⟨tmps,ds0⟩ todo) cs0) v=.go g' v' es) (hb:v'.drawn<=B):uI P F S B m b tmps todo ds0 cs0 v W g' v' es:=by
 have ctl:∀{td:List Item},(∀x∈td,cH P F x=true)->(∀k ds cs w,(todo≠[]∨k=[])->stepG P m (G (b.at ⟨tmps,ds⟩ (todo++k)) cs) w=.go (G (b.at ⟨tmps,ds⟩ (td++k)) cs) w #[])->uI P F S B m b tmps todo ds0 cs0 v W g' v' es:=λ{td} KX hc=>
  sZ hR (.on KX) hc h
 cases todo with
 |nil=>exact sZ hR .back (λk ds cs w hk=>by obtain rfl:k=[]:=hk.resolve_left (λx=>x rfl);exact stepG_end) h
 |cons x k=>
  have hx:=eb x (by simp);have hk:∀y∈k,cH P F y=true:=λy hy=>eb y (by simp[hy])
  cases x with
  |code c=>
   cases c with
   |skip=>exact ctl hk λk ds cs w _=>stepG_skip
   |label l=>exact ctl hk λk ds cs w _=>stepG_label
   |seq c d=>simp only[cH,okCode,bq]at hx;exact ctl (td:=.code c::.code d::k) (by intro y hy;simp at hy;rcases hy with rfl|rfl|hy;exact hx.1;exact hx.2;exact hk y hy) λk ds cs w _=>stepG_seq
   |cond c d e=>
    simp only[cH,okCode,bq]at hx;cases hc:(Act.mk tmps ds0).eval c with
    |bool t=>
     have MS:∀ds,(Act.mk tmps ds).eval c=.bool t:=λds=>by rw[<-hc];cases c<;>rfl
     refine ctl (td:=.code (if t=true then d else e)::k) ?_ λk ds cs w _=>stepG_cond (MS ds)
     intro y hy;simp at hy;rcases hy with rfl|hy
     .cases t
      .exact hx.2
      .exact hx.1
     .exact hk y hy
    |_=>exfalso;have ek:(b.at ⟨tmps,ds0⟩ (.code (.cond c d e)::k)).eval c=_:=(Frame.eval_at _ _ _ _).trans hc;simp only[Frame.at]at ek;simp only[G,stepG,stepG.exec,Frame.at]at h;rw[ek]at h;cases h
   |block id c=>exact ctl (td:=.code c::.inBlock id::k) (by intro y hy;simp at hy;rcases hy with rfl|rfl|hy;exact hx;rfl;exact hk y hy) λk ds cs w _=>stepG_block
   |loop c=>exact ctl (td:=.code c::.inLoop c::k) (by intro y hy;simp at hy;rcases hy with rfl|rfl|hy;exact hx;exact hx;exact hk y hy) λk ds cs w _=>stepG_loop
   |ret=>exact sZ hR .back (λk ds cs w _=>stepG_ret') h
   |exit id=>
    cases he:exitTo id k with
    |some k'=>exact ctl (λy hy=>hk y (sQ he y hy)) λkk ds cs w _=>stepG_exit (wQ kk he)
    |none=>exfalso;simp[G,stepG,stepG.exec,he,Frame.at]at h
   |region id ops d=>
    have ug:∀l,∀y∈Item.inRegion ops l::k,cH P F y=true:=by
     intro l y hy;simp at hy;rcases hy with rfl|hy
     .exact hx
     .exact hk y hy
    cases d with
    |false=>exact ctl (ug _) λk ds cs w _=>stepG_region
    |true=>
     have e:∀k ds cs(w:World),stepG P m (G (b.at ⟨tmps,ds⟩ (.code (.region id ops true)::k)) cs) w=.go (G (b.at ⟨tmps,ds⟩ (.inRegion ops (Region.schedule (P.follows .mixedOrders) ops (w.tape w.drawn (.order b.fn id)))::k)) cs) {w with drawn:=w.drawn+1} #[]:=λk ds cs w=>stepG_region_draw
     rw[e]at h;cases h
     have ed:=hR.draws 0 (.order b.fn id) (by simp only at hb;omega);simp only[Nat.add_zero]at ed;refine⟨λk2 ds cs=>G (b.at ⟨tmps,ds⟩ ((.inRegion ops (Region.schedule (P.follows .mixedOrders) ops (v.tape v.drawn (.order b.fn id)))::k)++k2)) cs,.on (ug _),by simp only[bo],by simp,⟨rfl,Nat.le_succ _,ae _⟩,{W with drawn:=W.drawn+1},λkk ds cs _=>(by rw[ed];exact e (k++kk) ds cs W),rfl,by simp only;omega,⟨λj q hj=>?_,hR.os,hR.output,hR.size,hR.seen,hR.hid,hR.tame,hR.high⟩,λ_ _=>rfl⟩
     have:=hR.draws (j+1) q (by simp only at hj;omega);simp only[Nat.add_assoc,Nat.add_comm 1 j];exact this
   |scope c=>cases hx
   |goto l=>cases hx
   |rangeFunc f p c d=>cases hx
   |refuse w=>exfalso;simp[G,stepG,stepG.exec,Frame.at]at h
  |inBlock id=>exact ctl hk λk ds cs w _=>stepG_inBlock
  |inLoop c=>exact ctl (td:=.code c::.inLoop c::k) (by intro y hy;simp at hy;rcases hy with rfl|rfl|hy;exact hx;exact hx;exact hk y hy) λk ds cs w _=>stepG_inLoop
  |inRegion ops l=>
   cases l with
   |nil=>exact ctl hk λk ds cs w _=>stepG_region_end
   |cons i rest=>
    cases hw:((ops[i]?).map (Region.wanted · (yielded ops tmps))).getD false with
    |false=>exact sZ hR (wP eb undef) (λkk ds cs w _=>by simp[G,stepG,stepG.exec,hw,Frame.at]) h
    |true=>
     cases ho:ops[i]? with
     |none=>rw[ho]at hw;cases hw
     |some o=>
      rw[ho]at hw;simp only[bt,ao]at hw;have dx:=tR hx ho;have hρ : ∀f,(Act.mk tmps []).eval (.func f)=.func (.func f) #[] #[]:=λf=>rfl
      have fu:∀ds,(Act.mk tmps ds).eval=(Act.mk tmps []).eval:=λds=>by funext x;cases x<;>rfl
      refine Nc hG (s:=execOp (Act.mk tmps []).eval o) fc hR eb (aA.execOp hG.cc hG.closed hρ dx) (λw w' n hn=>Bm hG.closed hρ dx hn) (λkk ds cs w=>?_) h hb;rw[<-fu ds];exact stepG_oper ho hw
  |inScope c=>cases hx
  |inRangeFunc l=>cases hx
  |endRangeFunc l=>cases hx
  |beginRound=>cases hx
  |call _ _ _ _=>cases hx
  |_=>cases hx
theorem Gm{m:Bool}{fr c0:Frame}{cs0:List Frame}{f:Func}{v W:World}{g':Goroutine}{v':World}{es:Array Event}(hR:Rel P S B v W)(hf:P.funcs[fr.fn]?=some f)(ff:fr.mode=.returning)(hd:fr.defers=[])(fc:fr.kind=.normal)
  (h:stepG P m (G fr (c0::cs0)) v=.go g' v' es) (hb:v'.drawn<=B):∃x,g'=G (c0.finish x) cs0∧oX P S B v W v' es λW'=>∀c cs,stepG P m (G fr (c::cs)) W=.go (G (c.finish x) cs) W' es:=by
 obtain⟨fn,tmps,todo,defers,mode,kind,round⟩:=fr;simp only at hf ff hd fc;subst ff hd fc;have e:∀(c:Frame)(cs:List Frame)(w w1:World) x fw,(results f tmps).runT P w #[]=(.ok x w1,fw)->stepG P m (G ⟨fn,tmps,todo,[],.returning,.normal,round⟩ (c::cs)) w=.go (G (c.finish x) cs) w1 (seen P fn fw):=by intro c cs w w1 x fw hr;simp only[G,stepG,unwind,hf,hr,doReturn,GStep.after];simp
 have ed:∀(c:Frame)(cs:List Frame)(w w1:World) y fw,(results f tmps).runT P w #[]=(.halt y w1,fw)->∀g w2 uz,stepG P m (G ⟨fn,tmps,todo,[],.returning,.normal,round⟩ (c::cs)) w≠.go g w2 uz:=by intro c cs w w1 y fw hr g w2 uz;simp only[G,stepG,unwind,hf,hr,GStep.after];cases y<;>simp
 have hA:=aA.results (P:=P) (S:=S) f tmps B v W #[] hR;have hK:=lB (P:=P) (results f tmps) v #[];cases jj:(results f tmps).runT P v #[]with
 |mk r fw=>
 rw[jj]at hA hK;cases r with
 |halt y v1=>exact absurd h (ed _ _ _ _ _ _ jj _ _ _)
 |ok x v1=>
  rw[e _ _ _ _ _ _ jj]at h;cases h
  obtain⟨W',eW,g⟩:=hA hb;refine⟨x,rfl,?_,hK,W',λc cs=>e _ _ _ _ _ _ eW,g.tape,g.drawn,g.rel,g.hidden⟩
  obtain⟨l,el,hl⟩:=g.grow;intro y hy;have:=mem_seen hy;have hm:y∈fw.toList:=by simpa using this
  rw[el]at hm;simp at hm;exact hl y hm
end
structure Twin(v u:World):Prop where
 heap:u.heap=v.heap
 os:u.os=v.os
 output:u.output=v.output
theorem Twin.refl(v:World):Twin v v:=⟨rfl,rfl,rfl⟩
theorem Twin.symm{v u:World}(h:Twin v u):Twin u v:=⟨h.heap.symm,h.os.symm,h.output.symm⟩
theorem Twin.trans{a b c:World}(h:Twin a b)(k:Twin b c):Twin a c:=⟨k.heap.trans h.heap,k.os.trans h.os,k.output.trans h.output⟩
theorem Twin.eq{a b:World}(h:Twin a b)(ht:b.tape=a.tape)(hd:b.drawn=a.drawn):b=a:=by obtain⟨_,_,_,_,_⟩:=a;obtain⟨_,_,_,_,_⟩:=b;obtain⟨h1,h2,h3⟩:=h;simp only at h1 h2 h3 ht hd;subst h1 h2 h3 ht hd;rfl
structure View(P:Program)(S:Nat->Prop)(v:World):Prop where
 hid:∀b,S b->v.heap[b]?=some eR
 tame:∀b,¬S b->∀o,v.heap[b]?=some o->o.tame
 high:∀b,S b->P.globals.size<=b
def cz:Frame:=⟨0,#[],[.code (.refuse "")],[{target:=.nil,args:=#[]}],.run,.normal,none⟩
structure OkSt(P:Program)(F:FuncId->Bool)(S:Nat->Prop)(fr:Frame)(inner:List Frame)(v:World):Prop where
 fr:OkFrame P F fr
 inner:∀c∈inner,OkFrame P F c
 view:View P S v
section
variable {P:Program}{F:FuncId->Bool}{S:Nat->Prop}{B:Nat}
theorem View.rel{v u:World}(h:View P S v)(t:Twin v u)(hd:∀j q,v.drawn+j<B->v.tape (v.drawn+j) q=u.tape (u.drawn+j) q):Rel P S B v u:=
 ⟨hd,t.os.symm,t.output.symm,by rw[t.heap],λb _=>by rw[t.heap],h.hid,h.tame,h.high⟩
theorem Rel.view{v W:World}(h:Rel P S B v W):View P S v:=⟨h.hid,h.tame,h.high⟩
theorem View.twin{v u:World}(h:View P S v)(t:Twin v u):View P S u:=⟨λb hb=>by rw[t.heap];exact h.hid b hb,λb hb o ho=>h.tame b hb o (by rw[<-t.heap];exact ho),h.high⟩
theorem Aw{v u v' u':World}(h:View P S v)(t:Twin v u)(hR:Rel P S B v' u')(hh:∀b,S b->u'.heap[b]?=u.heap[b]?):Twin v' u':=by
 refine⟨?_,hR.os.symm,hR.output.symm⟩;apply au;intro b;by_cases hb:S b
 .rw[hh b hb,t.heap,h.hid b hb,hR.hid b hb]
 .exact(hR.seen b hb).symm
def qQ(P:Program)(S:Nat->Prop)(E:Frame->List Frame->World->Prop):Prop:=∀fr inner a b,View P S a->Twin a b->E fr inner a->E fr inner b
def lW(P:Program)(E:Frame->List Frame->World->Prop):Nat->Frame->List Frame->World->Prop
 |0,fr,inner,v=>E fr inner v
 |n+1,fr,inner,v=>E fr inner v∨((fr.mode=.run∨inner≠[])∧∃fr' dh v' es,stepG P true (G fr (inner++[cz])) v=.go (G fr' (dh++[cz])) v' es∧lW P E n fr' dh v')
def zU(P:Program)(F:FuncId->Bool)(S:Nat->Prop)(E:Frame->List Frame->World->Prop)(Q:Frame->List Frame->World->Prop):Prop:=
 (∀{fr:Frame}{inner:List Frame}{v:World},OkSt P F S fr inner v->E fr inner v->Q fr inner v)∧
 ∀{fr:Frame}{inner:List Frame}{v:World},OkSt P F S fr inner v->¬E fr inner v->(fr.mode=.run∨inner≠[])->(∀u,Twin v u->∃fr' dh u' es,stepG P true (G fr (inner++[cz])) u=.go (G fr' (dh++[cz])) u' es)->(∀u fr' dh u' es,Twin v u->stepG P true (G fr (inner++[cz])) u=.go (G fr' (dh++[cz])) u' es->Q fr' dh u')->Q fr inner v
def dK(P:Program)(F:FuncId->Bool)(S:Nat->Prop)(E:Frame->List Frame->World->Prop)(fr:Frame)(inner:List Frame)(v:World):Prop:=∀Q,zU P F S E Q->Q fr inner v
section
variable {P:Program}{F:FuncId->Bool}{S:Nat->Prop}{E:Frame->List Frame->World->Prop}
theorem dK.leave{fr:Frame}{inner:List Frame}{v:World}(h:OkSt P F S fr inner v)(h':E fr inner v):dK P F S E fr inner v:=λ_ hQ=>hQ.1 h h'
theorem dK.step{fr:Frame}{inner:List Frame}{v:World}(h1:OkSt P F S fr inner v)(h2:¬E fr inner v)(h3:fr.mode=.run∨inner≠[])(h4:∀u,Twin v u->∃fr' dh u' es,stepG P true (G fr (inner++[cz])) u=.go (G fr' (dh++[cz])) u' es)
  (h5:∀u fr' dh u' es,Twin v u->stepG P true (G fr (inner++[cz])) u=.go (G fr' (dh++[cz])) u' es->dK P F S E fr' dh u'):dK P F S E fr inner v:=λQ hQ=>hQ.2 h1 h2 h3 h4 λu fr' dh u' es t hs=>h5 u fr' dh u' es t hs Q hQ
theorem dK.walked{motive:∀fr inner v,dK P F S E fr inner v->Prop}{fr:Frame}{inner:List Frame}{v:World}(h:dK P F S E fr inner v)
  (leave:∀{fr:Frame}{inner:List Frame}{v:World}(h:OkSt P F S fr inner v)(h':E fr inner v),motive fr inner v (.leave h h'))
  (step:∀{fr:Frame}{inner:List Frame}{v:World}(h1:OkSt P F S fr inner v)(h2:¬E fr inner v)(h3:fr.mode=.run∨inner≠[])(h4:∀u,Twin v u->∃fr' dh u' es,stepG P true (G fr (inner++[cz])) u=.go (G fr' (dh++[cz])) u' es)
   (h5:∀u fr' dh u' es,Twin v u->stepG P true (G fr (inner++[cz])) u=.go (G fr' (dh++[cz])) u' es->dK P F S E fr' dh u') (ih:∀u fr' dh u' es(t:Twin v u)(hs:stepG P true (G fr (inner++[cz])) u=.go (G fr' (dh++[cz])) u' es),motive fr' dh u' (h5 u fr' dh u' es t hs)),motive fr inner v (.step h1 h2 h3 h4 h5)):motive fr inner v h:=by
 have key:∃h:dK P F S E fr inner v,motive fr inner v h:=h (λfr inner v=>∃h:dK P F S E fr inner v,motive fr inner v h) ⟨λh1 h2=>⟨.leave h1 h2,leave h1 h2⟩,λh1 h2 h3 h4 h5=>
  ⟨.step h1 h2 h3 h4 λu fr' dh u' es t hs=>(h5 u fr' dh u' es t hs).1,step h1 h2 h3 h4 (λu fr' dh u' es t hs=>(h5 u fr' dh u' es t hs).1) λu fr' dh u' es t hs=>(h5 u fr' dh u' es t hs).2⟩⟩
 exact key.2
end
theorem Ky{fr:Frame}{a b:World}{x:Value}(hv:View P S a)(t:Twin a b)(h:fr.leaving P a (.returned x)):fr.leaving P b (.returned x):=by
 obtain⟨h1,h2,h3,fn,h4,h5⟩:=h;refine⟨h1,h2,h3,fn,h4,?_⟩;have hR:Rel P S a.drawn a b:=hv.rel t (λj q hj=>by omega);have hA:=aA.results (P:=P) (S:=S) fn fr.tmps a.drawn a b #[] hR;have e1:=Sem.runT_fst P (results fn fr.tmps) a #[];have e2:=Sem.runT_fst P (results fn fr.tmps) b #[];rw[h5]at e1;cases hr:(results fn fr.tmps).runT P a #[]with
 |mk r es=>
 rw[hr]at hA e1;simp only at e1;subst e1;obtain⟨b',e,g⟩:=hA (ae _);rw[e]at e2;rw[<-e2];have tw:Twin a b':=Aw hv t g.rel g.hidden;have:b'=b:=(t.symm.trans tw).eq g.tape (by have:=g.drawn;omega);rw[this]
variable {E:Frame->List Frame->World->Prop}
theorem mG{a b:List Frame}(h:a++[cz]=b++[cz]):a=b:=List.append_cancel_right h
def uU(P:Program)(E:Frame->List Frame->World->Prop)(fr:Frame)(inner:List Frame)(v:World):Prop:=∀u,Twin v u->∃n,lW P E n fr inner u
section limit
variable (u:Nat->World)(d:Nat->Nat)
def fW(c:Nat->Nat):Nat->Nat
 |0=>0
 |k+1=>fW c k+c k
theorem Dj(c:Nat->Nat){k m:Nat}(h:k<=m):fW c k<=fW c m:=by
 induction h with
 |refl=>exact ae _
 |step _ ih=>exact ak ih (Nat.le_add_right _ _)
open Classical in
theorem Ve(c:Nat->Nat):∃T:Nat->Question->Nat,∀(k j:Nat),j<c k->∀q,T (fW c k+j) q=(u k).tape ((u k).drawn+j) q:=by
 refine⟨λi q=>if h:∃k,fW c k<=i∧i<fW c (k+1) then(u h.choose).tape ((u h.choose).drawn+(i-fW c h.choose)) q else 0,λk j hj q=>?_⟩;have hk:∃k',fW c k'<=fW c k+j∧fW c k+j<fW c (k'+1):=⟨k,Nat.le_add_right _ _,by simp only[fW];omega⟩;simp only[];rw[dif_pos hk];have hc:=hk.choose_spec;generalize hk.choose=m at hc⊢;have:m=k:=by
  rcases Nat.lt_trichotomy m k with h|h|h
  .have:=Dj c (show m+1<=k from h);omega
  .exact h
  .have:=Dj c (show k+1<=m from h);simp only[fW]at this;omega
 subst this;congr 2;omega
end limit
end
structure WAt where
 above:Option (Frame×List Frame)
 tmps:Array Value
 todo:List Item
def WAt.top(tmps:Array Value)(todo:List Item):WAt:=⟨none,tmps,todo⟩
def WAt.deep(fr:Frame)(inner:List Frame)(tmps:Array Value)(todo:List Item):WAt:=⟨some (fr,inner),tmps,todo⟩
theorem WAt.parts{motive:WAt->Prop}(st:WAt)(top:∀tmps todo,motive (.top tmps todo))(deep:∀fr inner tmps todo,motive (.deep fr inner tmps todo)):motive st:=by
 obtain⟨_|⟨fr,inner⟩,tmps,todo⟩:=st
 .exact top tmps todo
 .exact deep fr inner tmps todo
def WAt.g(b:Frame)(ds:List Deferred)(floor:List Frame)(st:WAt):Goroutine:=
 match st.above with
 |none=>G (b.at ⟨st.tmps,ds⟩ st.todo) floor
 |some (fr,inner)=>G fr (inner++b.at ⟨st.tmps,ds⟩ st.todo::floor)
def WAt.gk(b:Frame)(ds:List Deferred)(floor:List Frame)(k:List Item)(st:WAt):Goroutine:=
 match st.above with
 |none=>G (b.at ⟨st.tmps,ds⟩ (st.todo++k)) floor
 |some (fr,inner)=>G fr (inner++b.at ⟨st.tmps,ds⟩ (st.todo++k)::floor)
theorem WAt.gk_nil(b:Frame)(ds:List Deferred)(floor:List Frame)(st:WAt):st.gk b ds floor []=st.g b ds floor:=by cases st using WAt.parts<;>simp[WAt.gk,WAt.g,WAt.top,WAt.deep]
def WAt.Busy(st:WAt):Prop:=
 match st.above with
 |none=>st.todo≠[]
 |some _=>True
def eM(b:Frame)(ds:List Deferred)(floor:List Frame)(tmps:Array Value)(todo:List Item):Goroutine:=G {b.at ⟨tmps,ds⟩ todo with mode:=.returning} floor
def aR(b:Frame)(ds:List Deferred)(floor:List Frame)(tmps:Array Value)(todo:List Item)(chain:List PanicEntry):Goroutine:=G ((b.at ⟨tmps,ds⟩ todo).raise chain) floor
structure WAt.Ok(P:Program)(F:FuncId->Bool)(st:WAt):Prop where
 todo:match st.above with
  |none=>∀x∈st.todo,cH P F x=true
  |some (fr,inner)=>OkFrame P F fr∧(∀c∈inner,OkFrame P F c)∧(∀x∈st.todo,cH P F x=true)∧∃ops i rest k,st.todo=.inRegion ops (i::rest)::k
section
variable {P:Program}{F:FuncId->Bool}{S:Nat->Prop}{B:Nat}
theorem Fi(hG:Good P F){f:FuncId}(hf:F f=true)(args:Array Value):OkFrame P F (Frame.enter P f args .normal):=by obtain⟨fn,c,h1,h2,h3,_⟩:=hG.body f hf;refine⟨?_,rfl,rfl,rfl,⟨fn,h1⟩⟩;intro x hx;simp[Frame.enter,h1,h2]at hx;subst hx;exact h3
def iC(P:Program)(F:FuncId->Bool)(b:Frame)(L:List Item->List Deferred->List Frame->Goroutine):Prop:=
 (∃st:WAt,st.Ok P F∧L=λk ds floor=>st.gk b ds floor k)∨(∃(tmps:Array Value)(todo:List Item),L=λk ds floor=>eM b ds floor tmps (todo++k))∨
 ∃(tmps:Array Value)(todo:List Item)(chain:List PanicEntry),L=λk ds floor=>aR b ds floor tmps (todo++k) chain
theorem iC.on{b:Frame}{st:WAt}(h:st.Ok P F):iC P F b (λk ds floor=>st.gk b ds floor k):=.inl ⟨_,h,rfl⟩
theorem iC.back{b:Frame}{tmps:Array Value}{todo:List Item} : iC P F b (λk ds floor=>eM b ds floor tmps (todo++k)):=.inr (.inl ⟨_,_,rfl⟩)
theorem iC.up{b:Frame}{tmps:Array Value}{todo:List Item}{chain:List PanicEntry} : iC P F b (λk ds floor=>aR b ds floor tmps (todo++k) chain):=.inr (.inr ⟨_,_,_,rfl⟩)
theorem iC.parts{b:Frame}{motive:∀L,iC P F b L->Prop}{L:List Item->List Deferred->List Frame->Goroutine}(h:iC P F b L)(on:∀{st:WAt}(h:st.Ok P F),motive _ (iC.on (b:=b) h))
  (back:∀{tmps:Array Value}{todo:List Item},motive _ (iC.back (tmps:=tmps) (todo:=todo))) (up:∀{tmps:Array Value}{todo:List Item}{chain:List PanicEntry},motive _ (iC.up (tmps:=tmps) (todo:=todo) (chain:=chain))):motive L h:=by
 rcases h with⟨_,h,rfl⟩|⟨_,_,rfl⟩|⟨_,_,_,rfl⟩
 .exact on h
 .exact back
 .exact up
theorem Ry{fr:Frame}(h:OkFrame P F fr)(hm:fr.mode=.run):fr=(base fr.fn).at ⟨fr.tmps,[]⟩ fr.todo:=by obtain⟨fn,tmps,todo,defers,mode,kind,round⟩:=fr;obtain⟨_,hd,hk,hr,_⟩:=h;simp only at hd hk hr hm;subst hd hk hr hm;rfl
theorem Jn{b:Frame}{ops:Array Oper}{i:Nat}{rest:List Nat}{k:List Item}(eb:∀x∈Item.inRegion ops (i::rest)::k,cH P F x=true)(tmps:Array Value)(x:Value):∃tmps',(∀y∈Item.inRegion ops rest::k,cH P F y=true)∧∀ds k',(b.at ⟨tmps,ds⟩ ((.inRegion ops (i::rest)::k)++k')).finish x=b.at ⟨tmps',ds⟩ ((.inRegion ops rest::k)++k'):=by
 have dx:∀y∈Item.inRegion ops rest::k,cH P F y=true:=by
  intro y hy;rcases List.mem_cons.1 hy with rfl|hk
  .exact eb (.inRegion ops (i::rest)) (by simp)
  .exact eb y (by simp[hk])
 cases hd:(ops[i]?).bind (·.dst) with
 |none=>exact⟨tmps,dx,λds k'=>by rw[List.cons_append,Frame.finish_at,hd];rfl⟩
 |some d=>exact⟨tmps.setIfInBounds d x,dx,λds k'=>by rw[List.cons_append,Frame.finish_at,hd];rfl⟩
theorem Ld(hG:Good P F){m:Bool}{b:Frame}(fc:b.kind≠.early){st:WAt}(dx:st.Ok P F){ds0:List Deferred}{IH:List Frame}{v W v':World}{g':Goroutine}{es:Array Event}(hR:Rel P S B v W)
  (h:stepG P m (st.g b ds0 IH) v=.go g' v' es) (hb:v'.drawn<=B) :
  ∃L,iC P F b L∧g'=L [] ds0 IH∧oX P S B v W v' es λW'=>∀k ds fl,(st.Busy∨k=[])->stepG P m (st.gk b ds fl k) W=.go (L k ds fl) W' es:=by
 cases st using WAt.parts with
 |top tmps todo=>
  have eb:∀x∈todo,cH P F x=true:=dx.todo;obtain⟨L,hL,e,hs⟩:=Gk hG (ds0:=ds0) (cs0:=IH) fc hR eb h hb;cases hL using fB.parts with
  |@on tmps' lr ht=>exact⟨_,.on (st:=.top tmps' lr) ⟨ht⟩,e,hs⟩
  |@into f args hf vk=>exact⟨_,.on (st:=.deep (Frame.enter P f args .normal) [] tmps todo) ⟨Fi hG hf args,by simp,eb,vk⟩,e,hs⟩
  |back=>exact⟨_,.back,e,hs⟩
  |up=>exact⟨_,.up,e,hs⟩
 |deep fr inner tmps todo=>
  obtain⟨kz,qb,eb,vk⟩:=dx.todo;cases ff:fr.mode with
  |run=>
   have VL:=Ry kz ff;have h':stepG P m (G ((base fr.fn).at ⟨fr.tmps,[]⟩ fr.todo) (inner++b.at ⟨tmps,ds0⟩ todo::IH)) v=.go g' v' es:=by rw[<-VL];exact h
   obtain⟨L,hL,e,fu,hk,W',hW,h1,h2,h3,h4⟩:=Gk hG (by simp[base]) hR kz.todo h' hb;have AI:∀k ds fl,stepG P m (G fr (inner++b.at ⟨tmps,ds⟩ (todo++k)::fl)) W=.go (L [] [] (inner++b.at ⟨tmps,ds⟩ (todo++k)::fl)) W' es:=λk ds fl=>by have:=hW [] [] (inner++b.at ⟨tmps,ds⟩ (todo++k)::fl) (.inr rfl);rw[bo,<-VL]at this;exact this
   cases hL using fB.parts with
   |@on tmps' lr ht=>
    refine⟨_,.on (st:=.deep ((base fr.fn).at ⟨tmps',[]⟩ lr) inner tmps todo) ⟨⟨ht,rfl,rfl,rfl,kz.fn⟩,qb,eb,vk⟩,?_,fu,hk,W',λk ds fl _=>?_,h1,h2,h3,h4⟩
    .rw[e];simp only[WAt.gk,WAt.top,WAt.deep,bo]
    .have:=AI k ds fl;simp only[bo]at this;exact this
   |@into f args hf _=>
    refine⟨_,.on (st:=.deep (Frame.enter P f args .normal) (fr::inner) tmps todo) ⟨Fi hG hf args,?_,eb,vk⟩,?_,fu,hk,W',?_,h1,h2,h3,h4⟩
    .intro c hc;rcases List.mem_cons.1 hc with rfl|hc
     .exact kz
     .exact qb c hc
    .rw[e];show G (Frame.enter P f args .normal) ((base fr.fn).at ⟨fr.tmps,[]⟩ (fr.todo++[])::(inner++b.at ⟨tmps,ds0⟩ todo::IH))=G (Frame.enter P f args .normal) (fr::(inner++b.at ⟨tmps,ds0⟩ (todo++[])::IH));rw[bo,bo,<-VL]
    .intro k ds fl _;have h5:stepG P m (G fr (inner++b.at ⟨tmps,ds⟩ (todo++k)::fl)) W=.go (G (Frame.enter P f args .normal) ((base fr.fn).at ⟨fr.tmps,[]⟩ (fr.todo++[])::(inner++b.at ⟨tmps,ds⟩ (todo++k)::fl))) W' es:=AI k ds fl;rw[bo,<-VL]at h5;exact h5
   |back=>
    refine⟨_,.on (st:=.deep {(base fr.fn).at ⟨fr.tmps,[]⟩ fr.todo with mode:=.returning} inner tmps todo) ⟨⟨kz.todo,rfl,rfl,rfl,kz.fn⟩,qb,eb,vk⟩,?_,fu,hk,W',λk ds fl _=>?_,h1,h2,h3,h4⟩
    .rw[e];simp only[WAt.gk,WAt.top,WAt.deep,bo]
    .have:=AI k ds fl;simp only[bo]at this;exact this
   |@up chain=>
    refine⟨_,.on (st:=.deep (((base fr.fn).at ⟨fr.tmps,[]⟩ fr.todo).raise chain) inner tmps todo) ⟨tG (c:=(base fr.fn).at ⟨fr.tmps,[]⟩ fr.todo) ⟨kz.todo,rfl,rfl,rfl,kz.fn⟩ chain,qb,eb,vk⟩,?_,fu,hk,W',λk ds fl _=>?_,h1,h2,h3,h4⟩
    .rw[e];simp only[WAt.gk,WAt.top,WAt.deep,bo]
    .have:=AI k ds fl;simp only[bo]at this;exact this
  |returning=>
   obtain⟨f,hf⟩:=kz.fn;cases inner with
   |nil=>
    obtain⟨ops,i,rest,k,rfl⟩:=vk;obtain⟨x,e,fu,hk,W',hW,h1⟩:=Gm hR hf ff kz.defers kz.kind h hb;obtain⟨tmps',UY,ij⟩:=Jn (b:=b) eb tmps x;refine⟨_,.on (st:=.top tmps' (.inRegion ops rest::k)) ⟨UY⟩,?_,fu,hk,W',λk' ds fl _=>?_,h1⟩
    .have:=ij ds0 [];simp only[bo]at this;simp only[WAt.deep]at e;rw[e,this];simp only[WAt.gk,WAt.top,WAt.deep,bo]
    .have:=hW (b.at ⟨tmps,ds⟩ ((.inRegion ops (i::rest)::k)++k')) fl;rw[ij]at this;exact this
   |cons c inner=>
    have hc:=qb c (by simp);obtain⟨x,e,fu,hk,W',hW,h1⟩:=Gm (c0:=c) (cs0:=inner++b.at ⟨tmps,ds0⟩ todo::IH) hR hf ff kz.defers kz.kind h hb;refine⟨_,.on (st:=.deep (c.finish x) inner tmps todo) ⟨ok_finish' hc x,λy hy=>qb y (by simp[hy]),eb,vk⟩,?_,fu,hk,W',λk ds fl _=>hW c _,h1⟩
    rw[e];simp only[WAt.gk,WAt.top,WAt.deep,bo]
  |panicking chain=>
   obtain⟨f,hf⟩:=kz.fn;obtain⟨fn,tm,td,de,mo,ki,ro⟩:=fr;obtain⟨KX,hd,VG,E_,_⟩:=kz;simp only at hf ff hd VG E_ KX;subst ff hd VG E_;have II:∀c cs(w:World),stepG P m (G ⟨fn,tm,td,[],.panicking chain,.normal,none⟩ (c::cs)) w=.go (G (Frame.raise c chain) cs) w #[]:=by intro c cs w;simp[G,stepG,unwind,Frame.catches,hf]
   cases inner with
   |nil=>
    have h':stepG P m (G ⟨fn,tm,td,[],.panicking chain,.normal,none⟩ (b.at ⟨tmps,ds0⟩ todo::IH)) v=.go g' v' es:=h;rw[II]at h';cases h'
    exact⟨_,.up (tmps:=tmps) (todo:=todo) (chain:=chain),by simp only[aR,bo],by simp,.refl v,W,λk ds fl _=>II _ _ _,rfl,rfl,hR,λ_ _=>rfl⟩
   |cons c inner=>
    have h':stepG P m (G ⟨fn,tm,td,[],.panicking chain,.normal,none⟩ (c::(inner++b.at ⟨tmps,ds0⟩ todo::IH))) v=.go g' v' es:=h;rw[II]at h';cases h'
    exact⟨_,.on (st:=.deep (c.raise chain) inner tmps todo) ⟨tG (qb c (by simp)) chain,λy hy=>qb y (by simp[hy]),eb,vk⟩,by simp only[WAt.gk,WAt.top,WAt.deep,bo],by simp,.refl v,W,λk ds fl _=>II _ _ _,rfl,rfl,hR,λ_ _=>rfl⟩
end
section
variable {P:Program}{F:FuncId->Bool}{S:Nat->Prop}{Post:Value->World->Prop}
def Iv(s:GStep):Prop:=(∃g w es,s=.go g w es)∨(∃o w es,s=.ended o w es)
theorem Ov{fn:FuncId}{tmps:Array Value}{ops:Array Oper}{i:Nat}{rest:List Nat}{k:List Item}{cs:List Frame}{s:Sem Next}{w w1:World}{fw:Array Event}{y:Halt}(hd:jJ y)(h:s.runT P w #[]=(.halt y w1,fw)):Iv (stepG.apply P true (Vw.run fn tmps (.inRegion ops (i::rest)::k)) cs none s w):=by
 cases y<;>first|(exact hd.elim)|skip
 .rename_i u;cases u<;>first|(exact absurd rfl (hd _))|(simp only[stepG.apply,if_true,h,Vw.run,GStep.after];exact .inr ⟨_,_,_,rfl⟩)
 .simp only[stepG.apply,if_true,h,Vw.run,GStep.after];exact .inr ⟨_,_,_,rfl⟩
theorem yM{fr fr':Frame}{cs AO:List Frame}{w w':World}{es:Array Event}(h:stepG P true (G fr cs) w=.go (G fr' AO) w' es):step P (lone fr cs w)=.next (lone fr' AO w'):=step_solo_go (a:=G fr cs) rfl h
theorem tE{fr:Frame}{cs:List Frame}{w w':World}{o:Outcome}{es:Array Event}(h:stepG P true (G fr cs) w=.ended o w' es):step P (lone fr cs w)=.ended o w':=
 step_lone_ended (by show(stepG P true (G fr cs) w).bare=_;rw[h];rfl)
theorem Sg(x:Value):cz.finish x=cz:=rfl
theorem Yi(w:World):∃o w',step P (lone cz [] w)=.ended o w':=by have:∃o w' es,stepG P true (G cz []) w=.ended o w' es:=⟨_,_,_,rfl⟩;obtain⟨o,w',es,h⟩:=this;exact⟨o,w',tE h⟩
theorem Sf(chain:List PanicEntry)(w:World):∃o w',step P (lone (cz.raise chain) [] w)=.ended o w':=by have:∃o w' es,stepG P true (G (cz.raise chain) []) w=.ended o w' es:=⟨_,_,_,rfl⟩;obtain⟨o,w',es,h⟩:=this;exact⟨o,w',tE h⟩
theorem Nq{n:Nat}{m m':Machine}{o:Outcome}{w:World}(h:step P m=.ended o w)(hr:runN P n m=.next m'):m=m':=by
 cases n with
 |zero=>simpa [runN] using hr
 |succ n=>simp[runN,h]at hr
def zI(P:Program)(Post:Value->World->Prop)(fr:Frame)(inner:List Frame)(v:World):Prop:=inner=[]∧∃x,fr.leaving P v (.returned x)∧Post x v
theorem Kz(hp:∀x a b,Twin a b->Post x a->Post x b):qQ P S (zI P Post):=λfr inner a b hv t ⟨h1,x,h2,h3⟩=>⟨h1,x,Ky hv t h2,hp x a b t h3⟩
end
open Go.ConcN (sumTo upd sumTo_upd upd_ne upd_same)
def Shun(S:Nat->Prop):Loc->Prop
 |.cell a=>S a.block
 |.obj r=>S r
 |_=>False
section
variable {P:Program}{F:FuncId->Bool}{S:Nat->Prop}{E:Frame->List Frame->World->Prop}
theorem zF{n B:Nat}{e:Event}(h:fI S n e)(hn:n<=B):EvL (Shun S) B e:=by
 obtain⟨loc,wr,sy⟩:=e;cases loc with
 |cell a=>
  obtain⟨h1,h2⟩:=h;refine⟨λx hx hs=>?_,by simp,by simp,?_⟩
  .simp[MemAct.ofEvent,MemAct.touch?]at hx;subst hx;exact absurd hs h1
  .show a.block<B;exact bg h2 hn
 |obj r=>
  obtain⟨h1,h2⟩:=h;refine⟨λx hx hs=>?_,by simp,by simp,?_⟩
  .cases wr<;>cases sy<;>simp[MemAct.ofEvent,MemAct.touch?]at hx
   all_goals (subst hx;exact absurd hs h1)
  .cases wr<;>cases sy<;>exact bg h2 hn
 |output=>exact h.elim
 |goroutines=>exact h.elim
 |mark m=>have:m=.noRoom:=h;subst this;exact⟨λx hx hs=>by simp[MemAct.ofEvent,MemAct.touch?]at hx,by simp,by simp,trivial⟩
def jZ(n:Nat)(t:Trace):Prop:=∀op∈t,op.g<n∧∀x,op.act.touch?=some x->x.loc.isMemory=true
theorem Ew{n i B:Nat}{t:Trace}{fn:FuncId}{pos:String}{es:Array Event}(h:jZ n t)(hi:i<n)(ly:∀e∈es,fI S B e):jZ n (t++MemOp.ofEvents i fn pos es):=by
 intro op dm;rcases Array.mem_append.1 dm with h1|h1
 .exact h op h1
 .obtain⟨e,he,rfl⟩:=Conc.mem_ofEvents h1;refine⟨hi,λx hx=>?_⟩;have:=ly e he;obtain⟨loc,wr,sy⟩:=e;cases loc with
  |cell a=>simp[MemAct.ofEvent,MemAct.touch?]at hx;subst hx;rfl
  |obj r=>
   cases wr<;>cases sy<;>simp[MemAct.ofEvent,MemAct.touch?]at hx
   all_goals (subst hx;rfl)
  |output=>exact this.elim
  |goroutines=>exact this.elim
  |mark m=>have hm:m=.noRoom:=this;subst hm;simp[MemAct.ofEvent,MemAct.touch?]at hx
theorem xA{n i:Nat}{t:Trace}{fn:FuncId}{pos:String}{es:Array Event}(h:jZ n t)(hi:i<n)(ly:∀e∈es,e.mute=true):jZ n (t++MemOp.ofEvents i fn pos es):=by
 intro op dm;rcases Array.mem_append.1 dm with h1|h1
 .exact h op h1
 .obtain⟨e,he,rfl⟩:=Conc.mem_ofEvents h1;exact⟨hi,λx hx=>by rw[touch_mute (ly e he)]at hx;cases hx⟩
theorem wX{gs:Array Goroutine}{t:Trace}{q:Nat->Nat}{a:Goroutine}(h0:gs[0]?=some a)(dq:a.status=.running)(hL:Leavers P t gs q):∀g∈gs,awake g:=by
 intro g hg;obtain⟨i,hi,rfl⟩:=Array.mem_iff_getElem.1 hg;rcases Nat.eq_zero_or_pos i with rfl|me
 .have:gs[0]=a:=by simpa [bf hi] using h0
  rw[this];exact awake_of (.inl dq)
 .exact awake_of ((hL.old i _ me (bf hi)).status.elim .inl λx=>.inr (.inr x))
theorem Bn{gs:Array Goroutine}{t:Trace}{q:Nat->Nat}(dp:0<gs.size)(hL:Leavers P t gs q)(g a':Goroutine)(w':World)(fn:FuncId)(pos:String)(es:Array Event):Leavers P (t++MemOp.ofEvents 0 fn pos es) ((gs.map (woken P g a' w')).setIfInBounds 0 a') q:=
 ⟨λj x hj hx=>by
  have dy:0≠j:=by omega
  rw[ax dy,bj]at hx;obtain⟨y,hy,rfl⟩:=Option.map_eq_some_iff.1 hx;have hq:=hL.old j y hj hy;rw[woken_quitsD hq,Deaf_other t (g:=j) (g':=0) (by omega) _ (λop dm=>by obtain⟨e,_,rfl⟩:=Conc.mem_ofEvents dm;rfl)];exact hq,λj hj=>by
  rw[Deaf_other t (g':=0) (by simp at hj;omega) _ (λop dm=>by obtain⟨e,_,rfl⟩:=Conc.mem_ofEvents dm;rfl)]
  exact hL.above j (by simpa using hj)⟩
theorem vI{gs:Array Goroutine}{t:Trace}{q:Nat->Nat}(hL:Leavers P t gs q){i k:Nat}{g g':Goroutine}(hi:gs[i]?=some g)(me:0<i){w':World}{fn:FuncId}{pos:String}{es:Array Event}
  (qx:QuitsD P k (deafBehind (Deaf t i) es) g'):Leavers P (t++MemOp.ofEvents i fn pos es) ((gs.map (woken P g g' w')).setIfInBounds i g') (upd q i k):=
 ⟨λj x hj hx=>by
  have dp:i<gs.size:=(Array.getElem?_eq_some_iff.1 hi).1;by_cases jz:i=j
  .subst jz;rw[Array.getElem?_setIfInBounds_self_of_lt (by simpa using dp)]at hx;obtain rfl:=bm hx;rw[upd_same,Deaf_own];exact qx
  .rw[ax jz,bj]at hx;obtain⟨y,hy,rfl⟩:=Option.map_eq_some_iff.1 hx;have F4:=hL.old j y hj hy;rw[woken_quitsD F4,upd_ne q k (Ne.symm jz),Deaf_other t jz _ (λop dm=>by obtain⟨e,_,rfl⟩:=Conc.mem_ofEvents dm;rfl)];exact F4,λj hj=>by
  have dp:i<gs.size:=(Array.getElem?_eq_some_iff.1 hi).1;rw[Deaf_other t (g':=i) (by simp at hj;omega) _ (λop dm=>by obtain⟨e,_,rfl⟩:=Conc.mem_ofEvents dm;rfl)]
  exact hL.above j (by simpa using hj)⟩
structure There(P:Program)(F:FuncId->Bool)(S:Nat->Prop)(E:Frame->List Frame->World->Prop)(γ : Frame->List Frame->Goroutine)(I:Frame->List Frame->Prop)(gs:Array Goroutine)(W:World)(sl:Option (Nat×Nat))(t:Trace)(N:Nat)(je:Array Goroutine)(W':World)(ju:Option (Nat×Nat))(t':Trace)(q':Nat->Nat)
  (fr':Frame) (dh:List Frame) (v':World):Prop where
 run:runNT P N (crowd gs W sl) t=(.next (crowd je W' ju),t')
 size:je.size=gs.size
 at0:je[0]?=some (γ fr' dh)
 stop:E fr' dh v'
 inv:I fr' dh
 ok:OkSt P F S fr' dh v'
 rel:Rel P S 0 v' W'
 hidden:∀b,S b->W'.heap[b]?=W.heap[b]?
 grown:W.heap.size<=W'.heap.size
 leavers:Leavers P t' je q'
 past:Past (Shun S) W'.heap.size t'
 tidy:jZ je.size t'
theorem Rel.zero{B:Nat}{v W:World}(h:Rel P S B v W):Rel P S 0 v W:=⟨λj q hj=>by omega,h.os,h.output,h.size,h.seen,h.hid,h.tame,h.high⟩
theorem Rel.at{v W:World}(h:Rel P S 0 v W)(d:Nat):Rel P S 0 v (W.at d):=⟨λj q hj=>by omega,h.os,h.output,h.size,h.seen,h.hid,h.tame,h.high⟩
end
