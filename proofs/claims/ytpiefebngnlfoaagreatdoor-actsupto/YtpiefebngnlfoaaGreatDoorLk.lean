import Derived.Test.YtpiefebngnlfoaaGreatDoorLd
set_option maxRecDepth 99999
set_option maxHeartbeats 0
set_option linter.unusedVariables false
set_option linter.unusedSimpArgs false
namespace Go.Vw.Dy
open Go.Conc
open Go.ConcN (sumTo upd sumTo_upd upd_ne upd_same)
structure Cb where
 C:FuncId->Nat->Bool
 g:FuncId
def Cb.v(K:Cb):Value:=.func (.func K.g) #[] #[]
def pA(K:Cb)(x:Value):Prop:=x=undef∨x=K.v
def lS(K:Cb)(fn:FuncId)(tmps:Array Value):Prop:=∀(s:Nat) x,K.C fn s=true->tmps[s]?=some x->pA K x
def CbArg(K:Cb)(f:FuncId)(args:Array Value):Prop:=∀(p:Nat) x,K.C f p=true->args[p]?=some x->pA K x
def noF:FuncId->Bool:=λ_=>false
def isC(K:Cb)(fn:FuncId):Operand->Bool
 |.tmp s=>K.C fn s
 |_=>false
def uE(K:Cb)(fn:FuncId)(o:Oper):Bool:=
 match o.dst with
 |some d=>!K.C fn d||(match o.op with|.move x=>isC K fn x|_=>false)
 |none=>true
def N6(K:Cb)(fn f:FuncId)(args:Array Operand):Bool:=(List.range args.size).all λp=>!K.C f p||((args[p]?).map (isC K fn)).getD false
def lN(P:Program)(F:FuncId->Bool)(K:Cb)(fn:FuncId)(o:Oper):Bool:=
 uE K fn o&&(match o.op with
  |.call c=>(match c.callee with
   |.value (.func f)=>F f&&N6 K fn f c.args
   |.value (.tmp s)=>K.C fn s
   |_=>bW P noF o)
  |_=>bW P noF o)
def zP(F:FuncId->Bool)(K:Cb)(fn:FuncId)(o:Oper):Next->Prop
 |.value x=>∀d,o.dst=some d->K.C fn d=true->pA K x
 |.skip=>True
 |.enter f args=>F f=true∧CbArg K f args∧∀d,o.dst=some d->K.C fn d=false
 |_=>False
theorem Id{K:Cb}{fn:FuncId}{tmps:Array Value}{ops:Array Oper}{i:Nat}{x:Value}(h:lS K fn tmps)(hx:∀o d,ops[i]?=some o->o.dst=some d->K.C fn d=true->pA K x):lS K fn (match ops[i]?.bind λx=>x.dst with|some d=>tmps.setIfInBounds d x|none=>tmps):=by
 intro s y hs hy;cases ho:ops[i]? with
 |none=>rw[ho]at hy;exact h s y hs hy
 |some o=>
  rw[ho]at hy;cases hd:o.dst with
  |none=>simp only[Option.bind_some,hd]at hy;exact h s y hs hy
  |some d=>
   simp only[Option.bind_some,hd]at hy;rw[aj]at hy;split at hy
   .rename_i e;subst e;split at hy
    .cases hy;exact hx o _ ho hd hs
    .cases hy
   .exact h s y hs hy
theorem Fw{P:Program}{K:Cb}{f:FuncId}{args:Array Value}(h:CbArg K f args):lS K (Frame.enter P f args .normal).fn (Frame.enter P f args .normal).tmps:=by
 intro s x hs hx;simp only[Frame.enter]at hs hx;rw[Array.getElem?_append]at hx;split at hx
 .exact h s x hs hx
 .rw[Array.getElem?_replicate]at hx;split at hx
  .cases hx;exact .inl rfl
  .cases hx
def okCode(P:Program)(F:FuncId->Bool)(K:Cb)(fn:FuncId):Code->Bool
 |.skip|.label _|.exit _|.ret|.refuse _=>true
 |.region _ ops _=>ops.all (lN P F K fn)
 |.seq a b=>okCode P F K fn a&&okCode P F K fn b
 |.cond _ a b=>okCode P F K fn a&&okCode P F K fn b
 |.block _ c=>okCode P F K fn c
 |.loop c=>okCode P F K fn c
 |_=>false
def cH(P:Program)(F:FuncId->Bool)(K:Cb)(fn:FuncId):Item->Bool
 |.code c=>okCode P F K fn c
 |.inBlock _=>true
 |.inLoop c=>okCode P F K fn c
 |.inRegion ops _=>ops.all (lN P F K fn)
 |_=>false
structure Good(P:Program)(F:FuncId->Bool)(K:Cb):Prop where
 body:∀f,F f=true->∃fn c,P.funcs[f]?=some fn∧fn.body=some c∧okCode P F K f c=true∧(fn.name == "runtime.NumGoroutine")=false
 cc:iB P
 led:F K.g=true
 none:∀p,K.C K.g p=false
structure OkFrame(P:Program)(F:FuncId->Bool)(K:Cb)(fr:Frame):Prop where
 todo:∀x∈fr.todo,cH P F K fr.fn x=true
 defers:fr.defers=[]
 kind:fr.kind=.normal
 round:fr.roundOf=none
 fn:∃f,P.funcs[fr.fn]?=some f
 cb:lS K fr.fn fr.tmps
def oY(P:Program)(F:FuncId->Bool)(K:Cb)(c:Frame):Prop:=OkFrame P F K c∧∀ops i rest k,c.todo=.inRegion ops (i::rest)::k->∀o d,ops[i]?=some o->o.dst=some d->K.C c.fn d=false
def Con(P:Program)(F:FuncId->Bool)(K:Cb)(S:Nat->Prop)(B:Nat)(fr:Frame)(inner c0:List Frame)(v W:World)(g':Goroutine)(v':World)(es:Array Event):Prop:=
 ∃fr' dh,g'=G fr' (dh++c0)∧OkFrame P F K fr'∧(∀c∈dh,oY P F K c)∧(∀e∈es,fI S v'.heap.size e)∧bA v v'∧
  ∀cs,∃W',stepG P true (G fr (inner++cs)) W=.go (G fr' (dh++cs)) W' es∧W'.tape=W.tape∧W'.drawn+v.drawn=W.drawn+v'.drawn∧Rel P S B v' W'∧∀b,S b->W'.heap[b]?=W.heap[b]?
section
variable {P:Program}{F:FuncId->Bool}{K:Cb}{S:Nat->Prop}{B:Nat}
theorem Good.closed(h:Good P F K):oN P F:=λf hf=>by obtain⟨fn,c,h1,h2,_,h3⟩:=h.body f hf;exact⟨fn,h1,by simp[h2],h3⟩
theorem xL:oN P noF:=λf hf=>by cases hf
theorem Ds(hF:oN P F){f:FuncId}(hf:F f=true)(args:Array Value){w w':World}{n:Next}(h:(Go.callFunc f args).run P w=.ok n w'):n=.enter f args:=by
 obtain⟨fn,h1,h2,h3⟩:=hF f hf;unfold Go.callFunc at h;have h4:(Go.program.bind _).run P w=.ok n w':=h;rw[Sem.run_bind']at h4;have qp:fn.body.isNone=false:=by cases hh:fn.body<;>simp_all
 simp only[Go.program,Sem.run,Result.andThen,h1,h3,qp,ay,if_false]at h4;cases h4;rfl
theorem uF{fn:FuncId}{tmps:Array Value}(h:lS K fn tmps){x:Operand}(hx:isC K fn x=true):pA K ((Act.mk tmps []).eval x):=by
 cases x with
 |tmp s=>
  cases hs:tmps[s]? with
  |none=>left;simp[Act.eval,hs]
  |some y=>
   have:(Act.mk tmps []).eval (.tmp s)=y:=by simp[Act.eval,hs]
   rw[this];exact h s y hx hs
 |_=>cases hx
theorem tQ{ρ : Operand->Value}{o:Oper}{c:Call}{x:Operand}{f:FuncId}(ho:o.op=.call c)(hb:c.callee=.value x)(hx:ρ x=.func (.func f) #[] #[]):Go.execOp ρ o=Go.callFunc f (#[]++c.args.map ρ++#[]):=by unfold Go.execOp;rw[ho];simp only;unfold resolve;simp only[hb,hx,Deferred.ofValue];rfl
theorem Hf{ρ : Operand->Value}{o:Oper}{c:Call}{x:Operand}(ho:o.op=.call c)(hb:c.callee=.value x)(hx:ρ x=undef):∃m,Go.execOp ρ o=Go.stuck m:=by apply Exists.intro;unfold Go.execOp;rw[ho];simp only;unfold resolve;simp only[hb,hx,Deferred.ofValue,undef];rfl
theorem Bw(hG:Good P F K){fn:FuncId}{tmps:Array Value}(hρ : ∀f,(Act.mk tmps []).eval (.func f)=.func (.func f) #[] #[])(hc:lS K fn tmps){o:Oper}(ho:lN P F K fn o=true):aA P S (Go.execOp (Act.mk tmps []).eval o):=by
 unfold lN at ho;rw[bq]at ho;have h2:=ho.2;split at h2
 .rename_i c dm;split at h2
  .rename_i f hb;rw[bq]at h2;obtain⟨PC,q1,q2,_⟩:=hG.closed f h2.1;rw[tQ dm hb (hρ f)];exact aA.callFunc q1 q2 _
  .rename_i s hb;rcases uF (x:=.tmp s) hc h2 with h3|h3
   .obtain⟨m,e⟩:=Hf dm hb h3;rw[e];exact aA.stuck _
   .obtain⟨PC,q1,q2,_⟩:=hG.closed K.g hG.led;rw[tQ dm hb h3];exact aA.callFunc q1 q2 _
  .exact aA.execOp hG.cc xL hρ h2
 .exact aA.execOp hG.cc xL hρ h2
theorem Fu{fn:FuncId}{o:Oper}(h:uE K fn o=true)(hm:∀x,o.op≠.move x)(d:Nat)(hd:o.dst=some d):K.C fn d=false:=by
 unfold uE at h;rw[hd]at h;cases b_:K.C fn d with
 |false=>rfl
 |true=>
  simp only[b_]at h;cases dm:o.op with
  |move x=>exact absurd dm (hm x)
  |_=>cases h
theorem Dx(hG:Good P F K){fn:FuncId}{tmps:Array Value}(hρ : ∀f,(Act.mk tmps []).eval (.func f)=.func (.func f) #[] #[])(hc:lS K fn tmps){o:Oper}(ho:lN P F K fn o=true){w w':World}{n:Next}
  (h:(Go.execOp (Act.mk tmps []).eval o).run P w=.ok n w'):zP F K fn o n:=by
 unfold lN at ho;rw[bq]at ho;obtain⟨h1,h2⟩:=ho;have plain:bW P noF o=true->zP F K fn o n:=λhp=>by
  have hx:=Bm xL hρ hp h;cases n with
  |value x=>
   intro d hd b_;unfold uE at h1;rw[hd]at h1;simp only[b_,Bool.not_true,Bool.false_or]at h1;split at h1
   .rename_i y hy;unfold Go.execOp at h;rw[hy]at h;cases h
    exact uF hc h1
   .cases h1
  |skip=>trivial
  |enter f args=>cases hx
  |_=>exact hx.elim
 split at h2
 .rename_i c dm;have hm:∀x,o.op≠.move x:=λx e=>by rw[dm]at e;cases e
  split at h2
  .rename_i f hb;rw[bq]at h2;rw[tQ dm hb (hρ f)]at h;rw[Ds hG.closed h2.1 _ h];refine⟨h2.1,λp x hp hx=>?_,Fu h1 hm⟩
   simp only[Array.append_empty,Array.empty_append,bj]at hx;obtain⟨y,hy,rfl⟩:=Option.map_eq_some_iff.1 hx;have dp:p<c.args.size:=(Array.getElem?_eq_some_iff.1 hy).1;have h3:=List.all_eq_true.1 h2.2 p (List.mem_range.2 dp);simp only[hp,hy,Bool.not_true,Bool.false_or,bt,ao]at h3;exact uF hc h3
  .rename_i s hb;rcases uF (x:=.tmp s) hc h2 with h3|h3
   .obtain⟨m,e⟩:=Hf dm hb h3;rw[e]at h;cases h
   .rw[tQ dm hb h3]at h;rw[Ds hG.closed hG.led _ h];exact⟨hG.led,λp x hp _=>by rw[hG.none p]at hp;(cases hp),Fu h1 hm⟩
  .exact plain h2
 .exact plain h2
theorem OkFrame.run{fn:FuncId}{tmps:Array Value}{todo:List Item}(ny:∃f,P.funcs[fn]?=some f)(h:∀x∈todo,cH P F K fn x=true)(hc:lS K fn tmps):OkFrame P F K (Vw.run fn tmps todo):=⟨h,rfl,rfl,rfl,ny,hc⟩
theorem gS{fr fr':Frame}{inner c0:List Frame}{v W:World}{g':Goroutine}{v':World}{es:Array Event}(hR:Rel P S B v W)(hi:∀c∈inner,oY P F K c)
  (EA:∀cs w,stepG P true (G fr cs) w=.go (G fr' cs) w #[]) (dx:OkFrame P F K fr') (h:stepG P true (G fr (inner++c0)) v=.go g' v' es):Con P F K S B fr inner c0 v W g' v' es:=by
 rw[EA]at h;cases h
 exact⟨fr',inner,rfl,dx,hi,by simp,.refl v,λcs=>⟨W,EA _ _,rfl,rfl,hR,λ_ _=>rfl⟩⟩
theorem xF{fn:FuncId}{tmps:Array Value}{ops:Array Oper}{i:Nat}{rest:List Nat}{k:List Item}(h:OkFrame P F K (Vw.run fn tmps (.inRegion ops (i::rest)::k)))(x:Value)(hx:∀o d,ops[i]?=some o->o.dst=some d->K.C fn d=true->pA K x):OkFrame P F K ((Vw.run fn tmps (.inRegion ops (i::rest)::k)).finish x):=by
 refine⟨?_,rfl,rfl,rfl,h.fn,Id h.cb hx⟩;intro y hy;have CJ:y∈(Item.inRegion ops rest::k):=hy;rcases List.mem_cons.1 CJ with rfl|hk
 .exact h.todo (.inRegion ops (i::rest)) (by simp[Vw.run])
 .exact h.todo y (by simp[Vw.run,hk])
theorem Sl(hG:Good P F K){fn:FuncId}{tmps:Array Value}{ops:Array Oper}{i:Nat}{rest:List Nat}{k:List Item}{inner c0:List Frame}{v W:World}{g':Goroutine}{v':World}{es:Array Event}{s:Sem Next}
  (hR:Rel P S B v W) (kz:OkFrame P F K (Vw.run fn tmps (.inRegion ops (i::rest)::k))) (hi:∀c∈inner,oY P F K c) (hs:aA P S s) {o:Oper} (ho:ops[i]?=some o) (hn:∀w w' n,s.run P w=.ok n w'->zP F K fn o n)
  (ei:∀cs w,stepG P true (G (Vw.run fn tmps (.inRegion ops (i::rest)::k)) cs) w=stepG.apply P true (Vw.run fn tmps (.inRegion ops (i::rest)::k)) cs none s w)
  (h:stepG P true (G (Vw.run fn tmps (.inRegion ops (i::rest)::k)) (inner++c0)) v=.go g' v' es) (hb:v'.drawn<=B) :
  Con P F K S B (Vw.run fn tmps (.inRegion ops (i::rest)::k)) inner c0 v W g' v' es:=by
 rw[ei]at h;have hA:=hs B v W #[] hR;have hK:=lB (P:=P) s v #[];have dq:=Sem.runT_fst P s v #[];unfold Con;simp only[ei];cases jj:s.runT P v #[]with
 |mk r fw=>
 rw[jj]at hA hK dq;have evs:∀v1:World,jK S v1.heap.size #[] fw->∀e∈seen P fn fw,fI S v1.heap.size e:=by
  intro v1 ⟨l,e,hl⟩ x hx;have:=mem_seen hx;have hm:x∈fw.toList:=by simpa using this
  rw[e]at hm;simp at hm;exact hl x hm
 cases r with
 |ok n v1=>
  have uh:=hn v v1 n dq.symm;cases n with
  |value x=>
   rw[vX jj]at h;cases h
   obtain⟨W',e,g⟩:=hA hb;exact⟨_,inner,rfl,xF kz x (λo1 d h1 h2=>by rw[ho]at h1;cases h1;exact uh d h2),hi,evs _ g.grow,hK,λcs=>⟨W',vX e,g.tape,g.drawn,g.rel,g.hidden⟩⟩
  |skip=>
   rw[wV jj]at h;cases h
   obtain⟨W',e,g⟩:=hA hb;exact⟨_,inner,rfl,xF kz _ (λ_ _ _ _ _=>.inl rfl),hi,evs _ g.grow,hK,λcs=>⟨W',wV e,g.tape,g.drawn,g.rel,g.hidden⟩⟩
  |enter f args=>
   rw[vZ jj]at h;cases h
   obtain⟨W',e,g⟩:=hA hb;obtain⟨ub,zm,CK⟩:=uh;obtain⟨PC,c,h1,h2,h3,_⟩:=hG.body f ub;refine⟨_,_::inner,rfl,⟨?_,rfl,rfl,rfl,⟨PC,h1⟩,Fw zm⟩,?_,evs _ g.grow,hK,λcs=>⟨W',vZ e,g.tape,g.drawn,g.rel,g.hidden⟩⟩
   .intro x hx;simp[Frame.enter,h1,h2]at hx;subst hx;exact h3
   .intro c hc;rcases List.mem_cons.1 hc with rfl|hc
    .refine⟨kz,λV1 i1 rest1 k1 e1 o1 d1 h5 h6=>?_⟩
     cases e1
     rw[ho]at h5;cases h5
     exact CK d1 h6
    .exact hi c hc
  |_=>exact uh.elim
 |halt y v1=>
  rcases hs.halts hR jj with hd|⟨x,rfl⟩
  .exact absurd h (Ow hd jj)
  .rw[vY jj]at h;cases h
   rcases hA with⟨hd,_⟩|hA
   .exact hd.elim
   .obtain⟨_,W',e,g⟩:=hA hb;exact⟨_,inner,rfl,⟨kz.todo,rfl,rfl,rfl,kz.fn,kz.cb⟩,hi,evs _ g.grow,hK,λcs=>⟨W',vY e,g.tape,g.drawn,g.rel,g.hidden⟩⟩
theorem tR{fn:FuncId}{ops:Array Oper}(h:ops.all (lN P F K fn)=true){i:Nat}{o:Oper}(ho:ops[i]?=some o):lN P F K fn o=true:=by have:=Array.all_eq_true_iff_forall_mem.1 h o (Array.mem_of_getElem? ho);exact this
theorem ok_finish'{c:Frame}(h':oY P F K c)(x:Value):OkFrame P F K (c.finish x):=by
 obtain⟨h,ei⟩:=h';obtain⟨fn,tmps,todo,defers,mode,kind,round⟩:=c;obtain⟨eb,oq,fc,ig,ny,yc⟩:=h;simp only at eb oq fc ig ny yc ei;subst oq fc ig;unfold Frame.finish;simp only;split
 .rename_i ops i rest k;refine⟨?_,rfl,rfl,rfl,ny,Id yc λo d h1 h2 h3=>?_⟩
  rotate_left
  .rw[ei ops i rest k rfl o d h1 h2]at h3;cases h3
  intro y hy;rcases List.mem_cons.1 hy with rfl|hk
  .exact eb (.inRegion ops (i::rest)) (by simp)
  .exact eb y (by simp[hk])
 .exact absurd (eb _ (bw)) (by simp[cH])
 .exact absurd (eb _ (bw)) (by simp[cH])
 .exact absurd (eb _ (bw)) (by simp[cH])
 .exact absurd (eb _ (bw)) (by simp[cH])
 .exact⟨eb,rfl,rfl,rfl,ny,yc⟩
theorem tG{c:Frame}(h:OkFrame P F K c)(chain:List PanicEntry):OkFrame P F K (c.raise chain):=by
 unfold Frame.raise;first
 |exact⟨h.todo,h.defers,h.kind,h.round,h.fn,h.cb⟩
 |(split<;>exact⟨h.todo,h.defers,h.kind,h.round,h.fn,h.cb⟩)
theorem Ff(hG:Good P F K){fr:Frame}{inner c0:List Frame}{v W:World}{g':Goroutine}{v':World}{es:Array Event}(hR:Rel P S B v W)(kz:OkFrame P F K fr)(hi:∀c∈inner,oY P F K c)
  (qz:fr.mode=.run∨inner≠[]) (h:stepG P true (G fr (inner++c0)) v=.go g' v' es) (hb:v'.drawn<=B):Con P F K S B fr inner c0 v W g' v' es:=by
 obtain⟨fn,tmps,todo,defers,mode,kind,round⟩:=fr;obtain⟨eb,oq,fc,ig,ny,yc⟩:=kz;simp only at eb oq fc ig ny yc qz;subst oq fc ig;cases mode with
 |run=>
  have kz:∀td,(∀x∈td,cH P F K fn x=true)->OkFrame P F K (Vw.run fn tmps td):=λtd h=>.run ny h yc
  cases todo with
  |nil=>exact gS hR hi (λcs w=>stepG_end (b:=base fn) (a:=⟨tmps,[]⟩)) ⟨by simp[Frame.at],rfl,rfl,rfl,ny,yc⟩ h
  |cons x k=>
   have hx:=eb x (by simp);have hk:∀y∈k,cH P F K fn y=true:=λy hy=>eb y (by simp[hy])
   cases x with
   |code c=>
    cases c with
    |skip=>exact gS hR hi (λcs w=>stepG_skip (b:=base fn) (a:=⟨tmps,[]⟩)) (kz k hk) h
    |label l=>exact gS hR hi (λcs w=>stepG_label (b:=base fn) (a:=⟨tmps,[]⟩)) (kz k hk) h
    |seq a b=>simp only[cH,okCode,bq]at hx;exact gS hR hi (λcs w=>stepG_seq (b:=base fn) (a:=⟨tmps,[]⟩)) (kz _ (by intro y hy;simp at hy;rcases hy with rfl|rfl|hy;exact hx.1;exact hx.2;exact hk y hy)) h
    |cond c a b=>
     simp only[cH,okCode,bq]at hx;cases hc:(Act.mk tmps []).eval c with
     |bool t=>
      refine gS hR hi (λcs w=>stepG_cond (b:=base fn) (a:=⟨tmps,[]⟩) hc) (kz _ ?_) h;intro y hy;simp at hy;rcases hy with rfl|hy
      .cases t
       .exact hx.2
       .exact hx.1
      .exact hk y hy
     |_=>exfalso;have ek:((base fn).at ⟨tmps,[]⟩ (.code (.cond c a b)::k)).eval c=_:=(Frame.eval_at _ _ _ _).trans hc;simp only[Frame.at,base]at ek;have h':stepG P true (G ⟨fn,tmps,.code (.cond c a b)::k,[],.run,.normal,none⟩ (inner++c0)) v=.go g' v' es:=h;simp only[G,stepG,stepG.exec]at h';rw[ek]at h';cases h'
    |block id c=>exact gS hR hi (λcs w=>stepG_block (b:=base fn) (a:=⟨tmps,[]⟩)) (kz _ (by intro y hy;simp at hy;rcases hy with rfl|rfl|hy;exact hx;rfl;exact hk y hy)) h
    |loop c=>exact gS hR hi (λcs w=>stepG_loop (b:=base fn) (a:=⟨tmps,[]⟩)) (kz _ (by intro y hy;simp at hy;rcases hy with rfl|rfl|hy;exact hx;exact hx;exact hk y hy)) h
    |ret=>exact gS hR hi (λcs w=>stepG_ret' (b:=base fn) (a:=⟨tmps,[]⟩)) ⟨eb,rfl,rfl,rfl,ny,yc⟩ h
    |exit id=>
     cases he:exitTo id k with
     |some k'=>exact gS hR hi (λcs w=>stepG_exit (b:=base fn) (a:=⟨tmps,[]⟩) he) (kz _ λy hy=>hk y (sQ he y hy)) h
     |none=>exfalso;simp[G,stepG,stepG.exec,he]at h
    |region id ops d=>
     have ug:∀l,∀y∈Item.inRegion ops l::k,cH P F K fn y=true:=by
      intro l y hy;simp at hy;rcases hy with rfl|hy
      .exact hx
      .exact hk y hy
     cases d with
     |false=>exact gS hR hi (λcs w=>stepG_region (b:=base fn) (a:=⟨tmps,[]⟩)) (kz _ (ug _)) h
     |true=>
      have e:∀cs(w:World),stepG P true (G ⟨fn,tmps,.code (.region id ops true)::k,[],.run,.normal,none⟩ cs) w=.go (G (Vw.run fn tmps (.inRegion ops (Region.schedule (P.follows .mixedOrders) ops (w.tape w.drawn (.order fn id)))::k)) cs) {w with drawn:=w.drawn+1} #[]:=
       λcs w=>stepG_region_draw (b:=base fn) (a:=⟨tmps,[]⟩)
      rw[e]at h;cases h
      have ed:=hR.draws 0 (.order fn id) (by simp only at hb;omega);simp only[Nat.add_zero]at ed;refine⟨_,inner,rfl,kz _ (ug _),hi,by simp,⟨rfl,Nat.le_succ _,ae _⟩,λcs=>⟨{W with drawn:=W.drawn+1},by rw[e,ed],rfl,by simp only;omega,⟨λj q hj=>?_,hR.os,hR.output,hR.size,hR.seen,hR.hid,hR.tame,hR.high⟩,λ_ _=>rfl⟩⟩
      have:=hR.draws (j+1) q (by simp only at hj;omega);simp only[Nat.add_assoc,Nat.add_comm 1 j];exact this
    |scope c=>cases hx
    |goto l=>cases hx
    |rangeFunc f p a b=>cases hx
    |refuse w=>exfalso;simp[G,stepG,stepG.exec]at h
   |inBlock id=>exact gS hR hi (λcs w=>stepG_inBlock (b:=base fn) (a:=⟨tmps,[]⟩)) (kz k hk) h
   |inLoop c=>exact gS hR hi (λcs w=>stepG_inLoop (b:=base fn) (a:=⟨tmps,[]⟩)) (kz _ (by intro y hy;simp at hy;rcases hy with rfl|rfl|hy;exact hx;exact hx;exact hk y hy)) h
   |inRegion ops l=>
    cases l with
    |nil=>exact gS hR hi (λcs w=>stepG_region_end (b:=base fn) (a:=⟨tmps,[]⟩)) (kz k hk) h
    |cons i rest=>
     cases hw:((ops[i]?).map (Region.wanted · (yielded ops tmps))).getD false with
     |false=>
      refine gS (fr':=(Vw.run fn tmps (.inRegion ops (i::rest)::k)).finish undef) hR hi (λcs w=>?_) (xF (kz _ eb) undef λ_ _ _ _ _=>.inl rfl) h
      simp[G,stepG,stepG.exec,hw,Vw.run]
     |true=>
      cases ho:ops[i]? with
      |none=>rw[ho]at hw;cases hw
      |some o=>
       rw[ho]at hw;simp only[bt,ao]at hw;have dx:=tR hx ho;have hρ : ∀f,(Act.mk tmps []).eval (.func f)=.func (.func f) #[] #[]:=λf=>rfl
       exact Sl hG (s:=execOp (Act.mk tmps []).eval o) hR (kz _ eb) hi (Bw hG hρ yc dx) ho (λw w' n hn=>Dx hG hρ yc dx hn)
        (λcs w=>stepG_oper (b:=base fn) (a:=⟨tmps,[]⟩) ho hw) h hb
   |inScope c=>cases hx
   |inRangeFunc l=>cases hx
   |endRangeFunc l=>cases hx
   |beginRound=>cases hx
   |call _ _ _ _=>cases hx
   |_=>cases hx
 |returning=>
  obtain⟨f,hf⟩:=ny;cases inner with
  |nil=>rcases qz with hn|hn;cases hn;exact absurd rfl hn
  |cons c inner=>
   have hc:=hi c (by simp);have e:∀cs(w w1:World) x fw,(results f tmps).runT P w #[]=(.ok x w1,fw)->stepG P true (G ⟨fn,tmps,todo,[],.returning,.normal,none⟩ (c::cs)) w=.go (G (c.finish x) cs) w1 (seen P fn fw):=by intro cs w w1 x fw hr;simp only[G,stepG,unwind,hf,hr,doReturn,GStep.after];simp
   have ed:∀cs(w w1:World) y fw,(results f tmps).runT P w #[]=(.halt y w1,fw)->∀g w2 uz,stepG P true (G ⟨fn,tmps,todo,[],.returning,.normal,none⟩ (c::cs)) w≠.go g w2 uz:=by intro cs w w1 y fw hr g w2 uz;simp only[G,stepG,unwind,hf,hr,GStep.after];cases y<;>simp
   have h':stepG P true (G ⟨fn,tmps,todo,[],.returning,.normal,none⟩ (c::(inner++c0))) v=.go g' v' es:=h;have hA:=aA.results (P:=P) (S:=S) f tmps B v W #[] hR;have hK:=lB (P:=P) (results f tmps) v #[];cases jj:(results f tmps).runT P v #[]with
   |mk r fw=>
   rw[jj]at hA hK;cases r with
   |halt y v1=>exact absurd h' (ed _ _ _ _ _ jj _ _ _)
   |ok x v1=>
    rw[e _ _ _ _ _ jj]at h';cases h'
    obtain⟨W',eW,g⟩:=hA hb;refine⟨_,inner,rfl,ok_finish' hc x,λx hx=>hi x (by simp[hx]),?_,hK,λcs=>⟨W',e _ _ _ _ _ eW,g.tape,g.drawn,g.rel,g.hidden⟩⟩
    obtain⟨l,el,hl⟩:=g.grow;intro y hy;have:=mem_seen hy;have hm:y∈fw.toList:=by simpa using this
    rw[el]at hm;simp at hm;exact hl y hm
 |panicking chain=>
  obtain⟨f,hf⟩:=ny;cases inner with
  |nil=>rcases qz with hn|hn;cases hn;exact absurd rfl hn
  |cons c inner=>
   have hc:=hi c (by simp);have e:∀cs(w:World),stepG P true (G ⟨fn,tmps,todo,[],.panicking chain,.normal,none⟩ (c::cs)) w=.go (G (c.raise chain) cs) w #[]:=by intro cs w;simp[G,stepG,unwind,Frame.catches,hf]
   have h':stepG P true (G ⟨fn,tmps,todo,[],.panicking chain,.normal,none⟩ (c::(inner++c0))) v=.go g' v' es:=h;rw[e]at h';cases h'
   exact⟨_,inner,rfl,tG hc.1 chain,λx hx=>hi x (by simp[hx]),by simp,.refl v,λcs=>⟨W,e _ _,rfl,rfl,hR,λ_ _=>rfl⟩⟩
variable {E:Frame->List Frame->World->Prop}
structure OkSt(P:Program)(F:FuncId->Bool)(K:Cb)(S:Nat->Prop)(fr:Frame)(inner:List Frame)(v:World):Prop where
 fr:OkFrame P F K fr
 inner:∀c∈inner,oY P F K c
 view:View P S v
theorem nY(hG:Good P F K){fr:Frame}{inner:List Frame}{a b a':World}{g':Goroutine}{es:Array Event}(dx:OkSt P F K S fr inner a)(hm:fr.mode=.run∨inner≠[])(t:Twin a b)
  (hd:∀j q,a.drawn+j<a'.drawn->a.tape (a.drawn+j) q=b.tape (b.drawn+j) q) (h:stepG P true (G fr (inner++[cz])) a=.go g' a' es) :
  ∃fr' dh b',g'=G fr' (dh++[cz])∧OkSt P F K S fr' dh a'∧stepG P true (G fr (inner++[cz])) b=.go (G fr' (dh++[cz])) b' es∧Twin a' b'∧b'.tape=b.tape∧b'.drawn+a.drawn=b.drawn+a'.drawn∧bA a a':=by
 have hR:Rel P S a'.drawn a b:=dx.view.rel t hd;obtain⟨fr',dh,rfl,h1,h2,h3,h4,h5⟩:=Ff hG hR dx.fr dx.inner hm h (ae _);obtain⟨b',e,e1,e2,e3,e4⟩:=h5 [cz];exact⟨fr',dh,b',rfl,⟨h1,h2,e3.view⟩,e,Aw dx.view t e3 e4,e1,e2,h4⟩
def zU(P:Program)(F:FuncId->Bool)(K:Cb)(S:Nat->Prop)(E:Frame->List Frame->World->Prop)(Q:Frame->List Frame->World->Prop):Prop:=
 (∀{fr:Frame}{inner:List Frame}{v:World},OkSt P F K S fr inner v->E fr inner v->Q fr inner v)∧
 ∀{fr:Frame}{inner:List Frame}{v:World},OkSt P F K S fr inner v->¬E fr inner v->(fr.mode=.run∨inner≠[])->(∀u,Twin v u->∃fr' dh u' es,stepG P true (G fr (inner++[cz])) u=.go (G fr' (dh++[cz])) u' es)->(∀u fr' dh u' es,Twin v u->stepG P true (G fr (inner++[cz])) u=.go (G fr' (dh++[cz])) u' es->Q fr' dh u')->Q fr inner v
def dK(P:Program)(F:FuncId->Bool)(K:Cb)(S:Nat->Prop)(E:Frame->List Frame->World->Prop)(fr:Frame)(inner:List Frame)(v:World):Prop:=∀Q,zU P F K S E Q->Q fr inner v
theorem dK.leave{fr:Frame}{inner:List Frame}{v:World}(h:OkSt P F K S fr inner v)(h':E fr inner v):dK P F K S E fr inner v:=λ_ hQ=>hQ.1 h h'
theorem dK.step{fr:Frame}{inner:List Frame}{v:World}(h1:OkSt P F K S fr inner v)(h2:¬E fr inner v)(h3:fr.mode=.run∨inner≠[])(h4:∀u,Twin v u->∃fr' dh u' es,stepG P true (G fr (inner++[cz])) u=.go (G fr' (dh++[cz])) u' es)
  (h5:∀u fr' dh u' es,Twin v u->stepG P true (G fr (inner++[cz])) u=.go (G fr' (dh++[cz])) u' es->dK P F K S E fr' dh u'):dK P F K S E fr inner v:=λQ hQ=>hQ.2 h1 h2 h3 h4 λu fr' dh u' es t hs=>h5 u fr' dh u' es t hs Q hQ
theorem dK.walked{motive:∀fr inner v,dK P F K S E fr inner v->Prop}{fr:Frame}{inner:List Frame}{v:World}(h:dK P F K S E fr inner v)
  (leave:∀{fr:Frame}{inner:List Frame}{v:World}(h:OkSt P F K S fr inner v)(h':E fr inner v),motive fr inner v (.leave h h'))
  (step:∀{fr:Frame}{inner:List Frame}{v:World}(h1:OkSt P F K S fr inner v)(h2:¬E fr inner v)(h3:fr.mode=.run∨inner≠[])(h4:∀u,Twin v u->∃fr' dh u' es,stepG P true (G fr (inner++[cz])) u=.go (G fr' (dh++[cz])) u' es)
   (h5:∀u fr' dh u' es,Twin v u->stepG P true (G fr (inner++[cz])) u=.go (G fr' (dh++[cz])) u' es->dK P F K S E fr' dh u') (ih:∀u fr' dh u' es(t:Twin v u)(hs:stepG P true (G fr (inner++[cz])) u=.go (G fr' (dh++[cz])) u' es),motive fr' dh u' (h5 u fr' dh u' es t hs)),motive fr inner v (.step h1 h2 h3 h4 h5)):motive fr inner v h:=by
 have key:∃h:dK P F K S E fr inner v,motive fr inner v h:=h (λfr inner v=>∃h:dK P F K S E fr inner v,motive fr inner v h) ⟨λh1 h2=>⟨.leave h1 h2,leave h1 h2⟩,λh1 h2 h3 h4 h5=>
  ⟨.step h1 h2 h3 h4 λu fr' dh u' es t hs=>(h5 u fr' dh u' es t hs).1,step h1 h2 h3 h4 (λu fr' dh u' es t hs=>(h5 u fr' dh u' es t hs).1) λu fr' dh u' es t hs=>(h5 u fr' dh u' es t hs).2⟩⟩
 exact key.2
theorem Er(hG:Good P F K)(hE:qQ P S E):∀(n:Nat)(fr:Frame)(inner:List Frame)(a b:World),OkSt P F K S fr inner a->Twin a b->(∀j q,a.tape (a.drawn+j) q=b.tape (b.drawn+j) q)->lW P E n fr inner a->lW P E n fr inner b
 |0,fr,inner,a,b,dx,t,hd,h=>hE fr inner a b dx.view t h
 |n+1,fr,inner,a,b,dx,t,hd,h=>by
  rcases h with h|⟨hm,fr',dh,a',es,hs,h⟩
  .exact .inl (hE fr inner a b dx.view t h)
  .obtain⟨OZ,pf,b',e1,qf,e2,t',e3,e4,hk⟩:=nY hG dx hm t (λj q _=>hd j q) hs;have x9:fr'=OZ∧dh=pf:=by
    simp only[G,Goroutine.mk.injEq]at e1;exact⟨e1.1,mG e1.2.1⟩
   obtain⟨rfl,rfl⟩:=x9;refine .inr ⟨hm,fr',dh,b',es,e2,?_⟩;refine Er hG hE n fr' dh a' b' qf t' (λj q=>?_) h;have:=hd (a'.drawn-a.drawn+j) q;have k1:a.drawn+(a'.drawn-a.drawn+j)=a'.drawn+j:=by have:=hk.drawn;omega
   have k2:b.drawn+(a'.drawn-a.drawn+j)=b'.drawn+j:=by have:=hk.drawn;omega
   rw[k1,k2]at this;rw[hk.tape,e3];exact this
theorem Ru(hG:Good P F K)(hE:qQ P S E){fr fr':Frame}{inner dh:List Frame}{v u u':World}{es:Array Event}(dx:OkSt P F K S fr inner v)(hm:fr.mode=.run∨inner≠[])(dy:¬E fr inner v)
  (hH:uU P E fr inner v) (t:Twin v u) (h:stepG P true (G fr (inner++[cz])) u=.go (G fr' (dh++[cz])) u' es):uU P E fr' dh u':=by
 intro y ty;have qf:OkSt P F K S fr inner u:=⟨dx.fr,dx.inner,dx.view.twin t⟩;have hku:bA u u':=by obtain⟨_,_,_,_,_,_,_,_,_,hk⟩:=nY hG qf hm (Twin.refl u) (λ_ _ _=>rfl) h;exact hk
 let T:Nat->Question->Nat:=λi q=>if i<u'.drawn-u.drawn then u.tape (u.drawn+i) q else y.tape (y.drawn+(i-(u'.drawn-u.drawn))) q
 let x:World:={u with tape:=T,drawn:=0};have tx:Twin u x:=⟨rfl,rfl,rfl⟩;obtain⟨n,hn⟩:=hH x (t.trans tx)
 obtain⟨OZ,pf,x1,e1,LO,e2,t1,e3,e4,hk⟩:=nY hG qf hm tx (λj q hj=>by
  show u.tape (u.drawn+j) q=(if 0+j<u'.drawn-u.drawn then _ else _)
  rw[ai (by omega),an]) h
 have x9:fr'=OZ∧dh=pf:=by simp only[G,Goroutine.mk.injEq]at e1;exact⟨e1.1,mG e1.2.1⟩
 obtain⟨rfl,rfl⟩:=x9;have SV:x1.drawn=u'.drawn-u.drawn:=by have:x1.drawn+u.drawn=0+u'.drawn:=e4;omega
 have fin:∀m,lW P E m fr' dh x1->∃m,lW P E m fr' dh y:=λm jh=>by refine⟨m,Er hG hE m fr' dh x1 y ⟨LO.fr,LO.inner,LO.view.twin t1⟩ (t1.symm.trans ty) (λj q=>?_) jh⟩;rw[e3,SV];show(if u'.drawn-u.drawn+j<u'.drawn-u.drawn then _ else _)=_;rw[ah (by omega)];congr 2;omega
 have nx:¬E fr inner x:=λh=>dy (hE fr inner x v ((dx.view.twin t).twin tx) (t.trans tx).symm h)
 cases n with
 |zero=>exact(nx hn).elim
 |succ n=>
  rcases hn with hn|⟨_,fr3,WY,x2,uz,hs,hn⟩
  .exact(nx hn).elim
  .rw[e2]at hs;simp only[GStep.go.injEq,G,Goroutine.mk.injEq]at hs;obtain⟨⟨rfl,hi,_⟩,rfl,rfl⟩:=hs;obtain rfl:=mG hi;exact fin n hn
structure BadSt(P:Program)(F:FuncId->Bool)(K:Cb)(S:Nat->Prop)(E:Frame->List Frame->World->Prop) where
 fr:Frame
 inner:List Frame
 v:World
 ok:OkSt P F K S fr inner v
 hits:uU P E fr inner v
 bad:¬dK P F K S E fr inner v
theorem yG(hG:Good P F K)(hE:qQ P S E)(s:BadSt P F K S E):∃(u:World)(s':BadSt P F K S E)(es:Array Event),Twin s.v u∧(s.fr.mode=.run∨s.inner≠[])∧stepG P true (G s.fr (s.inner++[cz])) u=.go (G s'.fr (s'.inner++[cz])) s'.v es:=by
 obtain⟨fr,inner,v,ok,hits,bad⟩:=s;have nl:∀u,Twin v u->¬E fr inner u:=λu t h=>bad (.leave ok (hE fr inner u v (ok.view.twin t) t.symm h));have go:∀u,Twin v u->(fr.mode=.run∨inner≠[])∧∃fr' dh v' es,stepG P true (G fr (inner++[cz])) u=.go (G fr' (dh++[cz])) v' es:=λu t=>by
  obtain⟨n,hn⟩:=hits u t;cases n with
  |zero=>exact(nl u t hn).elim
  |succ n=>
   rcases hn with hn|⟨hm,fr',dh,v',es,hs,_⟩
   .exact(nl u t hn).elim
   .exact⟨hm,fr',dh,v',es,hs⟩
 have hm:=(go v (.refl v)).1;apply ar;intro wi;apply bad;refine .step ok (nl v (.refl v)) hm (λu t=>(go u t).2) λu fr' dh u' es t hs=>?_;apply ar;intro hnw;apply wi;have V2:OkSt P F K S fr' dh u':=by obtain⟨OZ,pf,_,e1,ho,_⟩:=nY hG ⟨ok.fr,ok.inner,ok.view.twin t⟩ hm (Twin.refl u) (λ_ _ _=>rfl) hs;simp only[G,Goroutine.mk.injEq]at e1;obtain rfl:=e1.1;obtain rfl:=mG e1.2.1;exact ho
 exact⟨u,⟨fr',dh,u',V2,Ru hG hE ok hm (nl v (.refl v)) hits t hs,hnw⟩,es,t,hm,hs⟩
theorem Lf(hG:Good P F K)(hE:qQ P S E){fr:Frame}{inner:List Frame}{v:World}(ok:OkSt P F K S fr inner v)(hits:uU P E fr inner v):dK P F K S E fr inner v:=by
 apply ar;intro bad;let s0:BadSt P F K S E:=⟨fr,inner,v,ok,hits,bad⟩;let nx:BadSt P F K S E->BadSt P F K S E:=λs=>(yG hG hE s).choose_spec.choose;let U:BadSt P F K S E->World:=λs=>(yG hG hE s).choose;have uh:∀s:BadSt P F K S E,∃es,Twin s.v (U s)∧(s.fr.mode=.run∨s.inner≠[])∧stepG P true (G s.fr (s.inner++[cz])) (U s)=.go (G (nx s).fr ((nx s).inner++[cz])) (nx s).v es:=
  λs=>(yG hG hE s).choose_spec.choose_spec
 let sq:Nat->BadSt P F K S E:=λk=>Nat.rec s0 (λ_ s=>nx s) k;have hsq:∀k,sq (k+1)=nx (sq k):=λk=>rfl;let u:Nat->World:=λk=>U (sq k);let c:Nat->Nat:=λk=>(sq (k+1)).v.drawn-(u k).drawn;obtain⟨T,hT⟩:=Ve u c;let x:Nat->World:=λk=>{u k with tape:=T,drawn:=fW c k}
 have step:∀k,∃es,((sq k).fr.mode=.run∨(sq k).inner≠[])∧stepG P true (G (sq k).fr ((sq k).inner++[cz])) (x k)=.go (G (sq (k+1)).fr ((sq (k+1)).inner++[cz])) (x (k+1)) es:=by
  intro k;obtain⟨es,t,hm,hs⟩:=uh (sq k);refine⟨es,hm,?_⟩;have dx:OkSt P F K S (sq k).fr (sq k).inner (u k):=⟨(sq k).ok.fr,(sq k).ok.inner,(sq k).ok.view.twin t⟩;have tx:Twin (u k) (x k):=⟨rfl,rfl,rfl⟩;have im:stepG P true (G (sq k).fr ((sq k).inner++[cz])) (u k)=.go (G (sq (k+1)).fr ((sq (k+1)).inner++[cz])) (sq (k+1)).v es:=hs
  obtain⟨OZ,pf,b',e1,_,e2,t2,e3,e4,hk⟩:=nY hG dx hm tx (λj q hj=>by
   have:=hT k j (by show j<(sq (k+1)).v.drawn-(u k).drawn;omega) q
   exact this.symm) im
  simp only[G,Goroutine.mk.injEq]at e1;have e5:=mG e1.2.1;rw[<-e1.1,<-e5]at e2;have hb:b'=x (k+1):=by
   obtain⟨_,t',_⟩:=uh (sq (k+1));have tt:Twin (x (k+1)) b':=by have h1:Twin (sq (k+1)).v (u (k+1)):=t';exact⟨t2.heap.trans h1.heap.symm,t2.os.trans h1.os.symm,t2.output.trans h1.output.symm⟩
   refine tt.eq e3 ?_;show b'.drawn=fW c k+c k;have h4:b'.drawn+(u k).drawn=fW c k+(sq (k+1)).v.drawn:=e4;have hd:=hk.drawn;show b'.drawn=fW c k+((sq (k+1)).v.drawn-(u k).drawn);omega
  rw[e2,hb]
 have nE:∀k,¬E (sq k).fr (sq k).inner (x k):=λk h=>by obtain⟨_,t,_⟩:=uh (sq k);have tx:Twin (sq k).v (x k):=⟨t.heap,t.os,t.output⟩;exact(sq k).bad (.leave (sq k).ok (hE _ _ _ _ ((sq k).ok.view.twin tx) tx.symm h))
 have no:∀n k,¬lW P E n (sq k).fr (sq k).inner (x k):=by
  intro n;induction n with
  |zero=>intro k h;exact nE k h
  |succ n ih=>
   intro k h;obtain⟨es,hm,hs⟩:=step k;rcases h with h|⟨_,fr',dh,v',es',im,h⟩
   .exact nE k h
   .rw[hs]at im;simp only[GStep.go.injEq,G,Goroutine.mk.injEq]at im;obtain⟨⟨e1,e2,_⟩,e3,e4⟩:=im;have e5:=mG e2;rw[<-e1,<-e5,<-e3]at h;exact ih (k+1) h
 obtain⟨_,t0,_⟩:=uh s0;obtain⟨n,hn⟩:=hits (x 0) ⟨t0.heap,t0.os,t0.output⟩;exact no n 0 hn
variable {Post:Value->World->Prop}
theorem Rp(hG:Good P F K){fr:Frame}{inner:List Frame}{v:World}(dx:OkSt P F K S fr inner v)(hm:fr.mode=.run∨inner≠[])(c0:List Frame):Iv (stepG P true (G fr (inner++c0)) v):=by
 obtain⟨fn,tmps,todo,defers,mode,kind,round⟩:=fr;obtain⟨⟨eb,oq,fc,ig,ny,yc⟩,hi,hv⟩:=dx;simp only at eb oq fc ig ny yc hm;subst oq fc ig;cases mode with
 |run=>
  cases todo with
  |nil=>exact .inl ⟨_,_,_,stepG_end (b:=base fn) (a:=⟨tmps,[]⟩)⟩
  |cons x k=>
   have hx:=eb x (by simp);cases x with
   |code c=>
    cases c with
    |skip=>exact .inl ⟨_,_,_,stepG_skip (b:=base fn) (a:=⟨tmps,[]⟩)⟩
    |label l=>exact .inl ⟨_,_,_,stepG_label (b:=base fn) (a:=⟨tmps,[]⟩)⟩
    |seq a b=>exact .inl ⟨_,_,_,stepG_seq (b:=base fn) (a:=⟨tmps,[]⟩)⟩
    |cond c a b=>
     cases hc:(Act.mk tmps []).eval c with
     |bool t=>exact .inl ⟨_,_,_,stepG_cond (b:=base fn) (a:=⟨tmps,[]⟩) hc⟩
     |_=>have ek:((base fn).at ⟨tmps,[]⟩ (.code (.cond c a b)::k)).eval c=_:=(Frame.eval_at _ _ _ _).trans hc;simp only[Frame.at,base]at ek;simp only[G,stepG,stepG.exec];rw[ek];exact .inr ⟨_,_,_,rfl⟩
    |block id c=>exact .inl ⟨_,_,_,stepG_block (b:=base fn) (a:=⟨tmps,[]⟩)⟩
    |loop c=>exact .inl ⟨_,_,_,stepG_loop (b:=base fn) (a:=⟨tmps,[]⟩)⟩
    |ret=>exact .inl ⟨_,_,_,stepG_ret' (b:=base fn) (a:=⟨tmps,[]⟩)⟩
    |exit id=>
     cases he:exitTo id k with
     |some k'=>exact .inl ⟨_,_,_,stepG_exit (b:=base fn) (a:=⟨tmps,[]⟩) he⟩
     |none=>simp only[G,stepG,stepG.exec,he,Option.elim];exact .inr ⟨_,_,_,rfl⟩
    |region id ops d=>
     cases d with
     |false=>exact .inl ⟨_,_,_,stepG_region (b:=base fn) (a:=⟨tmps,[]⟩)⟩
     |true=>exact .inl ⟨_,_,_,stepG_region_draw (b:=base fn) (a:=⟨tmps,[]⟩)⟩
    |scope c=>cases hx
    |goto l=>cases hx
    |rangeFunc f p a b=>cases hx
    |refuse w=>simp only[G,stepG,stepG.exec];exact .inr ⟨_,_,_,rfl⟩
   |inBlock id=>exact .inl ⟨_,_,_,stepG_inBlock (b:=base fn) (a:=⟨tmps,[]⟩)⟩
   |inLoop c=>exact .inl ⟨_,_,_,stepG_inLoop (b:=base fn) (a:=⟨tmps,[]⟩)⟩
   |inRegion ops l=>
    cases l with
    |nil=>exact .inl ⟨_,_,_,stepG_region_end (b:=base fn) (a:=⟨tmps,[]⟩)⟩
    |cons i rest=>
     cases hw:((ops[i]?).map (Region.wanted · (yielded ops tmps))).getD false with
     |false=>exact .inl ⟨G ((Vw.run fn tmps (.inRegion ops (i::rest)::k)).finish undef) (inner++c0),v,#[],by simp[G,stepG,stepG.exec,hw,Vw.run]⟩
     |true=>
      cases ho:ops[i]? with
      |none=>rw[ho]at hw;cases hw
      |some o=>
       rw[ho]at hw;simp only[bt,ao]at hw;have dx:=tR hx ho;have hρ : ∀f,(Act.mk tmps []).eval (.func f)=.func (.func f) #[] #[]:=λf=>rfl;have e:=stepG_oper (P:=P) (main:=true) (b:=base fn) (a:=⟨tmps,[]⟩) (k:=k) (cs:=inner++c0) (w:=v) (rest:=rest) ho hw;have e':stepG P true (G ⟨fn,tmps,.inRegion ops (i::rest)::k,[],.run,.normal,none⟩ (inner++c0)) v=stepG.apply P true (Vw.run fn tmps (.inRegion ops (i::rest)::k)) (inner++c0) none (execOp (Act.mk tmps []).eval o) v:=e;rw[e'];have dq:=Sem.runT_fst P (execOp (Act.mk tmps []).eval o) v #[];have hR:Rel P S 0 v v:=hv.rel (.refl v) (λj q hj=>by omega);cases jj:(execOp (Act.mk tmps []).eval o).runT P v #[]with
       |mk r fw=>
       rw[jj]at dq;cases r with
       |ok n v1=>
        have uh:=Dx hG hρ yc dx dq.symm;cases n with
        |value x=>exact .inl ⟨_,_,_,vX jj⟩
        |skip=>exact .inl ⟨_,_,_,wV jj⟩
        |enter f args=>exact .inl ⟨_,_,_,vZ jj⟩
        |_=>exact uh.elim
       |halt y v1=>
        rcases(Bw (S:=S) hG hρ yc dx).halts hR jj with hd|⟨x,rfl⟩
        .exact Ov hd jj
        .exact .inl ⟨_,_,_,vY jj⟩
   |inScope c=>cases hx
   |inRangeFunc l=>cases hx
   |endRangeFunc l=>cases hx
   |beginRound=>cases hx
   |call _ _ _ _=>cases hx
   |_=>cases hx
 |returning=>
  obtain⟨f,hf⟩:=ny;cases inner with
  |nil=>rcases hm with hn|hn;cases hn;exact absurd rfl hn
  |cons c inner=>
   simp only[G,stepG,unwind,hf,List.cons_append];cases(results f tmps).runT P v #[]with
   |mk r fw=>
   cases r with
   |ok x v1=>exact .inl ⟨_,_,_,rfl⟩
   |halt y v1=>cases y<;>exact .inr ⟨_,_,_,rfl⟩
 |panicking chain=>
  obtain⟨f,hf⟩:=ny;cases inner with
  |nil=>rcases hm with hn|hn;cases hn;exact absurd rfl hn
  |cons c inner=>exact .inl ⟨G (c.raise chain) (inner++c0),v,#[],by simp[G,stepG,unwind,Frame.catches,hf]⟩
theorem S4{n:Nat}{BJ fr:Frame}{u w:World}(kz:OkFrame P F K BJ)(ff:BJ.mode≠.run)(h:runN P (n+1) (lone BJ [cz] u)=.next (lone fr [cz] w)):False:=by
 obtain⟨fn,tmps,todo,defers,mode,kind,round⟩:=BJ;obtain⟨eb,oq,fc,ig,⟨f,hf⟩,yc⟩:=kz;simp only at eb oq fc ig hf ff;subst oq fc ig;have done:∀(c:Frame)(w1:World),(∃o w',step P (lone c [] w1)=.ended o w')->runN P n (lone c [] w1)=.next (lone fr [cz] w)->False:=λc w1 ⟨o,w',e⟩ hr=>by have:=Nq e hr;simp[lone]at this
 cases mode with
 |run=>exact ff rfl
 |returning=>
  cases hr:(results f tmps).runT P u #[]with
  |mk r fw=>
  cases r with
  |ok x u1=>
   have e:stepG P true (G ⟨fn,tmps,todo,[],.returning,.normal,none⟩ [cz]) u=.go (G (cz.finish x) []) u1 (seen P fn fw):=by simp only[G,stepG,unwind,hf,hr,doReturn,GStep.after];simp
   rw[runN,yM e,Sg]at h;exact done _ _ (Yi u1) h
  |halt y u1=>
   have e:∃o w' es,stepG P true (G ⟨fn,tmps,todo,[],.returning,.normal,none⟩ [cz]) u=.ended o w' es:=by simp only[G,stepG,unwind,hf,hr,GStep.after];cases y<;>exact⟨_,_,_,rfl⟩
   obtain⟨o,w',es,e⟩:=e;rw[runN,tE e]at h;cases h
 |panicking chain=>
  have e:stepG P true (G ⟨fn,tmps,todo,[],.panicking chain,.normal,none⟩ [cz]) u=.go (G (cz.raise chain) []) u #[]:=by simp[G,stepG,unwind,Frame.catches,hf]
  rw[runN,yM e]at h;exact done _ _ (Sf chain u) h
theorem Db(hG:Good P F K){E:Frame->List Frame->World->Prop}{fr:Frame}{w:World}(hE:E fr [] w):∀(n:Nat)(BJ:Frame)(inner:List Frame)(u:World),OkSt P F K S BJ inner u->runN P n (lone BJ (inner++[cz]) u)=.next (lone fr [cz] w)->lW P E n BJ inner u
 |0,BJ,inner,u,dx,h=>by
  simp only[runN,Stepped.next.injEq,lone,Machine.mk.injEq]at h;obtain⟨h1,h2,_⟩:=h;simp at h2;obtain⟨rfl,h3⟩:=h2;subst h1;have:inner=[]:=by have:=congrArg List.length h3;simp at this;exact this
  subst this;exact hE
 |n+1,BJ,inner,u,dx,h=>by
  by_cases hm:BJ.mode=.run∨inner≠[]
  .refine .inr ⟨hm,?_⟩;rcases Rp hG dx hm [cz]with⟨g,v',es,e⟩|⟨o,v',es,e⟩
   .obtain⟨fr',dh,b',rfl,qf,_⟩:=nY hG dx hm (Twin.refl u) (λ_ _ _=>rfl) e;refine⟨fr',dh,v',es,e,?_⟩;rw[runN,yM e]at h;exact Db hG hE n fr' dh v' qf h
   .rw[runN,tE e]at h;cases h
  .have h1:BJ.mode≠.run:=λe=>hm (.inl e)
   have h2:inner=[]:=ar λe=>hm (.inr e)
   subst h2;exact(S4 dx.fr h1 h).elim
theorem Ke(hG:Good P F K)(hp:∀x a b,Twin a b->Post x a->Post x b){f:FuncId}(hf:F f=true){args:Array Value}{v:World}(hv:View P S v)(ha:CbArg K f args)
  (h:∀u,Twin v u->Calls P f args u λe w=>∃x,e=.returned x∧Post x w):dK P F K S (zI P Post) (Frame.enter P f args .normal) [] v:=by
 obtain⟨fn,c,h1,h2,h3,_⟩:=hG.body f hf;have dx:∀u,View P S u->OkSt P F K S (Frame.enter P f args .normal) [] u:=λu hu=>by refine⟨⟨?_,rfl,rfl,rfl,⟨fn,h1⟩,Fw ha⟩,by simp,hu⟩;intro x hx;simp[Frame.enter,h1,h2]at hx;subst hx;exact h3
 refine Lf hG (Kz hp) (dx v hv) λu t=>?_
 obtain⟨e,w',fr,⟨x,rfl,qy⟩,MP,_,hl⟩:=h u t [cz];obtain⟨n,hn⟩:=MP;exact⟨n,Db (E:=zI P Post) hG ⟨rfl,x,hl,qy⟩ n _ [] u (dx u (hv.twin t)) hn⟩
structure There(P:Program)(F:FuncId->Bool)(K:Cb)(S:Nat->Prop)(E:Frame->List Frame->World->Prop)(γ : Frame->List Frame->Goroutine)(I:Frame->List Frame->Prop)(gs:Array Goroutine)(W:World)(sl:Option (Nat×Nat))(t:Trace)(N:Nat)(je:Array Goroutine)(W':World)(ju:Option (Nat×Nat))(t':Trace)(q':Nat->Nat)
  (fr':Frame) (dh:List Frame) (v':World):Prop where
 run:runNT P N (crowd gs W sl) t=(.next (crowd je W' ju),t')
 size:je.size=gs.size
 at0:je[0]?=some (γ fr' dh)
 stop:E fr' dh v'
 inv:I fr' dh
 ok:OkSt P F K S fr' dh v'
 rel:Rel P S 0 v' W'
 hidden:∀b,S b->W'.heap[b]?=W.heap[b]?
 grown:W.heap.size<=W'.heap.size
 leavers:Leavers P t' je q'
 past:Past (Shun S) W'.heap.size t'
 tidy:jZ je.size t'
def Hj(P:Program)(F:FuncId->Bool)(K:Cb)(S:Nat->Prop)(γ : Frame->List Frame->Goroutine)(I:Frame->List Frame->Prop):Prop:=
 ∀(fr fr':Frame)(inner dh:List Frame)(u u' W:World)(es:Array Event),OkSt P F K S fr inner u->(fr.mode=.run∨inner≠[])->I fr inner->Rel P S u'.drawn u W->
  stepG P true (G fr (inner++[cz])) u=.go (G fr' (dh++[cz])) u' es->
  I fr' dh∧(∀e∈es,fI S u'.heap.size e)∧bA u u'∧∃W',stepG P true (γ fr inner) W=.go (γ fr' dh) W' es∧Rel P S u'.drawn u' W'∧∀b,S b->W'.heap[b]?=W.heap[b]?
theorem Jj{γ : Frame->List Frame->Goroutine}{I:Frame->List Frame->Prop}(hγ : ∀fr inner,(γ fr inner).status=.running)(c6:Hj P F K S γ I){fr:Frame}{inner:List Frame}{v:World}(hw:dK P F K S E fr inner v):∀(M:Nat)(gs:Array Goroutine)(W:World)(sl:Option (Nat×Nat))(t:Trace)(q:Nat->Nat),sumTo gs.size q=M->I fr inner->gs[0]?=some (γ fr inner)->Leavers P t gs q->Past (Shun S) W.heap.size t->jZ gs.size t->Rel P S 0 v W->∃N je W' ju t' q' fr' dh v',There P F K S E γ I gs W sl t N je W' ju t' q' fr' dh v':=by
 induction hw using dK.walked with
 |leave dx hl=>intro M gs W sl t q hM hI h0 hL hP hT hR;exact⟨0,gs,W,sl,t,q,_,_,_,⟨rfl,rfl,h0,hl,hI,dx,hR,λ_ _=>rfl,ae _,hL,hP,hT⟩⟩
 |@step fr inner v dx dy hm hgo ee ih=>
  intro M;induction M using Nat.strongRecOn with
  |ind M QA=>
  intro gs W sl t q hM hI h0 hL hP hT hR;have HH:=wX (P:=P) h0 (hγ _ _) hL;obtain⟨i,g,d,ju,hi,hg,ei⟩:=crowd_pick (P:=P) (w:=W) (sl:=sl) HH ⟨0,_,h0,hγ _ _⟩;rcases Nat.eq_zero_or_pos i with rfl|me
  .obtain rfl:g=γ fr inner:=by rw[h0]at hi;exact(bm hi).symm
   let u:World:={v with tape:=(W.at d).tape,drawn:=(W.at d).drawn};have tu:Twin v u:=⟨rfl,rfl,rfl⟩;obtain⟨fr',dh,u',es,hs⟩:=hgo u tu;have zd:Rel P S u'.drawn u (W.at d):=⟨λj q _=>rfl,hR.os,hR.output,hR.size,hR.seen,hR.hid,hR.tame,hR.high⟩
   obtain⟨xe,fu,hk,W',ZP,BE,vy⟩:=c6 fr fr' inner dh u u' (W.at d) es ⟨dx.fr,dx.inner,dx.view.twin tu⟩ hm hI zd hs;have oe:=runT_crowd_go (P:=P) (sl:=ju) (i:=0) hi (show stepG P (0==0) (γ fr inner) (W.at d)=_ from ZP);have fo:((gs.map (woken P (γ fr inner) (γ fr' dh) W')).setIfInBounds 0 (γ fr' dh)).size=gs.size:=by simp
   have dp:0<gs.size:=(Array.getElem?_eq_some_iff.1 h0).1;have tq:W.heap.size<=W'.heap.size:=by have h1:(W.at d).heap.size=W.heap.size:=rfl;have h2:=hk.size;have h3:=zd.size;have h4:=BE.size;omega
   have hP':Past (Shun S) W'.heap.size (t++MemOp.ofEvents 0 (γ fr inner).frame.fn (γ fr inner).frame.place es):=(hP.mono tq).own λe he=>zF (fu e he) (by rw[BE.size];exact ae _);obtain⟨N,je,W2,BX,t2,q2,x7,il,vl,th⟩:=ih u fr' dh u' es tu hs _ ((gs.map (woken P (γ fr inner) (γ fr' dh) W')).setIfInBounds 0 (γ fr' dh)) W' ju _ q rfl xe (by simp[dp]) (Bn dp hL _ _ _ _ _ _) hP' (by rw[fo];exact Ew hT dp fu) BE.zero;refine⟨N+1,je,W2,BX,t2,q2,x7,il,vl,⟨?_,th.size.trans fo,th.at0,th.stop,th.inv,th.ok,th.rel,λb hb=>(th.hidden b hb).trans (vy b hb),ak tq th.grown,th.leavers,th.past,th.tidy⟩⟩;simp only[runNT,ei,oe];exact th.run
  .have hq:=hL.old i g me hi;have xx:(i==0)=false:=by simp;omega
   have dp:i<gs.size:=(Array.getElem?_eq_some_iff.1 hi).1;cases yv:q i with
   |zero=>rw[yv]at hq;rw[hq.1]at hg;cases hg
   |succ k=>
    rw[yv]at hq;rcases hq with⟨hf,_⟩|⟨_,g',es,lu,CO,qx⟩
    .rw[hf]at hg;cases hg
    have oe:=runT_crowd_go (P:=P) (sl:=ju) (i:=i) hi (by rw[xx];exact CO (W.at d));have fo:((gs.map (woken P g g' (W.at d))).setIfInBounds i g').size=gs.size:=by simp
    have xq:sumTo gs.size (upd q i k)+(k+1)=sumTo gs.size q+k:=by have:=sumTo_upd q k id dp;simpa [yv] using this
    have CX:i≠0:=by omega
    obtain⟨N,je,W2,BX,t2,q2,x7,il,vl,th⟩:=QA (sumTo gs.size (upd q i k)) (by omega) ((gs.map (woken P g g' (W.at d))).setIfInBounds i g') (W.at d) ju (t++MemOp.ofEvents i g.frame.fn g.frame.place es) (upd q i k) (by rw[fo]) hI
     (by rw[ax CX,bj,h0];exact congrArg some (woken_run (hγ _ _))) (vI hL hi me qx) (hP.mute (by omega) lu) (by rw[fo];exact xA hT dp lu) (hR.at d)
    refine⟨N+1,je,W2,BX,t2,q2,x7,il,vl,⟨?_,th.size.trans fo,th.at0,th.stop,th.inv,th.ok,th.rel,λb hb=>th.hidden b hb,th.grown,th.leavers,th.past,th.tidy⟩⟩;simp only[runNT,ei,oe];exact th.run
theorem Kc(hG:Good P F K)(cs:List Frame):Hj P F K S (λfr inner=>G fr (inner++cs)) (λ_ _=>True):=by intro fr fr' inner dh u u' W es dx hm _ hR hs;obtain⟨OZ,pf,e1,hf2,zy,fu,hk,ns⟩:=Ff hG hR dx.fr dx.inner hm hs (ae _);simp only[G,Goroutine.mk.injEq]at e1;obtain rfl:=e1.1;obtain rfl:=mG e1.2.1;obtain⟨W',h1,_,_,h2,h3⟩:=ns cs;exact⟨trivial,fu,hk,W',h1,h2,h3⟩
variable {Stop:Goroutine->(Nat->Prop)->World->Prop}{g:Goroutine}{v:World}
theorem vS{fr c:Frame}{cs:List Frame}{x:Value}(dx:OkFrame P F K fr)(hv:View P S v)(hl:fr.leaving P v (.returned x))(hr:Reach P Stop (G (c.finish x) cs) S v):Reach P Stop (G fr (c::cs)) S v:=by
 refine gJ rfl λW hR=>?_;obtain⟨fn,tmps,todo,defers,mode,kind,round⟩:=fr;obtain⟨h1,h2,h3,f,h4,h5⟩:=hl;simp only at h1 h2 h3 h4 h5;subst h1 h2 h3;have sw:Rel P S v.drawn v W:=⟨λj q hj=>by omega,hR.os,hR.output,hR.size,hR.seen,hR.hid,hR.tame,hR.high⟩;have hA:=aA.results (P:=P) (S:=S) f tmps v.drawn v W #[] sw;have e1:=Sem.runT_fst P (results f tmps) v #[];rw[h5]at e1;cases jj:(results f tmps).runT P v #[]with
 |mk r fw=>
 rw[jj]at hA e1;simp only at e1;subst e1;obtain⟨W',e,g⟩:=hA (ae _);refine⟨G (c.finish x) cs,W',seen P fn fw,v,?_,?_,?_,g.hidden,g.rel.zero,hr⟩
 .simp only[G,stepG,unwind,h4,e,doReturn,GStep.after];simp
 .obtain⟨l,el,hl⟩:=g.grow;intro y hy;have:=mem_seen hy;have hm:y∈fw.toList:=by simpa using this
  rw[el]at hm;simp at hm;rw[<-g.rel.size];exact hl y hm
 .rw[<-g.rel.size,hR.size];exact ae _
theorem reach_call(hG:Good P F K){Post:Value->World->Prop}(hp:∀x a b,Twin a b->Post x a->Post x b){f:FuncId}(hf:F f=true){args:Array Value}(hv:View P S v)(ha:CbArg K f args)(h:∀u,Twin v u->Calls P f args u λe w=>∃x,e=.returned x∧Post x w)
  {c:Frame} {cs:List Frame} (hr:∀x v',View P S v'->Post x v'->Reach P Stop (G (c.finish x) cs) S v'):Reach P Stop (G (Frame.enter P f args .normal) (c::cs)) S v:=by
 refine Reach.bind ?_;intro gs W sl t q hc;obtain⟨N,je,W',ju,t',q',fr',dh,v',th⟩:=Jj (γ:=λfr inner=>G fr (inner++(c::cs))) (I:=λ_ _=>True) (λ_ _=>rfl) (Kc hG (c::cs)) (Ke hG hp hf hv ha h) _ gs W sl t q rfl trivial hc.at0 hc.leavers hc.past hc.tidy hc.rel
 obtain⟨rfl,x,hl,qy⟩:=th.stop;exact⟨N,je,W',ju,t',q',_,S,v',th.run,⟨th.at0,th.leavers,th.past,th.tidy,th.rel⟩,vS th.ok.fr th.ok.view hl (hr x v' th.ok.view qy),λb hb=>⟨hb,th.hidden b hb⟩⟩
end
