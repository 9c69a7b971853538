import Derived.Conc.Events
import Derived.Conc.Listed
import Derived.Conc.Beside
import Derived.Laws.Sem
set_option maxRecDepth 100000
set_option maxHeartbeats 16000000
set_option linter.unusedVariables false
set_option linter.unusedSimpArgs false
set_option linter.unnecessarySimpa false
namespace Go.Vw
def eA:Obj:=.view ⟨0,0,some 0⟩ 0
def _root_.Go.Obj.tame:Obj->Prop
 |.view ..|.pending ..=>False
 |_=>True
structure Rel(P:Program)(S:Nat->Prop)(B:Nat)(v W:World):Prop where
 draws:∀ j q,v.drawn+j<B->v.tape (v.drawn+j) q=W.tape (W.drawn+j) q
 os:v.os=W.os
 output:v.output=W.output
 size:v.heap.size=W.heap.size
 seen:∀ b,¬S b->v.heap[b]?=W.heap[b]?
 hid:∀ b,S b->v.heap[b]?=some eA
 tame:∀ b,¬S b->∀ o,v.heap[b]?=some o->o.tame
 high:∀ b,S b->P.globals.size<=b
def fT(S:Nat->Prop)(n:Nat)(e:Event):Prop:=
 match e.loc with
 |.cell a=>¬S a.block∧a.block<n
 |.obj r=>¬S r∧r<n
 |.mark m=>m=.noRoom
 |_=>False
def jU:Halt->Prop
 |.stuck _=>True
 |.unsupported u=>∀ x,u≠.initOrder x
 |_=>False
def jD(S:Nat->Prop)(n:Nat)(es es':Array Event):Prop:=∃ l:List Event,es'.toList=es.toList++l∧∀ e∈l,fT S n e
structure aN(v v':World):Prop where
 tape:v'.tape=v.tape
 drawn:v.drawn<=v'.drawn
 size:v.heap.size<=v'.heap.size
structure Goal(P:Program)(S:Nat->Prop)(B:Nat)(v v' W W':World)(es es':Array Event):Prop where
 tape:W'.tape=W.tape
 drawn:W'.drawn+v.drawn=W.drawn+v'.drawn
 rel:Rel P S B v' W'
 grow:jD S v'.heap.size es es'
 hidden:∀ b,S b->W'.heap[b]?=W.heap[b]?
def jP(es:Array Event):Prop:=∃ e∈es,e.loc=.mark .noRoom
def gC(es es':Array Event):Prop:=∀ e∈es',e∈es∨e.loc≠.mark .noRoom
def eH(P:Program)(S:Nat->Prop){α : Type}(B:Nat)(v W:World)(es:Array Event)(r r':Result α×Array Event):Prop:=
 match r with
 |(.ok a v',es')=>v'.drawn<=B->∃ W',r'=(.ok a W',es')∧Goal P S B v v' W W' es es'
 |(.halt h v',es')=>(jU h∧(v'.drawn<=B->jP es'->jP r'.2))∨(v'.drawn<=B->(∃ x,h=.panic x)∧∃ W',r'=(.halt h W',es')∧Goal P S B v v' W W' es es')
def Sim(P:Program)(S:Nat->Prop){α : Type}(s:Sem α):Prop:=
 ∀ B v W es,Rel P S B v W->eH P S B v W es (s.runT P v es) (s.runT P W es)
section
variable {P:Program}{S:Nat->Prop}{B:Nat}{α β : Type}
theorem fT.mono{n m:Nat}(h:n<=m){e:Event}(x:fT S n e):fT S m e:=by
 unfold fT at *
 split at x<;>simp_all<;>omega
theorem jD.refl(n:Nat)(es:Array Event):jD S n es es:=⟨[],by simp,by simp⟩
theorem jD.trans{n m:Nat}(hnm:n<=m){a b c:Array Event}(h:jD S n a b)(h':jD S m b c):jD S m a c:=by
 obtain⟨l,e,hl⟩:=h;obtain⟨l',e',hl'⟩:=h';refine⟨l++l',by rw[e',e,List.append_assoc],fun x hx=>?_⟩
 rcases List.mem_append.1 hx with h|h
 .exact(hl x h).mono hnm
 .exact hl' x h
theorem jD.push{n:Nat}{es:Array Event}{e:Event}(h:fT S n e):jD S n es (es.push e):=⟨[e],by simp,by simpa using h⟩
theorem aN.refl(v:World):aN v v:=⟨rfl,Nat.le_refl _,Nat.le_refl _⟩
theorem aN.trans{a b c:World}(h:aN a b)(h':aN b c):aN a c:=⟨h'.tape.trans h.tape,Nat.le_trans h.drawn h'.drawn,Nat.le_trans h.size h'.size⟩
theorem Goal.stay{v W:World}{es:Array Event}(h:Rel P S B v W):Goal P S B v v W W es es:=⟨rfl,rfl,h,.refl _ _,fun _ _=>rfl⟩
theorem Goal.list{v W:World}{es:Array Event}{e:Event}(h:Rel P S B v W)(he:fT S v.heap.size e):Goal P S B v v W W es (es.push e):=⟨rfl,rfl,h,.push he,fun _ _=>rfl⟩
theorem Goal.trans{v v1 v2 W W1 W2:World}{es es1 es2:Array Event}(hk:aN v1 v2)(h:Goal P S B v v1 W W1 es es1)(h':Goal P S B v1 v2 W1 W2 es1 es2):Goal P S B v v2 W W2 es es2:=
 ⟨h'.tape.trans h.tape,by have:=h.drawn;have:=h'.drawn;omega,h'.rel,h.grow.trans hk.size h'.grow,fun b hb=>(h'.hidden b hb).trans (h.hidden b hb)⟩
def _root_.Go.Result.world{α : Type} : Result α->World
 |.ok _ w|.halt _ w=>w
theorem Uc{α : Type}(a:Ask α):∀ w:World,aN w (w.ask a).2:=by
 induction a with
 |done a=>intro w;exact .refl w
 |ask what range k ih=>
  intro w;simp only[World.ask];split
  .exact ih 0 w
  .exact aN.trans (b:={w with drawn:=w.drawn+1}) ⟨rfl,Nat.le_succ _,Nat.le_refl _⟩ (ih _ _)
theorem Ub(w:World)(c:Sys):aN w (w.sys c).2:=by
 unfold World.sys;have:=Uc (Kernel.perform c w.os) w;split
 .exact .refl w
 .rename_i heq;rw[heq]at this;exact⟨this.tape,this.drawn,this.size⟩
theorem Iq{P:Program}{w w':World}{a:Addr}{x:Value}{b:Bool}{l:List Addr}(h:w.farStore P a x b=.ok (w',l)):aN w w':=by
 unfold World.farStore at h;split at h
 .split at h
  .rename_i heq;cases h
   unfold World.viewStore at heq;simp only[bind,Except.bind,pure,Except.pure]at heq;repeat' split at heq
   all_goals first
    |(cases heq;done)
    |(cases heq;exact⟨rfl,Nat.le_refl _,by simp⟩)
  .cases h
 .cases h
theorem mT{P:Program}{α : Type}(s:Sem α):∀ (w:World) (es:Array Event),aN w (s.runT P w es).1.world:=by
 induction s with
 |pure a=>intro w es;exact .refl w
 |load m a k ih=>
  intro w es;simp only[Sem.runT];split
  .exact ih _ _ _
  .split
   .exact ih _ _ _
   .exact .refl w
 |store m a v k ih=>
  intro w es
  have:∀ v:Value,aN w (match w.cell? a with
   |some _=>if w.frozen? a then((.halt (.unsupported (.unsafePointer "a write to bytes that a string shares")) w,es):Result α×Array Event) else k.runT P (w.setCell a v) (es.push ⟨.cell a,true,m == Mode.atomic⟩)
   |none=>match w.farStore P a v (m == Mode.atomic) with
    |.ok (w',touched)=>k.runT P w' (es++touched.toArray.map fun a=>(⟨.cell a,true,m == Mode.atomic⟩:Event))
    |.error y=>(.halt y w,es)).1.world:=by
   intro v;split
   .split
    .exact .refl w
    .exact aN.trans (b:=w.setCell a v) ⟨rfl,Nat.le_refl _,by simp[World.setCell]⟩ (ih _ _)
   .split
    .rename_i heq;exact(Iq heq).trans (ih _ _)
    .exact .refl w
  cases v<;>first|exact .refl w|exact this _
 |new o k ih=>intro w es;exact aN.trans (b:={w with heap:=w.heap.push o}) ⟨rfl,Nat.le_refl _,by simp⟩ (ih _ _ _)
 |shape r k ih=>intro w es;exact ih _ _ _
 |freeze a n k ih=>
  intro w es;refine aN.trans (b:=w.freeze a n) ?_ (ih _ _);unfold World.freeze;split
  .exact .refl w
  .exact⟨rfl,Nat.le_refl _,by simp⟩
 |frozen a k ih=>intro w es;exact ih _ _ _
 |getObj r k ih=>
  intro w es;simp only[Sem.runT];split
  .exact .refl w
  .exact ih _ _ _
  .exact .refl w
 |setObj r o k ih=>
  intro w es;simp only[Sem.runT];split
  .exact .refl w
  .exact aN.trans (b:={w with heap:=w.heap.setIfInBounds r o}) ⟨rfl,Nat.le_refl _,by simp⟩ (ih _ _)
  .exact .refl w
 |choose q k ih=>
  intro w es;simp only[Sem.runT];split
  .exact ih _ _ _
  .exact aN.trans (b:={w with drawn:=w.drawn+1}) ⟨rfl,Nat.le_succ _,Nat.le_refl _⟩ (ih _ _ _)
 |sys c k ih=>intro w es;exact(Ub w c).trans (ih _ _ _)
 |program k ih=>intro w es;exact ih _ _ _
 |mark m k ih=>intro w es;exact ih _ _
 |halt h=>intro w es;exact .refl w
theorem Tn{P:Program}{α : Type}(s:Sem α):∀ (w:World) (es:Array Event) (e:Event),e∈es->e∈(s.runT P w es).2:=by
 induction s with
 |pure a=>intro w es e h;exact h
 |load m a k ih=>
  intro w es e h;simp only[Sem.runT];split
  .exact ih _ _ _ _ (Array.mem_push_of_mem _ h)
  .split
   .exact ih _ _ _ _ (Array.mem_append_left _ h)
   .exact h
 |store m a v k ih=>
  intro w es e h
  have:∀ v:Value,e∈(match w.cell? a with
   |some _=>if w.frozen? a then((.halt (.unsupported (.unsafePointer "a write to bytes that a string shares")) w,es):Result α×Array Event) else k.runT P (w.setCell a v) (es.push ⟨.cell a,true,m == Mode.atomic⟩)
   |none=>match w.farStore P a v (m == Mode.atomic) with
    |.ok (w',touched)=>k.runT P w' (es++touched.toArray.map fun a=>(⟨.cell a,true,m == Mode.atomic⟩:Event))
    |.error y=>(.halt y w,es)).2:=by
   intro v;split
   .split
    .exact h
    .exact ih _ _ _ (Array.mem_push_of_mem _ h)
   .split
    .exact ih _ _ _ (Array.mem_append_left _ h)
    .exact h
  cases v<;>first|exact h|exact this _
 |new o k ih=>intro w es e h;exact ih _ _ _ _ h
 |shape r k ih=>intro w es e h;exact ih _ _ _ _ h
 |freeze a n k ih=>intro w es e h;exact ih _ _ _ h
 |frozen a k ih=>intro w es e h;exact ih _ _ _ _ h
 |getObj r k ih=>
  intro w es e h;simp only[Sem.runT];split
  .exact h
  .exact ih _ _ _ _ (Array.mem_push_of_mem _ h)
  .exact h
 |setObj r o k ih=>
  intro w es e h;simp only[Sem.runT];split
  .exact h
  .exact ih _ _ _ (Array.mem_push_of_mem _ h)
  .exact h
 |choose q k ih=>
  intro w es e h;simp only[Sem.runT];split<;>exact ih _ _ _ _ h
 |sys c k ih=>intro w es e h;exact ih _ _ _ _ (Array.mem_push_of_mem _ h)
 |program k ih=>intro w es e h;exact ih _ _ _ _ h
 |mark m k ih=>intro w es e h;exact ih _ _ _ (Array.mem_push_of_mem _ h)
 |halt x=>intro w es e h;exact h
theorem jP.run{P:Program}{α : Type}(s:Sem α)(w:World){es:Array Event}(h:jP es):jP (s.runT P w es).2:=by
 obtain⟨e,he,hl⟩:=h;exact⟨e,Tn s w es e he,hl⟩
theorem jP.calm{es es':Array Event}(hc:gC es es')(h:jP es'):jP es:=by
 obtain⟨e,he,hl⟩:=h;rcases hc e he with h1|h1
 .exact⟨e,h1,hl⟩
 .exact absurd hl h1
theorem gC.refl(es:Array Event):gC es es:=fun e he=>.inl he
theorem gC.push{es:Array Event}{e:Event}(h:e.loc≠.mark .noRoom):gC es (es.push e):=fun x hx=>by
 rcases Array.mem_push.1 hx with h1|rfl
 .exact .inl h1
 .exact .inr h
theorem gC.trans{a b c:Array Event}(h:gC a b)(h':gC b c):gC a c:=fun e he=>by
 rcases h' e he with h1|h1
 .exact h e h1
 .exact .inr h1
theorem eH.over{P:Program}{S:Nat->Prop}{B:Nat}{α : Type}{v v' W:World}{es es':Array Event}{y:Halt}(s:Sem α)(hd:jU y)(hc:gC es es'):eH P S B v W es (.halt y v',es') (s.runT P W es):=
 .inl ⟨hd,fun _ h=>(h.calm hc).run s W⟩
theorem eH.stay{v W:World}{es:Array Event}{a:α}(h:Rel P S B v W):eH P S B v W es (.ok a v,es) (.ok a W,es):=fun _=>⟨W,rfl,.stay h⟩
theorem Sim.pure(a:α):Sim P S (Pure.pure a:Sem α):=fun B v W es h=>.stay h
theorem Sim.stuck(m:String):Sim P S (Go.stuck m:Sem α):=fun _ _ _ _ _=>eH.over (Go.stuck m) trivial (.refl _)
theorem Sim.unsupported(u:Unsupported)(hu:∀ x,u≠.initOrder x:=by intro x h;cases h):Sim P S (Go.unsupported u:Sem α):=fun _ _ _ _ _=>eH.over (Go.unsupported u) hu (.refl _)
theorem Sim.goPanic(x:Value):Sim P S (Go.goPanic x:Sem α):=fun B v W es h=>.inr fun _=>⟨⟨x,rfl⟩,W,rfl,.stay h⟩
theorem eH.bind{es:Array Event}{x:Sem α}{f:α->Sem β}{v W:World}(h:eH P S B v W es (x.runT P v es) (x.runT P W es))
  (hf:∀ a v' W' es',Rel P S B v' W'->eH P S B v' W' es' ((f a).runT P v' es') ((f a).runT P W' es')) :
  eH P S B v W es ((x.bind f).runT P v es) ((x.bind f).runT P W es):=by
 have eW:=Sem.runT_bind' P x f W es;rw[Sem.runT_bind' P x f v es];cases hr:x.runT P v es with
 |mk r es'=>
 rw[hr]at h;cases r with
 |halt hh v'=>
  rcases h with⟨hd,hroom⟩|hW
  .refine .inl ⟨hd,fun hb hn=>?_⟩
   have h1:=hroom hb hn;rw[eW];cases hx:x.runT P W es with
   |mk r2 es2=>
   rw[hx]at h1;cases r2 with
   |ok a w2=>exact jP.run (f a) w2 h1
   |halt y w2=>exact h1
  .refine .inr fun hb=>?_
   obtain⟨hp,W',e,g⟩:=hW hb;exact⟨hp,W',by rw[eW,e],g⟩
 |ok a v'=>
  have h2:=mT (P:=P) (f a) v' es';simp only;cases hr2:(f a).runT P v' es' with
  |mk r2 es2=>
  rw[hr2]at h2;cases r2 with
  |ok b v2=>
   intro hb;have h2':aN v' v2:=h2;obtain⟨W',e,g⟩:=h (Nat.le_trans h2'.drawn hb);have ag:=hf a v' W' es' g.rel;rw[hr2]at ag;obtain⟨W2,e2,g2⟩:=ag hb;exact⟨W2,by rw[eW,e];exact e2,g.trans h2' g2⟩
  |halt y v2=>
   have h2':aN v' v2:=h2;by_cases hdead:jU y
   .refine .inl ⟨hdead,fun hb hn=>?_⟩
    obtain⟨W',e,g⟩:=h (Nat.le_trans h2'.drawn hb);have ag:=hf a v' W' es' g.rel;rw[hr2]at ag;rw[eW,e];simp only;rcases ag with⟨_,hroom⟩|ag
    .exact hroom hb hn
    .obtain⟨hp,W2,e2,g2⟩:=ag hb;rw[e2];exact hn
   .refine .inr fun hb=>?_
    obtain⟨W',e,g⟩:=h (Nat.le_trans h2'.drawn hb);have ag:=hf a v' W' es' g.rel;rw[hr2]at ag;rcases ag with⟨hd,_⟩|ag
    .exact absurd hd hdead
    .obtain⟨hp,W2,e2,g2⟩:=ag hb;exact⟨hp,W2,by rw[eW,e];exact e2,g.trans h2' g2⟩
theorem Sim.bind{x:Sem α}{f:α->Sem β}(hx:Sim P S x)(hf:∀ a,Sim P S (f a)):Sim P S (x >>= f):=
 fun B v W es h=>eH.bind (hx B v W es h) fun a v' W' es' h'=>hf a B v' W' es' h'
theorem Sim.map{x:Sem α}{f:α->β}(hx:Sim P S x):Sim P S (Functor.map f x):=Sim.bind hx fun a=>Sim.pure (f a)
theorem Sim.ite{c:Prop}[Decidable c]{x y:Sem α}(hx:Sim P S x)(hy:Sim P S y):Sim P S (if c then x else y):=by split<;>assumption
theorem Sim.program:Sim P S Go.program:=fun B v W es h=>.stay h
theorem Sim.choose(q:Question):Sim P S (Go.choose q):=by
 intro B v W es h;simp only[Go.choose,Sem.runT];split
 .exact .stay h
 .intro hb;have e:=h.draws 0 q (by simp only at hb;omega);simp only[Nat.add_zero]at e;rw[e];refine⟨_,rfl,rfl,by simp only;omega,⟨fun j q hj=>?_,h.os,h.output,h.size,h.seen,h.hid,h.tame,h.high⟩,.refl _ _,fun _ _=>rfl⟩
  have:=h.draws (j+1) q (by simp only at hj;omega);simp only[Nat.add_assoc,Nat.add_comm 1 j];exact this
theorem Sim.noRoom:Sim P S (Go.mark .noRoom):=fun B v W es h _=>⟨W,rfl,.list h (by simp[fT])⟩
theorem Sim.askRoom(n:Nat):Sim P S (Go.askRoom n):=by
 unfold Go.askRoom;split
 .exact Sim.noRoom
 .exact Sim.pure ()
theorem Rel.cell{v W:World}(h:Rel P S B v W){a:Addr}(hs:¬S a.block):W.cell? a=v.cell? a:=by simp[World.cell?,h.seen _ hs]
theorem Rel.cell_hid{v W:World}(h:Rel P S B v W){a:Addr}(hs:S a.block):v.cell? a=none:=by simp[World.cell?,h.hid _ hs,eA]
theorem rG{v:World}{a:Addr}{x:Value}(h:v.cell? a=some x):a.block<v.heap.size:=by
 unfold World.cell? at h;split at h
 .rename_i heq;exact(Array.getElem?_eq_some_iff.1 heq).1
 .cases h
theorem Rel.farLoad{v W:World}(h:Rel P S B v W)(a:Addr)(b:Bool):∃ x,v.farLoad P a b=.error x∧jU x:=by
 by_cases hs:S a.block
 .unfold World.farLoad;rw[h.hid _ hs];simp only[eA,World.viewLoad,World.seen,Option.isSome_some,Bool.or_true,if_true];exact⟨_,rfl,fun x hx=>by cases hx⟩
 .unfold World.farLoad;split
  .rename_i heq;exact(h.tame _ hs _ heq).elim
  .refine⟨_,rfl,?_⟩;unfold World.noCell;split
   .rename_i heq;exact(h.tame _ hs _ heq).elim
   .exact fun x hx=>by cases hx
   .trivial
theorem Rel.farStore{v W:World}(h:Rel P S B v W)(a:Addr)(x:Value)(b:Bool):∃ y,v.farStore P a x b=.error y∧jU y:=by
 by_cases hs:S a.block
 .unfold World.farStore;rw[h.hid _ hs];simp only[eA,World.viewStore];by_cases ht:tight P P.depth 0=true
  .simp only[ht,Bool.not_true,Bool.false_eq_true,if_false,World.seen,Option.isSome_some,Bool.or_true,if_true];exact⟨_,rfl,fun x hx=>by cases hx⟩
  .simp only[ht,Bool.not_false,if_true];exact⟨_,rfl,fun x hx=>by cases hx⟩
 .unfold World.farStore;split
  .rename_i heq;exact(h.tame _ hs _ heq).elim
  .refine⟨_,rfl,?_⟩;unfold World.noCell;split
   .rename_i heq;exact(h.tame _ hs _ heq).elim
   .exact fun x hx=>by cases hx
   .trivial
theorem Sim.load(a:Addr)(m:Mode):Sim P S (Go.load a m):=by
 intro B v W es h;obtain⟨x,hx,hd⟩:=h.farLoad a (m == .atomic);by_cases hs:S a.block
 .have hc:=h.cell_hid (a:=a) hs;have e:(Go.load a m).runT P v es=(.halt x v,es):=by simp only[Go.load,Sem.runT,hc,hx]
  rw[e];exact eH.over _ hd (.refl _)
 .cases hc:v.cell? a with
  |some y=>
   have hcW:W.cell? a=some y:=(h.cell hs).trans hc;simp only[Go.load,Sem.runT,hc,hcW];exact fun _=>⟨W,rfl,.list h ⟨hs,rG hc⟩⟩
  |none=>
   have e:(Go.load a m).runT P v es=(.halt x v,es):=by simp only[Go.load,Sem.runT,hc,hx]
   rw[e];exact eH.over _ hd (.refl _)
theorem Rel.frozen{v W:World}(h:Rel P S B v W){a:Addr}(hs:¬S a.block):W.frozen? a=v.frozen? a:=by simp[World.frozen?,h.seen _ hs]
theorem Rel.shape{v W:World}(h:Rel P S B v W){r:Nat}(hs:¬S r):W.shape? r=v.shape? r:=by simp[World.shape?,h.seen _ hs]
theorem Rel.shape_hid{v W:World}(h:Rel P S B v W){r:Nat}(hs:S r):v.shape? r=none:=by simp[World.shape?,h.hid _ hs,eA]
theorem Rel.lt{v W:World}(h:Rel P S B v W){r:Nat}(hs:S r):r<v.heap.size:=(Array.getElem?_eq_some_iff.1 (h.hid _ hs)).1
theorem Rel.modify{v W:World}(h:Rel P S B v W){b:Nat}(hs:¬S b)(f:Obj->Obj)(hf:∀ o,o.tame->(f o).tame) :
  Rel P S B {v with heap:=v.heap.modify b f} {W with heap:=W.heap.modify b f}:=by
 have key:∀ (A:Array Obj) (x:Nat),(A.modify b f)[x]?=if b=x then(A[x]?).map f else A[x]?:=by
  intro A x;rw[Array.getElem?_modify]
 refine⟨h.draws,h.os,h.output,by simp[h.size],fun x hx=>?_,fun x hx=>?_,fun x hx o ho=>?_,h.high⟩
 .show(v.heap.modify b f)[x]?=(W.heap.modify b f)[x]?;rw[key,key,h.seen x hx]
 .show(v.heap.modify b f)[x]?=_;rw[key,if_neg (fun e:b=x=>hs (e▸hx)),h.hid x hx]
 .have ho':(v.heap.modify b f)[x]?=some o:=ho;rw[key]at ho';split at ho'
  .obtain⟨o',h1,rfl⟩:=Option.map_eq_some_iff.1 ho';exact hf o' (h.tame x hx o' h1)
  .exact h.tame x hx o ho'
theorem Rel.setCell{v W:World}(h:Rel P S B v W){a:Addr}(hs:¬S a.block)(x:Value):Rel P S B (v.setCell a x) (W.setCell a x):=by
 unfold World.setCell;exact h.modify hs _ (fun o ho=>by cases o<;>simp_all[Obj.tame])
theorem Iw(v:World)(a:Addr)(x:Value):(v.setCell a x).heap.size=v.heap.size:=by simp[World.setCell]
theorem Rel.push{v W:World}(h:Rel P S B v W){o:Obj}(ho:o.tame):Rel P S B {v with heap:=v.heap.push o} {W with heap:=W.heap.push o}:=by
 refine⟨h.draws,h.os,h.output,by simp[h.size],fun x hx=>?_,fun x hx=>?_,fun x hx o' ho'=>?_,h.high⟩
 .show(v.heap.push o)[x]?=(W.heap.push o)[x]?;rw[Array.getElem?_push,Array.getElem?_push,h.size,h.seen x hx]
 .show(v.heap.push o)[x]?=_;rw[Array.getElem?_push,if_neg (by have:=h.lt hx;omega),h.hid x hx]
 .have ho2:(v.heap.push o)[x]?=some o':=ho';rw[Array.getElem?_push]at ho2;split at ho2
  .cases ho2;exact ho
  .exact h.tame x hx o' ho2
theorem Rel.new{v W:World}(h:Rel P S B v W):¬S v.heap.size:=fun hs=>by have:=h.lt hs;omega
theorem Sim.store(a:Addr)(x:Value)(m:Mode):Sim P S (Go.store a x m):=by
 intro B v W es h;by_cases hag:(∃ c,x=.agg c)∨(∃ c,x=.tuple c)
 .rcases hag with⟨c,rfl⟩|⟨c,rfl⟩<;>exact .inl ⟨trivial,fun _ h=>h⟩
 have e:∀ w:World,(Go.store a x m).runT P w es=match w.cell? a with
   |some _=>if w.frozen? a then(.halt (.unsupported (.unsafePointer "a write to bytes that a string shares")) w,es) else(.ok () (w.setCell a x),es.push ⟨.cell a,true,m == .atomic⟩)
   |none=>match w.farStore P a x (m == .atomic) with
    |.ok (w',touched)=>(.ok () w',es++touched.toArray.map (⟨.cell ·,true,m == .atomic⟩))
    |.error y=>(.halt y w,es):=by
  intro w;cases x<;>first|rfl|(exfalso;exact hag (by simp))
 obtain⟨y,hy,hd⟩:=h.farStore a x (m == .atomic);by_cases hs:S a.block
 .have hc:=h.cell_hid (a:=a) hs;have e1:(Go.store a x m).runT P v es=(.halt y v,es):=by rw[e];simp only[hc,hy]
  rw[e1];exact eH.over _ hd (.refl _)
 .cases hc:v.cell? a with
  |some z=>
   by_cases hf:v.frozen? a=true
   .have e1:(Go.store a x m).runT P v es=(.halt (.unsupported (.unsafePointer "a write to bytes that a string shares")) v,es):=by rw[e];simp only[hc,hf,if_true]
    rw[e1];exact eH.over _ (fun x hx=>by cases hx) (.refl _)
   .have hcW:W.cell? a=some z:=(h.cell hs).trans hc;have hfW:W.frozen? a=v.frozen? a:=h.frozen hs;rw[e,e];simp only[hc,hcW,hfW,hf,Bool.false_eq_true,if_false];exact fun _=>⟨_,rfl,rfl,rfl,h.setCell hs x,.push ⟨hs,by rw[Iw];exact rG hc⟩,fun b hb=>by simp only[World.setCell];rw[Array.getElem?_modify,if_neg (fun e:a.block=b=>hs (e▸hb))]⟩
  |none=>
   have e1:(Go.store a x m).runT P v es=(.halt y v,es):=by rw[e];simp only[hc,hy]
   rw[e1];exact eH.over _ hd (.refl _)
theorem Sim.newObj{o:Obj}(ho:o.tame):Sim P S (Go.newObj o):=by
 intro B v W es h;intro _;refine⟨{W with heap:=W.heap.push o},?_,rfl,rfl,h.push ho,.refl _ _,fun b hb=>by show(W.heap.push o)[b]?=_;rw[Array.getElem?_push,if_neg (by have:=h.lt hb;have:=h.size;omega)]⟩
 simp only[Go.newObj,Sem.runT,h.size]
theorem Sim.shape{r:Nat}(hs:¬S r):Sim P S (Go.shape r):=by
 intro B v W es h;simp only[Go.shape,Sem.runT,h.shape hs];exact .stay h
theorem Sim.frozen{a:Addr}(hs:¬S a.block):Sim P S (Go.frozen a):=by
 intro B v W es h;simp only[Go.frozen,Sem.runT,h.frozen hs];exact .stay h
theorem Sim.getObj{r:Nat}(hs:¬S r):Sim P S (Go.getObj r):=by
 intro B v W es h;simp only[Go.getObj,Sem.runT,<-h.seen r hs];split
 .exact .inl ⟨trivial,fun _ h=>h⟩
 .rename_i o _ heq;exact fun _=>⟨W,rfl,.list h ⟨hs,(Array.getElem?_eq_some_iff.1 heq).1⟩⟩
 .exact .inl ⟨trivial,fun _ h=>h⟩
theorem Sim.setObj{r:Nat}{o:Obj}(hs:¬S r)(ho:o.tame):Sim P S (Go.setObj r o):=by
 intro B v W es h;simp only[Go.setObj,Sem.runT,<-h.seen r hs];split
 .exact .inl ⟨trivial,fun _ h=>h⟩
 .rename_i o' _ heq;have hlt:=(Array.getElem?_eq_some_iff.1 heq).1;refine fun _=>⟨_,rfl,rfl,rfl,?_,.push ⟨hs,by simpa using hlt⟩,fun b hb=>Array.getElem?_setIfInBounds_ne (fun e:r=b=>hs (e▸hb))⟩
  have:=h.modify hs (fun _=>o) (fun _ _=>ho);have e:∀ A:Array Obj,A.setIfInBounds r o=A.modify r (fun _=>o):=fun A=>by
   apply Array.ext_getElem?;intro i;rw[Array.getElem?_modify,Array.getElem?_setIfInBounds];by_cases hi:r=i
   .subst hi;by_cases hl:r<A.size
    .simp[hl]
    .simp[hl,Array.getElem?_eq_none (Nat.le_of_not_lt hl)]
   .simp[hi]
  rw[e,e];exact this
 .exact .inl ⟨trivial,fun _ h=>h⟩
theorem Sim.typeInfo(t:TypeId):Sim P S (Go.typeInfo t):=by
 unfold Go.typeInfo;refine Sim.bind Sim.program fun p=>?_
 split<;>first|exact Sim.pure _|exact Sim.stuck _
theorem Sim.underlying(t:TypeId):Sim P S (Go.underlying t):=by
 unfold Go.underlying;refine Sim.bind Sim.program fun p=>?_
 split<;>first|exact Sim.pure _|exact Sim.stuck _
theorem Sim.zeroValue(t:TypeId):Sim P S (Go.zeroValue t):=by
 unfold Go.zeroValue;refine Sim.bind (Sim.typeInfo t) fun p=>?_
 split<;>first|exact Sim.pure _|exact Sim.unsupported _
theorem Sim.sizeOf(t:TypeId):Sim P S (Go.sizeOf t):=Sim.bind (Sim.typeInfo t) fun _=>Sim.pure _
theorem Sim.isAgg(t:TypeId):Sim P S (Go.isAgg t):=by
 unfold Go.isAgg;refine Sim.bind (Sim.underlying t) fun p=>?_
 split<;>exact Sim.pure _
theorem Sim.loadCellsFrom(a:Addr):∀ (n i:Nat) (acc:Array Value),Sim P S (Go.loadCellsFrom a i n acc)
 |0,_,_=>Sim.pure _
 |n+1,i,acc=>Sim.bind (Sim.load _ _) fun _=>Sim.loadCellsFrom a n _ _
theorem Sim.loadCells(a:Addr)(n:Nat):Sim P S (Go.loadCells a n):=Sim.loadCellsFrom a n 0 #[]
theorem Sim.storeCells(a:Addr):∀ (vs:List Value) (i:Nat),Sim P S (Go.storeCells a vs i)
 |[],_=>Sim.pure _
 |v :: rest,i=>Sim.bind (Sim.store _ _ _) fun _=>Sim.storeCells a rest _
theorem Sim.loadVar(t:TypeId)(a:Addr):Sim P S (Go.loadVar t a):=by
 unfold Go.loadVar;refine Sim.bind (Sim.isAgg t) fun b=>?_
 split
 .exact Sim.bind (Sim.sizeOf t) fun _=>Sim.bind (Sim.loadCells _ _) fun _=>Sim.pure _
 .exact Sim.load _ _
theorem Sim.storeVar(t:TypeId)(a:Addr)(v:Value):Sim P S (Go.storeVar t a v):=by
 unfold Go.storeVar;refine Sim.bind (Sim.sizeOf t) fun b=>?_
 split
 .exact Sim.bind (Sim.stuck _) fun _=>Sim.storeCells _ _ _
 .exact Sim.storeCells _ _ _
theorem Sim.newRow(t:TypeId)(c:Array Value):Sim P S (Go.newRow t c):=Sim.bind (Sim.newObj trivial) fun _=>Sim.pure _
theorem Sim.newVar(t:TypeId)(c:Value):Sim P S (Go.newVar t c):=Sim.newRow _ _
theorem Sim.elemOf(t:TypeId):Sim P S (Go.elemOf t):=by
 unfold Go.elemOf;refine Sim.bind (Sim.underlying t) fun p=>?_
 split<;>first|exact Sim.pure _|exact Sim.stuck _
theorem Sim.part(t:TypeId)(cs:Array Value)(off:Nat):Sim P S (Go.part t cs off):=by
 unfold Go.part;refine Sim.bind (Sim.isAgg t) fun b=>?_
 split
 .exact Sim.bind (Sim.sizeOf t) fun _=>Sim.pure _
 .split<;>first|exact Sim.pure _|exact Sim.stuck _
theorem Sim.runtimePanic(e:RuntimeError):Sim P S (Go.runtimePanic e:Sem α):=by
 unfold Go.runtimePanic;refine Sim.bind Sim.program fun p=>?_
 simp only;split
 all_goals first
  |exact Sim.goPanic _
  |exact Sim.bind (Sim.elemOf _) fun _=>Sim.bind (Sim.newVar _ _) fun _=>Sim.goPanic _
theorem Sim.boundsPanic(k:IntKind)(x y:Int)(c:BoundsCode):Sim P S (Go.boundsPanic k x y c:Sem α):=by
 unfold Go.boundsPanic;simp only;split
 .exact Sim.bind (Sim.map (Sim.choose _)) fun _=>Sim.runtimePanic _
 .exact Sim.bind (Sim.pure _) fun _=>Sim.runtimePanic _
theorem Sim.asIntOf(v:Value):Sim P S (Go.asIntOf v):=by
 unfold Go.asIntOf;split<;>first|exact Sim.pure _|exact Sim.stuck _|exact Sim.unsupported _
theorem Sim.asInt(v:Value):Sim P S (Go.asInt v):=Sim.bind (Sim.asIntOf v) fun _=>Sim.pure _
theorem Sim.asBool(v:Value):Sim P S (Go.asBool v):=by
 unfold Go.asBool;split<;>first|exact Sim.pure _|exact Sim.stuck _
theorem Sim.asAgg(v:Value):Sim P S (Go.asAgg v):=by
 unfold Go.asAgg;split<;>first|exact Sim.pure _|exact Sim.stuck _
theorem Sim.asAddr(v:Value):Sim P S (Go.asAddr v):=by
 unfold Go.asAddr;split<;>first|exact Sim.pure _|exact Sim.stuck _|exact Sim.runtimePanic _
theorem Sim.halts{s:Sem α}(hs:Sim P S s){v W v1:World}{es es0:Array Event}{y:Halt}(h:Rel P S B v W)(e:s.runT P v es=(.halt y v1,es0)):jU y∨∃ x,y=.panic x:=by
 have:=hs v1.drawn v {W with tape:=v.tape,drawn:=v.drawn} es ⟨fun _ _ _=>rfl,h.os,h.output,h.size,h.seen,h.hid,h.tame,h.high⟩
 rw[e]at this;rcases this with⟨hd,_⟩|hx
 .exact .inl hd
 .exact .inr (hx (Nat.le_refl _)).1
end
section
variable {P:Program}{S:Nat->Prop}{B:Nat}{α β : Type}
theorem Sim.mapL{f:α->Sem β}(hf:∀ a,Sim P S (f a)):∀ l:List α,Sim P S (l.mapM f)
 |[]=>by simpa using Sim.pure (P:=P) (S:=S) ([]:List β)
 |x :: l=>by
  rw[List.mapM_cons];exact Sim.bind (hf x) fun _=>Sim.bind (Sim.mapL hf l) fun _=>Sim.pure _
theorem Sim.mapA{f:α->Sem β}(hf:∀ a,Sim P S (f a))(xs:Array α):Sim P S (xs.mapM f):=by
 rw[Array.mapM_eq_mapM_toList];exact Sim.map (Sim.mapL hf _)
theorem Sim.forInL{σ : Type}{f:α->σ->Sem (ForInStep σ)}(hf:∀ a s,Sim P S (f a s)):∀ (l:List α) (s:σ),Sim P S (forIn l s f)
 |[],s=>by simpa using Sim.pure (P:=P) (S:=S) s
 |x :: l,s=>by
  rw[List.forIn_cons];refine Sim.bind (hf x s) fun r=>?_
  cases r with
  |done b=>exact Sim.pure b
  |yield b=>exact Sim.forInL hf l b
theorem Sim.forInA{σ : Type}{f:α->σ->Sem (ForInStep σ)}(hf:∀ a s,Sim P S (f a s))(xs:Array α)(s:σ):Sim P S (forIn xs s f):=by
 rw[<-Array.forIn_toList];exact Sim.forInL hf _ _
theorem Sim.foldL{σ : Type}{f:σ->α->Sem σ}(hf:∀ s a,Sim P S (f s a)):∀ (l:List α) (s:σ),Sim P S (l.foldlM f s)
 |[],s=>by simpa using Sim.pure (P:=P) (S:=S) s
 |x :: l,s=>by
  rw[List.foldlM_cons];exact Sim.bind (hf s x) fun r=>Sim.foldL hf l r
theorem Sim.alloc(t:TypeId):Sim P S (Instr.alloc t true (.tuple #[])):=
 Sim.bind (Sim.zeroValue t) fun _=>Sim.bind (Sim.newVar _ _) fun _=>Sim.pure _
theorem Sim.box(t:TypeId)(x:Value):Sim P S (Instr.box t x):=Sim.bind (Sim.newVar _ _) fun _=>Sim.pure _
theorem Sim.build(t:TypeId)(ps:Array (Nat×Value)):Sim P S (Instr.build t ps):=by
 unfold Instr.build;refine Sim.bind (Sim.zeroValue t) fun z=>Sim.bind (Sim.underlying t) fun d=>?_
 split
 .refine Sim.bind (Sim.mapA (fun f=>Sim.bind (Sim.sizeOf _) fun _=>Sim.pure _) _) fun _=>?_
  split<;>first|exact Sim.pure _|exact Sim.stuck _
 .refine Sim.bind (Sim.sizeOf _) fun _=>?_
  split<;>first|exact Sim.pure _|exact Sim.stuck _
 .exact Sim.stuck _
theorem Sim.buildSlice(t:TypeId)(n:Nat)(ps:Array (Nat×Value)):Sim P S (Instr.buildSlice t n ps):=by
 unfold Instr.buildSlice;refine Sim.bind (Sim.underlying t) fun d=>?_
 split
 .refine Sim.bind (Sim.sizeOf _) fun z=>?_
  simp only;split
  .exact Sim.bind (Sim.unsupported _) fun _=>by
    split
    .refine Sim.bind (Sim.pure _) fun _=>?_
     split
     .exact Sim.bind (Sim.newRow _ _) fun _=>Sim.pure _
     .exact Sim.stuck _
    .refine Sim.bind (Sim.zeroValue _) fun _=>Sim.bind (Sim.pure _) fun _=>?_
     split
     .exact Sim.bind (Sim.newRow _ _) fun _=>Sim.pure _
     .exact Sim.stuck _
  .split
   .refine Sim.bind (Sim.pure _) fun _=>?_
    split
    .exact Sim.bind (Sim.newRow _ _) fun _=>Sim.pure _
    .exact Sim.stuck _
   .refine Sim.bind (Sim.zeroValue _) fun _=>Sim.bind (Sim.pure _) fun _=>?_
    split
    .exact Sim.bind (Sim.newRow _ _) fun _=>Sim.pure _
    .exact Sim.stuck _
 .exact Sim.stuck _
theorem Sim.sureAddr(x:Value):Sim P S (Instr.sureAddr x):=by
 unfold Instr.sureAddr;split<;>first|exact Sim.pure _|exact Sim.stuck _
theorem Sim.loadAt(t:TypeId)(x:Value):Sim P S (Instr.loadAt t x):=Sim.bind (Sim.sureAddr x) fun _=>Sim.loadVar _ _
theorem Sim.storeAt(t:TypeId)(x y:Value):Sim P S (Instr.storeAt t x y):=Sim.bind (Sim.sureAddr x) fun _=>Sim.storeVar _ _ _
def aH(P:Program){α : Type}(s:Sem α)(v:World)(es:Array Event):Prop:=∃ y v' es',s.runT P v es=(.halt y v',es')∧jU y∧gC es es'
theorem Sim.of_dead{s:Sem α}(h:∀ {B:Nat} v W es,Rel P S B v W->aH P s v es):Sim P S s:=by
 intro B v W es hR;obtain⟨x,v',es',e,hd,hc⟩:=h v W es hR;rw[e];exact eH.over s hd hc
theorem Dk{x:Sem α}{f:α->Sem β}{v:World}{es:Array Event}(h:aH P x v es):aH P (x >>= f) v es:=by
 obtain⟨y,v',es',e,hd,hc⟩:=h;exact⟨y,v',es',by show(x.bind f).runT P v es=_;rw[Sem.runT_bind',e],hd,hc⟩
theorem Aq{v W:World}(h:Rel P S B v W){r:Nat}(hs:S r)(es:Array Event):(Go.viewAt r).runT P v es=(.ok (some (⟨0,0,some 0⟩,0)) v,es.push ⟨.obj r,false,false⟩):=by
 have e1:=h.shape_hid hs;have e2:=h.hid r hs;show((Go.shape r).bind _).runT P v es=_;rw[Sem.runT_bind'];simp only[Go.shape,Sem.runT,e1,Option.isSome_none,Bool.false_eq_true,if_false];show((Go.getObj r).bind _).runT P v es=_;rw[Sem.runT_bind'];simp only[Go.getObj,Sem.runT,e2,eA,Obj.isChan];rfl
theorem Sim.viewAt{r:Nat}(hs:¬S r):Sim P S (Go.viewAt r):=by
 unfold Go.viewAt;refine Sim.bind (Sim.shape hs) fun _=>?_
 split
 .exact Sim.pure _
 .refine Sim.bind (Sim.getObj hs) fun _=>?_
  split<;>exact Sim.pure _
theorem Sim.numberAt{r:Nat}(hs:¬S r):Sim P S (Go.numberAt r):=by
 unfold Go.numberAt;refine Sim.bind (Sim.shape hs) fun _=>?_
 split
 .exact Sim.pure _
 .refine Sim.bind (Sim.getObj hs) fun _=>?_
  split<;>exact Sim.pure _
theorem zP{v W:World}(h:Rel P S B v W){r:Nat}(hs:S r)(es:Array Event):(Go.numberAt r).runT P v es=(.ok none v,es.push ⟨.obj r,false,false⟩):=by
 have e1:=h.shape_hid hs;have e2:=h.hid r hs;show((Go.shape r).bind _).runT P v es=_;rw[Sem.runT_bind'];simp only[Go.shape,Sem.runT,e1,Option.isSome_none,Bool.false_eq_true,if_false];show((Go.getObj r).bind _).runT P v es=_;rw[Sem.runT_bind'];simp only[Go.getObj,Sem.runT,e2,eA,Obj.isChan];rfl
theorem rF{v W:World}(h:Rel P S B v W){a:Addr}(hs:S a.block)(es:Array Event):aH P (Go.noView a) v es:=by
 refine⟨.unsupported (.unsafePointer "memory seen as another type"),v,es.push ⟨.obj a.block,false,false⟩,?_,(fun x hx=>by cases hx),.push (by simp)⟩
 show((Go.viewAt a.block).bind _).runT P v es=_;rw[Sem.runT_bind',Aq h hs];simp only[Option.isSome_some,if_true];rfl
theorem Sim.noView(a:Addr):Sim P S (Go.noView a):=by
 by_cases hs:S a.block
 .exact Sim.of_dead fun v W es h=>rF h hs es
 .unfold Go.noView;refine Sim.bind (Sim.viewAt hs) fun _=>?_
  split
  .exact Sim.unsupported _
  .exact Sim.pure _
theorem Sim.byteOf(a:Addr):Sim P S (Go.byteOf a):=by
 unfold Go.byteOf;split
 .exact Sim.pure _
 .refine Sim.bind Sim.program fun p=>?_
  by_cases hs:S a.block
  .exact Sim.of_dead fun v W es h=>Dk (rF h hs es)
  .refine Sim.bind (Sim.noView a) fun _=>Sim.bind (Sim.shape hs) fun _=>?_
   split
   .simp only;split
    .exact Sim.pure _
    .split
     .exact Sim.pure _
     .exact Sim.stuck _
   .exact Sim.stuck _
theorem Sim.partAt(a:Addr)(c b:Nat):Sim P S (Go.partAt a c b):=by
 unfold Go.partAt;exact Sim.bind (Sim.byteOf _) fun _=>Sim.bind (Sim.byteOf _) fun _=>Sim.pure _
theorem Sim.fieldPlace(a:Addr)(f:Field):Sim P S (Go.fieldPlace a f):=by
 unfold Go.fieldPlace;refine Sim.bind (Sim.sizeOf _) fun _=>?_
 split
 .exact Sim.partAt _ _ _
 .exact Sim.pure _
theorem Sim.fieldAt(t:TypeId)(x:Value)(n:Nat):Sim P S (Instr.fieldAt t x n):=by
 unfold Instr.fieldAt;refine Sim.bind (Sim.underlying t) fun _=>?_
 split
 .split
  .exact Sim.bind (Sim.sureAddr _) fun _=>Sim.bind (Sim.fieldPlace _ _) fun _=>Sim.pure _
  .exact Sim.stuck _
 .exact Sim.stuck _
theorem Sim.indexAt(t:TypeId)(x i:Value):Sim P S (Instr.indexAt t x i):=by
 unfold Instr.indexAt;refine Sim.bind (Sim.asIntOf i) fun ki=>?_
 obtain⟨k,n⟩:=ki;refine Sim.bind (Sim.underlying t) fun d=>?_
 simp only;split
 .refine Sim.bind (Sim.sureAddr _) fun _=>Sim.bind (Sim.pure _) fun q=>?_
  obtain⟨b,len,elem⟩:=q;refine Sim.bind (Sim.underlying t) fun d=>?_
  simp only;split
  .split
   .exact Sim.bind (Sim.sizeOf _) fun _=>Sim.pure _
   .refine Sim.ite (Sim.unsupported _) (Sim.boundsPanic _ _ _ _)
  .exact Sim.boundsPanic _ _ _ _
 .refine Sim.bind (Sim.pure _) fun q=>?_
  obtain⟨b,len,elem⟩:=q;refine Sim.bind (Sim.underlying t) fun d=>?_
  simp only;split
  .split
   .exact Sim.bind (Sim.sizeOf _) fun _=>Sim.pure _
   .refine Sim.ite (Sim.unsupported _) (Sim.boundsPanic _ _ _ _)
  .exact Sim.boundsPanic _ _ _ _
 .refine Sim.bind (Sim.stuck _) fun q=>?_
  obtain⟨b,len,elem⟩:=q;refine Sim.bind (Sim.underlying t) fun d=>?_
  simp only;split
  .split
   .exact Sim.bind (Sim.sizeOf _) fun _=>Sim.pure _
   .refine Sim.ite (Sim.unsupported _) (Sim.boundsPanic _ _ _ _)
  .exact Sim.boundsPanic _ _ _ _
theorem Sim.sliceBound(x:Value)(y:Nat)(c:BoundsCode):Sim P S (Instr.sliceBound x y c):=by
 unfold Instr.sliceBound;refine Sim.bind (Sim.asIntOf x) fun q=>?_
 obtain⟨k,i⟩:=q;exact Sim.ite (Sim.pure _) (Sim.boundsPanic _ _ _ _)
theorem Sim.sliceBounds(b:Bool)(len cap:Nat)(low high max:Option Value):Sim P S (Instr.sliceBounds b len cap low high max):=by
 unfold Instr.sliceBounds;rcases max with _|mx<;>rcases high with _|hi<;>rcases low with _|lo<;>simp only;all_goals repeat' first
  |exact Sim.pure _
  |refine Sim.bind (Sim.sliceBound _ _ _) fun _=>?_
  |refine Sim.bind (Sim.stuck _) fun _=>?_
  |refine Sim.bind (Sim.pure _) fun _=>?_
theorem Sim.slice(t:TypeId)(x:Value)(low high max:Option Value):Sim P S (Instr.slice t x low high max):=by
 unfold Instr.slice;refine Sim.bind (Sim.underlying t) fun d=>?_
 split
 .simp only;split
  .exact Sim.bind (Sim.stuck _) fun _=>Sim.bind (Sim.sliceBounds _ _ _ _ _ _) fun q=>by obtain⟨l,h,m⟩:=q;exact Sim.pure _
  .exact Sim.bind (Sim.sliceBounds _ _ _ _ _ _) fun q=>by obtain⟨l,h,m⟩:=q;exact Sim.pure _
 .exact Sim.bind (Sim.sliceBounds _ _ _ _ _ _) fun q=>by obtain⟨l,h,m⟩:=q;exact Sim.bind (Sim.sizeOf _) fun _=>Sim.pure _
 .refine Sim.bind (Sim.asAddr _) fun a=>Sim.bind (Sim.underlying _) fun d=>?_
  split
  .exact Sim.bind (Sim.sliceBounds _ _ _ _ _ _) fun q=>by obtain⟨l,h,m⟩:=q;exact Sim.bind (Sim.sizeOf _) fun _=>Sim.pure _
  .exact Sim.stuck _
 .exact Sim.stuck _
theorem Sim.sliceAt(t:TypeId)(x:Value)(low high max:Option Value):Sim P S (Instr.sliceAt t x low high max):=by
 unfold Instr.sliceAt;refine Sim.bind (Sim.underlying t) fun d=>?_
 split
 .exact Sim.bind (Sim.sureAddr _) fun _=>Sim.bind (Sim.sliceBounds _ _ _ _ _ _) fun q=>by obtain⟨l,h,m⟩:=q;exact Sim.bind (Sim.sizeOf _) fun _=>Sim.pure _
 .exact Sim.slice _ _ _ _ _
theorem Sim.makeSlice(t:TypeId)(l c:Value):Sim P S (Instr.makeSlice t l c):=by
 unfold Instr.makeSlice;refine Sim.bind (Sim.underlying t) fun d=>?_
 split
 .refine Sim.bind (Sim.asInt _) fun len=>Sim.bind (Sim.asInt _) fun cap=>Sim.bind (Sim.typeInfo _) fun i=>?_
  simp only
  have fin:∀ (elem:TypeId) (n m:Nat),Sim P S (do
    let q <-Go.sizeOf elem;if n*q=0 then do
     let zero <-Pure.pure #[];let a <-Go.newRow elem (Array.map (fun x=>zero[x % zero.size]!) (Array.range (n*q)));Pure.pure (Value.slice (some a) m n)
    else do
     let z <-Go.zeroValue elem;let zero <-Pure.pure z.cells;let a <-Go.newRow elem (Array.map (fun x=>zero[x % zero.size]!) (Array.range (n*q)))
     Pure.pure (Value.slice (some a) m n)):=fun elem n m=>by
   refine Sim.bind (Sim.sizeOf _) fun q=>?_
   split
   .exact Sim.bind (Sim.pure _) fun _=>Sim.bind (Sim.newRow _ _) fun _=>Sim.pure _
   .exact Sim.bind (Sim.zeroValue _) fun _=>Sim.bind (Sim.pure _) fun _=>Sim.bind (Sim.newRow _ _) fun _=>Sim.pure _
  split
  .split
   .exact Sim.bind (Sim.runtimePanic _) fun _=>Sim.bind (Sim.askRoom _) fun _=>fin _ _ _
   .split
    .exact Sim.bind (Sim.runtimePanic _) fun _=>Sim.bind (Sim.askRoom _) fun _=>fin _ _ _
    .exact Sim.bind (Sim.choose _) fun _=>Sim.bind (Sim.runtimePanic _) fun _=>Sim.bind (Sim.askRoom _) fun _=>fin _ _ _
  .exact Sim.bind (Sim.askRoom _) fun _=>fin _ _ _
 .exact Sim.stuck _
theorem Sim.extract(x:Value)(i:Nat):Sim P S (Instr.extract x i):=by
 unfold Instr.extract;split
 .split<;>first|exact Sim.pure _|exact Sim.stuck _
 .exact Sim.stuck _
theorem Sim.index(t:TypeId)(x i:Value):Sim P S (Instr.index t x i):=by
 unfold Instr.index;refine Sim.bind (Sim.asIntOf i) fun q=>?_
 obtain⟨k,n⟩:=q;refine Sim.bind (Sim.underlying t) fun d=>?_
 split
 .split
  .exact Sim.bind (Sim.sizeOf _) fun _=>Sim.part _ _ _
  .exact Sim.boundsPanic _ _ _ _
 .split
  .exact Sim.pure _
  .exact Sim.boundsPanic _ _ _ _
 .exact Sim.stuck _
theorem Sim.field(t:TypeId)(x:Value)(n:Nat):Sim P S (Instr.field t x n):=by
 unfold Instr.field;refine Sim.bind (Sim.underlying t) fun d=>?_
 split
 .split
  .exact Sim.bind (Sim.asAgg _) fun _=>Sim.part _ _ _
  .exact Sim.stuck _
 .exact Sim.stuck _
theorem Sim.unary(op:UnOp)(x:Value):Sim P S (Op.unary op x):=by
 unfold Op.unary;split<;>first|exact Sim.pure _|exact Sim.stuck _|exact Sim.unsupported _
theorem Sim.stringOp(op:BinOp)(x y:ByteArray):Sim P S (Op.stringOp op x y):=by
 unfold Op.stringOp;simp only;split<;>first|exact Sim.pure _|exact Sim.stuck _|exact Sim.ite (Sim.unsupported _) (Sim.pure _)
theorem Sim.shift(op:BinOp)(k:IntKind)(x:Int)(k':IntKind)(y:Int):Sim P S (Op.shift op k x k' y):=by
 unfold Op.shift;split
 .exact Sim.runtimePanic _
 .simp only;split<;>first|exact Sim.pure _|exact Sim.stuck _
theorem Sim.intArith(op:BinOp)(k:IntKind)(x y:Int):Sim P S (Op.intArith op k x y):=by
 unfold Op.intArith;split<;>first|exact Sim.pure _|exact Sim.stuck _
theorem Sim.intDiv(op:BinOp)(k:IntKind)(x y:Int):Sim P S (Op.intDiv op k x y):=by
 unfold Op.intDiv;split
 .exact Sim.runtimePanic _
 .split<;>first|exact Sim.pure _|exact Sim.stuck _
theorem Sim.intBits(op:BinOp)(k:IntKind)(x y:Int):Sim P S (Op.intBits op k x y):=by
 unfold Op.intBits;simp only;split<;>first|exact Sim.pure _|exact Sim.stuck _
theorem Sim.intCmp(op:BinOp)(x y:Int):Sim P S (Op.intCmp op x y):=by
 unfold Op.intCmp;split<;>first|exact Sim.pure _|exact Sim.stuck _
theorem Sim.floatArith(op:BinOp)(k:FloatKind)(x y:Nat):Sim P S (Op.floatArith op k x y):=by
 unfold Op.floatArith;have h2:∀ r:Option Nat,Sim P S (match r with|some r=>Pure.pure (Value.float k r)|none=>do let q <-Go.choose (.nanBits k x y);Pure.pure (Value.float k q)):=fun r=>by
  split
  .exact Sim.pure _
  .exact Sim.bind (Sim.choose _) fun _=>Sim.pure _
 simp only;split<;>first|exact Sim.bind (Sim.pure _) fun r=>h2 r|exact Sim.bind (Sim.stuck _) fun r=>h2 r
theorem Sim.floatCmp(op:BinOp)(k:FloatKind)(x y:Nat):Sim P S (Op.floatCmp op k x y):=by
 unfold Op.floatCmp;simp only;split<;>first|exact Sim.pure _|exact Sim.stuck _
end
def dY(P:Program){α : Type}(s:Sem α):Prop:=∀ v es,aH P s v es∨∃ a,s.runT P v es=(.ok a v,es)
section
variable {P:Program}{S:Nat->Prop}{B:Nat}{α β : Type}
theorem aH.stuck(m:String)(v:World)(es:Array Event):aH P (Go.stuck m:Sem α) v es:=⟨_,_,_,rfl,trivial,.refl _⟩
theorem aH.unsupported(u:Unsupported)(v:World)(es:Array Event)(hu:∀ x,u≠.initOrder x:=by intro x h;cases h):aH P (Go.unsupported u:Sem α) v es:=⟨_,_,_,rfl,hu,.refl _⟩
theorem aH.first{x:Sem α}{f:α->Sem β}{v:World}{es:Array Event}(h:aH P x v es):aH P (x >>= f) v es:=Dk h
theorem aH.later{x:Sem α}{f:α->Sem β}{v v':World}{es es':Array Event}{a:α}(e:x.runT P v es=(.ok a v',es'))(h:aH P (f a) v' es')(hc:gC es es':=by first|exact gC.refl _|exact gC.push (by simp)):aH P (x >>= f) v es:=by
 obtain⟨y,v2,es2,e2,hd,hc2⟩:=h;exact⟨y,v2,es2,by show(x.bind f).runT P v es=_;rw[Sem.runT_bind',e];exact e2,hd,hc.trans hc2⟩
theorem aH.cool{x:Sem α}{f:α->Sem β}{v:World}{es:Array Event}(hx:dY P x)(h:∀ a,aH P (f a) v es):aH P (x >>= f) v es:=by
 rcases hx v es with hd|⟨a,e⟩
 .exact hd.first
 .exact .later e (h a)
theorem Sim.ofDead{s:Sem α}(h:∀ {B:Nat} v W es,Rel P S B v W->aH P s v es):Sim P S s:=Sim.of_dead h
theorem dY.pure(a:α):dY P (Pure.pure a:Sem α):=fun v es=>.inr ⟨a,rfl⟩
theorem dY.stuck(m:String):dY P (Go.stuck m:Sem α):=fun v es=>.inl (.stuck m v es)
theorem dY.unsupported(u:Unsupported)(hu:∀ x,u≠.initOrder x:=by intro x h;cases h):dY P (Go.unsupported u:Sem α):=fun v es=>.inl (.unsupported u v es hu)
theorem dY.bind{x:Sem α}{f:α->Sem β}(hx:dY P x)(hf:∀ a,dY P (f a)):dY P (x >>= f):=by
 intro v es;rcases hx v es with hd|⟨a,e⟩
 .exact .inl hd.first
 .rcases hf a v es with hd|⟨b,e2⟩
  .exact .inl (.later e hd)
  .exact .inr ⟨b,by show(x.bind f).runT P v es=_;rw[Sem.runT_bind',e];exact e2⟩
theorem dY.asIntOf(v:Value):dY P (Go.asIntOf v):=by
 unfold Go.asIntOf;split<;>first|exact dY.pure _|exact dY.stuck _|exact dY.unsupported _
theorem dY.asInt(v:Value):dY P (Go.asInt v):=dY.bind (dY.asIntOf v) fun _=>dY.pure _
theorem rS{v W:World}(h:Rel P S B v W){a:Addr}(hs:S a.block)(es:Array Event):(Go.behindNumber a).runT P v es=(.ok (a,false) v,es.push ⟨.obj a.block,false,false⟩):=by
 show((Go.numberAt a.block).bind _).runT P v es=_;rw[Sem.runT_bind',zP h hs];rfl
theorem Sim.behind{a:Addr}(hs:¬S a.block):Sim P S (Go.behindNumber a):=Sim.bind (Sim.numberAt hs) fun _=>Sim.pure _
def yA(m1 m2:String)(a:Addr)(y:Value):Sem Value:=do
 let n <-Go.asInt y
 if n=0 then
  if (<-Go.viewAt a.block).isSome then Go.unsupported (.unsafePointer m1)
  return .pointer (some a)
 if n<0 then Go.unsupported (.unsafePointer m2)
 let some (e,cells) <-Go.shape a.block|Go.unsupported (.unsafePointer "Add")
 let p <-Go.program
 match cellAtBytes p p.depth e (cells / p.cellsOf e) a.off n with
 |some off=>Pure.pure (.pointer (some {a with off}))
 |none=>Go.unsupported (.unsafePointer "Add")
theorem Gx(a:Addr)(t:TypeId)(y:Value):∃ m1 m2,Builtin.unsafeAdd_ #[] t #[.pointer (some a),y]=yA m1 m2 a y:=⟨_,_,rfl⟩
theorem Uz(t:TypeId)(y:Value):∃ m1 m2,Builtin.unsafeAdd_ #[] t #[.pointer none,y]=(do
 let n <-Go.asInt y
 if n=0 then Go.unsupported (.unsafePointer m1) else
 if n<0 then Go.unsupported (.unsafePointer m2)
 Go.unsupported (.unsafePointer "Add")):=⟨_,_,rfl⟩
theorem xZ{v W:World}(h:Rel P S B v W){a:Addr}(hs:S a.block)(t:TypeId)(y:Value)(es:Array Event):aH P (Builtin.unsafeAdd_ #[] t #[.pointer (some a),y]) v es:=by
 obtain⟨m1,m2,e⟩:=Gx a t y;rw[e];unfold yA;simp only;refine aH.cool (dY.asInt _) fun n=>?_
 split
 .refine aH.later (Aq h hs es) ?_;simp only[Option.isSome_some,if_true];exact aH.first (aH.unsupported _ _ _)
 .split
  .exact aH.first (aH.unsupported _ _ _)
  .have e:(Go.shape a.block).runT P v es=(.ok none v,es):=by simp only[Go.shape,Sem.runT,h.shape_hid hs]
   exact aH.later e (aH.unsupported _ _ _)
theorem Sim.add{a:Addr}(hs:¬S a.block)(t:TypeId)(y:Value):Sim P S (Builtin.unsafeAdd_ #[] t #[.pointer (some a),y]):=by
 obtain⟨m1,m2,e⟩:=Gx a t y;rw[e];unfold yA;simp only;refine Sim.bind (Sim.asInt _) fun n=>?_
 split
 .refine Sim.bind (Sim.viewAt hs) fun _=>?_
  exact Sim.ite (Sim.bind (Sim.unsupported _) fun _=>Sim.pure _) (Sim.pure _)
 .have fin:Sim P S (do
    let __x <-Go.shape a.block;match __x with
    |some (e,cells)=>do
     let p <-Go.program;match cellAtBytes p p.depth e (cells / p.cellsOf e) a.off n with
     |some off=>Pure.pure (Value.pointer (some {a with off}))
     |none=>Go.unsupported (.unsafePointer "Add")
    |_=>Go.unsupported (.unsafePointer "Add")):=by
   refine Sim.bind (Sim.shape hs) fun q=>?_
   split
   .refine Sim.bind Sim.program fun p=>?_
    split<;>first|exact Sim.pure _|exact Sim.unsupported _
   .exact Sim.unsupported _
  split
  .exact Sim.bind (Sim.unsupported _) fun _=>fin
  .exact fin
theorem Sim.addAny(t:TypeId)(o:Option Addr)(y:Value):Sim P S (Builtin.unsafeAdd_ #[] t #[.pointer o,y]):=by
 cases o with
 |none=>
  obtain⟨m1,m2,e⟩:=Uz t y;rw[e];refine Sim.bind (Sim.asInt _) fun n=>?_
  exact Sim.ite (Sim.unsupported _) (Sim.ite (Sim.bind (Sim.unsupported _) fun _=>Sim.unsupported _) (Sim.unsupported _))
 |some a=>
  by_cases hs:S a.block
  .exact Sim.ofDead fun v W es h=>xZ h hs t y es
  .exact Sim.add hs t y
theorem Sim.asNumber(a:Addr)(b:Bool):Sim P S (Go.asNumber a b):=Sim.bind (Sim.newObj trivial) fun _=>Sim.pure _
theorem Sim.movedNumber(t:TypeId)(o:Option Addr)(y:Value):Sim P S (Go.movedNumber t (.pointer o) y):=by
 have rest:Sim P S (match (Value.pointer o) with
   |.pointer (some n)=>do
    let (a,lost) <-Go.behindNumber n;match <-Builtin.unsafeAdd_ #[] t #[.pointer (some a),y]with
    |.pointer (some b)=>Go.asNumber b lost
    |v=>Pure.pure v
   |_=>Builtin.unsafeAdd_ #[] t #[.pointer o,y]):=by
  cases o with
  |none=>exact Sim.addAny _ _ _
  |some n=>
   by_cases hs:S n.block
   .exact Sim.ofDead fun v W es h=>aH.later (rS h hs es) (aH.first (xZ h hs t y _))
   .refine Sim.bind (Sim.behind hs) fun q=>?_
    obtain⟨a,lost⟩:=q;refine Sim.bind (Sim.addAny _ _ _) fun q=>?_
    split
    .exact Sim.asNumber _ _
    .exact Sim.pure _
 unfold Go.movedNumber;refine Sim.bind (Sim.underlying t) fun d=>?_
 simp only;split
 .exact Sim.bind (Sim.unsupported _) fun _=>rest
 .exact rest
theorem Sim.movedPointer(t:TypeId)(o:Option Addr)(y:Value):Sim P S (Go.movedPointer t (.pointer o) y):=by
 unfold Go.movedPointer;cases o with
 |none=>exact Sim.addAny _ _ _
 |some n=>
  by_cases hs:S n.block
  .refine Sim.ofDead fun v W es h=>?_
   refine aH.later (zP h hs es) ?_;simp only[Option.isSome_none,Bool.false_eq_true,if_false];exact xZ h hs t y _
  .refine Sim.bind (Sim.numberAt hs) fun q=>?_
   exact Sim.ite (Sim.bind (Sim.unsupported _) fun _=>Sim.addAny _ _ _) (Sim.addAny _ _ _)
theorem Sim.twoPlaces(a b:Addr):Sim P S (Op.twoPlaces a b):=by
 unfold Op.twoPlaces;refine Sim.bind Sim.program fun p=>?_
 simp only;exact Sim.ite (Sim.bind (Sim.unsupported _) fun _=>Sim.bind (Sim.byteOf _) fun _=>Sim.bind (Sim.byteOf _) fun _=>Sim.pure _) (Sim.bind (Sim.byteOf _) fun _=>Sim.bind (Sim.byteOf _) fun _=>Sim.pure _)
theorem Sim.addrSub(k:IntKind)(a b:Addr):Sim P S (Op.addrSub k a b):=by
 unfold Op.addrSub;exact Sim.bind (Sim.twoPlaces a b) fun q=>by obtain⟨x,y⟩:=q;exact Sim.pure _
theorem Sim.addrCmp(op:BinOp)(a b:Addr):Sim P S (Op.addrCmp op a b):=by
 unfold Op.addrCmp;refine Sim.bind (Sim.twoPlaces a b) fun q=>?_
 obtain⟨x,y⟩:=q;simp only;split<;>first|exact Sim.pure _|exact Sim.unsupported _
theorem Ff{v W:World}(h:Rel P S B v W){a b:Addr}(hs:S a.block∨S b.block)(es:Array Event):aH P (Op.twoPlaces a b) v es:=by
 unfold Op.twoPlaces;refine aH.later (a:=P) (v':=v) (es':=es) rfl ?_;have:(a.block != b.block||decide (a.block ≥ P.globals.size))=true:=by
  by_cases e:a.block=b.block
  .have hsa:S a.block:=hs.elim id fun x=>e▸x
   have:=h.high _ hsa;simp[e];omega
  .simp[e]
 simp only[this,if_true];exact aH.first (aH.unsupported _ _ _)
def bU(P:Program){α : Type}(s:Sem α)(v:World):Prop:=∀ es,aH P s v es∨∃ a es',s.runT P v es=(.ok a v,es')∧gC es es'
theorem bU.bind{x:Sem α}{f:α->Sem β}{v:World}(hx:bU P x v)(hf:∀ a,bU P (f a) v):bU P (x >>= f) v:=by
 intro es;rcases hx es with hd|⟨a,es',e,hc⟩
 .exact .inl hd.first
 .rcases hf a es' with hd|⟨b,es2,e2,hc2⟩
  .exact .inl (.later e hd hc)
  .exact .inr ⟨b,es2,by show(x.bind f).runT P v es=_;rw[Sem.runT_bind',e];exact e2,hc.trans hc2⟩
theorem bU.pure(a:α)(v:World):bU P (Pure.pure a:Sem α) v:=fun es=>.inr ⟨a,es,rfl,.refl _⟩
theorem bU.shape(r:Nat)(v:World):bU P (Go.shape r) v:=fun es=>.inr ⟨_,_,rfl,.refl _⟩
theorem bU.getObj(r:Nat)(v:World):bU P (Go.getObj r) v:=by
 intro es;simp only[Go.getObj,aH,Sem.runT];split
 .exact .inl ⟨_,_,_,rfl,trivial,.refl _⟩
 .exact .inr ⟨_,_,rfl,.push (by simp)⟩
 .exact .inl ⟨_,_,_,rfl,trivial,.refl _⟩
theorem bU.numberAt(r:Nat)(v:World):bU P (Go.numberAt r) v:=by
 unfold Go.numberAt;refine bU.bind (bU.shape r v) fun _=>?_
 split
 .exact bU.pure _ _
 .refine bU.bind (bU.getObj r v) fun _=>?_
  split<;>exact bU.pure _ _
theorem bU.behind(a:Addr)(v:World):bU P (Go.behindNumber a) v:=bU.bind (bU.numberAt _ v) fun _=>bU.pure _ _
theorem aH.mild{x:Sem α}{f:α->Sem β}{v:World}{es:Array Event}(hx:bU P x v)(h:∀ a es',aH P (f a) v es'):aH P (x >>= f) v es:=by
 rcases hx es with hd|⟨a,es',e,hc⟩
 .exact hd.first
 .exact .later e (h a es') hc
theorem Sim.twoBehind{f:Addr->Addr->Sem α}(hf:∀ a b,Sim P S (f a b))(hd:∀ {B:Nat} v W,Rel P S B v W->∀ a b es,S a.block∨S b.block->aH P (f a b) v es)(a b:Addr) :
  Sim P S (do f (<-Go.behindNumber a).1 (<-Go.behindNumber b).1):=by
 by_cases ha:S a.block
 .refine Sim.ofDead fun v W es h=>?_
  exact aH.later (rS h ha es) (aH.mild (bU.behind b v) fun q es'=>hd v W h _ _ _ (.inl ha))
 .refine Sim.bind (Sim.behind ha) fun q=>?_
  by_cases hb:S b.block
  .exact Sim.ofDead fun v W es h=>aH.later (rS h hb es) (hd v W h _ _ _ (.inr hb))
  .exact Sim.bind (Sim.behind hb) fun q'=>hf _ _
theorem Sim.addrMod(k:IntKind)(a:Addr)(n:Int)(hs:¬S a.block):Sim P S (Op.addrMod k a n):=by
 unfold Op.addrMod;refine Sim.bind (Sim.shape hs) fun q=>?_
 split
 .refine Sim.bind (Sim.typeInfo _) fun _=>?_
  simp only;exact Sim.ite (Sim.bind (Sim.unsupported _) fun _=>Sim.bind (Sim.byteOf _) fun _=>Sim.pure _) (Sim.bind (Sim.byteOf _) fun _=>Sim.pure _)
 .exact Sim.unsupported _
theorem Vx{v W:World}(h:Rel P S B v W)(k:IntKind){a:Addr}(hs:S a.block)(n:Int)(es:Array Event):aH P (Op.addrMod k a n) v es:=by
 unfold Op.addrMod;have e:(Go.shape a.block).runT P v es=(.ok none v,es):=by simp only[Go.shape,Sem.runT,h.shape_hid hs]
 exact aH.later e (aH.unsupported _ _ _)
theorem bU.frozen(a:Addr)(v:World):bU P (Go.frozen a) v:=fun es=>.inr ⟨_,_,rfl,.refl _⟩
theorem bU.noView(a:Addr)(v:World):bU P (Go.noView a) v:=by
 unfold Go.noView Go.viewAt;refine bU.bind (bU.bind (bU.shape _ v) fun _=>?_) fun _=>?_
 .split
  .exact bU.pure _ _
  .refine bU.bind (bU.getObj _ v) fun _=>?_
   split<;>exact bU.pure _ _
 .split
  .exact fun es=>.inl (aH.unsupported _ _ _)
  .exact bU.pure _ _
theorem Bq{v W:World}(h:Rel P S B v W){a:Addr}(hs:S a.block)(es:Array Event):(Go.frozen a).runT P v es=(.ok false v,es):=by
 have e:v.frozen? a=false:=by unfold World.frozen?;rw[h.hid _ hs];rfl
 simp only[Go.frozen,Sem.runT,e]
theorem Sim.stringish{a:Addr}(hs:¬S a.block):Sim P S (Go.stringish a):=by
 unfold Go.stringish;refine Sim.bind (Sim.frozen hs) fun b=>?_
 refine Sim.ite (Sim.pure _) ?_;refine Sim.bind (Sim.shape hs) fun q=>?_
 split
 .exact Sim.frozen hs
 .exact Sim.pure _
theorem Sim.mayBeOne{a b:Addr}(ha:¬S a.block)(hb:¬S b.block):Sim P S (Go.mayBeOne a b):=by
 unfold Go.mayBeOne;refine Sim.bind (Sim.stringish ha) fun x=>Sim.bind (Sim.stringish hb) fun y=>?_
 simp only;refine Sim.bind (Sim.bind (Sim.shape ha) fun _=>Sim.pure _) fun _=>Sim.bind (Sim.bind (Sim.shape hb) fun _=>Sim.pure _) fun _=>Sim.pure _
theorem Sim.sameAddr(a b:Addr):Sim P S (Go.sameAddr a b):=by
 unfold Go.sameAddr;simp only;refine Sim.ite (Sim.pure _) ?_;by_cases ha:S a.block
 .refine Sim.ofDead fun v W es h=>?_
  have e1:(Go.frozen a).runT P v es=(.ok false v,es):=Bq h ha es;refine aH.later e1 (aH.mild (bU.frozen b v) fun q es'=>?_)
  simp only[Bool.false_and,Bool.false_eq_true,if_false];exact aH.first (rF h ha _)
 .by_cases hb:S b.block
  .refine Sim.ofDead fun v W es h=>?_
   refine aH.mild (bU.frozen a v) fun q es'=>?_
   have e1:(Go.frozen b).runT P v es'=(.ok false v,es'):=Bq h hb es';refine aH.later e1 ?_;simp only[Bool.and_false,Bool.false_eq_true,if_false];exact aH.mild (bU.noView a v) fun _ es2=>aH.first (rF h hb _)
  .refine Sim.bind (Sim.frozen ha) fun x=>Sim.bind (Sim.frozen hb) fun y=>?_
   refine Sim.ite (Sim.bind (Sim.unsupported _) fun _=>?_) ?_
   all_goals
    refine Sim.bind (Sim.noView a) fun _=>Sim.bind (Sim.noView b) fun _=>Sim.bind (Sim.mayBeOne ha hb) fun z=>?_
    exact Sim.ite (Sim.bind (Sim.choose _) fun _=>Sim.pure _) (Sim.pure _)
theorem Sim.samePointer(a b:Option Addr):Sim P S (Go.samePointer a b):=by
 unfold Go.samePointer;split
 .exact Sim.sameAddr _ _
 .exact Sim.pure _
end
def gX(P:Program):Prop:=∀ t i u,P.info? t=some i->i.desc≠.named "sync.copyChecker" u
section
variable {P:Program}{S:Nat->Prop}{B:Nat}{α β : Type}
def eqInt(t:TypeId)(a b:Addr):Sem Bool:=do
 if a.block == b.block&&a.block<(<-Go.program).globals.size then return (<-Go.byteOf a) == (<-Go.byteOf b)
 let .named "sync.copyChecker" _:=(<-Go.typeInfo t).desc|Go.unsupported .addressObserved
 if a == b then Pure.pure true else Go.unsupported .addressObserved
theorem Sim.eqInt(t:TypeId)(a b:Addr):Sim P S (Vw.eqInt t a b):=by
 unfold Vw.eqInt;refine Sim.bind Sim.program fun p=>?_
 refine Sim.ite (Sim.bind (Sim.byteOf _) fun _=>Sim.bind (Sim.byteOf _) fun _=>Sim.pure _) ?_
 refine Sim.bind (Sim.typeInfo t) fun i=>?_
 split
 .exact Sim.ite (Sim.pure _) (Sim.unsupported _)
 .exact Sim.unsupported _
theorem Qw(hC:gX P){v W:World}(h:Rel P S B v W)(t:TypeId)(a b:Addr)(es:Array Event)(hs:S a.block∨S b.block):aH P (Vw.eqInt t a b) v es:=by
 unfold Vw.eqInt;refine aH.later (a:=P) (v':=v) (es':=es) rfl ?_;have:(a.block == b.block&&decide (a.block<P.globals.size))=false:=by
  by_cases e:a.block=b.block
  .have hsa:S a.block:=hs.elim id fun x=>e▸x
   have:=h.high _ hsa;simp[e];omega
  .simp[e]
 simp only[this,Bool.false_eq_true,if_false];cases hi:P.info? t with
 |none=>
  refine aH.first ?_;unfold Go.typeInfo;refine aH.later (a:=P) (v':=v) (es':=es) rfl ?_;simp only[hi];exact aH.stuck _ _ _
 |some i=>
  have e:(Go.typeInfo t).runT P v es=(.ok i v,es):=by
   unfold Go.typeInfo;show(Go.program.bind _).runT P v es=_;rw[Sem.runT_bind'];simp only[Go.program,Sem.runT,hi];rfl
  refine aH.later e ?_;split
  .rename_i heq;exact absurd heq (hC t i _ hi)
  .exact aH.unsupported _ _ _
theorem Sim.typeStr(t:TypeId):Sim P S (Go.typeStr t):=by
 unfold Go.typeStr;refine Sim.bind (Sim.typeInfo t) fun i=>?_
 simp only;exact Sim.ite (Sim.unsupported _) (Sim.pure _)
theorem Sim.forInR{σ : Type}{f:Nat->σ->Sem (ForInStep σ)}(hf:∀ a s,Sim P S (f a s))(n:Nat)(s:σ):Sim P S (forIn [:n] s f):=by
 rw[Std.Legacy.Range.forIn_eq_forIn_range'];exact Sim.forInL hf _ _
theorem Sim.equalIn(hC:gX P):∀ (d:Nat) (t:TypeId) (x y:Value),Sim P S (Op.equalIn d t x y)
 |0,_,_,_=>by rw[Op.equalIn];exact Sim.unsupported _
 |d+1,t,x,y=>by
  have ih:=Sim.equalIn hC d;rw[Op.equalIn];refine Sim.bind (Sim.underlying t) fun u=>?_
  split
  .exact Sim.pure _
  .exact Sim.ite (Sim.pure _) (Sim.stuck _)
  .exact Sim.pure _
  .exact Sim.pure _
  .exact Sim.twoBehind (f:=Vw.eqInt t) (fun a b=>Sim.eqInt t a b) (fun v W h a b es hs=>Qw hC h t a b es hs) _ _
  .exact Sim.unsupported _
  .exact Sim.unsupported _
  .exact Sim.ite (Sim.pure _) (Sim.stuck _)
  .exact Sim.ite (Sim.pure _) (Sim.stuck _)
  .exact Sim.pure _
  .exact Sim.pure _
  .exact Sim.pure _
  .refine Sim.bind (Sim.sizeOf _) fun n=>?_
   exact Sim.ite (Sim.sameAddr _ _) (Sim.ite (Sim.pure _) (Sim.bind (Sim.choose _) fun _=>Sim.pure _))
  .exact Sim.samePointer _ _
  .exact Sim.pure _
  .exact Sim.pure _
  .exact Sim.pure _
  .exact Sim.pure _
  .refine Sim.ite (Sim.pure _) (Sim.bind (Sim.typeInfo _) fun i=>Sim.ite (Sim.bind Sim.program fun p=>Sim.bind Sim.program fun p'=>?_) (ih _ _ _))
   have fin:∀ tx,Sim P S (do
     let q <-Go.typeStr tx
     Go.runtimePanic (RuntimeError.error ("comparing uncomparable type "++q)):Sem Bool):=fun tx=>Sim.bind (Sim.typeStr _) fun _=>Sim.runtimePanic _
   exact Sim.ite (Sim.bind (Sim.unsupported _) fun _=>fin _) (fin _)
  .refine Sim.bind Sim.program fun p=>?_
   simp only;refine Sim.ite (Sim.bind (Sim.unsupported _) fun _=>?_) ?_
   all_goals
    refine Sim.bind (Sim.forInA (fun f s=>?_) _ _) fun r=>?_
    .exact Sim.ite (Sim.bind (Sim.part _ _ _) fun _=>Sim.bind (Sim.part _ _ _) fun _=>Sim.bind (ih _ _ _) fun _=>Sim.ite (Sim.pure _) (Sim.pure _)) (Sim.pure _)
    .split<;>exact Sim.pure _
  .refine Sim.bind (Sim.sizeOf _) fun n=>?_
   refine Sim.bind (Sim.forInR (fun f s=>?_) _ _) fun r=>?_
   .exact Sim.bind (Sim.part _ _ _) fun _=>Sim.bind (Sim.part _ _ _) fun _=>Sim.bind (ih _ _ _) fun _=>Sim.ite (Sim.pure _) (Sim.pure _)
   .simp only;split<;>exact Sim.pure _
  all_goals first|exact Sim.pure _|exact Sim.stuck _
theorem Sim.equal(hC:gX P)(t:TypeId)(x y:Value):Sim P S (Op.equal t x y):=Sim.equalIn hC _ t x y
theorem Sim.eqGuardIn:∀ (d:Nat) (t:TypeId) (x y:Value),Sim P S (Op.eqGuardIn d t x y)
 |0,_,_,_=>by rw[Op.eqGuardIn];exact Sim.unsupported _
 |d+1,t,x,y=>by
  have ih:=Sim.eqGuardIn d;rw[Op.eqGuardIn];refine Sim.bind (Sim.underlying t) fun u=>?_
  split
  .exact Sim.pure _
  .refine Sim.bind (Sim.forInA (fun f s=>?_) _ _) fun r=>?_
   .exact Sim.ite (Sim.bind (Sim.part _ _ _) fun _=>Sim.bind (Sim.part _ _ _) fun _=>Sim.bind (ih _ _ _) fun _=>Sim.ite (Sim.pure _) (Sim.pure _)) (Sim.pure _)
   .simp only;split<;>exact Sim.pure _
  .refine Sim.bind (Sim.sizeOf _) fun n=>?_
   refine Sim.bind (Sim.forInR (fun f s=>?_) _ _) fun r=>?_
   .exact Sim.bind (Sim.part _ _ _) fun _=>Sim.bind (Sim.part _ _ _) fun _=>Sim.bind (ih _ _ _) fun _=>Sim.ite (Sim.pure _) (Sim.pure _)
   .simp only;split<;>exact Sim.pure _
  .exact Sim.pure _
theorem Sim.eqGuard(op:BinOp)(t:TypeId)(x y:Operand)(a b:Value):Sim P S (Go.eqGuard op t x y a b):=by
 unfold Go.eqGuard;refine Sim.ite (Sim.pure _) ?_;split
 .refine Sim.ite (Sim.pure _) ?_;exact Sim.bind (Sim.eqGuardIn _ _ _ _) fun _=>Sim.ite (Sim.unsupported _) (Sim.pure _)
 .refine Sim.bind Sim.program fun p=>Sim.bind Sim.program fun p'=>?_
  exact Sim.ite (Sim.pure _) (Sim.bind (Sim.eqGuardIn _ _ _ _) fun _=>Sim.ite (Sim.unsupported _) (Sim.pure _))
 .exact Sim.pure _
theorem Sim.floatToFloat(k:FloatKind)(x:Nat)(k':FloatKind):Sim P S (Conv.floatToFloat k x k'):=by
 unfold Conv.floatToFloat;refine Sim.ite (Sim.pure _) ?_;split
 .exact Sim.bind (Sim.choose _) fun _=>Sim.pure _
 .exact Sim.pure _
 .simp only;exact Sim.ite (Sim.bind (Sim.choose _) fun _=>Sim.pure _) (Sim.pure _)
theorem Sim.carith(op:BinOp)(k:FloatKind)(x y:Nat):Sim P S (Op.Complex.arith op k x y):=by
 unfold Op.Complex.arith;refine Sim.bind (Sim.floatArith _ _ _ _) fun _=>?_
 split<;>first|exact Sim.pure _|exact Sim.stuck _
theorem Sim.ccmp(op:BinOp)(k:FloatKind)(x y:Nat):Sim P S (Op.Complex.cmp op k x y):=Sim.bind (Sim.floatCmp _ _ _ _) fun _=>Sim.asBool _
theorem Sim.cconv(k:FloatKind)(x:Nat)(k':FloatKind):Sim P S (Op.Complex.conv k x k'):=by
 unfold Op.Complex.conv;refine Sim.ite (Sim.pure _) ?_;refine Sim.bind (Sim.floatToFloat _ _ _) fun _=>?_
 split<;>first|exact Sim.pure _|exact Sim.stuck _
theorem Sim.cadd(x y:Nat):Sim P S (Op.Complex.add x y):=Sim.carith _ _ _ _
theorem Sim.csub(x y:Nat):Sim P S (Op.Complex.sub x y):=Sim.carith _ _ _ _
theorem Sim.cmul(x y:Nat):Sim P S (Op.Complex.mul x y):=Sim.carith _ _ _ _
theorem Sim.cquo(x y:Nat):Sim P S (Op.Complex.quo x y):=Sim.carith _ _ _ _
theorem Sim.cproduct(a b c d:Nat):Sim P S (Op.Complex.product a b c d):=by
 unfold Op.Complex.product;exact Sim.bind (Sim.cmul _ _) fun _=>Sim.bind (Sim.cmul _ _) fun _=>Sim.bind (Sim.csub _ _) fun _=>Sim.bind (Sim.cmul _ _) fun _=>Sim.bind (Sim.cmul _ _) fun _=>Sim.bind (Sim.cadd _ _) fun _=>Sim.pure _
theorem Sim.ccorrected(s a b c d:Nat):Sim P S (Op.Complex.corrected s a b c d):=by
 unfold Op.Complex.corrected;exact Sim.bind (Sim.cmul _ _) fun _=>Sim.bind (Sim.cmul _ _) fun _=>Sim.bind (Sim.cadd _ _) fun _=>Sim.bind (Sim.cmul _ _) fun _=>Sim.bind (Sim.cmul _ _) fun _=>Sim.bind (Sim.cmul _ _) fun _=>Sim.bind (Sim.csub _ _) fun _=>Sim.bind (Sim.cmul _ _) fun _=>Sim.pure _
theorem Sim.cquotient(a b c d:Nat):Sim P S (Op.Complex.quotient a b c d):=by
 unfold Op.Complex.quotient;refine Sim.bind (Sim.ccmp _ _ _ _) fun q=>?_
 have fin:∀ e f:Nat,Sim P S (do
   let x <-Op.Complex.cmp .eql .f64 c 0;let y <-Op.Complex.cmp .eql .f64 d 0;if (!(Op.Complex.isNaN e&&Op.Complex.isNaN f))=true then Pure.pure (e,f)
   else if (x&&y&&(!Op.Complex.isNaN a||!Op.Complex.isNaN b))=true then do
    let u <-Op.Complex.mul (Op.Complex.copysign Op.Complex.inf c) a;let w <-Op.Complex.mul (Op.Complex.copysign Op.Complex.inf c) b;Pure.pure (u,w)
   else if ((Op.Complex.isInf a||Op.Complex.isInf b)&&Op.Complex.isFinite c&&Op.Complex.isFinite d)=true then
    Op.Complex.corrected Op.Complex.inf (Op.Complex.inf2one a) (Op.Complex.inf2one b) c d
   else if ((Op.Complex.isInf c||Op.Complex.isInf d)&&Op.Complex.isFinite a&&Op.Complex.isFinite b)=true then
    Op.Complex.corrected 0 a b (Op.Complex.inf2one c) (Op.Complex.inf2one d)
   else Pure.pure (e,f)):=fun e f=>
  Sim.bind (Sim.ccmp _ _ _ _) fun _=>Sim.bind (Sim.ccmp _ _ _ _) fun _=>Sim.ite (Sim.pure _) (Sim.ite (Sim.bind (Sim.cmul _ _) fun _=>Sim.bind (Sim.cmul _ _) fun _=>Sim.pure _)
   (Sim.ite (Sim.ccorrected _ _ _ _ _) (Sim.ite (Sim.ccorrected _ _ _ _ _) (Sim.pure _))))
 refine Sim.ite ?_ ?_
 .exact Sim.bind (Sim.cquo _ _) fun _=>Sim.bind (Sim.cmul _ _) fun _=>Sim.bind (Sim.cadd _ _) fun _=>Sim.bind (Sim.cmul _ _) fun _=>Sim.bind (Sim.cadd _ _) fun _=>Sim.bind (Sim.cquo _ _) fun _=>
   Sim.bind (Sim.cmul _ _) fun _=>Sim.bind (Sim.csub _ _) fun _=>Sim.bind (Sim.cquo _ _) fun _=>Sim.bind (Sim.pure _) fun q=>fin q.1 q.2
 .exact Sim.bind (Sim.cquo _ _) fun _=>Sim.bind (Sim.cmul _ _) fun _=>Sim.bind (Sim.cadd _ _) fun _=>Sim.bind (Sim.cmul _ _) fun _=>Sim.bind (Sim.cadd _ _) fun _=>Sim.bind (Sim.cquo _ _) fun _=>
   Sim.bind (Sim.cmul _ _) fun _=>Sim.bind (Sim.csub _ _) fun _=>Sim.bind (Sim.cquo _ _) fun _=>Sim.bind (Sim.pure _) fun q=>fin q.1 q.2
theorem Sim.complexOp(op:BinOp)(k:FloatKind)(a b c d:Nat):Sim P S (Op.complexOp op k a b c d):=by
 unfold Op.complexOp;split
 .exact Sim.bind (Sim.carith _ _ _ _) fun _=>Sim.bind (Sim.carith _ _ _ _) fun _=>Sim.pure _
 .exact Sim.bind (Sim.carith _ _ _ _) fun _=>Sim.bind (Sim.carith _ _ _ _) fun _=>Sim.pure _
 .refine Sim.bind (Sim.cconv _ _ _) fun _=>Sim.bind (Sim.cconv _ _ _) fun _=>Sim.bind (Sim.cconv _ _ _) fun _=>Sim.bind (Sim.cconv _ _ _) fun _=>?_
  refine Sim.bind (Sim.cproduct _ _ _ _) fun _=>Sim.bind (Sim.cconv _ _ _) fun _=>Sim.bind (Sim.cconv _ _ _) fun _=>Sim.pure _
 .refine Sim.bind (Sim.cconv _ _ _) fun _=>Sim.bind (Sim.cconv _ _ _) fun _=>Sim.bind (Sim.cconv _ _ _) fun _=>Sim.bind (Sim.cconv _ _ _) fun _=>?_
  refine Sim.bind (Sim.cquotient _ _ _ _) fun _=>Sim.bind (Sim.cconv _ _ _) fun _=>Sim.bind (Sim.cconv _ _ _) fun _=>Sim.pure _
 .exact Sim.bind (Sim.ccmp _ _ _ _) fun _=>Sim.bind (Sim.ccmp _ _ _ _) fun _=>Sim.pure _
 .exact Sim.bind (Sim.ccmp _ _ _ _) fun _=>Sim.bind (Sim.ccmp _ _ _ _) fun _=>Sim.pure _
 .exact Sim.stuck _
end
