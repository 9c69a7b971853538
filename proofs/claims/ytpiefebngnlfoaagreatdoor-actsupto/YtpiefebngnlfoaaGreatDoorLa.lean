import Derived.Conc.Events
import Derived.Conc.Listed
import Derived.Conc.Beside
import Derived.Laws.Sem
set_option maxRecDepth 99999
set_option maxHeartbeats 0
set_option linter.unusedVariables false
set_option linter.unusedSimpArgs false
set_option linter.unnecessarySimpa false
set_option linter.defProp false
namespace Go
def aa:=@Array.getD_eq_getD_getElem?
def ab:=@cell_of_row
def ae:=@Nat.le_refl
def af:=@Array.getElem?_eq_none
def ah:=@if_neg
def ai:=@if_pos
def aj:=@Array.getElem?_setIfInBounds
def ak:=@Nat.le_trans
def al:=@List.mem_of_getElem?
def an:=@Nat.zero_add
def ao:=@Option.getD_some
def ar:=@Classical.byContradiction
def au:=@Array.ext_getElem?
def av:=@List.length_cons
def ax:=@Array.getElem?_setIfInBounds_ne
def ay:=@Bool.false_eq_true
def az:=@List.mem_cons
def bd:=@Array.getElem?_toList
def bf:=@Array.getElem?_eq_getElem
def bg:=@Nat.lt_of_lt_of_le
def bh:=@List.size_toArray
def bj:=@Array.getElem?_map
def bm:=@Option.some.inj
def bo:=@List.append_nil
def bq:=@Bool.and_eq_true
def bt:=@Option.map_some
def bu:=@List.getElem?_map
def bw:=@List.mem_cons_self
def bz:=@List.length_map
def cd:=@List.length_append
def cf:=@List.length_nil
def cr:=@Option.some.injEq
def cw:=@run_underlying
def dc:=@Result.andThen_ok
def df:=@Sem.run_bind
def dg:=@Sem.run_pure
end Go
namespace Go.Vw
def eR:Obj:=.view ⟨0,0,some 0⟩ 0
def _root_.Go.Obj.tame:Obj->Prop
 |.view ..|.pending ..=>False
 |_=>True
structure Rel(P:Program)(S:Nat->Prop)(B:Nat)(v W:World):Prop where
 draws:∀j q,v.drawn+j<B->v.tape (v.drawn+j) q=W.tape (W.drawn+j) q
 os:v.os=W.os
 output:v.output=W.output
 size:v.heap.size=W.heap.size
 seen:∀b,¬S b->v.heap[b]?=W.heap[b]?
 hid:∀b,S b->v.heap[b]?=some eR
 tame:∀b,¬S b->∀o,v.heap[b]?=some o->o.tame
 high:∀b,S b->P.globals.size<=b
def fI(S:Nat->Prop)(n:Nat)(e:Event):Prop:=
 match e.loc with
 |.cell a=>¬S a.block∧a.block<n
 |.obj r=>¬S r∧r<n
 |.mark m=>m=.noRoom
 |_=>False
def jJ:Halt->Prop
 |.stuck _=>True
 |.unsupported u=>∀x,u≠.initOrder x
 |_=>False
def jK(S:Nat->Prop)(n:Nat)(es es':Array Event):Prop:=∃l:List Event,es'.toList=es.toList++l∧∀e∈l,fI S n e
structure bA(v v':World):Prop where
 tape:v'.tape=v.tape
 drawn:v.drawn<=v'.drawn
 size:v.heap.size<=v'.heap.size
structure Goal(P:Program)(S:Nat->Prop)(B:Nat)(v v' W W':World)(es es':Array Event):Prop where
 tape:W'.tape=W.tape
 drawn:W'.drawn+v.drawn=W.drawn+v'.drawn
 rel:Rel P S B v' W'
 grow:jK S v'.heap.size es es'
 hidden:∀b,S b->W'.heap[b]?=W.heap[b]?
def kN(es:Array Event):Prop:=∃e∈es,e.loc=.mark .noRoom
def gM(es es':Array Event):Prop:=∀e∈es',e∈es∨e.loc≠.mark .noRoom
def eZ(P:Program)(S:Nat->Prop){α : Type}(B:Nat)(v W:World)(es:Array Event)(r r':Result α×Array Event):Prop:=
 match r with
 |(.ok a v',es')=>v'.drawn<=B->∃W',r'=(.ok a W',es')∧Goal P S B v v' W W' es es'
 |(.halt h v',es')=>(jJ h∧(v'.drawn<=B->kN es'->kN r'.2))∨(v'.drawn<=B->(∃x,h=.panic x)∧∃W',r'=(.halt h W',es')∧Goal P S B v v' W W' es es')
def aA(P:Program)(S:Nat->Prop){α : Type}(s:Sem α):Prop:=
 ∀B v W es,Rel P S B v W->eZ P S B v W es (s.runT P v es) (s.runT P W es)
section
variable {P:Program}{S:Nat->Prop}{B:Nat}{α β : Type}
theorem fI.mono{n m:Nat}(h:n<=m){e:Event}(x:fI S n e):fI S m e:=by
 unfold fI at *
 split at x<;>simp_all<;>omega
theorem jK.refl(n:Nat)(es:Array Event):jK S n es es:=⟨[],by simp,by simp⟩
theorem jK.trans{n m:Nat}(hnm:n<=m){a b c:Array Event}(h:jK S n a b)(h':jK S m b c):jK S m a c:=by
 obtain⟨l,e,hl⟩:=h;obtain⟨l',e',GQ⟩:=h';refine⟨l++l',by rw[e',e,List.append_assoc],λx hx=>?_⟩;rcases List.mem_append.1 hx with h|h
 .exact(hl x h).mono hnm
 .exact GQ x h
theorem jK.push{n:Nat}{es:Array Event}{e:Event}(h:fI S n e):jK S n es (es.push e):=⟨[e],by simp,by simpa using h⟩
theorem bA.refl(v:World):bA v v:=⟨rfl,ae _,ae _⟩
theorem bA.trans{a b c:World}(h:bA a b)(h':bA b c):bA a c:=⟨h'.tape.trans h.tape,ak h.drawn h'.drawn,ak h.size h'.size⟩
theorem Goal.stay{v W:World}{es:Array Event}(h:Rel P S B v W):Goal P S B v v W W es es:=⟨rfl,rfl,h,.refl _ _,λ_ _=>rfl⟩
theorem Goal.list{v W:World}{es:Array Event}{e:Event}(h:Rel P S B v W)(he:fI S v.heap.size e):Goal P S B v v W W es (es.push e):=⟨rfl,rfl,h,.push he,λ_ _=>rfl⟩
theorem Goal.trans{v v1 v2 W W1 W2:World}{es M0 uz:Array Event}(hk:bA v1 v2)(h:Goal P S B v v1 W W1 es M0)(h':Goal P S B v1 v2 W1 W2 M0 uz):Goal P S B v v2 W W2 es uz:=
 ⟨h'.tape.trans h.tape,by have:=h.drawn;have:=h'.drawn;omega,h'.rel,h.grow.trans hk.size h'.grow,λb hb=>(h'.hidden b hb).trans (h.hidden b hb)⟩
def _root_.Go.Result.world{α : Type} : Result α->World
 |.ok _ w|.halt _ w=>w
theorem Vj{α : Type}(a:Ask α):∀w:World,bA w (w.ask a).2:=by
 induction a with
 |done a=>intro w;exact .refl w
 |ask U2 range k ih=>
  intro w;simp only[World.ask];split
  .exact ih 0 w
  .exact bA.trans (b:={w with drawn:=w.drawn+1}) ⟨rfl,Nat.le_succ _,ae _⟩ (ih _ _)
theorem Vi(w:World)(c:Sys):bA w (w.sys c).2:=by
 unfold World.sys;have:=Vj (Kernel.perform c w.os) w;split
 .exact .refl w
 .rename_i heq;rw[heq]at this;exact⟨this.tape,this.drawn,this.size⟩
theorem Jz{P:Program}{w w':World}{a:Addr}{x:Value}{b:Bool}{l:List Addr}(h:w.farStore P a x b=.ok (w',l)):bA w w':=by
 unfold World.farStore at h;split at h
 .split at h
  .rename_i heq;cases h;unfold World.viewStore at heq;simp only[bind,Except.bind,pure,Except.pure]at heq;repeat' split at heq
   all_goals first
    |(cases heq;done)
    |(cases heq;exact⟨rfl,ae _,by simp⟩)
  .cases h
 .cases h
theorem lB{P:Program}{α : Type}(s:Sem α):∀(w:World)(es:Array Event),bA w (s.runT P w es).1.world:=by
 induction s with
 |pure a=>intro w es;exact .refl w
 |load m a k ih=>
  intro w es;simp only[Sem.runT];split
  .exact ih _ _ _
  .split
   .exact ih _ _ _
   .exact .refl w
 |store m a v k ih=>
  intro w es
  have:∀v:Value,bA w (match w.cell? a with
   |some _=>if w.frozen? a then((.halt (.unsupported (.unsafePointer "a write to bytes that a string shares")) w,es):Result α×Array Event) else k.runT P (w.setCell a v) (es.push ⟨.cell a,true,m==Mode.atomic⟩)
   |none=>match w.farStore P a v (m==Mode.atomic) with
    |.ok (w',od)=>k.runT P w' (es++od.toArray.map λa=>(⟨.cell a,true,m==Mode.atomic⟩:Event))
    |.error y=>(.halt y w,es)).1.world:=by
   intro v;split
   .split
    .exact .refl w
    .exact bA.trans (b:=w.setCell a v) ⟨rfl,ae _,by simp[World.setCell]⟩ (ih _ _)
   .split
    .rename_i heq;exact(Jz heq).trans (ih _ _)
    .exact .refl w
  cases v<;>first|exact .refl w|exact this _
 |new o k ih=>intro w es;exact bA.trans (b:={w with heap:=w.heap.push o}) ⟨rfl,ae _,by simp⟩ (ih _ _ _)
 |shape r k ih=>intro w es;exact ih _ _ _
 |freeze a n k ih=>
  intro w es;refine bA.trans (b:=w.freeze a n) ?_ (ih _ _);unfold World.freeze;split
  .exact .refl w
  .exact⟨rfl,ae _,by simp⟩
 |frozen a k ih=>intro w es;exact ih _ _ _
 |getObj r k ih=>
  intro w es;simp only[Sem.runT];split
  .exact .refl w
  .exact ih _ _ _
  .exact .refl w
 |setObj r o k ih=>
  intro w es;simp only[Sem.runT];split
  .exact .refl w
  .exact bA.trans (b:={w with heap:=w.heap.setIfInBounds r o}) ⟨rfl,ae _,by simp⟩ (ih _ _)
  .exact .refl w
 |choose q k ih=>
  intro w es;simp only[Sem.runT];split
  .exact ih _ _ _
  .exact bA.trans (b:={w with drawn:=w.drawn+1}) ⟨rfl,Nat.le_succ _,ae _⟩ (ih _ _ _)
 |sys c k ih=>intro w es;exact(Vi w c).trans (ih _ _ _)
 |program k ih=>intro w es;exact ih _ _ _
 |mark m k ih=>intro w es;exact ih _ _
 |halt h=>intro w es;exact .refl w
theorem Ux{P:Program}{α : Type}(s:Sem α):∀(w:World)(es:Array Event)(e:Event),e∈es->e∈(s.runT P w es).2:=by
 induction s with
 |pure a=>intro w es e h;exact h
 |load m a k ih=>
  intro w es e h;simp only[Sem.runT];split
  .exact ih _ _ _ _ (Array.mem_push_of_mem _ h)
  .split
   .exact ih _ _ _ _ (Array.mem_append_left _ h)
   .exact h
 |store m a v k ih=>
  intro w es e h
  have:∀v:Value,e∈(match w.cell? a with
   |some _=>if w.frozen? a then((.halt (.unsupported (.unsafePointer "a write to bytes that a string shares")) w,es):Result α×Array Event) else k.runT P (w.setCell a v) (es.push ⟨.cell a,true,m==Mode.atomic⟩)
   |none=>match w.farStore P a v (m==Mode.atomic) with
    |.ok (w',od)=>k.runT P w' (es++od.toArray.map λa=>(⟨.cell a,true,m==Mode.atomic⟩:Event))
    |.error y=>(.halt y w,es)).2:=by
   intro v;split
   .split
    .exact h
    .exact ih _ _ _ (Array.mem_push_of_mem _ h)
   .split
    .exact ih _ _ _ (Array.mem_append_left _ h)
    .exact h
  cases v<;>first|exact h|exact this _
 |new o k ih=>intro w es e h;exact ih _ _ _ _ h
 |shape r k ih=>intro w es e h;exact ih _ _ _ _ h
 |freeze a n k ih=>intro w es e h;exact ih _ _ _ h
 |frozen a k ih=>intro w es e h;exact ih _ _ _ _ h
 |getObj r k ih=>
  intro w es e h;simp only[Sem.runT];split
  .exact h
  .exact ih _ _ _ _ (Array.mem_push_of_mem _ h)
  .exact h
 |setObj r o k ih=>
  intro w es e h;simp only[Sem.runT];split
  .exact h
  .exact ih _ _ _ (Array.mem_push_of_mem _ h)
  .exact h
 |choose q k ih=>intro w es e h;simp only[Sem.runT];split<;>exact ih _ _ _ _ h
 |sys c k ih=>intro w es e h;exact ih _ _ _ _ (Array.mem_push_of_mem _ h)
 |program k ih=>intro w es e h;exact ih _ _ _ _ h
 |mark m k ih=>intro w es e h;exact ih _ _ _ (Array.mem_push_of_mem _ h)
 |halt x=>intro w es e h;exact h
theorem kN.run{P:Program}{α : Type}(s:Sem α)(w:World){es:Array Event}(h:kN es):kN (s.runT P w es).2:=by obtain⟨e,he,hl⟩:=h;exact⟨e,Ux s w es e he,hl⟩
theorem kN.calm{es es':Array Event}(hc:gM es es')(h:kN es'):kN es:=by
 obtain⟨e,he,hl⟩:=h;rcases hc e he with h1|h1
 .exact⟨e,h1,hl⟩
 .exact absurd hl h1
theorem gM.refl(es:Array Event):gM es es:=λe he=>.inl he
theorem gM.push{es:Array Event}{e:Event}(h:e.loc≠.mark .noRoom):gM es (es.push e):=λx hx=>by
 rcases Array.mem_push.1 hx with h1|rfl
 .exact .inl h1
 .exact .inr h
theorem gM.trans{a b c:Array Event}(h:gM a b)(h':gM b c):gM a c:=λe he=>by
 rcases h' e he with h1|h1
 .exact h e h1
 .exact .inr h1
theorem eZ.over{P:Program}{S:Nat->Prop}{B:Nat}{α : Type}{v v' W:World}{es es':Array Event}{y:Halt}(s:Sem α)(hd:jJ y)(hc:gM es es'):eZ P S B v W es (.halt y v',es') (s.runT P W es):=
 .inl ⟨hd,λ_ h=>(h.calm hc).run s W⟩
theorem eZ.stay{v W:World}{es:Array Event}{a:α}(h:Rel P S B v W):eZ P S B v W es (.ok a v,es) (.ok a W,es):=λ_=>⟨W,rfl,.stay h⟩
theorem aA.pure(a:α):aA P S (Pure.pure a:Sem α):=λB v W es h=>.stay h
theorem aA.stuck(m:String):aA P S (Go.stuck m:Sem α):=λ_ _ _ _ _=>eZ.over (Go.stuck m) trivial (.refl _)
theorem aA.unsupported(u:Unsupported)(hu:∀x,u≠.initOrder x:=by intro x h;cases h):aA P S (Go.unsupported u:Sem α):=λ_ _ _ _ _=>eZ.over (Go.unsupported u) hu (.refl _)
theorem aA.goPanic(x:Value):aA P S (Go.goPanic x:Sem α):=λB v W es h=>.inr λ_=>⟨⟨x,rfl⟩,W,rfl,.stay h⟩
theorem eZ.bind{es:Array Event}{x:Sem α}{f:α->Sem β}{v W:World}(h:eZ P S B v W es (x.runT P v es) (x.runT P W es))
  (hf:∀a v' W' es',Rel P S B v' W'->eZ P S B v' W' es' ((f a).runT P v' es') ((f a).runT P W' es')) :
  eZ P S B v W es ((x.bind f).runT P v es) ((x.bind f).runT P W es):=by
 have eW:=Sem.runT_bind' P x f W es;rw[Sem.runT_bind' P x f v es];cases hr:x.runT P v es with
 |mk r es'=>
 rw[hr]at h;cases r with
 |halt hh v'=>
  rcases h with⟨hd,vp⟩|hW
  .refine .inl ⟨hd,λhb hn=>?_⟩
   have h1:=vp hb hn;rw[eW];cases hx:x.runT P W es with
   |mk r2 uz=>
   rw[hx]at h1;cases r2 with
   |ok a w2=>exact kN.run (f a) w2 h1
   |halt y w2=>exact h1
  .refine .inr λhb=>?_
   obtain⟨hp,W',e,g⟩:=hW hb;exact⟨hp,W',by rw[eW,e],g⟩
 |ok a v'=>
  have h2:=lB (P:=P) (f a) v' es';simp only;cases pz:(f a).runT P v' es' with
  |mk r2 uz=>
  rw[pz]at h2;cases r2 with
  |ok b v2=>intro hb;have nu:bA v' v2:=h2;obtain⟨W',e,g⟩:=h (ak nu.drawn hb);have ag:=hf a v' W' es' g.rel;rw[pz]at ag;obtain⟨W2,e2,g2⟩:=ag hb;exact⟨W2,by rw[eW,e];exact e2,g.trans nu g2⟩
  |halt y v2=>
   have nu:bA v' v2:=h2;by_cases we:jJ y
   .refine .inl ⟨we,λhb hn=>?_⟩
    obtain⟨W',e,g⟩:=h (ak nu.drawn hb);have ag:=hf a v' W' es' g.rel;rw[pz]at ag;rw[eW,e];simp only;rcases ag with⟨_,vp⟩|ag
    .exact vp hb hn
    .obtain⟨hp,W2,e2,g2⟩:=ag hb;rw[e2];exact hn
   .refine .inr λhb=>?_
    obtain⟨W',e,g⟩:=h (ak nu.drawn hb);have ag:=hf a v' W' es' g.rel;rw[pz]at ag;rcases ag with⟨hd,_⟩|ag
    .exact absurd hd we
    .obtain⟨hp,W2,e2,g2⟩:=ag hb;exact⟨hp,W2,by rw[eW,e];exact e2,g.trans nu g2⟩
theorem aA.bind{x:Sem α}{f:α->Sem β}(hx:aA P S x)(hf:∀a,aA P S (f a)):aA P S (x >>= f):=
 λB v W es h=>eZ.bind (hx B v W es h) λa v' W' es' h'=>hf a B v' W' es' h'
theorem aA.map{x:Sem α}{f:α->β}(hx:aA P S x):aA P S (Functor.map f x):=aA.bind hx λa=>aA.pure (f a)
theorem aA.ite{c:Prop}[Decidable c]{x y:Sem α}(hx:aA P S x)(hy:aA P S y):aA P S (if c then x else y):=by split<;>assumption
theorem aA.program:aA P S Go.program:=λB v W es h=>.stay h
theorem aA.choose(q:Question):aA P S (Go.choose q):=by
 intro B v W es h;simp only[Go.choose,Sem.runT];split
 .exact .stay h
 .intro hb;have e:=h.draws 0 q (by simp only at hb;omega);simp only[Nat.add_zero]at e;rw[e];refine⟨_,rfl,rfl,by simp only;omega,⟨λj q hj=>?_,h.os,h.output,h.size,h.seen,h.hid,h.tame,h.high⟩,.refl _ _,λ_ _=>rfl⟩;have:=h.draws (j+1) q (by simp only at hj;omega);simp only[Nat.add_assoc,Nat.add_comm 1 j];exact this
theorem aA.noRoom:aA P S (Go.mark .noRoom):=λB v W es h _=>⟨W,rfl,.list h (by simp[fI])⟩
theorem aA.askRoom(n:Nat):aA P S (Go.askRoom n):=by
 unfold Go.askRoom;split
 .exact aA.noRoom
 .exact aA.pure ()
theorem Rel.cell{v W:World}(h:Rel P S B v W){a:Addr}(hs:¬S a.block):W.cell? a=v.cell? a:=by simp[World.cell?,h.seen _ hs]
theorem Rel.cell_hid{v W:World}(h:Rel P S B v W){a:Addr}(hs:S a.block):v.cell? a=none:=by simp[World.cell?,h.hid _ hs,eR]
theorem sL{v:World}{a:Addr}{x:Value}(h:v.cell? a=some x):a.block<v.heap.size:=by
 unfold World.cell? at h;split at h
 .rename_i heq;exact(Array.getElem?_eq_some_iff.1 heq).1
 .cases h
theorem Rel.farLoad{v W:World}(h:Rel P S B v W)(a:Addr)(b:Bool):∃x,v.farLoad P a b=.error x∧jJ x:=by
 by_cases hs:S a.block
 .unfold World.farLoad;rw[h.hid _ hs];simp only[eR,World.viewLoad,World.seen,Option.isSome_some,Bool.or_true,if_true];exact⟨_,rfl,λx hx=>by cases hx⟩
 .unfold World.farLoad;split
  .rename_i heq;exact(h.tame _ hs _ heq).elim
  .refine⟨_,rfl,?_⟩;unfold World.noCell;split
   .rename_i heq;exact(h.tame _ hs _ heq).elim
   .exact λx hx=>by cases hx
   .trivial
theorem Rel.farStore{v W:World}(h:Rel P S B v W)(a:Addr)(x:Value)(b:Bool):∃y,v.farStore P a x b=.error y∧jJ y:=by
 by_cases hs:S a.block
 .unfold World.farStore;rw[h.hid _ hs];simp only[eR,World.viewStore];by_cases ht:tight P P.depth 0=true
  .simp only[ht,Bool.not_true,ay,if_false,World.seen,Option.isSome_some,Bool.or_true,if_true];exact⟨_,rfl,λx hx=>by cases hx⟩
  .simp only[ht,Bool.not_false,if_true];exact⟨_,rfl,λx hx=>by cases hx⟩
 .unfold World.farStore;split
  .rename_i heq;exact(h.tame _ hs _ heq).elim
  .refine⟨_,rfl,?_⟩;unfold World.noCell;split
   .rename_i heq;exact(h.tame _ hs _ heq).elim
   .exact λx hx=>by cases hx
   .trivial
theorem aA.load(a:Addr)(m:Mode):aA P S (Go.load a m):=by
 intro B v W es h;obtain⟨x,hx,hd⟩:=h.farLoad a (m == .atomic);by_cases hs:S a.block
 .have hc:=h.cell_hid (a:=a) hs;have e:(Go.load a m).runT P v es=(.halt x v,es):=by simp only[Go.load,Sem.runT,hc,hx]
  rw[e];exact eZ.over _ hd (.refl _)
 .cases hc:v.cell? a with
  |some y=>have GY:W.cell? a=some y:=(h.cell hs).trans hc;simp only[Go.load,Sem.runT,hc,GY];exact λ_=>⟨W,rfl,.list h ⟨hs,sL hc⟩⟩
  |none=>
   have e:(Go.load a m).runT P v es=(.halt x v,es):=by simp only[Go.load,Sem.runT,hc,hx]
   rw[e];exact eZ.over _ hd (.refl _)
theorem Rel.frozen{v W:World}(h:Rel P S B v W){a:Addr}(hs:¬S a.block):W.frozen? a=v.frozen? a:=by simp[World.frozen?,h.seen _ hs]
theorem Rel.shape{v W:World}(h:Rel P S B v W){r:Nat}(hs:¬S r):W.shape? r=v.shape? r:=by simp[World.shape?,h.seen _ hs]
theorem Rel.shape_hid{v W:World}(h:Rel P S B v W){r:Nat}(hs:S r):v.shape? r=none:=by simp[World.shape?,h.hid _ hs,eR]
theorem Rel.lt{v W:World}(h:Rel P S B v W){r:Nat}(hs:S r):r<v.heap.size:=(Array.getElem?_eq_some_iff.1 (h.hid _ hs)).1
theorem Rel.modify{v W:World}(h:Rel P S B v W){b:Nat}(hs:¬S b)(f:Obj->Obj)(hf:∀o,o.tame->(f o).tame):Rel P S B {v with heap:=v.heap.modify b f} {W with heap:=W.heap.modify b f}:=by
 have key:∀(A:Array Obj)(x:Nat),(A.modify b f)[x]?=if b=x then(A[x]?).map f else A[x]?:=by intro A x;rw[Array.getElem?_modify]
 refine⟨h.draws,h.os,h.output,by simp[h.size],λx hx=>?_,λx hx=>?_,λx hx o ho=>?_,h.high⟩
 .show(v.heap.modify b f)[x]?=(W.heap.modify b f)[x]?;rw[key,key,h.seen x hx]
 .show(v.heap.modify b f)[x]?=_;rw[key,ah (λe:b=x=>hs (e▸hx)),h.hid x hx]
 .have qa:(v.heap.modify b f)[x]?=some o:=ho;rw[key]at qa;split at qa
  .obtain⟨o',h1,rfl⟩:=Option.map_eq_some_iff.1 qa;exact hf o' (h.tame x hx o' h1)
  .exact h.tame x hx o qa
theorem Rel.setCell{v W:World}(h:Rel P S B v W){a:Addr}(hs:¬S a.block)(x:Value):Rel P S B (v.setCell a x) (W.setCell a x):=by unfold World.setCell;exact h.modify hs _ (λo ho=>by cases o<;>simp_all[Obj.tame])
theorem Kg(v:World)(a:Addr)(x:Value):(v.setCell a x).heap.size=v.heap.size:=by simp[World.setCell]
theorem Rel.push{v W:World}(h:Rel P S B v W){o:Obj}(ho:o.tame):Rel P S B {v with heap:=v.heap.push o} {W with heap:=W.heap.push o}:=by
 refine⟨h.draws,h.os,h.output,by simp[h.size],λx hx=>?_,λx hx=>?_,λx hx o' qa=>?_,h.high⟩
 .show(v.heap.push o)[x]?=(W.heap.push o)[x]?;rw[Array.getElem?_push,Array.getElem?_push,h.size,h.seen x hx]
 .show(v.heap.push o)[x]?=_;rw[Array.getElem?_push,ah (by have:=h.lt hx;omega),h.hid x hx]
 .have EY:(v.heap.push o)[x]?=some o':=qa;rw[Array.getElem?_push]at EY;split at EY
  .cases EY;exact ho
  .exact h.tame x hx o' EY
theorem Rel.new{v W:World}(h:Rel P S B v W):¬S v.heap.size:=λhs=>by have:=h.lt hs;omega
theorem aA.store(a:Addr)(x:Value)(m:Mode):aA P S (Go.store a x m):=by
 intro B v W es h;by_cases I8:(∃c,x=.agg c)∨(∃c,x=.tuple c)
 .rcases I8 with⟨c,rfl⟩|⟨c,rfl⟩<;>exact .inl ⟨trivial,λ_ h=>h⟩
 have e:∀w:World,(Go.store a x m).runT P w es=match w.cell? a with
   |some _=>if w.frozen? a then(.halt (.unsupported (.unsafePointer "a write to bytes that a string shares")) w,es) else(.ok () (w.setCell a x),es.push ⟨.cell a,true,m == .atomic⟩)
   |none=>match w.farStore P a x (m == .atomic) with
    |.ok (w',od)=>(.ok () w',es++od.toArray.map (⟨.cell ·,true,m == .atomic⟩))
    |.error y=>(.halt y w,es):=by
  intro w;cases x<;>first|rfl|(exfalso;exact I8 (by simp))
 obtain⟨y,hy,hd⟩:=h.farStore a x (m == .atomic);by_cases hs:S a.block
 .have hc:=h.cell_hid (a:=a) hs;have e1:(Go.store a x m).runT P v es=(.halt y v,es):=by rw[e];simp only[hc,hy]
  rw[e1];exact eZ.over _ hd (.refl _)
 .cases hc:v.cell? a with
  |some z=>
   by_cases hf:v.frozen? a=true
   .have e1:(Go.store a x m).runT P v es=(.halt (.unsupported (.unsafePointer "a write to bytes that a string shares")) v,es):=by rw[e];simp only[hc,hf,if_true]
    rw[e1];exact eZ.over _ (λx hx=>by cases hx) (.refl _)
   .have GY:W.cell? a=some z:=(h.cell hs).trans hc;have hfW:W.frozen? a=v.frozen? a:=h.frozen hs;rw[e,e];simp only[hc,GY,hfW,hf,ay,if_false];exact λ_=>⟨_,rfl,rfl,rfl,h.setCell hs x,.push ⟨hs,by rw[Kg];exact sL hc⟩,λb hb=>by simp only[World.setCell];rw[Array.getElem?_modify,ah (λe:a.block=b=>hs (e▸hb))]⟩
  |none=>
   have e1:(Go.store a x m).runT P v es=(.halt y v,es):=by rw[e];simp only[hc,hy]
   rw[e1];exact eZ.over _ hd (.refl _)
theorem aA.newObj{o:Obj}(ho:o.tame):aA P S (Go.newObj o):=by
 intro B v W es h;intro _;refine⟨{W with heap:=W.heap.push o},?_,rfl,rfl,h.push ho,.refl _ _,λb hb=>by show(W.heap.push o)[b]?=_;rw[Array.getElem?_push,ah (by have:=h.lt hb;have:=h.size;omega)]⟩
 simp only[Go.newObj,Sem.runT,h.size]
theorem aA.shape{r:Nat}(hs:¬S r):aA P S (Go.shape r):=by intro B v W es h;simp only[Go.shape,Sem.runT,h.shape hs];exact .stay h
theorem aA.frozen{a:Addr}(hs:¬S a.block):aA P S (Go.frozen a):=by intro B v W es h;simp only[Go.frozen,Sem.runT,h.frozen hs];exact .stay h
theorem aA.getObj{r:Nat}(hs:¬S r):aA P S (Go.getObj r):=by
 intro B v W es h;simp only[Go.getObj,Sem.runT,<-h.seen r hs];split
 .exact .inl ⟨trivial,λ_ h=>h⟩
 .rename_i o _ heq;exact λ_=>⟨W,rfl,.list h ⟨hs,(Array.getElem?_eq_some_iff.1 heq).1⟩⟩
 .exact .inl ⟨trivial,λ_ h=>h⟩
theorem aA.setObj{r:Nat}{o:Obj}(hs:¬S r)(ho:o.tame):aA P S (Go.setObj r o):=by
 intro B v W es h;simp only[Go.setObj,Sem.runT,<-h.seen r hs];split
 .exact .inl ⟨trivial,λ_ h=>h⟩
 .rename_i o' _ heq;have dp:=(Array.getElem?_eq_some_iff.1 heq).1;refine λ_=>⟨_,rfl,rfl,rfl,?_,.push ⟨hs,by simpa using dp⟩,λb hb=>ax (λe:r=b=>hs (e▸hb))⟩
  have:=h.modify hs (λ_=>o) (λ_ _=>ho);have e:∀A:Array Obj,A.setIfInBounds r o=A.modify r (λ_=>o):=λA=>by
   apply au;intro i;rw[Array.getElem?_modify,aj];by_cases hi:r=i
   .subst hi;by_cases hl:r<A.size
    .simp[hl]
    .simp[hl,af (Nat.le_of_not_lt hl)]
   .simp[hi]
  rw[e,e];exact this
 .exact .inl ⟨trivial,λ_ h=>h⟩
theorem aA.typeInfo(t:TypeId):aA P S (Go.typeInfo t):=by unfold Go.typeInfo;refine aA.bind aA.program λp=>?_;split<;>first|exact aA.pure _|exact aA.stuck _
theorem aA.underlying(t:TypeId):aA P S (Go.underlying t):=by unfold Go.underlying;refine aA.bind aA.program λp=>?_;split<;>first|exact aA.pure _|exact aA.stuck _
theorem aA.zeroValue(t:TypeId):aA P S (Go.zeroValue t):=by unfold Go.zeroValue;refine aA.bind (aA.typeInfo t) λp=>?_;split<;>first|exact aA.pure _|exact aA.unsupported _
theorem aA.sizeOf(t:TypeId):aA P S (Go.sizeOf t):=aA.bind (aA.typeInfo t) λ_=>aA.pure _
theorem aA.isAgg(t:TypeId):aA P S (Go.isAgg t):=by unfold Go.isAgg;refine aA.bind (aA.underlying t) λp=>?_;split<;>exact aA.pure _
theorem aA.loadCellsFrom(a:Addr):∀(n i:Nat)(acc:Array Value),aA P S (Go.loadCellsFrom a i n acc)
 |0,_,_=>aA.pure _
 |n+1,i,acc=>aA.bind (aA.load _ _) λ_=>aA.loadCellsFrom a n _ _
theorem aA.loadCells(a:Addr)(n:Nat):aA P S (Go.loadCells a n):=aA.loadCellsFrom a n 0 #[]
theorem aA.storeCells(a:Addr):∀(vs:List Value)(i:Nat),aA P S (Go.storeCells a vs i)
 |[],_=>aA.pure _
 |v::rest,i=>aA.bind (aA.store _ _ _) λ_=>aA.storeCells a rest _
theorem aA.loadVar(t:TypeId)(a:Addr):aA P S (Go.loadVar t a):=by
 unfold Go.loadVar;refine aA.bind (aA.isAgg t) λb=>?_;split
 .exact aA.bind (aA.sizeOf t) λ_=>aA.bind (aA.loadCells _ _) λ_=>aA.pure _
 .exact aA.load _ _
theorem aA.storeVar(t:TypeId)(a:Addr)(v:Value):aA P S (Go.storeVar t a v):=by
 unfold Go.storeVar;refine aA.bind (aA.sizeOf t) λb=>?_;split
 .exact aA.bind (aA.stuck _) λ_=>aA.storeCells _ _ _
 .exact aA.storeCells _ _ _
theorem aA.newRow(t:TypeId)(c:Array Value):aA P S (Go.newRow t c):=aA.bind (aA.newObj trivial) λ_=>aA.pure _
theorem aA.newVar(t:TypeId)(c:Value):aA P S (Go.newVar t c):=aA.newRow _ _
theorem aA.elemOf(t:TypeId):aA P S (Go.elemOf t):=by unfold Go.elemOf;refine aA.bind (aA.underlying t) λp=>?_;split<;>first|exact aA.pure _|exact aA.stuck _
theorem aA.part(t:TypeId)(cs:Array Value)(off:Nat):aA P S (Go.part t cs off):=by
 unfold Go.part;refine aA.bind (aA.isAgg t) λb=>?_;split
 .exact aA.bind (aA.sizeOf t) λ_=>aA.pure _
 .split<;>first|exact aA.pure _|exact aA.stuck _
theorem aA.runtimePanic(e:RuntimeError):aA P S (Go.runtimePanic e:Sem α):=by
 unfold Go.runtimePanic;refine aA.bind aA.program λp=>?_;simp only;split
 all_goals first
  |exact aA.goPanic _
  |exact aA.bind (aA.elemOf _) λ_=>aA.bind (aA.newVar _ _) λ_=>aA.goPanic _
theorem aA.boundsPanic(k:IntKind)(x y:Int)(c:BoundsCode):aA P S (Go.boundsPanic k x y c:Sem α):=by
 unfold Go.boundsPanic;simp only;split
 .exact aA.bind (aA.map (aA.choose _)) λ_=>aA.runtimePanic _
 .exact aA.bind (aA.pure _) λ_=>aA.runtimePanic _
theorem aA.asIntOf(v:Value):aA P S (Go.asIntOf v):=by unfold Go.asIntOf;split<;>first|exact aA.pure _|exact aA.stuck _|exact aA.unsupported _
theorem aA.asInt(v:Value):aA P S (Go.asInt v):=aA.bind (aA.asIntOf v) λ_=>aA.pure _
theorem aA.asBool(v:Value):aA P S (Go.asBool v):=by unfold Go.asBool;split<;>first|exact aA.pure _|exact aA.stuck _
theorem aA.asAgg(v:Value):aA P S (Go.asAgg v):=by unfold Go.asAgg;split<;>first|exact aA.pure _|exact aA.stuck _
theorem aA.asAddr(v:Value):aA P S (Go.asAddr v):=by unfold Go.asAddr;split<;>first|exact aA.pure _|exact aA.stuck _|exact aA.runtimePanic _
theorem aA.halts{s:Sem α}(hs:aA P S s){v W v1:World}{es fw:Array Event}{y:Halt}(h:Rel P S B v W)(e:s.runT P v es=(.halt y v1,fw)):jJ y∨∃x,y=.panic x:=by
 have:=hs v1.drawn v {W with tape:=v.tape,drawn:=v.drawn} es ⟨λ_ _ _=>rfl,h.os,h.output,h.size,h.seen,h.hid,h.tame,h.high⟩
 rw[e]at this;rcases this with⟨hd,_⟩|hx
 .exact .inl hd
 .exact .inr (hx (ae _)).1
end
section
variable {P:Program}{S:Nat->Prop}{B:Nat}{α β : Type}
theorem aA.mapL{f:α->Sem β}(hf:∀a,aA P S (f a)):∀l:List α,aA P S (l.mapM f)
 |[]=>by simpa using aA.pure (P:=P) (S:=S) ([]:List β)
 |x::l=>by rw[List.mapM_cons];exact aA.bind (hf x) λ_=>aA.bind (aA.mapL hf l) λ_=>aA.pure _
theorem aA.mapA{f:α->Sem β}(hf:∀a,aA P S (f a))(xs:Array α):aA P S (xs.mapM f):=by rw[Array.mapM_eq_mapM_toList];exact aA.map (aA.mapL hf _)
theorem aA.forInL{σ : Type}{f:α->σ->Sem (ForInStep σ)}(hf:∀a s,aA P S (f a s)):∀(l:List α)(s:σ),aA P S (forIn l s f)
 |[],s=>by simpa using aA.pure (P:=P) (S:=S) s
 |x::l,s=>by
  rw[List.forIn_cons];refine aA.bind (hf x s) λr=>?_
  cases r with
  |done b=>exact aA.pure b
  |yield b=>exact aA.forInL hf l b
theorem aA.forInA{σ : Type}{f:α->σ->Sem (ForInStep σ)}(hf:∀a s,aA P S (f a s))(xs:Array α)(s:σ):aA P S (forIn xs s f):=by rw[<-Array.forIn_toList];exact aA.forInL hf _ _
theorem aA.foldL{σ : Type}{f:σ->α->Sem σ}(hf:∀s a,aA P S (f s a)):∀(l:List α)(s:σ),aA P S (l.foldlM f s)
 |[],s=>by simpa using aA.pure (P:=P) (S:=S) s
 |x::l,s=>by rw[List.foldlM_cons];exact aA.bind (hf s x) λr=>aA.foldL hf l r
theorem aA.alloc(t:TypeId):aA P S (Instr.alloc t true (.tuple #[])):=
 aA.bind (aA.zeroValue t) λ_=>aA.bind (aA.newVar _ _) λ_=>aA.pure _
theorem aA.box(t:TypeId)(x:Value):aA P S (Instr.box t x):=aA.bind (aA.newVar _ _) λ_=>aA.pure _
theorem aA.build(t:TypeId)(ps:Array (Nat×Value)):aA P S (Instr.build t ps):=by
 unfold Instr.build;refine aA.bind (aA.zeroValue t) λz=>aA.bind (aA.underlying t) λd=>?_;split
 .refine aA.bind (aA.mapA (λf=>aA.bind (aA.sizeOf _) λ_=>aA.pure _) _) λ_=>?_;split<;>first|exact aA.pure _|exact aA.stuck _
 .refine aA.bind (aA.sizeOf _) λ_=>?_;split<;>first|exact aA.pure _|exact aA.stuck _
 .exact aA.stuck _
theorem aA.buildSlice(t:TypeId)(n:Nat)(ps:Array (Nat×Value)):aA P S (Instr.buildSlice t n ps):=by
 unfold Instr.buildSlice;refine aA.bind (aA.underlying t) λd=>?_;split
 .refine aA.bind (aA.sizeOf _) λz=>?_;simp only;split
  .exact aA.bind (aA.unsupported _) λ_=>by
    split
    .refine aA.bind (aA.pure _) λ_=>?_;split
     .exact aA.bind (aA.newRow _ _) λ_=>aA.pure _
     .exact aA.stuck _
    .refine aA.bind (aA.zeroValue _) λ_=>aA.bind (aA.pure _) λ_=>?_;split
     .exact aA.bind (aA.newRow _ _) λ_=>aA.pure _
     .exact aA.stuck _
  .split
   .refine aA.bind (aA.pure _) λ_=>?_;split
    .exact aA.bind (aA.newRow _ _) λ_=>aA.pure _
    .exact aA.stuck _
   .refine aA.bind (aA.zeroValue _) λ_=>aA.bind (aA.pure _) λ_=>?_;split
    .exact aA.bind (aA.newRow _ _) λ_=>aA.pure _
    .exact aA.stuck _
 .exact aA.stuck _
theorem aA.sureAddr(x:Value):aA P S (Instr.sureAddr x):=by unfold Instr.sureAddr;split<;>first|exact aA.pure _|exact aA.stuck _
theorem aA.loadAt(t:TypeId)(x:Value):aA P S (Instr.loadAt t x):=aA.bind (aA.sureAddr x) λ_=>aA.loadVar _ _
theorem aA.storeAt(t:TypeId)(x y:Value):aA P S (Instr.storeAt t x y):=aA.bind (aA.sureAddr x) λ_=>aA.storeVar _ _ _
def aK(P:Program){α : Type}(s:Sem α)(v:World)(es:Array Event):Prop:=∃y v' es',s.runT P v es=(.halt y v',es')∧jJ y∧gM es es'
theorem aA.of_dead{s:Sem α}(h:∀{B:Nat} v W es,Rel P S B v W->aK P s v es):aA P S s:=by intro B v W es hR;obtain⟨x,v',es',e,hd,hc⟩:=h v W es hR;rw[e];exact eZ.over s hd hc
theorem Em{x:Sem α}{f:α->Sem β}{v:World}{es:Array Event}(h:aK P x v es):aK P (x >>= f) v es:=by obtain⟨y,v',es',e,hd,hc⟩:=h;exact⟨y,v',es',by show(x.bind f).runT P v es=_;rw[Sem.runT_bind',e],hd,hc⟩
theorem Bu{v W:World}(h:Rel P S B v W){r:Nat}(hs:S r)(es:Array Event):(Go.viewAt r).runT P v es=(.ok (some (⟨0,0,some 0⟩,0)) v,es.push ⟨.obj r,false,false⟩):=by have e1:=h.shape_hid hs;have e2:=h.hid r hs;show((Go.shape r).bind _).runT P v es=_;rw[Sem.runT_bind'];simp only[Go.shape,Sem.runT,e1,Option.isSome_none,ay,if_false];show((Go.getObj r).bind _).runT P v es=_;rw[Sem.runT_bind'];simp only[Go.getObj,Sem.runT,e2,eR,Obj.isChan];rfl
theorem aA.viewAt{r:Nat}(hs:¬S r):aA P S (Go.viewAt r):=by
 unfold Go.viewAt;refine aA.bind (aA.shape hs) λ_=>?_;split
 .exact aA.pure _
 .refine aA.bind (aA.getObj hs) λ_=>?_;split<;>exact aA.pure _
theorem aA.numberAt{r:Nat}(hs:¬S r):aA P S (Go.numberAt r):=by
 unfold Go.numberAt;refine aA.bind (aA.shape hs) λ_=>?_;split
 .exact aA.pure _
 .refine aA.bind (aA.getObj hs) λ_=>?_;split<;>exact aA.pure _
theorem Ap{v W:World}(h:Rel P S B v W){r:Nat}(hs:S r)(es:Array Event):(Go.numberAt r).runT P v es=(.ok none v,es.push ⟨.obj r,false,false⟩):=by have e1:=h.shape_hid hs;have e2:=h.hid r hs;show((Go.shape r).bind _).runT P v es=_;rw[Sem.runT_bind'];simp only[Go.shape,Sem.runT,e1,Option.isSome_none,ay,if_false];show((Go.getObj r).bind _).runT P v es=_;rw[Sem.runT_bind'];simp only[Go.getObj,Sem.runT,e2,eR,Obj.isChan];rfl
theorem sK{v W:World}(h:Rel P S B v W){a:Addr}(hs:S a.block)(es:Array Event):aK P (Go.noView a) v es:=by refine⟨.unsupported (.unsafePointer "memory seen as another type"),v,es.push ⟨.obj a.block,false,false⟩,?_,(λx hx=>by cases hx),.push (by simp)⟩;show((Go.viewAt a.block).bind _).runT P v es=_;rw[Sem.runT_bind',Bu h hs];simp only[Option.isSome_some,if_true];rfl
theorem aA.noView(a:Addr):aA P S (Go.noView a):=by
 by_cases hs:S a.block
 .exact aA.of_dead λv W es h=>sK h hs es
 .unfold Go.noView;refine aA.bind (aA.viewAt hs) λ_=>?_;split
  .exact aA.unsupported _
  .exact aA.pure _
theorem aA.byteOf(a:Addr):aA P S (Go.byteOf a):=by
 unfold Go.byteOf;split
 .exact aA.pure _
 .refine aA.bind aA.program λp=>?_;by_cases hs:S a.block
  .exact aA.of_dead λv W es h=>Em (sK h hs es)
  .refine aA.bind (aA.noView a) λ_=>aA.bind (aA.shape hs) λ_=>?_;split
   .simp only;split
    .exact aA.pure _
    .split
     .exact aA.pure _
     .exact aA.stuck _
   .exact aA.stuck _
theorem aA.partAt(a:Addr)(c b:Nat):aA P S (Go.partAt a c b):=by unfold Go.partAt;exact aA.bind (aA.byteOf _) λ_=>aA.bind (aA.byteOf _) λ_=>aA.pure _
theorem aA.fieldPlace(a:Addr)(f:Field):aA P S (Go.fieldPlace a f):=by
 unfold Go.fieldPlace;refine aA.bind (aA.sizeOf _) λ_=>?_;split
 .exact aA.partAt _ _ _
 .exact aA.pure _
theorem aA.fieldAt(t:TypeId)(x:Value)(n:Nat):aA P S (Instr.fieldAt t x n):=by
 unfold Instr.fieldAt;refine aA.bind (aA.underlying t) λ_=>?_;split
 .split
  .exact aA.bind (aA.sureAddr _) λ_=>aA.bind (aA.fieldPlace _ _) λ_=>aA.pure _
  .exact aA.stuck _
 .exact aA.stuck _
theorem aA.indexAt(t:TypeId)(x i:Value):aA P S (Instr.indexAt t x i):=by
 unfold Instr.indexAt;refine aA.bind (aA.asIntOf i) λki=>?_;obtain⟨k,n⟩:=ki;refine aA.bind (aA.underlying t) λd=>?_;simp only;split
 .refine aA.bind (aA.sureAddr _) λ_=>aA.bind (aA.pure _) λq=>?_;obtain⟨b,len,elem⟩:=q;refine aA.bind (aA.underlying t) λd=>?_;simp only;split
  .split
   .exact aA.bind (aA.sizeOf _) λ_=>aA.pure _
   .refine aA.ite (aA.unsupported _) (aA.boundsPanic _ _ _ _)
  .exact aA.boundsPanic _ _ _ _
 .refine aA.bind (aA.pure _) λq=>?_;obtain⟨b,len,elem⟩:=q;refine aA.bind (aA.underlying t) λd=>?_;simp only;split
  .split
   .exact aA.bind (aA.sizeOf _) λ_=>aA.pure _
   .refine aA.ite (aA.unsupported _) (aA.boundsPanic _ _ _ _)
  .exact aA.boundsPanic _ _ _ _
 .refine aA.bind (aA.stuck _) λq=>?_;obtain⟨b,len,elem⟩:=q;refine aA.bind (aA.underlying t) λd=>?_;simp only;split
  .split
   .exact aA.bind (aA.sizeOf _) λ_=>aA.pure _
   .refine aA.ite (aA.unsupported _) (aA.boundsPanic _ _ _ _)
  .exact aA.boundsPanic _ _ _ _
theorem aA.sliceBound(x:Value)(y:Nat)(c:BoundsCode):aA P S (Instr.sliceBound x y c):=by unfold Instr.sliceBound;refine aA.bind (aA.asIntOf x) λq=>?_;obtain⟨k,i⟩:=q;exact aA.ite (aA.pure _) (aA.boundsPanic _ _ _ _)
theorem aA.sliceBounds(b:Bool)(len cap:Nat)(low high max:Option Value):aA P S (Instr.sliceBounds b len cap low high max):=by
 unfold Instr.sliceBounds;rcases max with _|mx<;>rcases high with _|hi<;>rcases low with _|lo<;>simp only;all_goals repeat' first
  |exact aA.pure _
  |refine aA.bind (aA.sliceBound _ _ _) λ_=>?_
  |refine aA.bind (aA.stuck _) λ_=>?_
  |refine aA.bind (aA.pure _) λ_=>?_
theorem aA.slice(t:TypeId)(x:Value)(low high max:Option Value):aA P S (Instr.slice t x low high max):=by
 unfold Instr.slice;refine aA.bind (aA.underlying t) λd=>?_;split
 .simp only;split
  .exact aA.bind (aA.stuck _) λ_=>aA.bind (aA.sliceBounds _ _ _ _ _ _) λq=>by obtain⟨l,h,m⟩:=q;exact aA.pure _
  .exact aA.bind (aA.sliceBounds _ _ _ _ _ _) λq=>by obtain⟨l,h,m⟩:=q;exact aA.pure _
 .exact aA.bind (aA.sliceBounds _ _ _ _ _ _) λq=>by obtain⟨l,h,m⟩:=q;exact aA.bind (aA.sizeOf _) λ_=>aA.pure _
 .refine aA.bind (aA.asAddr _) λa=>aA.bind (aA.underlying _) λd=>?_;split
  .exact aA.bind (aA.sliceBounds _ _ _ _ _ _) λq=>by obtain⟨l,h,m⟩:=q;exact aA.bind (aA.sizeOf _) λ_=>aA.pure _
  .exact aA.stuck _
 .exact aA.stuck _
theorem aA.sliceAt(t:TypeId)(x:Value)(low high max:Option Value):aA P S (Instr.sliceAt t x low high max):=by
 unfold Instr.sliceAt;refine aA.bind (aA.underlying t) λd=>?_;split
 .exact aA.bind (aA.sureAddr _) λ_=>aA.bind (aA.sliceBounds _ _ _ _ _ _) λq=>by obtain⟨l,h,m⟩:=q;exact aA.bind (aA.sizeOf _) λ_=>aA.pure _
 .exact aA.slice _ _ _ _ _
theorem aA.makeSlice(t:TypeId)(l c:Value):aA P S (Instr.makeSlice t l c):=by
 unfold Instr.makeSlice;refine aA.bind (aA.underlying t) λd=>?_;split
 .refine aA.bind (aA.asInt _) λlen=>aA.bind (aA.asInt _) λcap=>aA.bind (aA.typeInfo _) λi=>?_;simp only
  have fin:∀(elem:TypeId)(n m:Nat),aA P S (do
    let q <-Go.sizeOf elem;if n*q=0 then do
     let zero <-Pure.pure #[];let a <-Go.newRow elem (Array.map (λx=>zero[x%zero.size]!) (Array.range (n*q)));Pure.pure (Value.slice (some a) m n)
    else do
     let z <-Go.zeroValue elem;let zero <-Pure.pure z.cells;let a <-Go.newRow elem (Array.map (λx=>zero[x%zero.size]!) (Array.range (n*q)))
     Pure.pure (Value.slice (some a) m n)):=λelem n m=>by
   refine aA.bind (aA.sizeOf _) λq=>?_;split
   .exact aA.bind (aA.pure _) λ_=>aA.bind (aA.newRow _ _) λ_=>aA.pure _
   .exact aA.bind (aA.zeroValue _) λ_=>aA.bind (aA.pure _) λ_=>aA.bind (aA.newRow _ _) λ_=>aA.pure _
  split
  .split
   .exact aA.bind (aA.runtimePanic _) λ_=>aA.bind (aA.askRoom _) λ_=>fin _ _ _
   .split
    .exact aA.bind (aA.runtimePanic _) λ_=>aA.bind (aA.askRoom _) λ_=>fin _ _ _
    .exact aA.bind (aA.choose _) λ_=>aA.bind (aA.runtimePanic _) λ_=>aA.bind (aA.askRoom _) λ_=>fin _ _ _
  .exact aA.bind (aA.askRoom _) λ_=>fin _ _ _
 .exact aA.stuck _
theorem aA.extract(x:Value)(i:Nat):aA P S (Instr.extract x i):=by
 unfold Instr.extract;split
 .split<;>first|exact aA.pure _|exact aA.stuck _
 .exact aA.stuck _
theorem aA.index(t:TypeId)(x i:Value):aA P S (Instr.index t x i):=by
 unfold Instr.index;refine aA.bind (aA.asIntOf i) λq=>?_;obtain⟨k,n⟩:=q;refine aA.bind (aA.underlying t) λd=>?_;split
 .split
  .exact aA.bind (aA.sizeOf _) λ_=>aA.part _ _ _
  .exact aA.boundsPanic _ _ _ _
 .split
  .exact aA.pure _
  .exact aA.boundsPanic _ _ _ _
 .exact aA.stuck _
theorem aA.field(t:TypeId)(x:Value)(n:Nat):aA P S (Instr.field t x n):=by
 unfold Instr.field;refine aA.bind (aA.underlying t) λd=>?_;split
 .split
  .exact aA.bind (aA.asAgg _) λ_=>aA.part _ _ _
  .exact aA.stuck _
 .exact aA.stuck _
theorem aA.unary(op:UnOp)(x:Value):aA P S (Op.unary op x):=by unfold Op.unary;split<;>first|exact aA.pure _|exact aA.stuck _|exact aA.unsupported _
theorem aA.stringOp(op:BinOp)(x y:ByteArray):aA P S (Op.stringOp op x y):=by unfold Op.stringOp;simp only;split<;>first|exact aA.pure _|exact aA.stuck _|exact aA.ite (aA.unsupported _) (aA.pure _)
theorem aA.shift(op:BinOp)(k:IntKind)(x:Int)(k':IntKind)(y:Int):aA P S (Op.shift op k x k' y):=by
 unfold Op.shift;split
 .exact aA.runtimePanic _
 .simp only;split<;>first|exact aA.pure _|exact aA.stuck _
theorem aA.intArith(op:BinOp)(k:IntKind)(x y:Int):aA P S (Op.intArith op k x y):=by unfold Op.intArith;split<;>first|exact aA.pure _|exact aA.stuck _
theorem aA.intDiv(op:BinOp)(k:IntKind)(x y:Int):aA P S (Op.intDiv op k x y):=by
 unfold Op.intDiv;split
 .exact aA.runtimePanic _
 .split<;>first|exact aA.pure _|exact aA.stuck _
theorem aA.intBits(op:BinOp)(k:IntKind)(x y:Int):aA P S (Op.intBits op k x y):=by unfold Op.intBits;simp only;split<;>first|exact aA.pure _|exact aA.stuck _
theorem aA.intCmp(op:BinOp)(x y:Int):aA P S (Op.intCmp op x y):=by unfold Op.intCmp;split<;>first|exact aA.pure _|exact aA.stuck _
theorem aA.floatArith(op:BinOp)(k:FloatKind)(x y:Nat):aA P S (Op.floatArith op k x y):=by
 unfold Op.floatArith;have h2:∀r:Option Nat,aA P S (match r with|some r=>Pure.pure (Value.float k r)|none=>do let q <-Go.choose (.nanBits k x y);Pure.pure (Value.float k q)):=λr=>by
  split
  .exact aA.pure _
  .exact aA.bind (aA.choose _) λ_=>aA.pure _
 simp only;split<;>first|exact aA.bind (aA.pure _) λr=>h2 r|exact aA.bind (aA.stuck _) λr=>h2 r
theorem aA.floatCmp(op:BinOp)(k:FloatKind)(x y:Nat):aA P S (Op.floatCmp op k x y):=by unfold Op.floatCmp;simp only;split<;>first|exact aA.pure _|exact aA.stuck _
end
def eP(P:Program){α : Type}(s:Sem α):Prop:=∀v es,aK P s v es∨∃a,s.runT P v es=(.ok a v,es)
section
variable {P:Program}{S:Nat->Prop}{B:Nat}{α β : Type}
theorem aK.stuck(m:String)(v:World)(es:Array Event):aK P (Go.stuck m:Sem α) v es:=⟨_,_,_,rfl,trivial,.refl _⟩
theorem aK.unsupported(u:Unsupported)(v:World)(es:Array Event)(hu:∀x,u≠.initOrder x:=by intro x h;cases h):aK P (Go.unsupported u:Sem α) v es:=⟨_,_,_,rfl,hu,.refl _⟩
theorem aK.first{x:Sem α}{f:α->Sem β}{v:World}{es:Array Event}(h:aK P x v es):aK P (x >>= f) v es:=Em h
theorem aK.later{x:Sem α}{f:α->Sem β}{v v':World}{es es':Array Event}{a:α}(e:x.runT P v es=(.ok a v',es'))(h:aK P (f a) v' es')(hc:gM es es':=by first|exact gM.refl _|exact gM.push (by simp)):aK P (x >>= f) v es:=by obtain⟨y,v2,uz,e2,hd,MS⟩:=h;exact⟨y,v2,uz,by show(x.bind f).runT P v es=_;rw[Sem.runT_bind',e];exact e2,hd,hc.trans MS⟩
theorem aK.cool{x:Sem α}{f:α->Sem β}{v:World}{es:Array Event}(hx:eP P x)(h:∀a,aK P (f a) v es):aK P (x >>= f) v es:=by
 rcases hx v es with hd|⟨a,e⟩
 .exact hd.first
 .exact .later e (h a)
theorem aA.ofDead{s:Sem α}(h:∀{B:Nat} v W es,Rel P S B v W->aK P s v es):aA P S s:=aA.of_dead h
theorem eP.pure(a:α):eP P (Pure.pure a:Sem α):=λv es=>.inr ⟨a,rfl⟩
theorem eP.stuck(m:String):eP P (Go.stuck m:Sem α):=λv es=>.inl (.stuck m v es)
theorem eP.unsupported(u:Unsupported)(hu:∀x,u≠.initOrder x:=by intro x h;cases h):eP P (Go.unsupported u:Sem α):=λv es=>.inl (.unsupported u v es hu)
theorem eP.bind{x:Sem α}{f:α->Sem β}(hx:eP P x)(hf:∀a,eP P (f a)):eP P (x >>= f):=by
 intro v es;rcases hx v es with hd|⟨a,e⟩
 .exact .inl hd.first
 .rcases hf a v es with hd|⟨b,e2⟩
  .exact .inl (.later e hd)
  .exact .inr ⟨b,by show(x.bind f).runT P v es=_;rw[Sem.runT_bind',e];exact e2⟩
theorem eP.asIntOf(v:Value):eP P (Go.asIntOf v):=by unfold Go.asIntOf;split<;>first|exact eP.pure _|exact eP.stuck _|exact eP.unsupported _
theorem eP.asInt(v:Value):eP P (Go.asInt v):=eP.bind (eP.asIntOf v) λ_=>eP.pure _
theorem sV{v W:World}(h:Rel P S B v W){a:Addr}(hs:S a.block)(es:Array Event):(Go.behindNumber a).runT P v es=(.ok (a,false) v,es.push ⟨.obj a.block,false,false⟩):=by show((Go.numberAt a.block).bind _).runT P v es=_;rw[Sem.runT_bind',Ap h hs];rfl
theorem aA.behind{a:Addr}(hs:¬S a.block):aA P S (Go.behindNumber a):=aA.bind (aA.numberAt hs) λ_=>aA.pure _
def yW(m1 m2:String)(a:Addr)(y:Value):Sem Value:=do
 let n <-Go.asInt y
 if n=0 then
  if (<-Go.viewAt a.block).isSome then Go.unsupported (.unsafePointer m1)
  return .pointer (some a)
 if n<0 then Go.unsupported (.unsafePointer m2)
 let some (e,cells) <-Go.shape a.block|Go.unsupported (.unsafePointer "Add")
 let p <-Go.program
 match cellAtBytes p p.depth e (cells/p.cellsOf e) a.off n with
 |some off=>Pure.pure (.pointer (some {a with off}))
 |none=>Go.unsupported (.unsafePointer "Add")
theorem If(a:Addr)(t:TypeId)(y:Value):∃m1 m2,Builtin.unsafeAdd_ #[] t #[.pointer (some a),y]=yW m1 m2 a y:=⟨_,_,rfl⟩
theorem Wf(t:TypeId)(y:Value):∃m1 m2,Builtin.unsafeAdd_ #[] t #[.pointer none,y]=(do
 let n <-Go.asInt y
 if n=0 then Go.unsupported (.unsafePointer m1) else
 if n<0 then Go.unsupported (.unsafePointer m2)
 Go.unsupported (.unsafePointer "Add")):=⟨_,_,rfl⟩
theorem yV{v W:World}(h:Rel P S B v W){a:Addr}(hs:S a.block)(t:TypeId)(y:Value)(es:Array Event):aK P (Builtin.unsafeAdd_ #[] t #[.pointer (some a),y]) v es:=by
 obtain⟨m1,m2,e⟩:=If a t y;rw[e];unfold yW;simp only;refine aK.cool (eP.asInt _) λn=>?_;split
 .refine aK.later (Bu h hs es) ?_;simp only[Option.isSome_some,if_true];exact aK.first (aK.unsupported _ _ _)
 .split
  .exact aK.first (aK.unsupported _ _ _)
  .have e:(Go.shape a.block).runT P v es=(.ok none v,es):=by simp only[Go.shape,Sem.runT,h.shape_hid hs]
   exact aK.later e (aK.unsupported _ _ _)
theorem aA.add{a:Addr}(hs:¬S a.block)(t:TypeId)(y:Value):aA P S (Builtin.unsafeAdd_ #[] t #[.pointer (some a),y]):=by
 obtain⟨m1,m2,e⟩:=If a t y;rw[e];unfold yW;simp only;refine aA.bind (aA.asInt _) λn=>?_;split
 .refine aA.bind (aA.viewAt hs) λ_=>?_;exact aA.ite (aA.bind (aA.unsupported _) λ_=>aA.pure _) (aA.pure _)
 .have fin:aA P S (do
    let __x <-Go.shape a.block;match __x with
    |some (e,cells)=>do
     let p <-Go.program;match cellAtBytes p p.depth e (cells/p.cellsOf e) a.off n with
     |some off=>Pure.pure (Value.pointer (some {a with off}))
     |none=>Go.unsupported (.unsafePointer "Add")
    |_=>Go.unsupported (.unsafePointer "Add")):=by
   refine aA.bind (aA.shape hs) λq=>?_;split
   .refine aA.bind aA.program λp=>?_;split<;>first|exact aA.pure _|exact aA.unsupported _
   .exact aA.unsupported _
  split
  .exact aA.bind (aA.unsupported _) λ_=>fin
  .exact fin
theorem aA.addAny(t:TypeId)(o:Option Addr)(y:Value):aA P S (Builtin.unsafeAdd_ #[] t #[.pointer o,y]):=by
 cases o with
 |none=>obtain⟨m1,m2,e⟩:=Wf t y;rw[e];refine aA.bind (aA.asInt _) λn=>?_;exact aA.ite (aA.unsupported _) (aA.ite (aA.bind (aA.unsupported _) λ_=>aA.unsupported _) (aA.unsupported _))
 |some a=>
  by_cases hs:S a.block
  .exact aA.ofDead λv W es h=>yV h hs t y es
  .exact aA.add hs t y
theorem aA.asNumber(a:Addr)(b:Bool):aA P S (Go.asNumber a b):=aA.bind (aA.newObj trivial) λ_=>aA.pure _
theorem aA.movedNumber(t:TypeId)(o:Option Addr)(y:Value):aA P S (Go.movedNumber t (.pointer o) y):=by
 have rest:aA P S (match (Value.pointer o) with
   |.pointer (some n)=>do
    let (a,lost) <-Go.behindNumber n;match <-Builtin.unsafeAdd_ #[] t #[.pointer (some a),y]with
    |.pointer (some b)=>Go.asNumber b lost
    |v=>Pure.pure v
   |_=>Builtin.unsafeAdd_ #[] t #[.pointer o,y]):=by
  cases o with
  |none=>exact aA.addAny _ _ _
  |some n=>
   by_cases hs:S n.block
   .exact aA.ofDead λv W es h=>aK.later (sV h hs es) (aK.first (yV h hs t y _))
   .refine aA.bind (aA.behind hs) λq=>?_;obtain⟨a,lost⟩:=q;refine aA.bind (aA.addAny _ _ _) λq=>?_;split
    .exact aA.asNumber _ _
    .exact aA.pure _
 unfold Go.movedNumber;refine aA.bind (aA.underlying t) λd=>?_;simp only;split
 .exact aA.bind (aA.unsupported _) λ_=>rest
 .exact rest
theorem aA.movedPointer(t:TypeId)(o:Option Addr)(y:Value):aA P S (Go.movedPointer t (.pointer o) y):=by
 unfold Go.movedPointer;cases o with
 |none=>exact aA.addAny _ _ _
 |some n=>
  by_cases hs:S n.block
  .refine aA.ofDead λv W es h=>?_;refine aK.later (Ap h hs es) ?_;simp only[Option.isSome_none,ay,if_false];exact yV h hs t y _
  .refine aA.bind (aA.numberAt hs) λq=>?_;exact aA.ite (aA.bind (aA.unsupported _) λ_=>aA.addAny _ _ _) (aA.addAny _ _ _)
theorem aA.twoPlaces(a b:Addr):aA P S (Op.twoPlaces a b):=by unfold Op.twoPlaces;refine aA.bind aA.program λp=>?_;simp only;exact aA.ite (aA.bind (aA.unsupported _) λ_=>aA.bind (aA.byteOf _) λ_=>aA.bind (aA.byteOf _) λ_=>aA.pure _) (aA.bind (aA.byteOf _) λ_=>aA.bind (aA.byteOf _) λ_=>aA.pure _)
theorem aA.addrSub(k:IntKind)(a b:Addr):aA P S (Op.addrSub k a b):=by unfold Op.addrSub;exact aA.bind (aA.twoPlaces a b) λq=>by obtain⟨x,y⟩:=q;exact aA.pure _
theorem aA.addrCmp(op:BinOp)(a b:Addr):aA P S (Op.addrCmp op a b):=by unfold Op.addrCmp;refine aA.bind (aA.twoPlaces a b) λq=>?_;obtain⟨x,y⟩:=q;simp only;split<;>first|exact aA.pure _|exact aA.unsupported _
theorem Gi{v W:World}(h:Rel P S B v W){a b:Addr}(hs:S a.block∨S b.block)(es:Array Event):aK P (Op.twoPlaces a b) v es:=by
 unfold Op.twoPlaces;refine aK.later (a:=P) (v':=v) (es':=es) rfl ?_;have:(a.block != b.block||decide (a.block ≥ P.globals.size))=true:=by
  by_cases e:a.block=b.block
  .have XV:S a.block:=hs.elim id λx=>e▸x;have:=h.high _ XV;simp[e];omega
  .simp[e]
 simp only[this,if_true];exact aK.first (aK.unsupported _ _ _)
def bZ(P:Program){α : Type}(s:Sem α)(v:World):Prop:=∀es,aK P s v es∨∃a es',s.runT P v es=(.ok a v,es')∧gM es es'
theorem bZ.bind{x:Sem α}{f:α->Sem β}{v:World}(hx:bZ P x v)(hf:∀a,bZ P (f a) v):bZ P (x >>= f) v:=by
 intro es;rcases hx es with hd|⟨a,es',e,hc⟩
 .exact .inl hd.first
 .rcases hf a es' with hd|⟨b,uz,e2,MS⟩
  .exact .inl (.later e hd hc)
  .exact .inr ⟨b,uz,by show(x.bind f).runT P v es=_;rw[Sem.runT_bind',e];exact e2,hc.trans MS⟩
theorem bZ.pure(a:α)(v:World):bZ P (Pure.pure a:Sem α) v:=λes=>.inr ⟨a,es,rfl,.refl _⟩
theorem bZ.shape(r:Nat)(v:World):bZ P (Go.shape r) v:=λes=>.inr ⟨_,_,rfl,.refl _⟩
theorem bZ.getObj(r:Nat)(v:World):bZ P (Go.getObj r) v:=by
 intro es;simp only[Go.getObj,aK,Sem.runT];split
 .exact .inl ⟨_,_,_,rfl,trivial,.refl _⟩
 .exact .inr ⟨_,_,rfl,.push (by simp)⟩
 .exact .inl ⟨_,_,_,rfl,trivial,.refl _⟩
theorem bZ.numberAt(r:Nat)(v:World):bZ P (Go.numberAt r) v:=by
 unfold Go.numberAt;refine bZ.bind (bZ.shape r v) λ_=>?_;split
 .exact bZ.pure _ _
 .refine bZ.bind (bZ.getObj r v) λ_=>?_;split<;>exact bZ.pure _ _
theorem bZ.behind(a:Addr)(v:World):bZ P (Go.behindNumber a) v:=bZ.bind (bZ.numberAt _ v) λ_=>bZ.pure _ _
theorem aK.mild{x:Sem α}{f:α->Sem β}{v:World}{es:Array Event}(hx:bZ P x v)(h:∀a es',aK P (f a) v es'):aK P (x >>= f) v es:=by
 rcases hx es with hd|⟨a,es',e,hc⟩
 .exact hd.first
 .exact .later e (h a es') hc
theorem aA.twoBehind{f:Addr->Addr->Sem α}(hf:∀a b,aA P S (f a b))(hd:∀{B:Nat} v W,Rel P S B v W->∀a b es,S a.block∨S b.block->aK P (f a b) v es)(a b:Addr):aA P S (do f (<-Go.behindNumber a).1 (<-Go.behindNumber b).1):=by
 by_cases ha:S a.block
 .refine aA.ofDead λv W es h=>?_;exact aK.later (sV h ha es) (aK.mild (bZ.behind b v) λq es'=>hd v W h _ _ _ (.inl ha))
 .refine aA.bind (aA.behind ha) λq=>?_;by_cases hb:S b.block
  .exact aA.ofDead λv W es h=>aK.later (sV h hb es) (hd v W h _ _ _ (.inr hb))
  .exact aA.bind (aA.behind hb) λq'=>hf _ _
theorem aA.addrMod(k:IntKind)(a:Addr)(n:Int)(hs:¬S a.block):aA P S (Op.addrMod k a n):=by
 unfold Op.addrMod;refine aA.bind (aA.shape hs) λq=>?_;split
 .refine aA.bind (aA.typeInfo _) λ_=>?_;simp only;exact aA.ite (aA.bind (aA.unsupported _) λ_=>aA.bind (aA.byteOf _) λ_=>aA.pure _) (aA.bind (aA.byteOf _) λ_=>aA.pure _)
 .exact aA.unsupported _
theorem Xn{v W:World}(h:Rel P S B v W)(k:IntKind){a:Addr}(hs:S a.block)(n:Int)(es:Array Event):aK P (Op.addrMod k a n) v es:=by
 unfold Op.addrMod;have e:(Go.shape a.block).runT P v es=(.ok none v,es):=by simp only[Go.shape,Sem.runT,h.shape_hid hs]
 exact aK.later e (aK.unsupported _ _ _)
theorem bZ.frozen(a:Addr)(v:World):bZ P (Go.frozen a) v:=λes=>.inr ⟨_,_,rfl,.refl _⟩
theorem bZ.noView(a:Addr)(v:World):bZ P (Go.noView a) v:=by
 unfold Go.noView Go.viewAt;refine bZ.bind (bZ.bind (bZ.shape _ v) λ_=>?_) λ_=>?_
 .split
  .exact bZ.pure _ _
  .refine bZ.bind (bZ.getObj _ v) λ_=>?_;split<;>exact bZ.pure _ _
 .split
  .exact λes=>.inl (aK.unsupported _ _ _)
  .exact bZ.pure _ _
theorem Cq{v W:World}(h:Rel P S B v W){a:Addr}(hs:S a.block)(es:Array Event):(Go.frozen a).runT P v es=(.ok false v,es):=by
 have e:v.frozen? a=false:=by unfold World.frozen?;rw[h.hid _ hs];rfl
 simp only[Go.frozen,Sem.runT,e]
theorem aA.stringish{a:Addr}(hs:¬S a.block):aA P S (Go.stringish a):=by
 unfold Go.stringish;refine aA.bind (aA.frozen hs) λb=>?_;refine aA.ite (aA.pure _) ?_;refine aA.bind (aA.shape hs) λq=>?_;split
 .exact aA.frozen hs
 .exact aA.pure _
theorem aA.mayBeOne{a b:Addr}(ha:¬S a.block)(hb:¬S b.block):aA P S (Go.mayBeOne a b):=by unfold Go.mayBeOne;refine aA.bind (aA.stringish ha) λx=>aA.bind (aA.stringish hb) λy=>?_;simp only;refine aA.bind (aA.bind (aA.shape ha) λ_=>aA.pure _) λ_=>aA.bind (aA.bind (aA.shape hb) λ_=>aA.pure _) λ_=>aA.pure _
theorem aA.sameAddr(a b:Addr):aA P S (Go.sameAddr a b):=by
 unfold Go.sameAddr;simp only;refine aA.ite (aA.pure _) ?_;by_cases ha:S a.block
 .refine aA.ofDead λv W es h=>?_;have e1:(Go.frozen a).runT P v es=(.ok false v,es):=Cq h ha es;refine aK.later e1 (aK.mild (bZ.frozen b v) λq es'=>?_);simp only[Bool.false_and,ay,if_false];exact aK.first (sK h ha _)
 .by_cases hb:S b.block
  .refine aA.ofDead λv W es h=>?_;refine aK.mild (bZ.frozen a v) λq es'=>?_;have e1:(Go.frozen b).runT P v es'=(.ok false v,es'):=Cq h hb es';refine aK.later e1 ?_;simp only[Bool.and_false,ay,if_false];exact aK.mild (bZ.noView a v) λ_ uz=>aK.first (sK h hb _)
  .refine aA.bind (aA.frozen ha) λx=>aA.bind (aA.frozen hb) λy=>?_;refine aA.ite (aA.bind (aA.unsupported _) λ_=>?_) ?_
   all_goals
    refine aA.bind (aA.noView a) λ_=>aA.bind (aA.noView b) λ_=>aA.bind (aA.mayBeOne ha hb) λz=>?_;exact aA.ite (aA.bind (aA.choose _) λ_=>aA.pure _) (aA.pure _)
theorem aA.samePointer(a b:Option Addr):aA P S (Go.samePointer a b):=by
 unfold Go.samePointer;split
 .exact aA.sameAddr _ _
 .exact aA.pure _
end
def iB(P:Program):Prop:=∀t i u,P.info? t=some i->i.desc≠.named "sync.copyChecker" u
section
variable {P:Program}{S:Nat->Prop}{B:Nat}{α β : Type}
def eqInt(t:TypeId)(a b:Addr):Sem Bool:=do
 if a.block==b.block&&a.block<(<-Go.program).globals.size then return (<-Go.byteOf a)==(<-Go.byteOf b)
 let .named "sync.copyChecker" _:=(<-Go.typeInfo t).desc|Go.unsupported .addressObserved
 if a==b then Pure.pure true else Go.unsupported .addressObserved
theorem aA.eqInt(t:TypeId)(a b:Addr):aA P S (Vw.eqInt t a b):=by
 unfold Vw.eqInt;refine aA.bind aA.program λp=>?_;refine aA.ite (aA.bind (aA.byteOf _) λ_=>aA.bind (aA.byteOf _) λ_=>aA.pure _) ?_;refine aA.bind (aA.typeInfo t) λi=>?_;split
 .exact aA.ite (aA.pure _) (aA.unsupported _)
 .exact aA.unsupported _
theorem Sa(hC:iB P){v W:World}(h:Rel P S B v W)(t:TypeId)(a b:Addr)(es:Array Event)(hs:S a.block∨S b.block):aK P (Vw.eqInt t a b) v es:=by
 unfold Vw.eqInt;refine aK.later (a:=P) (v':=v) (es':=es) rfl ?_;have:(a.block==b.block&&decide (a.block<P.globals.size))=false:=by
  by_cases e:a.block=b.block
  .have XV:S a.block:=hs.elim id λx=>e▸x;have:=h.high _ XV;simp[e];omega
  .simp[e]
 simp only[this,ay,if_false];cases hi:P.info? t with
 |none=>refine aK.first ?_;unfold Go.typeInfo;refine aK.later (a:=P) (v':=v) (es':=es) rfl ?_;simp only[hi];exact aK.stuck _ _ _
 |some i=>
  have e:(Go.typeInfo t).runT P v es=(.ok i v,es):=by unfold Go.typeInfo;show(Go.program.bind _).runT P v es=_;rw[Sem.runT_bind'];simp only[Go.program,Sem.runT,hi];rfl
  refine aK.later e ?_;split
  .rename_i heq;exact absurd heq (hC t i _ hi)
  .exact aK.unsupported _ _ _
theorem aA.typeStr(t:TypeId):aA P S (Go.typeStr t):=by unfold Go.typeStr;refine aA.bind (aA.typeInfo t) λi=>?_;simp only;exact aA.ite (aA.unsupported _) (aA.pure _)
theorem aA.forInR{σ : Type}{f:Nat->σ->Sem (ForInStep σ)}(hf:∀a s,aA P S (f a s))(n:Nat)(s:σ):aA P S (forIn [:n] s f):=by rw[Std.Legacy.Range.forIn_eq_forIn_range'];exact aA.forInL hf _ _
theorem aA.equalIn(hC:iB P):∀(d:Nat)(t:TypeId)(x y:Value),aA P S (Op.equalIn d t x y)
 |0,_,_,_=>by rw[Op.equalIn];exact aA.unsupported _
 |d+1,t,x,y=>by
  have ih:=aA.equalIn hC d;rw[Op.equalIn];refine aA.bind (aA.underlying t) λu=>?_
  split
  .exact aA.pure _
  .exact aA.ite (aA.pure _) (aA.stuck _)
  .exact aA.pure _
  .exact aA.pure _
  .exact aA.twoBehind (f:=Vw.eqInt t) (λa b=>aA.eqInt t a b) (λv W h a b es hs=>Sa hC h t a b es hs) _ _
  .exact aA.unsupported _
  .exact aA.unsupported _
  .exact aA.ite (aA.pure _) (aA.stuck _)
  .exact aA.ite (aA.pure _) (aA.stuck _)
  .exact aA.pure _
  .exact aA.pure _
  .exact aA.pure _
  .refine aA.bind (aA.sizeOf _) λn=>?_
   exact aA.ite (aA.sameAddr _ _) (aA.ite (aA.pure _) (aA.bind (aA.choose _) λ_=>aA.pure _))
  .exact aA.samePointer _ _
  .exact aA.pure _
  .exact aA.pure _
  .exact aA.pure _
  .exact aA.pure _
  .refine aA.ite (aA.pure _) (aA.bind (aA.typeInfo _) λi=>aA.ite (aA.bind aA.program λp=>aA.bind aA.program λp'=>?_) (ih _ _ _))
   have fin:∀tx,aA P S (do
     let q <-Go.typeStr tx
     Go.runtimePanic (RuntimeError.error ("comparing uncomparable type "++q)):Sem Bool):=λtx=>aA.bind (aA.typeStr _) λ_=>aA.runtimePanic _
   exact aA.ite (aA.bind (aA.unsupported _) λ_=>fin _) (fin _)
  .refine aA.bind aA.program λp=>?_
   simp only;refine aA.ite (aA.bind (aA.unsupported _) λ_=>?_) ?_
   all_goals
    refine aA.bind (aA.forInA (λf s=>?_) _ _) λr=>?_
    .exact aA.ite (aA.bind (aA.part _ _ _) λ_=>aA.bind (aA.part _ _ _) λ_=>aA.bind (ih _ _ _) λ_=>aA.ite (aA.pure _) (aA.pure _)) (aA.pure _)
    .split<;>exact aA.pure _
  .refine aA.bind (aA.sizeOf _) λn=>?_
   refine aA.bind (aA.forInR (λf s=>?_) _ _) λr=>?_
   .exact aA.bind (aA.part _ _ _) λ_=>aA.bind (aA.part _ _ _) λ_=>aA.bind (ih _ _ _) λ_=>aA.ite (aA.pure _) (aA.pure _)
   .simp only;split<;>exact aA.pure _
  all_goals first|exact aA.pure _|exact aA.stuck _
theorem aA.equal(hC:iB P)(t:TypeId)(x y:Value):aA P S (Op.equal t x y):=aA.equalIn hC _ t x y
theorem aA.eqGuardIn:∀(d:Nat)(t:TypeId)(x y:Value),aA P S (Op.eqGuardIn d t x y)
 |0,_,_,_=>by rw[Op.eqGuardIn];exact aA.unsupported _
 |d+1,t,x,y=>by
  have ih:=aA.eqGuardIn d;rw[Op.eqGuardIn];refine aA.bind (aA.underlying t) λu=>?_
  split
  .exact aA.pure _
  .refine aA.bind (aA.forInA (λf s=>?_) _ _) λr=>?_
   .exact aA.ite (aA.bind (aA.part _ _ _) λ_=>aA.bind (aA.part _ _ _) λ_=>aA.bind (ih _ _ _) λ_=>aA.ite (aA.pure _) (aA.pure _)) (aA.pure _)
   .simp only;split<;>exact aA.pure _
  .refine aA.bind (aA.sizeOf _) λn=>?_
   refine aA.bind (aA.forInR (λf s=>?_) _ _) λr=>?_
   .exact aA.bind (aA.part _ _ _) λ_=>aA.bind (aA.part _ _ _) λ_=>aA.bind (ih _ _ _) λ_=>aA.ite (aA.pure _) (aA.pure _)
   .simp only;split<;>exact aA.pure _
  .exact aA.pure _
theorem aA.eqGuard(op:BinOp)(t:TypeId)(x y:Operand)(a b:Value):aA P S (Go.eqGuard op t x y a b):=by
 unfold Go.eqGuard;refine aA.ite (aA.pure _) ?_;split
 .refine aA.ite (aA.pure _) ?_;exact aA.bind (aA.eqGuardIn _ _ _ _) λ_=>aA.ite (aA.unsupported _) (aA.pure _)
 .refine aA.bind aA.program λp=>aA.bind aA.program λp'=>?_;exact aA.ite (aA.pure _) (aA.bind (aA.eqGuardIn _ _ _ _) λ_=>aA.ite (aA.unsupported _) (aA.pure _))
 .exact aA.pure _
theorem aA.floatToFloat(k:FloatKind)(x:Nat)(k':FloatKind):aA P S (Conv.floatToFloat k x k'):=by
 unfold Conv.floatToFloat;refine aA.ite (aA.pure _) ?_;split
 .exact aA.bind (aA.choose _) λ_=>aA.pure _
 .exact aA.pure _
 .simp only;exact aA.ite (aA.bind (aA.choose _) λ_=>aA.pure _) (aA.pure _)
theorem aA.carith(op:BinOp)(k:FloatKind)(x y:Nat):aA P S (Op.Complex.arith op k x y):=by unfold Op.Complex.arith;refine aA.bind (aA.floatArith _ _ _ _) λ_=>?_;split<;>first|exact aA.pure _|exact aA.stuck _
theorem aA.ccmp(op:BinOp)(k:FloatKind)(x y:Nat):aA P S (Op.Complex.cmp op k x y):=aA.bind (aA.floatCmp _ _ _ _) λ_=>aA.asBool _
theorem aA.cconv(k:FloatKind)(x:Nat)(k':FloatKind):aA P S (Op.Complex.conv k x k'):=by
 unfold Op.Complex.conv;refine aA.ite (aA.pure _) ?_;refine aA.bind (aA.floatToFloat _ _ _) λ_=>?_
 split<;>first|exact aA.pure _|exact aA.stuck _
theorem aA.cadd(x y:Nat):aA P S (Op.Complex.add x y):=aA.carith _ _ _ _
theorem aA.csub(x y:Nat):aA P S (Op.Complex.sub x y):=aA.carith _ _ _ _
theorem aA.cmul(x y:Nat):aA P S (Op.Complex.mul x y):=aA.carith _ _ _ _
theorem aA.cquo(x y:Nat):aA P S (Op.Complex.quo x y):=aA.carith _ _ _ _
theorem aA.cproduct(a b c d:Nat):aA P S (Op.Complex.product a b c d):=by unfold Op.Complex.product;exact aA.bind (aA.cmul _ _) λ_=>aA.bind (aA.cmul _ _) λ_=>aA.bind (aA.csub _ _) λ_=>aA.bind (aA.cmul _ _) λ_=>aA.bind (aA.cmul _ _) λ_=>aA.bind (aA.cadd _ _) λ_=>aA.pure _
theorem aA.ccorrected(s a b c d:Nat):aA P S (Op.Complex.corrected s a b c d):=by unfold Op.Complex.corrected;exact aA.bind (aA.cmul _ _) λ_=>aA.bind (aA.cmul _ _) λ_=>aA.bind (aA.cadd _ _) λ_=>aA.bind (aA.cmul _ _) λ_=>aA.bind (aA.cmul _ _) λ_=>aA.bind (aA.cmul _ _) λ_=>aA.bind (aA.csub _ _) λ_=>aA.bind (aA.cmul _ _) λ_=>aA.pure _
theorem aA.cquotient(a b c d:Nat):aA P S (Op.Complex.quotient a b c d):=by
 unfold Op.Complex.quotient;refine aA.bind (aA.ccmp _ _ _ _) λq=>?_
 have fin:∀e f:Nat,aA P S (do
   let x <-Op.Complex.cmp .eql .f64 c 0;let y <-Op.Complex.cmp .eql .f64 d 0;if (!(Op.Complex.isNaN e&&Op.Complex.isNaN f))=true then Pure.pure (e,f)
   else if (x&&y&&(!Op.Complex.isNaN a||!Op.Complex.isNaN b))=true then do
    let u <-Op.Complex.mul (Op.Complex.copysign Op.Complex.inf c) a;let w <-Op.Complex.mul (Op.Complex.copysign Op.Complex.inf c) b;Pure.pure (u,w)
   else if ((Op.Complex.isInf a||Op.Complex.isInf b)&&Op.Complex.isFinite c&&Op.Complex.isFinite d)=true then
    Op.Complex.corrected Op.Complex.inf (Op.Complex.inf2one a) (Op.Complex.inf2one b) c d
   else if ((Op.Complex.isInf c||Op.Complex.isInf d)&&Op.Complex.isFinite a&&Op.Complex.isFinite b)=true then
    Op.Complex.corrected 0 a b (Op.Complex.inf2one c) (Op.Complex.inf2one d)
   else Pure.pure (e,f)):=λe f=>
  aA.bind (aA.ccmp _ _ _ _) λ_=>aA.bind (aA.ccmp _ _ _ _) λ_=>aA.ite (aA.pure _) (aA.ite (aA.bind (aA.cmul _ _) λ_=>aA.bind (aA.cmul _ _) λ_=>aA.pure _)
   (aA.ite (aA.ccorrected _ _ _ _ _) (aA.ite (aA.ccorrected _ _ _ _ _) (aA.pure _))))
 refine aA.ite ?_ ?_
 .exact aA.bind (aA.cquo _ _) λ_=>aA.bind (aA.cmul _ _) λ_=>aA.bind (aA.cadd _ _) λ_=>aA.bind (aA.cmul _ _) λ_=>aA.bind (aA.cadd _ _) λ_=>aA.bind (aA.cquo _ _) λ_=>
   aA.bind (aA.cmul _ _) λ_=>aA.bind (aA.csub _ _) λ_=>aA.bind (aA.cquo _ _) λ_=>aA.bind (aA.pure _) λq=>fin q.1 q.2
 .exact aA.bind (aA.cquo _ _) λ_=>aA.bind (aA.cmul _ _) λ_=>aA.bind (aA.cadd _ _) λ_=>aA.bind (aA.cmul _ _) λ_=>aA.bind (aA.cadd _ _) λ_=>aA.bind (aA.cquo _ _) λ_=>
   aA.bind (aA.cmul _ _) λ_=>aA.bind (aA.csub _ _) λ_=>aA.bind (aA.cquo _ _) λ_=>aA.bind (aA.pure _) λq=>fin q.1 q.2
theorem aA.complexOp(op:BinOp)(k:FloatKind)(a b c d:Nat):aA P S (Op.complexOp op k a b c d):=by
 unfold Op.complexOp;split
 .exact aA.bind (aA.carith _ _ _ _) λ_=>aA.bind (aA.carith _ _ _ _) λ_=>aA.pure _
 .exact aA.bind (aA.carith _ _ _ _) λ_=>aA.bind (aA.carith _ _ _ _) λ_=>aA.pure _
 .refine aA.bind (aA.cconv _ _ _) λ_=>aA.bind (aA.cconv _ _ _) λ_=>aA.bind (aA.cconv _ _ _) λ_=>aA.bind (aA.cconv _ _ _) λ_=>?_;refine aA.bind (aA.cproduct _ _ _ _) λ_=>aA.bind (aA.cconv _ _ _) λ_=>aA.bind (aA.cconv _ _ _) λ_=>aA.pure _
 .refine aA.bind (aA.cconv _ _ _) λ_=>aA.bind (aA.cconv _ _ _) λ_=>aA.bind (aA.cconv _ _ _) λ_=>aA.bind (aA.cconv _ _ _) λ_=>?_;refine aA.bind (aA.cquotient _ _ _ _) λ_=>aA.bind (aA.cconv _ _ _) λ_=>aA.bind (aA.cconv _ _ _) λ_=>aA.pure _
 .exact aA.bind (aA.ccmp _ _ _ _) λ_=>aA.bind (aA.ccmp _ _ _ _) λ_=>aA.pure _
 .exact aA.bind (aA.ccmp _ _ _ _) λ_=>aA.bind (aA.ccmp _ _ _ _) λ_=>aA.pure _
 .exact aA.stuck _
end
