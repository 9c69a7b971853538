import Derived.Test.YtpiefebngnlfoabGreatDoorLc
import Derived.Conc.CrowdTrace
import Derived.Conc.CompanyMem
set_option maxRecDepth 99999
set_option maxHeartbeats 0
set_option linter.unusedVariables false
set_option linter.unusedSimpArgs false
namespace Go.Vw
open Go.Conc
def sent:Item:=.code (.refuse "")
def lay(k:List Item)(td:List Item):List Item:=td.dropLast++k
section
variable {P:Program}{F:FuncId->Bool}{S:Nat->Prop}{B:Nat}
end
open Go.ConcN (sumTo upd sumTo_upd upd_ne upd_same)
def jM:Frame->List Frame->Frame
 |fr,[]=>fr
 |_,c :: cs=>jM c cs
section
variable {P:Program}{F:FuncId->Bool}{S:Nat->Prop}{B:Nat}
def Through(fn:FuncId)(Q:Exit->Act->World->Prop)(fr:Frame)(inner:List Frame)(v:World):Prop:=
 inner=[]∧fr.fn=fn∧((fr.mode=.run∧fr.todo=[sent]∧Q .normal ⟨fr.tmps,fr.defers⟩ v)∨(fr.mode=.returning∧Q .ret ⟨fr.tmps,fr.defers⟩ v))
end
structure Comp(P:Program)(S:Nat->Prop)(v:World)(g:Goroutine)(gs:Array Goroutine)(W:World)(t:Trace)(q:Nat->Nat):Prop where
 at0:gs[0]?=some g
 leavers:Leavers P t gs q
 past:Past (iD S) W.heap.size t
 tidy:mG gs.size t
 rel:Rel P S 0 v W
def Fx(S:Nat->Prop)(W:World)(S':Nat->Prop)(W':World):Prop:=∀ b,S b->S' b∧W'.heap[b]?=W.heap[b]?
theorem Fx.refl(S:Nat->Prop)(W:World):Fx S W S W:=fun b hb=>⟨hb,rfl⟩
theorem Fx.trans{S S' S'':Nat->Prop}{W W' W'':World}(h:Fx S W S' W')(k:Fx S' W' S'' W''):Fx S W S'' W'':=fun b hb=>⟨(k b (h b hb).1).1,(k b (h b hb).1).2.trans (h b hb).2⟩
def Reach(P:Program)(Stop:Goroutine->(Nat->Prop)->World->Prop)(g:Goroutine)(S:Nat->Prop)(v:World):Prop:=
 ∀ gs W sl t q,Comp P S v g gs W t q->∃ N gs' W' sl' t' q' g' S' v',runNT P N (crowd gs W sl) t=(.next (crowd gs' W' sl'),t')∧Comp P S' v' g' gs' W' t' q'∧Stop g' S' v'∧Fx S W S' W'
section
variable {P:Program}{F:FuncId->Bool}{Stop Stop':Goroutine->(Nat->Prop)->World->Prop}{g:Goroutine}{S:Nat->Prop}{v:World}
theorem Reach.done(h:Stop g S v):Reach P Stop g S v:=fun gs W sl t q hc=>⟨0,gs,W,sl,t,q,g,S,v,rfl,hc,h,.refl _ _⟩
theorem Reach.twin{u:World}(t:Twin v u)(h:Reach P Stop g S u):Reach P Stop g S v:=by
 intro gs W sl tr q hc
 have hR:Rel P S 0 u W:=⟨fun j q hj=>by omega,t.os.trans hc.rel.os,t.output.trans hc.rel.output,by rw[t.heap];exact hc.rel.size,fun b hb=>by rw[t.heap];exact hc.rel.seen b hb,fun b hb=>by rw[t.heap];exact hc.rel.hid b hb,
  fun b hb o ho=>hc.rel.tame b hb o (by rw[<-t.heap];exact ho),hc.rel.high⟩
 exact h gs W sl tr q ⟨hc.at0,hc.leavers,hc.past,hc.tidy,hR⟩
theorem gY(hrun:g.status=.running)(h:∀ W,Rel P S 0 v W->∃ g' W' es v',stepG P true g W=.go g' W' es∧(∀ e∈es,gU S W'.heap.size e)∧W.heap.size<=W'.heap.size∧(∀ b,S b->W'.heap[b]?=W.heap[b]?)∧Rel P S 0 v' W'∧Reach P Stop g' S v'):Reach P Stop g S v:=by
 intro gs W sl t q hc;generalize hM:sumTo gs.size q=M;induction M using Nat.strongRecOn generalizing gs W sl t q with
 |ind M ihM=>
 obtain⟨h0,hL,hP,hT,hR⟩:=hc;have haw:=Ed (P:=P) h0 hrun hL;obtain⟨i,g1,d,sl',hi,hg,hst⟩:=crowd_pick (P:=P) (w:=W) (sl:=sl) haw ⟨0,_,h0,hrun⟩;rcases Nat.eq_zero_or_pos i with rfl|hpos
 .obtain rfl:g1=g:=by rw[h0]at hi;exact(Option.some.inj hi).symm
  obtain⟨g',W',es,v',hgo,hev,hgrow,hhid,hRW,hre⟩:=h (W.at d) (hR.at d);have hrunT:=runT_crowd_go (P:=P) (sl:=sl') (i:=0) hi (show stepG P (0 == 0) g1 (W.at d)=_ from hgo);have hlt:0<gs.size:=(Array.getElem?_eq_some_iff.1 h0).1;have hgrow':W.heap.size<=W'.heap.size:=hgrow;obtain⟨N,gs2,W2,sl2,t2,q2,g2,S2,v2,r2,c2,h2,f2⟩:=hre ((gs.map (woken P g1 g' W')).setIfInBounds 0 g') W' sl' (t++MemOp.ofEvents 0 g1.frame.fn g1.frame.place es) q
   ⟨by simp[hlt],Nh hlt hL _ _ _ _ _ _,(hP.mono hgrow').own fun e he=>Iv (hev e he) (Nat.le_refl _),by simpa using Ui hT hlt hev,hRW⟩
  refine⟨N+1,gs2,W2,sl2,t2,q2,g2,S2,v2,?_,c2,h2,Fx.trans (fun b hb=>⟨hb,hhid b hb⟩) f2⟩;simp only[runNT,hst,hrunT];exact r2
 .have hq:=hL.old i g1 hpos hi;have hi0:(i == 0)=false:=by simp;omega
  have hlt:i<gs.size:=(Array.getElem?_eq_some_iff.1 hi).1;cases hqi:q i with
  |zero=>rw[hqi]at hq;rw[hq.1]at hg;cases hg
  |succ k=>
   rw[hqi]at hq;rcases hq with⟨hf,_⟩|⟨_,g',es,hmute,hstp,hq'⟩
   .rw[hf]at hg;cases hg
   have hrunT:=runT_crowd_go (P:=P) (sl:=sl') (i:=i) hi (by rw[hi0];exact hstp (W.at d));have hsz:((gs.map (woken P g1 g' (W.at d))).setIfInBounds i g').size=gs.size:=by simp
   have hsum:sumTo gs.size (upd q i k)+(k+1)=sumTo gs.size q+k:=by
    have:=sumTo_upd q k id hlt;simpa [hqi] using this
   have hne0:i≠0:=by omega
   obtain⟨N,gs2,W2,sl2,t2,q2,g2,S2,v2,r2,c2,h2,f2⟩:=ihM (sumTo gs.size (upd q i k)) (by omega) ((gs.map (woken P g1 g' (W.at d))).setIfInBounds i g') (W.at d) sl' (t++MemOp.ofEvents i g1.frame.fn g1.frame.place es) (upd q i k)
    ⟨by rw[Array.getElem?_setIfInBounds_ne hne0,Array.getElem?_map,h0];exact congrArg some (woken_run hrun),Bp hL hi hpos hq',hP.mute (by omega) hmute,by rw[hsz];exact Ef hT hlt hmute,hR.at d⟩ (by rw[hsz])
   refine⟨N+1,gs2,W2,sl2,t2,q2,g2,S2,v2,?_,c2,h2,f2⟩;simp only[runNT,hst,hrunT];exact r2
theorem cV{g':Goroutine}(hrun:g.status=.running)(h:∀ w,stepG P true g w=.go g' w #[])(hr:Reach P Stop g' S v):Reach P Stop g S v:=
 gY hrun fun W hR=>⟨g',W,#[],v,h W,by simp,Nat.le_refl _,fun _ _=>rfl,hR,hr⟩
theorem Mh{fr c:Frame}{cs:List Frame}{x:Value}(hok:OkFrame P F fr)(hv:View P S v)(hl:fr.leaving P v (.returned x))(hr:Reach P Stop (G (c.finish x) cs) S v):Reach P Stop (G fr (c :: cs)) S v:=by
 refine gY rfl fun W hR=>?_
 obtain⟨fn,tmps,todo,defers,mode,kind,round⟩:=fr;obtain⟨h1,h2,h3,f,h4,h5⟩:=hl;simp only at h1 h2 h3 h4 h5;subst h1 h2 h3;have hR':Rel P S v.drawn v W:=⟨fun j q hj=>by omega,hR.os,hR.output,hR.size,hR.seen,hR.hid,hR.tame,hR.high⟩
 have hA:=aA.results (P:=P) (S:=S) f tmps v.drawn v W #[] hR';have e1:=Sem.runT_fst P (results f tmps) v #[];rw[h5]at e1;cases hrv:(results f tmps).runT P v #[]with
 |mk r es0=>
 rw[hrv]at hA e1;simp only at e1;subst e1;obtain⟨W',e,g⟩:=hA (Nat.le_refl _);refine⟨G (c.finish x) cs,W',seen P fn es0,v,?_,?_,?_,g.hidden,g.rel.zero,hr⟩
 .simp only[G,stepG,unwind,h4,e,doReturn,GStep.after];simp
 .obtain⟨l,el,hl⟩:=g.grow;intro y hy;have:=mem_seen hy;have hm:y∈es0.toList:=by simpa using this
  rw[el]at hm;simp at hm;rw[<-g.rel.size];exact hl y hm
 .rw[<-g.rel.size,hR.size];exact Nat.le_refl _
end
def kM(W:World)(b:Nat):Prop:=∃ o,W.heap[b]?=some o∧¬o.tame
def pD:Obj->Bool
 |.view ..=>false
 |.pending ..=>false
 |_=>true
theorem Fr{o:Obj}(h:o.tame):pD o=true:=by cases o<;>first|rfl|exact h.elim
theorem Qj{o:Obj}(h:¬o.tame):pD o=false:=by cases o<;>first|rfl|exact absurd trivial h
def dA(W:World):World:={W with heap:=W.heap.map fun o=>if pD o then o else eU}
section
variable {P:Program}{F:FuncId->Bool}
theorem yG{W:World}(hg:∀ b,kM W b->P.globals.size<=b):Rel P (kM W) 0 (dA W) W:=by
 refine⟨fun j q hj=>by omega,rfl,rfl,by simp[dA],fun b hb=>?_,fun b hb=>?_,fun b hb o ho=>?_,hg⟩
 .show(W.heap.map _)[b]?=_;rw[Array.getElem?_map];cases h:W.heap[b]? with
  |none=>rfl
  |some o=>
   have:o.tame:=Classical.byContradiction fun hn=>hb ⟨o,h,hn⟩
   simp[Fr this]
 .obtain⟨o,h,hn⟩:=hb;show(W.heap.map _)[b]?=_;rw[Array.getElem?_map,h];simp[Qj hn]
 .have ho':(W.heap.map fun o=>if pD o then o else eU)[b]?=some o:=ho
  rw[Array.getElem?_map]at ho';obtain⟨o',h1,h2⟩:=Option.map_eq_some_iff.1 ho';have:o'.tame:=Classical.byContradiction fun hn=>hb ⟨o',h1,hn⟩
  rw[if_pos (Fr this)]at h2;exact h2▸this
theorem Sa(Sh:Loc->Prop)(B:Nat):Past Sh B #[]:=
 ⟨past_nil.clean,fun i a ha=>by simp[touchAt,Trace.act?]at ha,past_nil.over,past_nil.hears,by simp⟩
theorem Kn{g:Goroutine}{W:World}{Post:Value->World->Prop}(hg:∀ b,kM W b->P.globals.size<=b)
  (h:Reach P (fun g' S' v'=>∃ fr x,g'=G fr []∧fr.leaving P v' (.returned x)∧P.inits.idxOf? fr.fn=none∧∀ W',Rel P S' 0 v' W'->Fx (kM W) W S' W'->Post x W') g (kM W) (dA W)) :
  ∃ M last o w' t',runNT P (M+1) (solo g W) #[]=(.ended o w',t')∧runN P M (solo g W)=.next last∧step P last=.ended o w'∧Conc.Good P Post last o w' t':=by
 obtain⟨N,gs',W',sl',t',q',g',S',v',r,hc,⟨fr,x,rfl,hl,hin,hpost⟩,hfx⟩:=h #[g] W none #[] (fun _=>0) ⟨rfl,leavers_one P g,Sa _ _,fun op hop=>by simp at hop,yG hg⟩
 obtain⟨fn,tmps,todo,defers,mode,kind,round⟩:=fr;obtain⟨h1,h2,h3,f,h4,h5⟩:=hl;simp only at h1 h2 h3 h4 h5 hin;subst h1 h2 h3;have hend:∀ w,AtRel W' w->AtEnd P (iD S') W'.heap.size Post (G ⟨fn,tmps,todo,[],.returning,.normal,round⟩ []) w:=by
  rintro _ ⟨d,rfl⟩;have hR:=hc.rel.at d;have hR':Rel P S' v'.drawn v' (W'.at d):=⟨fun j q hj=>by omega,hR.os,hR.output,hR.size,hR.seen,hR.hid,hR.tame,hR.high⟩
  have hA:=aA.results (P:=P) (S:=S') f tmps v'.drawn v' (W'.at d) #[] hR';have e1:=Sem.runT_fst P (results f tmps) v' #[];rw[h5]at e1;cases hrv:(results f tmps).runT P v' #[]with
  |mk r0 es0=>
  rw[hrv]at hA e1;simp only at e1;subst e1;obtain⟨W2,e,gg⟩:=hA (Nat.le_refl _);have hW2:W2=W'.at d:=by
   have tw:Twin (W'.at d) W2:=by
    refine⟨?_,gg.rel.os.symm.trans hR.os,gg.rel.output.symm.trans hR.output⟩;apply Array.ext_getElem?;intro b;by_cases hb:S' b
    .exact gg.hidden b hb
    .rw[<-gg.rel.seen b hb,hR.seen b hb]
   exact tw.eq gg.tape (by have:=gg.drawn;omega)
  subst hW2;refine⟨rfl,x,seen P fn es0,?_,?_,hpost _ hR fun b hb=>hfx b hb⟩
  .simp only[G,stepG,unwind,h4,e,doReturn,GStep.after,hin];simp
  .obtain⟨l,el,hl⟩:=gg.grow;intro y hy;have:=mem_seen hy;have hm:y∈es0.toList:=by simpa using this
   rw[el]at hm;simp at hm;refine Iv (hl y hm) ?_;rw[hR.size];exact Nat.le_refl _
 obtain⟨M,last,o,w2,t2,a1,a2,a3,a4⟩:=beside_ends (P:=P) (Shun:=iD S') (B:=W'.heap.size) (D:=fun _ _ es=>∀ e∈es,EvL (iD S') W'.heap.size e) (Post:=Post) (fun _ _ _ h=>h) (sl:=sl') hc.at0 hc.leavers hc.past (n:=0) hend
 refine⟨N+M,last,o,w2,t2,?_,?_,a3,a4⟩
 .rw[Nat.add_assoc,runNT_add];show(match runNT P N (crowd #[g] W none) #[]with|(.next m',t')=>runNT P (M+1) m' t'|r=>r)=_;rw[r];exact a1
 .rw[runN_add,<-runNT_fst P _ _ #[]];show(match (runNT P N (crowd #[g] W none) #[]).1 with|.next m'=>runN P M m'|e=>e)=_;rw[r];exact a2
end
open Go.Conc Go.ConcN
section
variable (Old Sh:Loc->Prop)(Own Rd:Nat->Loc->Prop)
structure PT(t:Trace)(j:Nat):Prop where
 quiet:Quiet Sh t
 own:∀ k,1<=k->k<=j->∀ l,Own k l->Perm t k l
 rd:∀ k,1<=k->k<=j->∀ l,Rd k l->PermW t k l
 free:∀ l,¬Old l->¬Sh l->(∀ k,1<=k->k<=j->¬Own k l∧¬Rd k l)->Perm t 0 l
 mine:∀ l,¬Old l->¬Sh l->(∀ k,1<=k->k<=j->¬Own k l)->PermW t 0 l
 nr:∀ said,¬Race said t
def P0(j:Nat)(op:MemOp):Prop:=
 op.g=0∧∀ x,op.act.touch?=some x->¬Old x.loc∧((Sh x.loc∧x.kind≠.plain)∨(¬Sh x.loc∧(∀ k,1<=k->k<=j->¬Own k x.loc)∧(x.write=true->∀ k,1<=k->k<=j->¬Rd k x.loc)))
def PW(k:Nat)(op:MemOp):Prop:=
 op.g=k∧∀ x,op.act.touch?=some x->(Sh x.loc∧x.kind≠.plain∧x.kind≠.said)∨Own k x.loc∨(Rd k x.loc∧x.write=false)
end
section
variable {Old Sh:Loc->Prop}{Own Rd:Nat->Loc->Prop}{t u:Trace}{j:Nat}
theorem PT.app0(A:Apart Sh Own Rd)(h:PT Old Sh Own Rd t j)(hu:∀ op∈u,P0 Old Sh Own Rd j op):PT Old Sh Own Rd (t++u) j:=by
 refine⟨h.quiet.app fun op hop x hx hs=>?_,fun k k1 kj l hl=>(h.own k k1 kj l hl).app fun op hop b hb e=>?_,fun k k1 kj l hl=>(h.rd k k1 kj l hl).app fun op hop b hb e hw=>?_,
  fun l ho hs hl=>(h.free l ho hs hl).app fun op hop _ _ _=>(hu op hop).1,fun l ho hs hl=>(h.mine l ho hs hl).app fun op hop _ _ _ _=>(hu op hop).1,fun said=>?_⟩
 .rcases((hu op hop).2 x hx).2 with⟨_,hk⟩|⟨hn,_⟩
  .exact⟨hk,fun _=>(hu op hop).1⟩
  .exact absurd hs hn
 .rcases((hu op hop).2 b hb).2 with⟨hs,_⟩|⟨_,hn,_⟩
  .exact absurd (e▸hs) (A.ownSh k l hl)
  .exact absurd (e▸hl) (hn k k1 kj)
 .rcases((hu op hop).2 b hb).2 with⟨hs,_⟩|⟨_,_,hn⟩
  .exact absurd (e▸hs) (A.rdSh k l hl)
  .exact absurd (e▸hl) (hn hw k k1 kj)
 .refine noRace_append (h.nr said) (fun op hop=>(hu op hop).1) (fun i a ha op hop b hb hc=>?_);obtain⟨hno,hcase⟩:=(hu op hop).2 b hb;rcases hcase with⟨hs,hk⟩|⟨hs,hown,hnr⟩
  .exact h.quiet.known hs hk (fun _=>rfl) i a ha hc
  .cases hbw:b.write with
   |true=>exact h.free b.loc hno hs (fun k k1 kj=>⟨hown k k1 kj,hnr hbw k k1 kj⟩) i a ha hc.1
   |false=>exact h.mine b.loc hno hs hown i a ha hc.1 (hc.2.2.1.resolve_right (by simp[hbw]))
theorem PT.appW(A:Apart Sh Own Rd)(h:PT Old Sh Own Rd t j){k:Nat}(k1:1<=k)(kj:k<=j)(hu:∀ op∈u,PW Sh Own Rd k op):PT Old Sh Own Rd (t++u) j:=by
 refine⟨h.quiet.app fun op hop x hx hs=>?_,fun k' k1' kj' l hl=>(h.own k' k1' kj' l hl).app fun op hop b hb e=>?_,fun k' k1' kj' l hl=>(h.rd k' k1' kj' l hl).app fun op hop b hb e hw=>?_,
  fun l ho hs hl=>(h.free l ho hs hl).app fun op hop b hb e=>?_,fun l ho hs hl=>(h.mine l ho hs hl).app fun op hop b hb e hw=>?_,fun said=>?_⟩
 .rcases(hu op hop).2 x hx with⟨_,hk,hn⟩|ho|⟨hr,_⟩
  .exact⟨hk,fun e=>absurd e hn⟩
  .exact absurd hs (A.ownSh k _ ho)
  .exact absurd hs (A.rdSh k _ hr)
 .rcases(hu op hop).2 b hb with⟨hs,_⟩|ho|⟨hr,_⟩
  .exact absurd (e▸hs) (A.ownSh k' l hl)
  .rw[(hu op hop).1];exact A.own k k' l (e▸ho) hl
  .exact absurd (e▸hr) (A.ownRd k' k l hl)
 .rcases(hu op hop).2 b hb with⟨hs,_⟩|ho|⟨_,hr⟩
  .exact absurd (e▸hs) (A.rdSh k' l hl)
  .exact absurd hl (A.ownRd k k' l (e▸ho))
  .rw[hr]at hw;cases hw
 .rcases(hu op hop).2 b hb with⟨hs',_⟩|ho'|⟨hr,_⟩
  .exact absurd (e▸hs') hs
  .exact absurd (e▸ho') (hl k k1 kj).1
  .exact absurd (e▸hr) (hl k k1 kj).2
 .rcases(hu op hop).2 b hb with⟨hs',_⟩|ho'|⟨_,hr⟩
  .exact absurd (e▸hs') hs
  .exact absurd (e▸ho') (hl k k1 kj)
  .rw[hr]at hw;cases hw
 .refine noRace_append (h.nr said) (fun op hop=>(hu op hop).1) (fun i a ha op hop b hb hc=>?_);rcases(hu op hop).2 b hb with⟨hs,hk,hn⟩|ho|⟨hr,hbw⟩
  .exact h.quiet.known hs hk (fun e=>absurd e hn) i a ha hc
  .exact h.own k k1 kj b.loc ho i a ha hc.1
  .exact h.rd k k1 kj b.loc hr i a ha hc.1 (hc.2.2.1.resolve_right (by simp[hbw]))
theorem PT.grow{Own' Rd':Nat->Loc->Prop}(h:PT Old Sh Own Rd t j)(fresh:∀ k l,Own' k l->Own k l∨∀ i a,touchAt t i=some a->a.loc≠l)(more:∀ k l,Own k l->Own' k l)(rdSame:∀ k l,Rd' k l↔Rd k l):PT Old Sh Own' Rd' t j:=by
 have none:∀ {g:Nat} {l:Loc},(∀ i a,touchAt t i=some a->a.loc≠l)->Perm t g l:=fun hn i a ha e=>absurd e (hn i a ha)
 refine⟨h.quiet,fun k k1 kj l hl=>(fresh k l hl).elim (h.own k k1 kj l) none,fun k k1 kj l hl=>h.rd k k1 kj l ((rdSame k l).1 hl),fun l ho hs hl=>h.free l ho hs fun k k1 kj=>⟨fun x=>(hl k k1 kj).1 (more k l x),fun x=>(hl k k1 kj).2 ((rdSame k l).2 x)⟩,
  fun l ho hs hl=>h.mine l ho hs fun k k1 kj x=>hl k k1 kj (more k l x),h.nr⟩
theorem PT.fork{Own' Rd':Nat->Loc->Prop}(h:PT Old Sh Own Rd t j){x y:MemOp}(hx:x.g=0∧x.act=.go (j+1))(hy:y.g=j+1∧y.act=.start)(h0:Deaf t 0=0)(hk:Deaf t (j+1)=0)
  (same:∀ k,k<=j->∀ l,(Own' k l↔Own k l)∧(Rd' k l↔Rd k l))
  (newOwn:∀ l,Own' (j+1) l->¬Old l∧¬Sh l∧∀ k,1<=k->k<=j->¬Own k l∧¬Rd k l) (newRd:∀ l,Rd' (j+1) l->¬Old l∧¬Sh l∧∀ k,1<=k->k<=j->¬Own k l):PT Old Sh Own' Rd' (t++#[x,y]) (j+1):=by
 have hnt:∀ op∈#[x,y],∀ b,op.act.touch?=some b->False:=by
  intro op hop b hb;simp only[List.mem_toArray,List.mem_cons,List.not_mem_nil,or_false]at hop;rcases hop with rfl|rfl
  .rw[hx.2]at hb;cases hb
  .rw[hy.2]at hb;cases hb
 have old:∀ {i:Nat} {a:Touch},touchAt (t++#[x,y]) i=some a->touchAt t i=some a:=by
  intro i a ha;obtain⟨z,hz,hza⟩:=touch_of ha;rcases getElem?_append_cases hz with⟨_,hz'⟩|⟨_,hzu⟩
  .rw[touchAt_of hz'];exact hza
  .exact(hnt z hzu a hza).elim
 refine⟨h.quiet.app fun op hop b hb _=>(hnt op hop b hb).elim,fun k k1 kj l hl=>?_,fun k k1 kj l hl=>?_,
  fun l ho hs hl=>(h.free l ho hs fun k k1 kj=>⟨fun z=>(hl k k1 (by omega)).1 ((same k kj l).1.2 z),fun z=>(hl k k1 (by omega)).2 ((same k kj l).2.2 z)⟩).app fun op hop b hb _=>(hnt op hop b hb).elim,
  fun l ho hs hl=>(h.mine l ho hs fun k k1 kj z=>hl k k1 (by omega) ((same k kj l).1.2 z)).app fun op hop b hb _ _=>(hnt op hop b hb).elim,fun said=>?_⟩
 .rcases Nat.lt_or_ge j k with hlt|hge
  .obtain rfl:k=j+1:=by omega
   obtain⟨n1,n2,n3⟩:=newOwn l hl;exact fun i a ha e=>fork_knows hx hy h0 hk (h.free l n1 n2 n3 i a (old ha) e)
  .exact(h.own k k1 hge l ((same k hge l).1.1 hl)).app fun op hop b hb _=>(hnt op hop b hb).elim
 .rcases Nat.lt_or_ge j k with hlt|hge
  .obtain rfl:k=j+1:=by omega
   obtain⟨n1,n2,n3⟩:=newRd l hl;exact fun i a ha e hw=>fork_knows hx hy h0 hk (h.mine l n1 n2 n3 i a (old ha) e hw)
  .exact(h.rd k k1 hge l ((same k hge l).2.1 hl)).app fun op hop b hb _ _=>(hnt op hop b hb).elim
 .have e:t++#[x,y]=(t++#[x])++#[y]:=by apply Array.ext';simp
  rw[e];refine noRace_append (g:=j+1) (noRace_append (g:=0) (h.nr said) (fun op hop=>by simp at hop;rw[hop];exact hx.1) (fun i a _ op hop b hb _=>(hnt op (by simp at hop ⊢;exact .inl hop) b hb).elim))
   (fun op hop=>by simp at hop;rw[hop];exact hy.1) (fun i a _ op hop b hb _=>(hnt op (by simp at hop ⊢;exact .inr hop) b hb).elim)
theorem PT.begin{S:Nat->Prop}{B n:Nat}(hP:Past (iD S) B t)(hT:mG n t)(hSh:∀ i a,touchAt t i=some a->¬Sh a.loc):PT (iD S) Sh (fun _ _=>False) (fun _ _=>False) t j:=by
 have kn:∀ l,¬iD S l->Perm t 0 l:=fun l hl i a ha e=>by
  obtain⟨op,hop,hoa⟩:=touch_of ha;have hm:=(hT op (Array.mem_of_getElem? hop)).2 a hoa;rcases hP.known i a ha hm with hk|⟨hs,_⟩
  .exact hk
  .exact absurd (e▸hs) hl
 refine⟨fun i op x hi hx hs=>?_,fun _ _ _ _ h=>h.elim,fun _ _ _ _ h=>h.elim,fun l ho _ _=>kn l ho,fun l ho _ _=>.of (kn l ho),hP.clean⟩
 exact absurd hs (hSh i x (by rw[touchAt_of hi];exact hx))
end
structure Ext(v u:World):Prop where
 size:v.heap.size<=u.heap.size
 block:∀ b,b<v.heap.size->u.heap[b]?=v.heap[b]?
 os:u.os=v.os
 output:u.output=v.output
theorem Ext.refl(v:World):Ext v v:=⟨Nat.le_refl _,fun _ _=>rfl,rfl,rfl⟩
theorem Ext.trans(a b c:World)(h:Ext a b)(k:Ext b c):Ext a c:=
 ⟨Nat.le_trans h.size k.size,fun x hx=>(k.block x (Nat.lt_of_lt_of_le hx h.size)).trans (h.block x hx),k.os.trans h.os,k.output.trans h.output⟩
theorem Ext.twin{v u:World}(h:Twin v u):Ext v u:=⟨by rw[h.heap];exact Nat.le_refl _,fun b _=>by rw[h.heap],h.os,h.output⟩
theorem Ext.cell{v u:World}(h:Ext v u){a:Addr}{x:Value}(hc:v.cell? a=some x):u.cell? a=some x:=by
 have:=h.block a.block (tV hc);rw[<-hc];simp only[World.cell?,this]
theorem Ext.row{v u:World}(h:Ext v u){b:Nat}{o:Obj}(hc:v.heap[b]?=some o):u.heap[b]?=some o:=
 (h.block b (Array.getElem?_eq_some_iff.1 hc).1).trans hc
def pad(v:World)(n:Nat):World:={v with heap:=v.heap++Array.replicate n eU}
theorem uX(v:World)(n:Nat):Ext v (pad v n):=
 ⟨by simp[pad],fun b hb=>by simp only[pad];rw[Array.getElem?_append_left hb],rfl,rfl⟩
def zbD(S:Nat->Prop)(a z:Nat)(b:Nat):Prop:=S b∨(a<=b∧b<z)
section
variable {P:Program}{S:Nat->Prop}
theorem Rel.pad{v W W':World}(h:Rel P S 0 v W)(hg:P.globals.size<=W.heap.size)(hsz:W.heap.size<=W'.heap.size)(hb:∀ b,b<W.heap.size->¬S b->W'.heap[b]?=W.heap[b]?)(hos:W'.os=W.os)(hout:W'.output=W.output) :
  Rel P (zbD S W.heap.size W'.heap.size) 0 (Vw.pad v (W'.heap.size - W.heap.size)) W':=by
 have hs:=h.size;have get:∀ b,(Vw.pad v (W'.heap.size - W.heap.size)).heap[b]?=if b<W.heap.size then v.heap[b]? else if b<W'.heap.size then some eU else none:=by
  intro b;show(v.heap++Array.replicate (W'.heap.size - W.heap.size) eU)[b]?=_;split
  .rename_i hlt;rw[Array.getElem?_append_left (by omega)]
  .rename_i hge;rw[Array.getElem?_append_right (by omega)];split
   .rw[Array.getElem?_replicate,if_pos (by omega)]
   .rw[Array.getElem?_replicate,if_neg (by omega)]
 refine⟨fun j q hj=>by omega,h.os.trans hos.symm,h.output.trans hout.symm,by simp[Vw.pad];omega,fun b hn=>?_,fun b hh=>?_,fun b hn o ho=>?_,fun b hh=>?_⟩
 .have hn1:¬S b:=fun x=>hn (.inl x)
  rw[get];split
  .rename_i hlt;rw[hb b hlt hn1];exact h.seen b hn1
  .rename_i hge;have:¬b<W'.heap.size:=fun x=>hn (.inr ⟨by omega,x⟩)
   rw[if_neg this];exact(Array.getElem?_eq_none (by omega)).symm
 .rw[get];rcases hh with hh|⟨h1,h2⟩
  .rw[if_pos (by have:=h.lt hh;omega)];exact h.hid b hh
  .rw[if_neg (by omega),if_pos h2]
 .have hn1:¬S b:=fun x=>hn (.inl x)
  rw[get]at ho;split at ho
  .exact h.tame b hn1 o ho
  .rename_i hge;have:¬b<W'.heap.size:=fun x=>hn (.inr ⟨by omega,x⟩)
   rw[if_neg this]at ho;cases ho
 .rcases hh with hh|⟨h1,_⟩
  .exact h.high b hh
  .omega
end
section
variable {P:Program}{main:Bool}{R:World->World->Prop}{D:World->World->Array Event->Prop}
theorem Jx{b:Frame}{a:Act}{cs:List Frame}{w:World}{fn:Func}{todo:List Item}{c:Frame}{v:Value}(hn:b.kind=.normal)(hd:a.defers=[])(hf:P.funcs[b.fn]?=some fn)
  (hr:(results fn a.tmps).run P w=.ok v w) :
  stepG P main (G {b.at a todo with mode:=.returning} (c :: cs)) w=.go (G (c.finish v) cs) w (seen P b.fn ((results fn a.tmps).events P w #[])):=by
 simp[G,stepG,unwind,doReturn,Frame.at,hn,hd,hf,hr,GStep.after]
def Fk(P:Program)(R:World->World->Prop)(D:World->World->Array Event->Prop)(f:FuncId)(fn:Func)(Post:Value->World->Prop):Exit->Act->World->Prop
 |.normal,a,w|.ret,a,w=>a.defers=[]∧∀ w₁,R w w₁->∃ v w₂,(results fn a.tmps).run P w₁ = .ok v w₁∧D w₁ w₁ (seen P f ((results fn a.tmps).events P w₁ #[]))∧Post v w₂∧(w₂ = w₁∨R w₂ w₁)
 |_,_,_=>False
def eN(P:Program)(main:Bool)(R:World->World->Prop)(D:World->World->Array Event->Prop)(f:FuncId)(args:Array Value)(n:Nat)(w:World)(Post:Value->World->Prop):Prop:=
 ∃ fn c,P.funcs[f]?=some fn∧(fn.name == "runtime.NumGoroutine")=false∧fn.body=some c∧
  c.wpC P main R D f n (Fk P R D f fn Post) {tmps:=args++Array.replicate (fn.ntmps - args.size) undef,defers:=[]} w
theorem Bi{f:FuncId}{fn:Func}{c:Code}{args:Array Value}{n:Nat}{w:World}{Post:Value->World->Prop}(hf:P.funcs[f]?=some fn)(hname:(fn.name == "runtime.NumGoroutine")=false)(hb:fn.body=some c)
  (h:c.wpC P main R D f n (Fk P R D f fn Post) {tmps:=args++Array.replicate (fn.ntmps - args.size) undef,defers:=[]} w):eN P main R D f args n w Post:=⟨fn,c,hf,hname,hb,h⟩
theorem eN.of_callsC(T:Terms R D){f:FuncId}{args:Array Value}{n:Nat}{w:World}{Post:Value->World->Prop}(h:CallsC P main R D f args n w Post):eN P main R D f args n w Post:=by
 obtain⟨fn,c,hf,hn,hb,hw⟩:=h;refine⟨fn,c,hf,hn,hb,wpC_mono hw fun e a w q=>?_⟩
 have key:(a.defers=[]∧∃ v,ResultsC P fn a.tmps v∧Post v w)->a.defers=[]∧∀ w₁,R w w₁->∃ v w₂,(results fn a.tmps).run P w₁ = .ok v w₁∧D w₁ w₁ (seen P f ((results fn a.tmps).events P w₁ #[]))∧Post v w₂∧(w₂ = w₁∨R w₂ w₁):=by
  rintro⟨hd,v,hr,hp⟩;refine⟨hd,fun w₁ r=>⟨v,w,(hr w₁).1,?_,hp,.inr r⟩⟩
  rw[(hr w₁).2,seen_none];exact T.idle _
 cases e<;>first|exact key q|exact q
theorem eN.mono{f:FuncId}{args:Array Value}{n:Nat}{w:World}{Post Post':Value->World->Prop}(h:eN P main R D f args n w Post)(hp:∀ v w,Post v w->Post' v w):eN P main R D f args n w Post':=by
 obtain⟨fn,c,hf,hn,hb,hw⟩:=h;refine⟨fn,c,hf,hn,hb,wpC_mono hw fun e a w q=>?_⟩
 cases e<;>first
  |exact⟨q.1,fun w₁ r=>by obtain⟨v,w₂,h1,h2,h3,h4⟩:=q.2 w₁ r;exact⟨v,w₂,h1,h2,hp _ _ h3,h4⟩⟩
  |exact q
theorem eN.rely(T:Terms R D){f:FuncId}{args:Array Value}{n:Nat}{w w₁ : World}{Post:Value->World->Prop}(h:eN P main R D f args n w Post)(r:R w w₁):eN P main R D f args n w₁ Post:=by
 obtain⟨g,c,h1,h2,h3,h4⟩:=h;exact⟨g,c,h1,h2,h3,wpC_rely T h4 r⟩
theorem Goes.callW(T:Terms R D){b:Frame}{a:Act}{k:List Item}{cs:List Frame}{w:World}{ops:Array Oper}{i:Nat}{rest:List Nat}{o:Oper}{f:FuncId}{args:Array Operand}{ats:Array TypeId}
  {nf m:Nat} {Post:Value->World->Prop} {Stop:Goroutine->World->Prop}
  (ho:ops[i]?=some o) (hw:Region.wanted o (yielded ops a.tmps)=true) (hk:b.kind≠.early) (hop:o.op=.call {callee:=.value (.func f),args,argTypes:=ats})
  (hcall:eN P main R D f (args.map a.eval) nf w Post)
  (hnext:∀ v w',Post v w'->Goes P main R D Stop m (G (b.at (a.put o.dst v) (.inRegion ops rest :: k)) cs) w') :
  Goes P main R D Stop (m+nf+3) (G (b.at a (.inRegion ops (i :: rest) :: k)) cs) w:=by
 obtain⟨fn,c,hf,hname,hbody,hwp⟩:=hcall;have hfin:∀ v,(b.at a (.inRegion ops (i :: rest) :: k)).finish v=b.at (a.put o.dst v) (.inRegion ops rest :: k):=fun v=>by rw[Frame.finish_at,ho];rfl
 have hleave:∀ (a':Act) (w':World) (todo:List Item),(a'.defers=[]∧∀ w₁,R w' w₁->∃ v w₂,(results fn a'.tmps).run P w₁ = .ok v w₁∧D w₁ w₁ (seen P f ((results fn a'.tmps).events P w₁ #[]))∧Post v w₂∧(w₂ = w₁∨R w₂ w₁))->
   Goes P main R D Stop (m+1) (G {(base f).at a' todo with mode:=.returning} (b.at a (.inRegion ops (i :: rest) :: k) :: cs)) w':=by
  rintro a' w' todo ⟨hd,hq⟩;refine Goes.step rfl fun w₁ h₁=>?_
  obtain⟨v,w₂,hr,hD,hp,hw₂⟩:=hq w₁ h₁;rw[Jx (b:=base f) rfl hd hf hr,hfin];refine⟨hD,?_⟩;rcases hw₂ with rfl|hw₂
  .exact hnext v _ hp
  .exact(hnext v _ hp).rely T.trans hw₂
 have hbodyG:Goes P main R D Stop (m+2+nf) (G ((base f).at {tmps:=args.map a.eval++Array.replicate (fn.ntmps - (args.map a.eval).size) undef,defers:=[]} [.code c]) (b.at a (.inRegion ops (i :: rest) :: k) :: cs)) w:=by
  refine hwp (base f) [] _ Stop (m+2) rfl (by simp[base]) fun e a' w' q=>?_
  cases e with
  |normal=>exact Goes.step rfl fun w₁ h₁=>by rw[stepG_end];exact⟨T.idle _,(hleave a' w' [] q).rely T.trans h₁⟩
  |ret=>exact fun todo=>(hleave a' w' todo q).more
  |exit id=>exact q.elim
  |goto l=>exact q.elim
  |panic ch=>exact q.elim
  |outgrown=>exact q.elim
 have e:m+nf+3=(m+2+nf)+1:=by omega
 rw[e];exact Goes.step rfl fun w₁ h₁=>goes_call ho hw hk hop hf hname hbody ⟨T.idle _,hbodyG.rely T.trans h₁⟩
theorem Pb(T:Terms R D){fn:FuncId}{Q:Exit->Act->World->Prop}{a:Act}{w:World}{ops:Array Oper}{i:Nat}{rest:List Nat}{o:Oper}{f:FuncId}{args:Array Operand}{ats:Array TypeId}{nf n:Nat}{Post:Value->World->Prop}{vs:Array Value}
  (ho:ops[i]?=some o) (hw:Region.wanted o (yielded ops a.tmps)=true) (hop:o.op=.call {callee:=.value (.func f),args,argTypes:=ats})
  (hcall:eN P main R D f vs nf w Post) (hvs:args.map a.eval=vs) (hnext:∀ v w',Post v w'->OpsC P main R D fn ops rest n Q (a.put o.dst v) w'):OpsC P main R D fn ops (i :: rest) (n+nf+3) Q a w:=by
 subst hvs;intro b k cs Stop m hb hk hc;have:=Goes.callW (Stop:=Stop) (m:=m+n) (b:=b) (k:=k) (cs:=cs) T ho hw hk hop hcall fun v w' hp=>hnext v w' hp b k cs Stop m hb hk hc
 exact this.mono (by omega)
end
section
variable {P:Program}{main:Bool}{R:World->World->Prop}{D:World->World->Array Event->Prop}{fn:FuncId}{ops:Array Oper}{Q:Exit->Act->World->Prop}{md:Region.Mode}{S:World->Prop}{N:Nat}
def gV(P:Program)(main:Bool)(R:World->World->Prop)(D:World->World->Array Event->Prop)(fn:FuncId)(ops:Array Oper)(N i:Nat)(K:Act->World->Prop)(a:Act)(w:World):Prop:=
 match ops[i]? with
 |none=>False
 |some o=>
  if Region.wanted o (yielded ops a.tmps) then
   (∀ w₁,R w w₁->uponK o a (fun a' w'=>D w₁ w' (listed P fn a o w₁)∧K a' w') ((execOp a.eval o).run P w₁))∨
   (∃ f args ats nf Post,o.op=.call {callee:=.value (.func f),args,argTypes:=ats}∧nf+3<=N∧eN P main R D f (args.map a.eval) nf w Post∧∀ v w',Post v w'->K (a.put o.dst v) w')
  else K (a.put o.dst undef) w
theorem Hd{i:Nat}{a:Act}{w:World}{K K':Act->World->Prop}(h:∀ a w,K a w->K' a w)(hh:gV P main R D fn ops N i K a w):gV P main R D fn ops N i K' a w:=by
 unfold gV at *
 split
 .simp_all
 .rename_i o ho;simp only[ho]at hh;split
  .rename_i hw;simp only[hw,if_true]at hh;rcases hh with hh|⟨f,args,ats,nf,Post,h1,h2,h3,h4⟩
   .exact .inl fun w₁ h₁=>uponK_mono (fun a' w' x=>⟨x.1,h _ _ x.2⟩) (hh w₁ h₁)
   .exact .inr ⟨f,args,ats,nf,Post,h1,h2,h3,fun v w' hp=>h _ _ (h4 v w' hp)⟩
  .rename_i hw;simp only[hw]at hh;exact h _ _ hh
theorem My(T:Terms R D)(hN:1<=N){i:Nat}{rest:List Nat}{n:Nat}{a:Act}{w:World}(h:gV P main R D fn ops N i (fun a' w'=>OpsC P main R D fn ops rest n Q a' w') a w):OpsC P main R D fn ops (i :: rest) (n+N) Q a w:=by
 unfold gV at h;split at h
 .exact h.elim
 .rename_i o ho;split at h
  .rename_i hw;rcases h with h|⟨f,args,ats,nf,Post,h1,h2,h3,h4⟩
   .exact opsC_more (opsC_cons ho hw h) (by omega)
   .exact opsC_more (Pb T ho hw h1 h3 rfl h4) (by omega)
  .rename_i hw;exact opsC_more (opsC_unwanted T ho (by simpa using hw) h) (by omega)
def dS(P:Program)(main:Bool)(R:World->World->Prop)(D:World->World->Array Event->Prop)(fn:FuncId)(md:Region.Mode)(ops:Array Oper)(Q:Exit->Act->World->Prop)(S:World->Prop)(N:Nat):Nat->Array Bool->Act->World->Prop
 |0,l,a,w=>Region.ready md ops l=[]∧Q .normal a w
 |fuel+1,l,a,w=>
  (Region.ready md ops l=[]->Q .normal a w)∧
  ∀ i∈Region.ready md ops l,gV P main R D fn ops N i (fun a' w'=>S w'∧dS P main R D fn md ops Q S N fuel (l.setIfInBounds i true) a' w') a w
theorem dS.rely(T:Terms R D)(hSR:∀ x y,S x->R x y->S y)(hQR:∀ a x y,Q .normal a x->R x y->Q .normal a y) :
  ∀ (fuel:Nat) (l:Array Bool) (a:Act) (w w₁ : World),dS P main R D fn md ops Q S N fuel l a w->R w w₁->dS P main R D fn md ops Q S N fuel l a w₁
 |0,_,_,_,_,h,r=>⟨h.1,hQR _ _ _ h.2 r⟩
 |fuel+1,l,a,w,w₁,h,r=>⟨fun e=>hQR _ _ _ (h.1 e) r,fun i hi=>by
   have:=h.2 i hi;unfold gV at *
   split
   .simp_all
   .rename_i o ho;simp only[ho]at this;split
    .rename_i hw;simp only[hw,if_true]at this;rcases this with this|⟨f,args,ats,nf,Post,h1,h2,h3,h4⟩
     .exact .inl fun w₂ h₂=>this w₂ (T.trans _ _ _ r h₂)
     .exact .inr ⟨f,args,ats,nf,Post,h1,h2,h3.rely T r,h4⟩
    .rename_i hw;simp only[hw]at this;exact⟨hSR _ _ this.1 r,dS.rely T hSR hQR fuel _ _ _ _ this.2 r⟩⟩
theorem Px(T:Terms R D)(hN:1<=N):∀ (fuel t:Nat) (l:Array Bool) (a:Act) (w:World),dS P main R D fn md ops Q S N fuel l a w->
  OpsC P main R D fn ops (Region.linearise.go md ops fuel t l []) (1+fuel*N) Q a w:=by
 intro fuel;induction fuel with
 |zero=>intro t l a w h;simpa [Region.linearise.go] using opsC_nil T h.2
 |succ fuel ih=>
  intro t l a w h;obtain⟨h₀,h₁⟩:=h;simp only[Region.linearise.go]
  change OpsC P main R D fn ops (match (Region.ready md ops l)[t % (Region.ready md ops l).length]? with
   |some i=>Region.linearise.go md ops fuel (t / (Region.ready md ops l).length) (l.setIfInBounds i true) [i]
   |none=>[].reverse) (1+(fuel+1)*N) Q a w
  cases hi:(Region.ready md ops l)[t % (Region.ready md ops l).length]? with
  |none=>
   have hnil:Region.ready md ops l=[]:=by
    cases hr:Region.ready md ops l with
    |nil=>rfl
    |cons x xs=>
     rw[hr]at hi;have hlt:t % (x :: xs).length<(x :: xs).length:=Nat.mod_lt _ (by simp);rw[List.getElem?_eq_none_iff]at hi;omega
   exact opsC_more (by simpa using opsC_nil T (h₀ hnil)) (by omega)
  |some i=>
   simp only[];rw[linearise_go_acc,List.reverse_singleton,List.singleton_append];have:=My T hN (Hd (fun a' w' x=>ih (t / (Region.ready md ops l).length) _ a' w' x.2) (h₁ i (List.mem_of_getElem? hi)));exact opsC_more this (by rw[Nat.succ_mul];omega)
def sB(P:Program)(main:Bool)(R:World->World->Prop)(D:World->World->Array Event->Prop)(fn:FuncId)(ops:Array Oper)(S:World->Prop)(N:Nat)(o:Oper)(v:Value)(a:Act):Prop:=
 YieldsIfC P D fn ops S o v a∨(Region.wanted o (yielded ops a.tmps)=true∧∃ f args ats nf,o.op=.call {callee:=.value (.func f),args,argTypes:=ats}∧nf+3<=N∧∀ w,S w->eN P main R D f (args.map a.eval) nf w fun x w'=>x=v∧S w'∧R w w')
theorem lQ{f:FuncId}{args:Array Operand}{ats:Array TypeId}{o:Oper}{d:Option Tmp}{a:Act}(v:Value)(e1:o.op=.call {callee:=.value (.func f),args,argTypes:=ats})(h1:∀ x,d=some x->x ∉ o.looksAt ops):args.map (a.put d v).eval=args.map a.eval:=by
 apply Array.map_congr_left;intro x hx;refine Act.eval_put fun y hd hxd=>h1 y hd ?_
 subst hxd;refine List.mem_append_left _ (List.mem_filterMap.2 ⟨.tmp y,?_,rfl⟩);rw[e1];simp[Op.operands,Call.operands,hx]
theorem Eb(T:Terms R D)(hSR:∀ x y,S x->R x y->S y)(hQR:∀ a x y,Q .normal a x->R x y->Q .normal a y){i:Nat}{oi:Oper}{v:Value}(hi:ops[i]?=some oi)
  (hsel:∀ (j:Nat) (o:Oper) cs b,ops[j]?=some o->o.op≠.select cs b) :
  ∀ (fuel:Nat) (l:Array Bool) (a:Act) (w:World),
   (∀ j oj,ops[j]?=some oj->j≠i->l.getD j true=false->(∀ e∈oj.after,Region.binds md e=true->e.on≠i)->oi.apart ops oj=true)->
   i∈Region.ready md ops l->sB P main R D fn ops S N oi v a->S w->
   dS P main R D fn md ops Q S N fuel (l.setIfInBounds i true) (a.put oi.dst v) w->dS P main R D fn md ops Q S N (fuel+1) l a w:=by
 have own:∀ {K:Act->World->Prop} {a:Act} {w:World},(∀ a x y,K a x->R x y->K a y)->sB P main R D fn ops S N oi v a->S w->K (a.put oi.dst v) w->gV P main R D fn ops N i K a w:=by
  intro K a w hK hy hS h;unfold gV;simp only[hi];rcases hy with(⟨hw,hv⟩|⟨hw,rfl⟩)|⟨hw,f,args,ats,nf,e1,e2,e3⟩
  .simp only[hw,if_true];refine .inl fun w₁ h₁=>?_
   rw[(hv w₁ (hSR _ _ hS h₁)).1];exact⟨(hv w₁ (hSR _ _ hS h₁)).2,hK _ _ _ h h₁⟩
  .simp only[hw,Bool.false_eq_true,if_false];exact h
  .simp only[hw,if_true]
   exact .inr ⟨f,args,ats,nf,_,e1,e2,e3 w hS,fun x w' hp=>by
    obtain⟨rfl,_,r⟩:=hp
    exact hK _ _ _ h r⟩
 have hK:∀ fuel l,∀ a x y,(S x∧dS P main R D fn md ops Q S N fuel l a x)->R x y->(S y∧dS P main R D fn md ops Q S N fuel l a y):=
  fun fuel l a x y h r=>⟨hSR _ _ h.1 r,dS.rely T hSR hQR fuel l a x y h.2 r⟩
 have swap:∀ {j:Nat} {oj:Oper} {K:Act->World->Prop} {a:Act} {w:World},ops[j]?=some oj->oi.apart ops oj=true->sB P main R D fn ops S N oi v a->gV P main R D fn ops N j K (a.put oi.dst v) w->
   gV P main R D fn ops N j (fun a' w'=>sB P main R D fn ops S N oi v a'∧K (a'.put oi.dst v) w') a w:=by
  intro j oj K a w hj hap hy h;obtain⟨h1,h2,h3⟩:=Oper.apart_spec hap;have hsi:=fun cs b=>hsel i oi cs b hi
  have hsj:=fun cs b=>hsel j oj cs b hj
  have keep:∀ u,sB P main R D fn ops S N oi v (a.put oj.dst u):=fun u=>by
   rcases hy with hy|⟨hw,f,args,ats,nf,e1,e2,e3⟩
   .exact .inl (hy.of_same (execOp_put oi hsi a oj.dst u h3) (wanted_put oi a oj.dst u h3))
   .exact .inr ⟨by rw[wanted_put oi a oj.dst u h3];exact hw,f,args,ats,nf,e1,e2,fun w hS=>by rw[lQ u e1 h3];exact e3 w hS⟩
  unfold gV at *
  simp only[hj]at *
  rw[wanted_put oj a oi.dst v h1]at h;split
  .rename_i hw;simp only[hw,if_true]at h;rcases h with h|⟨f,args,ats,nf,Post,e1,e2,e3,e4⟩
   .refine .inl fun w₁ h₁=>?_
    have h:=h w₁ h₁;unfold listed at *
    rw[execOp_put oj hsj a oi.dst v h1]at h;generalize (execOp a.eval oj).run P w₁ = r at *
    cases r with
    |ok n w'=>
     cases n<;>simp only[uponK]at h ⊢
     case value u=>exact⟨h.1,keep u,by rw[<-Act.put_comm a v u h2];exact h.2⟩
     case skip=>exact⟨h.1,keep _,by rw[<-Act.put_comm a v undef h2];exact h.2⟩
    |halt x w'=>simp only[uponK]at h
   .refine .inr ⟨f,args,ats,nf,Post,e1,e2,?_,fun u w' hp=>⟨keep u,by rw[<-Act.put_comm a v u h2];exact e4 u w' hp⟩⟩
    have hargs:args.map (a.put oi.dst v).eval=args.map a.eval:=lQ v e1 h1;rw[<-hargs];exact e3
  .rename_i hw;simp only[hw]at h;exact⟨keep _,by rw[<-Act.put_comm a v undef h2];exact h⟩
 intro fuel;induction fuel with
 |zero=>
  intro l a w _ hr hy hS H;refine⟨fun h=>(by rw[h]at hr;cases hr),fun j hj=>?_⟩
  by_cases hji:j=i
  .subst hji;exact own (hK _ _) hy hS ⟨hS,H⟩
  .have:=ready_mono hj hji;rw[H.1]at this;cases this
 |succ fuel ih=>
  intro l a w hfree hr hy hS H;refine⟨fun h=>(by rw[h]at hr;cases hr),fun j hj=>?_⟩
  by_cases hji:j=i
  .subst hji;exact own (hK _ _) hy hS ⟨hS,H⟩
  .have h1:=H.2 j (ready_mono hj hji);obtain⟨hjun,oj,hoj,hall⟩:=mem_ready.1 hj;have hnot:∀ e∈oj.after,Region.binds md e=true->e.on≠i:=fun e he hb heq=>by
    have h1:=hall e he hb;have h0:=(mem_ready.1 hr).1;rw[heq]at h1;rcases Nat.lt_or_ge i l.size with h'|h'
    .simp[h']at h0 h1;rw[h0]at h1;cases h1
    .simp[Array.getElem?_eq_none h']at h1
   have h2:=swap hoj (hfree j oj hoj hji hjun hnot) hy h1;have hfree':∀ k ok,ops[k]?=some ok->k≠i->(l.setIfInBounds j true).getD k true=false->
     (∀ e∈ok.after,Region.binds md e=true->e.on≠i)->oi.apart ops ok=true:=fun k ok hk hki hun hno=>by
    refine hfree k ok hk hki ?_ hno;by_cases hjk:j=k
    .subst hjk;exact hjun
    .rw[getD_set_ne true hjk]at hun;exact hun
   refine Hd (fun a' w' h3=>⟨h3.2.1,ih (l.setIfInBounds j true) a' w' hfree' (ready_mono hr (Ne.symm hji)) h3.1 h3.2.1 ?_⟩) h2;rw[Array.setIfInBounds_comm _ _ hji];exact h3.2.2
theorem dQ(T:Terms R D)(hSR:∀ x y,S x->R x y->S y)(hQR:∀ a x y,Q .normal a x->R x y->Q .normal a y){i:Nat}{oi:Oper}{v:Value}{fuel:Nat}{l:Array Bool}{a:Act}{w:World}(hi:ops[i]?=some oi)
  (hs:Region.noSelect ops=true) (hf:Region.free md ops l i=true) (hr:(Region.ready md ops l).contains i=true)
  (hy:YieldsIfC P D fn ops S oi v a) (hS:S w) (h:dS P main R D fn md ops Q S N fuel (l.setIfInBounds i true) (a.put oi.dst v) w):dS P main R D fn md ops Q S N (fuel+1) l a w:=
 Eb T hSR hQR hi (Region.noSelect_spec hs) fuel l a w (Region.free_spec hi hf) (by simpa using hr) (.inl hy) hS h
theorem oB(T:Terms R D)(hSR:∀ x y,S x->R x y->S y)(hQR:∀ a x y,Q .normal a x->R x y->Q .normal a y){i:Nat}{oi:Oper}{v:Value}{fuel:Nat}{l:Array Bool}{a:Act}{w:World}{f:FuncId}{args:Array Operand}{ats:Array TypeId}{nf:Nat}{vs:Array Value}(hi:ops[i]?=some oi)
  (hs:Region.noSelect ops=true) (hf:Region.free md ops l i=true) (hr:(Region.ready md ops l).contains i=true) (hw:Region.wanted oi (yielded ops a.tmps)=true) (hop:oi.op=.call {callee:=.value (.func f),args,argTypes:=ats}) (hvs:args.map a.eval=vs) (hN:nf+3<=N)
  (hcall:∀ w,S w->eN P main R D f vs nf w fun x w'=>x=v∧S w'∧R w w') (hS:S w) (h:dS P main R D fn md ops Q S N fuel (l.setIfInBounds i true) (a.put oi.dst v) w):dS P main R D fn md ops Q S N (fuel+1) l a w:=
 Eb T hSR hQR hi (Region.noSelect_spec hs) fuel l a w (Region.free_spec hi hf) (by simpa using hr) (.inr ⟨hw,f,args,ats,nf,hop,hN,fun w hS=>by rw[hvs];exact hcall w hS⟩) hS h
theorem zE{rs:List Nat}{fuel:Nat}{l:Array Bool}{a:Act}{w:World}(hr:Region.ready md ops l=rs)(hne:rs≠[])
  (h:∀ i∈rs,gV P main R D fn ops N i (fun a' w'=>S w'∧dS P main R D fn md ops Q S N fuel (l.setIfInBounds i true) a' w') a w):dS P main R D fn md ops Q S N (fuel+1) l a w:=
 ⟨fun h0=>absurd (hr▸h0) hne,hr▸h⟩
theorem yK{l:Array Bool}{a:Act}{w:World}(hr:Region.ready md ops l=[])(h:Q .normal a w):∀ fuel,dS P main R D fn md ops Q S N fuel l a w
 |0=>⟨hr,h⟩
 |_+1=>⟨fun _=>h,fun i hi=>by rw[hr]at hi;cases hi⟩
theorem wJ(T:Terms R D)(hd:LetsDraw D)(hN:1<=N){id:Nat}{a:Act}{w:World}(hm:P.follows .mixedOrders=true)
  (h:∀ w₁,R w w₁->dS P main R D fn .any ops Q S N ops.size (Array.replicate ops.size false) a {w₁ with drawn:=w₁.drawn+1}):(Code.region id ops true).wpC P main R D fn (1+ops.size*N+1) Q a w:=
 wpC_region_draw hd fun w₁ h₁ t=>by
  simp only[Region.schedule,hm,Bool.true_or,if_true];exact Px T hN ops.size t _ a _ (h w₁ h₁)
end
