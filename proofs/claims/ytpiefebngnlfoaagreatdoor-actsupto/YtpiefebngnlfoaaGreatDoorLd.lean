import Derived.Test.YtpiefebngnlfoaaGreatDoorLc
import Derived.Conc.CrowdTrace
import Derived.Conc.CompanyMem
set_option maxRecDepth 99999
set_option maxHeartbeats 0
set_option linter.unusedVariables false
set_option linter.unusedSimpArgs false
namespace Go.Vw
open Go.Conc
def sent:Item:=.code (.refuse "")
def lay(k:List Item)(td:List Item):List Item:=td.dropLast++k
section
variable {P:Program}{F:FuncId->Bool}{S:Nat->Prop}{B:Nat}
end
open Go.ConcN (sumTo upd sumTo_upd upd_ne upd_same)
def iW:Frame->List Frame->Frame
 |fr,[]=>fr
 |_,c::cs=>iW c cs
section
variable {P:Program}{F:FuncId->Bool}{S:Nat->Prop}{B:Nat}
def Through(fn:FuncId)(Q:Exit->Act->World->Prop)(fr:Frame)(inner:List Frame)(v:World):Prop:=
 inner=[]∧fr.fn=fn∧((fr.mode=.run∧fr.todo=[sent]∧Q .normal ⟨fr.tmps,fr.defers⟩ v)∨(fr.mode=.returning∧Q .ret ⟨fr.tmps,fr.defers⟩ v))
end
structure Comp(P:Program)(S:Nat->Prop)(v:World)(g:Goroutine)(gs:Array Goroutine)(W:World)(t:Trace)(q:Nat->Nat):Prop where
 at0:gs[0]?=some g
 leavers:Leavers P t gs q
 past:Past (Shun S) W.heap.size t
 tidy:jZ gs.size t
 rel:Rel P S 0 v W
def Fx(S:Nat->Prop)(W:World)(S':Nat->Prop)(W':World):Prop:=∀b,S b->S' b∧W'.heap[b]?=W.heap[b]?
theorem Fx.refl(S:Nat->Prop)(W:World):Fx S W S W:=λb hb=>⟨hb,rfl⟩
theorem Fx.trans{S S' M6:Nat->Prop}{W W' UP:World}(h:Fx S W S' W')(k:Fx S' W' M6 UP):Fx S W M6 UP:=λb hb=>⟨(k b (h b hb).1).1,(k b (h b hb).1).2.trans (h b hb).2⟩
def Reach(P:Program)(Stop:Goroutine->(Nat->Prop)->World->Prop)(g:Goroutine)(S:Nat->Prop)(v:World):Prop:=
 ∀gs W sl t q,Comp P S v g gs W t q->∃N je W' ju t' q' g' S' v',runNT P N (crowd gs W sl) t=(.next (crowd je W' ju),t')∧Comp P S' v' g' je W' t' q'∧Stop g' S' v'∧Fx S W S' W'
section
variable {P:Program}{F:FuncId->Bool}{Stop wv:Goroutine->(Nat->Prop)->World->Prop}{g:Goroutine}{S:Nat->Prop}{v:World}
theorem Reach.done(h:Stop g S v):Reach P Stop g S v:=λgs W sl t q hc=>⟨0,gs,W,sl,t,q,g,S,v,rfl,hc,h,.refl _ _⟩
theorem Reach.bind(h:Reach P (λg S v=>Reach P Stop g S v) g S v):Reach P Stop g S v:=by intro gs W sl t q hc;obtain⟨N,gs1,W1,U6,t1,q1,g1,S1,v1,r1,c1,h1,f1⟩:=h gs W sl t q hc;obtain⟨M,NO,W2,BX,t2,q2,g2,S2,v2,r2,c2,h2,f2⟩:=h1 gs1 W1 U6 t1 q1 c1;exact⟨N+M,NO,W2,BX,t2,q2,g2,S2,v2,by rw[runNT_add,r1];exact r2,c2,h2,f1.trans f2⟩
theorem Reach.twin{u:World}(t:Twin v u)(h:Reach P Stop g S u):Reach P Stop g S v:=by
 intro gs W sl tr q hc
 have hR:Rel P S 0 u W:=⟨λj q hj=>by omega,t.os.trans hc.rel.os,t.output.trans hc.rel.output,by rw[t.heap];exact hc.rel.size,λb hb=>by rw[t.heap];exact hc.rel.seen b hb,λb hb=>by rw[t.heap];exact hc.rel.hid b hb,
  λb hb o ho=>hc.rel.tame b hb o (by rw[<-t.heap];exact ho),hc.rel.high⟩
 exact h gs W sl tr q ⟨hc.at0,hc.leavers,hc.past,hc.tidy,hR⟩
theorem gJ(dq:g.status=.running)(h:∀W,Rel P S 0 v W->∃g' W' es v',stepG P true g W=.go g' W' es∧(∀e∈es,fI S W'.heap.size e)∧W.heap.size<=W'.heap.size∧(∀b,S b->W'.heap[b]?=W.heap[b]?)∧Rel P S 0 v' W'∧Reach P Stop g' S v'):Reach P Stop g S v:=by
 intro gs W sl t q hc;generalize hM:sumTo gs.size q=M;induction M using Nat.strongRecOn generalizing gs W sl t q with
 |ind M QA=>
 obtain⟨h0,hL,hP,hT,hR⟩:=hc;have HH:=wX (P:=P) h0 dq hL;obtain⟨i,g1,d,ju,hi,hg,ei⟩:=crowd_pick (P:=P) (w:=W) (sl:=sl) HH ⟨0,_,h0,dq⟩;rcases Nat.eq_zero_or_pos i with rfl|me
 .obtain rfl:g1=g:=by rw[h0]at hi;exact(bm hi).symm
  obtain⟨g',W',es,v',hgo,fu,tq,vy,BE,Y8⟩:=h (W.at d) (hR.at d);have oe:=runT_crowd_go (P:=P) (sl:=ju) (i:=0) hi (show stepG P (0==0) g1 (W.at d)=_ from hgo);have dp:0<gs.size:=(Array.getElem?_eq_some_iff.1 h0).1;have MF:W.heap.size<=W'.heap.size:=tq;obtain⟨N,NO,W2,BX,t2,q2,g2,S2,v2,r2,c2,h2,f2⟩:=Y8 ((gs.map (woken P g1 g' W')).setIfInBounds 0 g') W' ju (t++MemOp.ofEvents 0 g1.frame.fn g1.frame.place es) q
   ⟨by simp[dp],Bn dp hL _ _ _ _ _ _,(hP.mono MF).own λe he=>zF (fu e he) (ae _),by simpa using Ew hT dp fu,BE⟩
  refine⟨N+1,NO,W2,BX,t2,q2,g2,S2,v2,?_,c2,h2,Fx.trans (λb hb=>⟨hb,vy b hb⟩) f2⟩;simp only[runNT,ei,oe];exact r2
 .have hq:=hL.old i g1 me hi;have xx:(i==0)=false:=by simp;omega
  have dp:i<gs.size:=(Array.getElem?_eq_some_iff.1 hi).1;cases yv:q i with
  |zero=>rw[yv]at hq;rw[hq.1]at hg;cases hg
  |succ k=>
   rw[yv]at hq;rcases hq with⟨hf,_⟩|⟨_,g',es,lu,CO,qx⟩
   .rw[hf]at hg;cases hg
   have oe:=runT_crowd_go (P:=P) (sl:=ju) (i:=i) hi (by rw[xx];exact CO (W.at d));have fo:((gs.map (woken P g1 g' (W.at d))).setIfInBounds i g').size=gs.size:=by simp
   have xq:sumTo gs.size (upd q i k)+(k+1)=sumTo gs.size q+k:=by have:=sumTo_upd q k id dp;simpa [yv] using this
   have CX:i≠0:=by omega
   obtain⟨N,NO,W2,BX,t2,q2,g2,S2,v2,r2,c2,h2,f2⟩:=QA (sumTo gs.size (upd q i k)) (by omega) ((gs.map (woken P g1 g' (W.at d))).setIfInBounds i g') (W.at d) ju (t++MemOp.ofEvents i g1.frame.fn g1.frame.place es) (upd q i k)
    ⟨by rw[ax CX,bj,h0];exact congrArg some (woken_run dq),vI hL hi me qx,hP.mute (by omega) lu,by rw[fo];exact xA hT dp lu,hR.at d⟩ (by rw[fo])
   refine⟨N+1,NO,W2,BX,t2,q2,g2,S2,v2,?_,c2,h2,f2⟩;simp only[runNT,ei,oe];exact r2
theorem cP{g':Goroutine}(dq:g.status=.running)(h:∀w,stepG P true g w=.go g' w #[])(hr:Reach P Stop g' S v):Reach P Stop g S v:=
 gJ dq λW hR=>⟨g',W,#[],v,h W,by simp,ae _,λ_ _=>rfl,hR,hr⟩
theorem vS{fr c:Frame}{cs:List Frame}{x:Value}(dx:OkFrame P F fr)(hv:View P S v)(hl:fr.leaving P v (.returned x))(hr:Reach P Stop (G (c.finish x) cs) S v):Reach P Stop (G fr (c::cs)) S v:=by
 refine gJ rfl λW hR=>?_;obtain⟨fn,tmps,todo,defers,mode,kind,round⟩:=fr;obtain⟨h1,h2,h3,f,h4,h5⟩:=hl;simp only at h1 h2 h3 h4 h5;subst h1 h2 h3;have sw:Rel P S v.drawn v W:=⟨λj q hj=>by omega,hR.os,hR.output,hR.size,hR.seen,hR.hid,hR.tame,hR.high⟩;have hA:=aA.results (P:=P) (S:=S) f tmps v.drawn v W #[] sw;have e1:=Sem.runT_fst P (results f tmps) v #[];rw[h5]at e1;cases jj:(results f tmps).runT P v #[]with
 |mk r fw=>
 rw[jj]at hA e1;simp only at e1;subst e1;obtain⟨W',e,g⟩:=hA (ae _);refine⟨G (c.finish x) cs,W',seen P fn fw,v,?_,?_,?_,g.hidden,g.rel.zero,hr⟩
 .simp only[G,stepG,unwind,h4,e,doReturn,GStep.after];simp
 .obtain⟨l,el,hl⟩:=g.grow;intro y hy;have:=mem_seen hy;have hm:y∈fw.toList:=by simpa using this
  rw[el]at hm;simp at hm;rw[<-g.rel.size];exact hl y hm
 .rw[<-g.rel.size,hR.size];exact ae _
end
def kB(W:World)(b:Nat):Prop:=∃o,W.heap[b]?=some o∧¬o.tame
def oO:Obj->Bool
 |.view ..=>false
 |.pending ..=>false
 |_=>true
theorem Ey{o:Obj}(h:o.tame):oO o=true:=by cases o<;>first|rfl|exact h.elim
theorem Pj{o:Obj}(h:¬o.tame):oO o=false:=by cases o<;>first|rfl|exact absurd trivial h
def fD(W:World):World:={W with heap:=W.heap.map λo=>if oO o then o else eR}
section
variable {P:Program}{F:FuncId->Bool}
theorem xJ{W:World}(hg:∀b,kB W b->P.globals.size<=b):Rel P (kB W) 0 (fD W) W:=by
 refine⟨λj q hj=>by omega,rfl,rfl,by simp[fD],λb hb=>?_,λb hb=>?_,λb hb o ho=>?_,hg⟩
 .show(W.heap.map _)[b]?=_;rw[bj];cases h:W.heap[b]? with
  |none=>rfl
  |some o=>have:o.tame:=ar λhn=>hb ⟨o,h,hn⟩;simp[Ey this]
 .obtain⟨o,h,hn⟩:=hb;show(W.heap.map _)[b]?=_;rw[bj,h];simp[Pj hn]
 .have qa:(W.heap.map λo=>if oO o then o else eR)[b]?=some o:=ho;rw[bj]at qa;obtain⟨o',h1,h2⟩:=Option.map_eq_some_iff.1 qa;have:o'.tame:=ar λhn=>hb ⟨o',h1,hn⟩;rw[ai (Ey this)]at h2;exact h2▸this
theorem Re(Sh:Loc->Prop)(B:Nat):Past Sh B #[]:=
 ⟨past_nil.clean,λi a ha=>by simp[touchAt,Trace.act?]at ha,past_nil.over,past_nil.hears,by simp⟩
theorem Ka{g:Goroutine}{W:World}{Post:Value->World->Prop}(hg:∀b,kB W b->P.globals.size<=b)
  (h:Reach P (λg' S' v'=>∃fr x,g'=G fr []∧fr.leaving P v' (.returned x)∧P.inits.idxOf? fr.fn=none∧∀W',Rel P S' 0 v' W'->Fx (kB W) W S' W'->Post x W') g (kB W) (fD W)) :
  ∃M last o w' t',runNT P (M+1) (solo g W) #[]=(.ended o w',t')∧runN P M (solo g W)=.next last∧step P last=.ended o w'∧Conc.Good P Post last o w' t':=by
 obtain⟨N,je,W',ju,t',q',g',S',v',r,hc,⟨fr,x,rfl,hl,qb,qy⟩,hfx⟩:=h #[g] W none #[] (λ_=>0) ⟨rfl,leavers_one P g,Re _ _,λop dm=>by simp at dm,xJ hg⟩
 obtain⟨fn,tmps,todo,defers,mode,kind,round⟩:=fr;obtain⟨h1,h2,h3,f,h4,h5⟩:=hl;simp only at h1 h2 h3 h4 h5 qb;subst h1 h2 h3;have uj:∀w,AtRel W' w->AtEnd P (Shun S') W'.heap.size Post (G ⟨fn,tmps,todo,[],.returning,.normal,round⟩ []) w:=by
  rintro _ ⟨d,rfl⟩;have hR:=hc.rel.at d;have sw:Rel P S' v'.drawn v' (W'.at d):=⟨λj q hj=>by omega,hR.os,hR.output,hR.size,hR.seen,hR.hid,hR.tame,hR.high⟩
  have hA:=aA.results (P:=P) (S:=S') f tmps v'.drawn v' (W'.at d) #[] sw;have e1:=Sem.runT_fst P (results f tmps) v' #[];rw[h5]at e1;cases jj:(results f tmps).runT P v' #[]with
  |mk r0 fw=>
  rw[jj]at hA e1;simp only at e1;subst e1;obtain⟨W2,e,gg⟩:=hA (ae _);have vd:W2=W'.at d:=by
   have tw:Twin (W'.at d) W2:=by
    refine⟨?_,gg.rel.os.symm.trans hR.os,gg.rel.output.symm.trans hR.output⟩;apply au;intro b;by_cases hb:S' b
    .exact gg.hidden b hb
    .rw[<-gg.rel.seen b hb,hR.seen b hb]
   exact tw.eq gg.tape (by have:=gg.drawn;omega)
  subst vd;refine⟨rfl,x,seen P fn fw,?_,?_,qy _ hR λb hb=>hfx b hb⟩
  .simp only[G,stepG,unwind,h4,e,doReturn,GStep.after,qb];simp
  .obtain⟨l,el,hl⟩:=gg.grow;intro y hy;have:=mem_seen hy;have hm:y∈fw.toList:=by simpa using this
   rw[el]at hm;simp at hm;refine zF (hl y hm) ?_;rw[hR.size];exact ae _
 obtain⟨M,last,o,w2,t2,a1,a2,a3,a4⟩:=beside_ends (P:=P) (Shun:=Shun S') (B:=W'.heap.size) (D:=λ_ _ es=>∀e∈es,EvL (Shun S') W'.heap.size e) (Post:=Post) (λ_ _ _ h=>h) (sl:=ju) hc.at0 hc.leavers hc.past (n:=0) uj
 refine⟨N+M,last,o,w2,t2,?_,?_,a3,a4⟩
 .rw[Nat.add_assoc,runNT_add];show(match runNT P N (crowd #[g] W none) #[]with|(.next m',t')=>runNT P (M+1) m' t'|r=>r)=_;rw[r];exact a1
 .rw[runN_add,<-runNT_fst P _ _ #[]];show(match (runNT P N (crowd #[g] W none) #[]).1 with|.next m'=>runN P M m'|e=>e)=_;rw[r];exact a2
end
open Go.Conc Go.ConcN
section
variable (Old Sh:Loc->Prop)(Own Rd:Nat->Loc->Prop)
structure PT(t:Trace)(j:Nat):Prop where
 quiet:Quiet Sh t
 own:∀k,1<=k->k<=j->∀l,Own k l->Perm t k l
 rd:∀k,1<=k->k<=j->∀l,Rd k l->PermW t k l
 free:∀l,¬Old l->¬Sh l->(∀k,1<=k->k<=j->¬Own k l∧¬Rd k l)->Perm t 0 l
 mine:∀l,¬Old l->¬Sh l->(∀k,1<=k->k<=j->¬Own k l)->PermW t 0 l
 nr:∀said,¬Race said t
def P0(j:Nat)(op:MemOp):Prop:=
 op.g=0∧∀x,op.act.touch?=some x->¬Old x.loc∧((Sh x.loc∧x.kind≠.plain)∨(¬Sh x.loc∧(∀k,1<=k->k<=j->¬Own k x.loc)∧(x.write=true->∀k,1<=k->k<=j->¬Rd k x.loc)))
def PW(k:Nat)(op:MemOp):Prop:=
 op.g=k∧∀x,op.act.touch?=some x->(Sh x.loc∧x.kind≠.plain∧x.kind≠.said)∨Own k x.loc∨(Rd k x.loc∧x.write=false)
end
section
variable {Old Sh:Loc->Prop}{Own Rd:Nat->Loc->Prop}{t u:Trace}{j:Nat}
theorem PT.app0(A:Apart Sh Own Rd)(h:PT Old Sh Own Rd t j)(hu:∀op∈u,P0 Old Sh Own Rd j op):PT Old Sh Own Rd (t++u) j:=by
 refine⟨h.quiet.app λop dm x hx hs=>?_,λk k1 kj l hl=>(h.own k k1 kj l hl).app λop dm b hb e=>?_,λk k1 kj l hl=>(h.rd k k1 kj l hl).app λop dm b hb e hw=>?_,
  λl ho hs hl=>(h.free l ho hs hl).app λop dm _ _ _=>(hu op dm).1,λl ho hs hl=>(h.mine l ho hs hl).app λop dm _ _ _ _=>(hu op dm).1,λsaid=>?_⟩
 .rcases((hu op dm).2 x hx).2 with⟨_,hk⟩|⟨hn,_⟩
  .exact⟨hk,λ_=>(hu op dm).1⟩
  .exact absurd hs hn
 .rcases((hu op dm).2 b hb).2 with⟨hs,_⟩|⟨_,hn,_⟩
  .exact absurd (e▸hs) (A.ownSh k l hl)
  .exact absurd (e▸hl) (hn k k1 kj)
 .rcases((hu op dm).2 b hb).2 with⟨hs,_⟩|⟨_,_,hn⟩
  .exact absurd (e▸hs) (A.rdSh k l hl)
  .exact absurd (e▸hl) (hn hw k k1 kj)
 .refine noRace_append (h.nr said) (λop dm=>(hu op dm).1) (λi a ha op dm b hb hc=>?_);obtain⟨fe,ou⟩:=(hu op dm).2 b hb;rcases ou with⟨hs,hk⟩|⟨hs,gm,hnr⟩
  .exact h.quiet.known hs hk (λ_=>rfl) i a ha hc
  .cases OQ:b.write with
   |true=>exact h.free b.loc fe hs (λk k1 kj=>⟨gm k k1 kj,hnr OQ k k1 kj⟩) i a ha hc.1
   |false=>exact h.mine b.loc fe hs gm i a ha hc.1 (hc.2.2.1.resolve_right (by simp[OQ]))
theorem PT.appW(A:Apart Sh Own Rd)(h:PT Old Sh Own Rd t j){k:Nat}(k1:1<=k)(kj:k<=j)(hu:∀op∈u,PW Sh Own Rd k op):PT Old Sh Own Rd (t++u) j:=by
 refine⟨h.quiet.app λop dm x hx hs=>?_,λk' WX WV l hl=>(h.own k' WX WV l hl).app λop dm b hb e=>?_,λk' WX WV l hl=>(h.rd k' WX WV l hl).app λop dm b hb e hw=>?_,
  λl ho hs hl=>(h.free l ho hs hl).app λop dm b hb e=>?_,λl ho hs hl=>(h.mine l ho hs hl).app λop dm b hb e hw=>?_,λsaid=>?_⟩
 .rcases(hu op dm).2 x hx with⟨_,hk,hn⟩|ho|⟨hr,_⟩
  .exact⟨hk,λe=>absurd e hn⟩
  .exact absurd hs (A.ownSh k _ ho)
  .exact absurd hs (A.rdSh k _ hr)
 .rcases(hu op dm).2 b hb with⟨hs,_⟩|ho|⟨hr,_⟩
  .exact absurd (e▸hs) (A.ownSh k' l hl)
  .rw[(hu op dm).1];exact A.own k k' l (e▸ho) hl
  .exact absurd (e▸hr) (A.ownRd k' k l hl)
 .rcases(hu op dm).2 b hb with⟨hs,_⟩|ho|⟨_,hr⟩
  .exact absurd (e▸hs) (A.rdSh k' l hl)
  .exact absurd hl (A.ownRd k k' l (e▸ho))
  .rw[hr]at hw;cases hw
 .rcases(hu op dm).2 b hb with⟨im,_⟩|qa|⟨hr,_⟩
  .exact absurd (e▸im) hs
  .exact absurd (e▸qa) (hl k k1 kj).1
  .exact absurd (e▸hr) (hl k k1 kj).2
 .rcases(hu op dm).2 b hb with⟨im,_⟩|qa|⟨_,hr⟩
  .exact absurd (e▸im) hs
  .exact absurd (e▸qa) (hl k k1 kj)
  .rw[hr]at hw;cases hw
 .refine noRace_append (h.nr said) (λop dm=>(hu op dm).1) (λi a ha op dm b hb hc=>?_);rcases(hu op dm).2 b hb with⟨hs,hk,hn⟩|ho|⟨hr,OQ⟩
  .exact h.quiet.known hs hk (λe=>absurd e hn) i a ha hc
  .exact h.own k k1 kj b.loc ho i a ha hc.1
  .exact h.rd k k1 kj b.loc hr i a ha hc.1 (hc.2.2.1.resolve_right (by simp[OQ]))
theorem PT.grow{ym ER:Nat->Loc->Prop}(h:PT Old Sh Own Rd t j)(fresh:∀k l,ym k l->Own k l∨∀i a,touchAt t i=some a->a.loc≠l)(more:∀k l,Own k l->ym k l)(BY:∀k l,ER k l↔Rd k l):PT Old Sh ym ER t j:=by
 have none:∀{g:Nat}{l:Loc},(∀i a,touchAt t i=some a->a.loc≠l)->Perm t g l:=λhn i a ha e=>absurd e (hn i a ha)
 refine⟨h.quiet,λk k1 kj l hl=>(fresh k l hl).elim (h.own k k1 kj l) none,λk k1 kj l hl=>h.rd k k1 kj l ((BY k l).1 hl),λl ho hs hl=>h.free l ho hs λk k1 kj=>⟨λx=>(hl k k1 kj).1 (more k l x),λx=>(hl k k1 kj).2 ((BY k l).2 x)⟩,
  λl ho hs hl=>h.mine l ho hs λk k1 kj x=>hl k k1 kj (more k l x),h.nr⟩
theorem PT.fork{ym ER:Nat->Loc->Prop}(h:PT Old Sh Own Rd t j){x y:MemOp}(hx:x.g=0∧x.act=.go (j+1))(hy:y.g=j+1∧y.act=.start)(h0:Deaf t 0=0)(hk:Deaf t (j+1)=0)
  (same:∀k,k<=j->∀l,(ym k l↔Own k l)∧(ER k l↔Rd k l))
  (xj:∀l,ym (j+1) l->¬Old l∧¬Sh l∧∀k,1<=k->k<=j->¬Own k l∧¬Rd k l) (CC:∀l,ER (j+1) l->¬Old l∧¬Sh l∧∀k,1<=k->k<=j->¬Own k l):PT Old Sh ym ER (t++#[x,y]) (j+1):=by
 have pk:∀op∈#[x,y],∀b,op.act.touch?=some b->False:=by
  intro op dm b hb;simp only[List.mem_toArray,az,List.not_mem_nil,or_false]at dm;rcases dm with rfl|rfl
  .rw[hx.2]at hb;cases hb
  .rw[hy.2]at hb;cases hb
 have old:∀{i:Nat}{a:Touch},touchAt (t++#[x,y]) i=some a->touchAt t i=some a:=by
  intro i a ha;obtain⟨z,hz,D6⟩:=touch_of ha;rcases getElem?_append_cases hz with⟨_,xl⟩|⟨_,CG⟩
  .rw[touchAt_of xl];exact D6
  .exact(pk z CG a D6).elim
 refine⟨h.quiet.app λop dm b hb _=>(pk op dm b hb).elim,λk k1 kj l hl=>?_,λk k1 kj l hl=>?_,
  λl ho hs hl=>(h.free l ho hs λk k1 kj=>⟨λz=>(hl k k1 (by omega)).1 ((same k kj l).1.2 z),λz=>(hl k k1 (by omega)).2 ((same k kj l).2.2 z)⟩).app λop dm b hb _=>(pk op dm b hb).elim,
  λl ho hs hl=>(h.mine l ho hs λk k1 kj z=>hl k k1 (by omega) ((same k kj l).1.2 z)).app λop dm b hb _ _=>(pk op dm b hb).elim,λsaid=>?_⟩
 .rcases Nat.lt_or_ge j k with dp|rj
  .obtain rfl:k=j+1:=by omega
   obtain⟨n1,n2,n3⟩:=xj l hl;exact λi a ha e=>fork_knows hx hy h0 hk (h.free l n1 n2 n3 i a (old ha) e)
  .exact(h.own k k1 rj l ((same k rj l).1.1 hl)).app λop dm b hb _=>(pk op dm b hb).elim
 .rcases Nat.lt_or_ge j k with dp|rj
  .obtain rfl:k=j+1:=by omega
   obtain⟨n1,n2,n3⟩:=CC l hl;exact λi a ha e hw=>fork_knows hx hy h0 hk (h.mine l n1 n2 n3 i a (old ha) e hw)
  .exact(h.rd k k1 rj l ((same k rj l).2.1 hl)).app λop dm b hb _ _=>(pk op dm b hb).elim
 .have e:t++#[x,y]=(t++#[x])++#[y]:=by apply Array.ext';simp
  rw[e];refine noRace_append (g:=j+1) (noRace_append (g:=0) (h.nr said) (λop dm=>by simp at dm;rw[dm];exact hx.1) (λi a _ op dm b hb _=>(pk op (by simp at dm⊢;exact .inl dm) b hb).elim))
   (λop dm=>by simp at dm;rw[dm];exact hy.1) (λi a _ op dm b hb _=>(pk op (by simp at dm⊢;exact .inr dm) b hb).elim)
theorem PT.begin{S:Nat->Prop}{B n:Nat}(hP:Past (Shun S) B t)(hT:jZ n t)(hSh:∀i a,touchAt t i=some a->¬Sh a.loc):PT (Shun S) Sh (λ_ _=>False) (λ_ _=>False) t j:=by
 have kn:∀l,¬Shun S l->Perm t 0 l:=λl hl i a ha e=>by
  obtain⟨op,dm,ky⟩:=touch_of ha;have hm:=(hT op (Array.mem_of_getElem? dm)).2 a ky;rcases hP.known i a ha hm with hk|⟨hs,_⟩
  .exact hk
  .exact absurd (e▸hs) hl
 refine⟨λi op x hi hx hs=>?_,λ_ _ _ _ h=>h.elim,λ_ _ _ _ h=>h.elim,λl ho _ _=>kn l ho,λl ho _ _=>.of (kn l ho),hP.clean⟩;exact absurd hs (hSh i x (by rw[touchAt_of hi];exact hx))
end
structure Ext(v u:World):Prop where
 size:v.heap.size<=u.heap.size
 block:∀b,b<v.heap.size->u.heap[b]?=v.heap[b]?
 os:u.os=v.os
 output:u.output=v.output
theorem Ext.refl(v:World):Ext v v:=⟨ae _,λ_ _=>rfl,rfl,rfl⟩
theorem Ext.trans(a b c:World)(h:Ext a b)(k:Ext b c):Ext a c:=
 ⟨ak h.size k.size,λx hx=>(k.block x (bg hx h.size)).trans (h.block x hx),k.os.trans h.os,k.output.trans h.output⟩
theorem Ext.twin{v u:World}(h:Twin v u):Ext v u:=⟨by rw[h.heap];exact ae _,λb _=>by rw[h.heap],h.os,h.output⟩
theorem Ext.cell{v u:World}(h:Ext v u){a:Addr}{x:Value}(hc:v.cell? a=some x):u.cell? a=some x:=by have:=h.block a.block (sL hc);rw[<-hc];simp only[World.cell?,this]
theorem Ext.row{v u:World}(h:Ext v u){b:Nat}{o:Obj}(hc:v.heap[b]?=some o):u.heap[b]?=some o:=
 (h.block b (Array.getElem?_eq_some_iff.1 hc).1).trans hc
def pad(v:World)(n:Nat):World:={v with heap:=v.heap++Array.replicate n eR}
theorem tL(v:World)(n:Nat):Ext v (pad v n):=
 ⟨by simp[pad],λb hb=>by simp only[pad];rw[Array.getElem?_append_left hb],rfl,rfl⟩
def Q2(S:Nat->Prop)(a z:Nat)(b:Nat):Prop:=S b∨(a<=b∧b<z)
section
variable {P:Program}{S:Nat->Prop}
theorem Rel.pad{v W W':World}(h:Rel P S 0 v W)(hg:P.globals.size<=W.heap.size)(fo:W.heap.size<=W'.heap.size)(hb:∀b,b<W.heap.size->¬S b->W'.heap[b]?=W.heap[b]?)(Z9:W'.os=W.os)(uf:W'.output=W.output):Rel P (Q2 S W.heap.size W'.heap.size) 0 (Vw.pad v (W'.heap.size-W.heap.size)) W':=by
 have hs:=h.size;have get:∀b,(Vw.pad v (W'.heap.size-W.heap.size)).heap[b]?=if b<W.heap.size then v.heap[b]? else if b<W'.heap.size then some eR else none:=by
  intro b;show(v.heap++Array.replicate (W'.heap.size-W.heap.size) eR)[b]?=_;split
  .rename_i dp;rw[Array.getElem?_append_left (by omega)]
  .rename_i rj;rw[Array.getElem?_append_right (by omega)];split
   .rw[Array.getElem?_replicate,ai (by omega)]
   .rw[Array.getElem?_replicate,ah (by omega)]
 refine⟨λj q hj=>by omega,h.os.trans Z9.symm,h.output.trans uf.symm,by simp[Vw.pad];omega,λb hn=>?_,λb hh=>?_,λb hn o ho=>?_,λb hh=>?_⟩
 .have jb:¬S b:=λx=>hn (.inl x);rw[get];split
  .rename_i dp;rw[hb b dp jb];exact h.seen b jb
  .rename_i rj;have:¬b<W'.heap.size:=λx=>hn (.inr ⟨by omega,x⟩);rw[ah this];exact(af (by omega)).symm
 .rw[get];rcases hh with hh|⟨h1,h2⟩
  .rw[ai (by have:=h.lt hh;omega)];exact h.hid b hh
  .rw[ah (by omega),ai h2]
 .have jb:¬S b:=λx=>hn (.inl x);rw[get]at ho;split at ho
  .exact h.tame b jb o ho
  .rename_i rj;have:¬b<W'.heap.size:=λx=>hn (.inr ⟨by omega,x⟩);rw[ah this]at ho;cases ho
 .rcases hh with hh|⟨h1,_⟩
  .exact h.high b hh
  .omega
end
section
variable {P:Program}{main:Bool}{R:World->World->Prop}{D:World->World->Array Event->Prop}
theorem Jk{b:Frame}{a:Act}{cs:List Frame}{w:World}{fn:Func}{todo:List Item}{c:Frame}{v:Value}(hn:b.kind=.normal)(hd:a.defers=[])(hf:P.funcs[b.fn]?=some fn)
  (hr:(results fn a.tmps).run P w=.ok v w) :
  stepG P main (G {b.at a todo with mode:=.returning} (c::cs)) w=.go (G (c.finish v) cs) w (seen P b.fn ((results fn a.tmps).events P w #[])):=by
 simp[G,stepG,unwind,doReturn,Frame.at,hn,hd,hf,hr,GStep.after]
def Ep(P:Program)(R:World->World->Prop)(D:World->World->Array Event->Prop)(f:FuncId)(fn:Func)(Post:Value->World->Prop):Exit->Act->World->Prop
 |.normal,a,w|.ret,a,w=>a.defers=[]∧∀w₁,R w w₁->∃v w₂,(results fn a.tmps).run P w₁ = .ok v w₁∧D w₁ w₁ (seen P f ((results fn a.tmps).events P w₁ #[]))∧Post v w₂∧(w₂ = w₁∨R w₂ w₁)
 |_,_,_=>False
def eL(P:Program)(main:Bool)(R:World->World->Prop)(D:World->World->Array Event->Prop)(f:FuncId)(args:Array Value)(n:Nat)(w:World)(Post:Value->World->Prop):Prop:=
 ∃fn c,P.funcs[f]?=some fn∧(fn.name == "runtime.NumGoroutine")=false∧fn.body=some c∧
  c.wpC P main R D f n (Ep P R D f fn Post) {tmps:=args++Array.replicate (fn.ntmps-args.size) undef,defers:=[]} w
theorem Am{f:FuncId}{fn:Func}{c:Code}{args:Array Value}{n:Nat}{w:World}{Post:Value->World->Prop}(hf:P.funcs[f]?=some fn)(fv:(fn.name == "runtime.NumGoroutine")=false)(hb:fn.body=some c)
  (h:c.wpC P main R D f n (Ep P R D f fn Post) {tmps:=args++Array.replicate (fn.ntmps-args.size) undef,defers:=[]} w):eL P main R D f args n w Post:=⟨fn,c,hf,fv,hb,h⟩
theorem eL.of_callsC(T:Terms R D){f:FuncId}{args:Array Value}{n:Nat}{w:World}{Post:Value->World->Prop}(h:CallsC P main R D f args n w Post):eL P main R D f args n w Post:=by
 obtain⟨fn,c,hf,hn,hb,hw⟩:=h;refine⟨fn,c,hf,hn,hb,wpC_mono hw λe a w q=>?_⟩;have key:(a.defers=[]∧∃v,ResultsC P fn a.tmps v∧Post v w)->a.defers=[]∧∀w₁,R w w₁->∃v w₂,(results fn a.tmps).run P w₁ = .ok v w₁∧D w₁ w₁ (seen P f ((results fn a.tmps).events P w₁ #[]))∧Post v w₂∧(w₂ = w₁∨R w₂ w₁):=by rintro⟨hd,v,hr,hp⟩;refine⟨hd,λw₁ r=>⟨v,w,(hr w₁).1,?_,hp,.inr r⟩⟩;rw[(hr w₁).2,seen_none];exact T.idle _
 cases e<;>first|exact key q|exact q
theorem eL.mono{f:FuncId}{args:Array Value}{n:Nat}{w:World}{Post wx:Value->World->Prop}(h:eL P main R D f args n w Post)(hp:∀v w,Post v w->wx v w):eL P main R D f args n w wx:=by
 obtain⟨fn,c,hf,hn,hb,hw⟩:=h;refine⟨fn,c,hf,hn,hb,wpC_mono hw λe a w q=>?_⟩;cases e<;>first
  |exact⟨q.1,λw₁ r=>by obtain⟨v,w₂,h1,h2,h3,h4⟩:=q.2 w₁ r;exact⟨v,w₂,h1,h2,hp _ _ h3,h4⟩⟩
  |exact q
theorem eL.rely(T:Terms R D){f:FuncId}{args:Array Value}{n:Nat}{w w₁ : World}{Post:Value->World->Prop}(h:eL P main R D f args n w Post)(r:R w w₁):eL P main R D f args n w₁ Post:=by obtain⟨g,c,h1,h2,h3,h4⟩:=h;exact⟨g,c,h1,h2,h3,wpC_rely T h4 r⟩
theorem Goes.callW(T:Terms R D){b:Frame}{a:Act}{k:List Item}{cs:List Frame}{w:World}{ops:Array Oper}{i:Nat}{rest:List Nat}{o:Oper}{f:FuncId}{args:Array Operand}{gq:Array TypeId}
  {nf m:Nat} {Post:Value->World->Prop} {Stop:Goroutine->World->Prop}
  (ho:ops[i]?=some o) (hw:Region.wanted o (yielded ops a.tmps)=true) (hk:b.kind≠.early) (dm:o.op=.call {callee:=.value (.func f),args,argTypes:=gq})
  (jm:eL P main R D f (args.map a.eval) nf w Post)
  (ee:∀v w',Post v w'->Goes P main R D Stop m (G (b.at (a.put o.dst v) (.inRegion ops rest::k)) cs) w') :
  Goes P main R D Stop (m+nf+3) (G (b.at a (.inRegion ops (i::rest)::k)) cs) w:=by
 obtain⟨fn,c,hf,fv,TC,X0⟩:=jm;have ij:∀v,(b.at a (.inRegion ops (i::rest)::k)).finish v=b.at (a.put o.dst v) (.inRegion ops rest::k):=λv=>by rw[Frame.finish_at,ho];rfl
 have DO:∀(a':Act)(w':World)(todo:List Item),(a'.defers=[]∧∀w₁,R w' w₁->∃v w₂,(results fn a'.tmps).run P w₁ = .ok v w₁∧D w₁ w₁ (seen P f ((results fn a'.tmps).events P w₁ #[]))∧Post v w₂∧(w₂ = w₁∨R w₂ w₁))->
   Goes P main R D Stop (m+1) (G {(base f).at a' todo with mode:=.returning} (b.at a (.inRegion ops (i::rest)::k)::cs)) w':=by
  rintro a' w' todo ⟨hd,hq⟩;refine Goes.step rfl λw₁ h₁=>?_
  obtain⟨v,w₂,hr,hD,hp,hw₂⟩:=hq w₁ h₁;rw[Jk (b:=base f) rfl hd hf hr,ij];refine⟨hD,?_⟩;rcases hw₂ with rfl|hw₂
  .exact ee v _ hp
  .exact(ee v _ hp).rely T.trans hw₂
 have MU:Goes P main R D Stop (m+2+nf) (G ((base f).at {tmps:=args.map a.eval++Array.replicate (fn.ntmps-(args.map a.eval).size) undef,defers:=[]} [.code c]) (b.at a (.inRegion ops (i::rest)::k)::cs)) w:=by
  refine X0 (base f) [] _ Stop (m+2) rfl (by simp[base]) λe a' w' q=>?_
  cases e with
  |normal=>exact Goes.step rfl λw₁ h₁=>by rw[stepG_end];exact⟨T.idle _,(DO a' w' [] q).rely T.trans h₁⟩
  |ret=>exact λtodo=>(DO a' w' todo q).more
  |exit id=>exact q.elim
  |goto l=>exact q.elim
  |panic ch=>exact q.elim
  |outgrown=>exact q.elim
 have e:m+nf+3=(m+2+nf)+1:=by omega
 rw[e];exact Goes.step rfl λw₁ h₁=>goes_call ho hw hk dm hf fv TC ⟨T.idle _,MU.rely T.trans h₁⟩
theorem Od(T:Terms R D){fn:FuncId}{Q:Exit->Act->World->Prop}{a:Act}{w:World}{ops:Array Oper}{i:Nat}{rest:List Nat}{o:Oper}{f:FuncId}{args:Array Operand}{gq:Array TypeId}{nf n:Nat}{Post:Value->World->Prop}{vs:Array Value}
  (ho:ops[i]?=some o) (hw:Region.wanted o (yielded ops a.tmps)=true) (dm:o.op=.call {callee:=.value (.func f),args,argTypes:=gq})
  (jm:eL P main R D f vs nf w Post) (qe:args.map a.eval=vs) (ee:∀v w',Post v w'->OpsC P main R D fn ops rest n Q (a.put o.dst v) w'):OpsC P main R D fn ops (i::rest) (n+nf+3) Q a w:=by
 subst qe;intro b k cs Stop m hb hk hc;have:=Goes.callW (Stop:=Stop) (m:=m+n) (b:=b) (k:=k) (cs:=cs) T ho hw hk dm jm λv w' hp=>ee v w' hp b k cs Stop m hb hk hc
 exact this.mono (by omega)
end
section
variable {P:Program}{main:Bool}{R:World->World->Prop}{D:World->World->Array Event->Prop}{fn:FuncId}{ops:Array Oper}{Q:Exit->Act->World->Prop}{md:Region.Mode}{S:World->Prop}{N:Nat}
def gH(P:Program)(main:Bool)(R:World->World->Prop)(D:World->World->Array Event->Prop)(fn:FuncId)(ops:Array Oper)(N i:Nat)(K:Act->World->Prop)(a:Act)(w:World):Prop:=
 match ops[i]? with
 |none=>False
 |some o=>
  if Region.wanted o (yielded ops a.tmps) then
   (∀w₁,R w w₁->uponK o a (λa' w'=>D w₁ w' (listed P fn a o w₁)∧K a' w') ((execOp a.eval o).run P w₁))∨
   (∃f args gq nf Post,o.op=.call {callee:=.value (.func f),args,argTypes:=gq}∧nf+3<=N∧eL P main R D f (args.map a.eval) nf w Post∧∀v w',Post v w'->K (a.put o.dst v) w')
  else K (a.put o.dst undef) w
theorem Ge{i:Nat}{a:Act}{w:World}{K K':Act->World->Prop}(h:∀a w,K a w->K' a w)(hh:gH P main R D fn ops N i K a w):gH P main R D fn ops N i K' a w:=by
 unfold gH at *
 split
 .simp_all
 .rename_i o ho;simp only[ho]at hh;split
  .rename_i hw;simp only[hw,if_true]at hh;rcases hh with hh|⟨f,args,gq,nf,Post,h1,h2,h3,h4⟩
   .exact .inl λw₁ h₁=>uponK_mono (λa' w' x=>⟨x.1,h _ _ x.2⟩) (hh w₁ h₁)
   .exact .inr ⟨f,args,gq,nf,Post,h1,h2,h3,λv w' hp=>h _ _ (h4 v w' hp)⟩
  .rename_i hw;simp only[hw]at hh;exact h _ _ hh
theorem Mi(T:Terms R D)(hN:1<=N){i:Nat}{rest:List Nat}{n:Nat}{a:Act}{w:World}(h:gH P main R D fn ops N i (λa' w'=>OpsC P main R D fn ops rest n Q a' w') a w):OpsC P main R D fn ops (i::rest) (n+N) Q a w:=by
 unfold gH at h;split at h
 .exact h.elim
 .rename_i o ho;split at h
  .rename_i hw;rcases h with h|⟨f,args,gq,nf,Post,h1,h2,h3,h4⟩
   .exact opsC_more (opsC_cons ho hw h) (by omega)
   .exact opsC_more (Od T ho hw h1 h3 rfl h4) (by omega)
  .rename_i hw;exact opsC_more (opsC_unwanted T ho (by simpa using hw) h) (by omega)
def dU(P:Program)(main:Bool)(R:World->World->Prop)(D:World->World->Array Event->Prop)(fn:FuncId)(md:Region.Mode)(ops:Array Oper)(Q:Exit->Act->World->Prop)(S:World->Prop)(N:Nat):Nat->Array Bool->Act->World->Prop
 |0,l,a,w=>Region.ready md ops l=[]∧Q .normal a w
 |fuel+1,l,a,w=>
  (Region.ready md ops l=[]->Q .normal a w)∧
  ∀i∈Region.ready md ops l,gH P main R D fn ops N i (λa' w'=>S w'∧dU P main R D fn md ops Q S N fuel (l.setIfInBounds i true) a' w') a w
theorem dU.rely(T:Terms R D)(zc:∀x y,S x->R x y->S y)(EJ:∀a x y,Q .normal a x->R x y->Q .normal a y):∀(fuel:Nat)(l:Array Bool)(a:Act)(w w₁ : World),dU P main R D fn md ops Q S N fuel l a w->R w w₁->dU P main R D fn md ops Q S N fuel l a w₁
 |0,_,_,_,_,h,r=>⟨h.1,EJ _ _ _ h.2 r⟩
 |fuel+1,l,a,w,w₁,h,r=>⟨λe=>EJ _ _ _ (h.1 e) r,λi hi=>by
   have:=h.2 i hi;unfold gH at *
   split
   .simp_all
   .rename_i o ho;simp only[ho]at this;split
    .rename_i hw;simp only[hw,if_true]at this;rcases this with this|⟨f,args,gq,nf,Post,h1,h2,h3,h4⟩
     .exact .inl λw₂ h₂=>this w₂ (T.trans _ _ _ r h₂)
     .exact .inr ⟨f,args,gq,nf,Post,h1,h2,h3.rely T r,h4⟩
    .rename_i hw;simp only[hw]at this;exact⟨zc _ _ this.1 r,dU.rely T zc EJ fuel _ _ _ _ this.2 r⟩⟩
theorem Oz(T:Terms R D)(hN:1<=N):∀(fuel t:Nat)(l:Array Bool)(a:Act)(w:World),dU P main R D fn md ops Q S N fuel l a w->OpsC P main R D fn ops (Region.linearise.go md ops fuel t l []) (1+fuel*N) Q a w:=by
 intro fuel;induction fuel with
 |zero=>intro t l a w h;simpa [Region.linearise.go] using opsC_nil T h.2
 |succ fuel ih=>
  intro t l a w h;obtain⟨h₀,h₁⟩:=h;simp only[Region.linearise.go]
  change OpsC P main R D fn ops (match (Region.ready md ops l)[t%(Region.ready md ops l).length]? with
   |some i=>Region.linearise.go md ops fuel (t/(Region.ready md ops l).length) (l.setIfInBounds i true) [i]
   |none=>[].reverse) (1+(fuel+1)*N) Q a w
  cases hi:(Region.ready md ops l)[t%(Region.ready md ops l).length]? with
  |none=>
   have jy:Region.ready md ops l=[]:=by
    cases hr:Region.ready md ops l with
    |nil=>rfl
    |cons x xs=>rw[hr]at hi;have dp:t%(x::xs).length<(x::xs).length:=Nat.mod_lt _ (by simp);rw[List.getElem?_eq_none_iff]at hi;omega
   exact opsC_more (by simpa using opsC_nil T (h₀ jy)) (by omega)
  |some i=>simp only[];rw[linearise_go_acc,List.reverse_singleton,List.singleton_append];have:=Mi T hN (Ge (λa' w' x=>ih (t/(Region.ready md ops l).length) _ a' w' x.2) (h₁ i (al hi)));exact opsC_more this (by rw[Nat.succ_mul];omega)
def qH(P:Program)(main:Bool)(R:World->World->Prop)(D:World->World->Array Event->Prop)(fn:FuncId)(ops:Array Oper)(S:World->Prop)(N:Nat)(o:Oper)(v:Value)(a:Act):Prop:=
 YieldsIfC P D fn ops S o v a∨(Region.wanted o (yielded ops a.tmps)=true∧∃f args gq nf,o.op=.call {callee:=.value (.func f),args,argTypes:=gq}∧nf+3<=N∧∀w,S w->eL P main R D f (args.map a.eval) nf w λx w'=>x=v∧S w'∧R w w')
theorem lE{f:FuncId}{args:Array Operand}{gq:Array TypeId}{o:Oper}{d:Option Tmp}{a:Act}(v:Value)(e1:o.op=.call {callee:=.value (.func f),args,argTypes:=gq})(h1:∀x,d=some x->x ∉ o.looksAt ops):args.map (a.put d v).eval=args.map a.eval:=by apply Array.map_congr_left;intro x hx;refine Act.eval_put λy hd W_=>h1 y hd ?_;subst W_;refine List.mem_append_left _ (List.mem_filterMap.2 ⟨.tmp y,?_,rfl⟩);rw[e1];simp[Op.operands,Call.operands,hx]
theorem Dd(T:Terms R D)(zc:∀x y,S x->R x y->S y)(EJ:∀a x y,Q .normal a x->R x y->Q .normal a y){i:Nat}{oi:Oper}{v:Value}(hi:ops[i]?=some oi)
  (qw:∀(j:Nat)(o:Oper) cs b,ops[j]?=some o->o.op≠.select cs b) :
  ∀(fuel:Nat)(l:Array Bool)(a:Act)(w:World),
   (∀j oj,ops[j]?=some oj->j≠i->l.getD j true=false->(∀e∈oj.after,Region.binds md e=true->e.on≠i)->oi.apart ops oj=true)->
   i∈Region.ready md ops l->qH P main R D fn ops S N oi v a->S w->
   dU P main R D fn md ops Q S N fuel (l.setIfInBounds i true) (a.put oi.dst v) w->dU P main R D fn md ops Q S N (fuel+1) l a w:=by
 have own:∀{K:Act->World->Prop}{a:Act}{w:World},(∀a x y,K a x->R x y->K a y)->qH P main R D fn ops S N oi v a->S w->K (a.put oi.dst v) w->gH P main R D fn ops N i K a w:=by
  intro K a w hK hy hS h;unfold gH;simp only[hi];rcases hy with(⟨hw,hv⟩|⟨hw,rfl⟩)|⟨hw,f,args,gq,nf,e1,e2,e3⟩
  .simp only[hw,if_true];refine .inl λw₁ h₁=>?_
   rw[(hv w₁ (zc _ _ hS h₁)).1];exact⟨(hv w₁ (zc _ _ hS h₁)).2,hK _ _ _ h h₁⟩
  .simp only[hw,ay,if_false];exact h
  .simp only[hw,if_true]
   exact .inr ⟨f,args,gq,nf,_,e1,e2,e3 w hS,λx w' hp=>by
    obtain⟨rfl,_,r⟩:=hp
    exact hK _ _ _ h r⟩
 have hK:∀fuel l,∀a x y,(S x∧dU P main R D fn md ops Q S N fuel l a x)->R x y->(S y∧dU P main R D fn md ops Q S N fuel l a y):=
  λfuel l a x y h r=>⟨zc _ _ h.1 r,dU.rely T zc EJ fuel l a x y h.2 r⟩
 have swap:∀{j:Nat}{oj:Oper}{K:Act->World->Prop}{a:Act}{w:World},ops[j]?=some oj->oi.apart ops oj=true->qH P main R D fn ops S N oi v a->gH P main R D fn ops N j K (a.put oi.dst v) w->
   gH P main R D fn ops N j (λa' w'=>qH P main R D fn ops S N oi v a'∧K (a'.put oi.dst v) w') a w:=by
  intro j oj K a w hj qj hy h;obtain⟨h1,h2,h3⟩:=Oper.apart_spec qj;have XT:=λcs b=>qw i oi cs b hi
  have E7:=λcs b=>qw j oj cs b hj
  have keep:∀u,qH P main R D fn ops S N oi v (a.put oj.dst u):=λu=>by
   rcases hy with hy|⟨hw,f,args,gq,nf,e1,e2,e3⟩
   .exact .inl (hy.of_same (execOp_put oi XT a oj.dst u h3) (wanted_put oi a oj.dst u h3))
   .exact .inr ⟨by rw[wanted_put oi a oj.dst u h3];exact hw,f,args,gq,nf,e1,e2,λw hS=>by rw[lE u e1 h3];exact e3 w hS⟩
  unfold gH at *
  simp only[hj]at *
  rw[wanted_put oj a oi.dst v h1]at h;split
  .rename_i hw;simp only[hw,if_true]at h;rcases h with h|⟨f,args,gq,nf,Post,e1,e2,e3,e4⟩
   .refine .inl λw₁ h₁=>?_
    have h:=h w₁ h₁;unfold listed at *
    rw[execOp_put oj E7 a oi.dst v h1]at h;generalize (execOp a.eval oj).run P w₁ = r at *
    cases r with
    |ok n w'=>
     cases n<;>simp only[uponK]at h⊢
     case value u=>exact⟨h.1,keep u,by rw[<-Act.put_comm a v u h2];exact h.2⟩
     case skip=>exact⟨h.1,keep _,by rw[<-Act.put_comm a v undef h2];exact h.2⟩
    |halt x w'=>simp only[uponK]at h
   .refine .inr ⟨f,args,gq,nf,Post,e1,e2,?_,λu w' hp=>⟨keep u,by rw[<-Act.put_comm a v u h2];exact e4 u w' hp⟩⟩
    have JW:args.map (a.put oi.dst v).eval=args.map a.eval:=lE v e1 h1;rw[<-JW];exact e3
  .rename_i hw;simp only[hw]at h;exact⟨keep _,by rw[<-Act.put_comm a v undef h2];exact h⟩
 intro fuel;induction fuel with
 |zero=>
  intro l a w _ hr hy hS H;refine⟨λh=>(by rw[h]at hr;cases hr),λj hj=>?_⟩
  by_cases jz:j=i
  .subst jz;exact own (hK _ _) hy hS ⟨hS,H⟩
  .have:=ready_mono hj jz;rw[H.1]at this;cases this
 |succ fuel ih=>
  intro l a w mh hr hy hS H;refine⟨λh=>(by rw[h]at hr;cases hr),λj hj=>?_⟩
  by_cases jz:j=i
  .subst jz;exact own (hK _ _) hy hS ⟨hS,H⟩
  .have h1:=H.2 j (ready_mono hj jz);obtain⟨rh,oj,vt,fa⟩:=mem_ready.1 hj;have qz:∀e∈oj.after,Region.binds md e=true->e.on≠i:=λe he hb heq=>by
    have h1:=fa e he hb;have h0:=(mem_ready.1 hr).1;rw[heq]at h1;rcases Nat.lt_or_ge i l.size with h'|h'
    .simp[h']at h0 h1;rw[h0]at h1;cases h1
    .simp[af h']at h1
   have h2:=swap vt (mh j oj vt jz rh qz) hy h1;have np:∀k ok,ops[k]?=some ok->k≠i->(l.setIfInBounds j true).getD k true=false->
     (∀e∈ok.after,Region.binds md e=true->e.on≠i)->oi.apart ops ok=true:=λk ok hk VG ik fe=>by
    refine mh k ok hk VG ?_ fe;by_cases G8:j=k
    .subst G8;exact rh
    .rw[getD_set_ne true G8]at ik;exact ik
   refine Ge (λa' w' h3=>⟨h3.2.1,ih (l.setIfInBounds j true) a' w' np (ready_mono hr (Ne.symm jz)) h3.1 h3.2.1 ?_⟩) h2;rw[Array.setIfInBounds_comm _ _ jz];exact h3.2.2
theorem dR(T:Terms R D)(zc:∀x y,S x->R x y->S y)(EJ:∀a x y,Q .normal a x->R x y->Q .normal a y){i:Nat}{oi:Oper}{v:Value}{fuel:Nat}{l:Array Bool}{a:Act}{w:World}(hi:ops[i]?=some oi)
  (hs:Region.noSelect ops=true) (hf:Region.free md ops l i=true) (hr:(Region.ready md ops l).contains i=true)
  (hy:YieldsIfC P D fn ops S oi v a) (hS:S w) (h:dU P main R D fn md ops Q S N fuel (l.setIfInBounds i true) (a.put oi.dst v) w):dU P main R D fn md ops Q S N (fuel+1) l a w:=
 Dd T zc EJ hi (Region.noSelect_spec hs) fuel l a w (Region.free_spec hi hf) (by simpa using hr) (.inl hy) hS h
theorem nQ(T:Terms R D)(zc:∀x y,S x->R x y->S y)(EJ:∀a x y,Q .normal a x->R x y->Q .normal a y){i:Nat}{oi:Oper}{v:Value}{fuel:Nat}{l:Array Bool}{a:Act}{w:World}{f:FuncId}{args:Array Operand}{gq:Array TypeId}{nf:Nat}{vs:Array Value}(hi:ops[i]?=some oi)
  (hs:Region.noSelect ops=true) (hf:Region.free md ops l i=true) (hr:(Region.ready md ops l).contains i=true) (hw:Region.wanted oi (yielded ops a.tmps)=true) (dm:oi.op=.call {callee:=.value (.func f),args,argTypes:=gq}) (qe:args.map a.eval=vs) (hN:nf+3<=N)
  (jm:∀w,S w->eL P main R D f vs nf w λx w'=>x=v∧S w'∧R w w') (hS:S w) (h:dU P main R D fn md ops Q S N fuel (l.setIfInBounds i true) (a.put oi.dst v) w):dU P main R D fn md ops Q S N (fuel+1) l a w:=
 Dd T zc EJ hi (Region.noSelect_spec hs) fuel l a w (Region.free_spec hi hf) (by simpa using hr) (.inr ⟨hw,f,args,gq,nf,dm,hN,λw hS=>by rw[qe];exact jm w hS⟩) hS h
theorem yJ{rs:List Nat}{fuel:Nat}{l:Array Bool}{a:Act}{w:World}(hr:Region.ready md ops l=rs)(dy:rs≠[])
  (h:∀i∈rs,gH P main R D fn ops N i (λa' w'=>S w'∧dU P main R D fn md ops Q S N fuel (l.setIfInBounds i true) a' w') a w):dU P main R D fn md ops Q S N (fuel+1) l a w:=
 ⟨λh0=>absurd (hr▸h0) dy,hr▸h⟩
theorem xP{l:Array Bool}{a:Act}{w:World}(hr:Region.ready md ops l=[])(h:Q .normal a w):∀fuel,dU P main R D fn md ops Q S N fuel l a w
 |0=>⟨hr,h⟩
 |_+1=>⟨λ_=>h,λi hi=>by rw[hr]at hi;cases hi⟩
theorem uW(T:Terms R D)(hd:LetsDraw D)(hN:1<=N){id:Nat}{a:Act}{w:World}(hm:P.follows .mixedOrders=true)
  (h:∀w₁,R w w₁->dU P main R D fn .any ops Q S N ops.size (Array.replicate ops.size false) a {w₁ with drawn:=w₁.drawn+1}):(Code.region id ops true).wpC P main R D fn (1+ops.size*N+1) Q a w:=
 wpC_region_draw hd λw₁ h₁ t=>by simp only[Region.schedule,hm,Bool.true_or,if_true];exact Oz T hN ops.size t _ a _ (h w₁ h₁)
end
