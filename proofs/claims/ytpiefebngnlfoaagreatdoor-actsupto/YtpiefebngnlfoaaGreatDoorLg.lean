import Derived.Test.YtpiefebngnlfoaaGreatDoorLf
set_option maxRecDepth 99999
set_option maxHeartbeats 0
set_option linter.unusedVariables false
set_option linter.unusedSimpArgs false
namespace Go.Vw
open Go.Conc Go.ConcN
open Go.ConcR (KK WgAt stA smA rd wr mk DC0 Bk g_of_ofEvents ofEvent_mk)
theorem Cl{P:Program}{Stop:Goroutine->(Nat->Prop)->World->Prop}{S:Nat->Prop}{v:World}{gN:Goroutine}(hN:Reach P Stop gN S v):∀(m:Nat)(g:Goroutine)(W:World),Goes P true (λ_ _=>True) DC0 (λg _=>g=gN) m g W->Reach P Stop g S v
 |0,g,W,h=>by obtain rfl:=h W trivial;exact hN
 |m+1,g,W,h=>by
  rcases h with h|⟨dq,h⟩
  .obtain rfl:=h W trivial;exact hN
  .refine gJ dq λW' hR=>?_
   have:=h W' trivial;cases hs:stepG P true g W' with
   |go g' w' es=>rw[hs]at this;obtain⟨⟨rfl,rfl⟩,hg⟩:=this;exact⟨g',w',#[],v,rfl,by simp,ae _,λ_ _=>rfl,hR,Cl hN m g' w' hg⟩
   |_=>rw[hs]at this;exact this.elim
def jE(Γ : Gh)(L:Nat)(b:Nat):Prop:=Γ.Vis 0 b∨∃i,L<=i∧i < Γ.n∧b=Γ.pl i
theorem WS.quits{p:Ph}{Rd:Nat->Prop}{Φ : World->Prop}{v:World}{d:WD}{g:Goroutine}{W:World}(h:WS p Rd Φ v d g W)(hs:d.stage=1):Φ v∧QuitsD p.P d.fuel d.deaf g:=by
 cases h using WS.parts with
 |pre=>simp at hs
 |walk=>simp at hs
 |lib h1 h2=>
  refine⟨h1,?_⟩;generalize d.stage=s at *
  generalize d.fuel=f at *
  generalize d.deaf=e at *
  cases h2 using bT.parts<;>first|(exact absurd hs (by decide))|assumption
section
variable {p:Ph}{Γ : Gh}{gs:Array Goroutine}{W:World}{t:Trace}{a a':Goroutine}{st sm:Int}
theorem Rc(ok:p.Ok)(h:PCom p Γ gs W t 0)(h0:gs[0]?=some a)(gv:WgAt p.ty p.Wg W st sm)(hq:AllQuit Γ.n Γ.D)(iy:∀i,p.L<=i->i < Γ.n->∃c t fr,Γ.res i=.cells c t fr)(dq:a'.status=.running)(fn:FuncId)(pos:String):Comp p.P (hid (jE Γ p.L) W.heap.size) (fE Classical.propDecidable W (jE Γ p.L)) a' ((gs.map (woken p.P a a' W)).setIfInBounds 0 a') W (t++MemOp.ofEvents 0 fn pos #[mk (.acquire (stA p.Wg))]) (λi=>(Γ.D (i-1)).fuel)∧(∀i,p.L<=i->i < Γ.n->(fE Classical.propDecidable W (jE Γ p.L)).heap[Γ.pl i]?=some (Γ.res i))∧(∀b,Γ.Vis 0 b->(fE Classical.propDecidable W (jE Γ p.L)).heap[b]?=(Γ.v 0).heap[b]?):=by
 have hT:=h.terr;have zg:=hT.rel 0 (.inl rfl);have dp:0<gs.size:=by rw[h.size];omega
 have place:∀i,p.L<=i->i < Γ.n->W.heap[Γ.pl i]?=some (Γ.res i)∧Γ.Vis (i+1) (Γ.pl i)∧(Γ.res i).tame:=λi hL hi=>by
  obtain⟨g,hg,hs⟩:=h.wk i hi;obtain⟨hΦ,_⟩:=hs.quits (hq i hi);have hΦ:=hΦ hL;have hk:Wk p.L Γ.n (i+1):=.inr ⟨by omega,by omega⟩;have hR:=hT.rel _ hk;obtain⟨c,ty,fr,hc⟩:=iy i hL hi;have hb:Γ.pl i<W.heap.size:=by rw[<-hR.size];exact(Array.getElem?_eq_some_iff.1 hΦ).1
  have hv:Γ.Vis (i+1) (Γ.pl i):=ar λhn=>by have:=hR.hid _ ⟨hb,hn⟩;rw[hΦ,hc]at this;cases this
  have hn:¬hid (Γ.Vis (i+1)) W.heap.size (Γ.pl i):=λx=>x.2 hv;exact⟨(hR.seen _ hn).symm.trans hΦ,hv,hR.tame _ hn _ hΦ⟩
 have CB:∀b,jE Γ p.L b->¬p.Old b:=λb hb ho=>by
  rcases hb with hb|⟨i,hL,hi,rfl⟩
  .exact h.oldV 0 b (.inl rfl) ho hb
  .exact h.oldV (i+1) _ (.inr ⟨by omega,by omega⟩) ho (place i hL hi).2.1
 have PU:¬jE Γ p.L p.Wg:=λhb=>by
  rcases hb with hb|⟨i,hL,hi,e⟩
  .exact hT.wg 0 (.inl rfl) hb
  .exact hT.wg (i+1) (.inr ⟨by omega,by omega⟩) (e▸(place i hL hi).2.1)
 have pr:=pO gv;refine⟨⟨by simp[dp],⟨λi g hi hg=>?_,λk hk=>?_⟩,?_,?_,?_⟩,λi hL hi=>?_,λb hb=>?_⟩
 .obtain⟨i',rfl⟩:∃i',i=i'+1:=⟨i - 1,by omega⟩;rw[ax (by omega),bj]at hg;obtain⟨x,hx,rfl⟩:=Option.map_eq_some_iff.1 hg;have ft:i' < Γ.n:=by have:=(Array.getElem?_eq_some_iff.1 hx).1;rw[h.size]at this;omega
  obtain⟨y,hy,hs⟩:=h.wk i' ft;obtain rfl:x=y:=by rw[hx]at hy;exact bm hy
  rw[pW hs,Deaf_other t (g':=0) (by omega) _ g_of_ofEvents,h.tc.deafW i' ft];exact(hs.quits (hq i' ft)).2
 .have rf:gs.size<=k:=by simpa using hk
  rw[h.size]at rf;rw[Deaf_other t (g':=0) (by omega) _ g_of_ofEvents];exact h.tc.above k (by omega)
 .have fu:∀e∈#[mk (.acquire (stA p.Wg))],EvS p.Wg e:=by
   intro e he;simp at he;subst he;exact⟨λx hx=>(by simp[mk,MemAct.ofEvent,MemAct.touch?]at hx),λa e=>(by simp[mk]at e),by simp[mk,MemAct.ofEvent,MemAct.low,stA]⟩
  have ly:∀e∈#[mk (.acquire (stA p.Wg))],EvZ p.Wg p.L Γ.n p.Old Γ.Vis Γ.Rd W.heap.size e:=by intro e he;have:=fu e he;refine⟨λx hx=>?_,this.norel,MemAct.low_mono (by omega) this.low⟩;simp at he;subst he;simp[mk,MemAct.ofEvent,MemAct.touch?]at hx
  have tf:=h.tc.app0 (fn:=fn) (pos:=pos) hT (λb=>h.oldV 0 b (.inl rfl)) ok.oldW ly;have hd:deafBehind 0 #[mk (.acquire (stA p.Wg))]=0:=rfl;rw[hd]at tf;have e1:MemOp.ofEvents 0 fn pos #[mk (.acquire (stA p.Wg))]=#[{g:=0,fn,pos,act:=.mark (.acquire (stA p.Wg))}]:=by rw[ofEvents_eq];simp[ofEvent_mk]
  have VC:(t++MemOp.ofEvents 0 fn pos #[mk (.acquire (stA p.Wg))])[t.size]?=some {g:=0,fn,pos,act:=.mark (.acquire (stA p.Wg))}:=by rw[e1];simp
  have Z2:(t++MemOp.ofEvents 0 fn pos #[mk (.acquire (stA p.Wg))]).heard t.size:=⟨0,by rw[g?_of VC],by rw[deaf_old (ae _)];exact h.tc.deaf0⟩;have ahead:∀x k,(t++MemOp.ofEvents 0 fn pos #[mk (.acquire (stA p.Wg))]).g? x=some k->p.L<k->HappensBefore (t++MemOp.ofEvents 0 fn pos #[mk (.acquire (stA p.Wg))]) x t.size∨¬(t++MemOp.ofEvents 0 fn pos #[mk (.acquire (stA p.Wg))]).counts x:=by
   intro x k hk si;obtain⟨op,dm,YM⟩:=Option.map_eq_some_iff.1 hk;have qg:k<=Γ.n:=by have:=(tf.tidy op (Array.mem_of_getElem? dm)).1;omega
   obtain⟨i,rfl⟩:∃i,k=i+1:=⟨k - 1,by omega⟩;obtain⟨r,hr⟩:=h.rel i (by omega) (by omega) (by rw[hq i (by omega)];omega);have Y5:r<t.size:=lt_of_act? hr.act;have OF:=hr.appOther (u:=MemOp.ofEvents 0 fn pos #[mk (.acquire (stA p.Wg))]) g_of_ofEvents (g:=0) (by omega);have edge:HappensBefore (t++MemOp.ofEvents 0 fn pos #[mk (.acquire (stA p.Wg))]) r t.size:=.single (.inr ⟨.marked Y5 (.inr OF.act) (act?_of VC) (λk _ _=>tf.norel k),OF.heard,Z2⟩);rcases Nat.lt_trichotomy x r with dp|rfl|ZN
   .exact .inl (.trans (.single (.inl ⟨dp,i+1,hk,OF.g⟩)) edge)
   .exact .inl edge
   .exact .inr (OF.after x ZN hk)
  refine⟨tf.pt.nr,λx a ha hm=>?_,λx k hk dy hc=>?_,tf.deaf0,tf.seen⟩
  .obtain⟨op,dm,ky⟩:=touch_of ha;rcases Nat.lt_or_ge p.L op.g with JN|JN
   .rcases ahead x op.g (g?_of dm) JN with hb|RI
    .exact .inl ⟨t.size,_,VC,rfl,.inr hb⟩
    .right;have nt:a.kind=.atomic:=ar λhk=>RI ⟨a,ha,hm,.inl hk⟩;obtain⟨ad,hl,yg⟩:=tf.atm x a op.g ha (g?_of dm) JN nt;refine⟨?_,nt⟩;rw[hl];show hid _ _ ad.block;rw[yg];exact⟨pr,PU⟩
   .rcases tf.known x a op.g ha (g?_of dm) JN with hk|⟨hs,nt⟩
    .exact .inl hk
    .refine .inr ⟨?_,nt⟩;cases hl:a.loc with
     |cell ad=>rw[hl]at hs;exact⟨h.oldLt _ hs,λhj=>CB _ hj hs⟩
     |obj r=>rw[hl]at hs;exact⟨h.oldLt _ hs,λhj=>CB _ hj hs⟩
     |output=>rw[hl]at hs;exact hs
     |goroutines=>rw[hl]at hs;exact hs
     |mark m=>rw[hl]at hs;exact hs
  .rcases Nat.lt_or_ge p.L k with JN|JN
   .rcases ahead x k hk JN with hb|RI
    .exact⟨t.size,g?_of VC,hb⟩
    .exact absurd hc RI
   .exact tf.over x k hk (by omega) JN hc
 .have fo:((gs.map (woken p.P a a' W)).setIfInBounds 0 a').size=Γ.n+1:=by simp[h.size]
  rw[fo];intro op dm;rcases Array.mem_append.1 dm with h1|h1
  .exact h.tc.tidy op h1
  .obtain⟨e,he,rfl⟩:=Conc.mem_ofEvents h1;simp at he;subst he;exact⟨Nat.succ_pos _,λx hx=>by simp[mk,MemAct.ofEvent,MemAct.touch?]at hx⟩
 .refine⟨λj q hj=>by omega,rfl,rfl,by simp[fE],λb hb=>?_,λb hb=>?_,λb hb o ho=>?_,λb hb=>?_⟩
  .by_cases hv:jE Γ p.L b
   .exact mC W _ b hv
   .have hl:¬b<W.heap.size:=λhl=>hb ⟨hl,hv⟩;rw[af (by simp[fE];omega),af (by omega)]
  .simp only[fE,Array.getElem?_mapIdx,bf hb.1,bt,ah hb.2]
  .by_cases hv:jE Γ p.L b
   .rw[mC W _ b hv]at ho;rcases hv with hv|⟨i,hL,hi,rfl⟩
    .have hn:¬hid (Γ.Vis 0) W.heap.size b:=λx=>x.2 hv;exact zg.tame b hn o ((zg.seen b hn).trans ho)
    .obtain⟨h1,_,h3⟩:=place i hL hi;rw[h1]at ho;cases ho;exact h3
   .have hl:¬b<W.heap.size:=λhl=>hb ⟨hl,hv⟩;rw[af (by simp[fE];omega)]at ho;cases ho
  .exact zg.high b ⟨hb.1,λx=>hb.2 (.inl x)⟩
 .rw[mC W _ _ (.inr ⟨i,hL,hi,rfl⟩)];exact(place i hL hi).1
 .rw[mC W _ _ (.inl hb)];exact(zg.seen b λx=>x.2 hb).symm
end
open Go.ConcR (KK WgAt stA smA rd wr mk DC0 Bk g_of_ofEvents ofEvent_mk again_blocked)
section
variable (P:Program)(ty:TypeId)(Wg:Nat)(gN:Goroutine)(anch:Goroutine->World->Prop)
def uP(g:Goroutine)(w:World):Prop:=g.status=.running∧∃g',stepG P true g w=.go g' w #[mk (.acquire (stA Wg))]∧g'.status=.running∧∃m,Goes P true (λ_ _=>True) DC0 (λg _=>g=gN) m g' w
def qY(g:Goroutine)(w:World):Prop:=g.status=.running∧∃g',stepG P true g w=.go g' w #[mk .enable]∧∃m,Goes P true (RL ty Wg) DC0 (uP P Wg gN) m g' w
def zW(g:Goroutine)(w:World):Prop:=g.status=.running∧(WgAt ty Wg w 0 0->∃g',stepG P true g w=.go g' w #[rd (stA Wg)]∧∃m,Goes P true (RL ty Wg) DC0 (qY P ty Wg gN) m g' w)
def zV(g:Goroutine)(w:World):Prop:=g.status=.running∧g.offers=none∧((∃st,WgAt ty Wg w st 0)->stepG P true g w=.go {g with status:=.blocked} w #[])∧
 (WgAt ty Wg w 0 1->∃g',stepG P true g w=.go g' (w.setCell (smA Wg) (.int .u32 0)) (semEvents (smA Wg))∧∃m,Goes P true (RL ty Wg) DC0 (zW P ty Wg gN) m g' (w.setCell (smA Wg) (.int .u32 0)))
def zX(g:Goroutine)(w:World):Prop:=g.status=.running∧∃g',stepG P true g w=.go g' w #[mk (.write (smA Wg))]∧∃m,Goes P true (RL ty Wg) DC0 (zV P ty Wg gN) m g' w
def Jb(vs:Nat)(g:Goroutine)(w:World):Prop:=g.status=.running∧∀v:Nat,v<2147483648->WgAt ty Wg w (v*KK) 0->
 (v=vs->∃g',stepG P true g w=.go g' (w.setCell (stA Wg) (.int .u64 (v*KK+1))) #[rd (stA Wg),wr (stA Wg)]∧∃m,Goes P true (RL ty Wg) DC0 (zX P ty Wg gN) m g' (w.setCell (stA Wg) (.int .u64 (v*KK+1))))∧
 (v≠vs->∃g',stepG P true g w=.go g' w #[rd (stA Wg)]∧∃m,Goes P true (RL ty Wg) DC0 anch m g' w)
def uH(g:Goroutine)(w:World):Prop:=g.status=.running∧∀v:Nat,v<2147483648->WgAt ty Wg w (v*KK) 0->∃g',stepG P true g w=.go g' w #[rd (stA Wg)]∧
 (v=0->∃m,Goes P true (RL ty Wg) DC0 (qY P ty Wg gN) m g' w)∧(v≠0->∃m,Goes P true (RL ty Wg) DC0 (Jb P ty Wg gN anch v) m g' w)
def zY(g:Goroutine)(w:World):Prop:=g.status=.running∧∃g',stepG P true g w=.go g' w #[mk .disable]∧∃m,Goes P true (RL ty Wg) DC0 anch m g' w
end
section
variable {p:Ph}{Stop:Goroutine->(Nat->Prop)->World->Prop}{n:Nat}{pl:Nat->Nat}{res:Nat->Obj}{R0:Nat->Prop}{v:World}{gN:Goroutine}{anch:Goroutine->World->Prop}
def mU(p:Ph)(Stop:Goroutine->(Nat->Prop)->World->Prop)(gN:Goroutine)(n:Nat)(pl:Nat->Nat)(res:Nat->Obj)(v:World):Prop:=
 ∀(S':Nat->Prop)(v':World),View p.P S' v'->v.heap.size<=v'.heap.size->v'.os=v.os->v'.output=v.output->(∀(b:Nat)(o:Obj),v.heap[b]?=some o->o.tame->v'.heap[b]?=some o)->(∀i,p.L<=i->i<n->v'.heap[pl i]?=some (res i))->Reach p.P Stop gN S' v'
theorem mZ{ty:TypeId}{Wg:Nat}{Q:World->Prop}{W:World}(h:∀W',RL ty Wg W W'->Q W')(W':World)(r:RL ty Wg W W'):∀UP,RL ty Wg W' UP->Q UP:=λ_ r'=>h _ (RL.trans _ _ _ r r')
theorem R7(ok:p.Ok)(hb:n-p.L<2147483648)(iy:∀i,p.L<=i->i<n->∃c t fr,res i=.cells c t fr)(hB:mU p Stop gN n pl res v):∀a Γ gs W sl t st sm,At p .acq 0 a n pl res R0 v Γ gs W t st sm->(∀W',RL p.ty p.Wg W W'->uP p.P p.Wg gN a W')->dO p.P p.Old p.W0 Stop gs W sl t:=by
 intro a Γ gs W sl t st sm h hs;refine mJ (H:=λW=>∀W',RL p.ty p.Wg W W'->uP p.P p.Wg gN a W') ok (hs W λx=>x).1 (by simp) (by simp[pend];omega) (λW W' r hx=>mZ hx W' r) (λΓ gs W sl t st sm h hs=>?_) Γ gs W sl t st sm h hs;obtain⟨_,g',hgo,OF,m,hm⟩:=hs W λx=>x;obtain⟨hq,rfl,rfl⟩:=h.mode.fin_inv trivial;obtain⟨JS,OH,XN⟩:=Rc ok h.com h.at0 (a':=g') h.wg hq (λi hL hi=>by rw[h.res];exact iy i hL (by rw[<-h.n];exact hi)) OF a.frame.fn a.frame.place;refine⟨_,_,_,runT_crowd_go (P:=p.P) (sl:=sl) (i:=0) h.at0 hgo,?_⟩;have hR:=h.com.terr.rel 0 (.inl rfl);have LI:Reach p.P Stop g' (hid (jE Γ p.L) W.heap.size) (fE Classical.propDecidable W (jE Γ p.L)):=Cl (hB _ _ JS.rel.view ?_ ?_ ?_ ?_ ?_) m g' W hm
 .obtain⟨N,je,W',ju,t',q',g2,S',v',r1,r2,r3,r4⟩:=LI _ W sl _ _ JS;refine⟨N,je,W',ju,t',q',g2,S',v',r1,r2,r3,λb hb=>?_⟩
  have hS:hid (jE Γ p.L) W.heap.size b:=⟨h.com.oldLt b hb,λhj=>by
   rcases hj with hj|⟨i,hL,hi,rfl⟩
   .exact h.com.oldV 0 b (.inl rfl) hb hj
   .obtain⟨gi,ON,XT⟩:=h.com.wk i hi;have hΦ:=(XT.quits (hq i hi)).1 hL;obtain⟨c,ty,fr,hc⟩:=iy i hL (by rw[<-h.n];exact hi);have hk:Wk p.L Γ.n (i+1):=.inr ⟨by omega,by omega⟩;have J6:=h.com.terr.rel _ hk;have hv:Γ.Vis (i+1) (Γ.pl i):=ar λhn=>by
     have:=J6.hid _ ⟨by rw[<-J6.size];exact(Array.getElem?_eq_some_iff.1 hΦ).1,hn⟩;rw[hΦ,h.res,hc]at this;cases this
    exact h.com.oldV (i+1) _ hk hb hv⟩
  exact⟨(r4 b hS).1,(r4 b hS).2.trans (h.com.hold b hb)⟩
 .have h1:=h.ext.size;have h2:=hR.size;show v.heap.size<=(fE Classical.propDecidable W _).heap.size;simp[fE];omega
 .show W.os=v.os;rw[<-hR.os];exact h.ext.os
 .show W.output=v.output;rw[<-hR.output];exact h.ext.output
 .intro b o hc ht;have h1:=h.ext.row hc;have dp:b<W.heap.size:=by rw[<-hR.size];exact(Array.getElem?_eq_some_iff.1 h1).1
  have hv:Γ.Vis 0 b:=ar λhn=>by have:=hR.hid b ⟨dp,hn⟩;rw[h1]at this;cases this;exact ht
  rw[XN b hv];exact h1
 .intro i hL hi;have:=OH i hL (by rw[h.n];exact hi);rwa [h.pl,h.res]at this
theorem Is(ok:p.Ok)(hb:n-p.L<2147483648)(iy:∀i,p.L<=i->i<n->∃c t fr,res i=.cells c t fr)(hB:mU p Stop gN n pl res v):∀a Γ gs W sl t st sm,At p .ke 1 a n pl res R0 v Γ gs W t st sm->(∃m,Goes p.P true (RL p.ty p.Wg) DC0 (qY p.P p.ty p.Wg gN) m a W)->dO p.P p.Old p.W0 Stop gs W sl t:=by
 rintro a Γ gs W sl t st sm h ⟨m,hm⟩;refine gT ok (by simp) (by simp[pend];omega) (λa1 Γ gs W sl t st sm h1 jg=>?_) m a Γ gs W sl t st sm h hm;refine mS (tag':=.acq) (d1:=0) (H:=λW=>∀W',RL p.ty p.Wg W W'->qY p.P p.ty p.Wg gN a1 W') (H':=λa' W'=>∃m,Goes p.P true (RL p.ty p.Wg) DC0 (uP p.P p.Wg gN) m a' W') ok (jg W λx=>x).1 (by simp) (by simp[pend];omega)
  (λW W' r hx=>mZ hx W' r) (λW st sm D gv hm j8 hx=>?_) (λa2 Γ gs W sl t st sm h2 zm=>?_) Γ gs W sl t st sm h1 jg
 .obtain⟨_,g',hg,jh⟩:=hx W λx=>x;obtain⟨hq,rfl,rfl⟩:=hm.fin_inv trivial;exact⟨g',W,_,0,0,hg,.refl _ _,gv,λe he=>jU (bk_en e he),.fin trivial hq,rfl,jh⟩
 obtain⟨m2,xy⟩:=zm;exact gT ok (by simp) (by simp[pend];omega) (λa3 Γ gs W sl t st sm h3 ma=>R7 ok hb iy hB a3 Γ gs W sl t st sm h3 ma) m2 a2 Γ gs W sl t st sm h2 xy
theorem R9(ok:p.Ok)(hb:n-p.L<2147483648)(iy:∀i,p.L<=i->i<n->∃c t fr,res i=.cells c t fr)(hB:mU p Stop gN n pl res v):∀a Γ gs W sl t st sm,At p .w4 1 a n pl res R0 v Γ gs W t st sm->(∃m,Goes p.P true (RL p.ty p.Wg) DC0 (zW p.P p.ty p.Wg gN) m a W)->dO p.P p.Old p.W0 Stop gs W sl t:=by
 rintro a Γ gs W sl t st sm h ⟨m,hm⟩;refine gT ok (by simp) (by simp[pend];omega) (λa1 Γ gs W sl t st sm h1 jg=>?_) m a Γ gs W sl t st sm h hm;refine mS (tag':=.ke) (d1:=1) (H:=λW=>∀W',RL p.ty p.Wg W W'->zW p.P p.ty p.Wg gN a1 W') (H':=λa' W'=>∃m,Goes p.P true (RL p.ty p.Wg) DC0 (qY p.P p.ty p.Wg gN) m a' W') ok (jg W λx=>x).1 (by simp) (by simp[pend];omega)
  (λW W' r hx=>mZ hx W' r) (λW st sm D gv hm j8 hx=>?_) (Is ok hb iy hB) Γ gs W sl t st sm h1 jg
 obtain⟨hq,rfl,rfl⟩:=hm.fin_inv trivial;obtain⟨g',hg,jh⟩:=(hx W λx=>x).2 gv;exact⟨g',W,_,0,0,hg,.refl _ _,gv,λe he=>jU (bk_rd e he),.fin trivial hq,by simp[deafBehind,rd],jh⟩
theorem Mm{Γ : Gh}{gs:Array Goroutine}{W:World}{t:Trace}{d0:Nat}{st sm:Int}(h:PCom p Γ gs W t d0)(hm:ConcN.Mode Γ.n Γ.D .blk st sm):∃(i:Nat)(g:Goroutine),gs[i]?=some g∧g.status=.running:=by
 have of:∀i,i < Γ.n->(Γ.D i).stage≠1->∃(i:Nat)(g:Goroutine),gs[i]?=some g∧g.status=.running:=λi hi dy=>by obtain⟨g,hg,hs⟩:=h.wk i hi;exact⟨i+1,g,hg,hs.run.elim id λx=>absurd x.1 dy⟩
 cases hm with
 |opn h1 _ _=>exact h1.elim
 |reg _ _ h3=>
  refine ar λfe=>?_;have:∀i,i < Γ.n->cnt (Γ.D i)<=0:=λi hi=>by have:(Γ.D i).stage=1:=ar λdy=>fe (of i hi dy);simp[cnt,this]
  have:=sumTo_le (f:=λi=>cnt (Γ.D i)) (c:=0) this;simp only[Vc]at h3;omega
 |last l _ h2 h3 _=>exact of l h2 (by omega)
 |fin h1 _=>exact h1.elim
theorem R_(ok:p.Ok)(hb:n-p.L<2147483648)(iy:∀i,p.L<=i->i<n->∃c t fr,res i=.cells c t fr)(hB:mU p Stop gN n pl res v){g0:Goroutine}(LC:∀W,WgLive p.ty p.Wg W->zV p.P p.ty p.Wg gN g0 W):∀(μ : Nat×Nat)(f:Nat)(a:Goroutine)(tag:CTag) Γ gs W sl t st sm,((a=g0∧tag=.w3∧f=1)∨(a={g0 with status:=.blocked}∧tag=.blk∧f=0))->At p tag 1 a n pl res R0 v Γ gs W t st sm->(Ssum n Γ.D,2*Fsum n Γ.D+f)=μ->dO p.P p.Old p.W0 Stop gs W sl t:=by
 intro μ;induction μ using (Prod.lex Nat.lt_wfRel Nat.lt_wfRel).wf.induction with
 |_ μ ih=>
 intro f a tag Γ gs W sl t st sm ou h hμ;have DJ:WgLive p.ty p.Wg W:=⟨_,_,h.wg⟩;have yu:=(LC W DJ).1;have fy:=(LC W DJ).2.1;have vr:pend tag=0:=by rcases ou with⟨_,rfl,_⟩|⟨_,rfl,_⟩<;>rfl
 have HH:awake a:=by
  rcases ou with⟨rfl,_,_⟩|⟨rfl,_,_⟩
  .exact awake_of (.inl yu)
  .exact λt ht=>by cases ht
 have QM:∃(i:Nat)(g:Goroutine),gs[i]?=some g∧g.status=.running:=by
  rcases ou with⟨rfl,_,_⟩|⟨_,rfl,_⟩
  .exact⟨0,_,h.at0,yu⟩
  .exact Mm h.com h.mode
 obtain⟨i,g,d,ju,hi,hg,ei⟩:=crowd_pick (P:=p.P) (w:=W) (sl:=sl) (Cn h.com h.at0 HH) QM;have h':=h.at d;have ui:0<gs.size:=by rw[h.com.size];omega
 cases i with
 |zero=>
  obtain rfl:g=a:=by rw[h.at0]at hi;exact(bm hi).symm
  rcases ou with⟨rfl,rfl,rfl⟩|⟨rfl,_,_⟩
  .obtain⟨_,_,hblk,IX⟩:=LC (W.at d) ⟨_,_,h'.wg⟩;have wait:sm=0->ConcN.Mode Γ.n Γ.D .blk st sm->dO p.P p.Old p.W0 Stop gs W sl t:=λe0 hm=>by
    subst e0;have hgo:=hblk ⟨st,h'.wg⟩;have iz:=mH ok h'.com h'.wg (a':={g with status:=.blocked}) h.at0 (.refl _ _) h'.wg (es:=#[]) (by simp);refine .step (ei.trans (runT_crowd_go (P:=p.P) (sl:=ju) (i:=0) h.at0 hgo)) (ih _ ?_ 0 _ .blk Γ _ _ ju _ st 0 (.inr ⟨rfl,rfl,rfl⟩) ⟨h.n,h.pl,h.res,h.R0,h.ext,iz,by simp[ui],hm,h'.wg⟩ rfl);rw[<-hμ];refine Prod.Lex.right _ ?_;show 2*Fsum n Γ.D+0<2*Fsum n Γ.D+1;omega
   have ff:=h.mode;cases ff with
   |opn h1 _ _=>exact h1.elim
   |reg h1 h2 h3=>exact wait rfl (.reg trivial h2 h3)
   |last l h1 h2 h3 h4=>exact wait rfl (.last l trivial h2 h3 h4)
   |sema h2=>
    obtain⟨g',hgo,jh⟩:=IX h'.wg;have jv:=h'.wg.setSm 0;have iz:=mH ok h'.com h'.wg (a':=g') h.at0 (aside_setCell (W.at d) (smA p.Wg) _) jv (es:=semEvents (smA p.Wg)) (λe he=>jU (bk_sem e he));have hd:deafBehind 1 (semEvents (smA p.Wg))=1:=by simp[deafBehind,semEvents]
    rw[hd]at iz;exact .step (ei.trans (runT_crowd_go (P:=p.P) (sl:=ju) (i:=0) h.at0 hgo)) (R9 ok hb iy hB g' Γ _ _ ju _ 0 0 ⟨h.n,h.pl,h.res,h.R0,h.ext,iz,by simp[ui],.fin trivial h2,jv⟩ jh)
   |fin h1 _=>exact h1.elim
  .cases hg
 |succ i=>
  have dp:i < Γ.n:=by have:=(Array.getElem?_eq_some_iff.1 hi).1;rw[h.com.size]at this;omega
  obtain⟨Γ',g',W',es,kq,mj,hgo,iz,gv,hm,ee,og,BF⟩:=Bj ok h'.com (by rw[h.n,vr];exact hb) h'.mode h'.wg dp hi hg;have OE:=runT_crowd_go (P:=p.P) (sl:=ju) (i:=i+1) hi (by simpa using hgo);have LY:∀f',f'<=1->Prod.Lex Nat.lt_wfRel.1 Nat.lt_wfRel.1 (Ssum n Γ'.D,2*Fsum n Γ'.D+f') μ:=λf' hf=>by
   rw[<-hμ,<-h.n];rcases og with⟨h1,_⟩|⟨h1,h2,_⟩
   .exact Prod.Lex.left _ _ h1
   .rw[h1];refine Prod.Lex.right _ ?_;show 2*Fsum Γ.n Γ'.D+f'<2*Fsum Γ.n Γ.D+f;omega
  have z6:((gs.map (woken p.P g g' W')).setIfInBounds (i+1) g')[0]?=some (woken p.P g g' W' a):=by rw[ax (by omega),bj,h.at0];rfl
  have go:∀f' a' tag',f'<=1->woken p.P g g' W' a=a'->((a'=g0∧tag'=.w3∧f'=1)∨(a'={g0 with status:=.blocked}∧tag'=.blk∧f'=0))->(tag'=tag∨(tag=.blk∧tag'=.w3))->(mayWake p.P g=true->g'.status=.running->tag'≠.blk)->dO p.P p.Old p.W0 Stop gs W sl t:=by intro f' a' tag' jk VP ek ht hw;exact .step (ei.trans OE) (ih _ (LY f' jk) f' a' tag' Γ' _ W' ju _ kq mj ek ⟨ee.n.trans h.n,ee.pl.trans h.pl,ee.res.trans h.res,by rw[ee.Rd];exact h.R0,h.ext.trans _ _ _ ee.ext,iz,by rw[z6,VP],by rw[ee.n];exact hm tag' ht hw,gv⟩ rfl)
  rcases ou with⟨rfl,rfl,rfl⟩|⟨rfl,rfl,rfl⟩
  .exact go 1 a .w3 (ae _) (woken_run yu) (.inl ⟨rfl,rfl,rfl⟩) (.inl rfl) λ_ _=>by simp
  .by_cases hw:(mayWake p.P g&&g'.status != .blocked&&g'.status != .waiting)=true
   .refine go 1 g0 .w3 (ae _) ?_ (.inl ⟨rfl,rfl,rfl⟩) (.inr ⟨rfl,rfl⟩) λ_ _=>by simp
    unfold woken;rw[ai hw];exact again_blocked yu fy _
   .refine go 0 _ .blk (by omega) ?_ (.inr ⟨rfl,rfl,rfl⟩) (.inl rfl) λh1 h2=>absurd (by simp[h1,h2]) hw;unfold woken;rw[ah hw]
theorem R8(ok:p.Ok)(hb:n-p.L<2147483648)(iy:∀i,p.L<=i->i<n->∃c t fr,res i=.cells c t fr)(hB:mU p Stop gN n pl res v):∀a Γ gs W sl t st sm,At p .w3 1 a n pl res R0 v Γ gs W t st sm->(∃m,Goes p.P true (RL p.ty p.Wg) DC0 (zX p.P p.ty p.Wg gN) m a W)->dO p.P p.Old p.W0 Stop gs W sl t:=by
 rintro a Γ gs W sl t st sm h ⟨m,hm⟩;refine gT ok (by simp) (by simp[pend];omega) (λa1 Γ gs W sl t st sm h1 jg=>?_) m a Γ gs W sl t st sm h hm;refine mS (tag':=.w3) (d1:=1) (H:=λW=>∀W',RL p.ty p.Wg W W'->zX p.P p.ty p.Wg gN a1 W') (H':=λa' W'=>∃m,Goes p.P true (RL p.ty p.Wg) DC0 (zV p.P p.ty p.Wg gN) m a' W') ok (jg W λx=>x).1 (by simp) (by simp[pend];omega)
  (λW W' r hx=>mZ hx W' r) (λW st sm D gv hm j8 hx=>?_) (λa2 Γ gs W sl t st sm h2 zm=>?_) Γ gs W sl t st sm h1 jg
 .obtain⟨_,g',hg,jh⟩:=hx W λx=>x;refine⟨g',W,_,st,sm,hg,.refl _ _,gv,λe he=>?_,hm,rfl,jh⟩;simp at he;subst he;refine⟨λx hx=>?_,λa e=>(by simp[mk]at e),by simp[mk,MemAct.ofEvent,MemAct.low,smA]⟩;simp only[mk,MemAct.ofEvent,MemAct.touch?,cr]at hx;subst hx;exact⟨⟨_,rfl,rfl⟩,by simp⟩
 obtain⟨m2,xy⟩:=zm;refine gT ok (by simp) (by simp[pend];omega) (λa3 Γ gs W sl t st sm h3 ma=>?_) m2 a2 Γ gs W sl t st sm h2 xy;exact R_ ok hb iy hB (g0:=a3) (λW' hl=>ma W' λ_=>hl) _ 1 a3 .w3 Γ gs W sl t st sm (.inl ⟨rfl,rfl,rfl⟩) h3 rfl
theorem Yq(ok:p.Ok)(hb:n-p.L<2147483648)(iy:∀i,p.L<=i->i<n->∃c t fr,res i=.cells c t fr)(hB:mU p Stop gN n pl res v)(s7:∀g w,anch g w->∃m,Goes p.P true (RL p.ty p.Wg) DC0 (uH p.P p.ty p.Wg gN anch) m g w):∀(V:Nat)(tag:CTag),((tag=.w2 V∧1<=V)∨tag=.ke)->∀a Γ gs W sl t st sm,At p tag 1 a n pl res R0 v Γ gs W t st sm->(∃m,Goes p.P true (RL p.ty p.Wg) DC0 anch m a W)->dO p.P p.Old p.W0 Stop gs W sl t:=by
 intro V;induction V using Nat.strongRecOn with
 |ind V ih=>
 rintro tag GB a Γ gs W sl t st sm h ⟨m,hm⟩;have eu:tag≠.blk:=by rcases GB with⟨rfl,_⟩|rfl<;>simp
 have vr:pend tag=0:=by rcases GB with⟨rfl,_⟩|rfl<;>rfl
 refine gT ok eu (by rw[vr];exact hb) (λa1 Γ gs W sl t st sm h1 jg=>?_) m a Γ gs W sl t st sm h hm;obtain⟨m1,VJ⟩:=s7 a1 W (jg W λx=>x);refine gT ok eu (by rw[vr];exact hb) (λa2 Γ gs W sl t st sm h2 pj=>?_) m1 a1 Γ gs W sl t st sm h1 VJ;refine mJ (H:=λW=>∀W',RL p.ty p.Wg W W'->uH p.P p.ty p.Wg gN anch a2 W') ok (pj W λx=>x).1 eu (by rw[vr];exact hb) (λW W' r hx=>mZ hx W' r) (λΓ gs W sl t st sm h hs=>?_) Γ gs W sl t st sm h2 pj;have ui:0<gs.size:=by rw[h.com.size];omega
 have HO:=tT h.com.Ln h.com.old;have KZ:WgAt p.ty p.Wg W (((Vc Γ.n Γ.D:Nat):Int)*KK) 0∧sm=0∧OpenSt Γ.n Γ.D∧(tag=.w2 V->Vc Γ.n Γ.D<=V):=by
  have gv:=h.wg;rcases GB with⟨rfl,_⟩|rfl
  .obtain⟨ho,rfl,rfl,hv⟩:=h.mode.open_inv trivial;exact⟨by simpa [pend] using gv,rfl,ho,λ_=>(hv V rfl).1⟩
  .obtain⟨hq,rfl,rfl⟩:=h.mode.fin_inv trivial;have:Vc Γ.n Γ.D=0:=by
    have:=sumTo_le (f:=λi=>cnt (Γ.D i)) (c:=0) (j:=Γ.n) λi hi=>by simp[cnt,hq i hi]
    simp only[Vc];omega
   rw[this];exact⟨by simpa using gv,rfl,λi hi=>.inr (.inr (.inr (hq i hi))),λe=>by cases e⟩
 obtain⟨qv,rfl,JE,j7⟩:=KZ;obtain⟨g',hgo,hz,yx⟩:=(hs W λx=>x).2 (Vc Γ.n Γ.D) (by rw[h.n]at *;omega) qv;have iz:=mH ok h.com h.wg (a':=g') h.at0 (.refl _ _) h.wg (es:=#[rd (stA p.Wg)]) (λe he=>jU (bk_rd e he));have hd:deafBehind 1 #[rd (stA p.Wg)]=1:=by simp[deafBehind,rd]
 rw[hd]at iz;refine⟨_,_,_,runT_crowd_go (P:=p.P) (sl:=sl) (i:=0) h.at0 hgo,?_⟩;by_cases AS:Vc Γ.n Γ.D=0
 .rw[AS]at qv;exact Is ok hb iy hB g' Γ _ W sl _ 0 0 ⟨h.n,h.pl,h.res,h.R0,h.ext,iz,by simp[ui],.fin trivial (allQuit_of JE AS),by simpa using qv⟩ (hz AS)
 .have CZ:ConcN.Mode Γ.n Γ.D (.w2 (Vc Γ.n Γ.D)) (((Vc Γ.n Γ.D+pend (.w2 (Vc Γ.n Γ.D)):Nat):Int)*KK) 0:=.opn trivial JE (λvs e=>by cases e;omega);obtain⟨m3,xc⟩:=yx AS;have VS:Vc Γ.n Γ.D<=V:=by
   rcases GB with⟨e,_⟩|rfl
   .exact j7 e
   .exfalso;obtain⟨hq,_,_⟩:=h.mode.fin_inv trivial;have:=sumTo_le (f:=λi=>cnt (Γ.D i)) (c:=0) (j:=Γ.n) λi hi=>by simp[cnt,hq i hi]
    simp only[Vc]at AS;omega
  generalize Vc Γ.n Γ.D=vs at CZ xc AS VS qv;refine gT (tag:=.w2 vs) ok (by simp) (by simp[pend];omega) (λa4 Γ gs W sl t st sm h4 AT=>?_) m3 g' Γ _ W sl _ _ 0 ⟨h.n,h.pl,h.res,h.R0,h.ext,iz,by simp[ui],CZ,by simpa [pend] using qv⟩ xc;refine mJ (H:=λW=>∀W',RL p.ty p.Wg W W'->Jb p.P p.ty p.Wg gN anch vs a4 W') ok (AT W λx=>x).1 (by simp) (by simp[pend];omega) (λW W' r hx=>mZ hx W' r) (λΓ gs W sl t st sm h hs=>?_) Γ gs W sl t st sm h4 AT
  have ui:0<gs.size:=by rw[h.com.size];omega
  have HO:=tT h.com.Ln h.com.old;have gv:=h.wg;obtain⟨ho,rfl,rfl,hv⟩:=h.mode.open_inv trivial;have qv:WgAt p.ty p.Wg W (((Vc Γ.n Γ.D:Nat):Int)*KK) 0:=by simpa [pend] using gv
  obtain⟨ZM,RN⟩:=(hs W λx=>x).2 (Vc Γ.n Γ.D) (by rw[h.n]at *;omega) qv;by_cases e:Vc Γ.n Γ.D=vs
  .obtain⟨g5,MH,oy⟩:=ZM e;have jv:=qv.setSt (((Vc Γ.n Γ.D:Nat):Int)*KK+1);have iz:=mH ok h.com gv (a':=g5) h.at0 (aside_setCell W (stA p.Wg) _) jv (es:=#[rd (stA p.Wg),wr (stA p.Wg)]) (λe he=>jU (bk_rw e he));have hd:deafBehind 1 #[rd (stA p.Wg),wr (stA p.Wg)]=1:=by simp[deafBehind,rd,wr]
   rw[hd]at iz;exact⟨_,_,_,runT_crowd_go (P:=p.P) (sl:=sl) (i:=0) h.at0 MH,R8 ok hb iy hB g5 Γ _ _ sl _ _ 0 ⟨h.n,h.pl,h.res,h.R0,h.ext,iz,by simp[ui],.reg trivial ho (by omega),jv⟩ oy⟩
  .obtain⟨g5,MH,oy⟩:=RN e;have iz:=mH ok h.com gv (a':=g5) h.at0 (.refl _ _) gv (es:=#[rd (stA p.Wg)]) (λe he=>jU (bk_rd e he));have hd:deafBehind 1 #[rd (stA p.Wg)]=1:=by simp[deafBehind,rd]
   rw[hd]at iz;refine⟨_,_,_,runT_crowd_go (P:=p.P) (sl:=sl) (i:=0) h.at0 MH,?_⟩;have hle:=(hv vs rfl).1;by_cases QH:Vc Γ.n Γ.D=0
   .refine ih 0 (by omega) .ke (.inr rfl) g5 Γ _ W sl _ 0 0 ⟨h.n,h.pl,h.res,h.R0,h.ext,iz,by simp[ui],.fin trivial (allQuit_of ho QH),?_⟩ oy;rw[QH]at qv;simpa using qv
   .exact ih (Vc Γ.n Γ.D) (by omega) (.w2 (Vc Γ.n Γ.D)) (.inl ⟨rfl,by omega⟩) g5 Γ _ W sl _ _ 0 ⟨h.n,h.pl,h.res,h.R0,h.ext,iz,by simp[ui],.opn trivial ho (λvs e=>by cases e;omega),by simpa [pend] using qv⟩ oy
theorem Mg(ok:p.Ok)(hb:n-p.L+1<2147483648)(iy:∀i,p.L<=i->i<n->∃c t fr,res i=.cells c t fr)(hB:mU p Stop gN n pl res v)(s7:∀g w,anch g w->∃m,Goes p.P true (RL p.ty p.Wg) DC0 (uH p.P p.ty p.Wg gN anch) m g w)
  {a:Goroutine} {m:Nat} (hgo:∀W,WgLive p.ty p.Wg W->Goes p.P true (RL p.ty p.Wg) DC0 (zY p.P p.ty p.Wg anch) m a W):bU p Stop (.sp 0 5) 0 a n pl res R0 v:=by
 intro Γ gs W sl t st sm h;refine gT ok (by simp) (by simp[pend];omega) (λa1 Γ gs W sl t st sm h1 jg=>?_) m a Γ gs W sl t st sm h (hgo W ⟨_,_,h.wg⟩);refine mS (tag':=.w2 (n+1)) (d1:=1) (H:=λW=>∀W',RL p.ty p.Wg W W'->zY p.P p.ty p.Wg anch a1 W') (H':=λa' W'=>∃m,Goes p.P true (RL p.ty p.Wg) DC0 anch m a' W') ok (jg W λx=>x).1 (by simp) (by simp[pend];omega)
  (λW W' r hx=>mZ hx W' r) (λW st sm D gv hm j8 hx=>?_) (Yq ok (by omega) iy hB s7 (n+1) (.w2 (n+1)) (.inl ⟨rfl,by omega⟩)) Γ gs W sl t st sm h1 jg
 obtain⟨_,g',hg,jh⟩:=hx W λx=>x
 have hV:=Vc_le n D;exact⟨g',W,_,st,sm,hg,.refl _ _,gv,λe he=>jU (bk_dis e he),hm.reopen trivial trivial rfl (λvs e=>by cases e;omega),rfl,jh⟩
end
open Go.ConcR (KK WgAt wgBlock stA smA DC0 g_of_ofEvents)
section
variable {P:Program}{F:FuncId->Bool}{Stop:Goroutine->(Nat->Prop)->World->Prop}{g:Goroutine}{S:Nat->Prop}{v:World}
theorem sI(dq:g.status=.running)(ej:∀gs W sl t q,Comp P S v g gs W t q->∃je W' ops,runT P (crowd gs W sl) 0=(.next (crowd je W' sl),ops)∧dO P S W Stop je W' sl (t++ops)):Reach P Stop g S v:=by
 intro gs W sl t q hc;generalize hM:sumTo gs.size q=M;induction M using Nat.strongRecOn generalizing gs W sl t q with
 |ind M QA=>
 obtain⟨h0,hL,hP,hT,hR⟩:=hc;have HH:=wX (P:=P) h0 dq hL;obtain⟨i,g1,d,ju,hi,hg,ei⟩:=crowd_pick (P:=P) (w:=W) (sl:=sl) HH ⟨0,_,h0,dq⟩;rcases Nat.eq_zero_or_pos i with rfl|me
 .obtain⟨je,W',ops,hr,hc⟩:=ej gs (W.at d) ju t q ⟨h0,hL,hP,hT,hR.at d⟩;exact dO.step (ei.trans hr) hc
 .have hq:=hL.old i g1 me hi;have xx:(i==0)=false:=by simp;omega
  have dp:i<gs.size:=(Array.getElem?_eq_some_iff.1 hi).1;cases yv:q i with
  |zero=>rw[yv]at hq;rw[hq.1]at hg;cases hg
  |succ k=>
   rw[yv]at hq;rcases hq with⟨hf,_⟩|⟨_,g',es,lu,CO,qx⟩
   .rw[hf]at hg;cases hg
   have oe:=runT_crowd_go (P:=P) (sl:=ju) (i:=i) hi (by rw[xx];exact CO (W.at d));have fo:((gs.map (woken P g1 g' (W.at d))).setIfInBounds i g').size=gs.size:=by simp
   have xq:sumTo gs.size (upd q i k)+(k+1)=sumTo gs.size q+k:=by have:=sumTo_upd q k id dp;simpa [yv] using this
   have CX:i≠0:=by omega
   exact dO.step (ei.trans oe) (QA (sumTo gs.size (upd q i k)) (by omega) ((gs.map (woken P g1 g' (W.at d))).setIfInBounds i g') (W.at d) ju (t++MemOp.ofEvents i g1.frame.fn g1.frame.place es) (upd q i k)
    ⟨by rw[ax CX,bj,h0];exact congrArg some (woken_run dq),vI hL hi me qx,hP.mute (by omega) lu,by rw[fo];exact xA hT dp lu,hR.at d⟩ (by rw[fo]))
theorem Mc(dq:g.status=.running){g':Goroutine}{ty:TypeId}(ej:∀W,Rel P S 0 v W->stepG P true g W=.go g' (W.alloc (wgBlock ty 0 0)) #[])(qc:P.globals.size<=v.heap.size)
  {wb:Frame} {ds:List Deferred} {fl:List Frame} {Dz K0:Nat} {R0:Nat->Prop} (o9:∃c t fr,v.heap[Dz]?=some (.cells c t fr)) (EI:R0 Dz) (zg:∀b,R0 b->¬S b∧b<v.heap.size) {pl:Nat->Nat} {res:Nat->Obj}
  (hP:∀L W0,bU ⟨P,F,ty,v.heap.size,L,S,wb,ds,fl,Dz,K0,W0⟩ Stop (.sp 0 5) 0 g' L pl res R0 (pad v 1)):Reach P Stop g S v:=by
 refine sI dq λgs W sl t q hc=>?_
 obtain⟨h0,hL,rm,hT,hR⟩:=hc;have hgo:=ej W hR;refine⟨_,_,_,runT_crowd_go (P:=P) (sl:=sl) (i:=0) h0 hgo,?_⟩;have ug:MemOp.ofEvents 0 g.frame.fn g.frame.place #[]=#[]:=by simp[ofEvents_eq]
 rw[ug];have dp:0<gs.size:=(Array.getElem?_eq_some_iff.1 h0).1;have fo:=hR.size;let W':=W.alloc (wgBlock ty 0 0);have AI:W'.heap.size=W.heap.size+1:=by show(W.heap.push _).size=_;simp
 have hold:∀b,b<W.heap.size->W'.heap[b]?=W.heap[b]?:=λb hb=>by show(W.heap.push _)[b]?=_;rw[Array.getElem?_push,ah (by omega)]
 have gv:WgAt ty v.heap.size W' 0 0:=by show(W.heap.push _)[v.heap.size]?=_;rw[fo];simp
 let Γ : Gh:={n:=gs.size-1,D:=λi=>⟨1,q (i+1),Deaf t (i+1)⟩,Vis:=λk b=>k=0∧b<W.heap.size∧¬S b,Rd:=λk b=>k=0∧R0 b,v:=λ_=>pad v 1,pl:=pl,res:=res}
 have TO:Rel P (hid (Γ.Vis 0) W'.heap.size) 0 (pad v 1) W':=by
  have h1:=Rel.pad hR (W':=W') (by rw[<-fo];exact qc) (by omega) (λb hb _=>hold b hb) rfl rfl;rw[show W'.heap.size-W.heap.size=1 by omega]at h1;refine h1.congr λb=>?_
  constructor
  .rintro⟨hb,hn⟩;rcases Nat.lt_or_ge b W.heap.size with hl|hl
   .exact .inl (ar λhs=>hn ⟨rfl,hl,hs⟩)
   .exact .inr ⟨hl,hb⟩
  .rintro(hs|⟨h1,h2⟩)
   .have hb:=hR.lt hs;exact⟨by omega,λx=>x.2.2 hs⟩
   .exact⟨h2,λx=>by have:=x.2.1;omega⟩
 have VQ:∀k,Wk (gs.size-1) (gs.size-1) k->k=0:=λk hk=>hk.elim id λx=>by omega
 have TN:Terr P v.heap.size (Wk (gs.size-1) (gs.size-1)) Γ.Vis Γ.Rd Γ.v W':=by
  refine⟨λk hk=>?_,λk b hk hb=>by have:=hb.2.1;omega,λk hk hb=>by have:=hb.2.1;omega,λk k' b hk rf dy _ _=>?_,λk b hk hb=>?_,by rw[AI];omega⟩
  .obtain rfl:=VQ k hk;exact TO
  .exact absurd ((VQ k hk).trans (VQ k' rf).symm) dy
  .obtain⟨h1,h2⟩:=zg b hb.2;exact⟨hb.1,by omega,h1⟩
 have CE:∀i a,touchAt t i=some a->¬ShN v.heap.size a.loc:=by
  rintro i a ha ⟨ad,hl,yg⟩;obtain⟨op,dm,ky⟩:=touch_of ha;have fq:=rm.seen op (Array.mem_of_getElem? dm);cases ye:op.act with
  |access e=>rw[ye]at ky fq;simp only[MemAct.touch?,cr]at ky;subst ky;simp only at hl;have:e.loc.low W.heap.size:=fq;rw[hl]at this;have:ad.block<W.heap.size:=this;omega
  |mark m=>
   rw[ye]at ky fq;cases m<;>simp only[MemAct.touch?,cr,reduceCtorEq]at ky
   all_goals
    subst ky;simp only[Loc.cell.injEq]at hl;subst hl;have:_<W.heap.size:=fq;omega
  |_=>rw[ye]at ky;simp[MemAct.touch?]at ky
 have QZ:=(PT.begin (Sh:=ShN v.heap.size) (j:=gs.size-1) rm hT CE);have hTC:TCom v.heap.size (gs.size-1) S (gs.size-1) Γ.Vis Γ.Rd W'.heap.size t 0 (λi=>(Γ.D i).deaf):=by
  have e1:qV (gs.size-1) (gs.size-1) Γ.Vis Γ.Rd=λ_ _=>False:=by funext k l;exact propext ⟨λx=>by have:=x.1;have:=x.2.1;omega,False.elim⟩
  have e2:qZ (gs.size-1) (gs.size-1) Γ.Rd=λ_ _=>False:=by funext k l;exact propext ⟨λx=>by have:=x.1;have:=x.2.1;omega,False.elim⟩
  refine⟨by rw[e1,e2];exact QZ,by rw[show gs.size-1+1=gs.size by omega];exact hT,λop dm=>MemAct.low_mono (by omega) (rm.seen op dm),λi hi=>?_,rm.hears,λi hi=>rfl,λk hk=>hL.above k (by omega),λi a k ha hk si=>?_,λi a k ha hk si nt=>?_,λi k hk h0 si hc=>?_⟩
  .obtain⟨op,dm,ky⟩:=Option.map_eq_some_iff.1 hi;have fq:=rm.seen op (Array.mem_of_getElem? dm);rw[ky]at fq;have:(stA v.heap.size).block<W.heap.size:=fq;have:v.heap.size<W.heap.size:=this;omega
  .obtain⟨op,dm,ky⟩:=touch_of ha;exact rm.known i a ha ((hT op (Array.mem_of_getElem? dm)).2 a ky)
  .obtain⟨op,dm,YM⟩:=Option.map_eq_some_iff.1 hk;have:=(hT op (Array.mem_of_getElem? dm)).1;omega
  .exact rm.over i k hk (by omega) hc
 refine hP (gs.size-1) W Γ _ W' sl _ 0 0 ⟨rfl,rfl,rfl,?_,.refl _,⟨?_,ae _,λi hi=>?_,λi hi=>rfl,TN,λk hk=>⟨VQ k hk,EI⟩,?_,by simpa using hTC,λi FB zy=>?_,λk b hk hb hv=>hv.2.2 hb,λb hb=>?_,λb hb=>hold b (by have:=hR.lt hb;omega)⟩,by simp[dp],?_,gv⟩
 .funext b;exact propext ⟨λx=>x.2,λx=>⟨rfl,x⟩⟩
 .simp only[Array.size_setIfInBounds,Array.size_map];show gs.size=gs.size-1+1;omega
 .have ft:i+1<gs.size:=by have:i<gs.size-1:=hi;omega
  have hq:=hL.old (i+1) gs[i+1] (by omega) (bf ft);refine⟨gs[i+1],?_,?_⟩
  .rw[ax (by omega),bj,bf ft,bt];exact congrArg some (woken_quitsD hq)
  .refine .lib (λhL'=>?_) (.quit hq);have:i<gs.size-1:=hi;have:gs.size-1<=i:=hL';omega
 .obtain⟨c,t,fr,hc⟩:=o9;have hn:=(zg Dz EI).1;exact⟨c,t,fr,(hold Dz (by have:=(zg Dz EI).2;omega)).trans ((hR.seen Dz hn).symm.trans hc)⟩
 .have:i<gs.size-1:=zy;have:gs.size-1<=i:=FB;omega
 .have:=hR.lt hb;show b<W'.heap.size;omega
 .have hv:Vc (gs.size-1) Γ.D=0:=by
   have:=sumTo_le (f:=λi=>cnt (Γ.D i)) (c:=0) (j:=gs.size-1) λi hi=>by simp[cnt,Γ]
   simp only[Vc];omega
  have:=ConcN.Mode.opn (j:=gs.size-1) (D:=Γ.D) (tag:=.sp 0 5) trivial (λi hi=>.inr (.inr (.inr rfl))) (by simp);rw[hv]at this;simpa [pend] using this
end
