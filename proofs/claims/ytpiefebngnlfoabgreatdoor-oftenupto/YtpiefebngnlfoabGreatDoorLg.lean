import Derived.Test.YtpiefebngnlfoabGreatDoorLf
set_option maxRecDepth 99999
set_option maxHeartbeats 0
set_option linter.unusedVariables false
set_option linter.unusedSimpArgs false
namespace Go.Vw
open Go.Conc Go.ConcN
open Go.ConcR (KK WgAt stA smA rd wr mk DC0 Bk g_of_ofEvents ofEvent_mk)
theorem Dc{P:Program}{Stop:Goroutine->(Nat->Prop)->World->Prop}{S:Nat->Prop}{v:World}{gN:Goroutine}(hN:Reach P Stop gN S v):∀ (m:Nat) (g:Goroutine) (W:World),Goes P true (fun _ _=>True) DC0 (fun g _=>g=gN) m g W->Reach P Stop g S v
 |0,g,W,h=>by obtain rfl:=h W trivial;exact hN
 |m+1,g,W,h=>by
  rcases h with h|⟨hrun,h⟩
  .obtain rfl:=h W trivial;exact hN
  .refine gV hrun fun W' hR=>?_
   have:=h W' trivial;cases hs:stepG P true g W' with
   |go g' w' es=>
    rw[hs]at this;obtain⟨⟨rfl,rfl⟩,hg⟩:=this;exact⟨g',w',#[],v,rfl,by simp,Nat.le_refl _,fun _ _=>rfl,hR,Dc hN m g' w' hg⟩
   |_=>rw[hs]at this;exact this.elim
def jN(Γ : Gh)(L:Nat)(b:Nat):Prop:=Γ.Vis 0 b∨∃ i,L<=i∧i < Γ.n∧b=Γ.pl i
theorem WS.quits{p:Ph}{Rd:Nat->Prop}{Φ : World->Prop}{v:World}{d:WD}{g:Goroutine}{W:World}(h:WS p Rd Φ v d g W)(hs:d.stage=1):Φ v∧QuitsD p.P d.fuel d.deaf g:=by
 cases h using WS.parts with
 |pre=>simp at hs
 |walk=>simp at hs
 |lib h1 h2=>
  refine⟨h1,?_⟩;generalize d.stage=s at *
  generalize d.fuel=f at *
  generalize d.deaf=e at *
  cases h2 using bZ.parts<;>first|(exact absurd hs (by decide))|assumption
section
variable {p:Ph}{Γ : Gh}{gs:Array Goroutine}{W:World}{t:Trace}{a a':Goroutine}{st sm:Int}
theorem Ru(ok:p.Ok)(h:PCom p Γ gs W t 0)(h0:gs[0]?=some a)(hwg:WgAt p.ty p.Wg W st sm)(hq:AllQuit Γ.n Γ.D)(hres:∀ i,p.L<=i->i < Γ.n->∃ c t fr,Γ.res i=.cells c t fr)(hrun:a'.status=.running)(fn:FuncId)(pos:String) :
  Comp p.P (hid (jN Γ p.L) W.heap.size) (fG Classical.propDecidable W (jN Γ p.L)) a' ((gs.map (woken p.P a a' W)).setIfInBounds 0 a') W (t++MemOp.ofEvents 0 fn pos #[mk (.acquire (stA p.Wg))]) (fun i=>(Γ.D (i - 1)).fuel)∧
  (∀ i,p.L<=i->i < Γ.n->(fG Classical.propDecidable W (jN Γ p.L)).heap[Γ.pl i]?=some (Γ.res i))∧(∀ b,Γ.Vis 0 b->(fG Classical.propDecidable W (jN Γ p.L)).heap[b]?=(Γ.v 0).heap[b]?):=by
 have hT:=h.terr;have hR0:=hT.rel 0 (.inl rfl);have hlt:0<gs.size:=by rw[h.size];omega
 have place:∀ i,p.L<=i->i < Γ.n->W.heap[Γ.pl i]?=some (Γ.res i)∧Γ.Vis (i+1) (Γ.pl i)∧(Γ.res i).tame:=fun i hL hi=>by
  obtain⟨g,hg,hs⟩:=h.wk i hi;obtain⟨hΦ,_⟩:=hs.quits (hq i hi);have hΦ:=hΦ hL;have hk:Wk p.L Γ.n (i+1):=.inr ⟨by omega,by omega⟩;have hR:=hT.rel _ hk;obtain⟨c,ty,fr,hc⟩:=hres i hL hi;have hb:Γ.pl i<W.heap.size:=by rw[<-hR.size];exact(Array.getElem?_eq_some_iff.1 hΦ).1
  have hv:Γ.Vis (i+1) (Γ.pl i):=Classical.byContradiction fun hn=>by
   have:=hR.hid _ ⟨hb,hn⟩;rw[hΦ,hc]at this;cases this
  have hn:¬hid (Γ.Vis (i+1)) W.heap.size (Γ.pl i):=fun x=>x.2 hv
  exact⟨(hR.seen _ hn).symm.trans hΦ,hv,hR.tame _ hn _ hΦ⟩
 have notOld:∀ b,jN Γ p.L b->¬p.Old b:=fun b hb ho=>by
  rcases hb with hb|⟨i,hL,hi,rfl⟩
  .exact h.oldV 0 b (.inl rfl) ho hb
  .exact h.oldV (i+1) _ (.inr ⟨by omega,by omega⟩) ho (place i hL hi).2.1
 have notWg:¬jN Γ p.L p.Wg:=fun hb=>by
  rcases hb with hb|⟨i,hL,hi,e⟩
  .exact hT.wg 0 (.inl rfl) hb
  .exact hT.wg (i+1) (.inr ⟨by omega,by omega⟩) (e▸(place i hL hi).2.1)
 have hWlt:=qH hwg;refine⟨⟨by simp[hlt],⟨fun i g hi hg=>?_,fun k hk=>?_⟩,?_,?_,?_⟩,fun i hL hi=>?_,fun b hb=>?_⟩
 .obtain⟨i',rfl⟩:∃ i',i=i'+1:=⟨i - 1,by omega⟩;rw[Array.getElem?_setIfInBounds_ne (by omega),Array.getElem?_map]at hg;obtain⟨x,hx,rfl⟩:=Option.map_eq_some_iff.1 hg;have hi':i' < Γ.n:=by have:=(Array.getElem?_eq_some_iff.1 hx).1;rw[h.size]at this;omega
  obtain⟨y,hy,hs⟩:=h.wk i' hi';obtain rfl:x=y:=by rw[hx]at hy;exact Option.some.inj hy
  rw[qU hs,Deaf_other t (g':=0) (by omega) _ g_of_ofEvents,h.tc.deafW i' hi'];exact(hs.quits (hq i' hi')).2
 .have hk':gs.size<=k:=by simpa using hk
  rw[h.size]at hk';rw[Deaf_other t (g':=0) (by omega) _ g_of_ofEvents];exact h.tc.above k (by omega)
 .have hev:∀ e∈#[mk (.acquire (stA p.Wg))],EvS p.Wg e:=by
   intro e he;simp at he;subst he;exact⟨fun x hx=>(by simp[mk,MemAct.ofEvent,MemAct.touch?]at hx),fun a e=>(by simp[mk]at e),by simp[mk,MemAct.ofEvent,MemAct.low,stA]⟩
  have hes:∀ e∈#[mk (.acquire (stA p.Wg))],EvZ p.Wg p.L Γ.n p.Old Γ.Vis Γ.Rd W.heap.size e:=by
   intro e he;have:=hev e he;refine⟨fun x hx=>?_,this.norel,MemAct.low_mono (by omega) this.low⟩
   simp at he;subst he;simp[mk,MemAct.ofEvent,MemAct.touch?]at hx
  have htc:=h.tc.app0 (fn:=fn) (pos:=pos) hT (fun b=>h.oldV 0 b (.inl rfl)) ok.oldW hes;have hd:deafBehind 0 #[mk (.acquire (stA p.Wg))]=0:=rfl;rw[hd]at htc;have e1:MemOp.ofEvents 0 fn pos #[mk (.acquire (stA p.Wg))]=#[{g:=0,fn,pos,act:=.mark (.acquire (stA p.Wg))}]:=by rw[ofEvents_eq];simp[ofEvent_mk]
  have hqa:(t++MemOp.ofEvents 0 fn pos #[mk (.acquire (stA p.Wg))])[t.size]?=some {g:=0,fn,pos,act:=.mark (.acquire (stA p.Wg))}:=by rw[e1];simp
  have hqh:(t++MemOp.ofEvents 0 fn pos #[mk (.acquire (stA p.Wg))]).heard t.size:=⟨0,by rw[g?_of hqa],by rw[deaf_old (Nat.le_refl _)];exact h.tc.deaf0⟩;have ahead:∀ x k,(t++MemOp.ofEvents 0 fn pos #[mk (.acquire (stA p.Wg))]).g? x=some k->p.L<k->HappensBefore (t++MemOp.ofEvents 0 fn pos #[mk (.acquire (stA p.Wg))]) x t.size∨¬(t++MemOp.ofEvents 0 fn pos #[mk (.acquire (stA p.Wg))]).counts x:=by
   intro x k hk hkL;obtain⟨op,hop,hog⟩:=Option.map_eq_some_iff.1 hk;have hkn:k<=Γ.n:=by have:=(htc.tidy op (Array.mem_of_getElem? hop)).1;omega
   obtain⟨i,rfl⟩:∃ i,k=i+1:=⟨k - 1,by omega⟩;obtain⟨r,hr⟩:=h.rel i (by omega) (by omega) (by rw[hq i (by omega)];omega);have hrq:r<t.size:=lt_of_act? hr.act;have hr':=hr.appOther (u:=MemOp.ofEvents 0 fn pos #[mk (.acquire (stA p.Wg))]) g_of_ofEvents (g:=0) (by omega);have edge:HappensBefore (t++MemOp.ofEvents 0 fn pos #[mk (.acquire (stA p.Wg))]) r t.size:=.single (.inr ⟨.marked hrq (.inr hr'.act) (act?_of hqa) (fun k _ _=>htc.norel k),hr'.heard,hqh⟩);rcases Nat.lt_trichotomy x r with hlt|rfl|hgt
   .exact .inl (.trans (.single (.inl ⟨hlt,i+1,hk,hr'.g⟩)) edge)
   .exact .inl edge
   .exact .inr (hr'.after x hgt hk)
  refine⟨htc.pt.nr,fun x a ha hm=>?_,fun x k hk hne hc=>?_,htc.deaf0,htc.seen⟩
  .obtain⟨op,hop,hoa⟩:=touch_of ha;rcases Nat.lt_or_ge p.L op.g with hgL|hgL
   .rcases ahead x op.g (g?_of hop) hgL with hb|hnc
    .exact .inl ⟨t.size,_,hqa,rfl,.inr hb⟩
    .right;have hat:a.kind=.atomic:=Classical.byContradiction fun hk=>hnc ⟨a,ha,hm,.inl hk⟩
     obtain⟨ad,hl,hab⟩:=htc.atm x a op.g ha (g?_of hop) hgL hat;refine⟨?_,hat⟩;rw[hl];show hid _ _ ad.block;rw[hab];exact⟨hWlt,notWg⟩
   .rcases htc.known x a op.g ha (g?_of hop) hgL with hk|⟨hs,hat⟩
    .exact .inl hk
    .refine .inr ⟨?_,hat⟩;cases hl:a.loc with
     |cell ad=>rw[hl]at hs;exact⟨h.oldLt _ hs,fun hj=>notOld _ hj hs⟩
     |obj r=>rw[hl]at hs;exact⟨h.oldLt _ hs,fun hj=>notOld _ hj hs⟩
     |output=>rw[hl]at hs;exact hs
     |goroutines=>rw[hl]at hs;exact hs
     |mark m=>rw[hl]at hs;exact hs
  .rcases Nat.lt_or_ge p.L k with hgL|hgL
   .rcases ahead x k hk hgL with hb|hnc
    .exact⟨t.size,g?_of hqa,hb⟩
    .exact absurd hc hnc
   .exact htc.over x k hk (by omega) hgL hc
 .have hsz:((gs.map (woken p.P a a' W)).setIfInBounds 0 a').size=Γ.n+1:=by simp[h.size]
  rw[hsz];intro op hop;rcases Array.mem_append.1 hop with h1|h1
  .exact h.tc.tidy op h1
  .obtain⟨e,he,rfl⟩:=Conc.mem_ofEvents h1;simp at he;subst he;exact⟨Nat.succ_pos _,fun x hx=>by simp[mk,MemAct.ofEvent,MemAct.touch?]at hx⟩
 .refine⟨fun j q hj=>by omega,rfl,rfl,by simp[fG],fun b hb=>?_,fun b hb=>?_,fun b hb o ho=>?_,fun b hb=>?_⟩
  .by_cases hv:jN Γ p.L b
   .exact mE W _ b hv
   .have hl:¬b<W.heap.size:=fun hl=>hb ⟨hl,hv⟩
    rw[Array.getElem?_eq_none (by simp[fG];omega),Array.getElem?_eq_none (by omega)]
  .simp only[fG,Array.getElem?_mapIdx,Array.getElem?_eq_getElem hb.1,Option.map_some,if_neg hb.2]
  .by_cases hv:jN Γ p.L b
   .rw[mE W _ b hv]at ho;rcases hv with hv|⟨i,hL,hi,rfl⟩
    .have hn:¬hid (Γ.Vis 0) W.heap.size b:=fun x=>x.2 hv
     exact hR0.tame b hn o ((hR0.seen b hn).trans ho)
    .obtain⟨h1,_,h3⟩:=place i hL hi;rw[h1]at ho;cases ho;exact h3
   .have hl:¬b<W.heap.size:=fun hl=>hb ⟨hl,hv⟩
    rw[Array.getElem?_eq_none (by simp[fG];omega)]at ho;cases ho
  .exact hR0.high b ⟨hb.1,fun x=>hb.2 (.inl x)⟩
 .rw[mE W _ _ (.inr ⟨i,hL,hi,rfl⟩)];exact(place i hL hi).1
 .rw[mE W _ _ (.inl hb)];exact(hR0.seen b fun x=>x.2 hb).symm
end
open Go.ConcR (KK WgAt stA smA rd wr mk DC0 Bk g_of_ofEvents ofEvent_mk again_blocked)
section
variable (P:Program)(ty:TypeId)(Wg:Nat)(gN:Goroutine)(anch:Goroutine->World->Prop)
def vZ(g:Goroutine)(w:World):Prop:=g.status=.running∧∃ g',stepG P true g w=.go g' w #[mk (.acquire (stA Wg))]∧g'.status=.running∧∃ m,Goes P true (fun _ _=>True) DC0 (fun g _=>g=gN) m g' w
def sY(g:Goroutine)(w:World):Prop:=g.status=.running∧∃ g',stepG P true g w=.go g' w #[mk .enable]∧∃ m,Goes P true (RL ty Wg) DC0 (vZ P Wg gN) m g' w
def An(g:Goroutine)(w:World):Prop:=g.status=.running∧(WgAt ty Wg w 0 0->∃ g',stepG P true g w=.go g' w #[rd (stA Wg)]∧∃ m,Goes P true (RL ty Wg) DC0 (sY P ty Wg gN) m g' w)
def Am(g:Goroutine)(w:World):Prop:=g.status=.running∧g.offers=none∧((∃ st,WgAt ty Wg w st 0)->stepG P true g w=.go {g with status:=.blocked} w #[])∧
 (WgAt ty Wg w 0 1->∃ g',stepG P true g w=.go g' (w.setCell (smA Wg) (.int .u32 0)) (semEvents (smA Wg))∧∃ m,Goes P true (RL ty Wg) DC0 (An P ty Wg gN) m g' (w.setCell (smA Wg) (.int .u32 0)))
def Ao(g:Goroutine)(w:World):Prop:=g.status=.running∧∃ g',stepG P true g w=.go g' w #[mk (.write (smA Wg))]∧∃ m,Goes P true (RL ty Wg) DC0 (Am P ty Wg gN) m g' w
def Ji(vs:Nat)(g:Goroutine)(w:World):Prop:=g.status=.running∧∀ v:Nat,v<2147483648->WgAt ty Wg w (v*KK) 0->
 (v=vs->∃ g',stepG P true g w=.go g' (w.setCell (stA Wg) (.int .u64 (v*KK+1))) #[rd (stA Wg),wr (stA Wg)]∧∃ m,Goes P true (RL ty Wg) DC0 (Ao P ty Wg gN) m g' (w.setCell (stA Wg) (.int .u64 (v*KK+1))))∧
 (v≠vs->∃ g',stepG P true g w=.go g' w #[rd (stA Wg)]∧∃ m,Goes P true (RL ty Wg) DC0 anch m g' w)
def vT(g:Goroutine)(w:World):Prop:=g.status=.running∧∀ v:Nat,v<2147483648->WgAt ty Wg w (v*KK) 0->∃ g',stepG P true g w=.go g' w #[rd (stA Wg)]∧
 (v=0->∃ m,Goes P true (RL ty Wg) DC0 (sY P ty Wg gN) m g' w)∧(v≠0->∃ m,Goes P true (RL ty Wg) DC0 (Ji P ty Wg gN anch v) m g' w)
def Ap(g:Goroutine)(w:World):Prop:=g.status=.running∧∃ g',stepG P true g w=.go g' w #[mk .disable]∧∃ m,Goes P true (RL ty Wg) DC0 anch m g' w
end
section
variable {p:Ph}{Stop:Goroutine->(Nat->Prop)->World->Prop}{n:Nat}{pl:Nat->Nat}{res:Nat->Obj}{R0:Nat->Prop}{v:World}{gN:Goroutine}{anch:Goroutine->World->Prop}
def mY(p:Ph)(Stop:Goroutine->(Nat->Prop)->World->Prop)(gN:Goroutine)(n:Nat)(pl:Nat->Nat)(res:Nat->Obj)(v:World):Prop:=
 ∀ (S':Nat->Prop) (v':World),View p.P S' v'->v.heap.size<=v'.heap.size->v'.os=v.os->v'.output=v.output->(∀ (b:Nat) (o:Obj),v.heap[b]?=some o->o.tame->v'.heap[b]?=some o)->(∀ i,p.L<=i->i<n->v'.heap[pl i]?=some (res i))->Reach p.P Stop gN S' v'
theorem nG{ty:TypeId}{Wg:Nat}{Q:World->Prop}{W:World}(h:∀ W',RL ty Wg W W'->Q W')(W':World)(r:RL ty Wg W W'):∀ W'',RL ty Wg W' W''->Q W'':=fun _ r'=>h _ (RL.trans _ _ _ r r')
theorem zaF(ok:p.Ok)(hb:n - p.L<2147483648)(hres:∀ i,p.L<=i->i<n->∃ c t fr,res i=.cells c t fr)(hB:mY p Stop gN n pl res v) :
  ∀ a Γ gs W sl t st sm,At p .acq 0 a n pl res R0 v Γ gs W t st sm->(∀ W',RL p.ty p.Wg W W'->vZ p.P p.Wg gN a W')->dP p.P p.Old p.W0 Stop gs W sl t:=by
 intro a Γ gs W sl t st sm h hs;refine mS (H:=fun W=>∀ W',RL p.ty p.Wg W W'->vZ p.P p.Wg gN a W') ok (hs W fun x=>x).1 (by simp) (by simp[pend];omega) (fun W W' r hx=>nG hx W' r) (fun Γ gs W sl t st sm h hs=>?_) Γ gs W sl t st sm h hs
 obtain⟨_,g',hgo,hr',m,hm⟩:=hs W fun x=>x
 obtain⟨hq,rfl,rfl⟩:=h.mode.fin_inv trivial;obtain⟨hcomp,hpl,hvis⟩:=Ru ok h.com h.at0 (a':=g') h.wg hq (fun i hL hi=>by rw[h.res];exact hres i hL (by rw[<-h.n];exact hi)) hr' a.frame.fn a.frame.place;refine⟨_,_,_,runT_crowd_go (P:=p.P) (sl:=sl) (i:=0) h.at0 hgo,?_⟩;have hR:=h.com.terr.rel 0 (.inl rfl);have hreach:Reach p.P Stop g' (hid (jN Γ p.L) W.heap.size) (fG Classical.propDecidable W (jN Γ p.L)):=Dc (hB _ _ hcomp.rel.view ?_ ?_ ?_ ?_ ?_) m g' W hm
 .obtain⟨N,gs',W',sl',t',q',g2,S',v',r1,r2,r3,r4⟩:=hreach _ W sl _ _ hcomp;refine⟨N,gs',W',sl',t',q',g2,S',v',r1,r2,r3,fun b hb=>?_⟩
  have hS:hid (jN Γ p.L) W.heap.size b:=⟨h.com.oldLt b hb,fun hj=>by
   rcases hj with hj|⟨i,hL,hi,rfl⟩
   .exact h.com.oldV 0 b (.inl rfl) hb hj
   .obtain⟨gi,hgi,hsi⟩:=h.com.wk i hi;have hΦ:=(hsi.quits (hq i hi)).1 hL;obtain⟨c,ty,fr,hc⟩:=hres i hL (by rw[<-h.n];exact hi);have hk:Wk p.L Γ.n (i+1):=.inr ⟨by omega,by omega⟩;have hRi:=h.com.terr.rel _ hk;have hv:Γ.Vis (i+1) (Γ.pl i):=Classical.byContradiction fun hn=>by
     have:=hRi.hid _ ⟨by rw[<-hRi.size];exact(Array.getElem?_eq_some_iff.1 hΦ).1,hn⟩;rw[hΦ,h.res,hc]at this;cases this
    exact h.com.oldV (i+1) _ hk hb hv⟩
  exact⟨(r4 b hS).1,(r4 b hS).2.trans (h.com.hold b hb)⟩
 .have h1:=h.ext.size;have h2:=hR.size;show v.heap.size<=(fG Classical.propDecidable W _).heap.size;simp[fG];omega
 .show W.os=v.os;rw[<-hR.os];exact h.ext.os
 .show W.output=v.output;rw[<-hR.output];exact h.ext.output
 .intro b o hc ht;have h1:=h.ext.row hc;have hlt:b<W.heap.size:=by rw[<-hR.size];exact(Array.getElem?_eq_some_iff.1 h1).1
  have hv:Γ.Vis 0 b:=Classical.byContradiction fun hn=>by
   have:=hR.hid b ⟨hlt,hn⟩;rw[h1]at this;cases this
   exact ht
  rw[hvis b hv];exact h1
 .intro i hL hi;have:=hpl i hL (by rw[h.n];exact hi);rwa [h.pl,h.res]at this
theorem Ja(ok:p.Ok)(hb:n - p.L<2147483648)(hres:∀ i,p.L<=i->i<n->∃ c t fr,res i=.cells c t fr)(hB:mY p Stop gN n pl res v) :
  ∀ a Γ gs W sl t st sm,At p .ke 1 a n pl res R0 v Γ gs W t st sm->(∃ m,Goes p.P true (RL p.ty p.Wg) DC0 (sY p.P p.ty p.Wg gN) m a W)->dP p.P p.Old p.W0 Stop gs W sl t:=by
 rintro a Γ gs W sl t st sm h ⟨m,hm⟩;refine iG ok (by simp) (by simp[pend];omega) (fun a1 Γ gs W sl t st sm h1 hs1=>?_) m a Γ gs W sl t st sm h hm;refine mW (tag':=.acq) (d1:=0) (H:=fun W=>∀ W',RL p.ty p.Wg W W'->sY p.P p.ty p.Wg gN a1 W') (H':=fun a' W'=>∃ m,Goes p.P true (RL p.ty p.Wg) DC0 (vZ p.P p.Wg gN) m a' W') ok (hs1 W fun x=>x).1 (by simp) (by simp[pend];omega)
  (fun W W' r hx=>nG hx W' r) (fun W st sm D hwg hm hVb hx=>?_) (fun a2 Γ gs W sl t st sm h2 hx2=>?_) Γ gs W sl t st sm h1 hs1
 .obtain⟨_,g',hg,hm'⟩:=hx W fun x=>x
  obtain⟨hq,rfl,rfl⟩:=hm.fin_inv trivial;exact⟨g',W,_,0,0,hg,.refl _ _,hwg,fun e he=>jZ (bk_en e he),.fin trivial hq,rfl,hm'⟩
 obtain⟨m2,hg2⟩:=hx2;exact iG ok (by simp) (by simp[pend];omega) (fun a3 Γ gs W sl t st sm h3 hs3=>zaF ok hb hres hB a3 Γ gs W sl t st sm h3 hs3) m2 a2 Γ gs W sl t st sm h2 hg2
theorem zaD(ok:p.Ok)(hb:n - p.L<2147483648)(hres:∀ i,p.L<=i->i<n->∃ c t fr,res i=.cells c t fr)(hB:mY p Stop gN n pl res v) :
  ∀ a Γ gs W sl t st sm,At p .w4 1 a n pl res R0 v Γ gs W t st sm->(∃ m,Goes p.P true (RL p.ty p.Wg) DC0 (An p.P p.ty p.Wg gN) m a W)->dP p.P p.Old p.W0 Stop gs W sl t:=by
 rintro a Γ gs W sl t st sm h ⟨m,hm⟩;refine iG ok (by simp) (by simp[pend];omega) (fun a1 Γ gs W sl t st sm h1 hs1=>?_) m a Γ gs W sl t st sm h hm;refine mW (tag':=.ke) (d1:=1) (H:=fun W=>∀ W',RL p.ty p.Wg W W'->An p.P p.ty p.Wg gN a1 W') (H':=fun a' W'=>∃ m,Goes p.P true (RL p.ty p.Wg) DC0 (sY p.P p.ty p.Wg gN) m a' W') ok (hs1 W fun x=>x).1 (by simp) (by simp[pend];omega)
  (fun W W' r hx=>nG hx W' r) (fun W st sm D hwg hm hVb hx=>?_) (Ja ok hb hres hB) Γ gs W sl t st sm h1 hs1
 obtain⟨hq,rfl,rfl⟩:=hm.fin_inv trivial;obtain⟨g',hg,hm'⟩:=(hx W fun x=>x).2 hwg
 exact⟨g',W,_,0,0,hg,.refl _ _,hwg,fun e he=>jZ (bk_rd e he),.fin trivial hq,by simp[deafBehind,rd],hm'⟩
theorem Nb{Γ : Gh}{gs:Array Goroutine}{W:World}{t:Trace}{d0:Nat}{st sm:Int}(h:PCom p Γ gs W t d0)(hm:ConcN.Mode Γ.n Γ.D .blk st sm):∃ (i:Nat) (g:Goroutine),gs[i]?=some g∧g.status=.running:=by
 have of:∀ i,i < Γ.n->(Γ.D i).stage≠1->∃ (i:Nat) (g:Goroutine),gs[i]?=some g∧g.status=.running:=fun i hi hne=>by
  obtain⟨g,hg,hs⟩:=h.wk i hi;exact⟨i+1,g,hg,hs.run.elim id fun x=>absurd x.1 hne⟩
 cases hm with
 |opn h1 _ _=>exact h1.elim
 |reg _ _ h3=>
  refine Classical.byContradiction fun hno=>?_
  have:∀ i,i < Γ.n->cnt (Γ.D i)<=0:=fun i hi=>by
   have:(Γ.D i).stage=1:=Classical.byContradiction fun hne=>hno (of i hi hne)
   simp[cnt,this]
  have:=sumTo_le (f:=fun i=>cnt (Γ.D i)) (c:=0) this
  simp only[Vc]at h3;omega
 |last l _ h2 h3 _=>exact of l h2 (by omega)
 |fin h1 _=>exact h1.elim
theorem zaC(ok:p.Ok)(hb:n - p.L<2147483648)(hres:∀ i,p.L<=i->i<n->∃ c t fr,res i=.cells c t fr)(hB:mY p Stop gN n pl res v){g0:Goroutine}(hsem:∀ W,WgLive p.ty p.Wg W->Am p.P p.ty p.Wg gN g0 W) :
  ∀ (μ : Nat×Nat) (f:Nat) (a:Goroutine) (tag:CTag) Γ gs W sl t st sm,((a=g0∧tag=.w3∧f=1)∨(a={g0 with status:=.blocked}∧tag=.blk∧f=0))->At p tag 1 a n pl res R0 v Γ gs W t st sm->(Ssum n Γ.D,2*Fsum n Γ.D+f)=μ->dP p.P p.Old p.W0 Stop gs W sl t:=by
 intro μ;induction μ using (Prod.lex Nat.lt_wfRel Nat.lt_wfRel).wf.induction with
 |_ μ ih=>
 intro f a tag Γ gs W sl t st sm hcase h hμ;have hlive:WgLive p.ty p.Wg W:=⟨_,_,h.wg⟩;have hrun0:=(hsem W hlive).1;have hoff:=(hsem W hlive).2.1;have hpend:pend tag=0:=by rcases hcase with⟨_,rfl,_⟩|⟨_,rfl,_⟩<;>rfl
 have haw:awake a:=by
  rcases hcase with⟨rfl,_,_⟩|⟨rfl,_,_⟩
  .exact awake_of (.inl hrun0)
  .exact fun t ht=>by cases ht
 have hsome:∃ (i:Nat) (g:Goroutine),gs[i]?=some g∧g.status=.running:=by
  rcases hcase with⟨rfl,_,_⟩|⟨_,rfl,_⟩
  .exact⟨0,_,h.at0,hrun0⟩
  .exact Nb h.com h.mode
 obtain⟨i,g,d,sl',hi,hg,hst⟩:=crowd_pick (P:=p.P) (w:=W) (sl:=sl) (De h.com h.at0 haw) hsome;have h':=h.at d;have hlt0:0<gs.size:=by rw[h.com.size];omega
 cases i with
 |zero=>
  obtain rfl:g=a:=by rw[h.at0]at hi;exact(Option.some.inj hi).symm
  rcases hcase with⟨rfl,rfl,rfl⟩|⟨rfl,_,_⟩
  .obtain⟨_,_,hblk,htake⟩:=hsem (W.at d) ⟨_,_,h'.wg⟩;have wait:sm=0->ConcN.Mode Γ.n Γ.D .blk st sm->dP p.P p.Old p.W0 Stop gs W sl t:=fun e0 hm=>by
    subst e0;have hgo:=hblk ⟨st,h'.wg⟩;have hcom:=mL ok h'.com h'.wg (a':={g with status:=.blocked}) h.at0 (.refl _ _) h'.wg (es:=#[]) (by simp);refine .step (hst.trans (runT_crowd_go (P:=p.P) (sl:=sl') (i:=0) h.at0 hgo)) (ih _ ?_ 0 _ .blk Γ _ _ sl' _ st 0 (.inr ⟨rfl,rfl,rfl⟩) ⟨h.n,h.pl,h.res,h.R0,h.ext,hcom,by simp[hlt0],hm,h'.wg⟩ rfl);rw[<-hμ];refine Prod.Lex.right _ ?_;show 2*Fsum n Γ.D+0<2*Fsum n Γ.D+1;omega
   have hmode:=h.mode;cases hmode with
   |opn h1 _ _=>exact h1.elim
   |reg h1 h2 h3=>exact wait rfl (.reg trivial h2 h3)
   |last l h1 h2 h3 h4=>exact wait rfl (.last l trivial h2 h3 h4)
   |sema h2=>
    obtain⟨g',hgo,hm'⟩:=htake h'.wg;have hwg':=h'.wg.setSm 0;have hcom:=mL ok h'.com h'.wg (a':=g') h.at0 (aside_setCell (W.at d) (smA p.Wg) _) hwg' (es:=semEvents (smA p.Wg)) (fun e he=>jZ (bk_sem e he));have hd:deafBehind 1 (semEvents (smA p.Wg))=1:=by simp[deafBehind,semEvents]
    rw[hd]at hcom;exact .step (hst.trans (runT_crowd_go (P:=p.P) (sl:=sl') (i:=0) h.at0 hgo)) (zaD ok hb hres hB g' Γ _ _ sl' _ 0 0 ⟨h.n,h.pl,h.res,h.R0,h.ext,hcom,by simp[hlt0],.fin trivial h2,hwg'⟩ hm')
   |fin h1 _=>exact h1.elim
  .cases hg
 |succ i=>
  have hlt:i < Γ.n:=by have:=(Array.getElem?_eq_some_iff.1 hi).1;rw[h.com.size]at this;omega
  obtain⟨Γ',g',W',es,st',sm',hgo,hcom,hwg,hm,hnext,hless,hRL⟩:=Cd ok h'.com (by rw[h.n,hpend];exact hb) h'.mode h'.wg hlt hi hg;have hrT:=runT_crowd_go (P:=p.P) (sl:=sl') (i:=i+1) hi (by simpa using hgo);have hless':∀ f',f'<=1->Prod.Lex Nat.lt_wfRel.1 Nat.lt_wfRel.1 (Ssum n Γ'.D,2*Fsum n Γ'.D+f') μ:=fun f' hf=>by
   rw[<-hμ,<-h.n];rcases hless with⟨h1,_⟩|⟨h1,h2,_⟩
   .exact Prod.Lex.left _ _ h1
   .rw[h1];refine Prod.Lex.right _ ?_;show 2*Fsum Γ.n Γ'.D+f'<2*Fsum Γ.n Γ.D+f;omega
  have at0':((gs.map (woken p.P g g' W')).setIfInBounds (i+1) g')[0]?=some (woken p.P g g' W' a):=by rw[Array.getElem?_setIfInBounds_ne (by omega),Array.getElem?_map,h.at0];rfl
  have go:∀ f' a' tag',f'<=1->woken p.P g g' W' a=a'->((a'=g0∧tag'=.w3∧f'=1)∨(a'={g0 with status:=.blocked}∧tag'=.blk∧f'=0))->(tag'=tag∨(tag=.blk∧tag'=.w3))->(mayWake p.P g=true->g'.status=.running->tag'≠.blk)->dP p.P p.Old p.W0 Stop gs W sl t:=by
   intro f' a' tag' hf' ha' hc' ht hw;exact .step (hst.trans hrT) (ih _ (hless' f' hf') f' a' tag' Γ' _ W' sl' _ st' sm' hc' ⟨hnext.n.trans h.n,hnext.pl.trans h.pl,hnext.res.trans h.res,by rw[hnext.Rd];exact h.R0,h.ext.trans _ _ _ hnext.ext,hcom,by rw[at0',ha'],by rw[hnext.n];exact hm tag' ht hw,hwg⟩ rfl)
  rcases hcase with⟨rfl,rfl,rfl⟩|⟨rfl,rfl,rfl⟩
  .exact go 1 a .w3 (Nat.le_refl _) (woken_run hrun0) (.inl ⟨rfl,rfl,rfl⟩) (.inl rfl) fun _ _=>by simp
  .by_cases hw:(mayWake p.P g&&g'.status != .blocked&&g'.status != .waiting)=true
   .refine go 1 g0 .w3 (Nat.le_refl _) ?_ (.inl ⟨rfl,rfl,rfl⟩) (.inr ⟨rfl,rfl⟩) fun _ _=>by simp
    unfold woken;rw[if_pos hw];exact again_blocked hrun0 hoff _
   .refine go 0 _ .blk (by omega) ?_ (.inr ⟨rfl,rfl,rfl⟩) (.inl rfl) fun h1 h2=>absurd (by simp[h1,h2]) hw
    unfold woken;rw[if_neg hw]
theorem zaE(ok:p.Ok)(hb:n - p.L<2147483648)(hres:∀ i,p.L<=i->i<n->∃ c t fr,res i=.cells c t fr)(hB:mY p Stop gN n pl res v) :
  ∀ a Γ gs W sl t st sm,At p .w3 1 a n pl res R0 v Γ gs W t st sm->(∃ m,Goes p.P true (RL p.ty p.Wg) DC0 (Ao p.P p.ty p.Wg gN) m a W)->dP p.P p.Old p.W0 Stop gs W sl t:=by
 rintro a Γ gs W sl t st sm h ⟨m,hm⟩;refine iG ok (by simp) (by simp[pend];omega) (fun a1 Γ gs W sl t st sm h1 hs1=>?_) m a Γ gs W sl t st sm h hm;refine mW (tag':=.w3) (d1:=1) (H:=fun W=>∀ W',RL p.ty p.Wg W W'->Ao p.P p.ty p.Wg gN a1 W') (H':=fun a' W'=>∃ m,Goes p.P true (RL p.ty p.Wg) DC0 (Am p.P p.ty p.Wg gN) m a' W') ok (hs1 W fun x=>x).1 (by simp) (by simp[pend];omega)
  (fun W W' r hx=>nG hx W' r) (fun W st sm D hwg hm hVb hx=>?_) (fun a2 Γ gs W sl t st sm h2 hx2=>?_) Γ gs W sl t st sm h1 hs1
 .obtain⟨_,g',hg,hm'⟩:=hx W fun x=>x
  refine⟨g',W,_,st,sm,hg,.refl _ _,hwg,fun e he=>?_,hm,rfl,hm'⟩
  simp at he;subst he;refine⟨fun x hx=>?_,fun a e=>(by simp[mk]at e),by simp[mk,MemAct.ofEvent,MemAct.low,smA]⟩
  simp only[mk,MemAct.ofEvent,MemAct.touch?,Option.some.injEq]at hx;subst hx;exact⟨⟨_,rfl,rfl⟩,by simp⟩
 obtain⟨m2,hg2⟩:=hx2;refine iG ok (by simp) (by simp[pend];omega) (fun a3 Γ gs W sl t st sm h3 hs3=>?_) m2 a2 Γ gs W sl t st sm h2 hg2;exact zaC ok hb hres hB (g0:=a3) (fun W' hl=>hs3 W' fun _=>hl) _ 1 a3 .w3 Γ gs W sl t st sm (.inl ⟨rfl,rfl,rfl⟩) h3 rfl
theorem Ym(ok:p.Ok)(hb:n - p.L<2147483648)(hres:∀ i,p.L<=i->i<n->∃ c t fr,res i=.cells c t fr)(hB:mY p Stop gN n pl res v)(hAn:∀ g w,anch g w->∃ m,Goes p.P true (RL p.ty p.Wg) DC0 (vT p.P p.ty p.Wg gN anch) m g w) :
  ∀ (V:Nat) (tag:CTag),((tag=.w2 V∧1<=V)∨tag=.ke)->∀ a Γ gs W sl t st sm,At p tag 1 a n pl res R0 v Γ gs W t st sm->(∃ m,Goes p.P true (RL p.ty p.Wg) DC0 anch m a W)->dP p.P p.Old p.W0 Stop gs W sl t:=by
 intro V;induction V using Nat.strongRecOn with
 |ind V ih=>
 rintro tag htag a Γ gs W sl t st sm h ⟨m,hm⟩;have hnb:tag≠.blk:=by rcases htag with⟨rfl,_⟩|rfl<;>simp
 have hpend:pend tag=0:=by rcases htag with⟨rfl,_⟩|rfl<;>rfl
 refine iG ok hnb (by rw[hpend];exact hb) (fun a1 Γ gs W sl t st sm h1 hs1=>?_) m a Γ gs W sl t st sm h hm;obtain⟨m1,hg1⟩:=hAn a1 W (hs1 W fun x=>x)
 refine iG ok hnb (by rw[hpend];exact hb) (fun a2 Γ gs W sl t st sm h2 hs2=>?_) m1 a1 Γ gs W sl t st sm h1 hg1;refine mS (H:=fun W=>∀ W',RL p.ty p.Wg W W'->vT p.P p.ty p.Wg gN anch a2 W') ok (hs2 W fun x=>x).1 hnb (by rw[hpend];exact hb) (fun W W' r hx=>nG hx W' r) (fun Γ gs W sl t st sm h hs=>?_) Γ gs W sl t st sm h2 hs2
 have hlt0:0<gs.size:=by rw[h.com.size];omega
 have hVn:=vD h.com.Ln h.com.old;have hstate:WgAt p.ty p.Wg W (((Vc Γ.n Γ.D:Nat):Int)*KK) 0∧sm=0∧OpenSt Γ.n Γ.D∧(tag=.w2 V->Vc Γ.n Γ.D<=V):=by
  have hwg:=h.wg;rcases htag with⟨rfl,_⟩|rfl
  .obtain⟨ho,rfl,rfl,hv⟩:=h.mode.open_inv trivial;exact⟨by simpa [pend] using hwg,rfl,ho,fun _=>(hv V rfl).1⟩
  .obtain⟨hq,rfl,rfl⟩:=h.mode.fin_inv trivial;have:Vc Γ.n Γ.D=0:=by
    have:=sumTo_le (f:=fun i=>cnt (Γ.D i)) (c:=0) (j:=Γ.n) fun i hi=>by simp[cnt,hq i hi]
    simp only[Vc];omega
   rw[this];exact⟨by simpa using hwg,rfl,fun i hi=>.inr (.inr (.inr (hq i hi))),fun e=>by cases e⟩
 obtain⟨hwgV,rfl,hopen,hVle⟩:=hstate;obtain⟨g',hgo,hz,hnz⟩:=(hs W fun x=>x).2 (Vc Γ.n Γ.D) (by rw[h.n]at *;omega) hwgV
 have hcom:=mL ok h.com h.wg (a':=g') h.at0 (.refl _ _) h.wg (es:=#[rd (stA p.Wg)]) (fun e he=>jZ (bk_rd e he));have hd:deafBehind 1 #[rd (stA p.Wg)]=1:=by simp[deafBehind,rd]
 rw[hd]at hcom;refine⟨_,_,_,runT_crowd_go (P:=p.P) (sl:=sl) (i:=0) h.at0 hgo,?_⟩;by_cases hv0:Vc Γ.n Γ.D=0
 .rw[hv0]at hwgV;exact Ja ok hb hres hB g' Γ _ W sl _ 0 0 ⟨h.n,h.pl,h.res,h.R0,h.ext,hcom,by simp[hlt0],.fin trivial (allQuit_of hopen hv0),by simpa using hwgV⟩ (hz hv0)
 .have hmode2:ConcN.Mode Γ.n Γ.D (.w2 (Vc Γ.n Γ.D)) (((Vc Γ.n Γ.D+pend (.w2 (Vc Γ.n Γ.D)):Nat):Int)*KK) 0:=.opn trivial hopen (fun vs e=>by cases e;omega)
  obtain⟨m3,hg3⟩:=hnz hv0;have hV':Vc Γ.n Γ.D<=V:=by
   rcases htag with⟨e,_⟩|rfl
   .exact hVle e
   .exfalso;obtain⟨hq,_,_⟩:=h.mode.fin_inv trivial;have:=sumTo_le (f:=fun i=>cnt (Γ.D i)) (c:=0) (j:=Γ.n) fun i hi=>by simp[cnt,hq i hi]
    simp only[Vc]at hv0;omega
  generalize Vc Γ.n Γ.D=vs at hmode2 hg3 hv0 hV' hwgV;refine iG (tag:=.w2 vs) ok (by simp) (by simp[pend];omega) (fun a4 Γ gs W sl t st sm h4 hs4=>?_) m3 g' Γ _ W sl _ _ 0 ⟨h.n,h.pl,h.res,h.R0,h.ext,hcom,by simp[hlt0],hmode2,by simpa [pend] using hwgV⟩ hg3;refine mS (H:=fun W=>∀ W',RL p.ty p.Wg W W'->Ji p.P p.ty p.Wg gN anch vs a4 W') ok (hs4 W fun x=>x).1 (by simp) (by simp[pend];omega) (fun W W' r hx=>nG hx W' r) (fun Γ gs W sl t st sm h hs=>?_) Γ gs W sl t st sm h4 hs4
  have hlt0:0<gs.size:=by rw[h.com.size];omega
  have hVn:=vD h.com.Ln h.com.old;have hwg:=h.wg;obtain⟨ho,rfl,rfl,hv⟩:=h.mode.open_inv trivial;have hwgV:WgAt p.ty p.Wg W (((Vc Γ.n Γ.D:Nat):Int)*KK) 0:=by simpa [pend] using hwg
  obtain⟨hhit,hmiss⟩:=(hs W fun x=>x).2 (Vc Γ.n Γ.D) (by rw[h.n]at *;omega) hwgV
  by_cases e:Vc Γ.n Γ.D=vs
  .obtain⟨g5,hgo5,hm5⟩:=hhit e;have hwg':=hwgV.setSt (((Vc Γ.n Γ.D:Nat):Int)*KK+1);have hcom:=mL ok h.com hwg (a':=g5) h.at0 (aside_setCell W (stA p.Wg) _) hwg' (es:=#[rd (stA p.Wg),wr (stA p.Wg)]) (fun e he=>jZ (bk_rw e he));have hd:deafBehind 1 #[rd (stA p.Wg),wr (stA p.Wg)]=1:=by simp[deafBehind,rd,wr]
   rw[hd]at hcom;exact⟨_,_,_,runT_crowd_go (P:=p.P) (sl:=sl) (i:=0) h.at0 hgo5,zaE ok hb hres hB g5 Γ _ _ sl _ _ 0 ⟨h.n,h.pl,h.res,h.R0,h.ext,hcom,by simp[hlt0],.reg trivial ho (by omega),hwg'⟩ hm5⟩
  .obtain⟨g5,hgo5,hm5⟩:=hmiss e;have hcom:=mL ok h.com hwg (a':=g5) h.at0 (.refl _ _) hwg (es:=#[rd (stA p.Wg)]) (fun e he=>jZ (bk_rd e he));have hd:deafBehind 1 #[rd (stA p.Wg)]=1:=by simp[deafBehind,rd]
   rw[hd]at hcom;refine⟨_,_,_,runT_crowd_go (P:=p.P) (sl:=sl) (i:=0) h.at0 hgo5,?_⟩;have hle:=(hv vs rfl).1;by_cases hv0':Vc Γ.n Γ.D=0
   .refine ih 0 (by omega) .ke (.inr rfl) g5 Γ _ W sl _ 0 0 ⟨h.n,h.pl,h.res,h.R0,h.ext,hcom,by simp[hlt0],.fin trivial (allQuit_of ho hv0'),?_⟩ hm5;rw[hv0']at hwgV;simpa using hwgV
   .exact ih (Vc Γ.n Γ.D) (by omega) (.w2 (Vc Γ.n Γ.D)) (.inl ⟨rfl,by omega⟩) g5 Γ _ W sl _ _ 0 ⟨h.n,h.pl,h.res,h.R0,h.ext,hcom,by simp[hlt0],.opn trivial ho (fun vs e=>by cases e;omega),by simpa [pend] using hwgV⟩ hm5
theorem Mo(ok:p.Ok)(hb:n - p.L+1<2147483648)(hres:∀ i,p.L<=i->i<n->∃ c t fr,res i=.cells c t fr)(hB:mY p Stop gN n pl res v)(hAn:∀ g w,anch g w->∃ m,Goes p.P true (RL p.ty p.Wg) DC0 (vT p.P p.ty p.Wg gN anch) m g w)
  {a:Goroutine} {m:Nat} (hgo:∀ W,WgLive p.ty p.Wg W->Goes p.P true (RL p.ty p.Wg) DC0 (Ap p.P p.ty p.Wg anch) m a W):cE p Stop (.sp 0 5) 0 a n pl res R0 v:=by
 intro Γ gs W sl t st sm h;refine iG ok (by simp) (by simp[pend];omega) (fun a1 Γ gs W sl t st sm h1 hs1=>?_) m a Γ gs W sl t st sm h (hgo W ⟨_,_,h.wg⟩);refine mW (tag':=.w2 (n+1)) (d1:=1) (H:=fun W=>∀ W',RL p.ty p.Wg W W'->Ap p.P p.ty p.Wg anch a1 W') (H':=fun a' W'=>∃ m,Goes p.P true (RL p.ty p.Wg) DC0 anch m a' W') ok (hs1 W fun x=>x).1 (by simp) (by simp[pend];omega)
  (fun W W' r hx=>nG hx W' r) (fun W st sm D hwg hm hVb hx=>?_) (Ym ok (by omega) hres hB hAn (n+1) (.w2 (n+1)) (.inl ⟨rfl,by omega⟩)) Γ gs W sl t st sm h1 hs1
 obtain⟨_,g',hg,hm'⟩:=hx W fun x=>x
 have hV:=Vc_le n D;exact⟨g',W,_,st,sm,hg,.refl _ _,hwg,fun e he=>jZ (bk_dis e he),hm.reopen trivial trivial rfl (fun vs e=>by cases e;omega),rfl,hm'⟩
end
open Go.ConcR (KK WgAt wgBlock stA smA DC0 g_of_ofEvents)
section
variable {P:Program}{F:FuncId->Bool}{Stop:Goroutine->(Nat->Prop)->World->Prop}{g:Goroutine}{S:Nat->Prop}{v:World}
theorem tS(hrun:g.status=.running)(hstep:∀ gs W sl t q,Comp P S v g gs W t q->∃ gs' W' ops,runT P (crowd gs W sl) 0=(.next (crowd gs' W' sl),ops)∧dP P S W Stop gs' W' sl (t++ops)):Reach P Stop g S v:=by
 intro gs W sl t q hc;generalize hM:sumTo gs.size q=M;induction M using Nat.strongRecOn generalizing gs W sl t q with
 |ind M ihM=>
 obtain⟨h0,hL,hP,hT,hR⟩:=hc;have haw:=Ea (P:=P) h0 hrun hL;obtain⟨i,g1,d,sl',hi,hg,hst⟩:=crowd_pick (P:=P) (w:=W) (sl:=sl) haw ⟨0,_,h0,hrun⟩;rcases Nat.eq_zero_or_pos i with rfl|hpos
 .obtain⟨gs',W',ops,hr,hc⟩:=hstep gs (W.at d) sl' t q ⟨h0,hL,hP,hT,hR.at d⟩;exact dP.step (hst.trans hr) hc
 .have hq:=hL.old i g1 hpos hi;have hi0:(i == 0)=false:=by simp;omega
  have hlt:i<gs.size:=(Array.getElem?_eq_some_iff.1 hi).1;cases hqi:q i with
  |zero=>rw[hqi]at hq;rw[hq.1]at hg;cases hg
  |succ k=>
   rw[hqi]at hq;rcases hq with⟨hf,_⟩|⟨_,g',es,hmute,hstp,hq'⟩
   .rw[hf]at hg;cases hg
   have hrunT:=runT_crowd_go (P:=P) (sl:=sl') (i:=i) hi (by rw[hi0];exact hstp (W.at d));have hsz:((gs.map (woken P g1 g' (W.at d))).setIfInBounds i g').size=gs.size:=by simp
   have hsum:sumTo gs.size (upd q i k)+(k+1)=sumTo gs.size q+k:=by
    have:=sumTo_upd q k id hlt;simpa [hqi] using this
   have hne0:i≠0:=by omega
   exact dP.step (hst.trans hrunT) (ihM (sumTo gs.size (upd q i k)) (by omega) ((gs.map (woken P g1 g' (W.at d))).setIfInBounds i g') (W.at d) sl' (t++MemOp.ofEvents i g1.frame.fn g1.frame.place es) (upd q i k)
    ⟨by rw[Array.getElem?_setIfInBounds_ne hne0,Array.getElem?_map,h0];exact congrArg some (woken_run hrun),Bi hL hi hpos hq',hP.mute (by omega) hmute,by rw[hsz];exact Ec hT hlt hmute,hR.at d⟩ (by rw[hsz]))
theorem Mj(hrun:g.status=.running){g':Goroutine}{ty:TypeId}(hstep:∀ W,Rel P S 0 v W->stepG P true g W=.go g' (W.alloc (wgBlock ty 0 0)) #[])(hglob:P.globals.size<=v.heap.size)
  {wb:Frame} {ds:List Deferred} {fl:List Frame} {Dz K0:Nat} {R0:Nat->Prop} (hDz:∃ c t fr,v.heap[Dz]?=some (.cells c t fr)) (hRDz:R0 Dz) (hR0:∀ b,R0 b->¬S b∧b<v.heap.size) {pl:Nat->Nat} {res:Nat->Obj}
  (hP:∀ L W0,cE ⟨P,F,ty,v.heap.size,L,S,wb,ds,fl,Dz,K0,W0⟩ Stop (.sp 0 5) 0 g' L pl res R0 (pad v 1)):Reach P Stop g S v:=by
 refine tS hrun fun gs W sl t q hc=>?_
 obtain⟨h0,hL,hPast,hT,hR⟩:=hc;have hgo:=hstep W hR;refine⟨_,_,_,runT_crowd_go (P:=P) (sl:=sl) (i:=0) h0 hgo,?_⟩;have hops:MemOp.ofEvents 0 g.frame.fn g.frame.place #[]=#[]:=by simp[ofEvents_eq]
 rw[hops];have hlt:0<gs.size:=(Array.getElem?_eq_some_iff.1 h0).1;have hsz:=hR.size;let W':=W.alloc (wgBlock ty 0 0);have hW':W'.heap.size=W.heap.size+1:=by show(W.heap.push _).size=_;simp
 have hold:∀ b,b<W.heap.size->W'.heap[b]?=W.heap[b]?:=fun b hb=>by show(W.heap.push _)[b]?=_;rw[Array.getElem?_push,if_neg (by omega)]
 have hwg:WgAt ty v.heap.size W' 0 0:=by show(W.heap.push _)[v.heap.size]?=_;rw[hsz];simp
 let Γ : Gh:={n:=gs.size - 1,D:=fun i=>⟨1,q (i+1),Deaf t (i+1)⟩,Vis:=fun k b=>k=0∧b<W.heap.size∧¬S b,Rd:=fun k b=>k=0∧R0 b,v:=fun _=>pad v 1,pl:=pl,res:=res}
 have hRpad:Rel P (hid (Γ.Vis 0) W'.heap.size) 0 (pad v 1) W':=by
  have h1:=Rel.pad hR (W':=W') (by rw[<-hsz];exact hglob) (by omega) (fun b hb _=>hold b hb) rfl rfl;rw[show W'.heap.size - W.heap.size=1 by omega]at h1;refine h1.congr fun b=>?_
  constructor
  .rintro⟨hb,hn⟩;rcases Nat.lt_or_ge b W.heap.size with hl|hl
   .exact .inl (Classical.byContradiction fun hs=>hn ⟨rfl,hl,hs⟩)
   .exact .inr ⟨hl,hb⟩
  .rintro(hs|⟨h1,h2⟩)
   .have hb:=hR.lt hs;exact⟨by omega,fun x=>x.2.2 hs⟩
   .exact⟨h2,fun x=>by have:=x.2.1;omega⟩
 have hWk:∀ k,Wk (gs.size - 1) (gs.size - 1) k->k=0:=fun k hk=>hk.elim id fun x=>by omega
 have hTerr:Terr P v.heap.size (Wk (gs.size - 1) (gs.size - 1)) Γ.Vis Γ.Rd Γ.v W':=by
  refine⟨fun k hk=>?_,fun k b hk hb=>by have:=hb.2.1;omega,fun k hk hb=>by have:=hb.2.1;omega,fun k k' b hk hk' hne _ _=>?_,fun k b hk hb=>?_,by rw[hW'];omega⟩
  .obtain rfl:=hWk k hk;exact hRpad
  .exact absurd ((hWk k hk).trans (hWk k' hk').symm) hne
  .obtain⟨h1,h2⟩:=hR0 b hb.2;exact⟨hb.1,by omega,h1⟩
 have lowTouch:∀ i a,touchAt t i=some a->¬ShN v.heap.size a.loc:=by
  rintro i a ha ⟨ad,hl,hab⟩;obtain⟨op,hop,hoa⟩:=touch_of ha;have hlow:=hPast.seen op (Array.mem_of_getElem? hop);cases hact:op.act with
  |access e=>
   rw[hact]at hoa hlow;simp only[MemAct.touch?,Option.some.injEq]at hoa;subst hoa;simp only at hl;have:e.loc.low W.heap.size:=hlow;rw[hl]at this;have:ad.block<W.heap.size:=this;omega
  |mark m=>
   rw[hact]at hoa hlow;cases m<;>simp only[MemAct.touch?,Option.some.injEq,reduceCtorEq]at hoa
   all_goals
    subst hoa;simp only[Loc.cell.injEq]at hl;subst hl;have:_<W.heap.size:=hlow;omega
  |_=>rw[hact]at hoa;simp[MemAct.touch?]at hoa
 have hpt:=(PT.begin (Sh:=ShN v.heap.size) (j:=gs.size - 1) hPast hT lowTouch);have hTC:TCom v.heap.size (gs.size - 1) S (gs.size - 1) Γ.Vis Γ.Rd W'.heap.size t 0 (fun i=>(Γ.D i).deaf):=by
  have e1:sQ (gs.size - 1) (gs.size - 1) Γ.Vis Γ.Rd=fun _ _=>False:=by funext k l;exact propext ⟨fun x=>by have:=x.1;have:=x.2.1;omega,False.elim⟩
  have e2:sZ (gs.size - 1) (gs.size - 1) Γ.Rd=fun _ _=>False:=by funext k l;exact propext ⟨fun x=>by have:=x.1;have:=x.2.1;omega,False.elim⟩
  refine⟨by rw[e1,e2];exact hpt,by rw[show gs.size - 1+1=gs.size by omega];exact hT,fun op hop=>MemAct.low_mono (by omega) (hPast.seen op hop),fun i hi=>?_,hPast.hears,fun i hi=>rfl,fun k hk=>hL.above k (by omega),fun i a k ha hk hkL=>?_,fun i a k ha hk hkL hat=>?_,fun i k hk h0 hkL hc=>?_⟩
  .obtain⟨op,hop,hoa⟩:=Option.map_eq_some_iff.1 hi;have hlow:=hPast.seen op (Array.mem_of_getElem? hop);rw[hoa]at hlow;have:(stA v.heap.size).block<W.heap.size:=hlow;have:v.heap.size<W.heap.size:=this;omega
  .obtain⟨op,hop,hoa⟩:=touch_of ha;exact hPast.known i a ha ((hT op (Array.mem_of_getElem? hop)).2 a hoa)
  .obtain⟨op,hop,hog⟩:=Option.map_eq_some_iff.1 hk;have:=(hT op (Array.mem_of_getElem? hop)).1;omega
  .exact hPast.over i k hk (by omega) hc
 refine hP (gs.size - 1) W Γ _ W' sl _ 0 0 ⟨rfl,rfl,rfl,?_,.refl _,⟨?_,Nat.le_refl _,fun i hi=>?_,fun i hi=>rfl,hTerr,fun k hk=>⟨hWk k hk,hRDz⟩,?_,by simpa using hTC,fun i hi1 hi2=>?_,fun k b hk hb hv=>hv.2.2 hb,fun b hb=>?_,fun b hb=>hold b (by have:=hR.lt hb;omega)⟩,by simp[hlt],?_,hwg⟩
 .funext b;exact propext ⟨fun x=>x.2,fun x=>⟨rfl,x⟩⟩
 .simp only[Array.size_setIfInBounds,Array.size_map];show gs.size=gs.size - 1+1;omega
 .have hi':i+1<gs.size:=by have:i<gs.size - 1:=hi;omega
  have hq:=hL.old (i+1) gs[i+1] (by omega) (Array.getElem?_eq_getElem hi');refine⟨gs[i+1],?_,?_⟩
  .rw[Array.getElem?_setIfInBounds_ne (by omega),Array.getElem?_map,Array.getElem?_eq_getElem hi',Option.map_some];exact congrArg some (woken_quitsD hq)
  .refine .lib (fun hL'=>?_) (.quit hq);have:i<gs.size - 1:=hi;have:gs.size - 1<=i:=hL';omega
 .obtain⟨c,t,fr,hc⟩:=hDz;have hn:=(hR0 Dz hRDz).1;exact⟨c,t,fr,(hold Dz (by have:=(hR0 Dz hRDz).2;omega)).trans ((hR.seen Dz hn).symm.trans hc)⟩
 .have:i<gs.size - 1:=hi2;have:gs.size - 1<=i:=hi1;omega
 .have:=hR.lt hb;show b<W'.heap.size;omega
 .have hv:Vc (gs.size - 1) Γ.D=0:=by
   have:=sumTo_le (f:=fun i=>cnt (Γ.D i)) (c:=0) (j:=gs.size - 1) fun i hi=>by simp[cnt,Γ]
   simp only[Vc];omega
  have:=ConcN.Mode.opn (j:=gs.size - 1) (D:=Γ.D) (tag:=.sp 0 5) trivial (fun i hi=>.inr (.inr (.inr rfl))) (by simp);rw[hv]at this;simpa [pend] using this
end
