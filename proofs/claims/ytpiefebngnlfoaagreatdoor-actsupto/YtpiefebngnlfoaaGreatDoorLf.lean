import Derived.Test.YtpiefebngnlfoaaGreatDoorLe
import Derived.Conc.CrowdStepC2
set_option maxRecDepth 99999
set_option maxHeartbeats 0
set_option linter.unusedVariables false
set_option linter.unusedSimpArgs false
namespace Go.Vw
open Go.Conc Go.ConcN
open Go.ConcR (KK WgAt stA smA DC0 g_of_ofEvents)
structure Ph where
 P:Program
 F:FuncId->Bool
 ty:TypeId
 Wg:Nat
 L:Nat
 Old:Nat->Prop
 wb:Frame
 ds:List Deferred
 fl:List Frame
 Dz:Nat
 K0:Nat
 W0:World
structure Ph.Ok(p:Ph):Prop where
 good:Good p.P p.F
 kind:p.wb.kind≠.early
 oldW:¬p.Old p.Wg
 done:∀tmps todo W,WgLive p.ty p.Wg W->Goes p.P false (RL p.ty p.Wg) DC0 (nL p.P p.ty p.Wg) p.K0 (eM p.wb p.ds p.fl tmps todo) W
def WS(p:Ph)(Rd:Nat->Prop)(Φ : World->Prop)(v:World)(d:WD)(g:Goroutine)(W:World):Prop:=
 (∃(n0 n:Nat)(st:WAt),Goes p.P false (λ_ _=>True) DC0 (λg' _=>g'=st.g p.wb p.ds p.fl) n0 g W∧g.status=.running∧st.Ok p.P p.F∧Goes p.P false Ext (DW Rd) (jX p.wb p.Dz Φ) n (st.g p.wb (aX p.Dz) []) v∧d=⟨7,n0+1+(n+1+p.K0),0⟩)∨
 (∃(n:Nat)(st:WAt),st.Ok p.P p.F∧Goes p.P false Ext (DW Rd) (jX p.wb p.Dz Φ) n (st.g p.wb (aX p.Dz) []) v∧d=⟨7,n+1+p.K0,0⟩∧g=st.g p.wb p.ds p.fl)∨
 (Φ v∧bT p.P p.ty p.Wg d.stage d.fuel d.deaf g W)
section
variable {p:Ph}{Rd:Nat->Prop}{Φ : World->Prop}{v:World}
theorem WS.pre{n0 n:Nat}{st:WAt}{g:Goroutine}{W:World}(h1:Goes p.P false (λ_ _=>True) DC0 (λg' _=>g'=st.g p.wb p.ds p.fl) n0 g W)(hr:g.status=.running)(h2:st.Ok p.P p.F)(h3:Goes p.P false Ext (DW Rd) (jX p.wb p.Dz Φ) n (st.g p.wb (aX p.Dz) []) v):WS p Rd Φ v ⟨7,n0+1+(n+1+p.K0),0⟩ g W:=.inl ⟨_,_,_,h1,hr,h2,h3,rfl⟩
theorem WS.walk{n:Nat}{st:WAt}{W:World}(h2:st.Ok p.P p.F)(h3:Goes p.P false Ext (DW Rd) (jX p.wb p.Dz Φ) n (st.g p.wb (aX p.Dz) []) v):WS p Rd Φ v ⟨7,n+1+p.K0,0⟩ (st.g p.wb p.ds p.fl) W:=.inr (.inl ⟨_,_,h2,h3,rfl,rfl⟩)
theorem WS.lib{d:WD}{g:Goroutine}{W:World}(h1:Φ v)(h2:bT p.P p.ty p.Wg d.stage d.fuel d.deaf g W):WS p Rd Φ v d g W:=.inr (.inr ⟨h1,h2⟩)
theorem WS.parts{motive:∀d g W,WS p Rd Φ v d g W->Prop}{d:WD}{g:Goroutine}{W:World}(h:WS p Rd Φ v d g W)
  (pre:∀{n0 n:Nat}{st:WAt}{g:Goroutine}{W:World}(h1:Goes p.P false (λ_ _=>True) DC0 (λg' _=>g'=st.g p.wb p.ds p.fl) n0 g W)(hr:g.status=.running)(h2:st.Ok p.P p.F)(h3:Goes p.P false Ext (DW Rd) (jX p.wb p.Dz Φ) n (st.g p.wb (aX p.Dz) []) v),motive _ _ _ (WS.pre h1 hr h2 h3))
  (walk:∀{n:Nat}{st:WAt}{W:World}(h2:st.Ok p.P p.F)(h3:Goes p.P false Ext (DW Rd) (jX p.wb p.Dz Φ) n (st.g p.wb (aX p.Dz) []) v),motive _ _ _ (WS.walk (W:=W) h2 h3))
  (lib:∀{d:WD}{g:Goroutine}{W:World}(h1:Φ v)(h2:bT p.P p.ty p.Wg d.stage d.fuel d.deaf g W),motive _ _ _ (WS.lib h1 h2)):motive d g W h:=by
 rcases h with⟨_,_,_,h1,hr,h2,h3,rfl⟩|⟨_,_,h2,h3,rfl,rfl⟩|⟨h1,h2⟩
 .exact pre h1 hr h2 h3
 .exact walk h2 h3
 .exact lib h1 h2
end
theorem vM(b:Frame)(ds:List Deferred)(fl:List Frame)(st:WAt):(st.g b ds fl).status=.running:=by cases st using WAt.parts<;>rfl
section
variable {p:Ph}{Rd:Nat->Prop}{Φ : World->Prop}{v v₁ : World}{d:WD}{g:Goroutine}{W W':World}
theorem WS.rely(hΦ : ∀x y,Ext x y->Φ x->Φ y)(h:WS p Rd Φ v d g W)(hv:Ext v v₁)(r:RL p.ty p.Wg W W'):WS p Rd Φ v₁ d g W':=by
 cases h using WS.parts with
 |pre h1 hr h2 h3=>exact .pre (h1.rely (λ_ _ _ _ _=>trivial) trivial) hr h2 (h3.rely Ext.trans hv)
 |walk h2 h3=>exact .walk h2 (h3.rely Ext.trans hv)
 |lib h1 h2=>exact .lib (hΦ _ _ hv h1) (h2.rely r)
theorem WS.run(h:WS p Rd Φ v d g W):g.status=.running∨(d.stage=1∧g.status=.finished):=by
 cases h using WS.parts with
 |pre h1 hr h2 h3=>exact .inl hr
 |walk h2 h3=>exact .inl (vM _ _ _ _)
 |lib h1 h2=>exact h2.run
theorem Wo(ok:p.Ok){Vis:Nat->Prop}{j i:Nat}{D:Nat->WD}{tag:CTag}{st sm:Int}(hi:i<j)(hb:Vc j D+pend tag<2147483648)(ff:ConcN.Mode j D tag st sm)(gv:WgAt p.ty p.Wg W st sm)(hs:WS p Rd Φ v (D i) g W)(dq:g.status=.running)
  (yt:(D i).stage=7->Rel p.P (hid Vis W.heap.size) 0 v W∧¬Vis p.Wg∧Rd p.Dz∧∃c t fr,v.heap[p.Dz]?=some (.cells c t fr)) :
  (∃g' W' es d v',stepG p.P false g W=.go g' W' es∧Rel p.P (hid Vis W.heap.size) 0 v' W'∧Eff (hid Vis W.heap.size) Rd W W' es∧WS p Rd Φ v' d g' W'∧(D i).stage=7∧(D i).deaf=0∧d.stage=7∧d.deaf=0∧d.fuel<(D i).fuel)∨
  (∃g' W' es d kq mj,LTo p.P p.ty p.Wg j D tag i g W g' W' es d kq mj∧WS p Rd Φ v d g' W'):=by
 have x8:∀S,Eff S Rd W W #[]:=λS=>⟨ae _,λ_ _=>rfl,λ_ _ _=>rfl,rfl,rfl,by simp⟩
 have DJ:WgLive p.ty p.Wg W:=⟨_,_,gv⟩;have vf:∀{n:Nat}{s0:WAt}(m:Nat),D i=⟨7,m,0⟩->n+1+p.K0<=m->s0.Ok p.P p.F->Goes p.P false Ext (DW Rd) (jX p.wb p.Dz Φ) n (s0.g p.wb (aX p.Dz) []) v->g=s0.g p.wb p.ds p.fl->
   ∃g' W' es d v',stepG p.P false g W=.go g' W' es∧Rel p.P (hid Vis W.heap.size) 0 v' W'∧Eff (hid Vis W.heap.size) Rd W W' es∧WS p Rd Φ v' d g' W'∧(D i).stage=7∧(D i).deaf=0∧d.stage=7∧d.deaf=0∧d.fuel<(D i).fuel:=by
  rintro n s0 m hD hm dx hgo rfl;obtain⟨hR,F9,LJ,hB⟩:=yt (by rw[hD]);rcases Pf ok.good ok.kind LJ hB dx hR hgo with gy|⟨n',v',W',es,L,rfl,ej,sw,ir,uj⟩
  .obtain⟨tmps,todo,e,_⟩:=gy v (.refl v);exfalso;cases s0 using WAt.parts with
   |top tm td=>simp[WAt.g,WAt.top,eM,G,Frame.at]at e
   |deep fr inner tm td=>simp[WAt.g,WAt.deep,eM,G,Frame.at]at e
  .have ej:=ej [] p.ds p.fl (.inr rfl);rw[WAt.gk_nil]at ej;refine⟨L [] p.ds p.fl,W',es,?_⟩;cases uj using fY.parts with
   |@on kq qf oh=>exact⟨⟨7,n'+1+p.K0,0⟩,v',ej,sw,ir,(by simp only[WAt.gk_nil];exact .walk qf oh),by rw[hD],by rw[hD],rfl,rfl,by rw[hD];simp;omega⟩
   |@back tmps todo ei=>obtain⟨tm,td,e,hΦ⟩:=ei v' (.refl v');have GQ:WgLive p.ty p.Wg W':=⟨st,sm,gv.of_block (ir.hidden p.Wg ⟨pO gv,F9⟩)⟩;exact⟨⟨7,p.K0,0⟩,v',ej,sw,ir,.lib hΦ (.rel (ok.done _ _ _ GQ)),by rw[hD],by rw[hD],rfl,rfl,by rw[hD];simp;omega⟩
   |@up tmps todo chain ei=>obtain⟨tm,td,e,hΦ⟩:=ei v' (.refl v');simp[aR,eM,G,Frame.at,Frame.raise]at e
 obtain⟨di,KM⟩:∃di,D i=di:=⟨_,rfl⟩;rw[KM]at hs;cases hs using WS.parts with
 |@pre n0 n s0 _ _ h1 hr h2 h3=>
  left;obtain⟨hR,F9,LJ,hB⟩:=yt (by rw[KM]);rcases Goes.cases h1 with gy|⟨n',rfl,ej⟩
  .exact vf _ KM (by omega) h2 h3 (gy W trivial)
  .obtain⟨g',w',es,hgo,⟨rfl,rfl⟩,ks⟩:=ej W trivial;exact⟨g',w',#[],⟨7,n'+1+(n+1+p.K0),0⟩,v,hgo,hR,x8 _,.pre ks (Goes.running (λ_ _ x=>by rw[x];exact vM _ _ _ _) w' trivial ks) h2 h3,by rw[KM],by rw[KM],rfl,rfl,by rw[KM];simp⟩
 |@walk n s0 _ h2 h3=>exact .inl (vf _ KM (ae _) h2 h3 rfl)
 |lib h1 h2=>right;subst KM;obtain⟨g',w',es,d,kq,mj,xb⟩:=Vf hi hb ff gv h2 dq;exact⟨g',w',es,d,kq,mj,xb,.lib h1 xb.sit⟩
end
structure Gh where
 n:Nat
 D:Nat->WD
 Vis:Nat->Nat->Prop
 Rd:Nat->Nat->Prop
 v:Nat->World
 pl:Nat->Nat
 res:Nat->Obj
def Gh.Φ(Γ : Gh)(L i:Nat)(w:World):Prop:=L<=i->w.heap[Γ.pl i]?=some (Γ.res i)
theorem Gh.ΦEP{Γ : Gh}{L i:Nat}(x y:World)(h:Ext x y)(hx:Γ.Φ L i x):Γ.Φ L i y:=λhi=>h.row (hx hi)
structure PCom(p:Ph)(Γ : Gh)(gs:Array Goroutine)(W:World)(t:Trace)(d0:Nat):Prop where
 size:gs.size=Γ.n+1
 Ln:p.L<=Γ.n
 wk:∀i,i < Γ.n->∃g,gs[i+1]?=some g∧WS p (Γ.Rd (i+1)) (Γ.Φ p.L i) (Γ.v (i+1)) (Γ.D i) g W
 old:∀i,i<p.L->(Γ.D i).stage=1
 terr:Terr p.P p.Wg (Wk p.L Γ.n) Γ.Vis Γ.Rd Γ.v W
 dz:∀k,Wk p.L Γ.n k->Γ.Rd k p.Dz
 dzc:∃c t fr,W.heap[p.Dz]?=some (.cells c t fr)
 tc:TCom p.Wg p.L p.Old Γ.n Γ.Vis Γ.Rd W.heap.size t d0 (λi=>(Γ.D i).deaf)
 rel:∀i,p.L<=i->i < Γ.n->(Γ.D i).stage<=6->∃r,RelBy (stA p.Wg) t (i+1) r
 oldV:∀k b,Wk p.L Γ.n k->p.Old b->¬Γ.Vis k b
 oldLt:∀b,p.Old b->b<W.heap.size
 hold:∀b,p.Old b->W.heap[b]?=p.W0.heap[b]?
def zZ(Γ Γ':Gh):Prop:=(Ssum Γ.n Γ'.D<Ssum Γ.n Γ.D∧Vc Γ.n Γ'.D<=Vc Γ.n Γ.D)∨(Ssum Γ.n Γ'.D=Ssum Γ.n Γ.D∧Fsum Γ.n Γ'.D<Fsum Γ.n Γ.D∧Vc Γ.n Γ'.D=Vc Γ.n Γ.D)
theorem Gx{Γ Γ':Gh}{i:Nat}{d:WD}(hi:i < Γ.n)(hD:Γ'.D=upd Γ.D i d)(h:(d.stage<(Γ.D i).stage∧cnt d<=cnt (Γ.D i))∨(d.stage=(Γ.D i).stage∧d.fuel<(Γ.D i).fuel)):zZ Γ Γ':=by
 have e1:=sumTo_upd Γ.D d cnt hi;have e2:=sumTo_upd Γ.D d WD.stage hi;have e3:=sumTo_upd Γ.D d WD.fuel hi;unfold zZ;rw[hD];simp only[Ssum,Fsum,Vc];rcases h with⟨h1,h2⟩|⟨h1,h2⟩
 .exact .inl ⟨by omega,by omega⟩
 .have ec:cnt d=cnt (Γ.D i):=by simp only[cnt,h1]
  exact .inr ⟨by omega,by omega,by omega⟩
structure Next(Γ Γ':Gh):Prop where
 n:Γ'.n=Γ.n
 Rd:Γ'.Rd=Γ.Rd
 pl:Γ'.pl=Γ.pl
 res:Γ'.res=Γ.res
 vis:Γ'.Vis 0=Γ.Vis 0
 ext:Ext (Γ.v 0) (Γ'.v 0)
section
variable {p:Ph}{Γ : Gh}{gs:Array Goroutine}{W:World}{t:Trace}{d0:Nat}
theorem pW{Rd:Nat->Prop}{Φ : World->Prop}{v:World}{d:WD}{g x g':Goroutine}{W W':World}(h:WS p Rd Φ v d x W):woken p.P g g' W' x=x:=by
 unfold woken;split
 .rcases h.run with h|⟨_,h⟩
  .exact again_running _ (.inl h)
  .exact again_running _ (.inr h)
 .rfl
theorem tT{L n:Nat}{D:Nat->WD}(hL:L<=n)(h:∀i,i<L->(D i).stage=1):Vc n D<=n-L:=by
 have key:∀m,L+m<=n->Vc (L+m) D<=m:=by
  intro m;induction m with
  |zero=>
   intro _;have:=sumTo_le (f:=λi=>cnt (D i)) (c:=0) (j:=L) λi hi=>by simp[cnt,h i hi]
   simp only[Vc,Nat.add_zero];omega
  |succ m ih=>
   intro hm;have:=ih (by omega);have hc:cnt (D (L+m))<=1:=by simp only[cnt];split<;>omega
   simp only[Vc]at this⊢;rw[<-Nat.add_assoc,sumTo];omega
 have:=key (n-L) (by omega);rwa [show L+(n-L)=n by omega]at this
theorem Bj(ok:p.Ok)(h:PCom p Γ gs W t d0){tag:CTag}{st sm:Int}(hb:Γ.n-p.L+pend tag<2147483648)(ff:ConcN.Mode Γ.n Γ.D tag st sm)(gv:WgAt p.ty p.Wg W st sm){i:Nat}(hi:i < Γ.n){g:Goroutine}(hg:gs[i+1]?=some g)(dq:g.status=.running):∃Γ' g' W' es kq mj,stepG p.P false g W=.go g' W' es∧PCom p Γ' ((gs.map (woken p.P g g' W')).setIfInBounds (i+1) g') W' (t++MemOp.ofEvents (i+1) g.frame.fn g.frame.place es) d0∧WgAt p.ty p.Wg W' kq mj∧(∀tag',(tag'=tag∨(tag=.blk∧tag'=.w3))->(mayWake p.P g=true->g'.status=.running->tag'≠.blk)->ConcN.Mode Γ.n Γ'.D tag' kq mj)∧Next Γ Γ'∧zZ Γ Γ'∧RL p.ty p.Wg W W':=by
 obtain⟨g₁,hg₁,hs⟩:=h.wk i hi;obtain rfl:g=g₁:=by rw[hg]at hg₁;exact bm hg₁
 have pr:=pO gv;have K4:(Γ.D i).stage=7->p.L<=i:=λh7=>Nat.le_of_not_lt λhl=>by have:=h.old i hl;omega
 have FB:i+1<gs.size:=by rw[h.size];omega
 have yt:(Γ.D i).stage=7->Rel p.P (hid (Γ.Vis (i+1)) W.heap.size) 0 (Γ.v (i+1)) W∧¬Γ.Vis (i+1) p.Wg∧Γ.Rd (i+1) p.Dz∧∃c t fr,(Γ.v (i+1)).heap[p.Dz]?=some (.cells c t fr):=by intro h7;have hk:Wk p.L Γ.n (i+1):=.inr ⟨by have:=K4 h7;omega,by omega⟩;have hR:=h.terr.rel _ hk;refine⟨hR,h.terr.wg _ hk,h.dz _ hk,?_⟩;obtain⟨c,t,fr,hc⟩:=h.dzc;exact⟨c,t,fr,(hR.seen _ (λx=>x.2 (h.terr.rdVis _ _ hk (h.dz _ hk)))).trans hc⟩
 rcases Wo ok hi (by have:=tT h.Ln h.old;omega) ff gv hs dq yt with⟨g',W',es,d,v',hgo,sw,ir,im,h7,h0,a_,DZ,SN⟩|⟨g',W',es,d,kq,mj,xb,im⟩
 .have hk:Wk p.L Γ.n (i+1):=.inr ⟨by have:=K4 h7;omega,by omega⟩;have uo:=ir.chg;have hT:=h.terr.step hk sw uo pr;have jv:WgAt p.ty p.Wg W' st sm:=gv.of_block (ir.hidden p.Wg ⟨pr,h.terr.wg _ hk⟩);have BF:RL p.ty p.Wg W W':=λ_=>⟨_,_,jv⟩;have QF:∀k b,dE Γ.Vis (i+1) (more (Γ.Vis (i+1)) W W') k b->Γ.Vis k b∨W.heap.size<=b:=λk b hb=>by
   by_cases e:k=i+1
   .subst e;rw[gI]at hb;exact hb.imp id (·.1)
   .rw[gD _ _ e]at hb;exact .inl hb
  have XM:∀k b,Γ.Vis k b->dE Γ.Vis (i+1) (more (Γ.Vis (i+1)) W W') k b:=λk b hb=>by
   by_cases e:k=i+1
   .subst e;rw[gI];exact .inl hb
   .rw[gD _ _ e];exact hb
  have ly:∀e∈es,EvK p.Wg p.L Γ.n (dE Γ.Vis (i+1) (more (Γ.Vis (i+1)) W W')) Γ.Rd W'.heap.size (i+1) e:=by
   intro e he;obtain⟨h1,a,h2,h3,h4⟩:=ir.ev e he;obtain⟨loc,wr,sy⟩:=e;simp only at h2 h3 h4;subst h2 h3;obtain⟨h5,h6⟩:=h1;refine⟨λx hx=>?_,λa e=>(by cases e),h6⟩;simp only[MemAct.ofEvent,MemAct.touch?,cr]at hx;subst hx;refine⟨hk.elim (by omega) (·.1),rfl,.inr ⟨rfl,?_⟩⟩;have hv:more (Γ.Vis (i+1)) W W' a.block:=by
    rcases Nat.lt_or_ge a.block W.heap.size with hl|hl
    .exact .inl (ar λhn=>h5 ⟨hl,hn⟩)
    .exact .inr ⟨hl,h6⟩
   by_cases hr:Γ.Rd (i+1) a.block
   .refine .inr ⟨⟨hk.elim (by omega) (·.1),by omega,a.block,rfl,hr⟩,?_⟩;cases wr with
    |true=>exact absurd hr (h4 rfl)
    |false=>rfl
   .exact .inl ⟨hk.elim (by omega) (·.1),by omega,a.block,rfl,by rw[gI];exact hv,hr⟩
  have tf:=((h.tc.grow QF XM).mono ir.grown).app (fn:=g.frame.fn) (pos:=g.frame.place) (yI hT) hi ly;refine⟨{Γ with D:=upd Γ.D i d,Vis:=dE Γ.Vis (i+1) (more (Γ.Vis (i+1)) W W'),v:=iI Γ.v (i+1) v' (W'.heap.size - W.heap.size)},g',W',es,st,sm,hgo,?_,jv,λtag' ht _=>?_,⟨rfl,rfl,rfl,rfl,?_,?_⟩,Gx hi rfl (.inr ⟨by omega,SN⟩),BF⟩
  .refine⟨by simp[h.size],h.Ln,λi' ft=>?_,λi' ft=>?_,hT,h.dz,?_,?_,λi' hL ft ei=>?_,λk b MB hb hv=>?_,λb hb=>bg (h.oldLt b hb) ir.grown,λb hb=>(ir.hidden b ⟨h.oldLt b hb,h.oldV _ b hk hb⟩).trans (h.hold b hb)⟩
   .by_cases e:i'=i
    .subst e;refine⟨g',by simp[FB],?_⟩;show WS p (Γ.Rd (i'+1)) (Γ.Φ p.L i') (iI Γ.v (i'+1) v' _ (i'+1)) (upd Γ.D i' d i') g' W';rw[upd_same];simp only[iI,if_true];exact im
    .obtain⟨x,hx,zq⟩:=h.wk i' ft;refine⟨x,by rw[ax (by omega),bj,hx,bt,pW zq],?_⟩;show WS p (Γ.Rd (i'+1)) (Γ.Φ p.L i') (iI Γ.v (i+1) v' _ (i'+1)) (upd Γ.D i d i') x W';rw[upd_ne _ _ e];simp only[iI,ah (show ¬i'+1=i+1 by omega)];exact zq.rely Gh.ΦEP (tL _ _) BF
   .show(upd Γ.D i d i').stage=1;have:i'≠i:=λe=>by subst e;have:=h.old i' ft;omega
    rw[upd_ne _ _ this];exact h.old i' ft
   .obtain⟨c,t,fr,hc⟩:=h.dzc;exact⟨c,t,fr,(uo.block _ (Array.getElem?_eq_some_iff.1 hc).1 λx=>x.2 (h.dz _ hk)).trans hc⟩
   .have e:(λi'=>(upd Γ.D i d i').deaf)=upd (λi=>(Γ.D i).deaf) i (deafBehind (Γ.D i).deaf es):=by
     funext i';by_cases e:i'=i
     .subst e;rw[upd_same,upd_same,DZ,h0]
      exact(deafBehind_idle (λx hx=>by
       obtain⟨_,a,ha,_⟩:=ir.ev x hx
       rw[ha];exact⟨by simp,by simp⟩) 0).symm
     .rw[upd_ne _ _ e,upd_ne _ _ e]
    show TCom p.Wg p.L p.Old Γ.n _ Γ.Rd W'.heap.size _ d0 (λi'=>(upd Γ.D i d i').deaf);rw[e];exact tf
   .have ei:(upd Γ.D i d i').stage<=6:=ei;by_cases e:i'=i
    .subst e;rw[upd_same]at ei;omega
    .rw[upd_ne _ _ e]at ei;obtain⟨r,hr⟩:=h.rel i' hL ft ei;exact⟨r,hr.appOther g_of_ofEvents (by omega)⟩
   .rcases QF k b hv with hv|hv
    .exact h.oldV k b MB hb hv
    .have:=h.oldLt b hb;omega
  .have hm:ConcN.Mode Γ.n (upd Γ.D i d) tag st sm:=ff.congr λa ha=>by
    by_cases e:a=i
    .subst e;rw[upd_same];omega
    .rw[upd_ne _ _ e]
   exact hm.retag ht
  .simp[dE]
  .simp only[iI,ah (show ¬0=i+1 by omega)];exact tL _ _
 .have hA:=xb.aside;have fo:W'.heap.size=W.heap.size:=hA.size;have uo:Chg (λb=>b=p.Wg) W W':=⟨by rw[fo];exact ae _,λb _ hb=>hA.block b hb,hA.os,hA.output⟩;have hT:=h.terr.still uo fo (λk b hk hv e=>h.terr.wg k hk (e▸hv));have BF:RL p.ty p.Wg W W':=λ_=>⟨_,_,xb.at'⟩;have ly:∀e∈es,EvK p.Wg p.L Γ.n Γ.Vis Γ.Rd W.heap.size (i+1) e:=by
   intro e he;have fu:=xb.ev e he;refine⟨λx hx=>?_,fu.norel,MemAct.low_mono (by omega) fu.low⟩;have hL:p.L<=i:=Nat.le_of_not_lt λhl=>by have:=xb.mute (h.old i hl) e he;rw[this]at hx;cases hx
   obtain⟨h1,h2⟩:=fu.touch x hx;refine⟨by omega,?_,.inl ⟨h1,h2⟩⟩;obtain⟨a,ha,_⟩:=h1;rw[ha];rfl
  have tf:=h.tc.app (fn:=g.frame.fn) (pos:=g.frame.place) (yI h.terr) hi ly;refine⟨{Γ with D:=upd Γ.D i d},g',W',es,kq,mj,xb.go,?_,xb.at',xb.mode,⟨rfl,rfl,rfl,rfl,rfl,.refl _⟩,Gx hi rfl (xb.less.imp id λx=>⟨x.1,by have:=x.2;omega⟩),BF⟩
  refine⟨by simp[h.size],h.Ln,λi' ft=>?_,λi' ft=>?_,hT,h.dz,?_,?_,λi' hL ft ei=>?_,h.oldV,λb hb=>by rw[fo];exact h.oldLt b hb,λb hb=>(xb.aside.block b λe=>ok.oldW (e▸hb)).trans (h.hold b hb)⟩
  .by_cases e:i'=i
   .subst e;refine⟨g',by simp[FB],?_⟩;show WS p (Γ.Rd (i'+1)) (Γ.Φ p.L i') (Γ.v (i'+1)) (upd Γ.D i' d i') g' W';rw[upd_same];exact im
   .obtain⟨x,hx,zq⟩:=h.wk i' ft;refine⟨x,by rw[ax (by omega),bj,hx,bt,pW zq],?_⟩;show WS p (Γ.Rd (i'+1)) (Γ.Φ p.L i') (Γ.v (i'+1)) (upd Γ.D i d i') x W';rw[upd_ne _ _ e];exact zq.rely Gh.ΦEP (.refl _) BF
  .show(upd Γ.D i d i').stage=1;by_cases e:i'=i
   .subst e;rw[upd_same];have h1:=h.old i' ft;have LB:=xb.sit;have:d.stage<=1:=by rcases xb.less with x|x<;>omega
    have:=LB.pos;omega
   .rw[upd_ne _ _ e];exact h.old i' ft
  .obtain⟨c,t,fr,hc⟩:=h.dzc;have dy:p.Dz≠p.Wg:=λe=>h.terr.wg 0 (.inl rfl) (e▸h.terr.rdVis 0 _ (.inl rfl) (h.dz 0 (.inl rfl)));exact⟨c,t,fr,(hA.block _ dy).trans hc⟩
  .have e:(λi'=>(upd Γ.D i d i').deaf)=upd (λi=>(Γ.D i).deaf) i (deafBehind (Γ.D i).deaf es):=by
    funext i';by_cases e:i'=i
    .subst e;rw[upd_same,upd_same,xb.deaf]
    .rw[upd_ne _ _ e,upd_ne _ _ e]
   show TCom p.Wg p.L p.Old Γ.n _ Γ.Rd W'.heap.size _ d0 (λi'=>(upd Γ.D i d i').deaf);rw[e,fo];exact tf
  .have ei:(upd Γ.D i d i').stage<=6:=ei;by_cases e:i'=i
   .subst e;rw[upd_same]at ei;exact xb.rel ei t (i'+1) _ _ (h.tc.deafW i' ft) λh6=>h.rel i' hL ft h6
   .rw[upd_ne _ _ e]at ei;obtain⟨r,hr⟩:=h.rel i' hL ft ei;exact⟨r,hr.appOther g_of_ofEvents (by omega)⟩
end
open Go.ConcR (KK WgAt stA smA rd wr mk DC0 g_of_ofEvents)
def dO(P:Program)(Old:Nat->Prop)(W0:World)(Stop:Goroutine->(Nat->Prop)->World->Prop)(gs:Array Goroutine)(W:World)(sl:Option (Nat×Nat))(t:Trace):Prop:=
 ∃N je W' ju t' q' g' S' v',runNT P N (crowd gs W sl) t=(.next (crowd je W' ju),t')∧Comp P S' v' g' je W' t' q'∧Stop g' S' v'∧Fx Old W0 S' W'
theorem dO.step{P:Program}{Old:Nat->Prop}{W0:World}{Stop:Goroutine->(Nat->Prop)->World->Prop}{gs je:Array Goroutine}{W W':World}{sl ju:Option (Nat×Nat)}{t ops:Trace}(ei:stepT P (crowd gs W sl)=(.next (crowd je W' ju),ops))(h:dO P Old W0 Stop je W' ju (t++ops)):dO P Old W0 Stop gs W sl t:=by obtain⟨N,NO,W2,BX,t2,q2,g2,S2,v2,r,c,s⟩:=h;refine⟨N+1,NO,W2,BX,t2,q2,g2,S2,v2,?_,c,s⟩;simp only[runNT,ei];exact r
structure At(p:Ph)(tag:CTag)(d0:Nat)(a:Goroutine)(n:Nat)(pl:Nat->Nat)(res:Nat->Obj)(R0:Nat->Prop)(v:World)(Γ : Gh)(gs:Array Goroutine)(W:World)(t:Trace)(st sm:Int):Prop where
 n:Γ.n=n
 pl:Γ.pl=pl
 res:Γ.res=res
 R0:Γ.Rd 0=R0
 ext:Ext v (Γ.v 0)
 com:PCom p Γ gs W t d0
 at0:gs[0]?=some a
 mode:ConcN.Mode Γ.n Γ.D tag st sm
 wg:WgAt p.ty p.Wg W st sm
def bU(p:Ph)(Stop:Goroutine->(Nat->Prop)->World->Prop)(tag:CTag)(d0:Nat)(a:Goroutine)(n:Nat)(pl:Nat->Nat)(res:Nat->Obj)(R0:Nat->Prop)(v:World):Prop:=
 ∀Γ gs W sl t st sm,At p tag d0 a n pl res R0 v Γ gs W t st sm->dO p.P p.Old p.W0 Stop gs W sl t
section
variable {p:Ph}{Stop:Goroutine->(Nat->Prop)->World->Prop}{tag:CTag}{d0:Nat}{a:Goroutine}{n:Nat}{pl:Nat->Nat}{res:Nat->Obj}{R0:Nat->Prop}{v:World}{Γ : Gh}{gs:Array Goroutine}{W:World}{t:Trace}{st sm:Int}
theorem PCom.at{d0:Nat}(h:PCom p Γ gs W t d0)(d:Nat):PCom p Γ gs (W.at d) t d0:=
 ⟨h.size,h.Ln,λi hi=>let ⟨g,hg,hs⟩:=h.wk i hi;⟨g,hg,hs.rely Gh.ΦEP (.refl _) λx=>x⟩,h.old,h.terr.at d,h.dz,h.dzc,h.tc,h.rel,h.oldV,h.oldLt,h.hold⟩
theorem At.at(h:At p tag d0 a n pl res R0 v Γ gs W t st sm)(d:Nat):At p tag d0 a n pl res R0 v Γ gs (W.at d) t st sm:=⟨h.n,h.pl,h.res,h.R0,h.ext,h.com.at d,h.at0,h.mode,h.wg⟩
theorem Cn{d0:Nat}(h:PCom p Γ gs W t d0)(h0:gs[0]?=some a)(ha:awake a):∀g∈gs,awake g:=by
 intro g hg;obtain⟨i,hi⟩:=Array.mem_iff_getElem?.1 hg;cases i with
 |zero=>rw[h0]at hi;cases hi;exact ha
 |succ i=>
  have dp:i < Γ.n:=by have:=(Array.getElem?_eq_some_iff.1 hi).1;rw[h.size]at this;omega
  obtain⟨g',ks,hs⟩:=h.wk i dp;rw[hi]at ks;cases ks;rcases hs.run with hr|⟨_,hr⟩
  .exact awake_of (.inl hr)
  .exact awake_of (.inr (.inr hr))
theorem mJ(ok:p.Ok)(dq:a.status=.running)(eu:tag≠.blk)(hb:n-p.L+pend tag<2147483648){H:World->Prop}(hH:∀W W',RL p.ty p.Wg W W'->H W->H W')
  (ej:∀Γ gs W sl t st sm,At p tag d0 a n pl res R0 v Γ gs W t st sm->H W->∃je W' ops,runT p.P (crowd gs W sl) 0=(.next (crowd je W' sl),ops)∧dO p.P p.Old p.W0 Stop je W' sl (t++ops)) :
  ∀Γ gs W sl t st sm,At p tag d0 a n pl res R0 v Γ gs W t st sm->H W->dO p.P p.Old p.W0 Stop gs W sl t:=by
 intro Γ gs W sl t st sm h hw;generalize hμ : (Ssum Γ.n Γ.D,Fsum Γ.n Γ.D)=μ;induction μ using (Prod.lex Nat.lt_wfRel Nat.lt_wfRel).wf.induction generalizing Γ gs W sl t st sm with
 |_ μ ih=>
 have HH:=Cn h.com h.at0 (awake_of (.inl dq));obtain⟨i,g,d,ju,hi,hg,ei⟩:=crowd_pick (P:=p.P) (w:=W) (sl:=sl) HH ⟨0,_,h.at0,dq⟩;have h':=h.at d;have E0:H (W.at d):=hH W (W.at d) (λx=>x) hw;cases i with
 |zero=>obtain⟨je,W',ops,hr,f_⟩:=ej Γ gs (W.at d) ju t st sm h' E0;exact .step (ei.trans hr) f_
 |succ i=>
  have dp:i < Γ.n:=by have:=(Array.getElem?_eq_some_iff.1 hi).1;rw[h.com.size]at this;omega
  obtain⟨Γ',g',W',es,kq,mj,hgo,iz,gv,hm,ee,og,BF⟩:=Bj ok h'.com (by rw[h.n];exact hb) h'.mode h'.wg dp hi hg;have OE:=runT_crowd_go (P:=p.P) (sl:=ju) (i:=i+1) hi (by simpa using hgo);refine .step (ei.trans OE) (ih _ ?_ Γ' _ W' ju _ kq mj ⟨ee.n.trans h.n,ee.pl.trans h.pl,ee.res.trans h.res,?_,h.ext.trans _ _ _ ee.ext,iz,?_,?_,gv⟩ (hH _ _ BF E0) rfl)
  .rw[<-hμ,ee.n];rcases og with⟨h1,_⟩|⟨h1,h2,_⟩
   .exact Prod.Lex.left _ _ h1
   .rw[h1];exact Prod.Lex.right _ h2
  .rw[ee.Rd];exact h.R0
  .rw[ax (by omega),bj,h.at0,bt];exact congrArg some (woken_run dq)
  .rw[ee.n];exact hm tag (.inl rfl) λ_ _=>eu
theorem vU(ok:p.Ok)(dq:a.status=.running)(eu:tag≠.blk)(hb:n-p.L+pend tag<2147483648)
  (ej:∀Γ gs W sl t st sm,At p tag d0 a n pl res R0 v Γ gs W t st sm->∃je W' ops,runT p.P (crowd gs W sl) 0=(.next (crowd je W' sl),ops)∧dO p.P p.Old p.W0 Stop je W' sl (t++ops)) :
  bU p Stop tag d0 a n pl res R0 v:=
 λΓ gs W sl t st sm h=>mJ (H:=λ_=>True) ok dq eu hb (λ_ _ _ _=>trivial) (λΓ gs W sl t st sm h _=>ej Γ gs W sl t st sm h) Γ gs W sl t st sm h trivial
theorem Ob(ok:p.Ok)(h:PCom p Γ gs W t d0)(gv:WgAt p.ty p.Wg W st sm){a':Goroutine}{W':World}{es:Array Event}{v':World}(h0:gs[0]?=some a)(sw:Rel p.P (hid (Γ.Vis 0) W.heap.size) 0 v' W')(ir:Eff (hid (Γ.Vis 0) W.heap.size) (Γ.Rd 0) W W' es):∃Γ',Γ'.n=Γ.n∧Γ'.pl=Γ.pl∧Γ'.res=Γ.res∧Γ'.Rd=Γ.Rd∧Γ'.D=Γ.D∧Γ'.v 0=v'∧PCom p Γ' ((gs.map (woken p.P a a' W')).setIfInBounds 0 a') W' (t++MemOp.ofEvents 0 a.frame.fn a.frame.place es) d0∧WgAt p.ty p.Wg W' st sm:=by
 have pr:=pO gv;have hk:Wk p.L Γ.n 0:=.inl rfl;have uo:=ir.chg;have hT:=h.terr.step hk sw uo pr;have jv:WgAt p.ty p.Wg W' st sm:=gv.of_block (ir.hidden p.Wg ⟨pr,h.terr.wg _ hk⟩);have BF:RL p.ty p.Wg W W':=λ_=>⟨_,_,jv⟩;have QF:∀k b,dE Γ.Vis 0 (more (Γ.Vis 0) W W') k b->Γ.Vis k b∨W.heap.size<=b:=λk b hb=>by
  by_cases e:k=0
  .subst e;rw[gI]at hb;exact hb.imp id (·.1)
  .rw[gD _ _ e]at hb;exact .inl hb
 have XM:∀k b,Γ.Vis k b->dE Γ.Vis 0 (more (Γ.Vis 0) W W') k b:=λk b hb=>by
  by_cases e:k=0
  .subst e;rw[gI];exact .inl hb
  .rw[gD _ _ e];exact hb
 have hold:∀k b,Wk p.L Γ.n k->p.Old b->¬dE Γ.Vis 0 (more (Γ.Vis 0) W W') k b:=λk b MB hb hv=>by
  rcases QF k b hv with hv|hv
  .exact h.oldV k b MB hb hv
  .have:=h.oldLt b hb;omega
 have ly:∀e∈es,EvZ p.Wg p.L Γ.n p.Old (dE Γ.Vis 0 (more (Γ.Vis 0) W W')) Γ.Rd W'.heap.size e:=by
  intro e he;obtain⟨h1,a,h2,h3,h4⟩:=ir.ev e he;obtain⟨loc,wr,sy⟩:=e;simp only at h2 h3 h4;subst h2 h3;obtain⟨h5,h6⟩:=h1;refine⟨λx hx=>?_,λa e=>(by cases e),h6⟩;simp only[MemAct.ofEvent,MemAct.touch?,cr]at hx;subst hx;refine⟨rfl,.inr ⟨a.block,rfl,?_,λhw=>h4 hw⟩⟩;rw[gI];rcases Nat.lt_or_ge a.block W.heap.size with hl|hl
  .exact .inl (ar λhn=>h5 ⟨hl,hn⟩)
  .exact .inr ⟨hl,h6⟩
 have hd:deafBehind d0 es=d0:=deafBehind_idle (λx hx=>by
  obtain⟨_,a,ha,_⟩:=ir.ev x hx
  rw[ha];exact⟨by simp,by simp⟩) d0
 have tf:=((h.tc.grow QF XM).mono ir.grown).app0 (fn:=a.frame.fn) (pos:=a.frame.place) hT (λb=>hold 0 b hk) ok.oldW ly;rw[hd]at tf;have dp:0<gs.size:=by rw[h.size];omega
 refine⟨{Γ with Vis:=dE Γ.Vis 0 (more (Γ.Vis 0) W W'),v:=iI Γ.v 0 v' (W'.heap.size - W.heap.size)},rfl,rfl,rfl,rfl,rfl,by simp[iI],?_,jv⟩;refine⟨by simp[h.size],h.Ln,λi hi=>?_,h.old,hT,h.dz,?_,tf,λi hL hi ei=>?_,hold,λb hb=>bg (h.oldLt b hb) ir.grown,λb hb=>(ir.hidden b ⟨h.oldLt b hb,h.oldV _ b hk hb⟩).trans (h.hold b hb)⟩
 .obtain⟨x,hx,zq⟩:=h.wk i hi;refine⟨x,by rw[ax (by omega),bj,hx,bt,pW zq],?_⟩;show WS p (Γ.Rd (i+1)) (Γ.Φ p.L i) (iI Γ.v 0 v' _ (i+1)) (Γ.D i) x W';simp only[iI,ah (show ¬i+1=0 by omega)];exact zq.rely Gh.ΦEP (tL _ _) BF
 .obtain⟨c,t,fr,hc⟩:=h.dzc;exact⟨c,t,fr,(uo.block _ (Array.getElem?_eq_some_iff.1 hc).1 λx=>x.2 (h.dz _ hk)).trans hc⟩
 .obtain⟨r,hr⟩:=h.rel i hL hi ei;exact⟨r,hr.appOther g_of_ofEvents (by omega)⟩
structure EvS(Wg:Nat)(e:Event):Prop where
 touch:∀x,(MemAct.ofEvent e).touch?=some x->ShN Wg x.loc∧x.kind≠.plain
 norel:∀a,e.loc≠.mark (.release a)
 low:(MemAct.ofEvent e).low (Wg+1)
theorem mH(ok:p.Ok)(h:PCom p Γ gs W t d0)(gv:WgAt p.ty p.Wg W st sm){a':Goroutine}{W':World}{es:Array Event}{kq mj:Int}(h0:gs[0]?=some a)(hA:Aside p.Wg W W')(jv:WgAt p.ty p.Wg W' kq mj)(fu:∀e∈es,EvS p.Wg e):PCom p Γ ((gs.map (woken p.P a a' W')).setIfInBounds 0 a') W' (t++MemOp.ofEvents 0 a.frame.fn a.frame.place es) (deafBehind d0 es):=by
 have pr:=pO gv;have fo:W'.heap.size=W.heap.size:=hA.size;have uo:Chg (λb=>b=p.Wg) W W':=⟨by rw[fo];exact ae _,λb _ hb=>hA.block b hb,hA.os,hA.output⟩;have hT:=h.terr.still uo fo (λk b hk hv e=>h.terr.wg k hk (e▸hv));have BF:RL p.ty p.Wg W W':=λ_=>⟨_,_,jv⟩;have ly:∀e∈es,EvZ p.Wg p.L Γ.n p.Old Γ.Vis Γ.Rd W.heap.size e:=by intro e he;have fu:=fu e he;refine⟨λx hx=>?_,fu.norel,MemAct.low_mono (by omega) fu.low⟩;obtain⟨h1,h2⟩:=fu.touch x hx;refine⟨?_,.inl ⟨h1,h2⟩⟩;obtain⟨a,ha,_⟩:=h1;rw[ha];rfl
 have tf:=h.tc.app0 (fn:=a.frame.fn) (pos:=a.frame.place) h.terr (λb=>h.oldV 0 b (.inl rfl)) ok.oldW ly;refine⟨by simp[h.size],h.Ln,λi hi=>?_,h.old,hT,h.dz,?_,by rw[fo];exact tf,λi hL hi ei=>?_,h.oldV,λb hb=>by rw[fo];exact h.oldLt b hb,λb hb=>(hA.block b λe=>ok.oldW (e▸hb)).trans (h.hold b hb)⟩
 .obtain⟨x,hx,zq⟩:=h.wk i hi;exact⟨x,by rw[ax (by omega),bj,hx,bt,pW zq],zq.rely Gh.ΦEP (.refl _) BF⟩
 .obtain⟨c,t,fr,hc⟩:=h.dzc;have dy:p.Dz≠p.Wg:=λe=>h.terr.wg 0 (.inl rfl) (e▸h.terr.rdVis 0 _ (.inl rfl) (h.dz 0 (.inl rfl)));exact⟨c,t,fr,(hA.block _ dy).trans hc⟩
 .obtain⟨r,hr⟩:=h.rel i hL hi ei;exact⟨r,hr.appOther g_of_ofEvents (by omega)⟩
theorem Ee{P:Program}{b:Frame}{Dz:Nat}{Rd:Nat->Prop}{Stop0:Goroutine->World->Prop}(rl:∀tmps todo u,¬Stop0 (eM b (aX Dz) [] tmps todo) u){tmps:Array Value}{m:Nat}{v:World}(hB:∃c t fr,v.heap[Dz]?=some (.cells c t fr))(hD:Rd Dz)
  (h:∀w₁,Ext v w₁->(stepG P true ((WAt.top tmps []).g b (aX Dz) []) w₁).goes λg' w' es=>DW Rd w₁ w' es∧Goes P true Ext (DW Rd) Stop0 m g' w'):False:=by
 have:=h v (.refl v);have e:stepG P true ((WAt.top tmps []).g b (aX Dz) []) v=.go (eM b (aX Dz) [] tmps []) v #[]:=stepG_end;rw[e]at this;obtain⟨c,t,fr,hc⟩:=hB;exact rl _ _ _ (Goes.stop_of (Eq hc) this.2 v (.refl v))
theorem Mf(ok:p.Ok)(eu:tag≠.blk)(hb:n-p.L+pend tag<2147483648){b:Frame}(hk:b.kind≠.early){ds:List Deferred}{fl:List Frame}{k:List Item}{Stop0:Goroutine->World->Prop}(rl:∀tmps todo u,¬Stop0 (eM b (aX p.Dz) [] tmps todo) u)(XO:∀tmps todo chain u,¬Stop0 (aR b (aX p.Dz) [] tmps todo chain) u)
  (mz:∀(st:WAt)(u:World),st.Ok p.P p.F->(∀u',Ext u u'->Stop0 (st.g b (aX p.Dz) []) u')->bU p Stop tag d0 (st.gk b ds fl k) n pl res R0 u) :
  ∀(m:Nat)(cF:WAt)(v:World),cF.Ok p.P p.F->Goes p.P true Ext (DW R0) Stop0 m (cF.g b (aX p.Dz) []) v->bU p Stop tag d0 (cF.gk b ds fl k) n pl res R0 v:=by
 intro m;induction m with
 |zero=>intro cF v dx hgo;exact mz cF v dx hgo
 |succ m ih=>
  intro cF v dx hgo;rcases hgo with gy|oh
  .exact mz cF v dx gy
  refine vU ok (by cases cF using WAt.parts<;>rfl) eu hb λΓ gs W sl t st sm h=>?_
  have hR:=h.com.terr.rel 0 (.inl rfl);have CY:∀w₁,Ext (Γ.v 0) w₁->∃g' w' es,stepG p.P true (cF.g b (aX p.Dz) []) w₁ = .go g' w' es∧DW (Γ.Rd 0) w₁ w' es∧Goes p.P true Ext (DW (Γ.Rd 0)) Stop0 m g' w':=by
   intro w₁ hw;rw[h.R0];have:=oh.2 w₁ (h.ext.trans _ _ _ hw);cases hs:stepG p.P true (cF.g b (aX p.Dz) []) w₁ with
   |go g' w' es=>rw[hs]at this;exact⟨g',w',es,rfl,this.1,this.2⟩
   |_=>rw[hs]at this;exact this.elim
  have hB:∃c t fr,(Γ.v 0).heap[p.Dz]?=some (.cells c t fr):=by obtain⟨c,t,fr,hc⟩:=h.com.dzc;exact⟨c,t,fr,(hR.seen _ (λx=>x.2 (h.com.terr.rdVis _ _ (.inl rfl) (h.com.dz _ (.inl rfl))))).trans hc⟩
  have EC:cF.Busy:=by
   cases cF using WAt.parts with
   |deep fr inner tmps todo=>trivial
   |top tmps todo=>rintro rfl;refine Ee (P:=p.P) (Rd:=R0) (m:=m) rl (tmps:=tmps) hB (h.R0▸h.com.dz 0 (.inl rfl)) λw₁ hw=>oh.2 w₁ (h.ext.trans _ _ _ hw)
  have fin:∀{a':Goroutine}{W':World}{es:Array Event}{v':World},stepG p.P true (cF.gk b ds fl k) W=.go a' W' es->Rel p.P (hid (Γ.Vis 0) W.heap.size) 0 v' W'->Eff (hid (Γ.Vis 0) W.heap.size) (Γ.Rd 0) W W' es->bU p Stop tag d0 a' n pl res R0 v'->
    ∃je W' ops,runT p.P (crowd gs W sl) 0=(.next (crowd je W' sl),ops)∧dO p.P p.Old p.W0 Stop je W' sl (t++ops):=by
   intro a' W' es v' hgo sw ir Z4;obtain⟨Γ',e1,e2,e3,e4,e5,e6,iz,jv⟩:=Ob ok h.com h.wg (a':=a') h.at0 sw ir;refine⟨_,_,_,runT_crowd_go (P:=p.P) (sl:=sl) (i:=0) h.at0 hgo,Z4 Γ' _ W' sl _ st sm ⟨e1.trans h.n,e2.trans h.pl,e3.trans h.res,by rw[e4];exact h.R0,by rw[e6];exact .refl _,iz,?_,by rw[e1,e5];exact h.mode,jv⟩⟩;have:0<gs.size:=by rw[h.com.size];omega
   simp[this]
  obtain⟨v',W',es,L,ej,sw,ir,uj⟩:=wY ok.good hk (h.com.dz 0 (.inl rfl)) hB dx hR CY;have ej:=ej k ds fl (.inl EC);cases uj using fY.parts with
  |@on kq qf DS=>exact fin ej sw ir (ih kq v' qf (by rw[<-h.R0];exact DS))
  |@back tmps todo ei=>exact absurd (ei v' (.refl v')) (rl _ _ _)
  |@up tmps todo chain ei=>exact absurd (ei v' (.refl v')) (XO _ _ _ _)
theorem yQ(ok:p.Ok)(h:At p tag d0 a n pl res R0 v Γ gs W t st sm){a':Goroutine}{W':World}{es:Array Event}{kq mj:Int}{tag':CTag}{d1:Nat}{sl:Option (Nat×Nat)}(hgo:stepG p.P true a W=.go a' W' es)(hA:Aside p.Wg W W')(jv:WgAt p.ty p.Wg W' kq mj)
  (fu:∀e∈es,EvS p.Wg e) (hm:ConcN.Mode Γ.n Γ.D tag' kq mj) (hd:deafBehind d0 es=d1) (hc:∀gs t,At p tag' d1 a' n pl res R0 v Γ gs W' t kq mj->dO p.P p.Old p.W0 Stop gs W' sl t) :
  ∃je W' ops,runT p.P (crowd gs W sl) 0=(.next (crowd je W' sl),ops)∧dO p.P p.Old p.W0 Stop je W' sl (t++ops):=by
 have iz:=mH ok h.com h.wg (a':=a') h.at0 hA jv fu;rw[hd]at iz;have:0<gs.size:=by rw[h.com.size];omega
 exact⟨_,_,_,runT_crowd_go (P:=p.P) (sl:=sl) (i:=0) h.at0 hgo,hc _ _ ⟨h.n,h.pl,h.res,h.R0,h.ext,iz,by simp[this],hm,jv⟩⟩
theorem mS(ok:p.Ok)(dq:a.status=.running)(eu:tag≠.blk)(hb:n-p.L+pend tag<2147483648){tag':CTag}{d1:Nat}{H:World->Prop}{H':Goroutine->World->Prop}(hH:∀W W',RL p.ty p.Wg W W'->H W->H W')
  (ej:∀W st sm D,WgAt p.ty p.Wg W st sm->ConcN.Mode n D tag st sm->Vc n D<=n-p.L->H W->∃a' W' es kq mj,stepG p.P true a W=.go a' W' es∧Aside p.Wg W W'∧WgAt p.ty p.Wg W' kq mj∧(∀e∈es,EvS p.Wg e)∧ConcN.Mode n D tag' kq mj∧deafBehind d0 es=d1∧H' a' W')
  (mz:∀a' Γ gs W sl t st sm,At p tag' d1 a' n pl res R0 v Γ gs W t st sm->H' a' W->dO p.P p.Old p.W0 Stop gs W sl t) :
  ∀Γ gs W sl t st sm,At p tag d0 a n pl res R0 v Γ gs W t st sm->H W->dO p.P p.Old p.W0 Stop gs W sl t:=by
 refine mJ ok dq eu hb hH λΓ gs W sl t st sm h hw=>?_
 obtain⟨a',W',es,kq,mj,hgo,hA,jv,fu,hm,hd,ua⟩:=ej W st sm Γ.D h.wg (by rw[<-h.n];exact h.mode) (by rw[<-h.n];exact tT h.com.Ln h.com.old) hw;have iz:=mH ok h.com h.wg (a':=a') h.at0 hA jv fu;rw[hd]at iz;refine⟨_,_,_,runT_crowd_go (P:=p.P) (sl:=sl) (i:=0) h.at0 hgo,mz a' Γ _ W' sl _ kq mj ⟨h.n,h.pl,h.res,h.R0,h.ext,iz,?_,by rw[h.n];exact hm,jv⟩ ua⟩;have:0<gs.size:=by rw[h.com.size];omega
 simp[this]
theorem gT(ok:p.Ok)(eu:tag≠.blk)(hb:n-p.L+pend tag<2147483648){Stop0:Goroutine->World->Prop}
  (mz:∀a' Γ gs W sl t st sm,At p tag d0 a' n pl res R0 v Γ gs W t st sm->(∀W',RL p.ty p.Wg W W'->Stop0 a' W')->dO p.P p.Old p.W0 Stop gs W sl t) :
  ∀(m:Nat)(a:Goroutine) Γ gs W sl t st sm,At p tag d0 a n pl res R0 v Γ gs W t st sm->Goes p.P true (RL p.ty p.Wg) DC0 Stop0 m a W->dO p.P p.Old p.W0 Stop gs W sl t:=by
 intro m;induction m with
 |zero=>intro a Γ gs W sl t st sm h hgo;exact mz a Γ gs W sl t st sm h hgo
 |succ m ih=>
  intro a Γ gs W sl t st sm h hgo;rcases hgo with gy|⟨dq,hgo⟩
  .exact mz a Γ gs W sl t st sm h gy
  .refine mS (tag':=tag) (d1:=d0) (H:=λW=>∀w₁,RL p.ty p.Wg W w₁->(stepG p.P true a w₁).goes λg' w' es=>DC0 w₁ w' es∧Goes p.P true (RL p.ty p.Wg) DC0 Stop0 m g' w') (H':=λa' W'=>Goes p.P true (RL p.ty p.Wg) DC0 Stop0 m a' W') ok dq eu hb
    (λW W' r hx w₁ r₁=>hx w₁ (RL.trans _ _ _ r r₁)) (λW st sm D gv hm _ hx=>?_) ih Γ gs W sl t st sm h hgo
   have:=hx W (λx=>x);cases hs:stepG p.P true a W with
   |go g' w' es=>rw[hs]at this;obtain⟨⟨rfl,rfl⟩,hg⟩:=this;exact⟨g',w',#[],st,sm,rfl,.refl _ _,gv,by simp,hm,rfl,hg⟩
   |_=>rw[hs]at this;exact this.elim
end
open Go.ConcR (KK WgAt stA smA rd wr mk DC0 Bk g_of_ofEvents)
theorem jU{Wg:Nat}{e:Event}(h:Bk Wg e):EvS Wg e:=let x:=Ib h;⟨λy hy=>⟨(x.touch y hy).1,by rw[(x.touch y hy).2];simp⟩,x.norel,x.low⟩
section
variable (P:Program)(ty:TypeId)(Wg:Nat)(gN:Goroutine)
def pB(g:Goroutine)(w:World):Prop:=g.status=.running∧∃g',stepG P true g w=.go g' w #[mk .enable]∧∃m,Goes P true (RL ty Wg) DC0 (λg _=>g=gN) m g' w
def Ac(g:Goroutine)(w:World):Prop:=g.status=.running∧∃g',stepG P true g w=.go g' w #[mk (.read (smA Wg))]∧∃m,Goes P true (RL ty Wg) DC0 (pB P ty Wg gN) m g' w
def Ae(g:Goroutine)(w:World):Prop:=g.status=.running∧∀v:Nat,v<2147483647->WgAt ty Wg w (v*KK) 0->
 ∃g',stepG P true g w=.go g' (w.setCell (stA Wg) (.int .u64 ((v+1)*KK))) #[rd (stA Wg),wr (stA Wg)]∧∃m,Goes P true (RL ty Wg) DC0 (λg w=>Ac P ty Wg gN g w∨pB P ty Wg gN g w) m g' (w.setCell (stA Wg) (.int .u64 ((v+1)*KK)))
def Ad(g:Goroutine)(w:World):Prop:=g.status=.running∧∃g',stepG P true g w=.go g' w #[mk .disable]∧∃m,Goes P true (RL ty Wg) DC0 (Ae P ty Wg gN) m g' w
end
section
variable {p:Ph}{Stop:Goroutine->(Nat->Prop)->World->Prop}{a:Goroutine}{n:Nat}{pl:Nat->Nat}{res:Nat->Obj}{R0:Nat->Prop}{v:World}
theorem Oa(ok:p.Ok)(hb:n-p.L+1<2147483648){gN:Goroutine}{m:Nat}(hgo:∀W,WgLive p.ty p.Wg W->Goes p.P true (RL p.ty p.Wg) DC0 (Ad p.P p.ty p.Wg gN) m a W)
  (hN:bU p Stop (.sp 0 3) 0 gN n pl res R0 v):bU p Stop (.sp 0 5) 0 a n pl res R0 v:=by
 intro Γ gs W sl t st sm h;refine gT ok (by simp) (by simp[pend];omega) (λa1 Γ gs W sl t st sm h1 jg=>?_) m a Γ gs W sl t st sm h (hgo W ⟨_,_,h.wg⟩);refine mS (tag':=.sp 0 4) (d1:=1) (H:=λW=>∀W',RL p.ty p.Wg W W'->Ad p.P p.ty p.Wg gN a1 W') (H':=λa' W'=>∃m,Goes p.P true (RL p.ty p.Wg) DC0 (Ae p.P p.ty p.Wg gN) m a' W') ok (jg W λx=>x).1 (by simp) (by simp[pend];omega)
  (λW W' r hx w₁ r₁=>hx w₁ (RL.trans _ _ _ r r₁)) (λW st sm D gv hm hV hx=>?_) (λa2 Γ gs W sl t st sm h2 zm=>?_) Γ gs W sl t st sm h1 jg
 .obtain⟨_,g',hg,jh⟩:=hx W λx=>x
  exact⟨g',W,_,st,sm,hg,.refl _ _,gv,λe he=>jU (bk_dis e he),hm.reopen trivial trivial rfl (by simp),rfl,jh⟩
 obtain⟨m2,xy⟩:=zm;refine gT ok (by simp) (by simp[pend];omega) (λa3 Γ gs W sl t st sm h3 ma=>?_) m2 a2 Γ gs W sl t st sm h2 xy;refine mS (tag':=.sp 0 3) (d1:=1) (H:=λW=>∀W',RL p.ty p.Wg W W'->Ae p.P p.ty p.Wg gN a3 W') (H':=λa' W'=>∃m,Goes p.P true (RL p.ty p.Wg) DC0 (λg w=>Ac p.P p.ty p.Wg gN g w∨pB p.P p.ty p.Wg gN g w) m a' W') ok (ma W λx=>x).1 (by simp) (by simp[pend];omega)
  (λW W' r hx w₁ r₁=>hx w₁ (RL.trans _ _ _ r r₁)) (λW st sm D gv hm hV hx=>?_) (λa4 Γ gs W sl t st sm h4 QC=>?_) Γ gs W sl t st sm h3 ma
 .obtain⟨ho,rfl,rfl,_⟩:=hm.open_inv trivial;obtain⟨g',hg,jh⟩:=(hx W λx=>x).2 (Vc n D) (by omega) (by simpa [pend] using gv)
  refine⟨g',_,_,_,_,hg,aside_setCell W (stA p.Wg) _,gv.setSt _,λe he=>jU (bk_rw e he),?_,by simp[deafBehind,rd,wr],jh⟩
  have e:(((Vc n D:Nat):Int)+1)*KK=((Vc n D+pend (.sp 0 3):Nat):Int)*KK:=by simp[pend]
  rw[e];exact .opn trivial ho (by simp)
 obtain⟨m4,AY⟩:=QC;refine gT ok (by simp) (by simp[pend];omega) (λa5 Γ gs W sl t st sm h5 CQ=>?_) m4 a4 Γ gs W sl t st sm h4 AY;have U4:∀a6 Γ gs W sl t st sm,At p (.sp 0 3) 0 a6 n pl res R0 v Γ gs W t st sm->(∃m,Goes p.P true (RL p.ty p.Wg) DC0 (λg _=>g=gN) m a6 W)->dO p.P p.Old p.W0 Stop gs W sl t:=by
  rintro a6 Γ gs W sl t st sm h6 ⟨m6,ru⟩;refine gT ok (by simp) (by simp[pend];omega) (λa7 Γ gs W sl t st sm h7 IY=>?_) m6 a6 Γ gs W sl t st sm h6 ru;obtain rfl:=IY W λx=>x
  exact hN Γ gs W sl t st sm h7
 have enable:∀a5 Γ gs W sl t st sm,At p (.sp 0 3) 1 a5 n pl res R0 v Γ gs W t st sm->pB p.P p.ty p.Wg gN a5 W->∃je W' ops,runT p.P (crowd gs W sl) 0=(.next (crowd je W' sl),ops)∧dO p.P p.Old p.W0 Stop je W' sl (t++ops):=by rintro a5 Γ gs W sl t st sm h5 ⟨_,g',hg,jh⟩;exact yQ (tag':=.sp 0 3) (d1:=0) ok h5 hg (.refl _ _) h5.wg (λe he=>jU (bk_en e he)) h5.mode rfl λgs t h6=>U4 g' Γ gs W sl t st sm h6 jh
 refine mJ (H:=λW=>∀W',RL p.ty p.Wg W W'->Ac p.P p.ty p.Wg gN a5 W'∨pB p.P p.ty p.Wg gN a5 W') ok ((CQ W λx=>x).elim (·.1) (·.1)) (by simp) (by simp[pend];omega) (λW W' r hx w₁ r₁=>hx w₁ (RL.trans _ _ _ r r₁)) (λΓ gs W sl t st sm h5 CQ=>?_) Γ gs W sl t st sm h5 CQ
 rcases CQ W λx=>x with⟨_,g',hg,m6,ru⟩|Z_
 .refine yQ (tag':=.sp 0 3) (d1:=1) ok h5 hg (.refl _ _) h5.wg (λe he=>?_) h5.mode rfl λgs t h6=>?_
  .simp at he;subst he;refine⟨λx hx=>?_,λa e=>(by simp[mk]at e),by simp[mk,MemAct.ofEvent,MemAct.low,smA]⟩
   simp only[mk,MemAct.ofEvent,MemAct.touch?,cr]at hx;subst hx;exact⟨⟨_,rfl,rfl⟩,by simp⟩
  .refine gT ok (by simp) (by simp[pend];omega) (λa7 Γ gs W sl t st sm h7 IY=>?_) m6 g' Γ gs W sl t st sm h6 ru;exact mJ (H:=λW=>∀W',RL p.ty p.Wg W W'->pB p.P p.ty p.Wg gN a7 W') ok (IY W λx=>x).1 (by simp) (by simp[pend];omega) (λW W' r hx w₁ r₁=>hx w₁ (RL.trans _ _ _ r r₁)) (λΓ gs W sl t st sm h8 Y2=>enable a7 Γ gs W sl t st sm h8 (Y2 W λx=>x)) Γ gs W sl t st sm h7 IY
 .exact enable a5 Γ gs W sl t st sm h5 Z_
end
def cover(dec:∀p:Prop,Decidable p)(v:World)(X:Nat->Prop):World:={v with heap:=v.heap.mapIdx λb o=>@ite _ (X b) (dec (X b)) eR o}
def fE(dec:∀p:Prop,Decidable p)(W:World)(V:Nat->Prop):World:={W with heap:=W.heap.mapIdx λb o=>@ite _ (V b) (dec (V b)) o eR}
theorem tA(v:World)(X:Nat->Prop)(b:Nat)(h:¬X b):(cover Classical.propDecidable v X).heap[b]?=v.heap[b]?:=by simp only[cover,Array.getElem?_mapIdx];cases v.heap[b]?<;>simp[h]
theorem mC(W:World)(V:Nat->Prop)(b:Nat)(h:V b):(fE Classical.propDecidable W V).heap[b]?=W.heap[b]?:=by simp only[fE,Array.getElem?_mapIdx];cases W.heap[b]?<;>simp[h]
theorem Rz{v u:World}(h:Ext v u)(X:Nat->Prop):Ext (cover Classical.propDecidable v X) (cover Classical.propDecidable u X):=by
 refine⟨by simpa [cover] using h.size,λb hb=>?_,h.os,h.output⟩
 have hb:b<v.heap.size:=by simpa [cover] using hb
 simp only[cover,Array.getElem?_mapIdx,h.block b hb]
section
variable {P:Program}
theorem Qq{Vis X:Nat->Prop}{v W:World}(h:Rel P (hid Vis W.heap.size) 0 v W)(hX:∀b,X b->P.globals.size<=b):Rel P (hid (λb=>Vis b∧¬X b) W.heap.size) 0 (cover Classical.propDecidable v X) W:=by
 refine⟨λj q hj=>by omega,h.os,h.output,by simp[cover,h.size],λb hb=>?_,λb hb=>?_,λb hb o ho=>?_,λb hb=>?_⟩
 .by_cases hx:X b
  .have dp:¬b<W.heap.size:=λdp=>hb ⟨dp,λy=>y.2 hx⟩;rw[af (by simp[cover,h.size];omega),af (by omega)]
  .rw[tA v X b hx];exact h.seen b λhh=>hb ⟨hh.1,λy=>hh.2 y.1⟩
 .by_cases hx:X b
  .have dp:b<v.heap.size:=by rw[h.size];exact hb.1
   simp only[cover,Array.getElem?_mapIdx,bf dp,bt,ai hx]
  .rw[tA v X b hx];exact h.hid b ⟨hb.1,λy=>hb.2 ⟨y,hx⟩⟩
 .by_cases hx:X b
  .have dp:¬b<W.heap.size:=λdp=>hb ⟨dp,λy=>y.2 hx⟩;rw[af (by simp[cover,h.size];omega)]at ho;cases ho
  .rw[tA v X b hx]at ho;exact h.tame b (λhh=>hb ⟨hh.1,λy=>hh.2 y.1⟩) o ho
 .by_cases hx:X b
  .exact hX b hx
  .exact h.high b ⟨hb.1,λy=>hb.2 ⟨y,hx⟩⟩
theorem Nv{V Vis:Nat->Prop}{v W:World}(h:Rel P (hid Vis W.heap.size) 0 v W)(hV:∀b,V b->Vis b)(hg:∀b,b<P.globals.size->V b):Rel P (hid V W.heap.size) 0 (fE Classical.propDecidable W V) W:=by
 refine⟨λj q hj=>by omega,rfl,rfl,by simp[fE],λb hb=>?_,λb hb=>?_,λb hb o ho=>?_,λb hb=>?_⟩
 .by_cases hv:V b
  .exact mC W V b hv
  .have dp:¬b<W.heap.size:=λdp=>hb ⟨dp,hv⟩;rw[af (by simp[fE];omega),af (by omega)]
 .simp only[fE,Array.getElem?_mapIdx,bf hb.1,bt,ah hb.2]
 .by_cases hv:V b
  .rw[mC W V b hv]at ho;have hn:¬hid Vis W.heap.size b:=λx=>x.2 (hV b hv);exact h.tame b hn o ((h.seen b hn).trans ho)
  .have dp:¬b<W.heap.size:=λdp=>hb ⟨dp,hv⟩;rw[af (by simp[fE];omega)]at ho;cases ho
 .exact Nat.le_of_not_lt λdp=>hb.2 (hg b dp)
end
section
variable {Wg L n:Nat}{Old:Nat->Prop}{Vis Rd yl ER:Nat->Nat->Prop}{B:Nat}{t:Trace}{dW:Nat->Nat}
theorem TCom.fork(h:TCom Wg L Old n Vis Rd B t 0 dW)(hL:L<=n){x y:MemOp}(hx:x.g=0∧x.act=.go (n+1))(hy:y.g=n+1∧y.act=.start)(IM:∀k,0<k->k<=n->yl k=Vis k)(yr:∀k,0<k->k<=n->ER k=Rd k)
  (xj:∀b l,blk l=some b->yl (n+1) b->¬ER (n+1) b->¬Shun Old l∧¬ShN Wg l∧∀k,L<k->k<=n->¬Vis k b∧¬Rd k b)
  (CC:∀b l,blk l=some b->ER (n+1) b->¬Shun Old l∧¬ShN Wg l∧∀k,L<k->k<=n->¬(Vis k b∧¬Rd k b)) :
  TCom Wg L Old (n+1) yl ER B (t++#[x,y]) 0 (upd dW n 0):=by
 have hm:∀op∈#[x,y],op=x∨op=y:=by intro op dm;simpa using dm
 have ei:∀op∈#[x,y],op.act≠.mark .disable∧op.act≠.mark .enable:=by
  intro op dm;rcases hm op dm with rfl|rfl
  .rw[hx.2];exact⟨by simp,by simp⟩
  .rw[hy.2];exact⟨by simp,by simp⟩
 have pk:∀op∈#[x,y],∀b,op.act.touch?=some b->False:=by
  intro op dm b hb;rcases hm op dm with rfl|rfl
  .rw[hx.2]at hb;cases hb
  .rw[hy.2]at hb;cases hb
 have dn:Deaf t (n+1)=0:=h.above (n+1) (by omega);refine⟨h.pt.fork hx hy h.deaf0 dn (λk hk l=>?_) (λl hl=>?_) (λl hl=>?_),?_,seen_app h.seen λop dm=>?_,h.norel.app λop dm e=>?_,by rw[Deaf_still t 0 _ ei,h.deaf0],λi hi=>?_,λk hk=>by rw[Deaf_still t k _ ei];exact h.above k (by omega),λi a k ha hk si=>?_,λi a k ha hk si nt=>?_,λi k hk h0 si hc=>?_⟩
 .constructor
  .constructor
   .rintro⟨h1,h2,b,hb,h3,h4⟩;rw[IM k (by omega) hk]at h3;rw[yr k (by omega) hk]at h4;exact⟨h1,hk,b,hb,h3,h4⟩
   .rintro⟨h1,h2,b,hb,h3,h4⟩;exact⟨h1,by omega,b,hb,by rw[IM k (by omega) hk];exact h3,by rw[yr k (by omega) hk];exact h4⟩
  .constructor
   .rintro⟨h1,h2,b,hb,h3⟩;rw[yr k (by omega) hk]at h3;exact⟨h1,hk,b,hb,h3⟩
   .rintro⟨h1,h2,b,hb,h3⟩;exact⟨h1,by omega,b,hb,by rw[yr k (by omega) hk];exact h3⟩
 .obtain⟨h1,h2,b,hb,h3,h4⟩:=hl;obtain⟨n1,n2,n3⟩:=xj b l hb h3 h4;refine⟨n1,n2,λk k1 kn=>⟨?_,?_⟩⟩
  .rintro⟨h5,h6,b',ic,h7,_⟩;rw[hb]at ic;cases ic
   exact(n3 k h5 h6).1 h7
  .rintro⟨h5,h6,b',ic,h7⟩;rw[hb]at ic;cases ic
   exact(n3 k h5 h6).2 h7
 .obtain⟨h1,h2,b,hb,h3⟩:=hl;obtain⟨n1,n2,n3⟩:=CC b l hb h3;refine⟨n1,n2,λk k1 kn=>?_⟩
  rintro⟨h5,h6,b',ic,h7,h8⟩;rw[hb]at ic;cases ic
  exact n3 k h5 h6 ⟨h7,h8⟩
 .intro op dm;rcases Array.mem_append.1 dm with h1|h1
  .exact⟨Nat.lt_succ_of_lt (h.tidy op h1).1,(h.tidy op h1).2⟩
  .rcases hm op h1 with rfl|rfl
   .exact⟨by rw[hx.1];omega,λz hz=>(pk _ h1 z hz).elim⟩
   .exact⟨by rw[hy.1];omega,λz hz=>(pk _ h1 z hz).elim⟩
 .rcases hm op dm with rfl|rfl
  .rw[hx.2];trivial
  .rw[hy.2];trivial
 .rcases hm op dm with rfl|rfl
  .rw[hx.2]at e;cases e
  .rw[hy.2]at e;cases e
 .rw[Deaf_still t _ _ ei];rcases Nat.lt_or_ge i n with dp|rj
  .rw[h.deafW i dp,upd_ne _ _ (by omega)]
  .obtain rfl:i=n:=by omega
   rw[upd_same,dn]
 .by_cases dp:i<t.size
  .exact(h.known i a k (oD ha dp) (by rwa [g?_old dp]at hk) si).imp (·.app _) id
  .obtain⟨op,dm,_,ky⟩:=kK dp ha;exact(pk op dm a ky).elim
 .by_cases dp:i<t.size
  .exact h.atm i a k (oD ha dp) (by rwa [g?_old dp]at hk) si nt
  .obtain⟨op,dm,_,ky⟩:=kK dp ha;exact(pk op dm a ky).elim
 .by_cases dp:i<t.size
  .obtain⟨q,hq,hb⟩:=h.over i k (by rwa [g?_old dp]at hk) h0 si ((counts_old dp).1 hc);exact⟨q,by rw[g?_old (lt_of_g? hq)];exact hq,hb_app _ hb⟩
  .obtain⟨z,hz,_⟩:=hc;obtain⟨op,dm,_,ky⟩:=kK dp hz;exact(pk op dm z ky).elim
end
theorem Goes.weaken{P:Program}{main:Bool}{R:World->World->Prop}{D:World->World->Array Event->Prop}{Stop wv:Goroutine->World->Prop}(hs:∀g w,Stop g w->wv g w):∀{n:Nat}{g:Goroutine}{w:World},Goes P main R D Stop n g w->Goes P main R D wv n g w
 |0,_,_,h=>λw₁ r=>hs _ _ (h w₁ r)
 |n+1,g,w,h=>by
  rcases h with h|⟨h1,h2⟩
  .exact .inl λw₁ r=>hs _ _ (h w₁ r)
  .refine .inr ⟨h1,λw₁ r=>?_⟩
   have:=h2 w₁ r;cases ei:stepG P main g w₁ with
   |go g' w' es=>rw[ei]at this;exact⟨this.1,Goes.weaken hs this.2⟩
   |_=>rw[ei]at this;exact this.elim
section
variable {p:Ph}{Stop:Goroutine->(Nat->Prop)->World->Prop}{a:Goroutine}{n:Nat}{pl:Nat->Nat}{res:Nat->Obj}{R0:Nat->Prop}{v:World}
theorem Qz(ok:p.Ok)(hb:n-p.L+1<2147483648){a' child:Goroutine}(dq:a.status=.running)(hgo:∀W,stepG p.P true a W=.spawn a' child W #[])(zg:∀b,R0 b->b<v.heap.size)(qc:∀b,b<p.P.globals.size->R0 b)
  {X Y:Nat->Prop} (JY:∀b,X b∨Y b->(∃c t fr,v.heap[b]?=some (.cells c t fr))∧¬R0 b) (SR:∀b,X b->¬Y b) {PB:Nat} {rob:Obj} {n0 nW:Nat} {cF:WAt}
  (GI:∀W,Goes p.P false (λ_ _=>True) DC0 (λg' _=>g'=cF.g p.wb p.ds p.fl) n0 child W) (YL:cF.Ok p.P p.F)
  (CL:∀u:World,(∀b,R0 b∨Y b∨X b->u.heap[b]?=v.heap[b]?)->Goes p.P false Ext (DW λb=>R0 b∨Y b) (jX p.wb p.Dz λw=>w.heap[PB]?=some rob) nW (cF.g p.wb (aX p.Dz) []) u)
  (hN:bU p Stop (.sp 0 5) 0 a' (n+1) (upd pl n PB) (upd res n rob) R0 (cover Classical.propDecidable v λb=>X b∨Y b)):bU p Stop (.sp 0 3) 0 a n pl res R0 v:=by
 refine vU ok dq (by simp) (by simp[pend];omega) λΓ gs W sl t st sm h=>?_
 have hn:=h.n;have yi:=h.R0;have OE:=runT_crowd_spawn (P:=p.P) (sl:=sl) (i:=0) h.at0 (by simpa using hgo W);have ug:(MemOp.ofEvents 0 a.frame.fn a.frame.place #[])=#[]:=by simp[ofEvents_eq]
 rw[ug,h.com.size,hn]at OE;refine⟨_,_,_,OE,?_⟩;have hT:=h.com.terr;have hR:=hT.rel 0 (.inl rfl);have AS:∀b,b<v.heap.size->(Γ.v 0).heap[b]?=v.heap[b]?:=h.ext.block;have KR:∀b,X b∨Y b->Γ.Vis 0 b:=λb hb=>by
  obtain⟨⟨c,t,fr,hc⟩,_⟩:=JY b hb;refine ar λhn=>?_
  have h1:(Γ.v 0).heap[b]?=some (.cells c t fr):=h.ext.row hc;have dp:b<W.heap.size:=by rw[<-hR.size];exact(Array.getElem?_eq_some_iff.1 h1).1
  have h2:=hR.hid b ⟨dp,hn⟩;rw[h1]at h2;cases h2
 have WL:∀b,R0 b->Γ.Vis 0 b:=λb hb=>hT.rdVis 0 b (.inl rfl) (yi▸hb)
 have xi:∀b,R0 b∨Y b∨X b->Γ.Vis 0 b:=λb hb=>hb.elim (WL b) λx=>KR b x.symm
 have glX:∀b,X b∨Y b->p.P.globals.size<=b:=λb hb=>Nat.le_of_not_lt λhl=>(JY b hb).2 (qc b hl)
 let V:=λb=>R0 b∨Y b∨X b
 let Γ':Gh:={n:=n+1,D:=upd Γ.D n ⟨7,n0+1+(nW+1+p.K0),0⟩,Vis:=dE (dE Γ.Vis 0 (λb=>Γ.Vis 0 b∧¬(X b∨Y b))) (n+1) V,Rd:=dE Γ.Rd (n+1) (λb=>R0 b∨Y b),v:=dE (dE Γ.v 0 (cover Classical.propDecidable (Γ.v 0) (λb=>X b∨Y b))) (n+1) (fE Classical.propDecidable W V),pl:=upd pl n PB,res:=upd res n rob};have V0:Γ'.Vis 0=λb=>Γ.Vis 0 b∧¬(X b∨Y b):=by simp[Γ',dE]
 have VN:Γ'.Vis (n+1)=V:=by show dE _ _ _ _=_;rw[gI]
 have VK:∀k,0<k->k<=n->Γ'.Vis k=Γ.Vis k:=λk h1 h2=>by show dE _ _ _ _=_;rw[gD _ _ (by omega),gD _ _ (by omega)]
 have D0:Γ'.Rd 0=Γ.Rd 0:=by simp[Γ',dE]
 have DN:Γ'.Rd (n+1)=λb=>R0 b∨Y b:=by show dE _ _ _ _=_;rw[gI]
 have DK:∀k,0<k->k<=n->Γ'.Rd k=Γ.Rd k:=λk h1 h2=>by show dE _ _ _ _=_;rw[gD _ _ (by omega)]
 have v0:Γ'.v 0=cover Classical.propDecidable (Γ.v 0) λb=>X b∨Y b:=by simp[Γ',dE]
 have vN:Γ'.v (n+1)=fE Classical.propDecidable W V:=by show dE _ _ _ _=_;rw[gI]
 have vK:∀k,0<k->k<=n->Γ'.v k=Γ.v k:=λk h1 h2=>by show dE _ _ _ _=_;rw[gD _ _ (by omega),gD _ _ (by omega)]
 have kinds:∀k,Wk p.L (n+1) k->k=0∨k=n+1∨(0<k∧k<=n∧Wk p.L Γ.n k):=λk hk=>by
  rcases hk with rfl|⟨h1,h2⟩
  .exact .inl rfl
  .by_cases e:k=n+1
   .exact .inr (.inl e)
   .exact .inr (.inr ⟨by omega,by omega,.inr ⟨h1,by omega⟩⟩)
 have k7:Terr p.P p.Wg (Wk p.L (n+1)) Γ'.Vis Γ'.Rd Γ'.v W:=by
  refine⟨λk hk=>?_,λk b hk hb=>?_,λk hk hb=>?_,λk k' b hk rf dy hb hr ic=>?_,λk b hk hb=>?_,hT.glob⟩
  .rcases kinds k hk with rfl|rfl|⟨h1,h2,h3⟩
   .rw[V0,v0];exact Qq hR glX
   .rw[VN,vN];exact Nv hR xi λb hb=>.inl (qc b hb)
   .rw[VK k h1 h2,vK k h1 h2];exact hT.rel k h3
  .rcases kinds k hk with rfl|rfl|⟨h1,h2,h3⟩
   .rw[V0]at hb;exact hT.lt 0 b (.inl rfl) hb.1
   .rw[VN]at hb;exact hT.lt 0 b (.inl rfl) (xi b hb)
   .rw[VK k h1 h2]at hb;exact hT.lt k b h3 hb
  .rcases kinds k hk with rfl|rfl|⟨h1,h2,h3⟩
   .rw[V0]at hb;exact hT.wg 0 (.inl rfl) hb.1
   .rw[VN]at hb;exact hT.wg 0 (.inl rfl) (xi _ hb)
   .rw[VK k h1 h2]at hb;exact hT.wg k h3 hb
  .rcases kinds k hk with rfl|rfl|⟨h1,h2,h3⟩
   .rw[V0]at hb;rw[D0]at hr;rcases kinds k' rf with rfl|rfl|⟨lj,nu,FV⟩
    .exact dy rfl
    .rw[VN]at ic;exact ic.elim (λx=>hr (yi▸x)) λx=>hb.2 x.symm
    .rw[VK k' lj nu]at ic;exact hT.disj 0 k' b (.inl rfl) FV dy hb.1 hr ic
   .rw[VN]at hb;rw[DN]at hr;have hx:X b:=hb.elim (λx=>absurd (.inl x) hr) λx=>x.elim (λy=>absurd (.inr y) hr) id
    rcases kinds k' rf with rfl|rfl|⟨lj,nu,FV⟩
    .rw[V0]at ic;exact ic.2 (.inl hx)
    .exact dy rfl
    .rw[VK k' lj nu]at ic;exact hT.disj 0 k' b (.inl rfl) FV (by omega) (KR b (.inl hx)) (λx=>(JY b (.inl hx)).2 (yi▸x)) ic
   .rw[VK k h1 h2]at hb;rw[DK k h1 h2]at hr;rcases kinds k' rf with rfl|rfl|⟨lj,nu,FV⟩
    .rw[V0]at ic;exact hT.disj k 0 b h3 (.inl rfl) dy hb hr ic.1
    .rw[VN]at ic;exact hT.disj k 0 b h3 (.inl rfl) (by omega) hb hr (xi b ic)
    .rw[VK k' lj nu]at ic;exact hT.disj k k' b h3 FV dy hb hr ic
  .rcases kinds k hk with rfl|rfl|⟨h1,h2,h3⟩
   .rw[D0]at hb;rw[V0];exact⟨hT.rdVis 0 b (.inl rfl) hb,λx=>(JY b x).2 (yi▸hb)⟩
   .rw[DN]at hb;rw[VN];exact hb.elim .inl λx=>.inr (.inl x)
   .rw[DK k h1 h2]at hb;rw[VK k h1 h2];exact hT.rdVis k b h3 hb
 have VU:p.L<=n:=by have:=h.com.Ln;omega
 have tf:TCom p.Wg p.L p.Old (n+1) Γ'.Vis Γ'.Rd W.heap.size (t++#[{g:=0,fn:=a.frame.fn,pos:=a.frame.place,act:=.go (n+1)},{g:=n+1,fn:=child.frame.fn,pos:=a.frame.place,act:=.start}]) 0 (upd (λi=>(Γ.D i).deaf) n 0):=by
  have QK:=h.com.tc;rw[hn]at QK;have KO:∀b l,blk l=some b->Γ.Vis 0 b->¬Shun p.Old l∧¬ShN p.Wg l:=λb l hb hv=>by
   constructor
   .intro hs;cases l with
    |cell a=>simp only[blk,cr]at hb;subst hb;exact h.com.oldV 0 _ (.inl rfl) hs hv
    |obj r=>simp only[blk,cr]at hb;subst hb;exact h.com.oldV 0 _ (.inl rfl) hs hv
    |output=>exact hs
    |goroutines=>exact hs
    |mark m=>exact hs
   .rintro⟨a,rfl,yg⟩;simp only[blk,cr]at hb;subst hb;exact hT.wg 0 (.inl rfl) (yg▸hv)
  refine QK.fork VU ⟨rfl,rfl⟩ ⟨rfl,rfl⟩ VK DK (λb l hb h1 h2=>?_) (λb l hb h1=>?_)
  .rw[VN]at h1;rw[DN]at h2;have hx:X b:=h1.elim (λx=>absurd (.inl x) h2) λx=>x.elim (λy=>absurd (.inr y) h2) id
   have hv:=KR b (.inl hx);obtain⟨s1,s2⟩:=KO b l hb hv;refine⟨s1,s2,λk k1 kn=>?_⟩
   have F8:=hT.disj 0 k b (.inl rfl) (.inr ⟨k1,by omega⟩) (by omega) hv (λx=>(JY b (.inl hx)).2 (yi▸x));exact⟨F8,λx=>F8 (hT.rdVis k b (.inr ⟨k1,by omega⟩) x)⟩
  .rw[DN]at h1;have hv:=xi b (h1.elim .inl λx=>.inr (.inl x))
   obtain⟨s1,s2⟩:=KO b l hb hv;exact⟨s1,s2,λk k1 kn x=>hT.disj k 0 b (.inr ⟨k1,by omega⟩) (.inl rfl) (by omega) x.1 x.2 hv⟩
 have SX:PCom p Γ' ((gs.setIfInBounds 0 a').push child) W (t++#[{g:=0,fn:=a.frame.fn,pos:=a.frame.place,act:=.go (n+1)},{g:=n+1,fn:=child.frame.fn,pos:=a.frame.place,act:=.start}]) 0:=by
  refine⟨by simp[h.com.size,hn,Γ'],Nat.le_succ_of_le VU,λi hi=>?_,λi hi=>?_,k7,λk hk=>?_,h.com.dzc,?_,λi hL hi ei=>?_,λk b MB hb hv=>?_,h.com.oldLt,h.com.hold⟩
  .rcases Nat.lt_or_ge i n with dp|rj
   .obtain⟨x,hx,zq⟩:=h.com.wk i (by omega);refine⟨x,?_,?_⟩
    .rw[Array.getElem?_push_lt (by simp[h.com.size];omega),<-bf,ax (by omega)];exact hx
    .have e1:Γ'.Φ p.L i=Γ.Φ p.L i:=by
      funext w;show(p.L<=i->w.heap[upd pl n PB i]?=some (upd res n rob i))=(p.L<=i->w.heap[Γ.pl i]?=some (Γ.res i));rw[upd_ne _ _ (by omega),upd_ne _ _ (by omega),h.pl,h.res]
     have e2:Γ'.D i=Γ.D i:=upd_ne _ _ (by omega);rw[e1,e2,DK (i+1) (by omega) (by omega),vK (i+1) (by omega) (by omega)];exact zq
   .obtain rfl:i=n:=by have:i<n+1:=hi;omega
    refine⟨child,?_,?_⟩
    .rw[show i+1=(gs.setIfInBounds 0 a').size by simp[h.com.size,hn],Array.getElem?_push_size]
    .have e2:Γ'.D i=⟨7,n0+1+(nW+1+p.K0),0⟩:=upd_same _ _ _;rw[e2,DN,vN];refine .pre (GI W) ?_ YL (Goes.weaken (λg w hs=>?_) (CL _ λb hb=>?_))
     .exact Goes.running (λ_ _ x=>by rw[x];exact vM _ _ _ _) W trivial (GI W)
     .obtain⟨tm,td,e,hp⟩:=hs;refine⟨tm,td,e,λ_=>?_⟩
      show w.heap[upd pl i PB i]?=some (upd res i rob i);rw[upd_same,upd_same];exact hp
     .rw[mC W V b hb,<-hR.seen b λx=>x.2 (xi b hb)]
      refine AS b ?_;rcases hb with hb|hb
      .exact zg b hb
      .obtain⟨⟨c,t,fr,hc⟩,_⟩:=JY b hb.symm;exact(Array.getElem?_eq_some_iff.1 hc).1
  .have e2:Γ'.D i=Γ.D i:=upd_ne _ _ (by omega);rw[e2];exact h.com.old i hi
  .rcases kinds k hk with rfl|rfl|⟨h1,h2,h3⟩
   .rw[D0];exact h.com.dz 0 (.inl rfl)
   .rw[DN];exact .inl (yi▸h.com.dz 0 (.inl rfl))
   .rw[DK k h1 h2];exact h.com.dz k h3
  .have e:(λi=>(Γ'.D i).deaf)=upd (λi=>(Γ.D i).deaf) n 0:=by
    funext i;show(upd Γ.D n _ i).deaf=_;by_cases e:i=n
    .subst e;rw[upd_same,upd_same]
    .rw[upd_ne _ _ e,upd_ne _ _ e]
   rw[e];exact tf
  .have ei:(upd Γ.D n _ i).stage<=6:=ei;by_cases e:i=n
   .subst e;rw[upd_same]at ei;simp at ei
   .rw[upd_ne _ _ e]at ei;have hi:i<n+1:=hi;obtain⟨r,hr⟩:=h.com.rel i hL (by omega) ei;refine⟨r,hr.appNot λop dm=>?_⟩
    simp only[List.mem_toArray,az,List.not_mem_nil,or_false]at dm;rcases dm with rfl|rfl
    .show(0:Nat)≠i+1;omega
    .show n+1≠i+1;omega
  .rcases kinds k MB with rfl|rfl|⟨h1,h2,h3⟩
   .rw[V0]at hv;exact h.com.oldV 0 b (.inl rfl) hb hv.1
   .rw[VN]at hv;exact h.com.oldV 0 b (.inl rfl) hb (xi b hv)
   .rw[VK k h1 h2]at hv;exact h.com.oldV k b h3 hb hv
 refine hN Γ' _ W sl _ st sm ⟨rfl,rfl,rfl,by rw[D0];exact yi,?_,?_,?_,?_,h.wg⟩
 .rw[v0];exact Rz h.ext _
 .simpa using SX
 .rw[Array.getElem?_push_lt (by simp[h.com.size]),<-bf];simp[h.com.size]
 .obtain⟨ho,rfl,rfl,_⟩:=h.mode.open_inv trivial;have eV:Vc (n+1) (upd Γ.D n ⟨7,n0+1+(nW+1+p.K0),0⟩)=Vc n Γ.D+1:=by
   simp only[Vc,sumTo,upd_same];rw[sumTo_upd_out Γ.D _ cnt (ae _)];rfl
  have:((Vc Γ.n Γ.D+pend (.sp 0 3):Nat):Int)*KK=((Vc (n+1) Γ'.D+pend (.sp 0 5):Nat):Int)*KK:=by show _=((Vc (n+1) (upd Γ.D n _)+pend (.sp 0 5):Nat):Int)*KK;rw[eV,hn];simp[pend]
  rw[this];refine .opn trivial (λi hi=>?_) (by simp);by_cases e:i=n
  .subst e;have e2:Γ'.D i=⟨7,n0+1+(nW+1+p.K0),0⟩:=upd_same _ _ _;rw[e2];simp
  .have e2:Γ'.D i=Γ.D i:=upd_ne _ _ e;rw[e2];exact ho i (by have:i<n+1:=hi;omega)
end
