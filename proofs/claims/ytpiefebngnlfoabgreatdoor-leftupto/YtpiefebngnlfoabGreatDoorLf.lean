import Derived.Test.YtpiefebngnlfoabGreatDoorLe
import Derived.Conc.CrowdStepC2
set_option maxRecDepth 99999
set_option maxHeartbeats 0
set_option linter.unusedVariables false
set_option linter.unusedSimpArgs false
namespace Go.Vw
open Go.Conc Go.ConcN
open Go.ConcR (KK WgAt stA smA DC0 g_of_ofEvents)
structure Ph where
 P:Program
 F:FuncId->Bool
 ty:TypeId
 Wg:Nat
 L:Nat
 Old:Nat->Prop
 wb:Frame
 ds:List Deferred
 fl:List Frame
 Dz:Nat
 K0:Nat
 W0:World
structure Ph.Ok(p:Ph):Prop where
 good:Good p.P p.F
 kind:p.wb.kind≠.early
 oldW:¬p.Old p.Wg
 done:∀ tmps todo W,WgLive p.ty p.Wg W->Goes p.P false (RL p.ty p.Wg) DC0 (nV p.P p.ty p.Wg) p.K0 (eO p.wb p.ds p.fl tmps todo) W
def WS(p:Ph)(Rd:Nat->Prop)(Φ : World->Prop)(v:World)(d:WD)(g:Goroutine)(W:World):Prop:=
 (∃ (n0 n:Nat) (st:WAt),Goes p.P false (fun _ _=>True) DC0 (fun g' _=>g'=st.g p.wb p.ds p.fl) n0 g W∧g.status=.running∧st.Ok p.P p.F∧Goes p.P false Ext (DW Rd) (kI p.wb p.Dz Φ) n (st.g p.wb (aZ p.Dz) []) v∧d=⟨7,n0+1+(n+1+p.K0),0⟩)∨
 (∃ (n:Nat) (st:WAt),st.Ok p.P p.F∧Goes p.P false Ext (DW Rd) (kI p.wb p.Dz Φ) n (st.g p.wb (aZ p.Dz) []) v∧d=⟨7,n+1+p.K0,0⟩∧g=st.g p.wb p.ds p.fl)∨
 (Φ v∧bZ p.P p.ty p.Wg d.stage d.fuel d.deaf g W)
section
variable {p:Ph}{Rd:Nat->Prop}{Φ : World->Prop}{v:World}
theorem WS.pre{n0 n:Nat}{st:WAt}{g:Goroutine}{W:World}(h1:Goes p.P false (fun _ _=>True) DC0 (fun g' _=>g'=st.g p.wb p.ds p.fl) n0 g W)(hr:g.status=.running)(h2:st.Ok p.P p.F)(h3:Goes p.P false Ext (DW Rd) (kI p.wb p.Dz Φ) n (st.g p.wb (aZ p.Dz) []) v):WS p Rd Φ v ⟨7,n0+1+(n+1+p.K0),0⟩ g W:=.inl ⟨_,_,_,h1,hr,h2,h3,rfl⟩
theorem WS.walk{n:Nat}{st:WAt}{W:World}(h2:st.Ok p.P p.F)(h3:Goes p.P false Ext (DW Rd) (kI p.wb p.Dz Φ) n (st.g p.wb (aZ p.Dz) []) v):WS p Rd Φ v ⟨7,n+1+p.K0,0⟩ (st.g p.wb p.ds p.fl) W:=.inr (.inl ⟨_,_,h2,h3,rfl,rfl⟩)
theorem WS.lib{d:WD}{g:Goroutine}{W:World}(h1:Φ v)(h2:bZ p.P p.ty p.Wg d.stage d.fuel d.deaf g W):WS p Rd Φ v d g W:=.inr (.inr ⟨h1,h2⟩)
theorem WS.parts{motive:∀ d g W,WS p Rd Φ v d g W->Prop}{d:WD}{g:Goroutine}{W:World}(h:WS p Rd Φ v d g W)
  (pre:∀ {n0 n:Nat} {st:WAt} {g:Goroutine} {W:World} (h1:Goes p.P false (fun _ _=>True) DC0 (fun g' _=>g'=st.g p.wb p.ds p.fl) n0 g W) (hr:g.status=.running) (h2:st.Ok p.P p.F) (h3:Goes p.P false Ext (DW Rd) (kI p.wb p.Dz Φ) n (st.g p.wb (aZ p.Dz) []) v),motive _ _ _ (WS.pre h1 hr h2 h3))
  (walk:∀ {n:Nat} {st:WAt} {W:World} (h2:st.Ok p.P p.F) (h3:Goes p.P false Ext (DW Rd) (kI p.wb p.Dz Φ) n (st.g p.wb (aZ p.Dz) []) v),motive _ _ _ (WS.walk (W:=W) h2 h3))
  (lib:∀ {d:WD} {g:Goroutine} {W:World} (h1:Φ v) (h2:bZ p.P p.ty p.Wg d.stage d.fuel d.deaf g W),motive _ _ _ (WS.lib h1 h2)):motive d g W h:=by
 rcases h with⟨_,_,_,h1,hr,h2,h3,rfl⟩|⟨_,_,h2,h3,rfl,rfl⟩|⟨h1,h2⟩
 .exact pre h1 hr h2 h3
 .exact walk h2 h3
 .exact lib h1 h2
end
theorem wV(b:Frame)(ds:List Deferred)(fl:List Frame)(st:WAt):(st.g b ds fl).status=.running:=by cases st using WAt.parts<;>rfl
section
variable {p:Ph}{Rd:Nat->Prop}{Φ : World->Prop}{v v₁ : World}{d:WD}{g:Goroutine}{W W':World}
theorem WS.rely(hΦ : ∀ x y,Ext x y->Φ x->Φ y)(h:WS p Rd Φ v d g W)(hv:Ext v v₁)(r:RL p.ty p.Wg W W'):WS p Rd Φ v₁ d g W':=by
 cases h using WS.parts with
 |pre h1 hr h2 h3=>exact .pre (h1.rely (fun _ _ _ _ _=>trivial) trivial) hr h2 (h3.rely Ext.trans hv)
 |walk h2 h3=>exact .walk h2 (h3.rely Ext.trans hv)
 |lib h1 h2=>exact .lib (hΦ _ _ hv h1) (h2.rely r)
theorem WS.run(h:WS p Rd Φ v d g W):g.status=.running∨(d.stage=1∧g.status=.finished):=by
 cases h using WS.parts with
 |pre h1 hr h2 h3=>exact .inl hr
 |walk h2 h3=>exact .inl (wV _ _ _ _)
 |lib h1 h2=>exact h2.run
theorem Xf(ok:p.Ok){Vis:Nat->Prop}{j i:Nat}{D:Nat->WD}{tag:CTag}{st sm:Int}(hi:i<j)(hb:Vc j D+pend tag<2147483648)(hmode:ConcN.Mode j D tag st sm)(hwg:WgAt p.ty p.Wg W st sm)(hs:WS p Rd Φ v (D i) g W)(hrun:g.status=.running)
  (hview:(D i).stage=7->Rel p.P (hid Vis W.heap.size) 0 v W∧¬Vis p.Wg∧Rd p.Dz∧∃ c t fr,v.heap[p.Dz]?=some (.cells c t fr)) :
  (∃ g' W' es d v',stepG p.P false g W=.go g' W' es∧Rel p.P (hid Vis W.heap.size) 0 v' W'∧Eff (hid Vis W.heap.size) Rd W W' es∧WS p Rd Φ v' d g' W'∧(D i).stage=7∧(D i).deaf=0∧d.stage=7∧d.deaf=0∧d.fuel<(D i).fuel)∨
  (∃ g' W' es d st' sm',LTo p.P p.ty p.Wg j D tag i g W g' W' es d st' sm'∧WS p Rd Φ v d g' W'):=by
 have eff0:∀ S,Eff S Rd W W #[]:=fun S=>⟨Nat.le_refl _,fun _ _=>rfl,fun _ _ _=>rfl,rfl,rfl,by simp⟩
 have hlive:WgLive p.ty p.Wg W:=⟨_,_,hwg⟩;have walkCase:∀ {n:Nat} {s0:WAt} (m:Nat),D i=⟨7,m,0⟩->n+1+p.K0<=m->s0.Ok p.P p.F->Goes p.P false Ext (DW Rd) (kI p.wb p.Dz Φ) n (s0.g p.wb (aZ p.Dz) []) v->g=s0.g p.wb p.ds p.fl->
   ∃ g' W' es d v',stepG p.P false g W=.go g' W' es∧Rel p.P (hid Vis W.heap.size) 0 v' W'∧Eff (hid Vis W.heap.size) Rd W W' es∧WS p Rd Φ v' d g' W'∧(D i).stage=7∧(D i).deaf=0∧d.stage=7∧d.deaf=0∧d.fuel<(D i).fuel:=by
  rintro n s0 m hD hm hok hgo rfl;obtain⟨hR,hnW,hrd,hB⟩:=hview (by rw[hD]);rcases Qc ok.good ok.kind hrd hB hok hR hgo with hstop|⟨n',v',W',es,L,rfl,hstep,hR',heff,hend⟩
  .obtain⟨tmps,todo,e,_⟩:=hstop v (.refl v);exfalso;cases s0 using WAt.parts with
   |top tm td=>simp[WAt.g,WAt.top,eO,G,Frame.at]at e
   |deep fr inner tm td=>simp[WAt.g,WAt.deep,eO,G,Frame.at]at e
  .have hstep:=hstep [] p.ds p.fl (.inr rfl);rw[WAt.gk_nil]at hstep;refine⟨L [] p.ds p.fl,W',es,?_⟩;cases hend using gG.parts with
   |@on st' hok' hgo'=>exact⟨⟨7,n'+1+p.K0,0⟩,v',hstep,hR',heff,(by simp only[WAt.gk_nil];exact .walk hok' hgo'),by rw[hD],by rw[hD],rfl,rfl,by rw[hD];simp;omega⟩
   |@back tmps todo hst=>
    obtain⟨tm,td,e,hΦ⟩:=hst v' (.refl v');have hl':WgLive p.ty p.Wg W':=⟨st,sm,hwg.of_block (heff.hidden p.Wg ⟨qI hwg,hnW⟩)⟩;exact⟨⟨7,p.K0,0⟩,v',hstep,hR',heff,.lib hΦ (.rel (ok.done _ _ _ hl')),by rw[hD],by rw[hD],rfl,rfl,by rw[hD];simp;omega⟩
   |@up tmps todo chain hst=>
    obtain⟨tm,td,e,hΦ⟩:=hst v' (.refl v');simp[aN,eO,G,Frame.at,Frame.raise]at e
 obtain⟨di,hDi⟩:∃ di,D i=di:=⟨_,rfl⟩;rw[hDi]at hs;cases hs using WS.parts with
 |@pre n0 n s0 _ _ h1 hr h2 h3=>
  left;obtain⟨hR,hnW,hrd,hB⟩:=hview (by rw[hDi]);rcases Goes.cases h1 with hstop|⟨n',rfl,hstep⟩
  .exact walkCase _ hDi (by omega) h2 h3 (hstop W trivial)
  .obtain⟨g',w',es,hgo,⟨rfl,rfl⟩,hg'⟩:=hstep W trivial;exact⟨g',w',#[],⟨7,n'+1+(n+1+p.K0),0⟩,v,hgo,hR,eff0 _,.pre hg' (Goes.running (fun _ _ x=>by rw[x];exact wV _ _ _ _) w' trivial hg') h2 h3,by rw[hDi],by rw[hDi],rfl,rfl,by rw[hDi];simp⟩
 |@walk n s0 _ h2 h3=>exact .inl (walkCase _ hDi (Nat.le_refl _) h2 h3 rfl)
 |lib h1 h2=>
  right;subst hDi;obtain⟨g',w',es,d,st',sm',hto⟩:=Vp hi hb hmode hwg h2 hrun;exact⟨g',w',es,d,st',sm',hto,.lib h1 hto.sit⟩
end
structure Gh where
 n:Nat
 D:Nat->WD
 Vis:Nat->Nat->Prop
 Rd:Nat->Nat->Prop
 v:Nat->World
 pl:Nat->Nat
 res:Nat->Obj
def Gh.Φ(Γ : Gh)(L i:Nat)(w:World):Prop:=L<=i->w.heap[Γ.pl i]?=some (Γ.res i)
theorem Gh.Φ_ext{Γ : Gh}{L i:Nat}(x y:World)(h:Ext x y)(hx:Γ.Φ L i x):Γ.Φ L i y:=fun hi=>h.row (hx hi)
structure PCom(p:Ph)(Γ : Gh)(gs:Array Goroutine)(W:World)(t:Trace)(d0:Nat):Prop where
 size:gs.size=Γ.n+1
 Ln:p.L<=Γ.n
 wk:∀ i,i < Γ.n->∃ g,gs[i+1]?=some g∧WS p (Γ.Rd (i+1)) (Γ.Φ p.L i) (Γ.v (i+1)) (Γ.D i) g W
 old:∀ i,i<p.L->(Γ.D i).stage=1
 terr:Terr p.P p.Wg (Wk p.L Γ.n) Γ.Vis Γ.Rd Γ.v W
 dz:∀ k,Wk p.L Γ.n k->Γ.Rd k p.Dz
 dzc:∃ c t fr,W.heap[p.Dz]?=some (.cells c t fr)
 tc:TCom p.Wg p.L p.Old Γ.n Γ.Vis Γ.Rd W.heap.size t d0 (fun i=>(Γ.D i).deaf)
 rel:∀ i,p.L<=i->i < Γ.n->(Γ.D i).stage<=6->∃ r,RelBy (stA p.Wg) t (i+1) r
 oldV:∀ k b,Wk p.L Γ.n k->p.Old b->¬Γ.Vis k b
 oldLt:∀ b,p.Old b->b<W.heap.size
 hold:∀ b,p.Old b->W.heap[b]?=p.W0.heap[b]?
def Aw(Γ Γ':Gh):Prop:=(Ssum Γ.n Γ'.D<Ssum Γ.n Γ.D∧Vc Γ.n Γ'.D<=Vc Γ.n Γ.D)∨(Ssum Γ.n Γ'.D=Ssum Γ.n Γ.D∧Fsum Γ.n Γ'.D<Fsum Γ.n Γ.D∧Vc Γ.n Γ'.D=Vc Γ.n Γ.D)
theorem Hr{Γ Γ':Gh}{i:Nat}{d:WD}(hi:i < Γ.n)(hD:Γ'.D=upd Γ.D i d)(h:(d.stage<(Γ.D i).stage∧cnt d<=cnt (Γ.D i))∨(d.stage=(Γ.D i).stage∧d.fuel<(Γ.D i).fuel)):Aw Γ Γ':=by
 have e1:=sumTo_upd Γ.D d cnt hi;have e2:=sumTo_upd Γ.D d WD.stage hi;have e3:=sumTo_upd Γ.D d WD.fuel hi;unfold Aw;rw[hD];simp only[Ssum,Fsum,Vc];rcases h with⟨h1,h2⟩|⟨h1,h2⟩
 .exact .inl ⟨by omega,by omega⟩
 .have ec:cnt d=cnt (Γ.D i):=by simp only[cnt,h1]
  exact .inr ⟨by omega,by omega,by omega⟩
structure Next(Γ Γ':Gh):Prop where
 n:Γ'.n=Γ.n
 Rd:Γ'.Rd=Γ.Rd
 pl:Γ'.pl=Γ.pl
 res:Γ'.res=Γ.res
 vis:Γ'.Vis 0=Γ.Vis 0
 ext:Ext (Γ.v 0) (Γ'.v 0)
section
variable {p:Ph}{Γ : Gh}{gs:Array Goroutine}{W:World}{t:Trace}{d0:Nat}
theorem qU{Rd:Nat->Prop}{Φ : World->Prop}{v:World}{d:WD}{g x g':Goroutine}{W W':World}(h:WS p Rd Φ v d x W):woken p.P g g' W' x=x:=by
 unfold woken;split
 .rcases h.run with h|⟨_,h⟩
  .exact again_running _ (.inl h)
  .exact again_running _ (.inr h)
 .rfl
theorem vE{L n:Nat}{D:Nat->WD}(hL:L<=n)(h:∀ i,i<L->(D i).stage=1):Vc n D<=n - L:=by
 have key:∀ m,L+m<=n->Vc (L+m) D<=m:=by
  intro m;induction m with
  |zero=>
   intro _;have:=sumTo_le (f:=fun i=>cnt (D i)) (c:=0) (j:=L) fun i hi=>by simp[cnt,h i hi]
   simp only[Vc,Nat.add_zero];omega
  |succ m ih=>
   intro hm;have:=ih (by omega);have hc:cnt (D (L+m))<=1:=by simp only[cnt];split<;>omega
   simp only[Vc]at this ⊢;rw[<-Nat.add_assoc,sumTo];omega
 have:=key (n - L) (by omega);rwa [show L+(n - L)=n by omega]at this
theorem Ci(ok:p.Ok)(h:PCom p Γ gs W t d0){tag:CTag}{st sm:Int}(hb:Γ.n - p.L+pend tag<2147483648)(hmode:ConcN.Mode Γ.n Γ.D tag st sm)(hwg:WgAt p.ty p.Wg W st sm){i:Nat}(hi:i < Γ.n){g:Goroutine}(hg:gs[i+1]?=some g)(hrun:g.status=.running) :
  ∃ Γ' g' W' es st' sm',stepG p.P false g W=.go g' W' es∧PCom p Γ' ((gs.map (woken p.P g g' W')).setIfInBounds (i+1) g') W' (t++MemOp.ofEvents (i+1) g.frame.fn g.frame.place es) d0∧WgAt p.ty p.Wg W' st' sm'∧
   (∀ tag',(tag'=tag∨(tag=.blk∧tag'=.w3))->(mayWake p.P g=true->g'.status=.running->tag'≠.blk)->ConcN.Mode Γ.n Γ'.D tag' st' sm')∧Next Γ Γ'∧Aw Γ Γ'∧RL p.ty p.Wg W W':=by
 obtain⟨g₁,hg₁,hs⟩:=h.wk i hi;obtain rfl:g=g₁:=by rw[hg]at hg₁;exact Option.some.inj hg₁
 have hWlt:=qI hwg;have hLi:(Γ.D i).stage=7->p.L<=i:=fun h7=>Nat.le_of_not_lt fun hl=>by have:=h.old i hl;omega
 have hi1:i+1<gs.size:=by rw[h.size];omega
 have hview:(Γ.D i).stage=7->Rel p.P (hid (Γ.Vis (i+1)) W.heap.size) 0 (Γ.v (i+1)) W∧¬Γ.Vis (i+1) p.Wg∧Γ.Rd (i+1) p.Dz∧∃ c t fr,(Γ.v (i+1)).heap[p.Dz]?=some (.cells c t fr):=by
  intro h7;have hk:Wk p.L Γ.n (i+1):=.inr ⟨by have:=hLi h7;omega,by omega⟩;have hR:=h.terr.rel _ hk;refine⟨hR,h.terr.wg _ hk,h.dz _ hk,?_⟩;obtain⟨c,t,fr,hc⟩:=h.dzc;exact⟨c,t,fr,(hR.seen _ (fun x=>x.2 (h.terr.rdVis _ _ hk (h.dz _ hk)))).trans hc⟩
 rcases Xf ok hi (by have:=vE h.Ln h.old;omega) hmode hwg hs hrun hview with⟨g',W',es,d,v',hgo,hR',heff,hs',h7,h0,hd7,hd0,hfuel⟩|⟨g',W',es,d,st',sm',hto,hs'⟩
 .have hk:Wk p.L Γ.n (i+1):=.inr ⟨by have:=hLi h7;omega,by omega⟩;have hchg:=heff.chg;have hT:=h.terr.step hk hR' hchg hWlt;have hwg':WgAt p.ty p.Wg W' st sm:=hwg.of_block (heff.hidden p.Wg ⟨hWlt,h.terr.wg _ hk⟩);have hRL:RL p.ty p.Wg W W':=fun _=>⟨_,_,hwg'⟩
  have hvg:∀ k b,dH Γ.Vis (i+1) (more (Γ.Vis (i+1)) W W') k b->Γ.Vis k b∨W.heap.size<=b:=fun k b hb=>by
   by_cases e:k=i+1
   .subst e;rw[gX]at hb;exact hb.imp id (·.1)
   .rw[gL _ _ e]at hb;exact .inl hb
  have hvm:∀ k b,Γ.Vis k b->dH Γ.Vis (i+1) (more (Γ.Vis (i+1)) W W') k b:=fun k b hb=>by
   by_cases e:k=i+1
   .subst e;rw[gX];exact .inl hb
   .rw[gL _ _ e];exact hb
  have hes:∀ e∈es,EvK p.Wg p.L Γ.n (dH Γ.Vis (i+1) (more (Γ.Vis (i+1)) W W')) Γ.Rd W'.heap.size (i+1) e:=by
   intro e he;obtain⟨h1,a,h2,h3,h4⟩:=heff.ev e he;obtain⟨loc,wr,sy⟩:=e;simp only at h2 h3 h4;subst h2 h3;obtain⟨h5,h6⟩:=h1;refine⟨fun x hx=>?_,fun a e=>(by cases e),h6⟩
   simp only[MemAct.ofEvent,MemAct.touch?,Option.some.injEq]at hx;subst hx;refine⟨hk.elim (by omega) (·.1),rfl,.inr ⟨rfl,?_⟩⟩;have hv:more (Γ.Vis (i+1)) W W' a.block:=by
    rcases Nat.lt_or_ge a.block W.heap.size with hl|hl
    .exact .inl (Classical.byContradiction fun hn=>h5 ⟨hl,hn⟩)
    .exact .inr ⟨hl,h6⟩
   by_cases hr:Γ.Rd (i+1) a.block
   .refine .inr ⟨⟨hk.elim (by omega) (·.1),by omega,a.block,rfl,hr⟩,?_⟩;cases wr with
    |true=>exact absurd hr (h4 rfl)
    |false=>rfl
   .exact .inl ⟨hk.elim (by omega) (·.1),by omega,a.block,rfl,by rw[gX];exact hv,hr⟩
  have htc:=((h.tc.grow hvg hvm).mono heff.grown).app (fn:=g.frame.fn) (pos:=g.frame.place) (zC hT) hi hes;refine⟨{Γ with D:=upd Γ.D i d,Vis:=dH Γ.Vis (i+1) (more (Γ.Vis (i+1)) W W'),v:=iX Γ.v (i+1) v' (W'.heap.size - W.heap.size)},g',W',es,st,sm,hgo,?_,hwg',fun tag' ht _=>?_,⟨rfl,rfl,rfl,rfl,?_,?_⟩,Hr hi rfl (.inr ⟨by omega,hfuel⟩),hRL⟩
  .refine⟨by simp[h.size],h.Ln,fun i' hi'=>?_,fun i' hi'=>?_,hT,h.dz,?_,?_,fun i' hL hi' hst=>?_,fun k b hkk hb hv=>?_,fun b hb=>Nat.lt_of_lt_of_le (h.oldLt b hb) heff.grown,fun b hb=>(heff.hidden b ⟨h.oldLt b hb,h.oldV _ b hk hb⟩).trans (h.hold b hb)⟩
   .by_cases e:i'=i
    .subst e;refine⟨g',by simp[hi1],?_⟩;show WS p (Γ.Rd (i'+1)) (Γ.Φ p.L i') (iX Γ.v (i'+1) v' _ (i'+1)) (upd Γ.D i' d i') g' W';rw[upd_same];simp only[iX,if_true];exact hs'
    .obtain⟨x,hx,hsx⟩:=h.wk i' hi';refine⟨x,by rw[Array.getElem?_setIfInBounds_ne (by omega),Array.getElem?_map,hx,Option.map_some,qU hsx],?_⟩;show WS p (Γ.Rd (i'+1)) (Γ.Φ p.L i') (iX Γ.v (i+1) v' _ (i'+1)) (upd Γ.D i d i') x W';rw[upd_ne _ _ e];simp only[iX,if_neg (show ¬i'+1=i+1 by omega)];exact hsx.rely Gh.Φ_ext (uX _ _) hRL
   .show(upd Γ.D i d i').stage=1;have:i'≠i:=fun e=>by subst e;have:=h.old i' hi';omega
    rw[upd_ne _ _ this];exact h.old i' hi'
   .obtain⟨c,t,fr,hc⟩:=h.dzc;exact⟨c,t,fr,(hchg.block _ (Array.getElem?_eq_some_iff.1 hc).1 fun x=>x.2 (h.dz _ hk)).trans hc⟩
   .have e:(fun i'=>(upd Γ.D i d i').deaf)=upd (fun i=>(Γ.D i).deaf) i (deafBehind (Γ.D i).deaf es):=by
     funext i';by_cases e:i'=i
     .subst e;rw[upd_same,upd_same,hd0,h0]
      exact(deafBehind_idle (fun x hx=>by
       obtain⟨_,a,ha,_⟩:=heff.ev x hx
       rw[ha];exact⟨by simp,by simp⟩) 0).symm
     .rw[upd_ne _ _ e,upd_ne _ _ e]
    show TCom p.Wg p.L p.Old Γ.n _ Γ.Rd W'.heap.size _ d0 (fun i'=>(upd Γ.D i d i').deaf);rw[e];exact htc
   .have hst:(upd Γ.D i d i').stage<=6:=hst;by_cases e:i'=i
    .subst e;rw[upd_same]at hst;omega
    .rw[upd_ne _ _ e]at hst;obtain⟨r,hr⟩:=h.rel i' hL hi' hst;exact⟨r,hr.appOther g_of_ofEvents (by omega)⟩
   .rcases hvg k b hv with hv|hv
    .exact h.oldV k b hkk hb hv
    .have:=h.oldLt b hb;omega
  .have hm:ConcN.Mode Γ.n (upd Γ.D i d) tag st sm:=hmode.congr fun a ha=>by
    by_cases e:a=i
    .subst e;rw[upd_same];omega
    .rw[upd_ne _ _ e]
   exact hm.retag ht
  .simp[dH]
  .simp only[iX,if_neg (show ¬0=i+1 by omega)];exact uX _ _
 .have hA:=hto.aside;have hsz:W'.heap.size=W.heap.size:=hA.size;have hchg:fX (fun b=>b=p.Wg) W W':=⟨by rw[hsz];exact Nat.le_refl _,fun b _ hb=>hA.block b hb,hA.os,hA.output⟩
  have hT:=h.terr.still hchg hsz (fun k b hk hv e=>h.terr.wg k hk (e▸hv));have hRL:RL p.ty p.Wg W W':=fun _=>⟨_,_,hto.at'⟩
  have hes:∀ e∈es,EvK p.Wg p.L Γ.n Γ.Vis Γ.Rd W.heap.size (i+1) e:=by
   intro e he;have hev:=hto.ev e he;refine⟨fun x hx=>?_,hev.norel,MemAct.low_mono (by omega) hev.low⟩
   have hL:p.L<=i:=Nat.le_of_not_lt fun hl=>by
    have:=hto.mute (h.old i hl) e he;rw[this]at hx;cases hx
   obtain⟨h1,h2⟩:=hev.touch x hx;refine⟨by omega,?_,.inl ⟨h1,h2⟩⟩;obtain⟨a,ha,_⟩:=h1;rw[ha];rfl
  have htc:=h.tc.app (fn:=g.frame.fn) (pos:=g.frame.place) (zC h.terr) hi hes;refine⟨{Γ with D:=upd Γ.D i d},g',W',es,st',sm',hto.go,?_,hto.at',hto.mode,⟨rfl,rfl,rfl,rfl,rfl,.refl _⟩,Hr hi rfl (hto.less.imp id fun x=>⟨x.1,by have:=x.2;omega⟩),hRL⟩
  refine⟨by simp[h.size],h.Ln,fun i' hi'=>?_,fun i' hi'=>?_,hT,h.dz,?_,?_,fun i' hL hi' hst=>?_,h.oldV,fun b hb=>by rw[hsz];exact h.oldLt b hb,fun b hb=>(hto.aside.block b fun e=>ok.oldW (e▸hb)).trans (h.hold b hb)⟩
  .by_cases e:i'=i
   .subst e;refine⟨g',by simp[hi1],?_⟩;show WS p (Γ.Rd (i'+1)) (Γ.Φ p.L i') (Γ.v (i'+1)) (upd Γ.D i' d i') g' W';rw[upd_same];exact hs'
   .obtain⟨x,hx,hsx⟩:=h.wk i' hi';refine⟨x,by rw[Array.getElem?_setIfInBounds_ne (by omega),Array.getElem?_map,hx,Option.map_some,qU hsx],?_⟩;show WS p (Γ.Rd (i'+1)) (Γ.Φ p.L i') (Γ.v (i'+1)) (upd Γ.D i d i') x W';rw[upd_ne _ _ e];exact hsx.rely Gh.Φ_ext (.refl _) hRL
  .show(upd Γ.D i d i').stage=1;by_cases e:i'=i
   .subst e;rw[upd_same];have h1:=h.old i' hi';have hsit:=hto.sit;have:d.stage<=1:=by rcases hto.less with x|x<;>omega
    have:=hsit.pos;omega
   .rw[upd_ne _ _ e];exact h.old i' hi'
  .obtain⟨c,t,fr,hc⟩:=h.dzc;have hne:p.Dz≠p.Wg:=fun e=>h.terr.wg 0 (.inl rfl) (e▸h.terr.rdVis 0 _ (.inl rfl) (h.dz 0 (.inl rfl)))
   exact⟨c,t,fr,(hA.block _ hne).trans hc⟩
  .have e:(fun i'=>(upd Γ.D i d i').deaf)=upd (fun i=>(Γ.D i).deaf) i (deafBehind (Γ.D i).deaf es):=by
    funext i';by_cases e:i'=i
    .subst e;rw[upd_same,upd_same,hto.deaf]
    .rw[upd_ne _ _ e,upd_ne _ _ e]
   show TCom p.Wg p.L p.Old Γ.n _ Γ.Rd W'.heap.size _ d0 (fun i'=>(upd Γ.D i d i').deaf);rw[e,hsz];exact htc
  .have hst:(upd Γ.D i d i').stage<=6:=hst;by_cases e:i'=i
   .subst e;rw[upd_same]at hst;exact hto.rel hst t (i'+1) _ _ (h.tc.deafW i' hi') fun h6=>h.rel i' hL hi' h6
   .rw[upd_ne _ _ e]at hst;obtain⟨r,hr⟩:=h.rel i' hL hi' hst;exact⟨r,hr.appOther g_of_ofEvents (by omega)⟩
end
open Go.ConcR (KK WgAt stA smA rd wr mk DC0 g_of_ofEvents)
def dP(P:Program)(Old:Nat->Prop)(W0:World)(Stop:Goroutine->(Nat->Prop)->World->Prop)(gs:Array Goroutine)(W:World)(sl:Option (Nat×Nat))(t:Trace):Prop:=
 ∃ N gs' W' sl' t' q' g' S' v',runNT P N (crowd gs W sl) t=(.next (crowd gs' W' sl'),t')∧Comp P S' v' g' gs' W' t' q'∧Stop g' S' v'∧Fx Old W0 S' W'
theorem dP.step{P:Program}{Old:Nat->Prop}{W0:World}{Stop:Goroutine->(Nat->Prop)->World->Prop}{gs gs':Array Goroutine}{W W':World}{sl sl':Option (Nat×Nat)}{t ops:Trace}(hst:stepT P (crowd gs W sl)=(.next (crowd gs' W' sl'),ops))(h:dP P Old W0 Stop gs' W' sl' (t++ops)):dP P Old W0 Stop gs W sl t:=by
 obtain⟨N,gs2,W2,sl2,t2,q2,g2,S2,v2,r,c,s⟩:=h;refine⟨N+1,gs2,W2,sl2,t2,q2,g2,S2,v2,?_,c,s⟩;simp only[runNT,hst];exact r
structure At(p:Ph)(tag:CTag)(d0:Nat)(a:Goroutine)(n:Nat)(pl:Nat->Nat)(res:Nat->Obj)(R0:Nat->Prop)(v:World)(Γ : Gh)(gs:Array Goroutine)(W:World)(t:Trace)(st sm:Int):Prop where
 n:Γ.n=n
 pl:Γ.pl=pl
 res:Γ.res=res
 R0:Γ.Rd 0=R0
 ext:Ext v (Γ.v 0)
 com:PCom p Γ gs W t d0
 at0:gs[0]?=some a
 mode:ConcN.Mode Γ.n Γ.D tag st sm
 wg:WgAt p.ty p.Wg W st sm
def cE(p:Ph)(Stop:Goroutine->(Nat->Prop)->World->Prop)(tag:CTag)(d0:Nat)(a:Goroutine)(n:Nat)(pl:Nat->Nat)(res:Nat->Obj)(R0:Nat->Prop)(v:World):Prop:=
 ∀ Γ gs W sl t st sm,At p tag d0 a n pl res R0 v Γ gs W t st sm->dP p.P p.Old p.W0 Stop gs W sl t
section
variable {p:Ph}{Stop:Goroutine->(Nat->Prop)->World->Prop}{tag:CTag}{d0:Nat}{a:Goroutine}{n:Nat}{pl:Nat->Nat}{res:Nat->Obj}{R0:Nat->Prop}{v:World}{Γ : Gh}{gs:Array Goroutine}{W:World}{t:Trace}{st sm:Int}
theorem PCom.at{d0:Nat}(h:PCom p Γ gs W t d0)(d:Nat):PCom p Γ gs (W.at d) t d0:=
 ⟨h.size,h.Ln,fun i hi=>let ⟨g,hg,hs⟩:=h.wk i hi;⟨g,hg,hs.rely Gh.Φ_ext (.refl _) fun x=>x⟩,h.old,h.terr.at d,h.dz,h.dzc,h.tc,h.rel,h.oldV,h.oldLt,h.hold⟩
theorem At.at(h:At p tag d0 a n pl res R0 v Γ gs W t st sm)(d:Nat):At p tag d0 a n pl res R0 v Γ gs (W.at d) t st sm:=⟨h.n,h.pl,h.res,h.R0,h.ext,h.com.at d,h.at0,h.mode,h.wg⟩
theorem Di{d0:Nat}(h:PCom p Γ gs W t d0)(h0:gs[0]?=some a)(ha:awake a):∀ g∈gs,awake g:=by
 intro g hg;obtain⟨i,hi⟩:=Array.mem_iff_getElem?.1 hg;cases i with
 |zero=>rw[h0]at hi;cases hi;exact ha
 |succ i=>
  have hlt:i < Γ.n:=by have:=(Array.getElem?_eq_some_iff.1 hi).1;rw[h.size]at this;omega
  obtain⟨g',hg',hs⟩:=h.wk i hlt;rw[hi]at hg';cases hg'
  rcases hs.run with hr|⟨_,hr⟩
  .exact awake_of (.inl hr)
  .exact awake_of (.inr (.inr hr))
theorem mW(ok:p.Ok)(hrun:a.status=.running)(hnb:tag≠.blk)(hb:n - p.L+pend tag<2147483648){H:World->Prop}(hH:∀ W W',RL p.ty p.Wg W W'->H W->H W')
  (hstep:∀ Γ gs W sl t st sm,At p tag d0 a n pl res R0 v Γ gs W t st sm->H W->∃ gs' W' ops,runT p.P (crowd gs W sl) 0=(.next (crowd gs' W' sl),ops)∧dP p.P p.Old p.W0 Stop gs' W' sl (t++ops)) :
  ∀ Γ gs W sl t st sm,At p tag d0 a n pl res R0 v Γ gs W t st sm->H W->dP p.P p.Old p.W0 Stop gs W sl t:=by
 intro Γ gs W sl t st sm h hw;generalize hμ : (Ssum Γ.n Γ.D,Fsum Γ.n Γ.D)=μ;induction μ using (Prod.lex Nat.lt_wfRel Nat.lt_wfRel).wf.induction generalizing Γ gs W sl t st sm with
 |_ μ ih=>
 have haw:=Di h.com h.at0 (awake_of (.inl hrun));obtain⟨i,g,d,sl',hi,hg,hst⟩:=crowd_pick (P:=p.P) (w:=W) (sl:=sl) haw ⟨0,_,h.at0,hrun⟩;have h':=h.at d;have hw':H (W.at d):=hH W (W.at d) (fun x=>x) hw;cases i with
 |zero=>
  obtain⟨gs',W',ops,hr,harr⟩:=hstep Γ gs (W.at d) sl' t st sm h' hw';exact .step (hst.trans hr) harr
 |succ i=>
  have hlt:i < Γ.n:=by have:=(Array.getElem?_eq_some_iff.1 hi).1;rw[h.com.size]at this;omega
  obtain⟨Γ',g',W',es,st',sm',hgo,hcom,hwg,hm,hnext,hless,hRL⟩:=Ci ok h'.com (by rw[h.n];exact hb) h'.mode h'.wg hlt hi hg;have hrT:=runT_crowd_go (P:=p.P) (sl:=sl') (i:=i+1) hi (by simpa using hgo);refine .step (hst.trans hrT) (ih _ ?_ Γ' _ W' sl' _ st' sm' ⟨hnext.n.trans h.n,hnext.pl.trans h.pl,hnext.res.trans h.res,?_,h.ext.trans _ _ _ hnext.ext,hcom,?_,?_,hwg⟩ (hH _ _ hRL hw') rfl)
  .rw[<-hμ,hnext.n];rcases hless with⟨h1,_⟩|⟨h1,h2,_⟩
   .exact Prod.Lex.left _ _ h1
   .rw[h1];exact Prod.Lex.right _ h2
  .rw[hnext.Rd];exact h.R0
  .rw[Array.getElem?_setIfInBounds_ne (by omega),Array.getElem?_map,h.at0,Option.map_some];exact congrArg some (woken_run hrun)
  .rw[hnext.n];exact hm tag (.inl rfl) fun _ _=>hnb
theorem xB(ok:p.Ok)(hrun:a.status=.running)(hnb:tag≠.blk)(hb:n - p.L+pend tag<2147483648)
  (hstep:∀ Γ gs W sl t st sm,At p tag d0 a n pl res R0 v Γ gs W t st sm->∃ gs' W' ops,runT p.P (crowd gs W sl) 0=(.next (crowd gs' W' sl),ops)∧dP p.P p.Old p.W0 Stop gs' W' sl (t++ops)) :
  cE p Stop tag d0 a n pl res R0 v:=
 fun Γ gs W sl t st sm h=>mW (H:=fun _=>True) ok hrun hnb hb (fun _ _ _ _=>trivial) (fun Γ gs W sl t st sm h _=>hstep Γ gs W sl t st sm h) Γ gs W sl t st sm h trivial
theorem Oz(ok:p.Ok)(h:PCom p Γ gs W t d0)(hwg:WgAt p.ty p.Wg W st sm){a':Goroutine}{W':World}{es:Array Event}{v':World}(h0:gs[0]?=some a)(hR':Rel p.P (hid (Γ.Vis 0) W.heap.size) 0 v' W')(heff:Eff (hid (Γ.Vis 0) W.heap.size) (Γ.Rd 0) W W' es) :
  ∃ Γ',Γ'.n=Γ.n∧Γ'.pl=Γ.pl∧Γ'.res=Γ.res∧Γ'.Rd=Γ.Rd∧Γ'.D=Γ.D∧Γ'.v 0=v'∧PCom p Γ' ((gs.map (woken p.P a a' W')).setIfInBounds 0 a') W' (t++MemOp.ofEvents 0 a.frame.fn a.frame.place es) d0∧WgAt p.ty p.Wg W' st sm:=by
 have hWlt:=qI hwg;have hk:Wk p.L Γ.n 0:=.inl rfl;have hchg:=heff.chg;have hT:=h.terr.step hk hR' hchg hWlt;have hwg':WgAt p.ty p.Wg W' st sm:=hwg.of_block (heff.hidden p.Wg ⟨hWlt,h.terr.wg _ hk⟩);have hRL:RL p.ty p.Wg W W':=fun _=>⟨_,_,hwg'⟩
 have hvg:∀ k b,dH Γ.Vis 0 (more (Γ.Vis 0) W W') k b->Γ.Vis k b∨W.heap.size<=b:=fun k b hb=>by
  by_cases e:k=0
  .subst e;rw[gX]at hb;exact hb.imp id (·.1)
  .rw[gL _ _ e]at hb;exact .inl hb
 have hvm:∀ k b,Γ.Vis k b->dH Γ.Vis 0 (more (Γ.Vis 0) W W') k b:=fun k b hb=>by
  by_cases e:k=0
  .subst e;rw[gX];exact .inl hb
  .rw[gL _ _ e];exact hb
 have hold:∀ k b,Wk p.L Γ.n k->p.Old b->¬dH Γ.Vis 0 (more (Γ.Vis 0) W W') k b:=fun k b hkk hb hv=>by
  rcases hvg k b hv with hv|hv
  .exact h.oldV k b hkk hb hv
  .have:=h.oldLt b hb;omega
 have hes:∀ e∈es,EvZ p.Wg p.L Γ.n p.Old (dH Γ.Vis 0 (more (Γ.Vis 0) W W')) Γ.Rd W'.heap.size e:=by
  intro e he;obtain⟨h1,a,h2,h3,h4⟩:=heff.ev e he;obtain⟨loc,wr,sy⟩:=e;simp only at h2 h3 h4;subst h2 h3;obtain⟨h5,h6⟩:=h1;refine⟨fun x hx=>?_,fun a e=>(by cases e),h6⟩
  simp only[MemAct.ofEvent,MemAct.touch?,Option.some.injEq]at hx;subst hx;refine⟨rfl,.inr ⟨a.block,rfl,?_,fun hw=>h4 hw⟩⟩
  rw[gX];rcases Nat.lt_or_ge a.block W.heap.size with hl|hl
  .exact .inl (Classical.byContradiction fun hn=>h5 ⟨hl,hn⟩)
  .exact .inr ⟨hl,h6⟩
 have hd:deafBehind d0 es=d0:=deafBehind_idle (fun x hx=>by
  obtain⟨_,a,ha,_⟩:=heff.ev x hx
  rw[ha];exact⟨by simp,by simp⟩) d0
 have htc:=((h.tc.grow hvg hvm).mono heff.grown).app0 (fn:=a.frame.fn) (pos:=a.frame.place) hT (fun b=>hold 0 b hk) ok.oldW hes;rw[hd]at htc;have hlt:0<gs.size:=by rw[h.size];omega
 refine⟨{Γ with Vis:=dH Γ.Vis 0 (more (Γ.Vis 0) W W'),v:=iX Γ.v 0 v' (W'.heap.size - W.heap.size)},rfl,rfl,rfl,rfl,rfl,by simp[iX],?_,hwg'⟩;refine⟨by simp[h.size],h.Ln,fun i hi=>?_,h.old,hT,h.dz,?_,htc,fun i hL hi hst=>?_,hold,fun b hb=>Nat.lt_of_lt_of_le (h.oldLt b hb) heff.grown,fun b hb=>(heff.hidden b ⟨h.oldLt b hb,h.oldV _ b hk hb⟩).trans (h.hold b hb)⟩
 .obtain⟨x,hx,hsx⟩:=h.wk i hi;refine⟨x,by rw[Array.getElem?_setIfInBounds_ne (by omega),Array.getElem?_map,hx,Option.map_some,qU hsx],?_⟩;show WS p (Γ.Rd (i+1)) (Γ.Φ p.L i) (iX Γ.v 0 v' _ (i+1)) (Γ.D i) x W';simp only[iX,if_neg (show ¬i+1=0 by omega)];exact hsx.rely Gh.Φ_ext (uX _ _) hRL
 .obtain⟨c,t,fr,hc⟩:=h.dzc;exact⟨c,t,fr,(hchg.block _ (Array.getElem?_eq_some_iff.1 hc).1 fun x=>x.2 (h.dz _ hk)).trans hc⟩
 .obtain⟨r,hr⟩:=h.rel i hL hi hst;exact⟨r,hr.appOther g_of_ofEvents (by omega)⟩
structure EvS(Wg:Nat)(e:Event):Prop where
 touch:∀ x,(MemAct.ofEvent e).touch?=some x->ShN Wg x.loc∧x.kind≠.plain
 norel:∀ a,e.loc≠.mark (.release a)
 low:(MemAct.ofEvent e).low (Wg+1)
theorem mS(ok:p.Ok)(h:PCom p Γ gs W t d0)(hwg:WgAt p.ty p.Wg W st sm){a':Goroutine}{W':World}{es:Array Event}{st' sm':Int}(h0:gs[0]?=some a)(hA:Aside p.Wg W W')(hwg':WgAt p.ty p.Wg W' st' sm')(hev:∀ e∈es,EvS p.Wg e) :
  PCom p Γ ((gs.map (woken p.P a a' W')).setIfInBounds 0 a') W' (t++MemOp.ofEvents 0 a.frame.fn a.frame.place es) (deafBehind d0 es):=by
 have hWlt:=qI hwg;have hsz:W'.heap.size=W.heap.size:=hA.size;have hchg:fX (fun b=>b=p.Wg) W W':=⟨by rw[hsz];exact Nat.le_refl _,fun b _ hb=>hA.block b hb,hA.os,hA.output⟩
 have hT:=h.terr.still hchg hsz (fun k b hk hv e=>h.terr.wg k hk (e▸hv));have hRL:RL p.ty p.Wg W W':=fun _=>⟨_,_,hwg'⟩
 have hes:∀ e∈es,EvZ p.Wg p.L Γ.n p.Old Γ.Vis Γ.Rd W.heap.size e:=by
  intro e he;have hev:=hev e he;refine⟨fun x hx=>?_,hev.norel,MemAct.low_mono (by omega) hev.low⟩
  obtain⟨h1,h2⟩:=hev.touch x hx;refine⟨?_,.inl ⟨h1,h2⟩⟩;obtain⟨a,ha,_⟩:=h1;rw[ha];rfl
 have htc:=h.tc.app0 (fn:=a.frame.fn) (pos:=a.frame.place) h.terr (fun b=>h.oldV 0 b (.inl rfl)) ok.oldW hes;refine⟨by simp[h.size],h.Ln,fun i hi=>?_,h.old,hT,h.dz,?_,by rw[hsz];exact htc,fun i hL hi hst=>?_,h.oldV,fun b hb=>by rw[hsz];exact h.oldLt b hb,fun b hb=>(hA.block b fun e=>ok.oldW (e▸hb)).trans (h.hold b hb)⟩
 .obtain⟨x,hx,hsx⟩:=h.wk i hi;exact⟨x,by rw[Array.getElem?_setIfInBounds_ne (by omega),Array.getElem?_map,hx,Option.map_some,qU hsx],hsx.rely Gh.Φ_ext (.refl _) hRL⟩
 .obtain⟨c,t,fr,hc⟩:=h.dzc;have hne:p.Dz≠p.Wg:=fun e=>h.terr.wg 0 (.inl rfl) (e▸h.terr.rdVis 0 _ (.inl rfl) (h.dz 0 (.inl rfl)))
  exact⟨c,t,fr,(hA.block _ hne).trans hc⟩
 .obtain⟨r,hr⟩:=h.rel i hL hi hst;exact⟨r,hr.appOther g_of_ofEvents (by omega)⟩
theorem Fc{P:Program}{b:Frame}{Dz:Nat}{Rd:Nat->Prop}{Stop0:Goroutine->World->Prop}(hback:∀ tmps todo u,¬Stop0 (eO b (aZ Dz) [] tmps todo) u){tmps:Array Value}{m:Nat}{v:World}(hB:∃ c t fr,v.heap[Dz]?=some (.cells c t fr))(hD:Rd Dz)
  (h:∀ w₁,Ext v w₁->(stepG P true ((WAt.top tmps []).g b (aZ Dz) []) w₁).goes fun g' w' es=>DW Rd w₁ w' es∧Goes P true Ext (DW Rd) Stop0 m g' w'):False:=by
 have:=h v (.refl v);have e:stepG P true ((WAt.top tmps []).g b (aZ Dz) []) v=.go (eO b (aZ Dz) [] tmps []) v #[]:=stepG_end;rw[e]at this;obtain⟨c,t,fr,hc⟩:=hB;exact hback _ _ _ (Goes.stop_of (Fl hc) this.2 v (.refl v))
theorem Mv(ok:p.Ok)(hnb:tag≠.blk)(hb:n - p.L+pend tag<2147483648){b:Frame}(hk:b.kind≠.early){ds:List Deferred}{fl:List Frame}{k:List Item}{Stop0:Goroutine->World->Prop}(hback:∀ tmps todo u,¬Stop0 (eO b (aZ p.Dz) [] tmps todo) u)(hup:∀ tmps todo chain u,¬Stop0 (aN b (aZ p.Dz) [] tmps todo chain) u)
  (hcont:∀ (st:WAt) (u:World),st.Ok p.P p.F->(∀ u',Ext u u'->Stop0 (st.g b (aZ p.Dz) []) u')->cE p Stop tag d0 (st.gk b ds fl k) n pl res R0 u) :
  ∀ (m:Nat) (cP:WAt) (v:World),cP.Ok p.P p.F->Goes p.P true Ext (DW R0) Stop0 m (cP.g b (aZ p.Dz) []) v->cE p Stop tag d0 (cP.gk b ds fl k) n pl res R0 v:=by
 intro m;induction m with
 |zero=>intro cP v hok hgo;exact hcont cP v hok hgo
 |succ m ih=>
  intro cP v hok hgo;rcases hgo with hstop|hgo'
  .exact hcont cP v hok hstop
  refine xB ok (by cases cP using WAt.parts<;>rfl) hnb hb fun Γ gs W sl t st sm h=>?_
  have hR:=h.com.terr.rel 0 (.inl rfl);have hmove:∀ w₁,Ext (Γ.v 0) w₁->∃ g' w' es,stepG p.P true (cP.g b (aZ p.Dz) []) w₁ = .go g' w' es∧DW (Γ.Rd 0) w₁ w' es∧Goes p.P true Ext (DW (Γ.Rd 0)) Stop0 m g' w':=by
   intro w₁ hw;rw[h.R0];have:=hgo'.2 w₁ (h.ext.trans _ _ _ hw);cases hs:stepG p.P true (cP.g b (aZ p.Dz) []) w₁ with
   |go g' w' es=>rw[hs]at this;exact⟨g',w',es,rfl,this.1,this.2⟩
   |_=>rw[hs]at this;exact this.elim
  have hB:∃ c t fr,(Γ.v 0).heap[p.Dz]?=some (.cells c t fr):=by
   obtain⟨c,t,fr,hc⟩:=h.com.dzc;exact⟨c,t,fr,(hR.seen _ (fun x=>x.2 (h.com.terr.rdVis _ _ (.inl rfl) (h.com.dz _ (.inl rfl))))).trans hc⟩
  have hbusy:cP.Busy:=by
   cases cP using WAt.parts with
   |deep fr inner tmps todo=>trivial
   |top tmps todo=>
    rintro rfl;refine Fc (P:=p.P) (Rd:=R0) (m:=m) hback (tmps:=tmps) hB (h.R0▸h.com.dz 0 (.inl rfl)) fun w₁ hw=>hgo'.2 w₁ (h.ext.trans _ _ _ hw)
  have fin:∀ {a':Goroutine} {W':World} {es:Array Event} {v':World},stepG p.P true (cP.gk b ds fl k) W=.go a' W' es->Rel p.P (hid (Γ.Vis 0) W.heap.size) 0 v' W'->Eff (hid (Γ.Vis 0) W.heap.size) (Γ.Rd 0) W W' es->cE p Stop tag d0 a' n pl res R0 v'->
    ∃ gs' W' ops,runT p.P (crowd gs W sl) 0=(.next (crowd gs' W' sl),ops)∧dP p.P p.Old p.W0 Stop gs' W' sl (t++ops):=by
   intro a' W' es v' hgo hR' heff hpr;obtain⟨Γ',e1,e2,e3,e4,e5,e6,hcom,hwg'⟩:=Oz ok h.com h.wg (a':=a') h.at0 hR' heff;refine⟨_,_,_,runT_crowd_go (P:=p.P) (sl:=sl) (i:=0) h.at0 hgo,hpr Γ' _ W' sl _ st sm ⟨e1.trans h.n,e2.trans h.pl,e3.trans h.res,by rw[e4];exact h.R0,by rw[e6];exact .refl _,hcom,?_,by rw[e1,e5];exact h.mode,hwg'⟩⟩;have:0<gs.size:=by rw[h.com.size];omega
   simp[this]
  obtain⟨v',W',es,L,hstep,hR',heff,hend⟩:=xY ok.good hk (h.com.dz 0 (.inl rfl)) hB hok hR hmove;have hstep:=hstep k ds fl (.inl hbusy);cases hend using gG.parts with
  |@on st' hok' hgo''=>exact fin hstep hR' heff (ih st' v' hok' (by rw[<-h.R0];exact hgo''))
  |@back tmps todo hst=>exact absurd (hst v' (.refl v')) (hback _ _ _)
  |@up tmps todo chain hst=>exact absurd (hst v' (.refl v')) (hup _ _ _ _)
theorem zM(ok:p.Ok)(h:At p tag d0 a n pl res R0 v Γ gs W t st sm){a':Goroutine}{W':World}{es:Array Event}{st' sm':Int}{tag':CTag}{d1:Nat}{sl:Option (Nat×Nat)}(hgo:stepG p.P true a W=.go a' W' es)(hA:Aside p.Wg W W')(hwg':WgAt p.ty p.Wg W' st' sm')
  (hev:∀ e∈es,EvS p.Wg e) (hm:ConcN.Mode Γ.n Γ.D tag' st' sm') (hd:deafBehind d0 es=d1) (hc:∀ gs t,At p tag' d1 a' n pl res R0 v Γ gs W' t st' sm'->dP p.P p.Old p.W0 Stop gs W' sl t) :
  ∃ gs' W' ops,runT p.P (crowd gs W sl) 0=(.next (crowd gs' W' sl),ops)∧dP p.P p.Old p.W0 Stop gs' W' sl (t++ops):=by
 have hcom:=mS ok h.com h.wg (a':=a') h.at0 hA hwg' hev;rw[hd]at hcom;have:0<gs.size:=by rw[h.com.size];omega
 exact⟨_,_,_,runT_crowd_go (P:=p.P) (sl:=sl) (i:=0) h.at0 hgo,hc _ _ ⟨h.n,h.pl,h.res,h.R0,h.ext,hcom,by simp[this],hm,hwg'⟩⟩
theorem nE(ok:p.Ok)(hrun:a.status=.running)(hnb:tag≠.blk)(hb:n - p.L+pend tag<2147483648){tag':CTag}{d1:Nat}{H:World->Prop}{H':Goroutine->World->Prop}(hH:∀ W W',RL p.ty p.Wg W W'->H W->H W')
  (hstep:∀ W st sm D,WgAt p.ty p.Wg W st sm->ConcN.Mode n D tag st sm->Vc n D<=n - p.L->H W->∃ a' W' es st' sm',stepG p.P true a W=.go a' W' es∧Aside p.Wg W W'∧WgAt p.ty p.Wg W' st' sm'∧(∀ e∈es,EvS p.Wg e)∧ConcN.Mode n D tag' st' sm'∧deafBehind d0 es=d1∧H' a' W')
  (hcont:∀ a' Γ gs W sl t st sm,At p tag' d1 a' n pl res R0 v Γ gs W t st sm->H' a' W->dP p.P p.Old p.W0 Stop gs W sl t) :
  ∀ Γ gs W sl t st sm,At p tag d0 a n pl res R0 v Γ gs W t st sm->H W->dP p.P p.Old p.W0 Stop gs W sl t:=by
 refine mW ok hrun hnb hb hH fun Γ gs W sl t st sm h hw=>?_
 obtain⟨a',W',es,st',sm',hgo,hA,hwg',hev,hm,hd,hH'⟩:=hstep W st sm Γ.D h.wg (by rw[<-h.n];exact h.mode) (by rw[<-h.n];exact vE h.com.Ln h.com.old) hw;have hcom:=mS ok h.com h.wg (a':=a') h.at0 hA hwg' hev;rw[hd]at hcom;refine⟨_,_,_,runT_crowd_go (P:=p.P) (sl:=sl) (i:=0) h.at0 hgo,hcont a' Γ _ W' sl _ st' sm' ⟨h.n,h.pl,h.res,h.R0,h.ext,hcom,?_,by rw[h.n];exact hm,hwg'⟩ hH'⟩;have:0<gs.size:=by rw[h.com.size];omega
 simp[this]
theorem iI(ok:p.Ok)(hnb:tag≠.blk)(hb:n - p.L+pend tag<2147483648){Stop0:Goroutine->World->Prop}
  (hcont:∀ a' Γ gs W sl t st sm,At p tag d0 a' n pl res R0 v Γ gs W t st sm->(∀ W',RL p.ty p.Wg W W'->Stop0 a' W')->dP p.P p.Old p.W0 Stop gs W sl t) :
  ∀ (m:Nat) (a:Goroutine) Γ gs W sl t st sm,At p tag d0 a n pl res R0 v Γ gs W t st sm->Goes p.P true (RL p.ty p.Wg) DC0 Stop0 m a W->dP p.P p.Old p.W0 Stop gs W sl t:=by
 intro m;induction m with
 |zero=>intro a Γ gs W sl t st sm h hgo;exact hcont a Γ gs W sl t st sm h hgo
 |succ m ih=>
  intro a Γ gs W sl t st sm h hgo;rcases hgo with hstop|⟨hrun,hgo⟩
  .exact hcont a Γ gs W sl t st sm h hstop
  .refine nE (tag':=tag) (d1:=d0) (H:=fun W=>∀ w₁,RL p.ty p.Wg W w₁->(stepG p.P true a w₁).goes fun g' w' es=>DC0 w₁ w' es∧Goes p.P true (RL p.ty p.Wg) DC0 Stop0 m g' w') (H':=fun a' W'=>Goes p.P true (RL p.ty p.Wg) DC0 Stop0 m a' W') ok hrun hnb hb
    (fun W W' r hx w₁ r₁=>hx w₁ (RL.trans _ _ _ r r₁)) (fun W st sm D hwg hm _ hx=>?_) ih Γ gs W sl t st sm h hgo
   have:=hx W (fun x=>x);cases hs:stepG p.P true a W with
   |go g' w' es=>
    rw[hs]at this;obtain⟨⟨rfl,rfl⟩,hg⟩:=this;exact⟨g',w',#[],st,sm,rfl,.refl _ _,hwg,by simp,hm,rfl,hg⟩
   |_=>rw[hs]at this;exact this.elim
end
open Go.ConcR (KK WgAt stA smA rd wr mk DC0 Bk g_of_ofEvents)
theorem kF{Wg:Nat}{e:Event}(h:Bk Wg e):EvS Wg e:=let x:=Iw h;⟨fun y hy=>⟨(x.touch y hy).1,by rw[(x.touch y hy).2];simp⟩,x.norel,x.low⟩
section
variable (P:Program)(ty:TypeId)(Wg:Nat)(gN:Goroutine)
def pQ(g:Goroutine)(w:World):Prop:=g.status=.running∧∃ g',stepG P true g w=.go g' w #[mk .enable]∧∃ m,Goes P true (RL ty Wg) DC0 (fun g _=>g=gN) m g' w
def Ay(g:Goroutine)(w:World):Prop:=g.status=.running∧∃ g',stepG P true g w=.go g' w #[mk (.read (smA Wg))]∧∃ m,Goes P true (RL ty Wg) DC0 (pQ P ty Wg gN) m g' w
def Ba(g:Goroutine)(w:World):Prop:=g.status=.running∧∀ v:Nat,v<2147483647->WgAt ty Wg w (v*KK) 0->
 ∃ g',stepG P true g w=.go g' (w.setCell (stA Wg) (.int .u64 ((v+1)*KK))) #[rd (stA Wg),wr (stA Wg)]∧∃ m,Goes P true (RL ty Wg) DC0 (fun g w=>Ay P ty Wg gN g w∨pQ P ty Wg gN g w) m g' (w.setCell (stA Wg) (.int .u64 ((v+1)*KK)))
def Az(g:Goroutine)(w:World):Prop:=g.status=.running∧∃ g',stepG P true g w=.go g' w #[mk .disable]∧∃ m,Goes P true (RL ty Wg) DC0 (Ba P ty Wg gN) m g' w
end
section
variable {p:Ph}{Stop:Goroutine->(Nat->Prop)->World->Prop}{a:Goroutine}{n:Nat}{pl:Nat->Nat}{res:Nat->Obj}{R0:Nat->Prop}{v:World}
theorem Oy(ok:p.Ok)(hb:n - p.L+1<2147483648){gN:Goroutine}{m:Nat}(hgo:∀ W,WgLive p.ty p.Wg W->Goes p.P true (RL p.ty p.Wg) DC0 (Az p.P p.ty p.Wg gN) m a W)
  (hN:cE p Stop (.sp 0 3) 0 gN n pl res R0 v):cE p Stop (.sp 0 5) 0 a n pl res R0 v:=by
 intro Γ gs W sl t st sm h;refine iI ok (by simp) (by simp[pend];omega) (fun a1 Γ gs W sl t st sm h1 hs1=>?_) m a Γ gs W sl t st sm h (hgo W ⟨_,_,h.wg⟩);refine nE (tag':=.sp 0 4) (d1:=1) (H:=fun W=>∀ W',RL p.ty p.Wg W W'->Az p.P p.ty p.Wg gN a1 W') (H':=fun a' W'=>∃ m,Goes p.P true (RL p.ty p.Wg) DC0 (Ba p.P p.ty p.Wg gN) m a' W') ok (hs1 W fun x=>x).1 (by simp) (by simp[pend];omega)
  (fun W W' r hx w₁ r₁=>hx w₁ (RL.trans _ _ _ r r₁)) (fun W st sm D hwg hm hV hx=>?_) (fun a2 Γ gs W sl t st sm h2 hx2=>?_) Γ gs W sl t st sm h1 hs1
 .obtain⟨_,g',hg,hm'⟩:=hx W fun x=>x
  exact⟨g',W,_,st,sm,hg,.refl _ _,hwg,fun e he=>kF (bk_dis e he),hm.reopen trivial trivial rfl (by simp),rfl,hm'⟩
 obtain⟨m2,hg2⟩:=hx2;refine iI ok (by simp) (by simp[pend];omega) (fun a3 Γ gs W sl t st sm h3 hs3=>?_) m2 a2 Γ gs W sl t st sm h2 hg2;refine nE (tag':=.sp 0 3) (d1:=1) (H:=fun W=>∀ W',RL p.ty p.Wg W W'->Ba p.P p.ty p.Wg gN a3 W') (H':=fun a' W'=>∃ m,Goes p.P true (RL p.ty p.Wg) DC0 (fun g w=>Ay p.P p.ty p.Wg gN g w∨pQ p.P p.ty p.Wg gN g w) m a' W') ok (hs3 W fun x=>x).1 (by simp) (by simp[pend];omega)
  (fun W W' r hx w₁ r₁=>hx w₁ (RL.trans _ _ _ r r₁)) (fun W st sm D hwg hm hV hx=>?_) (fun a4 Γ gs W sl t st sm h4 hx4=>?_) Γ gs W sl t st sm h3 hs3
 .obtain⟨ho,rfl,rfl,_⟩:=hm.open_inv trivial;obtain⟨g',hg,hm'⟩:=(hx W fun x=>x).2 (Vc n D) (by omega) (by simpa [pend] using hwg)
  refine⟨g',_,_,_,_,hg,aside_setCell W (stA p.Wg) _,hwg.setSt _,fun e he=>kF (bk_rw e he),?_,by simp[deafBehind,rd,wr],hm'⟩
  have e:(((Vc n D:Nat):Int)+1)*KK=((Vc n D+pend (.sp 0 3):Nat):Int)*KK:=by simp[pend]
  rw[e];exact .opn trivial ho (by simp)
 obtain⟨m4,hg4⟩:=hx4;refine iI ok (by simp) (by simp[pend];omega) (fun a5 Γ gs W sl t st sm h5 hs5=>?_) m4 a4 Γ gs W sl t st sm h4 hg4;have toN:∀ a6 Γ gs W sl t st sm,At p (.sp 0 3) 0 a6 n pl res R0 v Γ gs W t st sm->(∃ m,Goes p.P true (RL p.ty p.Wg) DC0 (fun g _=>g=gN) m a6 W)->dP p.P p.Old p.W0 Stop gs W sl t:=by
  rintro a6 Γ gs W sl t st sm h6 ⟨m6,hg6⟩;refine iI ok (by simp) (by simp[pend];omega) (fun a7 Γ gs W sl t st sm h7 hs7=>?_) m6 a6 Γ gs W sl t st sm h6 hg6;obtain rfl:=hs7 W fun x=>x
  exact hN Γ gs W sl t st sm h7
 have enable:∀ a5 Γ gs W sl t st sm,At p (.sp 0 3) 1 a5 n pl res R0 v Γ gs W t st sm->pQ p.P p.ty p.Wg gN a5 W->∃ gs' W' ops,runT p.P (crowd gs W sl) 0=(.next (crowd gs' W' sl),ops)∧dP p.P p.Old p.W0 Stop gs' W' sl (t++ops):=by
  rintro a5 Γ gs W sl t st sm h5 ⟨_,g',hg,hm'⟩;exact zM (tag':=.sp 0 3) (d1:=0) ok h5 hg (.refl _ _) h5.wg (fun e he=>kF (bk_en e he)) h5.mode rfl fun gs t h6=>toN g' Γ gs W sl t st sm h6 hm'
 refine mW (H:=fun W=>∀ W',RL p.ty p.Wg W W'->Ay p.P p.ty p.Wg gN a5 W'∨pQ p.P p.ty p.Wg gN a5 W') ok ((hs5 W fun x=>x).elim (·.1) (·.1)) (by simp) (by simp[pend];omega) (fun W W' r hx w₁ r₁=>hx w₁ (RL.trans _ _ _ r r₁)) (fun Γ gs W sl t st sm h5 hs5=>?_) Γ gs W sl t st sm h5 hs5
 rcases hs5 W fun x=>x with⟨_,g',hg,m6,hg6⟩|hon
 .refine zM (tag':=.sp 0 3) (d1:=1) ok h5 hg (.refl _ _) h5.wg (fun e he=>?_) h5.mode rfl fun gs t h6=>?_
  .simp at he;subst he;refine⟨fun x hx=>?_,fun a e=>(by simp[mk]at e),by simp[mk,MemAct.ofEvent,MemAct.low,smA]⟩
   simp only[mk,MemAct.ofEvent,MemAct.touch?,Option.some.injEq]at hx;subst hx;exact⟨⟨_,rfl,rfl⟩,by simp⟩
  .refine iI ok (by simp) (by simp[pend];omega) (fun a7 Γ gs W sl t st sm h7 hs7=>?_) m6 g' Γ gs W sl t st sm h6 hg6;exact mW (H:=fun W=>∀ W',RL p.ty p.Wg W W'->pQ p.P p.ty p.Wg gN a7 W') ok (hs7 W fun x=>x).1 (by simp) (by simp[pend];omega) (fun W W' r hx w₁ r₁=>hx w₁ (RL.trans _ _ _ r r₁)) (fun Γ gs W sl t st sm h8 hs8=>enable a7 Γ gs W sl t st sm h8 (hs8 W fun x=>x)) Γ gs W sl t st sm h7 hs7
 .exact enable a5 Γ gs W sl t st sm h5 hon
end
def cover(dec:∀ p:Prop,Decidable p)(v:World)(X:Nat->Prop):World:={v with heap:=v.heap.mapIdx fun b o=>@ite _ (X b) (dec (X b)) eU o}
def fI(dec:∀ p:Prop,Decidable p)(W:World)(V:Nat->Prop):World:={W with heap:=W.heap.mapIdx fun b o=>@ite _ (V b) (dec (V b)) o eU}
theorem uK(v:World)(X:Nat->Prop)(b:Nat)(h:¬X b):(cover Classical.propDecidable v X).heap[b]?=v.heap[b]?:=by
 simp only[cover,Array.getElem?_mapIdx];cases v.heap[b]?<;>simp[h]
theorem mO(W:World)(V:Nat->Prop)(b:Nat)(h:V b):(fI Classical.propDecidable W V).heap[b]?=W.heap[b]?:=by
 simp only[fI,Array.getElem?_mapIdx];cases W.heap[b]?<;>simp[h]
theorem Su{v u:World}(h:Ext v u)(X:Nat->Prop):Ext (cover Classical.propDecidable v X) (cover Classical.propDecidable u X):=by
 refine⟨by simpa [cover] using h.size,fun b hb=>?_,h.os,h.output⟩
 have hb:b<v.heap.size:=by simpa [cover] using hb
 simp only[cover,Array.getElem?_mapIdx,h.block b hb]
section
variable {P:Program}
theorem Ro{Vis X:Nat->Prop}{v W:World}(h:Rel P (hid Vis W.heap.size) 0 v W)(hX:∀ b,X b->P.globals.size<=b):Rel P (hid (fun b=>Vis b∧¬X b) W.heap.size) 0 (cover Classical.propDecidable v X) W:=by
 refine⟨fun j q hj=>by omega,h.os,h.output,by simp[cover,h.size],fun b hb=>?_,fun b hb=>?_,fun b hb o ho=>?_,fun b hb=>?_⟩
 .by_cases hx:X b
  .have hlt:¬b<W.heap.size:=fun hlt=>hb ⟨hlt,fun y=>y.2 hx⟩
   rw[Array.getElem?_eq_none (by simp[cover,h.size];omega),Array.getElem?_eq_none (by omega)]
  .rw[uK v X b hx];exact h.seen b fun hh=>hb ⟨hh.1,fun y=>hh.2 y.1⟩
 .by_cases hx:X b
  .have hlt:b<v.heap.size:=by rw[h.size];exact hb.1
   simp only[cover,Array.getElem?_mapIdx,Array.getElem?_eq_getElem hlt,Option.map_some,if_pos hx]
  .rw[uK v X b hx];exact h.hid b ⟨hb.1,fun y=>hb.2 ⟨y,hx⟩⟩
 .by_cases hx:X b
  .have hlt:¬b<W.heap.size:=fun hlt=>hb ⟨hlt,fun y=>y.2 hx⟩
   rw[Array.getElem?_eq_none (by simp[cover,h.size];omega)]at ho;cases ho
  .rw[uK v X b hx]at ho;exact h.tame b (fun hh=>hb ⟨hh.1,fun y=>hh.2 y.1⟩) o ho
 .by_cases hx:X b
  .exact hX b hx
  .exact h.high b ⟨hb.1,fun y=>hb.2 ⟨y,hx⟩⟩
theorem Ot{V Vis:Nat->Prop}{v W:World}(h:Rel P (hid Vis W.heap.size) 0 v W)(hV:∀ b,V b->Vis b)(hg:∀ b,b<P.globals.size->V b):Rel P (hid V W.heap.size) 0 (fI Classical.propDecidable W V) W:=by
 refine⟨fun j q hj=>by omega,rfl,rfl,by simp[fI],fun b hb=>?_,fun b hb=>?_,fun b hb o ho=>?_,fun b hb=>?_⟩
 .by_cases hv:V b
  .exact mO W V b hv
  .have hlt:¬b<W.heap.size:=fun hlt=>hb ⟨hlt,hv⟩
   rw[Array.getElem?_eq_none (by simp[fI];omega),Array.getElem?_eq_none (by omega)]
 .simp only[fI,Array.getElem?_mapIdx,Array.getElem?_eq_getElem hb.1,Option.map_some,if_neg hb.2]
 .by_cases hv:V b
  .rw[mO W V b hv]at ho;have hn:¬hid Vis W.heap.size b:=fun x=>x.2 (hV b hv)
   exact h.tame b hn o ((h.seen b hn).trans ho)
  .have hlt:¬b<W.heap.size:=fun hlt=>hb ⟨hlt,hv⟩
   rw[Array.getElem?_eq_none (by simp[fI];omega)]at ho;cases ho
 .exact Nat.le_of_not_lt fun hlt=>hb.2 (hg b hlt)
end
section
variable {Wg L n:Nat}{Old:Nat->Prop}{Vis Rd Vis' Rd':Nat->Nat->Prop}{B:Nat}{t:Trace}{dW:Nat->Nat}
theorem TCom.fork(h:TCom Wg L Old n Vis Rd B t 0 dW)(hL:L<=n){x y:MemOp}(hx:x.g=0∧x.act=.go (n+1))(hy:y.g=n+1∧y.act=.start)(sameV:∀ k,0<k->k<=n->Vis' k=Vis k)(sameR:∀ k,0<k->k<=n->Rd' k=Rd k)
  (newOwn:∀ b l,blk l=some b->Vis' (n+1) b->¬Rd' (n+1) b->¬iD Old l∧¬ShN Wg l∧∀ k,L<k->k<=n->¬Vis k b∧¬Rd k b)
  (newRd:∀ b l,blk l=some b->Rd' (n+1) b->¬iD Old l∧¬ShN Wg l∧∀ k,L<k->k<=n->¬(Vis k b∧¬Rd k b)) :
  TCom Wg L Old (n+1) Vis' Rd' B (t++#[x,y]) 0 (upd dW n 0):=by
 have hm:∀ op∈#[x,y],op=x∨op=y:=by intro op hop;simpa using hop
 have hst:∀ op∈#[x,y],op.act≠.mark .disable∧op.act≠.mark .enable:=by
  intro op hop;rcases hm op hop with rfl|rfl
  .rw[hx.2];exact⟨by simp,by simp⟩
  .rw[hy.2];exact⟨by simp,by simp⟩
 have hnt:∀ op∈#[x,y],∀ b,op.act.touch?=some b->False:=by
  intro op hop b hb;rcases hm op hop with rfl|rfl
  .rw[hx.2]at hb;cases hb
  .rw[hy.2]at hb;cases hb
 have dn:Deaf t (n+1)=0:=h.above (n+1) (by omega);refine⟨h.pt.fork hx hy h.deaf0 dn (fun k hk l=>?_) (fun l hl=>?_) (fun l hl=>?_),?_,seen_app h.seen fun op hop=>?_,h.norel.app fun op hop e=>?_,by rw[Deaf_still t 0 _ hst,h.deaf0],fun i hi=>?_,fun k hk=>by rw[Deaf_still t k _ hst];exact h.above k (by omega),fun i a k ha hk hkL=>?_,fun i a k ha hk hkL hat=>?_,fun i k hk h0 hkL hc=>?_⟩
 .constructor
  .constructor
   .rintro⟨h1,h2,b,hb,h3,h4⟩;rw[sameV k (by omega) hk]at h3;rw[sameR k (by omega) hk]at h4;exact⟨h1,hk,b,hb,h3,h4⟩
   .rintro⟨h1,h2,b,hb,h3,h4⟩;exact⟨h1,by omega,b,hb,by rw[sameV k (by omega) hk];exact h3,by rw[sameR k (by omega) hk];exact h4⟩
  .constructor
   .rintro⟨h1,h2,b,hb,h3⟩;rw[sameR k (by omega) hk]at h3;exact⟨h1,hk,b,hb,h3⟩
   .rintro⟨h1,h2,b,hb,h3⟩;exact⟨h1,by omega,b,hb,by rw[sameR k (by omega) hk];exact h3⟩
 .obtain⟨h1,h2,b,hb,h3,h4⟩:=hl;obtain⟨n1,n2,n3⟩:=newOwn b l hb h3 h4;refine⟨n1,n2,fun k k1 kn=>⟨?_,?_⟩⟩
  .rintro⟨h5,h6,b',hb',h7,_⟩;rw[hb]at hb';cases hb'
   exact(n3 k h5 h6).1 h7
  .rintro⟨h5,h6,b',hb',h7⟩;rw[hb]at hb';cases hb'
   exact(n3 k h5 h6).2 h7
 .obtain⟨h1,h2,b,hb,h3⟩:=hl;obtain⟨n1,n2,n3⟩:=newRd b l hb h3;refine⟨n1,n2,fun k k1 kn=>?_⟩
  rintro⟨h5,h6,b',hb',h7,h8⟩;rw[hb]at hb';cases hb'
  exact n3 k h5 h6 ⟨h7,h8⟩
 .intro op hop;rcases Array.mem_append.1 hop with h1|h1
  .exact⟨Nat.lt_succ_of_lt (h.tidy op h1).1,(h.tidy op h1).2⟩
  .rcases hm op h1 with rfl|rfl
   .exact⟨by rw[hx.1];omega,fun z hz=>(hnt _ h1 z hz).elim⟩
   .exact⟨by rw[hy.1];omega,fun z hz=>(hnt _ h1 z hz).elim⟩
 .rcases hm op hop with rfl|rfl
  .rw[hx.2];trivial
  .rw[hy.2];trivial
 .rcases hm op hop with rfl|rfl
  .rw[hx.2]at e;cases e
  .rw[hy.2]at e;cases e
 .rw[Deaf_still t _ _ hst];rcases Nat.lt_or_ge i n with hlt|hge
  .rw[h.deafW i hlt,upd_ne _ _ (by omega)]
  .obtain rfl:i=n:=by omega
   rw[upd_same,dn]
 .by_cases hlt:i<t.size
  .exact(h.known i a k (oN ha hlt) (by rwa [g?_old hlt]at hk) hkL).imp (·.app _) id
  .obtain⟨op,hop,_,hoa⟩:=kW hlt ha;exact(hnt op hop a hoa).elim
 .by_cases hlt:i<t.size
  .exact h.atm i a k (oN ha hlt) (by rwa [g?_old hlt]at hk) hkL hat
  .obtain⟨op,hop,_,hoa⟩:=kW hlt ha;exact(hnt op hop a hoa).elim
 .by_cases hlt:i<t.size
  .obtain⟨q,hq,hb⟩:=h.over i k (by rwa [g?_old hlt]at hk) h0 hkL ((counts_old hlt).1 hc);exact⟨q,by rw[g?_old (lt_of_g? hq)];exact hq,hb_app _ hb⟩
  .obtain⟨z,hz,_⟩:=hc;obtain⟨op,hop,_,hoa⟩:=kW hlt hz;exact(hnt op hop z hoa).elim
end
theorem Goes.weaken{P:Program}{main:Bool}{R:World->World->Prop}{D:World->World->Array Event->Prop}{Stop Stop':Goroutine->World->Prop}(hs:∀ g w,Stop g w->Stop' g w):∀ {n:Nat} {g:Goroutine} {w:World},Goes P main R D Stop n g w->Goes P main R D Stop' n g w
 |0,_,_,h=>fun w₁ r=>hs _ _ (h w₁ r)
 |n+1,g,w,h=>by
  rcases h with h|⟨h1,h2⟩
  .exact .inl fun w₁ r=>hs _ _ (h w₁ r)
  .refine .inr ⟨h1,fun w₁ r=>?_⟩
   have:=h2 w₁ r;cases hst:stepG P main g w₁ with
   |go g' w' es=>rw[hst]at this;exact⟨this.1,Goes.weaken hs this.2⟩
   |_=>rw[hst]at this;exact this.elim
section
variable {p:Ph}{Stop:Goroutine->(Nat->Prop)->World->Prop}{a:Goroutine}{n:Nat}{pl:Nat->Nat}{res:Nat->Obj}{R0:Nat->Prop}{v:World}
theorem Rw(ok:p.Ok)(hb:n - p.L+1<2147483648){a' child:Goroutine}(hrun:a.status=.running)(hgo:∀ W,stepG p.P true a W=.spawn a' child W #[])(hR0:∀ b,R0 b->b<v.heap.size)(hglob:∀ b,b<p.P.globals.size->R0 b)
  {X Y:Nat->Prop} (hXY:∀ b,X b∨Y b->(∃ c t fr,v.heap[b]?=some (.cells c t fr))∧¬R0 b) (hdis:∀ b,X b->¬Y b) {PB:Nat} {rob:Obj} {n0 nW:Nat} {cP:WAt}
  (hpre:∀ W,Goes p.P false (fun _ _=>True) DC0 (fun g' _=>g'=cP.g p.wb p.ds p.fl) n0 child W) (hok0:cP.Ok p.P p.F)
  (hwalk:∀ u:World,(∀ b,R0 b∨Y b∨X b->u.heap[b]?=v.heap[b]?)->Goes p.P false Ext (DW fun b=>R0 b∨Y b) (kI p.wb p.Dz fun w=>w.heap[PB]?=some rob) nW (cP.g p.wb (aZ p.Dz) []) u)
  (hN:cE p Stop (.sp 0 5) 0 a' (n+1) (upd pl n PB) (upd res n rob) R0 (cover Classical.propDecidable v fun b=>X b∨Y b)):cE p Stop (.sp 0 3) 0 a n pl res R0 v:=by
 refine xB ok hrun (by simp) (by simp[pend];omega) fun Γ gs W sl t st sm h=>?_
 have hn:=h.n;have hR0e:=h.R0;have hrT:=runT_crowd_spawn (P:=p.P) (sl:=sl) (i:=0) h.at0 (by simpa using hgo W);have hops:(MemOp.ofEvents 0 a.frame.fn a.frame.place #[])=#[]:=by simp[ofEvents_eq]
 rw[hops,h.com.size,hn]at hrT;refine⟨_,_,_,hrT,?_⟩;have hT:=h.com.terr;have hR:=hT.rel 0 (.inl rfl);have hv0:∀ b,b<v.heap.size->(Γ.v 0).heap[b]?=v.heap[b]?:=h.ext.block;have vis0:∀ b,X b∨Y b->Γ.Vis 0 b:=fun b hb=>by
  obtain⟨⟨c,t,fr,hc⟩,_⟩:=hXY b hb;refine Classical.byContradiction fun hn=>?_
  have h1:(Γ.v 0).heap[b]?=some (.cells c t fr):=h.ext.row hc;have hlt:b<W.heap.size:=by rw[<-hR.size];exact(Array.getElem?_eq_some_iff.1 h1).1
  have h2:=hR.hid b ⟨hlt,hn⟩;rw[h1]at h2;cases h2
 have visR:∀ b,R0 b->Γ.Vis 0 b:=fun b hb=>hT.rdVis 0 b (.inl rfl) (hR0e▸hb)
 have visN:∀ b,R0 b∨Y b∨X b->Γ.Vis 0 b:=fun b hb=>hb.elim (visR b) fun x=>vis0 b x.symm
 have glX:∀ b,X b∨Y b->p.P.globals.size<=b:=fun b hb=>Nat.le_of_not_lt fun hl=>(hXY b hb).2 (hglob b hl)
 let V:=fun b=>R0 b∨Y b∨X b
 let Γ':Gh:={n:=n+1,D:=upd Γ.D n ⟨7,n0+1+(nW+1+p.K0),0⟩,Vis:=dH (dH Γ.Vis 0 (fun b=>Γ.Vis 0 b∧¬(X b∨Y b))) (n+1) V,Rd:=dH Γ.Rd (n+1) (fun b=>R0 b∨Y b),v:=dH (dH Γ.v 0 (cover Classical.propDecidable (Γ.v 0) (fun b=>X b∨Y b))) (n+1) (fI Classical.propDecidable W V),pl:=upd pl n PB,res:=upd res n rob};have V0:Γ'.Vis 0=fun b=>Γ.Vis 0 b∧¬(X b∨Y b):=by simp[Γ',dH]
 have VN:Γ'.Vis (n+1)=V:=by show dH _ _ _ _=_;rw[gX]
 have VK:∀ k,0<k->k<=n->Γ'.Vis k=Γ.Vis k:=fun k h1 h2=>by show dH _ _ _ _=_;rw[gL _ _ (by omega),gL _ _ (by omega)]
 have D0:Γ'.Rd 0=Γ.Rd 0:=by simp[Γ',dH]
 have DN:Γ'.Rd (n+1)=fun b=>R0 b∨Y b:=by show dH _ _ _ _=_;rw[gX]
 have DK:∀ k,0<k->k<=n->Γ'.Rd k=Γ.Rd k:=fun k h1 h2=>by show dH _ _ _ _=_;rw[gL _ _ (by omega)]
 have v0:Γ'.v 0=cover Classical.propDecidable (Γ.v 0) fun b=>X b∨Y b:=by simp[Γ',dH]
 have vN:Γ'.v (n+1)=fI Classical.propDecidable W V:=by show dH _ _ _ _=_;rw[gX]
 have vK:∀ k,0<k->k<=n->Γ'.v k=Γ.v k:=fun k h1 h2=>by show dH _ _ _ _=_;rw[gL _ _ (by omega),gL _ _ (by omega)]
 have kinds:∀ k,Wk p.L (n+1) k->k=0∨k=n+1∨(0<k∧k<=n∧Wk p.L Γ.n k):=fun k hk=>by
  rcases hk with rfl|⟨h1,h2⟩
  .exact .inl rfl
  .by_cases e:k=n+1
   .exact .inr (.inl e)
   .exact .inr (.inr ⟨by omega,by omega,.inr ⟨h1,by omega⟩⟩)
 have hT':Terr p.P p.Wg (Wk p.L (n+1)) Γ'.Vis Γ'.Rd Γ'.v W:=by
  refine⟨fun k hk=>?_,fun k b hk hb=>?_,fun k hk hb=>?_,fun k k' b hk hk' hne hb hr hb'=>?_,fun k b hk hb=>?_,hT.glob⟩
  .rcases kinds k hk with rfl|rfl|⟨h1,h2,h3⟩
   .rw[V0,v0];exact Ro hR glX
   .rw[VN,vN];exact Ot hR visN fun b hb=>.inl (hglob b hb)
   .rw[VK k h1 h2,vK k h1 h2];exact hT.rel k h3
  .rcases kinds k hk with rfl|rfl|⟨h1,h2,h3⟩
   .rw[V0]at hb;exact hT.lt 0 b (.inl rfl) hb.1
   .rw[VN]at hb;exact hT.lt 0 b (.inl rfl) (visN b hb)
   .rw[VK k h1 h2]at hb;exact hT.lt k b h3 hb
  .rcases kinds k hk with rfl|rfl|⟨h1,h2,h3⟩
   .rw[V0]at hb;exact hT.wg 0 (.inl rfl) hb.1
   .rw[VN]at hb;exact hT.wg 0 (.inl rfl) (visN _ hb)
   .rw[VK k h1 h2]at hb;exact hT.wg k h3 hb
  .rcases kinds k hk with rfl|rfl|⟨h1,h2,h3⟩
   .rw[V0]at hb;rw[D0]at hr;rcases kinds k' hk' with rfl|rfl|⟨h1',h2',h3'⟩
    .exact hne rfl
    .rw[VN]at hb';exact hb'.elim (fun x=>hr (hR0e▸x)) fun x=>hb.2 x.symm
    .rw[VK k' h1' h2']at hb';exact hT.disj 0 k' b (.inl rfl) h3' hne hb.1 hr hb'
   .rw[VN]at hb;rw[DN]at hr;have hx:X b:=hb.elim (fun x=>absurd (.inl x) hr) fun x=>x.elim (fun y=>absurd (.inr y) hr) id
    rcases kinds k' hk' with rfl|rfl|⟨h1',h2',h3'⟩
    .rw[V0]at hb';exact hb'.2 (.inl hx)
    .exact hne rfl
    .rw[VK k' h1' h2']at hb';exact hT.disj 0 k' b (.inl rfl) h3' (by omega) (vis0 b (.inl hx)) (fun x=>(hXY b (.inl hx)).2 (hR0e▸x)) hb'
   .rw[VK k h1 h2]at hb;rw[DK k h1 h2]at hr;rcases kinds k' hk' with rfl|rfl|⟨h1',h2',h3'⟩
    .rw[V0]at hb';exact hT.disj k 0 b h3 (.inl rfl) hne hb hr hb'.1
    .rw[VN]at hb';exact hT.disj k 0 b h3 (.inl rfl) (by omega) hb hr (visN b hb')
    .rw[VK k' h1' h2']at hb';exact hT.disj k k' b h3 h3' hne hb hr hb'
  .rcases kinds k hk with rfl|rfl|⟨h1,h2,h3⟩
   .rw[D0]at hb;rw[V0];exact⟨hT.rdVis 0 b (.inl rfl) hb,fun x=>(hXY b x).2 (hR0e▸hb)⟩
   .rw[DN]at hb;rw[VN];exact hb.elim .inl fun x=>.inr (.inl x)
   .rw[DK k h1 h2]at hb;rw[VK k h1 h2];exact hT.rdVis k b h3 hb
 have hLn:p.L<=n:=by have:=h.com.Ln;omega
 have htc:TCom p.Wg p.L p.Old (n+1) Γ'.Vis Γ'.Rd W.heap.size (t++#[{g:=0,fn:=a.frame.fn,pos:=a.frame.place,act:=.go (n+1)},{g:=n+1,fn:=child.frame.fn,pos:=a.frame.place,act:=.start}]) 0 (upd (fun i=>(Γ.D i).deaf) n 0):=by
  have htc0:=h.com.tc;rw[hn]at htc0;have blkSh:∀ b l,blk l=some b->Γ.Vis 0 b->¬iD p.Old l∧¬ShN p.Wg l:=fun b l hb hv=>by
   constructor
   .intro hs;cases l with
    |cell a=>simp only[blk,Option.some.injEq]at hb;subst hb;exact h.com.oldV 0 _ (.inl rfl) hs hv
    |obj r=>simp only[blk,Option.some.injEq]at hb;subst hb;exact h.com.oldV 0 _ (.inl rfl) hs hv
    |output=>exact hs
    |goroutines=>exact hs
    |mark m=>exact hs
   .rintro⟨a,rfl,hab⟩;simp only[blk,Option.some.injEq]at hb;subst hb;exact hT.wg 0 (.inl rfl) (hab▸hv)
  refine htc0.fork hLn ⟨rfl,rfl⟩ ⟨rfl,rfl⟩ VK DK (fun b l hb h1 h2=>?_) (fun b l hb h1=>?_)
  .rw[VN]at h1;rw[DN]at h2;have hx:X b:=h1.elim (fun x=>absurd (.inl x) h2) fun x=>x.elim (fun y=>absurd (.inr y) h2) id
   have hv:=vis0 b (.inl hx);obtain⟨s1,s2⟩:=blkSh b l hb hv;refine⟨s1,s2,fun k k1 kn=>?_⟩
   have hnv:=hT.disj 0 k b (.inl rfl) (.inr ⟨k1,by omega⟩) (by omega) hv (fun x=>(hXY b (.inl hx)).2 (hR0e▸x));exact⟨hnv,fun x=>hnv (hT.rdVis k b (.inr ⟨k1,by omega⟩) x)⟩
  .rw[DN]at h1;have hv:=visN b (h1.elim .inl fun x=>.inr (.inl x))
   obtain⟨s1,s2⟩:=blkSh b l hb hv;exact⟨s1,s2,fun k k1 kn x=>hT.disj k 0 b (.inr ⟨k1,by omega⟩) (.inl rfl) (by omega) x.1 x.2 hv⟩
 have hcom':PCom p Γ' ((gs.setIfInBounds 0 a').push child) W (t++#[{g:=0,fn:=a.frame.fn,pos:=a.frame.place,act:=.go (n+1)},{g:=n+1,fn:=child.frame.fn,pos:=a.frame.place,act:=.start}]) 0:=by
  refine⟨by simp[h.com.size,hn,Γ'],Nat.le_succ_of_le hLn,fun i hi=>?_,fun i hi=>?_,hT',fun k hk=>?_,h.com.dzc,?_,fun i hL hi hst=>?_,fun k b hkk hb hv=>?_,h.com.oldLt,h.com.hold⟩
  .rcases Nat.lt_or_ge i n with hlt|hge
   .obtain⟨x,hx,hsx⟩:=h.com.wk i (by omega);refine⟨x,?_,?_⟩
    .rw[Array.getElem?_push_lt (by simp[h.com.size];omega),<-Array.getElem?_eq_getElem,Array.getElem?_setIfInBounds_ne (by omega)];exact hx
    .have e1:Γ'.Φ p.L i=Γ.Φ p.L i:=by
      funext w;show(p.L<=i->w.heap[upd pl n PB i]?=some (upd res n rob i))=(p.L<=i->w.heap[Γ.pl i]?=some (Γ.res i));rw[upd_ne _ _ (by omega),upd_ne _ _ (by omega),h.pl,h.res]
     have e2:Γ'.D i=Γ.D i:=upd_ne _ _ (by omega);rw[e1,e2,DK (i+1) (by omega) (by omega),vK (i+1) (by omega) (by omega)];exact hsx
   .obtain rfl:i=n:=by have:i<n+1:=hi;omega
    refine⟨child,?_,?_⟩
    .rw[show i+1=(gs.setIfInBounds 0 a').size by simp[h.com.size,hn],Array.getElem?_push_size]
    .have e2:Γ'.D i=⟨7,n0+1+(nW+1+p.K0),0⟩:=upd_same _ _ _;rw[e2,DN,vN];refine .pre (hpre W) ?_ hok0 (Goes.weaken (fun g w hs=>?_) (hwalk _ fun b hb=>?_))
     .exact Goes.running (fun _ _ x=>by rw[x];exact wV _ _ _ _) W trivial (hpre W)
     .obtain⟨tm,td,e,hp⟩:=hs;refine⟨tm,td,e,fun _=>?_⟩
      show w.heap[upd pl i PB i]?=some (upd res i rob i);rw[upd_same,upd_same];exact hp
     .rw[mO W V b hb,<-hR.seen b fun x=>x.2 (visN b hb)]
      refine hv0 b ?_;rcases hb with hb|hb
      .exact hR0 b hb
      .obtain⟨⟨c,t,fr,hc⟩,_⟩:=hXY b hb.symm;exact(Array.getElem?_eq_some_iff.1 hc).1
  .have e2:Γ'.D i=Γ.D i:=upd_ne _ _ (by omega);rw[e2];exact h.com.old i hi
  .rcases kinds k hk with rfl|rfl|⟨h1,h2,h3⟩
   .rw[D0];exact h.com.dz 0 (.inl rfl)
   .rw[DN];exact .inl (hR0e▸h.com.dz 0 (.inl rfl))
   .rw[DK k h1 h2];exact h.com.dz k h3
  .have e:(fun i=>(Γ'.D i).deaf)=upd (fun i=>(Γ.D i).deaf) n 0:=by
    funext i;show(upd Γ.D n _ i).deaf=_;by_cases e:i=n
    .subst e;rw[upd_same,upd_same]
    .rw[upd_ne _ _ e,upd_ne _ _ e]
   rw[e];exact htc
  .have hst:(upd Γ.D n _ i).stage<=6:=hst;by_cases e:i=n
   .subst e;rw[upd_same]at hst;simp at hst
   .rw[upd_ne _ _ e]at hst;have hi:i<n+1:=hi;obtain⟨r,hr⟩:=h.com.rel i hL (by omega) hst;refine⟨r,hr.appNot fun op hop=>?_⟩
    simp only[List.mem_toArray,List.mem_cons,List.not_mem_nil,or_false]at hop;rcases hop with rfl|rfl
    .show(0:Nat)≠i+1;omega
    .show n+1≠i+1;omega
  .rcases kinds k hkk with rfl|rfl|⟨h1,h2,h3⟩
   .rw[V0]at hv;exact h.com.oldV 0 b (.inl rfl) hb hv.1
   .rw[VN]at hv;exact h.com.oldV 0 b (.inl rfl) hb (visN b hv)
   .rw[VK k h1 h2]at hv;exact h.com.oldV k b h3 hb hv
 refine hN Γ' _ W sl _ st sm ⟨rfl,rfl,rfl,by rw[D0];exact hR0e,?_,?_,?_,?_,h.wg⟩
 .rw[v0];exact Su h.ext _
 .simpa using hcom'
 .rw[Array.getElem?_push_lt (by simp[h.com.size]),<-Array.getElem?_eq_getElem];simp[h.com.size]
 .obtain⟨ho,rfl,rfl,_⟩:=h.mode.open_inv trivial;have eV:Vc (n+1) (upd Γ.D n ⟨7,n0+1+(nW+1+p.K0),0⟩)=Vc n Γ.D+1:=by
   simp only[Vc,sumTo,upd_same];rw[sumTo_upd_out Γ.D _ cnt (Nat.le_refl _)];rfl
  have:((Vc Γ.n Γ.D+pend (.sp 0 3):Nat):Int)*KK=((Vc (n+1) Γ'.D+pend (.sp 0 5):Nat):Int)*KK:=by
   show _=((Vc (n+1) (upd Γ.D n _)+pend (.sp 0 5):Nat):Int)*KK;rw[eV,hn];simp[pend]
  rw[this];refine .opn trivial (fun i hi=>?_) (by simp);by_cases e:i=n
  .subst e;have e2:Γ'.D i=⟨7,n0+1+(nW+1+p.K0),0⟩:=upd_same _ _ _;rw[e2];simp
  .have e2:Γ'.D i=Γ.D i:=upd_ne _ _ e;rw[e2];exact ho i (by have:i<n+1:=hi;omega)
end
