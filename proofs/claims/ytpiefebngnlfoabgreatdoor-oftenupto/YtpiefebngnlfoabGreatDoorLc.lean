import Derived.Test.YtpiefebngnlfoabGreatDoorLb
import Derived.Conc.LoneCalls
set_option maxRecDepth 99999
set_option maxHeartbeats 0
set_option linter.unusedVariables false
set_option linter.unusedSimpArgs false
namespace Go.Vw
open Go.Conc
section
variable {P:Program}{F:FuncId->Bool}{S:Nat->Prop}{B:Nat}
section
variable {b:Frame}{a:Act}{ops:Array Oper}{i:Nat}{rest:List Nat}{k:List Item}{cs:List Frame}{s:Sem Next}{w w1:World}{es0:Array Event}
theorem Bn(hk:b.kind≠.early){x:Value}(h:s.runT P w #[]=(.ok (.value x) w1,es0)):stepG.apply P true (b.at a (.inRegion ops (i :: rest) :: k)) cs none s w=.go (G ((b.at a (.inRegion ops (i :: rest) :: k)).finish x) cs) w1 (seen P b.fn es0):=by
 have hk':(b.kind == CallKind.early)=false:=by simpa using hk
 simp only[stepG.apply,if_true,h,Frame.at,GStep.after,G,hk'];simp
theorem Cj(hk:b.kind≠.early)(h:s.runT P w #[]=(.ok .skip w1,es0)):stepG.apply P true (b.at a (.inRegion ops (i :: rest) :: k)) cs none s w=.go (G ((b.at a (.inRegion ops (i :: rest) :: k)).finish undef) cs) w1 (seen P b.fn es0):=by
 have hk':(b.kind == CallKind.early)=false:=by simpa using hk
 simp only[stepG.apply,if_true,h,Frame.at,GStep.after,G,hk'];simp
theorem Bp(hk:b.kind≠.early){f:FuncId}{args:Array Value}(h:s.runT P w #[]=(.ok (.enter f args) w1,es0)) :
  stepG.apply P true (b.at a (.inRegion ops (i :: rest) :: k)) cs none s w=.go (G (Frame.enter P f args .normal) (b.at a (.inRegion ops (i :: rest) :: k) :: cs)) w1 (seen P b.fn es0):=by
 have hk':(b.kind == CallKind.early)=false:=by simpa using hk
 simp only[stepG.apply,if_true,h,Frame.at,GStep.after,G,hk'];simp
theorem Bo(hk:b.kind≠.early){x:Value}(h:s.runT P w #[]=(.halt (.panic x) w1,es0)) :
  stepG.apply P true (b.at a (.inRegion ops (i :: rest) :: k)) cs none s w=.go (G ((b.at a (.inRegion ops (i :: rest) :: k)).raise [{v:=x,recovered:=false}]) cs) w1 (seen P b.fn es0):=by
 have hk':(b.kind == CallKind.early)=false:=by simpa using hk
 simp only[stepG.apply,if_true,h,Frame.at,GStep.after,G,hk'];simp
theorem Nj{y:Halt}(hd:kY y)(h:s.runT P w #[]=(.halt y w1,es0)){g':Goroutine}{w':World}{es:Array Event} :
  stepG.apply P true (b.at a (.inRegion ops (i :: rest) :: k)) cs none s w≠.go g' w' es:=by
 cases y<;>first|(exact hd.elim)|skip
 .rename_i u;cases u<;>first|(exact absurd rfl (hd _))|(simp only[stepG.apply,if_true,h,Frame.at,GStep.after];simp)
 .simp only[stepG.apply,if_true,h,Frame.at,GStep.after];simp
end
def fD(P:Program)(F:FuncId->Bool)(b:Frame)(tmps:Array Value)(todo:List Item)(L:List Item->List Deferred->List Frame->Goroutine):Prop:=
 (∃ (tmps':Array Value) (todo':List Item),(∀ x∈todo',eH P F x=true)∧L=fun k ds cs=>G (b.at ⟨tmps',ds⟩ (todo'++k)) cs)∨
 (∃ (f:FuncId) (args:Array Value),F f=true∧(∃ ops i rest k,todo=.inRegion ops (i :: rest) :: k)∧L=fun k ds cs=>G (Frame.enter P f args .normal) (b.at ⟨tmps,ds⟩ (todo++k) :: cs))∨
 (L=fun k ds cs=>G {b.at ⟨tmps,ds⟩ (todo++k) with mode:=.returning} cs)∨
 (∃ chain:List PanicEntry,L=fun k ds cs=>G ((b.at ⟨tmps,ds⟩ (todo++k)).raise chain) cs)
section
variable {P:Program}{F:FuncId->Bool}{b:Frame}{tmps:Array Value}{todo:List Item}
theorem fD.on{tmps':Array Value}{todo':List Item}(h:∀ x∈todo',eH P F x=true):fD P F b tmps todo (fun k ds cs=>G (b.at ⟨tmps',ds⟩ (todo'++k)) cs):=.inl ⟨_,_,h,rfl⟩
theorem fD.into{f:FuncId}{args:Array Value}(h:F f=true)(h':∃ ops i rest k,todo=.inRegion ops (i :: rest) :: k):fD P F b tmps todo (fun k ds cs=>G (Frame.enter P f args .normal) (b.at ⟨tmps,ds⟩ (todo++k) :: cs)):=.inr (.inl ⟨_,_,h,h',rfl⟩)
theorem fD.back:fD P F b tmps todo (fun k ds cs=>G {b.at ⟨tmps,ds⟩ (todo++k) with mode:=.returning} cs):=.inr (.inr (.inl rfl))
theorem fD.up{chain:List PanicEntry} : fD P F b tmps todo (fun k ds cs=>G ((b.at ⟨tmps,ds⟩ (todo++k)).raise chain) cs):=.inr (.inr (.inr ⟨_,rfl⟩))
theorem fD.parts{motive:∀ L,fD P F b tmps todo L->Prop}{L:List Item->List Deferred->List Frame->Goroutine}(h:fD P F b tmps todo L)
  (on:∀ {tmps':Array Value} {todo':List Item} (h:∀ x∈todo',eH P F x=true),motive _ (fD.on (b:=b) (tmps:=tmps) (todo:=todo) (tmps':=tmps') h))
  (into:∀ {f:FuncId} {args:Array Value} (h:F f=true) (h':∃ ops i rest k,todo=.inRegion ops (i :: rest) :: k),motive _ (fD.into (b:=b) (tmps:=tmps) (args:=args) h h'))
  (back:motive _ fD.back) (up:∀ {chain:List PanicEntry},motive _ (fD.up (chain:=chain))):motive L h:=by
 rcases h with⟨_,_,h,rfl⟩|⟨_,_,h,h',rfl⟩|rfl|⟨_,rfl⟩
 .exact on h
 .exact into h h'
 .exact back
 .exact up
end
def pL(P:Program)(S:Nat->Prop)(B:Nat)(v W v':World)(es:Array Event)(step:World->Prop):Prop:=
 (∀ e∈es,gS S v'.heap.size e)∧aP v v'∧∃ W',step W'∧W'.tape=W.tape∧W'.drawn+v.drawn=W.drawn+v'.drawn∧Rel P S B v' W'∧∀ b,S b->W'.heap[b]?=W.heap[b]?
def vU(P:Program)(F:FuncId->Bool)(S:Nat->Prop)(B:Nat)(m:Bool)(b:Frame)(tmps:Array Value)(todo:List Item)(ds0:List Deferred)(cs0:List Frame)(v W:World)(g':Goroutine)(v':World)(es:Array Event):Prop:=
 ∃ L,fD P F b tmps todo L∧g'=L [] ds0 cs0∧pL P S B v W v' es fun W'=>∀ k ds cs,(todo≠[]∨k=[])->stepG P m (G (b.at ⟨tmps,ds⟩ (todo++k)) cs) W=.go (L k ds cs) W' es
theorem uH{m:Bool}{b:Frame}{tmps:Array Value}{todo:List Item}{ds0:List Deferred}{cs0:List Frame}{g':Goroutine}{v W v':World}{es:Array Event}{L:List Item->List Deferred->List Frame->Goroutine}(hR:Rel P S B v W)(hL:fD P F b tmps todo L)
  (hctl:∀ k ds cs w,(todo≠[]∨k=[])->stepG P m (G (b.at ⟨tmps,ds⟩ (todo++k)) cs) w=.go (L k ds cs) w #[]) (h:stepG P m (G (b.at ⟨tmps,ds0⟩ todo) cs0) v=.go g' v' es):vU P F S B m b tmps todo ds0 cs0 v W g' v' es:=by
 have h1:=hctl [] ds0 cs0 v (.inr rfl);rw[List.append_nil]at h1;rw[h1]at h;cases h
 exact⟨L,hL,rfl,by simp,.refl v,W,fun k ds cs hk=>hctl k ds cs W hk,rfl,rfl,hR,fun _ _=>rfl⟩
theorem xK{b:Frame}{tmps:Array Value}{ops:Array Oper}{i:Nat}{rest:List Nat}{k0:List Item}(htodo:∀ x∈Item.inRegion ops (i :: rest) :: k0,eH P F x=true)(x:Value) :
  fD P F b tmps (.inRegion ops (i :: rest) :: k0) (fun k ds cs=>G ((b.at ⟨tmps,ds⟩ (.inRegion ops (i :: rest) :: (k0++k))).finish x) cs):=by
 have hok:∀ y∈Item.inRegion ops rest :: k0,eH P F y=true:=by
  intro y hy;rcases List.mem_cons.1 hy with rfl|hk
  .exact htodo (.inRegion ops (i :: rest)) (by simp)
  .exact htodo y (by simp[hk])
 cases hd:(ops[i]?).bind (·.dst) with
 |none=>
  have e:(fun(k:List Item) (ds:List Deferred) (cs:List Frame)=>G ((b.at ⟨tmps,ds⟩ (.inRegion ops (i :: rest) :: (k0++k))).finish x) cs)=fun k ds cs=>G (b.at ⟨tmps,ds⟩ ((.inRegion ops rest :: k0)++k)) cs:=by
   funext k ds cs;rw[Frame.finish_at,hd];rfl
  rw[e];exact .on hok
 |some d=>
  have e:(fun(k:List Item) (ds:List Deferred) (cs:List Frame)=>G ((b.at ⟨tmps,ds⟩ (.inRegion ops (i :: rest) :: (k0++k))).finish x) cs)=fun k ds cs=>G (b.at ⟨tmps.setIfInBounds d x,ds⟩ ((.inRegion ops rest :: k0)++k)) cs:=by
   funext k ds cs;rw[Frame.finish_at,hd];rfl
  rw[e];exact .on hok
theorem Nv(hG:Good P F){m:Bool}{b:Frame}{tmps:Array Value}{ops:Array Oper}{i:Nat}{rest:List Nat}{k0:List Item}{ds0:List Deferred}{cs0:List Frame}{v W:World}{g':Goroutine}{v':World}{es:Array Event}{s:Sem Next}(hkind:b.kind≠.early)
  (hR:Rel P S B v W) (htodo:∀ x∈Item.inRegion ops (i :: rest) :: k0,eH P F x=true) (hs:aA P S s) (hn:∀ w w' n,s.run P w=.ok n w'->Iq F n)
  (hst:∀ k ds cs w,stepG P m (G (b.at ⟨tmps,ds⟩ (.inRegion ops (i :: rest) :: (k0++k))) cs) w=stepG.apply P true (b.at ⟨tmps,ds⟩ (.inRegion ops (i :: rest) :: (k0++k))) cs none s w)
  (h:stepG P m (G (b.at ⟨tmps,ds0⟩ (.inRegion ops (i :: rest) :: k0)) cs0) v=.go g' v' es) (hb:v'.drawn<=B) :
  vU P F S B m b tmps (.inRegion ops (i :: rest) :: k0) ds0 cs0 v W g' v' es:=by
 have hst0:=hst [] ds0 cs0 v;rw[List.append_nil]at hst0;rw[hst0]at h;have hA:=hs B v W #[] hR;have hK:=oL (P:=P) s v #[];have hrun:=Sem.runT_fst P s v #[];have nil:∀ {L:List Item->List Deferred->List Frame->Goroutine} {W':World},(∀ k ds cs,stepG.apply P true (b.at ⟨tmps,ds⟩ (.inRegion ops (i :: rest) :: (k0++k))) cs none s W=.go (L k ds cs) W' es)->
   ∀ k ds cs,(Item.inRegion ops (i :: rest) :: k0≠[]∨k=[])->stepG P m (G (b.at ⟨tmps,ds⟩ ((.inRegion ops (i :: rest) :: k0)++k)) cs) W=.go (L k ds cs) W' es:=fun hx k ds cs _=>(hst k ds cs W).trans (hx k ds cs)
 cases hrv:s.runT P v #[]with
 |mk r es0=>
 rw[hrv]at hA hK hrun;have evs:∀ v1:World,kG S v1.heap.size #[] es0->∀ e∈seen P b.fn es0,gS S v1.heap.size e:=by
  intro v1 ⟨l,e,hl⟩ x hx;have:=mem_seen hx;have hm:x∈es0.toList:=by simpa using this
  rw[e]at hm;simp at hm;exact hl x hm
 cases r with
 |ok n v1=>
  have hnx:=hn v v1 n hrun.symm;cases n with
  |value x=>
   rw[Bn hkind hrv]at h;cases h
   obtain⟨W',e,g⟩:=hA hb;exact⟨_,xK htodo x,by simp only[List.append_nil],evs _ g.grow,hK,W',nil fun k ds cs=>Bn hkind e,g.tape,g.drawn,g.rel,g.hidden⟩
  |skip=>
   rw[Cj hkind hrv]at h;cases h
   obtain⟨W',e,g⟩:=hA hb;exact⟨_,xK htodo _,by simp only[List.append_nil],evs _ g.grow,hK,W',nil fun k ds cs=>Cj hkind e,g.tape,g.drawn,g.rel,g.hidden⟩
  |enter f args=>
   rw[Bp hkind hrv]at h;cases h
   obtain⟨W',e,g⟩:=hA hb;exact⟨_,.into hnx ⟨_,_,_,_,rfl⟩,by simp only[List.append_nil],evs _ g.grow,hK,W',nil fun k ds cs=>Bp hkind e,g.tape,g.drawn,g.rel,g.hidden⟩
  |_=>exact hnx.elim
 |halt y v1=>
  rcases hs.halts hR hrv with hd|⟨x,rfl⟩
  .exact absurd h (Nj hd hrv)
  .rw[Bo hkind hrv]at h;cases h
   rcases hA with⟨hd,_⟩|hA
   .exact hd.elim
   .obtain⟨_,W',e,g⟩:=hA hb;exact⟨_,.up,by simp only[List.append_nil],evs _ g.grow,hK,W',nil fun k ds cs=>Bo hkind e,g.tape,g.drawn,g.rel,g.hidden⟩
theorem xM{id:Nat}(k:List Item):∀ {k0 k':List Item},exitTo id k0=some k'->exitTo id (k0++k)=some (k'++k)
 |[],_,h=>by simp[exitTo]at h
 |x :: k0,k',h=>by
  cases x with
  |inBlock id'=>
   simp only[exitTo,List.cons_append]at h ⊢;split at h
   .rename_i hid;cases h
    rw[if_pos hid]
   .rename_i hid;rw[if_neg hid];exact xM k h
  |_=>
   simp only[exitTo,List.cons_append]at h ⊢;exact xM k h
theorem Hb(hG:Good P F){m:Bool}{b:Frame}{tmps:Array Value}{todo:List Item}{ds0:List Deferred}{cs0:List Frame}{v W:World}{g':Goroutine}{v':World}{es:Array Event}(hkind:b.kind≠.early)(hR:Rel P S B v W)(htodo:∀ x∈todo,eH P F x=true)
  (h:stepG P m (G (b.at ⟨tmps,ds0⟩ todo) cs0) v=.go g' v' es) (hb:v'.drawn<=B):vU P F S B m b tmps todo ds0 cs0 v W g' v' es:=by
 have ctl:∀ {td:List Item},(∀ x∈td,eH P F x=true)->(∀ k ds cs w,(todo≠[]∨k=[])->stepG P m (G (b.at ⟨tmps,ds⟩ (todo++k)) cs) w=.go (G (b.at ⟨tmps,ds⟩ (td++k)) cs) w #[])->vU P F S B m b tmps todo ds0 cs0 v W g' v' es:=fun {td} htd hc=>
  uH hR (.on htd) hc h
 cases todo with
 |nil=>exact uH hR .back (fun k ds cs w hk=>by obtain rfl:k=[]:=hk.resolve_left (fun x=>x rfl);exact stepG_end) h
 |cons x k=>
  have hx:=htodo x (by simp);have hk:∀ y∈k,eH P F y=true:=fun y hy=>htodo y (by simp[hy])
  cases x with
  |code c=>
   cases c with
   |skip=>exact ctl hk fun k ds cs w _=>stepG_skip
   |label l=>exact ctl hk fun k ds cs w _=>stepG_label
   |seq c d=>
    simp only[eH,eI,Bool.and_eq_true]at hx;exact ctl (td:=.code c :: .code d :: k) (by intro y hy;simp at hy;rcases hy with rfl|rfl|hy;exact hx.1;exact hx.2;exact hk y hy) fun k ds cs w _=>stepG_seq
   |cond c d e=>
    simp only[eH,eI,Bool.and_eq_true]at hx;cases hc:(Act.mk tmps ds0).eval c with
    |bool t=>
     have hc2:∀ ds,(Act.mk tmps ds).eval c=.bool t:=fun ds=>by rw[<-hc];cases c<;>rfl
     refine ctl (td:=.code (if t=true then d else e) :: k) ?_ fun k ds cs w _=>stepG_cond (hc2 ds)
     intro y hy;simp at hy;rcases hy with rfl|hy
     .cases t
      .exact hx.2
      .exact hx.1
     .exact hk y hy
    |_=>
     exfalso;have hc':(b.at ⟨tmps,ds0⟩ (.code (.cond c d e) :: k)).eval c=_:=(Frame.eval_at _ _ _ _).trans hc;simp only[Frame.at]at hc';simp only[G,stepG,stepG.exec,Frame.at]at h;rw[hc']at h;cases h
   |block id c=>exact ctl (td:=.code c :: .inBlock id :: k) (by intro y hy;simp at hy;rcases hy with rfl|rfl|hy;exact hx;rfl;exact hk y hy) fun k ds cs w _=>stepG_block
   |loop c=>exact ctl (td:=.code c :: .inLoop c :: k) (by intro y hy;simp at hy;rcases hy with rfl|rfl|hy;exact hx;exact hx;exact hk y hy) fun k ds cs w _=>stepG_loop
   |ret=>exact uH hR .back (fun k ds cs w _=>stepG_ret') h
   |exit id=>
    cases he:exitTo id k with
    |some k'=>exact ctl (fun y hy=>hk y (xL he y hy)) fun kk ds cs w _=>stepG_exit (xM kk he)
    |none=>
     exfalso;simp[G,stepG,stepG.exec,he,Frame.at]at h
   |region id ops d=>
    have hops:∀ l,∀ y∈Item.inRegion ops l :: k,eH P F y=true:=by
     intro l y hy;simp at hy;rcases hy with rfl|hy
     .exact hx
     .exact hk y hy
    cases d with
    |false=>exact ctl (hops _) fun k ds cs w _=>stepG_region
    |true=>
     have e:∀ k ds cs (w:World),stepG P m (G (b.at ⟨tmps,ds⟩ (.code (.region id ops true) :: k)) cs) w=.go (G (b.at ⟨tmps,ds⟩ (.inRegion ops (Region.schedule (P.follows .mixedOrders) ops (w.tape w.drawn (.order b.fn id))) :: k)) cs) {w with drawn:=w.drawn+1} #[]:=fun k ds cs w=>stepG_region_draw
     rw[e]at h;cases h
     have ed:=hR.draws 0 (.order b.fn id) (by simp only at hb;omega);simp only[Nat.add_zero]at ed;refine⟨fun k2 ds cs=>G (b.at ⟨tmps,ds⟩ ((.inRegion ops (Region.schedule (P.follows .mixedOrders) ops (v.tape v.drawn (.order b.fn id))) :: k)++k2)) cs,.on (hops _),by simp only[List.append_nil],by simp,⟨rfl,Nat.le_succ _,Nat.le_refl _⟩,{W with drawn:=W.drawn+1},fun kk ds cs _=>(by rw[ed];exact e (k++kk) ds cs W),rfl,by simp only;omega,⟨fun j q hj=>?_,hR.os,hR.output,hR.size,hR.seen,hR.hid,hR.tame,hR.high⟩,fun _ _=>rfl⟩
     have:=hR.draws (j+1) q (by simp only at hj;omega);simp only[Nat.add_assoc,Nat.add_comm 1 j];exact this
   |scope c=>cases hx
   |goto l=>cases hx
   |rangeFunc f p c d=>cases hx
   |refuse w=>
    exfalso;simp[G,stepG,stepG.exec,Frame.at]at h
  |inBlock id=>exact ctl hk fun k ds cs w _=>stepG_inBlock
  |inLoop c=>exact ctl (td:=.code c :: .inLoop c :: k) (by intro y hy;simp at hy;rcases hy with rfl|rfl|hy;exact hx;exact hx;exact hk y hy) fun k ds cs w _=>stepG_inLoop
  |inRegion ops l=>
   cases l with
   |nil=>exact ctl hk fun k ds cs w _=>stepG_region_end
   |cons i rest=>
    cases hw:((ops[i]?).map (Region.wanted · (yielded ops tmps))).getD false with
    |false=>exact uH hR (xK htodo undef) (fun kk ds cs w _=>by simp[G,stepG,stepG.exec,hw,Frame.at]) h
    |true=>
     cases ho:ops[i]? with
     |none=>rw[ho]at hw;cases hw
     |some o=>
      rw[ho]at hw;simp only[Option.map_some,Option.getD_some]at hw;have hok:=Yo hx ho;have hρ : ∀ f,(Act.mk tmps []).eval (.func f)=.func (.func f) #[] #[]:=fun f=>rfl
      have hev:∀ ds,(Act.mk tmps ds).eval=(Act.mk tmps []).eval:=fun ds=>by funext x;cases x<;>rfl
      refine Nv hG (s:=execOp (Act.mk tmps []).eval o) hkind hR htodo (aA.execOp hG.cc hG.closed hρ hok) (fun w w' n hn=>Mw hG.closed hρ hok hn) (fun kk ds cs w=>?_) h hb;rw[<-hev ds];exact stepG_oper ho hw
  |inScope c=>cases hx
  |inRangeFunc l=>cases hx
  |endRangeFunc l=>cases hx
  |beginRound=>cases hx
  |call _ _ _ _=>cases hx
  |_=>cases hx
theorem Hc{m:Bool}{fr c0:Frame}{cs0:List Frame}{f:Func}{v W:World}{g':Goroutine}{v':World}{es:Array Event}(hR:Rel P S B v W)(hf:P.funcs[fr.fn]?=some f)(hmode:fr.mode=.returning)(hd:fr.defers=[])(hkind:fr.kind=.normal)
  (h:stepG P m (G fr (c0 :: cs0)) v=.go g' v' es) (hb:v'.drawn<=B):∃ x,g'=G (c0.finish x) cs0∧pL P S B v W v' es fun W'=>∀ c cs,stepG P m (G fr (c :: cs)) W=.go (G (c.finish x) cs) W' es:=by
 obtain⟨fn,tmps,todo,defers,mode,kind,round⟩:=fr;simp only at hf hmode hd hkind;subst hmode hd hkind;have e:∀ (c:Frame) (cs:List Frame) (w w1:World) x es0,(results f tmps).runT P w #[]=(.ok x w1,es0)->stepG P m (G ⟨fn,tmps,todo,[],.returning,.normal,round⟩ (c :: cs)) w=.go (G (c.finish x) cs) w1 (seen P fn es0):=by
  intro c cs w w1 x es0 hr;simp only[G,stepG,unwind,hf,hr,doReturn,GStep.after];simp
 have ed:∀ (c:Frame) (cs:List Frame) (w w1:World) y es0,(results f tmps).runT P w #[]=(.halt y w1,es0)->∀ g w2 es2,stepG P m (G ⟨fn,tmps,todo,[],.returning,.normal,round⟩ (c :: cs)) w≠.go g w2 es2:=by
  intro c cs w w1 y es0 hr g w2 es2;simp only[G,stepG,unwind,hf,hr,GStep.after];cases y<;>simp
 have hA:=aA.results (P:=P) (S:=S) f tmps B v W #[] hR;have hK:=oL (P:=P) (results f tmps) v #[];cases hrv:(results f tmps).runT P v #[]with
 |mk r es0=>
 rw[hrv]at hA hK;cases r with
 |halt y v1=>exact absurd h (ed _ _ _ _ _ _ hrv _ _ _)
 |ok x v1=>
  rw[e _ _ _ _ _ _ hrv]at h;cases h
  obtain⟨W',eW,g⟩:=hA hb;refine⟨x,rfl,?_,hK,W',fun c cs=>e _ _ _ _ _ _ eW,g.tape,g.drawn,g.rel,g.hidden⟩
  obtain⟨l,el,hl⟩:=g.grow;intro y hy;have:=mem_seen hy;have hm:y∈es0.toList:=by simpa using this
  rw[el]at hm;simp at hm;exact hl y hm
end
structure Twin(v u:World):Prop where
 heap:u.heap=v.heap
 os:u.os=v.os
 output:u.output=v.output
theorem Twin.refl(v:World):Twin v v:=⟨rfl,rfl,rfl⟩
theorem Twin.symm{v u:World}(h:Twin v u):Twin u v:=⟨h.heap.symm,h.os.symm,h.output.symm⟩
theorem Twin.trans{a b c:World}(h:Twin a b)(k:Twin b c):Twin a c:=⟨k.heap.trans h.heap,k.os.trans h.os,k.output.trans h.output⟩
theorem Twin.eq{a b:World}(h:Twin a b)(ht:b.tape=a.tape)(hd:b.drawn=a.drawn):b=a:=by
 obtain⟨_,_,_,_,_⟩:=a;obtain⟨_,_,_,_,_⟩:=b;obtain⟨h1,h2,h3⟩:=h;simp only at h1 h2 h3 ht hd;subst h1 h2 h3 ht hd;rfl
structure View(P:Program)(S:Nat->Prop)(v:World):Prop where
 hid:∀ b,S b->v.heap[b]?=some eR
 tame:∀ b,¬S b->∀ o,v.heap[b]?=some o->o.tame
 high:∀ b,S b->P.globals.size<=b
structure OkSt(P:Program)(F:FuncId->Bool)(S:Nat->Prop)(fr:Frame)(inner:List Frame)(v:World):Prop where
 fr:OkFrame P F fr
 inner:∀ c∈inner,OkFrame P F c
 view:View P S v
section
variable {P:Program}{F:FuncId->Bool}{S:Nat->Prop}{B:Nat}
theorem Rel.view{v W:World}(h:Rel P S B v W):View P S v:=⟨h.hid,h.tame,h.high⟩
section
variable {P:Program}{F:FuncId->Bool}{S:Nat->Prop}{E:Frame->List Frame->World->Prop}
end
variable {E:Frame->List Frame->World->Prop}
section limit
variable (u:Nat->World)(d:Nat->Nat)
end limit
end
structure WAt where
 above:Option (Frame×List Frame)
 tmps:Array Value
 todo:List Item
def WAt.top(tmps:Array Value)(todo:List Item):WAt:=⟨none,tmps,todo⟩
def WAt.deep(fr:Frame)(inner:List Frame)(tmps:Array Value)(todo:List Item):WAt:=⟨some (fr,inner),tmps,todo⟩
theorem WAt.parts{motive:WAt->Prop}(st:WAt)(top:∀ tmps todo,motive (.top tmps todo))(deep:∀ fr inner tmps todo,motive (.deep fr inner tmps todo)):motive st:=by
 obtain⟨_|⟨fr,inner⟩,tmps,todo⟩:=st
 .exact top tmps todo
 .exact deep fr inner tmps todo
def WAt.g(b:Frame)(ds:List Deferred)(floor:List Frame)(st:WAt):Goroutine:=
 match st.above with
 |none=>G (b.at ⟨st.tmps,ds⟩ st.todo) floor
 |some (fr,inner)=>G fr (inner++b.at ⟨st.tmps,ds⟩ st.todo :: floor)
def WAt.gk(b:Frame)(ds:List Deferred)(floor:List Frame)(k:List Item)(st:WAt):Goroutine:=
 match st.above with
 |none=>G (b.at ⟨st.tmps,ds⟩ (st.todo++k)) floor
 |some (fr,inner)=>G fr (inner++b.at ⟨st.tmps,ds⟩ (st.todo++k) :: floor)
theorem WAt.gk_nil(b:Frame)(ds:List Deferred)(floor:List Frame)(st:WAt):st.gk b ds floor []=st.g b ds floor:=by cases st using WAt.parts<;>simp[WAt.gk,WAt.g,WAt.top,WAt.deep]
def WAt.Busy(st:WAt):Prop:=
 match st.above with
 |none=>st.todo≠[]
 |some _=>True
def eN(b:Frame)(ds:List Deferred)(floor:List Frame)(tmps:Array Value)(todo:List Item):Goroutine:=G {b.at ⟨tmps,ds⟩ todo with mode:=.returning} floor
def aM(b:Frame)(ds:List Deferred)(floor:List Frame)(tmps:Array Value)(todo:List Item)(chain:List PanicEntry):Goroutine:=G ((b.at ⟨tmps,ds⟩ todo).raise chain) floor
structure WAt.Ok(P:Program)(F:FuncId->Bool)(st:WAt):Prop where
 todo:match st.above with
  |none=>∀ x∈st.todo,eH P F x=true
  |some (fr,inner)=>OkFrame P F fr∧(∀ c∈inner,OkFrame P F c)∧(∀ x∈st.todo,eH P F x=true)∧∃ ops i rest k,st.todo=.inRegion ops (i :: rest) :: k
section
variable {P:Program}{F:FuncId->Bool}{S:Nat->Prop}{B:Nat}
theorem Ge(hG:Good P F){f:FuncId}(hf:F f=true)(args:Array Value):OkFrame P F (Frame.enter P f args .normal):=by
 obtain⟨fn,c,h1,h2,h3,_⟩:=hG.body f hf;refine⟨?_,rfl,rfl,rfl,⟨fn,h1⟩⟩;intro x hx;simp[Frame.enter,h1,h2]at hx;subst hx;exact h3
def iM(P:Program)(F:FuncId->Bool)(b:Frame)(L:List Item->List Deferred->List Frame->Goroutine):Prop:=
 (∃ st:WAt,st.Ok P F∧L=fun k ds floor=>st.gk b ds floor k)∨(∃ (tmps:Array Value) (todo:List Item),L=fun k ds floor=>eN b ds floor tmps (todo++k))∨
 ∃ (tmps:Array Value) (todo:List Item) (chain:List PanicEntry),L=fun k ds floor=>aM b ds floor tmps (todo++k) chain
theorem iM.on{b:Frame}{st:WAt}(h:st.Ok P F):iM P F b (fun k ds floor=>st.gk b ds floor k):=.inl ⟨_,h,rfl⟩
theorem iM.back{b:Frame}{tmps:Array Value}{todo:List Item} : iM P F b (fun k ds floor=>eN b ds floor tmps (todo++k)):=.inr (.inl ⟨_,_,rfl⟩)
theorem iM.up{b:Frame}{tmps:Array Value}{todo:List Item}{chain:List PanicEntry} : iM P F b (fun k ds floor=>aM b ds floor tmps (todo++k) chain):=.inr (.inr ⟨_,_,_,rfl⟩)
theorem iM.parts{b:Frame}{motive:∀ L,iM P F b L->Prop}{L:List Item->List Deferred->List Frame->Goroutine}(h:iM P F b L)(on:∀ {st:WAt} (h:st.Ok P F),motive _ (iM.on (b:=b) h))
  (back:∀ {tmps:Array Value} {todo:List Item},motive _ (iM.back (tmps:=tmps) (todo:=todo))) (up:∀ {tmps:Array Value} {todo:List Item} {chain:List PanicEntry},motive _ (iM.up (tmps:=tmps) (todo:=todo) (chain:=chain))):motive L h:=by
 rcases h with⟨_,h,rfl⟩|⟨_,_,rfl⟩|⟨_,_,_,rfl⟩
 .exact on h
 .exact back
 .exact up
theorem Sn{fr:Frame}(h:OkFrame P F fr)(hm:fr.mode=.run):fr=(base fr.fn).at ⟨fr.tmps,[]⟩ fr.todo:=by
 obtain⟨fn,tmps,todo,defers,mode,kind,round⟩:=fr;obtain⟨_,hd,hk,hr,_⟩:=h;simp only at hd hk hr hm;subst hd hk hr hm;rfl
theorem Jt{b:Frame}{ops:Array Oper}{i:Nat}{rest:List Nat}{k:List Item}(htodo:∀ x∈Item.inRegion ops (i :: rest) :: k,eH P F x=true)(tmps:Array Value)(x:Value) :
  ∃ tmps',(∀ y∈Item.inRegion ops rest :: k,eH P F y=true)∧∀ ds k',(b.at ⟨tmps,ds⟩ ((.inRegion ops (i :: rest) :: k)++k')).finish x=b.at ⟨tmps',ds⟩ ((.inRegion ops rest :: k)++k'):=by
 have hok:∀ y∈Item.inRegion ops rest :: k,eH P F y=true:=by
  intro y hy;rcases List.mem_cons.1 hy with rfl|hk
  .exact htodo (.inRegion ops (i :: rest)) (by simp)
  .exact htodo y (by simp[hk])
 cases hd:(ops[i]?).bind (·.dst) with
 |none=>exact⟨tmps,hok,fun ds k'=>by rw[List.cons_append,Frame.finish_at,hd];rfl⟩
 |some d=>exact⟨tmps.setIfInBounds d x,hok,fun ds k'=>by rw[List.cons_append,Frame.finish_at,hd];rfl⟩
theorem Lf(hG:Good P F){m:Bool}{b:Frame}(hkind:b.kind≠.early){st:WAt}(hok:st.Ok P F){ds0:List Deferred}{fl0:List Frame}{v W v':World}{g':Goroutine}{es:Array Event}(hR:Rel P S B v W)
  (h:stepG P m (st.g b ds0 fl0) v=.go g' v' es) (hb:v'.drawn<=B) :
  ∃ L,iM P F b L∧g'=L [] ds0 fl0∧pL P S B v W v' es fun W'=>∀ k ds fl,(st.Busy∨k=[])->stepG P m (st.gk b ds fl k) W=.go (L k ds fl) W' es:=by
 cases st using WAt.parts with
 |top tmps todo=>
  have htodo:∀ x∈todo,eH P F x=true:=hok.todo;obtain⟨L,hL,e,hs⟩:=Hb hG (ds0:=ds0) (cs0:=fl0) hkind hR htodo h hb;cases hL using fD.parts with
  |@on tmps' todo' ht=>exact⟨_,.on (st:=.top tmps' todo') ⟨ht⟩,e,hs⟩
  |@into f args hf hsh=>exact⟨_,.on (st:=.deep (Frame.enter P f args .normal) [] tmps todo) ⟨Ge hG hf args,by simp,htodo,hsh⟩,e,hs⟩
  |back=>exact⟨_,.back,e,hs⟩
  |up=>exact⟨_,.up,e,hs⟩
 |deep fr inner tmps todo=>
  obtain⟨hfr,hin,htodo,hsh⟩:=hok.todo;cases hmode:fr.mode with
  |run=>
   have hfe:=Sn hfr hmode;have h':stepG P m (G ((base fr.fn).at ⟨fr.tmps,[]⟩ fr.todo) (inner++b.at ⟨tmps,ds0⟩ todo :: fl0)) v=.go g' v' es:=by rw[<-hfe];exact h
   obtain⟨L,hL,e,hev,hk,W',hW,h1,h2,h3,h4⟩:=Hb hG (by simp[base]) hR hfr.todo h' hb;have hW':∀ k ds fl,stepG P m (G fr (inner++b.at ⟨tmps,ds⟩ (todo++k) :: fl)) W=.go (L [] [] (inner++b.at ⟨tmps,ds⟩ (todo++k) :: fl)) W' es:=fun k ds fl=>by
    have:=hW [] [] (inner++b.at ⟨tmps,ds⟩ (todo++k) :: fl) (.inr rfl);rw[List.append_nil,<-hfe]at this;exact this
   cases hL using fD.parts with
   |@on tmps' todo' ht=>
    refine⟨_,.on (st:=.deep ((base fr.fn).at ⟨tmps',[]⟩ todo') inner tmps todo) ⟨⟨ht,rfl,rfl,rfl,hfr.fn⟩,hin,htodo,hsh⟩,?_,hev,hk,W',fun k ds fl _=>?_,h1,h2,h3,h4⟩
    .rw[e];simp only[WAt.gk,WAt.top,WAt.deep,List.append_nil]
    .have:=hW' k ds fl;simp only[List.append_nil]at this;exact this
   |@into f args hf _=>
    refine⟨_,.on (st:=.deep (Frame.enter P f args .normal) (fr :: inner) tmps todo) ⟨Ge hG hf args,?_,htodo,hsh⟩,?_,hev,hk,W',?_,h1,h2,h3,h4⟩
    .intro c hc;rcases List.mem_cons.1 hc with rfl|hc
     .exact hfr
     .exact hin c hc
    .rw[e];show G (Frame.enter P f args .normal) ((base fr.fn).at ⟨fr.tmps,[]⟩ (fr.todo++[]) :: (inner++b.at ⟨tmps,ds0⟩ todo :: fl0))=G (Frame.enter P f args .normal) (fr :: (inner++b.at ⟨tmps,ds0⟩ (todo++[]) :: fl0));rw[List.append_nil,List.append_nil,<-hfe]
    .intro k ds fl _;have h5:stepG P m (G fr (inner++b.at ⟨tmps,ds⟩ (todo++k) :: fl)) W=.go (G (Frame.enter P f args .normal) ((base fr.fn).at ⟨fr.tmps,[]⟩ (fr.todo++[]) :: (inner++b.at ⟨tmps,ds⟩ (todo++k) :: fl))) W' es:=hW' k ds fl;rw[List.append_nil,<-hfe]at h5;exact h5
   |back=>
    refine⟨_,.on (st:=.deep {(base fr.fn).at ⟨fr.tmps,[]⟩ fr.todo with mode:=.returning} inner tmps todo) ⟨⟨hfr.todo,rfl,rfl,rfl,hfr.fn⟩,hin,htodo,hsh⟩,?_,hev,hk,W',fun k ds fl _=>?_,h1,h2,h3,h4⟩
    .rw[e];simp only[WAt.gk,WAt.top,WAt.deep,List.append_nil]
    .have:=hW' k ds fl;simp only[List.append_nil]at this;exact this
   |@up chain=>
    refine⟨_,.on (st:=.deep (((base fr.fn).at ⟨fr.tmps,[]⟩ fr.todo).raise chain) inner tmps todo) ⟨Gd (c:=(base fr.fn).at ⟨fr.tmps,[]⟩ fr.todo) ⟨hfr.todo,rfl,rfl,rfl,hfr.fn⟩ chain,hin,htodo,hsh⟩,?_,hev,hk,W',fun k ds fl _=>?_,h1,h2,h3,h4⟩
    .rw[e];simp only[WAt.gk,WAt.top,WAt.deep,List.append_nil]
    .have:=hW' k ds fl;simp only[List.append_nil]at this;exact this
  |returning=>
   obtain⟨f,hf⟩:=hfr.fn;cases inner with
   |nil=>
    obtain⟨ops,i,rest,k,rfl⟩:=hsh;obtain⟨x,e,hev,hk,W',hW,h1⟩:=Hc hR hf hmode hfr.defers hfr.kind h hb;obtain⟨tmps',ht',hfin⟩:=Jt (b:=b) htodo tmps x;refine⟨_,.on (st:=.top tmps' (.inRegion ops rest :: k)) ⟨ht'⟩,?_,hev,hk,W',fun k' ds fl _=>?_,h1⟩
    .have:=hfin ds0 [];simp only[List.append_nil]at this;simp only[WAt.deep]at e;rw[e,this];simp only[WAt.gk,WAt.top,WAt.deep,List.append_nil]
    .have:=hW (b.at ⟨tmps,ds⟩ ((.inRegion ops (i :: rest) :: k)++k')) fl;rw[hfin]at this;exact this
   |cons c inner=>
    have hc:=hin c (by simp);obtain⟨x,e,hev,hk,W',hW,h1⟩:=Hc (c0:=c) (cs0:=inner++b.at ⟨tmps,ds0⟩ todo :: fl0) hR hf hmode hfr.defers hfr.kind h hb;refine⟨_,.on (st:=.deep (c.finish x) inner tmps todo) ⟨ok_finish' hc x,fun y hy=>hin y (by simp[hy]),htodo,hsh⟩,?_,hev,hk,W',fun k ds fl _=>hW c _,h1⟩
    rw[e];simp only[WAt.gk,WAt.top,WAt.deep,List.append_nil]
  |panicking chain=>
   obtain⟨f,hf⟩:=hfr.fn;obtain⟨fn,tm,td,de,mo,ki,ro⟩:=fr;obtain⟨htd,hd,hki,hro,_⟩:=hfr;simp only at hf hmode hd hki hro htd;subst hmode hd hki hro;have epop:∀ c cs (w:World),stepG P m (G ⟨fn,tm,td,[],.panicking chain,.normal,none⟩ (c :: cs)) w=.go (G (Frame.raise c chain) cs) w #[]:=by
    intro c cs w;simp[G,stepG,unwind,Frame.catches,hf]
   cases inner with
   |nil=>
    have h':stepG P m (G ⟨fn,tm,td,[],.panicking chain,.normal,none⟩ (b.at ⟨tmps,ds0⟩ todo :: fl0)) v=.go g' v' es:=h;rw[epop]at h';cases h'
    exact⟨_,.up (tmps:=tmps) (todo:=todo) (chain:=chain),by simp only[aM,List.append_nil],by simp,.refl v,W,fun k ds fl _=>epop _ _ _,rfl,rfl,hR,fun _ _=>rfl⟩
   |cons c inner=>
    have h':stepG P m (G ⟨fn,tm,td,[],.panicking chain,.normal,none⟩ (c :: (inner++b.at ⟨tmps,ds0⟩ todo :: fl0))) v=.go g' v' es:=h;rw[epop]at h';cases h'
    exact⟨_,.on (st:=.deep (c.raise chain) inner tmps todo) ⟨Gd (hin c (by simp)) chain,fun y hy=>hin y (by simp[hy]),htodo,hsh⟩,by simp only[WAt.gk,WAt.top,WAt.deep,List.append_nil],by simp,.refl v,W,fun k ds fl _=>epop _ _ _,rfl,rfl,hR,fun _ _=>rfl⟩
end
section
variable {P:Program}{F:FuncId->Bool}{S:Nat->Prop}{Post:Value->World->Prop}
end
open Go.ConcN (sumTo upd sumTo_upd upd_ne upd_same)
def iA(S:Nat->Prop):Loc->Prop
 |.cell a=>S a.block
 |.obj r=>S r
 |_=>False
section
variable {P:Program}{F:FuncId->Bool}{S:Nat->Prop}{E:Frame->List Frame->World->Prop}
theorem In{n B:Nat}{e:Event}(h:gS S n e)(hn:n<=B):EvL (iA S) B e:=by
 obtain⟨loc,wr,sy⟩:=e;cases loc with
 |cell a=>
  obtain⟨h1,h2⟩:=h;refine⟨fun x hx hs=>?_,by simp,by simp,?_⟩
  .simp[MemAct.ofEvent,MemAct.touch?]at hx;subst hx;exact absurd hs h1
  .show a.block<B;exact Nat.lt_of_lt_of_le h2 hn
 |obj r=>
  obtain⟨h1,h2⟩:=h;refine⟨fun x hx hs=>?_,by simp,by simp,?_⟩
  .cases wr<;>cases sy<;>simp[MemAct.ofEvent,MemAct.touch?]at hx
   all_goals (subst hx;exact absurd hs h1)
  .cases wr<;>cases sy<;>exact Nat.lt_of_lt_of_le h2 hn
 |output=>exact h.elim
 |goroutines=>exact h.elim
 |mark m=>
  have:m=.noRoom:=h;subst this;exact⟨fun x hx hs=>by simp[MemAct.ofEvent,MemAct.touch?]at hx,by simp,by simp,trivial⟩
def lX(n:Nat)(t:Trace):Prop:=∀ op∈t,op.g<n∧∀ x,op.act.touch?=some x->x.loc.isMemory=true
theorem Uc{n i B:Nat}{t:Trace}{fn:FuncId}{pos:String}{es:Array Event}(h:lX n t)(hi:i<n)(hes:∀ e∈es,gS S B e):lX n (t++MemOp.ofEvents i fn pos es):=by
 intro op hop;rcases Array.mem_append.1 hop with h1|h1
 .exact h op h1
 .obtain⟨e,he,rfl⟩:=Conc.mem_ofEvents h1;refine⟨hi,fun x hx=>?_⟩
  have:=hes e he;obtain⟨loc,wr,sy⟩:=e;cases loc with
  |cell a=>simp[MemAct.ofEvent,MemAct.touch?]at hx;subst hx;rfl
  |obj r=>
   cases wr<;>cases sy<;>simp[MemAct.ofEvent,MemAct.touch?]at hx
   all_goals (subst hx;rfl)
  |output=>exact this.elim
  |goroutines=>exact this.elim
  |mark m=>
   have hm:m=.noRoom:=this;subst hm;simp[MemAct.ofEvent,MemAct.touch?]at hx
theorem Ec{n i:Nat}{t:Trace}{fn:FuncId}{pos:String}{es:Array Event}(h:lX n t)(hi:i<n)(hes:∀ e∈es,e.mute=true):lX n (t++MemOp.ofEvents i fn pos es):=by
 intro op hop;rcases Array.mem_append.1 hop with h1|h1
 .exact h op h1
 .obtain⟨e,he,rfl⟩:=Conc.mem_ofEvents h1;exact⟨hi,fun x hx=>by rw[touch_mute (hes e he)]at hx;cases hx⟩
theorem Ea{gs:Array Goroutine}{t:Trace}{q:Nat->Nat}{a:Goroutine}(h0:gs[0]?=some a)(hrun:a.status=.running)(hL:Leavers P t gs q):∀ g∈gs,awake g:=by
 intro g hg;obtain⟨i,hi,rfl⟩:=Array.mem_iff_getElem.1 hg;rcases Nat.eq_zero_or_pos i with rfl|hpos
 .have:gs[0]=a:=by simpa [Array.getElem?_eq_getElem hi] using h0
  rw[this];exact awake_of (.inl hrun)
 .exact awake_of ((hL.old i _ hpos (Array.getElem?_eq_getElem hi)).status.elim .inl fun x=>.inr (.inr x))
theorem Mz{gs:Array Goroutine}{t:Trace}{q:Nat->Nat}(hlt:0<gs.size)(hL:Leavers P t gs q)(g a':Goroutine)(w':World)(fn:FuncId)(pos:String)(es:Array Event) :
  Leavers P (t++MemOp.ofEvents 0 fn pos es) ((gs.map (woken P g a' w')).setIfInBounds 0 a') q:=
 ⟨fun j x hj hx=>by
  have hne:0≠j:=by omega
  rw[Array.getElem?_setIfInBounds_ne hne,Array.getElem?_map]at hx;obtain⟨y,hy,rfl⟩:=Option.map_eq_some_iff.1 hx;have hq:=hL.old j y hj hy;rw[woken_quitsD hq,Deaf_other t (g:=j) (g':=0) (by omega) _ (fun op hop=>by obtain⟨e,_,rfl⟩:=Conc.mem_ofEvents hop;rfl)];exact hq,fun j hj=>by
  rw[Deaf_other t (g':=0) (by simp at hj;omega) _ (fun op hop=>by obtain⟨e,_,rfl⟩:=Conc.mem_ofEvents hop;rfl)]
  exact hL.above j (by simpa using hj)⟩
theorem Bi{gs:Array Goroutine}{t:Trace}{q:Nat->Nat}(hL:Leavers P t gs q){i k:Nat}{g g':Goroutine}(hi:gs[i]?=some g)(hpos:0<i){w':World}{fn:FuncId}{pos:String}{es:Array Event}
  (hq':QuitsD P k (deafBehind (Deaf t i) es) g'):Leavers P (t++MemOp.ofEvents i fn pos es) ((gs.map (woken P g g' w')).setIfInBounds i g') (upd q i k):=
 ⟨fun j x hj hx=>by
  have hlt:i<gs.size:=(Array.getElem?_eq_some_iff.1 hi).1;by_cases hji:i=j
  .subst hji;rw[Array.getElem?_setIfInBounds_self_of_lt (by simpa using hlt)]at hx;obtain rfl:=Option.some.inj hx;rw[upd_same,Deaf_own];exact hq'
  .rw[Array.getElem?_setIfInBounds_ne hji,Array.getElem?_map]at hx;obtain⟨y,hy,rfl⟩:=Option.map_eq_some_iff.1 hx;have hqj:=hL.old j y hj hy;rw[woken_quitsD hqj,upd_ne q k (Ne.symm hji),Deaf_other t hji _ (fun op hop=>by obtain⟨e,_,rfl⟩:=Conc.mem_ofEvents hop;rfl)];exact hqj,fun j hj=>by
  have hlt:i<gs.size:=(Array.getElem?_eq_some_iff.1 hi).1;rw[Deaf_other t (g':=i) (by simp at hj;omega) _ (fun op hop=>by obtain⟨e,_,rfl⟩:=Conc.mem_ofEvents hop;rfl)]
  exact hL.above j (by simpa using hj)⟩
structure There(P:Program)(F:FuncId->Bool)(S:Nat->Prop)(E:Frame->List Frame->World->Prop)(γ : Frame->List Frame->Goroutine)(I:Frame->List Frame->Prop)(gs:Array Goroutine)(W:World)(sl:Option (Nat×Nat))(t:Trace)(N:Nat)(gs':Array Goroutine)(W':World)(sl':Option (Nat×Nat))(t':Trace)(q':Nat->Nat)
  (fr':Frame) (inner':List Frame) (v':World):Prop where
 run:runNT P N (crowd gs W sl) t=(.next (crowd gs' W' sl'),t')
 size:gs'.size=gs.size
 at0:gs'[0]?=some (γ fr' inner')
 stop:E fr' inner' v'
 inv:I fr' inner'
 ok:OkSt P F S fr' inner' v'
 rel:Rel P S 0 v' W'
 hidden:∀ b,S b->W'.heap[b]?=W.heap[b]?
 grown:W.heap.size<=W'.heap.size
 leavers:Leavers P t' gs' q'
 past:Past (iA S) W'.heap.size t'
 tidy:lX gs'.size t'
theorem Rel.zero{B:Nat}{v W:World}(h:Rel P S B v W):Rel P S 0 v W:=⟨fun j q hj=>by omega,h.os,h.output,h.size,h.seen,h.hid,h.tame,h.high⟩
theorem Rel.at{v W:World}(h:Rel P S 0 v W)(d:Nat):Rel P S 0 v (W.at d):=⟨fun j q hj=>by omega,h.os,h.output,h.size,h.seen,h.hid,h.tame,h.high⟩
end
