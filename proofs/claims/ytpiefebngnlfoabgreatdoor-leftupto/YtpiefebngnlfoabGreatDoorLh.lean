import Derived.Test.YtpiefebngnlfoabGreatDoorLg
import Derived.Laws.CopyRow
import Derived.Laws.AppendOwn
set_option maxRecDepth 99999
set_option maxHeartbeats 0
set_option linter.unusedVariables false
set_option linter.unusedSimpArgs false
namespace Go.Vw
open Go.Conc Go.ConcN
section
variable {P:Program}{F:FuncId->Bool}{Stop:Goroutine->(Nat->Prop)->World->Prop}{S:Nat->Prop}
theorem oI{g:Goroutine}{v:World}(h:View P S v->Reach P Stop g S v):Reach P Stop g S v:=fun gs W sl t q hc=>h hc.rel.view gs W sl t q hc
theorem Ou(hG:Good P F){b:Frame}(hk:b.kind≠.early){ds:List Deferred}{fl:List Frame}{k:List Item}{Rd:Nat->Prop}{Dz:Nat}(hD:Rd Dz){Stop0:Goroutine->World->Prop}(hback:∀ tmps todo u,¬Stop0 (eO b (aZ Dz) [] tmps todo) u)(hup:∀ tmps todo chain u,¬Stop0 (aN b (aZ Dz) [] tmps todo chain) u)
  (hcont:∀ (st:WAt) (u:World),st.Ok P F->(∀ u',Ext u u'->Stop0 (st.g b (aZ Dz) []) u')->Reach P Stop (st.gk b ds fl k) S u) :
  ∀ (m:Nat) (cP:WAt) (v:World),cP.Ok P F->(∃ c t fr,v.heap[Dz]?=some (.cells c t fr))->¬S Dz->Goes P true Ext (DW Rd) Stop0 m (cP.g b (aZ Dz) []) v->Reach P Stop (cP.gk b ds fl k) S v:=by
 intro m;induction m with
 |zero=>intro cP v hok _ _ hgo;exact hcont cP v hok hgo
 |succ m ih=>
  intro cP v hok hB hSD hgo;rcases hgo with hstop|hgo'
  .exact hcont cP v hok hstop
  have hbusy:cP.Busy:=by
   cases cP using WAt.parts with
   |deep fr inner tmps todo=>trivial
   |top tmps todo=>
    rintro rfl;exact Fc hback (tmps:=tmps) hB hD hgo'.2
  refine gY (by cases cP using WAt.parts<;>rfl) fun W hR=>?_
  have hmove:∀ w₁,Ext v w₁->∃ g' w' es,stepG P true (cP.g b (aZ Dz) []) w₁ = .go g' w' es∧DW Rd w₁ w' es∧Goes P true Ext (DW Rd) Stop0 m g' w':=by
   intro w₁ hw;have:=hgo'.2 w₁ hw;cases hs:stepG P true (cP.g b (aZ Dz) []) w₁ with
   |go g' w' es=>rw[hs]at this;exact⟨g',w',es,rfl,this.1,this.2⟩
   |_=>rw[hs]at this;exact this.elim
  obtain⟨v',W',es,L,hstep,hR',heff,hend⟩:=xY hG hk hD hB hok hR hmove;have hB':∃ c t fr,v'.heap[Dz]?=some (.cells c t fr):=by
   obtain⟨c,t,fr,hc⟩:=hB;exact⟨c,t,fr,by rw[hR'.seen Dz hSD,heff.rd Dz hD hSD,<-hR.seen Dz hSD];exact hc⟩
  cases hend using gG.parts with
  |@on st' hok' hgo''=>exact⟨_,W',es,v',hstep k ds fl (.inl hbusy),fun e he=>(heff.ev e he).1,heff.grown,heff.hidden,hR',ih st' v' hok' hB' hSD hgo''⟩
  |@back tmps todo hst=>exact absurd (hst v' (.refl v')) (hback _ _ _)
  |@up tmps todo chain hst=>exact absurd (hst v' (.refl v')) (hup _ _ _ _)
end
section
variable {p:Ph}{Stop:Goroutine->(Nat->Prop)->World->Prop}{tag:CTag}{d0:Nat}{a:Goroutine}{n:Nat}{pl:Nat->Nat}{res:Nat->Obj}{R0:Nat->Prop}{v:World}
theorem iS(ok:p.Ok)(hrun:a.status=.running)(hnb:tag≠.blk)(hb:n - p.L+pend tag<2147483648){a':Goroutine}(h:∀ W,stepG p.P true a W=.go a' W #[])(hr:cE p Stop tag d0 a' n pl res R0 v):cE p Stop tag d0 a n pl res R0 v:=
 xB ok hrun hnb hb fun Γ gs W sl t st sm hA=>zM ok hA (h W) (.refl _ _) hA.wg (by simp) hA.mode rfl fun gs t h'=>hr Γ gs W sl t st sm h'
end
section
variable {P:Program}{main:Bool}{Rd:Nat->Prop}{fn:FuncId}{ops:Array Oper}{Q:Exit->Act->World->Prop}
theorem wQ{o:Oper}{g i:Nat}{a:Act}{w:World}{t t':TypeId}{x y:Operand}{old:Array Value}{z:Value}
  (hop:o.op=.store t x y) (hx:a.eval x=.pointer (some ⟨g,i,none⟩)) (hy:a.eval y=z) (hz:z.cells=#[z]) (h1:z.oneCell'=true) (hrow:w.heap[g]?=some (.cells old t')) (hi:i<old.size) (hs:(P.info? t).map (·.size)=some 1) :
  ((execOp a.eval o).run P w=.ok .skip (w.setRow g (old.setIfInBounds i z))∨(execOp a.eval o).run P w=.ok (.value undef) (w.setRow g (old.setIfInBounds i z)))∧
  ∀ ev∈listed P fn a o w,ev=⟨.cell ⟨g,i,none⟩,true,false⟩:=by
 have hc:w.cell? ⟨g,i,none⟩=some (old[i]):=by rw[cell_of_row w g i old t' (0,0) hrow];simp[hi]
 have hf:w.frozen? ⟨g,i,none⟩=false:=by simp[World.frozen?,hrow]
 obtain⟨inf,hq,hsz⟩:=Option.map_eq_some_iff.1 hs;have e:=setCell_eq_setRow w g i old t' (0,0) z hrow;have hadd:(⟨g,i,none⟩:Addr).add 0=⟨g,i,none⟩:=by unfold Addr.add;split<;>simp_all
 have hr:(store ⟨g,i,none⟩ z).run P w=.ok () (w.setRow g (old.setIfInBounds i z)):=by rw[run_store P w _ z _ h1,hc];simp[hf,e]
 have he:(store ⟨g,i,none⟩ z).events P w #[]=#[⟨.cell ⟨g,i,none⟩,true,false⟩]:=by rw[events_store P w #[] _ z _ h1,hc];simp[hf]
 constructor
 .unfold execOp;simp only[hop,hx,hy,Instr.storeAt,Instr.sureAddr];simp[storeVar,sizeOf,typeInfo,hq,hsz,hz,storeCells,hadd,hr]
 .intro ev hev;have hm:=mem_listed hev;unfold execOp at hm;simp only[hop,hx,hy,Instr.storeAt,Instr.sureAddr]at hm;simp[storeVar,sizeOf,typeInfo,hq,hsz,hz,storeCells,hadd,hr,he]at hm;exact hm
theorem tB{i:Nat}{rest:List Nat}{o:Oper}{n g j:Nat}{a:Act}{w:World}{t t':TypeId}{x y:Operand}{old:Array Value}{z:Value}
  (ho:ops[i]?=some o) (hw:Region.wanted o (yielded ops a.tmps)=true) (hop:o.op=.store t x y) (hx:a.eval x=.pointer (some ⟨g,j,none⟩)) (hy:a.eval y=z) (hz:z.cells=#[z]) (h1:z.oneCell'=true) (hrow:w.heap[g]?=some (.cells old t')) (hj:j<old.size) (hs:(P.info? t).map (·.size)=some 1) (hg:¬Rd g)
  (hnext:∀ w₁,Ext w w₁->OpsC P main Ext (DW Rd) fn ops rest n Q (a.put o.dst undef) (w₁.setRow g (old.setIfInBounds j z))):OpsC P main Ext (DW Rd) fn ops (i :: rest) (n+1) Q a w:=by
 refine opsC_cons_k ho hw fun w₁ hR K hK=>?_
 obtain⟨hrun,hev⟩:=wQ (P:=P) (fn:=fn) (w:=w₁) hop hx hy hz h1 (hR.row hrow) hj hs;have hD:DW Rd w₁ (w₁.setRow g (old.setIfInBounds j z)) (listed P fn a o w₁):=⟨⟨rfl,rfl⟩,fun b hb=>setRow_other _ _ _ _ (fun e=>hg (e▸hb)),fun e he=>by rw[hev e he];exact⟨_,rfl,rfl,fun _=>hg⟩⟩
 rcases hrun with hrun|hrun<;>rw[hrun]
 .exact hK _ _ ⟨hD,hnext _ hR⟩
 .exact hK _ _ ⟨hD,hnext _ hR⟩
def uN(P:Program)(t:TypeId):Bool:=
 match P.underlying t with
 |some (.slice e)=>
  match P.info? e with
  |some i=>i.size == 1&&i.bytes == 1&&(match i.zero with|some (.int k n)=>decide (k=.u8)&&decide (n=0)|_=>false)
  |_=>false
 |_=>false
theorem Bf{t:TypeId}(h:uN P t=true):∃ e inf,P.underlying t=some (.slice e)∧P.info? e=some inf∧inf.size=1∧inf.bytes=1∧inf.zero=some (.int .u8 0):=by
 unfold uN at h;split at h
 .split at h
  .simp only[Bool.and_eq_true,beq_iff_eq]at h;obtain⟨⟨h1,h2⟩,h3⟩:=h;split at h3
   .rename_i k n hz;simp only[Bool.and_eq_true,decide_eq_true_eq]at h3;obtain⟨rfl,rfl⟩:=h3;exact⟨_,_,by assumption,by assumption,h1,h2,hz⟩
   .cases h3
  .cases h
 .cases h
end
theorem Vb{P:Program}{R:World->World->Prop}{D:World->World->Array Event->Prop}(T:Terms R D){fn:FuncId}{a:Act}{o:Oper}{w:World}(h:(execOp a.eval o).events P w #[]=#[]):D w w (listed P fn a o w):=by
 rw[listed_nil h];exact T.idle _
theorem pR{P:Program}{main:Bool}{b:Frame}{a:Act}{k:List Item}{cs:List Frame}{w:World}{ops:Array Oper}{i:Nat}{rest:List Nat}{o:Oper}{f:FuncId}{fn:Func}{c:Code}{args:Array Operand}{ats:Array TypeId}{vs:Array Value}
  (ho:ops[i]?=some o) (hw:Region.wanted o (yielded ops a.tmps)=true) (hk:b.kind≠.early) (hop:o.op=.call {callee:=.value (.func f),args,argTypes:=ats})
  (hf:P.funcs[f]?=some fn) (hname:(fn.name == "runtime.NumGoroutine")=false) (hb:fn.body=some c) (hvs:args.map a.eval=vs) :
  stepG P main (G (b.at a (.inRegion ops (i :: rest) :: k)) cs) w=.go (G (Frame.enter P f vs .normal) (b.at a (.inRegion ops (i :: rest) :: k) :: cs)) w #[]:=by
 have hb':fn.body.isNone=false:=by rw[hb];rfl
 subst hvs;rw[stepG_enter ho hw hk (run_call_body hop hf hname hb')];have:listed P b.fn a o w=#[]:=by unfold listed;rw[events_call_body hop hf hname hb'];exact seen_none P _
 rw[this]
section
variable {p:Ph}{Stop:Goroutine->(Nat->Prop)->World->Prop}{tag:CTag}{d0:Nat}{n:Nat}{pl:Nat->Nat}{res:Nat->Obj}{R0:Nat->Prop}{v:World}{fn:FuncId}{cs:List Frame}{k:List Item}{tmps:Array Value}
theorem lG(ok:p.Ok)(hnb:tag≠.blk)(hb:n - p.L+pend tag<2147483648){c:Code}(hok:eG p.P p.F c=true){N:Nat}{Post:Array Value->World->Prop}(hPost:∀ t x y,Ext x y->Post t x->Post t y)
  (hw:c.wpC p.P true Ext (DW R0) fn N (fun e a w=>e=.normal∧a.defers=aZ p.Dz∧Post a.tmps w) ⟨tmps,aZ p.Dz⟩ v)
  (hn:∀ tmps' v',Post tmps' v'->cE p Stop tag d0 (G ((base fn).at ⟨tmps',[]⟩ k) cs) n pl res R0 v'):cE p Stop tag d0 (G ((base fn).at ⟨tmps,[]⟩ (.code c :: k)) cs) n pl res R0 v:=by
 refine Mv ok hnb hb (b:=base fn) (by simp[base]) (ds:=[]) (fl:=cs) (k:=k) (Stop0:=fun g w=>∃ t,g=G ((base fn).at ⟨t,aZ p.Dz⟩ []) []∧Post t w) ?_ ?_ ?_ (0+N) (.top tmps [.code c]) v ⟨fun x hx=>?_⟩ ?_
 .rintro tm todo u ⟨t,e,_⟩;simp[eO,G,Frame.at,base]at e
 .rintro tm todo chain u ⟨t,e,_⟩;simp[aN,G,Frame.at,Frame.raise,base]at e
 .intro st u hst hs;obtain⟨t,e,hp⟩:=hs u (.refl u);cases st using WAt.parts with
  |top tm todo=>
   simp only[WAt.g,WAt.top,WAt.deep,G,Frame.at,Goroutine.mk.injEq,Frame.mk.injEq,true_and,and_true]at e;obtain⟨rfl,rfl⟩:=e;exact hn _ _ hp
  |deep fr inner tm todo=>simp[WAt.g,WAt.deep,WAt.top,G]at e
 .simp only[WAt.top,List.mem_singleton]at hx;subst hx;exact hok
 .refine hw (base fn) [] [] _ 0 rfl (by simp[base]) fun e a w q=>?_
  obtain⟨rfl,hd,hp⟩:=q;intro w₁ hR;refine⟨a.tmps,?_,hPost _ _ _ hR hp⟩;rw[<-hd]
theorem iR(ok:p.Ok)(hnb:tag≠.blk)(hb:n - p.L+pend tag<2147483648){x y:Code}(h:cE p Stop tag d0 (G ((base fn).at ⟨tmps,[]⟩ (.code x :: .code y :: k)) cs) n pl res R0 v):cE p Stop tag d0 (G ((base fn).at ⟨tmps,[]⟩ (.code (.seq x y) :: k)) cs) n pl res R0 v:=
 iS ok rfl hnb hb (fun _=>stepG_seq) h
theorem Cg(ok:p.Ok)(hnb:tag≠.blk)(hb:n - p.L+pend tag<2147483648)(h:cE p Stop tag d0 (G ((base fn).at ⟨tmps,[]⟩ k) cs) n pl res R0 v):cE p Stop tag d0 (G ((base fn).at ⟨tmps,[]⟩ (.code .skip :: k)) cs) n pl res R0 v:=
 iS ok rfl hnb hb (fun _=>stepG_skip) h
theorem Bn(ok:p.Ok)(hnb:tag≠.blk)(hb:n - p.L+pend tag<2147483648){id:Nat}{c:Code}(h:cE p Stop tag d0 (G ((base fn).at ⟨tmps,[]⟩ (.code c :: .inBlock id :: k)) cs) n pl res R0 v):cE p Stop tag d0 (G ((base fn).at ⟨tmps,[]⟩ (.code (.block id c) :: k)) cs) n pl res R0 v:=
 iS ok rfl hnb hb (fun _=>stepG_block) h
theorem Jz(ok:p.Ok)(hnb:tag≠.blk)(hb:n - p.L+pend tag<2147483648){id:Nat}(h:cE p Stop tag d0 (G ((base fn).at ⟨tmps,[]⟩ k) cs) n pl res R0 v):cE p Stop tag d0 (G ((base fn).at ⟨tmps,[]⟩ (.inBlock id :: k)) cs) n pl res R0 v:=
 iS ok rfl hnb hb (fun _=>stepG_inBlock) h
theorem Mx(ok:p.Ok)(hnb:tag≠.blk)(hb:n - p.L+pend tag<2147483648){c:Code}(h:cE p Stop tag d0 (G ((base fn).at ⟨tmps,[]⟩ (.code c :: .inLoop c :: k)) cs) n pl res R0 v):cE p Stop tag d0 (G ((base fn).at ⟨tmps,[]⟩ (.code (.loop c) :: k)) cs) n pl res R0 v:=
 iS ok rfl hnb hb (fun _=>stepG_loop) h
theorem Kj(ok:p.Ok)(hnb:tag≠.blk)(hb:n - p.L+pend tag<2147483648){c:Code}(h:cE p Stop tag d0 (G ((base fn).at ⟨tmps,[]⟩ (.code c :: .inLoop c :: k)) cs) n pl res R0 v):cE p Stop tag d0 (G ((base fn).at ⟨tmps,[]⟩ (.inLoop c :: k)) cs) n pl res R0 v:=
 iS ok rfl hnb hb (fun _=>stepG_inLoop) h
theorem Ch(ok:p.Ok)(hnb:tag≠.blk)(hb:n - p.L+pend tag<2147483648){id:Nat}{k':List Item}(hk:exitTo id k=some k')(h:cE p Stop tag d0 (G ((base fn).at ⟨tmps,[]⟩ k') cs) n pl res R0 v):cE p Stop tag d0 (G ((base fn).at ⟨tmps,[]⟩ (.code (.exit id) :: k)) cs) n pl res R0 v:=
 iS ok rfl hnb hb (fun _=>stepG_exit hk) h
theorem xC(ok:p.Ok)(hnb:tag≠.blk)(hb:n - p.L+pend tag<2147483648){c:Operand}{x y:Code}{t:Bool}(hc:(⟨tmps,[]⟩:Act).eval c=.bool t)(h:cE p Stop tag d0 (G ((base fn).at ⟨tmps,[]⟩ (.code (if t then x else y) :: k)) cs) n pl res R0 v):cE p Stop tag d0 (G ((base fn).at ⟨tmps,[]⟩ (.code (.cond c x y) :: k)) cs) n pl res R0 v:=
 iS ok rfl hnb hb (fun _=>stepG_cond hc) h
theorem wN(ok:p.Ok)(hnb:tag≠.blk)(hb:n - p.L+pend tag<2147483648){id:Nat}{ops:Array Oper}(h:cE p Stop tag d0 (G ((base fn).at ⟨tmps,[]⟩ (.inRegion ops (List.range ops.size) :: k)) cs) n pl res R0 v):cE p Stop tag d0 (G ((base fn).at ⟨tmps,[]⟩ (.code (.region id ops false) :: k)) cs) n pl res R0 v:=
 iS ok rfl hnb hb (fun _=>stepG_region) h
theorem wH(ok:p.Ok)(hnb:tag≠.blk)(hb:n - p.L+pend tag<2147483648){ops:Array Oper}(h:cE p Stop tag d0 (G ((base fn).at ⟨tmps,[]⟩ k) cs) n pl res R0 v):cE p Stop tag d0 (G ((base fn).at ⟨tmps,[]⟩ (.inRegion ops [] :: k)) cs) n pl res R0 v:=
 iS ok rfl hnb hb (fun _=>stepG_region_end) h
end
section
variable {P:Program}{Stop:Goroutine->(Nat->Prop)->World->Prop}{S:Nat->Prop}{v:World}{fn:FuncId}{cs:List Frame}{k:List Item}{tmps:Array Value}
theorem qQ{x y:Code}(h:Reach P Stop (G ((base fn).at ⟨tmps,[]⟩ (.code x :: .code y :: k)) cs) S v):Reach P Stop (G ((base fn).at ⟨tmps,[]⟩ (.code (.seq x y) :: k)) cs) S v:=cV rfl (fun _=>stepG_seq) h
theorem Dd(h:Reach P Stop (G ((base fn).at ⟨tmps,[]⟩ k) cs) S v):Reach P Stop (G ((base fn).at ⟨tmps,[]⟩ (.code .skip :: k)) cs) S v:=cV rfl (fun _=>stepG_skip) h
theorem Mp{id:Nat}{c:Code}(h:Reach P Stop (G ((base fn).at ⟨tmps,[]⟩ (.code c :: .inBlock id :: k)) cs) S v):Reach P Stop (G ((base fn).at ⟨tmps,[]⟩ (.code (.block id c) :: k)) cs) S v:=cV rfl (fun _=>stepG_block) h
theorem Ki{id:Nat}(h:Reach P Stop (G ((base fn).at ⟨tmps,[]⟩ k) cs) S v):Reach P Stop (G ((base fn).at ⟨tmps,[]⟩ (.inBlock id :: k)) cs) S v:=cV rfl (fun _=>stepG_inBlock) h
theorem Ow{c:Code}(h:Reach P Stop (G ((base fn).at ⟨tmps,[]⟩ (.code c :: .inLoop c :: k)) cs) S v):Reach P Stop (G ((base fn).at ⟨tmps,[]⟩ (.code (.loop c) :: k)) cs) S v:=cV rfl (fun _=>stepG_loop) h
theorem Lc{c:Code}(h:Reach P Stop (G ((base fn).at ⟨tmps,[]⟩ (.code c :: .inLoop c :: k)) cs) S v):Reach P Stop (G ((base fn).at ⟨tmps,[]⟩ (.inLoop c :: k)) cs) S v:=cV rfl (fun _=>stepG_inLoop) h
theorem bD{id:Nat}{k':List Item}(hk:exitTo id k=some k')(h:Reach P Stop (G ((base fn).at ⟨tmps,[]⟩ k') cs) S v):Reach P Stop (G ((base fn).at ⟨tmps,[]⟩ (.code (.exit id) :: k)) cs) S v:=cV rfl (fun _=>stepG_exit hk) h
theorem Dh{c:Operand}{x y:Code}{t:Bool}(hc:(⟨tmps,[]⟩:Act).eval c=.bool t)(h:Reach P Stop (G ((base fn).at ⟨tmps,[]⟩ (.code (if t then x else y) :: k)) cs) S v):Reach P Stop (G ((base fn).at ⟨tmps,[]⟩ (.code (.cond c x y) :: k)) cs) S v:=cV rfl (fun _=>stepG_cond hc) h
theorem Bm{id:Nat}{ops:Array Oper}(h:Reach P Stop (G ((base fn).at ⟨tmps,[]⟩ (.inRegion ops (List.range ops.size) :: k)) cs) S v):Reach P Stop (G ((base fn).at ⟨tmps,[]⟩ (.code (.region id ops false) :: k)) cs) S v:=cV rfl (fun _=>stepG_region) h
def tO:Nat->List Oper->List Nat
 |_,[]=>[]
 |i,_ :: l=>i :: tO (i+1) l
theorem zY:∀ (l:List Oper) (i:Nat),tO i l=(List.range l.length).map (· + i)
 |[],i=>rfl
 |_ :: l,i=>by
  rw[tO,zY l (i+1),List.length_cons,List.range_succ_eq_map,List.map_cons,List.map_map];refine congr (congrArg List.cons (by omega)) (List.map_congr_left fun a _=>?_)
  show a+(i+1)=a+1+i;omega
theorem rR{id:Nat}{ops:List Oper}(h:Reach P Stop (G ((base fn).at ⟨tmps,[]⟩ (.inRegion ops.toArray (tO 0 ops) :: k)) cs) S v):Reach P Stop (G ((base fn).at ⟨tmps,[]⟩ (.code (.region id ops.toArray false) :: k)) cs) S v:=
 Bm (by rw[zY]at h;simpa using h)
theorem rA{x y:Code}(h:Reach P Stop (G ((base fn).at ⟨tmps,[]⟩ (.code x :: .code y :: k)) cs) S v):Reach P Stop (G ((base fn).at ⟨tmps,[]⟩ (.code (.seq x y) :: k)) cs) S v:=qQ h
theorem rB(h:Reach P Stop (G ((base fn).at ⟨tmps,[]⟩ k) cs) S v):Reach P Stop (G ((base fn).at ⟨tmps,[]⟩ (.code .skip :: k)) cs) S v:=Dd h
theorem rC{id:Nat}{c:Code}(h:Reach P Stop (G ((base fn).at ⟨tmps,[]⟩ (.code c :: .inBlock id :: k)) cs) S v):Reach P Stop (G ((base fn).at ⟨tmps,[]⟩ (.code (.block id c) :: k)) cs) S v:=Mp h
theorem rD{id:Nat}(h:Reach P Stop (G ((base fn).at ⟨tmps,[]⟩ k) cs) S v):Reach P Stop (G ((base fn).at ⟨tmps,[]⟩ (.inBlock id :: k)) cs) S v:=Ki h
theorem rE{ops:Array Oper}(h:Reach P Stop (G ((base fn).at ⟨tmps,[]⟩ k) cs) S v):Reach P Stop (G ((base fn).at ⟨tmps,[]⟩ (.inRegion ops [] :: k)) cs) S v:=cV rfl (fun _=>stepG_region_end) h
theorem Js{ops:Array Oper}(h:Reach P Stop (G ((base fn).at ⟨tmps,[]⟩ k) cs) S v):Reach P Stop (G ((base fn).at ⟨tmps,[]⟩ (.inRegion ops [] :: k)) cs) S v:=cV rfl (fun _=>stepG_region_end) h
theorem iT(h:Reach P Stop (G {(base fn).at ⟨tmps,[]⟩ []with mode:=.returning} cs) S v):Reach P Stop (G ((base fn).at ⟨tmps,[]⟩ []) cs) S v:=cV rfl (fun _=>stepG_end) h
theorem aP(h:∀ todo,Reach P Stop (G {(base fn).at ⟨tmps,[]⟩ todo with mode:=.returning} cs) S v):Reach P Stop (G ((base fn).at ⟨tmps,[]⟩ (.code .ret :: k)) cs) S v:=cV rfl (fun _=>stepG_ret') (h _)
theorem Lf{ops:Array Oper}{i:Nat}{rest:List Nat}{o:Oper}{f:FuncId}{g:Func}{c:Code}{args:Array Operand}{ats:Array TypeId}{vs:Array Value}
  (ho:ops[i]?=some o) (hw:Region.wanted o (yielded ops tmps)=true) (hop:o.op=.call {callee:=.value (.func f),args,argTypes:=ats})
  (hf:P.funcs[f]?=some g) (hname:(g.name == "runtime.NumGoroutine")=false) (hb:g.body=some c) (hvs:args.map (⟨tmps,[]⟩:Act).eval=vs)
  (h:Reach P Stop (G (Frame.enter P f vs .normal) ((base fn).at ⟨tmps,[]⟩ (.inRegion ops (i :: rest) :: k) :: cs)) S v):Reach P Stop (G ((base fn).at ⟨tmps,[]⟩ (.inRegion ops (i :: rest) :: k)) cs) S v:=
 cV rfl (fun w=>pR ho hw (by simp[base]) hop hf hname hb hvs) h
theorem xJ{F:FuncId->Bool}(hG:Good P F){c:Code}(hok:eG P F c=true){Rd:Nat->Prop}{Dz:Nat}(hD:Rd Dz)(hB:∃ c t fr,v.heap[Dz]?=some (.cells c t fr))(hS:¬S Dz){N:Nat}{Post:Array Value->World->Prop}(hPost:∀ t x y,Ext x y->Post t x->Post t y)
  (hw:c.wpC P true Ext (DW Rd) fn N (fun e a w=>e=.normal∧a.defers=aZ Dz∧Post a.tmps w) ⟨tmps,aZ Dz⟩ v)
  (hn:∀ tmps' v',Post tmps' v'->Reach P Stop (G ((base fn).at ⟨tmps',[]⟩ k) cs) S v'):Reach P Stop (G ((base fn).at ⟨tmps,[]⟩ (.code c :: k)) cs) S v:=by
 refine Ou hG (b:=base fn) (by simp[base]) (ds:=[]) (fl:=cs) (k:=k) hD (Stop0:=fun g w=>∃ t,g=G ((base fn).at ⟨t,aZ Dz⟩ []) []∧Post t w) ?_ ?_ ?_ (0+N) (.top tmps [.code c]) v ⟨fun x hx=>?_⟩ hB hS ?_
 .rintro tm todo u ⟨t,e,_⟩;simp[eO,G,Frame.at,base]at e
 .rintro tm todo chain u ⟨t,e,_⟩;simp[aN,G,Frame.at,Frame.raise,base]at e
 .intro st u hst hs;obtain⟨t,e,hp⟩:=hs u (.refl u);cases st using WAt.parts with
  |top tm todo=>
   simp only[WAt.g,WAt.top,WAt.deep,G,Frame.at,Goroutine.mk.injEq,Frame.mk.injEq,true_and,and_true]at e;obtain⟨rfl,rfl⟩:=e;exact hn _ _ hp
  |deep fr inner tm todo=>simp[WAt.g,WAt.deep,WAt.top,G]at e
 .simp only[WAt.top,List.mem_singleton]at hx;subst hx;exact hok
 .refine hw (base fn) [] [] _ 0 rfl (by simp[base]) fun e a w q=>?_
  obtain⟨rfl,hd,hp⟩:=q;intro w₁ hR;refine⟨a.tmps,?_,hPost _ _ _ hR hp⟩;rw[<-hd]
end
open Go.Conc
theorem gP(a:Int)(h1:-9223372036854775808<=a)(h2:a<=9223372036854775807):IntKind.i64.wrap a=a:=by rw[IntKind.wrap_i64];omega
theorem zbC(a:Int)(h1:0<=a)(h2:a<=255):IntKind.u8.wrap a=a:=by rw[IntKind.wrap_u8];omega
theorem wI(a:Int)(h1:-9223372036854775808<=a:=by omega)(h2:a<=9223372036854775807:=by omega):IntKind.i64.wrap a=a:=gP a h1 h2
theorem wU(a:Int)(h1:0<=a:=by omega)(h2:a<=255:=by omega):IntKind.u8.wrap a=a:=zbC a h1 h2
def st(f:Nat->Value)(d:Nat)(x:Value)(i:Nat):Value:=if i=d then x else f i
@[simp] theorem st_apply (f:Nat->Value) (d:Nat) (x:Value) (i:Nat):st f d x i=if i=d then x else f i:=rfl
def aG(f:Nat->Value)(d:Option Nat)(x:Value):Nat->Value:=
 match d with
 |some d=>st f d x
 |none=>f
@[simp] theorem stO_some (f:Nat->Value) (d:Nat) (x:Value):aG f (some d) x=st f d x:=rfl
@[simp] theorem stO_none (f:Nat->Value) (x:Value):aG f none x=f:=rfl
theorem sS(f:Nat->Value)(d:Nat)(x:Value):aG f (some d) x=st f d x:=rfl
theorem sN(f:Nat->Value)(x:Value):aG f none x=f:=rfl
def TA(n:Nat)(f:Nat->Value):Array Value:=(Array.range n).map f
theorem bE{n i:Nat}{f:Nat->Value}(h:i<n):(TA n f)[i]?=some (f i):=by simp[TA,h]
@[simp] theorem TA_getD {n i:Nat} {f:Nat->Value} (h:i<n):(TA n f)[i]?.getD undef=f i:=by simp[TA,h]
theorem Zd(n:Nat)(f:Nat->Value):(TA n f).size=n:=by simp[TA]
theorem zaV{n d:Nat}{f:Nat->Value}{x:Value} : (TA n f).setIfInBounds d x=TA n (st f d x):=by
 apply Array.ext_getElem?;intro c;rw[Array.getElem?_setIfInBounds];by_cases e:d=c
 .subst e;by_cases hi:d<n<;>simp[TA,hi,st]
 .rw[if_neg e];by_cases hi:c<n<;>simp[TA,hi,st,show ¬c=d from fun x=>e x.symm]
theorem bX{n:Nat}{f:Nat->Value}{d:Option Nat}{x:Value}{ds:List Deferred} : Act.put ⟨TA n f,ds⟩ d x=⟨TA n (aG f d x),ds⟩:=by
 cases d with
 |none=>rfl
 |some d=>simp only[Act.put,aG,zaV]
def dD(args:Array Value)(i:Nat):Value:=args[i]?.getD undef
theorem rF{n:Nat}{args:Array Value}(h:args.size<=n):args++Array.replicate (n - args.size) undef=TA n (dD args):=by
 apply Array.ext_getElem?;intro c;by_cases hc:c<n
 .rw[bE hc];by_cases ha:c<args.size
  .rw[Array.getElem?_append_left ha];simp[dD,ha]
  .rw[Array.getElem?_append_right (by omega),Array.getElem?_replicate,if_pos (by omega)];simp[dD,ha]
 .rw[Array.getElem?_eq_none (by simp;omega),Array.getElem?_eq_none (by rw[Zd];omega)]
def Ak(o:Oper)(f:Nat->Value)(K:(Nat->Value)->World->Prop):Result Go.Next->Prop
 |.ok (.value x) w'=>K (aG f o.dst x) w'
 |.ok .skip w'=>K (aG f o.dst undef) w'
 |_=>False
@[simp] theorem uponF_value (o:Oper) (f:Nat->Value) (K:(Nat->Value)->World->Prop) (x:Value) (w:World):Ak o f K (.ok (.value x) w)=K (aG f o.dst x) w:=rfl
@[simp] theorem uponF_skip (o:Oper) (f:Nat->Value) (K:(Nat->Value)->World->Prop) (w:World):Ak o f K (.ok .skip w)=K (aG f o.dst undef) w:=rfl
@[simp] theorem eval_TA {n i:Nat} {f:Nat->Value} {ds:List Deferred} (h:i<n):Act.eval ⟨TA n f,ds⟩ (.tmp i)=f i:=by simp[Act.eval,h]
@[simp] theorem eval_const (a:Act) (x:Value):a.eval (.const x)=x:=rfl
section
variable {P:Program}{F:FuncId->Bool}{Stop:Goroutine->(Nat->Prop)->World->Prop}{S:Nat->Prop}{v:World}{fn:FuncId}{cs:List Frame}{k:List Item}{n:Nat}{f:Nat->Value}{ops:Array Oper}{i:Nat}{rest:List Nat}{o:Oper}{dst:Option Tmp}{op:Op}{ty:TypeId}{pos:String}{aft:Array Edge}{grd:Option (Nat×Bool)}
theorem uP(hG:Good P F)(ho:ops[i]?=some o)(hw:Region.wanted o (yielded ops (TA n f))=true)(hok:bW P F o=true)
  (h:∀ u,Twin v u->∀ K:(Nat->Value)->World->Prop,(∀ f' w',Reach P Stop (G ((base fn).at ⟨TA n f',[]⟩ (.inRegion ops rest :: k)) cs) S w'->K f' w')->Ak o f K ((execOp (Act.eval ⟨TA n f,[]⟩) o).run P u)) :
  Reach P Stop (G ((base fn).at ⟨TA n f,[]⟩ (.inRegion ops (i :: rest) :: k)) cs) S v:=by
 refine gY rfl fun W hR=>?_
 let u:World:={v with tape:=W.tape,drawn:=W.drawn};have hu:Twin v u:=⟨rfl,rfl,rfl⟩;have h1:=h u hu _ fun _ _ x=>x
 have hρ : ∀ g,(⟨TA n f,[]⟩:Act).eval (.func g)=.func (.func g) #[] #[]:=fun g=>rfl
 have hsim:=aA.execOp (S:=S) hG.cc hG.closed hρ hok;have e1:=Sem.runT_fst P (execOp (Act.eval ⟨TA n f,[]⟩) o) u #[];have e2:=Sem.runT_fst P (execOp (Act.eval ⟨TA n f,[]⟩) o) W #[];cases hrv:(execOp (Act.eval ⟨TA n f,[]⟩) o).runT P u #[]with
 |mk r es0=>
 rw[hrv]at e1;simp only at e1;rw[<-e1]at h1;have main:∀ (nx:Go.Next) (w':World),r=.ok nx w'->∃ W' es,(execOp (Act.eval ⟨TA n f,[]⟩) o).run P W=.ok nx W'∧listed P fn ⟨TA n f,[]⟩ o W=es∧(∀ e∈es,gU S W'.heap.size e)∧W.heap.size<=W'.heap.size∧(∀ b,S b->W'.heap[b]?=W.heap[b]?)∧Rel P S 0 w' W':=by
  intro nx w' hr;subst hr;have hRu:Rel P S w'.drawn u W:=⟨fun j q _=>rfl,hR.os,hR.output,hR.size,hR.seen,hR.hid,hR.tame,hR.high⟩
  have hA:=hsim w'.drawn u W #[] hRu;rw[hrv]at hA;obtain⟨W',e,g⟩:=hA (Nat.le_refl _);have hK:=oP (P:=P) (execOp (Act.eval ⟨TA n f,[]⟩) o) W #[];rw[e]at hK e2;refine⟨W',_,e2.symm,rfl,fun x hx=>?_,hK.size,g.hidden,g.rel.zero⟩
  have hm:=mem_listed hx;have e3:(execOp (Act.eval ⟨TA n f,[]⟩) o).events P W #[]=es0:=by
   unfold Sem.events;rw[e]
  rw[e3]at hm;obtain⟨l,el,hl⟩:=g.grow;have hm':x∈es0.toList:=by simpa using hm
  rw[el]at hm';simp at hm';have:=hl x hm';rwa [g.rel.size]at this
 cases r with
 |halt y w'=>exact h1.elim
 |ok nx w'=>
  obtain⟨W',es,hrun,hl,hev,hsz,hhid,hrel⟩:=main nx w' rfl;cases nx with
  |value x=>
   refine⟨_,W',es,w',?_,hev,hsz,hhid,hrel,h1⟩;rw[stepG_value ho hw (by simp[base]) hrun,bX,<-hl];rfl
  |skip=>
   refine⟨_,W',es,w',?_,hev,hsz,hhid,hrel,h1⟩;rw[stepG_none ho hw (by simp[base]) hrun,bX,<-hl];rfl
  |_=>exact h1.elim
theorem cH(hG:Good P F)(ho:ops[i]?=some ⟨dst,op,ty,pos,aft,grd⟩)(hw:Region.wanted ⟨dst,op,ty,pos,aft,grd⟩ (yielded ops (TA n f))=true)(hok:bW P F ⟨dst,op,ty,pos,aft,grd⟩=true){x:Value}
  (h:∀ u,Twin v u->(execOp (Act.eval ⟨TA n f,[]⟩) ⟨dst,op,ty,pos,aft,grd⟩).run P u=.ok (.value x) u)
  (hn:Reach P Stop (G ((base fn).at ⟨TA n (aG f dst x),[]⟩ (.inRegion ops rest :: k)) cs) S v) :
  Reach P Stop (G ((base fn).at ⟨TA n f,[]⟩ (.inRegion ops (i :: rest) :: k)) cs) S v:=by
 refine uP hG ho hw hok fun u hu K hK=>?_
 rw[h u hu];exact hK _ _ (Reach.twin ⟨hu.heap.symm,hu.os.symm,hu.output.symm⟩ hn)
def vO(K:Value->World->Prop):Result Go.Next->Prop
 |.ok (.value x) w'=>K x w'
 |_=>False
@[simp] theorem uponV_value (K:Value->World->Prop) (x:Value) (w:World):vO K (.ok (.value x) w)=K x w:=rfl
theorem Kw(hG:Good P F)(ho:ops[i]?=some ⟨dst,op,ty,pos,aft,grd⟩)(hw:Region.wanted ⟨dst,op,ty,pos,aft,grd⟩ (yielded ops (TA n f))=true)(hok:bW P F ⟨dst,op,ty,pos,aft,grd⟩=true)
  (h:∀ u,Twin v u->∀ K:Value->World->Prop,(∀ x,Reach P Stop (G ((base fn).at ⟨TA n (aG f dst x),[]⟩ (.inRegion ops rest :: k)) cs) S v->K x u)->vO K ((execOp (Act.eval ⟨TA n f,[]⟩) ⟨dst,op,ty,pos,aft,grd⟩).run P u)) :
  Reach P Stop (G ((base fn).at ⟨TA n f,[]⟩ (.inRegion ops (i :: rest) :: k)) cs) S v:=by
 refine uP hG ho hw hok fun u hu K hK=>?_
 have h1:=h u hu (fun x w=>K (aG f dst x) w) fun x hx=>hK _ _ (Reach.twin ⟨hu.heap.symm,hu.os.symm,hu.output.symm⟩ hx)
 cases hr:(execOp (Act.eval ⟨TA n f,[]⟩) ⟨dst,op,ty,pos,aft,grd⟩).run P u with
 |halt y w'=>rw[hr]at h1;exact h1.elim
 |ok nx w'=>
  rw[hr]at h1;cases nx with
  |value x=>exact h1
  |_=>exact h1.elim
theorem rO(hG:Good P F)(ho:ops[i]?=some ⟨dst,op,ty,pos,aft,grd⟩)
  (h:∀ u,Twin v u->∀ K:Value->World->Prop,(∀ x,Reach P Stop (G ((base fn).at ⟨TA n (aG f dst x),[]⟩ (.inRegion ops rest :: k)) cs) S v->K x u)->vO K ((execOp (Act.eval ⟨TA n f,[]⟩) ⟨dst,op,ty,pos,aft,grd⟩).run P u))
  (hw:Region.wanted ⟨dst,op,ty,pos,aft,grd⟩ (yielded ops (TA n f))=true:=by first|rfl|(simp[Region.wanted,yielded,bE, *];first|done|fail)) (hok:bW P F ⟨dst,op,ty,pos,aft,grd⟩=true:=by kernel_rfl) :
  Reach P Stop (G ((base fn).at ⟨TA n f,[]⟩ (.inRegion ops (i :: rest) :: k)) cs) S v:=Kw hG ho hw hok h
theorem tR(ho:ops[i]?=some ⟨dst,op,ty,pos,aft,grd⟩)(hw:Region.wanted ⟨dst,op,ty,pos,aft,grd⟩ (yielded ops (TA n f))=false)
  (hn:Reach P Stop (G ((base fn).at ⟨TA n (aG f dst undef),[]⟩ (.inRegion ops rest :: k)) cs) S v) :
  Reach P Stop (G ((base fn).at ⟨TA n f,[]⟩ (.inRegion ops (i :: rest) :: k)) cs) S v:=
 cV rfl (fun w=>by rw[stepG_unwanted ho hw,bX]) hn
theorem kO(hG:Good P F)(ho:ops[i]?=some ⟨dst,op,ty,pos,aft,grd⟩)(hw:Region.wanted ⟨dst,op,ty,pos,aft,grd⟩ (yielded ops (TA n f))=true)(hok:bW P F ⟨dst,op,ty,pos,aft,grd⟩=true){x:Value}{v':World}
  (h:∀ u,Twin v u->∃ w',Twin v' w'∧((execOp (Act.eval ⟨TA n f,[]⟩) ⟨dst,op,ty,pos,aft,grd⟩).run P u=.ok (.value x) w'∨((execOp (Act.eval ⟨TA n f,[]⟩) ⟨dst,op,ty,pos,aft,grd⟩).run P u=.ok .skip w'∧x=undef)))
  (hn:Reach P Stop (G ((base fn).at ⟨TA n (aG f dst x),[]⟩ (.inRegion ops rest :: k)) cs) S v') :
  Reach P Stop (G ((base fn).at ⟨TA n f,[]⟩ (.inRegion ops (i :: rest) :: k)) cs) S v:=by
 refine uP hG ho hw hok fun u hu K hK=>?_
 obtain⟨w',ht,h'|⟨h',hx⟩⟩:=h u hu
 .rw[h'];exact hK _ _ (Reach.twin ⟨ht.heap.symm,ht.os.symm,ht.output.symm⟩ hn)
 .rw[h'];subst hx;exact hK _ _ (Reach.twin ⟨ht.heap.symm,ht.os.symm,ht.output.symm⟩ hn)
def aK(P:Program)(g:FuncId)(args:Array Value)(S:Nat->Prop)(v:World)(Post:Value->(Nat->Prop)->World->Prop):Prop:=
 ∀ (Stop:Goroutine->(Nat->Prop)->World->Prop) (c:Frame) (cs:List Frame),(∀ x S' v',View P S' v'->Post x S' v'->Reach P Stop (G (c.finish x) cs) S' v')->Reach P Stop (G (Frame.enter P g args .normal) (c :: cs)) S v
theorem aK.mono{g:FuncId}{args:Array Value}{Post Post':Value->(Nat->Prop)->World->Prop}(h:aK P g args S v Post)(hp:∀ x S' v',View P S' v'->Post x S' v'->Post' x S' v'):aK P g args S v Post':=
 fun Stop c cs hr=>h Stop c cs fun x S' v' hv q=>hr x S' v' hv (hp x S' v' hv q)
theorem pY{g:FuncId}{gf:Func}{c:Code}{args:Array Operand}{ats:Array TypeId}{vs:Array Value}{Post:Value->(Nat->Prop)->World->Prop}
  (ho:ops[i]?=some ⟨dst,op,ty,pos,aft,grd⟩) (hw:Region.wanted ⟨dst,op,ty,pos,aft,grd⟩ (yielded ops (TA n f))=true) (hop:op=.call {callee:=.value (.func g),args,argTypes:=ats})
  (hf:P.funcs[g]?=some gf) (hname:(gf.name == "runtime.NumGoroutine")=false) (hb:gf.body=some c) (hvs:args.map (⟨TA n f,[]⟩:Act).eval=vs) (hc:aK P g vs S v Post)
  (hn:∀ x S' v',View P S' v'->Post x S' v'->Reach P Stop (G ((base fn).at ⟨TA n (aG f dst x),[]⟩ (.inRegion ops rest :: k)) cs) S' v') :
  Reach P Stop (G ((base fn).at ⟨TA n f,[]⟩ (.inRegion ops (i :: rest) :: k)) cs) S v:=by
 refine Lf ho hw hop hf hname hb hvs (hc Stop _ cs fun x S' v' hv q=>?_)
 rw[Frame.finish_at,ho];show Reach P Stop (G ((base fn).at (Act.put ⟨TA n f,[]⟩ dst x) (.inRegion ops rest :: k)) cs) S' v';rw[bX];exact hn x S' v' hv q
theorem xK{gf:Func}(hf:P.funcs[fn]?=some gf){tmps:Array Value}{todo:List Item}{c:Frame}{x:Value}(hres:(results gf tmps).run P v=.ok x v)(hr:Reach P Stop (G (c.finish x) cs) S v) :
  Reach P Stop (G {(base fn).at ⟨tmps,[]⟩ todo with mode:=.returning} (c :: cs)) S v:=by
 refine gY rfl fun W hR=>?_
 have hR':Rel P S v.drawn v W:=⟨fun j q hj=>by omega,hR.os,hR.output,hR.size,hR.seen,hR.hid,hR.tame,hR.high⟩
 have hA:=aA.results (P:=P) (S:=S) gf tmps v.drawn v W #[] hR';have e1:=Sem.runT_fst P (results gf tmps) v #[];rw[hres]at e1;cases hrv:(results gf tmps).runT P v #[]with
 |mk r es0=>
 rw[hrv]at hA e1;simp only at e1;subst e1;obtain⟨W',e,g⟩:=hA (Nat.le_refl _);refine⟨G (c.finish x) cs,W',Go.seen P fn es0,v,?_,?_,?_,g.hidden,g.rel.zero,hr⟩
 .simp only[G,stepG,unwind,Frame.at,base,hf,e,doReturn,GStep.after];simp
 .obtain⟨l,el,hl⟩:=g.grow;intro y hy;have:=mem_seen hy;have hm:y∈es0.toList:=by simpa using this
  rw[el]at hm;simp at hm;rw[<-g.rel.size];exact hl y hm
 .rw[<-g.rel.size,hR.size];exact Nat.le_refl _
theorem oG{g:FuncId}{gf:Func}{c:Code}{args:Array Value}{Post:Value->(Nat->Prop)->World->Prop}(hf:P.funcs[g]?=some gf)(hb:gf.body=some c)(hn:gf.ntmps=n)(hs:args.size<=n)
  (h:∀ (Stop:Goroutine->(Nat->Prop)->World->Prop) (cc:Frame) (cs:List Frame),
   (∀ (f':Nat->Value) (todo:List Item) (S':Nat->Prop) (v':World) (x:Value),(results gf (TA n f')).run P v'=.ok x v'->Post x S' v'->Reach P Stop (G {(base g).at ⟨TA n f',[]⟩ todo with mode:=.returning} (cc :: cs)) S' v')->
   Reach P Stop (G ((base g).at ⟨TA n (dD args),[]⟩ [.code c]) (cc :: cs)) S v):aK P g args S v Post:=by
 intro Stop cc cs hr;rw[enter_at _ hf hb,hn,rF hs];exact h Stop cc cs fun f' todo S' v' x hres q=>oI fun hv=>xK hf hres (hr x S' v' hv q)
theorem bT{c:Code}(I:Nat->(Nat->Value)->(Nat->Prop)->World->Prop)(d:Nat)(h0:I d f S v)
  (round:∀ d f S v,I d f S v->(∀ f' S' v' d',d'<d->I d' f' S' v'->Reach P Stop (G ((base fn).at ⟨TA n f',[]⟩ (.inLoop c :: k)) cs) S' v')->Reach P Stop (G ((base fn).at ⟨TA n f,[]⟩ (.code c :: .inLoop c :: k)) cs) S v) :
  Reach P Stop (G ((base fn).at ⟨TA n f,[]⟩ (.code (.loop c) :: k)) cs) S v:=by
 refine Ow ?_;have key:∀ d f S v,I d f S v->Reach P Stop (G ((base fn).at ⟨TA n f,[]⟩ (.code c :: .inLoop c :: k)) cs) S v:=by
  intro d;induction d using Nat.strongRecOn with
  |ind d ih=>
   intro f S v hI;exact round d f S v hI fun f' S' v' d' hd hI'=>Lc (ih d' hd f' S' v' hI')
 exact key d f S v h0
structure Wr(v:World)(g:Nat)(o:Obj)(v':World):Prop where
 at_:v'.heap[g]?=some o
 other:∀ b,b≠g->v'.heap[b]?=v.heap[b]?
 size:v'.heap.size=v.heap.size
 os:v'.os=v.os
 output:v'.output=v.output
theorem jZ{g:Nat}{old c:Array Value}{t:TypeId}(h:v.heap[g]?=some (.cells old t)):Wr v g (.cells c t) (v.setRow g c):=
 ⟨setRow_heap _ _ _ _ _ _ h,fun b hb=>setRow_other _ _ _ _ hb,by simp[World.setRow],rfl,rfl⟩
theorem mK{u:World}(h:Twin v u)(g:Nat)(c:Array Value):Twin (v.setRow g c) (u.setRow g c):=⟨by simp only[World.setRow,h.heap],h.os,h.output⟩
theorem xF{u:World}(h:Twin v u)(ob:Obj):Twin (v.alloc ob) (u.alloc ob):=⟨by simp only[World.alloc,h.heap],h.os,h.output⟩
theorem cI(v:World)(ob:Obj):(v.alloc ob).heap[v.heap.size]?=some ob:=by
 show(v.heap.push ob)[v.heap.size]?=_;simp
theorem jY(v:World)(ob:Obj):(v.alloc ob).heap.size=v.heap.size+1:=by
 show(v.heap.push ob).size=_;simp
theorem eT(hG:Good P F)(ho:ops[i]?=some ⟨dst,op,ty,pos,aft,grd⟩)(hw:Region.wanted ⟨dst,op,ty,pos,aft,grd⟩ (yielded ops (TA n f))=true)(hok:bW P F ⟨dst,op,ty,pos,aft,grd⟩=true){t t':TypeId}{x y:Operand}{g j:Nat}{old:Array Value}{z:Value}
  (hop:op=.store t x y) (hx:(⟨TA n f,[]⟩:Act).eval x=.pointer (some ⟨g,j,none⟩)) (hy:(⟨TA n f,[]⟩:Act).eval y=z) (hz:z.cells=#[z]) (h1:z.oneCell'=true) (hrow:v.heap[g]?=some (.cells old t')) (hj:j<old.size) (hs:(P.info? t).map (·.size)=some 1)
  (hn:∀ v',Wr v g (.cells (old.setIfInBounds j z) t') v'->Reach P Stop (G ((base fn).at ⟨TA n (aG f dst undef),[]⟩ (.inRegion ops rest :: k)) cs) S v') :
  Reach P Stop (G ((base fn).at ⟨TA n f,[]⟩ (.inRegion ops (i :: rest) :: k)) cs) S v:=by
 refine kO hG ho hw hok (x:=undef) (fun u hu=>⟨_,mK hu g (old.setIfInBounds j z),?_⟩) (hn _ (jZ hrow));obtain⟨hrun,_⟩:=wQ (P:=P) (fn:=fn) (w:=u) (o:=⟨dst,op,ty,pos,aft,grd⟩) hop hx hy hz h1 ((Ext.twin hu).row hrow) hj hs;rcases hrun with h|h
 .exact .inr ⟨h,rfl⟩
 .exact .inl h
theorem cQ(hG:Good P F)(ho:ops[i]?=some ⟨dst,op,ty,pos,aft,grd⟩)(hw:Region.wanted ⟨dst,op,ty,pos,aft,grd⟩ (yielded ops (TA n f))=true)(hok:bW P F ⟨dst,op,ty,pos,aft,grd⟩=true){t:TypeId}(z:Value)(hop:op=.alloc t)(hz:(P.info? t).map (·.zero)=some (some z))
  (hn:∀ v',Ext v v'->v'.heap[v.heap.size]?=some (.cells z.cells t)->v'.heap.size=v.heap.size+1->Reach P Stop (G ((base fn).at ⟨TA n (aG f dst (.pointer (some ⟨v.heap.size,0,none⟩))),[]⟩ (.inRegion ops rest :: k)) cs) S v') :
  Reach P Stop (G ((base fn).at ⟨TA n f,[]⟩ (.inRegion ops (i :: rest) :: k)) cs) S v:=by
 refine kO hG ho hw hok (x:=.pointer (some ⟨v.heap.size,0,none⟩)) (fun u hu=>⟨_,xF hu (.cells z.cells t),.inl ?_⟩) (hn _ (Ext.alloc _ _) (cI _ _) (jY _ _));obtain⟨inf,hq,hzz⟩:=Option.map_eq_some_iff.1 hz;have hzero:(zeroValue t).run P u=.ok z u:=by simp[zeroValue,typeInfo,hq,hzz]
 unfold execOp;simp only[hop,Sem.run_bind,Instr.alloc,hzero,newVar,newRow,run_newObj,Sem.run_pure,Result.andThen_ok,<-hu.heap];rfl
theorem iF(hG:Good P F)(ho:ops[i]?=some ⟨dst,op,ty,pos,aft,grd⟩)(hw:Region.wanted ⟨dst,op,ty,pos,aft,grd⟩ (yielded ops (TA n f))=true)(hok:bW P F ⟨dst,op,ty,pos,aft,grd⟩=true){t:TypeId}{x:Operand}{b:Nat}{c:Array Value}{fr:Nat×Nat}(hop:op=.load t x)(hx:(⟨TA n f,[]⟩:Act).eval x=.pointer (some ⟨b,0,none⟩))
  (hrow:v.heap[b]?=some (.cells c t fr)) (hu:(P.underlying t).map fY=some true) (hi:(P.info? t).map (·.size)=some c.size)
  (hn:Reach P Stop (G ((base fn).at ⟨TA n (aG f dst (.agg c)),[]⟩ (.inRegion ops rest :: k)) cs) S v) :
  Reach P Stop (G ((base fn).at ⟨TA n f,[]⟩ (.inRegion ops (i :: rest) :: k)) cs) S v:=by
 refine cH hG ho hw hok (x:=.agg c) (fun u ht=>?_) hn;obtain⟨d,hu,hd⟩:=Option.map_eq_some_iff.1 hu;have hload:(loadVar t ⟨b,0,none⟩).run P u=.ok (.agg c) u:=run_loadVar_row u b t t c fr _ ((Ext.twin ht).row hrow) hu (by cases d<;>simp_all[fY]) hi
 unfold execOp;simp only[hop,hx,Sem.run_bind,Instr.loadAt,Instr.sureAddr,Sem.run_pure,Result.andThen_ok];rw[hload];rfl
theorem Mi(hG:Good P F)(ho:ops[i]?=some ⟨dst,op,ty,pos,aft,grd⟩)(hw:Region.wanted ⟨dst,op,ty,pos,aft,grd⟩ (yielded ops (TA n f))=true)(hok:bW P F ⟨dst,op,ty,pos,aft,grd⟩=true){t:TypeId}{x ix:Operand}{m L:Nat}{c:Array Value}{y:Value}
  (hop:op=.index t x ix) (hx:(⟨TA n f,[]⟩:Act).eval x=.agg c) (hix:(⟨TA n f,[]⟩:Act).eval ix=.int .i64 (m:Nat)) (hu:jD P t=some L) (hm:m<L) (hc:c[m]?=some y)
  (hn:Reach P Stop (G ((base fn).at ⟨TA n (aG f dst y),[]⟩ (.inRegion ops rest :: k)) cs) S v) :
  Reach P Stop (G ((base fn).at ⟨TA n f,[]⟩ (.inRegion ops (i :: rest) :: k)) cs) S v:=by
 refine cH hG ho hw hok (x:=y) (fun u ht=>?_) hn;obtain⟨e,inf,d,hu,hq,hs,hu2,hd⟩:=wK hu;have hagg:∀ w,(isAgg e).run P w=.ok false w:=by
  intro w;unfold isAgg;rw[Sem.run_bind,run_underlying hu2 w];cases d<;>simp_all[fY]
 generalize (Act.eval ⟨TA n f,[]⟩)=ρ at hx hix ⊢;unfold execOp;simp[hop,hx,hix,Instr.index,asIntOf,run_underlying hu,hm,part,hagg,sizeOf,typeInfo,hq,hs,hc]
theorem dF(hG:Good P F)(ho:ops[i]?=some ⟨dst,op,ty,pos,aft,grd⟩)(hw:Region.wanted ⟨dst,op,ty,pos,aft,grd⟩ (yielded ops (TA n f))=true)(hok:bW P F ⟨dst,op,ty,pos,aft,grd⟩=true){t t':TypeId}{x y:Operand}{g:Nat}{old c:Array Value}
  (hop:op=.store t x y) (hx:(⟨TA n f,[]⟩:Act).eval x=.pointer (some ⟨g,0,none⟩)) (hy:(⟨TA n f,[]⟩:Act).eval y=.agg c) (hrow:v.heap[g]?=some (.cells old t')) (hi:(P.info? t).map (·.size)=some c.size) (hs:old.size=c.size) (h1:c.all (·.oneCell')=true)
  (hn:∀ v',Wr v g (.cells c t') v'->Reach P Stop (G ((base fn).at ⟨TA n (aG f dst undef),[]⟩ (.inRegion ops rest :: k)) cs) S v') :
  Reach P Stop (G ((base fn).at ⟨TA n f,[]⟩ (.inRegion ops (i :: rest) :: k)) cs) S v:=by
 refine kO hG ho hw hok (x:=undef) (fun u hu=>⟨_,mK hu g c,.inr ⟨?_,rfl⟩⟩) (hn _ (jZ hrow));have hst:=run_storeVar_row (P:=P) u g t' t old c ((Ext.twin hu).row hrow) hi hs h1;generalize (Act.eval ⟨TA n f,[]⟩)=ρ at hx hy ⊢;unfold execOp;simp[hop,hx,hy,Instr.storeAt,Instr.sureAddr,hst]
theorem mI(hG:Good P F)(ho:ops[i]?=some ⟨dst,op,ty,pos,aft,grd⟩)(hw:Region.wanted ⟨dst,op,ty,pos,aft,grd⟩ (yielded ops (TA n f))=true)(hok:bW P F ⟨dst,op,ty,pos,aft,grd⟩=true){t e:TypeId}{l c:Operand}{m:Nat}(hop:op=.makeSlice t l c)
  (hl:(⟨TA n f,[]⟩:Act).eval l=.int .i64 (m:Nat)) (hc:(⟨TA n f,[]⟩:Act).eval c=.int .i64 (m:Nat)) (hm:m<=10000) (ht:uN P t=true) (he:P.underlying t=some (.slice e))
  (hn:∀ v',Ext v v'->v'.heap[v.heap.size]?=some (.cells ((Array.range m).map fun _=>Value.int .u8 0) e)->v'.heap.size=v.heap.size+1->Reach P Stop (G ((base fn).at ⟨TA n (aG f dst (.slice (some ⟨v.heap.size,0,none⟩) m m)),[]⟩ (.inRegion ops rest :: k)) cs) S v') :
  Reach P Stop (G ((base fn).at ⟨TA n f,[]⟩ (.inRegion ops (i :: rest) :: k)) cs) S v:=by
 refine kO hG ho hw hok (x:=.slice (some ⟨v.heap.size,0,none⟩) m m) (fun u hu=>⟨_,xF hu (.cells ((Array.range m).map fun _=>Value.int .u8 0) e),.inl ?_⟩) (hn _ (Ext.alloc _ _) (cI _ _) (jY _ _))
 obtain⟨e',inf,hu',hq,h1,h2,h3⟩:=Bf ht;rw[he]at hu';cases hu'
 have wl:IntKind.i64.wrap (m:Int)=(m:Int):=by rw[IntKind.wrap_i64];omega
 have w0:IntKind.i64.wrap 0=0:=by decide
 have n1:¬((m:Int)<0):=by omega
 have n2:¬((281474976710656:Int)<(m:Int)):=by omega
 have n3:¬(m > roomBytes):=by simp only[roomBytes];omega
 have hrun:(Instr.makeSlice t (.int .i64 (m:Nat)) (.int .i64 (m:Nat))).run P u=.ok (.slice (some ⟨u.heap.size,0,none⟩) m m) (u.alloc (.cells ((Array.range m).map fun _=>Value.int .u8 0) e)):=by
  by_cases hm0:m=0
  .subst hm0;simp[Instr.makeSlice,run_underlying he,asInt,asIntOf,typeInfo,hq,h1,h2,sizeOf,askRoom,newRow,w0];rw[show Array.range 0=#[] by simp[Array.range]];simp
  .simp[Instr.makeSlice,run_underlying he,asInt,asIntOf,typeInfo,hq,h1,h2,h3,sizeOf,askRoom,newRow,zeroValue,wl,n1,n2,n3,hm0,Value.cells,Nat.mod_one]
 unfold execOp;simp only[hop,hl,hc,Sem.run_bind,hrun,Result.andThen_ok,Sem.run_pure,hu.heap]
theorem mM(hG:Good P F)(ho:ops[i]?=some ⟨dst,op,ty,pos,aft,grd⟩)(hw:Region.wanted ⟨dst,op,ty,pos,aft,grd⟩ (yielded ops (TA n f))=true)(hok:bW P F ⟨dst,op,ty,pos,aft,grd⟩=true){t e:TypeId}{l c:Operand}{m wd:Nat}{z:Value}(hop:op=.makeSlice t l c)
  (hl:(⟨TA n f,[]⟩:Act).eval l=.int .i64 (m:Nat)) (hc:(⟨TA n f,[]⟩:Act).eval c=.int .i64 (m:Nat)) (hm:m<=10000) (hwd:wd<=100) (hm0:m≠0) (he:P.underlying t=some (.slice e)) (hq:(P.info? e).map (fun i=>(i.size,i.bytes,i.zero))=some (1,wd,some z)) (hz:z.cells=#[z])
  (hn:∀ v',Ext v v'->v'.heap[v.heap.size]?=some (.cells ((Array.range m).map fun _=>z) e)->v'.heap.size=v.heap.size+1->Reach P Stop (G ((base fn).at ⟨TA n (aG f dst (.slice (some ⟨v.heap.size,0,none⟩) m m)),[]⟩ (.inRegion ops rest :: k)) cs) S v') :
  Reach P Stop (G ((base fn).at ⟨TA n f,[]⟩ (.inRegion ops (i :: rest) :: k)) cs) S v:=by
 refine kO hG ho hw hok (x:=.slice (some ⟨v.heap.size,0,none⟩) m m) (fun u hu=>⟨_,xF hu (.cells ((Array.range m).map fun _=>z) e),.inl ?_⟩) (hn _ (Ext.alloc _ _) (cI _ _) (jY _ _))
 obtain⟨inf,hq,hi⟩:=Option.map_eq_some_iff.1 hq;simp only[Prod.mk.injEq]at hi;obtain⟨h1,h2,h3⟩:=hi;have wl:IntKind.i64.wrap (m:Int)=(m:Int):=by rw[IntKind.wrap_i64];omega
 have n1:¬((m:Int)<0):=by omega
 have hmw:m*wd<=10000*100:=Nat.mul_le_mul hm hwd;have hmwI:((m*wd:Nat):Int)=(m:Int)*(wd:Int):=Int.natCast_mul m wd;have n2:¬((281474976710656:Int)<(m:Int)*(wd:Int)):=by omega
 have n3:¬(m*wd > roomBytes):=by simp only[roomBytes];omega
 have n2':¬((281474976710656:Int)<(wd:Int)*(m:Int)):=by rw[Int.mul_comm];exact n2
 have hrun:(Instr.makeSlice t (.int .i64 (m:Nat)) (.int .i64 (m:Nat))).run P u=.ok (.slice (some ⟨u.heap.size,0,none⟩) m m) (u.alloc (.cells ((Array.range m).map fun _=>z) e)):=by
  simp[Instr.makeSlice,run_underlying he,asInt,asIntOf,typeInfo,hq,h1,h2,h3,sizeOf,askRoom,newRow,zeroValue,wl,n1,n2,n2',n3,hm0,hz,Nat.mod_one]
 unfold execOp;simp only[hop,hl,hc,Sem.run_bind,hrun,Result.andThen_ok,Sem.run_pure,hu.heap]
def eA(v:World)(b off len:Nat)(x:Nat->Nat):Prop:=∀ j,j<len->v.cell? ⟨b,off+j,none⟩=some (.int .u8 (x j:Nat))
theorem eA.ext{u:World}{b off len:Nat}{x:Nat->Nat}(h:eA v b off len x)(e:Ext v u):eA u b off len x:=fun j hj=>e.cell (h j hj)
theorem tT(hG:Good P F)(ho:ops[i]?=some ⟨dst,op,ty,pos,aft,grd⟩)(hw:Region.wanted ⟨dst,op,ty,pos,aft,grd⟩ (yielded ops (TA n f))=true)(hok:bW P F ⟨dst,op,ty,pos,aft,grd⟩=true){dT sT elem t:TypeId}{d s:Operand}{g o' dLen dCap b off sLen sCap:Nat}{cur:Array Value}{cells:List Value}
  (hop:op=.call {callee:=.builtin .copy,args:=#[d,s],argTypes:=#[dT,sT]}) (hd:(⟨TA n f,[]⟩:Act).eval d=.slice (some ⟨g,o',none⟩) dLen dCap) (hs:(⟨TA n f,[]⟩:Act).eval s=.slice (some ⟨b,off,none⟩) sLen sCap)
  (hu:P.underlying dT=some (.slice elem)) (hz:(P.info? elem).map (·.size)=some 1) (hg:v.heap[g]?=some (.cells cur t)) (hlen:cells.length=Nat.min sLen dLen) (hsrc:∀ j x,cells[j]?=some x->v.cell? ⟨b,off+j,none⟩=some x) (hfit:o'+cells.length<=cur.size) (h1:∀ x∈cells,x.oneCell'=true)
  (hn:∀ v',Wr v g (.cells (cur.toList.take o'++cells++cur.toList.drop (o'+cells.length)).toArray t) v'->Reach P Stop (G ((base fn).at ⟨TA n (aG f dst (goInt cells.length)),[]⟩ (.inRegion ops rest :: k)) cs) S v') :
  Reach P Stop (G ((base fn).at ⟨TA n f,[]⟩ (.inRegion ops (i :: rest) :: k)) cs) S v:=by
 refine kO hG ho hw hok (x:=goInt cells.length) (fun u hu'=>⟨_,mK hu' g (cur.toList.take o'++cells++cur.toList.drop (o'+cells.length)).toArray,.inl ?_⟩) (hn _ (jZ hg));have hadd:∀ j,(⟨b,off,none⟩:Addr).add j=⟨b,off+j,none⟩:=fun j=>by unfold Addr.add;split<;>simp_all
 have:=run_copy_row P u dT sT ty elem g o' dLen dCap ⟨b,off,none⟩ sLen sCap cur t cells hu hz ((Ext.twin hu').row hg) hlen (fun j x hx=>by rw[hadd];exact(Ext.twin hu').cell (hsrc j x hx)) hfit h1;generalize (Act.eval ⟨TA n f,[]⟩)=ρ at hd hs ⊢;simp only[List.append_assoc]at this ⊢;unfold execOp;simp[hop,hd,hs,this,resolve,go_sem]
theorem De(ho:ops[i]?=some ⟨dst,op,ty,pos,aft,grd⟩)(hw:Region.wanted ⟨dst,op,ty,pos,aft,grd⟩ (yielded ops (TA n f))=true){t e e':TypeId}{x:Operand}{g o' m c:Nat}{C:Array Value}{fr:Nat×Nat}(hop:op=.convert t t x)
  (ht:P.underlying t=some (.slice e)) (he:P.underlying e=some (.int .u8)) (hx:(⟨TA n f,[]⟩:Act).eval x=.slice (some ⟨g,o',none⟩) m c) (hrow:v.heap[g]?=some (.cells C e' fr))
  (hn:∀ v' fr',Wr v g (.cells C e' fr') v'->Reach P Stop (G ((base fn).at ⟨TA n (aG f dst (.slice (some ⟨g,o',none⟩) m c)),[]⟩ (.inRegion ops rest :: k)) cs) S v') :
  Reach P Stop (G ((base fn).at ⟨TA n f,[]⟩ (.inRegion ops (i :: rest) :: k)) cs) S v:=by
 refine gY rfl fun W hR=>?_
 have hS:¬S g:=fun hs=>by
  have:=hR.hid g hs;rw[hrow]at this;cases this
 have hrowW:W.heap[g]?=some (.cells C e' fr):=by rw[<-hR.seen g hS];exact hrow
 have hsh:W.shape? g=some (e',C.size):=by unfold World.shape?;rw[hrowW]
 have hrun:(execOp (Act.eval ⟨TA n f,[]⟩) ⟨dst,op,ty,pos,aft,grd⟩).run P W=.ok (.value (.slice (some ⟨g,o',none⟩) m c)) (W.freeze ⟨g,C.size,none⟩ 1):=by
  generalize (Act.eval ⟨TA n f,[]⟩)=ρ at hx ⊢;unfold execOp;simp[hop,hx,convert,run_underlying ht,run_underlying he,markStringish,hsh]
 have hev:(execOp (Act.eval ⟨TA n f,[]⟩) ⟨dst,op,ty,pos,aft,grd⟩).events P W #[]=#[]:=by
  generalize (Act.eval ⟨TA n f,[]⟩)=ρ at hx ⊢;unfold execOp;simp[hop,hx,convert,run_underlying ht,run_underlying he,markStringish,hsh,Sem.events_bind]
 have hv':Wr v g (.cells C e' (if fr.1 == fr.2 then(C.size,C.size+1) else(min fr.1 C.size,max fr.2 (C.size+1)))) (v.freeze ⟨g,C.size,none⟩ 1):=by
  unfold World.freeze;rw[if_neg (show ¬(1:Nat)=0 by decide)];refine⟨?_,fun b hb=>?_,by simp,rfl,rfl⟩
  .show(v.heap.modify g _)[g]?=_;rw[Array.getElem?_modify,if_pos rfl,hrow];obtain⟨lo,hi⟩:=fr;rfl
  .show(v.heap.modify g _)[b]?=_;rw[Array.getElem?_modify,if_neg (Ne.symm hb)]
 refine⟨_,W.freeze ⟨g,C.size,none⟩ 1,#[],v.freeze ⟨g,C.size,none⟩ 1,?_,by simp,?_,fun b hb=>?_,?_,hn _ _ hv'⟩
 .rw[stepG_value ho hw (by simp[base]) hrun,bX,listed_nil hev]
 .unfold World.freeze;rw[if_neg (show ¬(1:Nat)=0 by decide)];simp
 .unfold World.freeze;rw[if_neg (show ¬(1:Nat)=0 by decide)];show(W.heap.modify g _)[b]?=_;rw[Array.getElem?_modify,if_neg (fun e:g=b=>hS (e▸hb))]
 .unfold World.freeze;rw[if_neg (show ¬(1:Nat)=0 by decide),if_neg (show ¬(1:Nat)=0 by decide)];refine hR.modify hS _ fun o ht=>?_
  cases o<;>simp_all[Obj.tame]
end
section
variable {P:Program}{F:FuncId->Bool}{Stop:Goroutine->(Nat->Prop)->World->Prop}{S:Nat->Prop}{v:World}{fn:FuncId}{cs:List Frame}{k:List Item}{n:Nat}{ops:Array Oper}
def fD(P:Program)(F:FuncId->Bool)(S:Nat->Prop)(v:World)(ops:Array Oper)(o:Oper)(x:Value)(a:Act):Prop:=
 (Region.wanted o (yielded ops a.tmps)=true∧
  ((bW P F o=true∧∀ u,Twin v u->(execOp a.eval o).run P u=.ok (.value x) u)∨
   (∃ g gf c args ats,o.op=.call {callee:=.value (.func g),args,argTypes:=ats}∧P.funcs[g]?=some gf∧(gf.name == "runtime.NumGoroutine")=false∧gf.body=some c∧aK P g (args.map a.eval) S v fun y S' v'=>y=x∧S'=S∧v'=v)))∨
 (Region.wanted o (yielded ops a.tmps)=false∧x=undef)
def zcD(ops:Array Oper)(j:Nat):Prop:=∀ l,j∈Region.ready .any ops l->Region.ready .any ops (l.setIfInBounds j true)=[]
def eL(P:Program)(Stop:Goroutine->(Nat->Prop)->World->Prop)(S:Nat->Prop)(v:World)(fn:FuncId)(cs:List Frame)(k:List Item)(ops:Array Oper)(rest:List Nat)(a:Act):Prop:=Reach P Stop (G ((base fn).at a (.inRegion ops rest :: k)) cs) S v
def jJ(P:Program)(F:FuncId->Bool)(Stop:Goroutine->(Nat->Prop)->World->Prop)(S:Nat->Prop)(v:World)(fn:FuncId)(cs:List Frame)(k:List Item)(ops:Array Oper):Nat->Array Bool->Act->Prop
 |0,l,a=>Region.ready .any ops l=[]∧eL P Stop S v fn cs k ops [] a
 |fuel+1,l,a=>(Region.ready .any ops l=[]->eL P Stop S v fn cs k ops [] a)∧
  ∀ i∈Region.ready .any ops l,(∃ o x,ops[i]?=some o∧fD P F S v ops o x a∧jJ P F Stop S v fn cs k ops fuel (l.setIfInBounds i true) (a.put o.dst x))∨(zcD ops i∧eL P Stop S v fn cs k ops [i] a)
theorem xL(hG:Good P F){i:Nat}{o:Oper}{x:Value}{rest:List Nat}{f:Nat->Value}(ho:ops[i]?=some o)(hy:fD P F S v ops o x ⟨TA n f,[]⟩)(h:eL P Stop S v fn cs k ops rest ((⟨TA n f,[]⟩:Act).put o.dst x)):eL P Stop S v fn cs k ops (i :: rest) ⟨TA n f,[]⟩:=by
 obtain⟨dst,op,ty,pos,aft,grd⟩:=o;rw[bX]at h;rcases hy with⟨hw,⟨hok,hr⟩|⟨g,gf,c,args,ats,e1,e2,e3,e4,hc⟩⟩|⟨hw,rfl⟩
 .exact cH hG ho hw hok hr h
 .refine pY ho hw e1 e2 e3 e4 rfl hc fun y S' v' _ hq=>?_
  obtain⟨e5,e6,e7⟩:=hq;subst e5 e6 e7;exact h
 .exact tR ho hw h
theorem Pv(hG:Good P F):∀ (fuel t:Nat) (l:Array Bool) (f:Nat->Value),jJ P F Stop S v fn cs k ops fuel l ⟨TA n f,[]⟩->eL P Stop S v fn cs k ops (Region.linearise.go .any ops fuel t l []) ⟨TA n f,[]⟩:=by
 intro fuel;induction fuel with
 |zero=>intro t l f h;simpa [Region.linearise.go] using h.2
 |succ fuel ih=>
  intro t l f h;obtain⟨h₀,h₁⟩:=h;simp only[Region.linearise.go]
  change eL P Stop S v fn cs k ops (match (Region.ready .any ops l)[t % (Region.ready .any ops l).length]? with
   |some i=>Region.linearise.go .any ops fuel (t / (Region.ready .any ops l).length) (l.setIfInBounds i true) [i]
   |none=>[].reverse) ⟨TA n f,[]⟩
  cases hi:(Region.ready .any ops l)[t % (Region.ready .any ops l).length]? with
  |none=>
   have hnil:Region.ready .any ops l=[]:=by
    cases hr:Region.ready .any ops l with
    |nil=>rfl
    |cons x xs=>
     rw[hr]at hi;have hlt:t % (x :: xs).length<(x :: xs).length:=Nat.mod_lt _ (by simp);rw[List.getElem?_eq_none_iff]at hi;omega
   exact h₀ hnil
  |some i=>
   simp only[];rw[linearise_go_acc,List.reverse_singleton,List.singleton_append];rcases h₁ i (List.mem_of_getElem? hi) with⟨o,x,ho,hy,hn⟩|⟨hlast,hr⟩
   .refine xL hG ho hy ?_;rw[bX]at hn ⊢;exact ih _ _ _ hn
   .have hnil:=hlast l (List.mem_of_getElem? hi);have:Region.linearise.go .any ops fuel (t / (Region.ready .any ops l).length) (l.setIfInBounds i true) []=[]:=by
     cases fuel with
     |zero=>simp[Region.linearise.go]
     |succ fuel=>
      simp only[Region.linearise.go];change (match (Region.ready .any ops (l.setIfInBounds i true))[_ % (Region.ready .any ops (l.setIfInBounds i true)).length]? with|some i'=>Region.linearise.go .any ops fuel (_ / (Region.ready .any ops (l.setIfInBounds i true)).length) ((l.setIfInBounds i true).setIfInBounds i' true) [i']|none=>[].reverse)=[];rw[hnil];rfl
    rw[this];exact hr
theorem Pw{i:Nat}{oi:Oper}{x:Value}(hi:ops[i]?=some oi)(hsel:∀ (j:Nat) (o:Oper) cs b,ops[j]?=some o->o.op≠.select cs b) :
  ∀ (fuel:Nat) (l:Array Bool) (a:Act),
   (∀ j oj,ops[j]?=some oj->j≠i->l.getD j true=false->(∀ e∈oj.after,Region.binds .any e=true->e.on≠i)->oi.apart ops oj=true)->
   i∈Region.ready .any ops l->fD P F S v ops oi x a->
   jJ P F Stop S v fn cs k ops fuel (l.setIfInBounds i true) (a.put oi.dst x)->jJ P F Stop S v fn cs k ops (fuel+1) l a:=by
 have keep:∀ {o:Oper} {j:Nat} {d:Option Tmp} {u y:Value} {a:Act},ops[j]?=some o->(∀ e,d=some e->e ∉ o.looksAt ops)->fD P F S v ops o y a->fD P F S v ops o y (a.put d u):=by
  intro o j d u y a ho hd hy;have hso:=fun cs b=>hsel j o cs b ho
  rcases hy with⟨hw,⟨hok,hr⟩|⟨g,gf,c,args,ats,e1,e2,e3,e4,hc⟩⟩|⟨hw,rfl⟩
  .exact .inl ⟨by rw[wanted_put o a d u hd];exact hw,.inl ⟨hok,fun w hu=>by rw[execOp_put o hso a d u hd];exact hr w hu⟩⟩
  .exact .inl ⟨by rw[wanted_put o a d u hd];exact hw,.inr ⟨g,gf,c,args,ats,e1,e2,e3,e4,by rw[lQ u e1 hd];exact hc⟩⟩
  .exact .inr ⟨by rw[wanted_put o a d u hd];exact hw,rfl⟩
 have back:∀ {o:Oper} {j:Nat} {d:Option Tmp} {u y:Value} {a:Act},ops[j]?=some o->(∀ e,d=some e->e ∉ o.looksAt ops)->fD P F S v ops o y (a.put d u)->fD P F S v ops o y a:=by
  intro o j d u y a ho hd hy;have hso:=fun cs b=>hsel j o cs b ho
  rcases hy with⟨hw,⟨hok,hr⟩|⟨g,gf,c,args,ats,e1,e2,e3,e4,hc⟩⟩|⟨hw,rfl⟩
  .exact .inl ⟨by rw[wanted_put o a d u hd]at hw;exact hw,.inl ⟨hok,fun w hu=>by have:=hr w hu;rw[execOp_put o hso a d u hd]at this;exact this⟩⟩
  .exact .inl ⟨by rw[wanted_put o a d u hd]at hw;exact hw,.inr ⟨g,gf,c,args,ats,e1,e2,e3,e4,by rw[lQ u e1 hd]at hc;exact hc⟩⟩
  .exact .inr ⟨by rw[wanted_put o a d u hd]at hw;exact hw,rfl⟩
 intro fuel;induction fuel with
 |zero=>
  intro l a _ hr hy H;refine⟨fun h=>(by rw[h]at hr;cases hr),fun j hj=>?_⟩
  by_cases hji:j=i
  .subst hji;exact .inl ⟨oi,x,hi,hy,H⟩
  .have:=ready_mono hj hji;rw[H.1]at this;cases this
 |succ fuel ih=>
  intro l a hfree hr hy H;refine⟨fun h=>(by rw[h]at hr;cases hr),fun j hj=>?_⟩
  by_cases hji:j=i
  .subst hji;exact .inl ⟨oi,x,hi,hy,H⟩
  .have h1:=H.2 j (ready_mono hj hji);obtain⟨hjun,oj,hoj,hall⟩:=mem_ready.1 hj;have hnot:∀ e∈oj.after,Region.binds .any e=true->e.on≠i:=fun e he hb heq=>by
    have h1:=hall e he hb;have h0:=(mem_ready.1 hr).1;rw[heq]at h1;rcases Nat.lt_or_ge i l.size with h'|h'
    .simp[h']at h0 h1;rw[h0]at h1;cases h1
    .simp[Array.getElem?_eq_none h']at h1
   have hap:=hfree j oj hoj hji hjun hnot;obtain⟨q1,q2,q3⟩:=Oper.apart_spec hap;have hfree':∀ c oc,ops[c]?=some oc->c≠i->(l.setIfInBounds j true).getD c true=false->
     (∀ e∈oc.after,Region.binds .any e=true->e.on≠i)->oi.apart ops oc=true:=fun c oc hc hci hun hno=>by
    refine hfree c oc hc hci ?_ hno;by_cases hjc:j=c
    .subst hjc;exact hjun
    .rw[getD_set_ne true hjc]at hun;exact hun
   rcases h1 with⟨o',y,ho',hy',hn⟩|⟨hlast,_⟩
   .obtain rfl:o'=oj:=by rw[hoj]at ho';exact(Option.some.inj ho').symm
    refine .inl ⟨o',y,hoj,back hoj q1 hy',?_⟩;refine ih (l.setIfInBounds j true) (a.put o'.dst y) hfree' (ready_mono hr (Ne.symm hji)) (keep hi q3 hy) ?_;rw[Array.setIfInBounds_comm _ _ hji,<-Act.put_comm a x y q2];exact hn
   .have hnil:=hlast l hj;have:=ready_mono hr (Ne.symm hji);rw[hnil]at this;cases this
theorem iU{i:Nat}{dst:Option Tmp}{op:Op}{ty:TypeId}{pos:String}{aft:Array Edge}{grd:Option (Nat×Bool)}{x:Value}{fuel:Nat}{l:Array Bool}{f:Nat->Value}(hi:ops[i]?=some ⟨dst,op,ty,pos,aft,grd⟩)(hs:Region.noSelect ops=true)(hf:Region.free .any ops l i=true)(hr:(Region.ready .any ops l).contains i=true)
  (hy:fD P F S v ops ⟨dst,op,ty,pos,aft,grd⟩ x ⟨TA n f,[]⟩) (h:jJ P F Stop S v fn cs k ops fuel (l.setIfInBounds i true) ⟨TA n (aG f dst x),[]⟩):jJ P F Stop S v fn cs k ops (fuel+1) l ⟨TA n f,[]⟩:=
 Pw hi (Region.noSelect_spec hs) fuel l _ (Region.free_spec hi hf) (by simpa using hr) hy (by rw[show(⟨dst,op,ty,pos,aft,grd⟩:Oper).dst=dst from rfl,bX];exact h)
theorem rT{i:Nat}{dst:Option Tmp}{op:Op}{ty:TypeId}{pos:String}{aft:Array Edge}{grd:Option (Nat×Bool)}{x:Value}{fuel:Nat}{l:Array Bool}{f:Nat->Value}(hi:ops[i]?=some ⟨dst,op,ty,pos,aft,grd⟩)
  (hy:∀ u,Twin v u->(execOp (Act.eval ⟨TA n f,[]⟩) ⟨dst,op,ty,pos,aft,grd⟩).run P u=.ok (.value x) u) (h:jJ P F Stop S v fn cs k ops fuel (l.setIfInBounds i true) ⟨TA n (aG f dst x),[]⟩)
  (hs:Region.noSelect ops=true:=by first|kernel_rfl|decide +kernel) (hf:Region.free .any ops l i=true:=by first|kernel_rfl|decide +kernel) (hr:(Region.ready .any ops l).contains i=true:=by first|kernel_rfl|decide +kernel)
  (hw:Region.wanted ⟨dst,op,ty,pos,aft,grd⟩ (yielded ops (TA n f))=true:=by first|rfl|(simp[Region.wanted,yielded,bE, *];first|done|fail)) (hok:bW P F ⟨dst,op,ty,pos,aft,grd⟩=true:=by kernel_rfl):jJ P F Stop S v fn cs k ops (fuel+1) l ⟨TA n f,[]⟩:=
 iU hi hs hf hr (.inl ⟨hw,.inl ⟨hok,hy⟩⟩) h
theorem lM{l:Array Bool}{f:Nat->Value}(hr:Region.ready .any ops l=[])(h:Reach P Stop (G ((base fn).at ⟨TA n f,[]⟩ (.inRegion ops [] :: k)) cs) S v):∀ fuel,jJ P F Stop S v fn cs k ops fuel l ⟨TA n f,[]⟩
 |0=>⟨hr,h⟩
 |_+1=>⟨fun _=>h,fun i hi=>by rw[hr]at hi;cases hi⟩
theorem lJ(hG:Good P F)(hm:P.follows .mixedOrders=true){id:Nat}{f:Nat->Value}(h:jJ P F Stop S v fn cs k ops ops.size (Array.replicate ops.size false) ⟨TA n f,[]⟩) :
  Reach P Stop (G ((base fn).at ⟨TA n f,[]⟩ (.code (.region id ops true) :: k)) cs) S v:=by
 refine gY rfl fun W hR=>?_
 refine⟨_,{W with drawn:=W.drawn+1},#[],v,stepG_region_draw,by simp,Nat.le_refl _,fun _ _=>rfl,⟨fun j q hj=>by omega,hR.os,hR.output,hR.size,hR.seen,hR.hid,hR.tame,hR.high⟩,?_⟩
 simp only[Region.schedule,hm,Bool.true_or,if_true,Region.linearise];exact Pv hG _ _ _ _ h
end
section
variable {P:Program}{F:FuncId->Bool}{Stop:Goroutine->(Nat->Prop)->World->Prop}{S:Nat->Prop}{v:World}{fn:FuncId}{cs:List Frame}{k:List Item}{n:Nat}{ops:Array Oper}{E:Nat->Bool}
def pI(P:Program)(F:FuncId->Bool)(v:World)(ops:Array Oper)(o:Oper)(Q:Value->World->Prop)(a:Act):Prop:=
 (Region.wanted o (yielded ops a.tmps)=true∧bW P F o=true∧∀ u,Twin v u->∃ x w',((execOp a.eval o).run P u=.ok (.value x) w'∨((execOp a.eval o).run P u=.ok .skip w'∧x=undef))∧Q x w')∨
 (Region.wanted o (yielded ops a.tmps)=false∧∀ u,Twin v u->Q undef u)
def gH(P:Program)(F:FuncId->Bool)(Stop:Goroutine->(Nat->Prop)->World->Prop)(S:Nat->Prop)(fn:FuncId)(cs:List Frame)(k:List Item)(ops:Array Oper)(E:Nat->Bool):Nat->Array Bool->Act->World->Prop
 |0,l,a,v=>Region.ready .any ops l=[]∧eL P Stop S v fn cs k ops [] a
 |fuel+1,l,a,v=>(Region.ready .any ops l=[]->eL P Stop S v fn cs k ops [] a)∧
  ∀ i∈Region.ready .any ops l,∃ o Q,ops[i]?=some o∧pI P F v ops o Q a∧(E i=true->∀ x w,Q x w->Twin v w)∧∀ x v',Q x v'->gH P F Stop S fn cs k ops E fuel (l.setIfInBounds i true) (a.put o.dst x) v'
theorem gH.twin:∀ {fuel:Nat} {l:Array Bool} {a:Act} {v u:World},gH P F Stop S fn cs k ops E fuel l a v->Twin v u->gH P F Stop S fn cs k ops E fuel l a u:=by
 intro fuel;cases fuel with
 |zero=>intro l a v u h t;exact⟨h.1,Reach.twin t.symm h.2⟩
 |succ fuel=>
  intro l a v u h t;refine⟨fun e=>Reach.twin t.symm (h.1 e),fun i hi=>?_⟩
  obtain⟨o,Q,ho,hd,hE,hn⟩:=h.2 i hi;exact⟨o,Q,ho,hd.imp (fun⟨a,b,c⟩=>⟨a,b,fun w hw=>c w (t.trans hw)⟩) fun⟨a,b⟩=>⟨a,fun w hw=>b w (t.trans hw)⟩,fun e x w q=>t.symm.trans (hE e x w q),hn⟩
theorem Gd(hG:Good P F){i:Nat}{o:Oper}{Q:Value->World->Prop}{rest:List Nat}{f:Nat->Value}(ho:ops[i]?=some o)(hy:pI P F v ops o Q ⟨TA n f,[]⟩)(h:∀ x v',Q x v'->eL P Stop S v' fn cs k ops rest ((⟨TA n f,[]⟩:Act).put o.dst x)):eL P Stop S v fn cs k ops (i :: rest) ⟨TA n f,[]⟩:=by
 rcases hy with⟨hw,hok,hr⟩|⟨hw,hq⟩
 .refine uP hG ho hw hok fun u hu K hK=>?_
  obtain⟨x,w',hrun,hQ⟩:=hr u hu;have hn:=h x w' hQ;rw[bX]at hn;rcases hrun with e|⟨e,hx⟩
  .rw[e];exact hK _ _ hn
  .rw[e];subst hx;exact hK _ _ hn
 .obtain⟨dst,op,ty,pos,aft,grd⟩:=o;have hn:=h undef v (hq v (.refl v));rw[bX]at hn;exact tR ho hw hn
theorem Pt(hG:Good P F):∀ (fuel t:Nat) (l:Array Bool) (f:Nat->Value) (v:World),gH P F Stop S fn cs k ops E fuel l ⟨TA n f,[]⟩ v->eL P Stop S v fn cs k ops (Region.linearise.go .any ops fuel t l []) ⟨TA n f,[]⟩:=by
 intro fuel;induction fuel with
 |zero=>intro t l f v h;simpa [Region.linearise.go] using h.2
 |succ fuel ih=>
  intro t l f v h;obtain⟨h₀,h₁⟩:=h;simp only[Region.linearise.go]
  change eL P Stop S v fn cs k ops (match (Region.ready .any ops l)[t % (Region.ready .any ops l).length]? with
   |some i=>Region.linearise.go .any ops fuel (t / (Region.ready .any ops l).length) (l.setIfInBounds i true) [i]
   |none=>[].reverse) ⟨TA n f,[]⟩
  cases hi:(Region.ready .any ops l)[t % (Region.ready .any ops l).length]? with
  |none=>
   have hnil:Region.ready .any ops l=[]:=by
    cases hr:Region.ready .any ops l with
    |nil=>rfl
    |cons x xs=>
     rw[hr]at hi;have hlt:t % (x :: xs).length<(x :: xs).length:=Nat.mod_lt _ (by simp);rw[List.getElem?_eq_none_iff]at hi;omega
   exact h₀ hnil
  |some i=>
   simp only[];rw[linearise_go_acc,List.reverse_singleton,List.singleton_append];obtain⟨o,Q,ho,hy,_,hn⟩:=h₁ i (List.mem_of_getElem? hi);refine Gd hG ho hy fun x v' hQ=>?_
   have:=hn x v' hQ;rw[bX]at this ⊢;exact ih _ _ _ _ this
theorem Pu{i:Nat}{oi:Oper}{x:Value}(hi:ops[i]?=some oi)(hsel:∀ (j:Nat) (o:Oper) cs b,ops[j]?=some o->o.op≠.select cs b)(hok:bW P F oi=true) :
  ∀ (fuel:Nat) (l:Array Bool) (a:Act) (v:World),
   (∀ j oj,ops[j]?=some oj->j≠i->l.getD j true=false->(∀ e∈oj.after,Region.binds .any e=true->e.on≠i)->oi.apart ops oj=true)->
   i∈Region.ready .any ops l->Region.wanted oi (yielded ops a.tmps)=true->(∀ w,(execOp a.eval oi).run P w=.ok (.value x) w)->
   gH P F Stop S fn cs k ops E fuel (l.setIfInBounds i true) (a.put oi.dst x) v->gH P F Stop S fn cs k ops E (fuel+1) l a v:=by
 have back:∀ {o:Oper} {j:Nat} {d:Option Tmp} {u:Value} {a:Act} {v:World} {Q:Value->World->Prop},ops[j]?=some o->(∀ e,d=some e->e ∉ o.looksAt ops)->pI P F v ops o Q (a.put d u)->pI P F v ops o Q a:=by
  intro o j d u a v Q ho hd hy;have hso:=fun cs b=>hsel j o cs b ho
  rcases hy with⟨hw,hok,hr⟩|⟨hw,hq⟩
  .exact .inl ⟨by rw[wanted_put o a d u hd]at hw;exact hw,hok,fun w hu=>by have:=hr w hu;rw[execOp_put o hso a d u hd]at this;exact this⟩
  .exact .inr ⟨by rw[wanted_put o a d u hd]at hw;exact hw,hq⟩
 intro fuel;induction fuel with
 |zero=>
  intro l a v _ hr hw hy H;refine⟨fun h=>(by rw[h]at hr;cases hr),fun j hj=>?_⟩
  by_cases hji:j=i
  .subst hji;exact⟨oi,fun y w=>y=x∧Twin v w,hi,.inl ⟨hw,hok,fun u hu=>⟨x,u,.inl (hy u),rfl,hu⟩⟩,fun _ y w q=>q.2,fun y w ⟨e,ht⟩=>e▸H.twin ht⟩
  .have:=ready_mono hj hji;rw[H.1]at this;cases this
 |succ fuel ih=>
  intro l a v hfree hr hw hy H;refine⟨fun h=>(by rw[h]at hr;cases hr),fun j hj=>?_⟩
  by_cases hji:j=i
  .subst hji;exact⟨oi,fun y w=>y=x∧Twin v w,hi,.inl ⟨hw,hok,fun u hu=>⟨x,u,.inl (hy u),rfl,hu⟩⟩,fun _ y w q=>q.2,fun y w ⟨e,ht⟩=>e▸H.twin ht⟩
  .obtain⟨oj',Q,hoj',hd,hE,hn⟩:=H.2 j (ready_mono hj hji);obtain⟨hjun,oj,hoj,hall⟩:=mem_ready.1 hj;obtain rfl:oj'=oj:=by rw[hoj]at hoj';exact(Option.some.inj hoj').symm
   have hnot:∀ e∈oj'.after,Region.binds .any e=true->e.on≠i:=fun e he hb heq=>by
    have h1:=hall e he hb;have h0:=(mem_ready.1 hr).1;rw[heq]at h1;rcases Nat.lt_or_ge i l.size with h'|h'
    .simp[h']at h0 h1;rw[h0]at h1;cases h1
    .simp[Array.getElem?_eq_none h']at h1
   have hap:=hfree j oj' hoj hji hjun hnot;obtain⟨q1,q2,q3⟩:=Oper.apart_spec hap;have hfree':∀ c oc,ops[c]?=some oc->c≠i->(l.setIfInBounds j true).getD c true=false->
     (∀ e∈oc.after,Region.binds .any e=true->e.on≠i)->oi.apart ops oc=true:=fun c oc hc hci hun hno=>by
    refine hfree c oc hc hci ?_ hno;by_cases hjc:j=c
    .subst hjc;exact hjun
    .rw[getD_set_ne true hjc]at hun;exact hun
   refine⟨oj',Q,hoj,back hoj q1 hd,hE,fun y w hQ=>?_⟩
   have hso:=fun cs b=>hsel i oi cs b hi
   refine ih (l.setIfInBounds j true) (a.put oj'.dst y) w hfree' (ready_mono hr (Ne.symm hji)) (by rw[wanted_put oi a _ y q3];exact hw) (fun w'=>by rw[execOp_put oi hso a _ y q3];exact hy w') ?_;rw[Array.setIfInBounds_comm _ _ hji,<-Act.put_comm a x y q2];exact hn y w hQ
theorem Nr{i:Nat}{oi:Oper}{x:Value}(hi:ops[i]?=some oi)(hsel:∀ (j:Nat) (o:Oper) cs b,ops[j]?=some o->o.op≠.select cs b)(hok:bW P F oi=true) :
  ∀ (fuel:Nat) (l:Array Bool) (a:Act) (v:World),
   (∀ j oj,ops[j]?=some oj->j≠i->l.getD j true=false->(∀ e∈oj.after,Region.binds .any e=true->e.on≠i)->oi.apart ops oj=true)->
   i∈Region.ready .any ops l->Region.wanted oi (yielded ops a.tmps)=true->(∀ u,Twin v u->(execOp a.eval oi).run P u=.ok (.value x) u)->(∀ j oj,ops[j]?=some oj->j≠i->l.getD j true=false->(∀ e∈oj.after,Region.binds .any e=true->e.on≠i)->E j=true)->
   gH P F Stop S fn cs k ops E fuel (l.setIfInBounds i true) (a.put oi.dst x) v->gH P F Stop S fn cs k ops E (fuel+1) l a v:=by
 have back:∀ {o:Oper} {j:Nat} {d:Option Tmp} {u:Value} {a:Act} {v:World} {Q:Value->World->Prop},ops[j]?=some o->(∀ e,d=some e->e ∉ o.looksAt ops)->pI P F v ops o Q (a.put d u)->pI P F v ops o Q a:=by
  intro o j d u a v Q ho hd hy;have hso:=fun cs b=>hsel j o cs b ho
  rcases hy with⟨hw,hok,hr⟩|⟨hw,hq⟩
  .exact .inl ⟨by rw[wanted_put o a d u hd]at hw;exact hw,hok,fun w hu=>by have:=hr w hu;rw[execOp_put o hso a d u hd]at this;exact this⟩
  .exact .inr ⟨by rw[wanted_put o a d u hd]at hw;exact hw,hq⟩
 intro fuel;induction fuel with
 |zero=>
  intro l a v _ hr hw hy _ H;refine⟨fun h=>(by rw[h]at hr;cases hr),fun j hj=>?_⟩
  by_cases hji:j=i
  .subst hji;exact⟨oi,fun y w=>y=x∧Twin v w,hi,.inl ⟨hw,hok,fun u hu=>⟨x,u,.inl (hy u hu),rfl,hu⟩⟩,fun _ y w q=>q.2,fun y w ⟨e,ht⟩=>e▸H.twin ht⟩
  .have:=ready_mono hj hji;rw[H.1]at this;cases this
 |succ fuel ih=>
  intro l a v hfree hr hw hy hq H;refine⟨fun h=>(by rw[h]at hr;cases hr),fun j hj=>?_⟩
  by_cases hji:j=i
  .subst hji;exact⟨oi,fun y w=>y=x∧Twin v w,hi,.inl ⟨hw,hok,fun u hu=>⟨x,u,.inl (hy u hu),rfl,hu⟩⟩,fun _ y w q=>q.2,fun y w ⟨e,ht⟩=>e▸H.twin ht⟩
  .obtain⟨oj',Q,hoj',hd,hE,hn⟩:=H.2 j (ready_mono hj hji);obtain⟨hjun,oj,hoj,hall⟩:=mem_ready.1 hj;obtain rfl:oj'=oj:=by rw[hoj]at hoj';exact(Option.some.inj hoj').symm
   have hnot:∀ e∈oj'.after,Region.binds .any e=true->e.on≠i:=fun e he hb heq=>by
    have h1:=hall e he hb;have h0:=(mem_ready.1 hr).1;rw[heq]at h1;rcases Nat.lt_or_ge i l.size with h'|h'
    .simp[h']at h0 h1;rw[h0]at h1;cases h1
    .simp[Array.getElem?_eq_none h']at h1
   have hap:=hfree j oj' hoj hji hjun hnot;obtain⟨q1,q2,q3⟩:=Oper.apart_spec hap;have hfree':∀ c oc,ops[c]?=some oc->c≠i->(l.setIfInBounds j true).getD c true=false->
     (∀ e∈oc.after,Region.binds .any e=true->e.on≠i)->oi.apart ops oc=true:=fun c oc hc hci hun hno=>by
    refine hfree c oc hc hci ?_ hno;by_cases hjc:j=c
    .subst hjc;exact hjun
    .rw[getD_set_ne true hjc]at hun;exact hun
   refine⟨oj',Q,hoj,back hoj q1 hd,hE,fun y w hQ=>?_⟩
   have hso:=fun cs b=>hsel i oi cs b hi
   refine ih (l.setIfInBounds j true) (a.put oj'.dst y) w hfree' (ready_mono hr (Ne.symm hji)) (by rw[wanted_put oi a _ y q3];exact hw) (fun u hu=>by rw[execOp_put oi hso a _ y q3];exact hy u ((hE (hq j oj' hoj hji hjun hnot) y w hQ).trans hu)) (fun c oc hc hci hun hno=>?_) ?_
   .refine hq c oc hc hci ?_ hno;by_cases hjc:j=c
    .subst hjc;exact hjun
    .rw[getD_set_ne true hjc]at hun;exact hun
   rw[Array.setIfInBounds_comm _ _ hji,<-Act.put_comm a x y q2];exact hn y w hQ
def Il(E:Nat->Bool)(ops:Array Oper)(l:Array Bool)(i:Nat):Bool:=(List.range ops.size).all fun j=>j == i||l.getD j true||E j||(match ops[j]? with|some o=>o.after.toList.any fun e=>Region.binds .any e&&e.on == i|none=>true)
theorem Mt{l:Array Bool}{i:Nat}(h:Il E ops l i=true):∀ j oj,ops[j]?=some oj->j≠i->l.getD j true=false->(∀ e∈oj.after,Region.binds .any e=true->e.on≠i)->E j=true:=by
 intro j oj hoj hji hun hno;have hlt:j<ops.size:=(Array.getElem?_eq_some_iff.1 hoj).1;have:=List.all_eq_true.1 h j (by simpa using hlt);simp only[Bool.or_eq_true,beq_iff_eq,hji,hun,false_or,Bool.false_eq_true,hoj,List.any_eq_true,Bool.and_eq_true]at this;rcases this with e|⟨ed,h1,h2,h3⟩
 .exact e
 .exact absurd h3 (hno ed (by simpa using h1) h2)
theorem Dy{i:Nat}{dst:Option Tmp}{op:Op}{ty:TypeId}{pos:String}{aft:Array Edge}{grd:Option (Nat×Bool)}{x:Value}{fuel:Nat}{l:Array Bool}{f:Nat->Value}(hi:ops[i]?=some ⟨dst,op,ty,pos,aft,grd⟩)(hs:Region.noSelect ops=true)(hf:Region.free .any ops l i=true)(hr:(Region.ready .any ops l).contains i=true)(hq:Il E ops l i=true)
  (hw:Region.wanted ⟨dst,op,ty,pos,aft,grd⟩ (yielded ops (TA n f))=true) (hok:bW P F ⟨dst,op,ty,pos,aft,grd⟩=true) (hy:∀ u,Twin v u->(execOp (Act.eval ⟨TA n f,[]⟩) ⟨dst,op,ty,pos,aft,grd⟩).run P u=.ok (.value x) u) (h:gH P F Stop S fn cs k ops E fuel (l.setIfInBounds i true) ⟨TA n (aG f dst x),[]⟩ v):gH P F Stop S fn cs k ops E (fuel+1) l ⟨TA n f,[]⟩ v:=
 Nr hi (Region.noSelect_spec hs) hok fuel l _ v (Region.free_spec hi hf) (by simpa using hr) hw hy (Mt hq) (by rw[show(⟨dst,op,ty,pos,aft,grd⟩:Oper).dst=dst from rfl,bX];exact h)
theorem iH{i:Nat}{dst:Option Tmp}{op:Op}{ty:TypeId}{pos:String}{aft:Array Edge}{grd:Option (Nat×Bool)}{x:Value}{fuel:Nat}{l:Array Bool}{f:Nat->Value}(hi:ops[i]?=some ⟨dst,op,ty,pos,aft,grd⟩)(hs:Region.noSelect ops=true)(hf:Region.free .any ops l i=true)(hr:(Region.ready .any ops l).contains i=true)
  (hw:Region.wanted ⟨dst,op,ty,pos,aft,grd⟩ (yielded ops (TA n f))=true) (hok:bW P F ⟨dst,op,ty,pos,aft,grd⟩=true) (hy:∀ w,(execOp (Act.eval ⟨TA n f,[]⟩) ⟨dst,op,ty,pos,aft,grd⟩).run P w=.ok (.value x) w) (h:gH P F Stop S fn cs k ops E fuel (l.setIfInBounds i true) ⟨TA n (aG f dst x),[]⟩ v):gH P F Stop S fn cs k ops E (fuel+1) l ⟨TA n f,[]⟩ v:=
 Pu hi (Region.noSelect_spec hs) hok fuel l _ v (Region.free_spec hi hf) (by simpa using hr) hw hy (by rw[show(⟨dst,op,ty,pos,aft,grd⟩:Oper).dst=dst from rfl,bX];exact h)
theorem Fm{i:Nat}{dst:Option Tmp}{op:Op}{ty:TypeId}{pos:String}{aft:Array Edge}{grd:Option (Nat×Bool)}{Q:Value->World->Prop}{fuel:Nat}{l:Array Bool}{f:Nat->Value}(hi:ops[i]?=some ⟨dst,op,ty,pos,aft,grd⟩)(hr:Region.ready .any ops l=[i])
  (hw:Region.wanted ⟨dst,op,ty,pos,aft,grd⟩ (yielded ops (TA n f))=true) (hok:bW P F ⟨dst,op,ty,pos,aft,grd⟩=true) (hd:∀ u,Twin v u->∃ x w',((execOp (Act.eval ⟨TA n f,[]⟩) ⟨dst,op,ty,pos,aft,grd⟩).run P u=.ok (.value x) w'∨((execOp (Act.eval ⟨TA n f,[]⟩) ⟨dst,op,ty,pos,aft,grd⟩).run P u=.ok .skip w'∧x=undef))∧Q x w')
  (h:∀ x v',Q x v'->gH P F Stop S fn cs k ops E fuel (l.setIfInBounds i true) ⟨TA n (aG f dst x),[]⟩ v') (hE:E i=false:=by rfl):gH P F Stop S fn cs k ops E (fuel+1) l ⟨TA n f,[]⟩ v:=
 ⟨fun e=>(by rw[hr]at e;cases e),fun j hj=>(by
  rw[hr]at hj;obtain rfl:j=i:=by simpa using hj
  exact⟨_,Q,hi,.inl ⟨hw,hok,hd⟩,fun e=>(by rw[hE]at e;cases e),fun x v' hQ=>by rw[show(⟨dst,op,ty,pos,aft,grd⟩:Oper).dst=dst from rfl,bX];exact h x v' hQ⟩)⟩
theorem Tp{l:Array Bool}{f:Nat->Value}(hr:Region.ready .any ops l=[])(h:Reach P Stop (G ((base fn).at ⟨TA n f,[]⟩ (.inRegion ops [] :: k)) cs) S v):∀ fuel,gH P F Stop S fn cs k ops E fuel l ⟨TA n f,[]⟩ v
 |0=>⟨hr,h⟩
 |_+1=>⟨fun _=>h,fun i hi=>by rw[hr]at hi;cases hi⟩
theorem Mj(E:Nat->Bool)(hG:Good P F)(hm:P.follows .mixedOrders=true){id:Nat}{f:Nat->Value}(h:gH P F Stop S fn cs k ops E ops.size (Array.replicate ops.size false) ⟨TA n f,[]⟩ v) :
  Reach P Stop (G ((base fn).at ⟨TA n f,[]⟩ (.code (.region id ops true) :: k)) cs) S v:=by
 refine gY rfl fun W hR=>?_
 refine⟨_,{W with drawn:=W.drawn+1},#[],v,stepG_region_draw,by simp,Nat.le_refl _,fun _ _=>rfl,⟨fun j q hj=>by omega,hR.os,hR.output,hR.size,hR.seen,hR.hid,hR.tame,hR.high⟩,?_⟩
 simp only[Region.schedule,hm,Bool.true_or,if_true,Region.linearise];exact Pt hG _ _ _ _ _ h
theorem Bg{o:Oper}{a:Act}{s x:Operand}{t e:TypeId}{i:TypeInfo}{z:Value}{size bytes:Nat}{u:World}(hop:o.op=Op.call {callee:=Callee.builtin Builtin.append,args:=#[s,x],argTypes:=#[t,t]})(base:Nat)
  (h1:P.underlying t=some (.slice e)) (h2:P.info? e=some i) (h3:i.zero=some z) (h4:i.size=size) (h5:i.bytes=bytes) (h6:z.cells.size=size) (h7:0<size)
  {sv:Value} {n:Nat} {xs:List Value} (hs:a.eval s=sv) (hown:u.ownsRow base e size sv n xs)
  {ad:Addr} {m c:Nat} {news:List Value} (hx:a.eval x=.slice (some ad) m c) (hl:news.length=m*size) (hnews:∀ j y,news[j]?=some y->u.cell? (ad.add j)=some y) (h1c:∀ y∈news,y.oneCell'=true)
  (b1:n+m<=maxLen) (b2:(n+m)*bytes<=140737488355328) (hb:base<=u.heap.size) :
  ∃ v' w',(execOp a.eval o).run P u=.ok (.value v') w'∧w'.ownsRow base e size v' (n+m) (xs++news)∧u.grownBy w' sv.ownBlock∧(v'=.slice none 0 0↔sv=.slice none 0 0∧m=0):=by
 obtain⟨v',w',hrun,q⟩:=run_append_own (P:=P) u base t o.type e i z size bytes h1 h2 h3 h4 h5 h6 h7 sv n xs hown ad m c news hl hnews h1c b1 b2 hb;refine⟨v',w',?_,q⟩;simp[execOp,hop,resolve,invoke,builtin,hs,hx,hrun]
theorem bO{i:Nat}{dst:Option Tmp}{op:Op}{ty:TypeId}{pos:String}{aft:Array Edge}{grd:Option (Nat×Bool)}{rest:List Nat}{f:Nat->Value}{Q:Value->World->Prop}(hG:Good P F)(ho:ops[i]?=some ⟨dst,op,ty,pos,aft,grd⟩)(hw:Region.wanted ⟨dst,op,ty,pos,aft,grd⟩ (yielded ops (TA n f))=true)(hok:bW P F ⟨dst,op,ty,pos,aft,grd⟩=true)
  (h:∀ u,Twin v u->∃ x w',((execOp (Act.eval ⟨TA n f,[]⟩) ⟨dst,op,ty,pos,aft,grd⟩).run P u=.ok (.value x) w'∨((execOp (Act.eval ⟨TA n f,[]⟩) ⟨dst,op,ty,pos,aft,grd⟩).run P u=.ok .skip w'∧x=undef))∧Q x w')
  (hn:∀ x v',Q x v'->Reach P Stop (G ((base fn).at ⟨TA n (aG f dst x),[]⟩ (.inRegion ops rest :: k)) cs) S v') :
  Reach P Stop (G ((base fn).at ⟨TA n f,[]⟩ (.inRegion ops (i :: rest) :: k)) cs) S v:=
 Gd hG ho (.inl ⟨hw,hok,h⟩) fun x v' hQ=>by rw[show(⟨dst,op,ty,pos,aft,grd⟩:Oper).dst=dst from rfl,bX];exact hn x v' hQ
theorem tQ{o:Oper}{a:Act}{x:Operand}{t e:TypeId}{i:TypeInfo}{z y:Value}(hop:o.op=Op.buildSlice t 1 #[(0,x)])
  (h1:P.underlying t=some (.slice e)) (h2:P.info? e=some i) (h3:i.zero=some z) (h4:i.size=1) (h6:z.cells=#[z]) (hx:a.eval x=y) (hy:y.cells=#[y]) (u:World) :
  (execOp a.eval o).run P u=.ok (.value (.slice (some ⟨u.heap.size,0,none⟩) 1 1)) (u.alloc (.cells #[y] e)):=by
 simp[execOp,hop,hx,Instr.buildSlice,run_underlying h1,sizeOf,typeInfo,h2,h4,zeroValue,h3,h6,Instr.fill,hy,newRow];congr 2;apply Array.ext_getElem?;intro c;cases c<;>simp
end
section
variable {P:Program}{F:FuncId->Bool}{Stop:Goroutine->(Nat->Prop)->World->Prop}{S:Nat->Prop}{v0:World}{fn:FuncId}{cs:List Frame}{k:List Item}{n:Nat}{ops:Array Oper}{E:Nat->Bool}
def cJ(ops:Array Oper)(i:Nat):List Nat:=match ops[i]? with
 |some o=>(o.after.toList.filter fun e=>Region.binds .any e).map fun e=>e.on
 |none=>[]
theorem lI{l:Array Bool}{i:Nat}(h:i∈Region.ready .any ops l):∀ a∈cJ ops i,l.getD a false=true:=by
 obtain⟨_,o,ho,hall⟩:=mem_ready.1 h;intro a ha;unfold cJ at ha;rw[ho]at ha;obtain⟨e,he,rfl⟩:=List.mem_map.1 ha;rw[List.mem_filter]at he;exact hall e (by simpa using he.1) he.2
end
variable {P:Program}
theorem yP(y0 y1:Value)(f:Nat->Value):(((Array.map f (Array.range 2)).setIfInBounds 0 y0).setIfInBounds 1 y1)=#[y0,y1]:=by
 apply Array.ext';simp[List.range,List.range.loop]
theorem Cx{o:Oper}{a:Act}{x0 x1:Operand}{t e:TypeId}{i:TypeInfo}{z y0 y1:Value}(hop:o.op=Op.buildSlice t 2 #[(0,x0),(1,x1)])
  (h1:P.underlying t=some (.slice e)) (h2:P.info? e=some i) (h3:i.zero=some z) (h4:i.size=1) (h6:z.cells=#[z]) (hx0:a.eval x0=y0) (hy0:y0.cells=#[y0]) (hx1:a.eval x1=y1) (hy1:y1.cells=#[y1]) (u:World) :
  (execOp a.eval o).run P u=.ok (.value (.slice (some ⟨u.heap.size,0,none⟩) 2 2)) (u.alloc (.cells #[y0,y1] e)):=by
 have q:∀ f:Nat->Value,(((Array.map f (Array.range 2)).setIfInBounds 0 y0).setIfInBounds 1 y1)=#[y0,y1]:=yP y0 y1;simp[execOp,hop,hx0,hy0,hx1,hy1,Instr.buildSlice,run_underlying h1,sizeOf,typeInfo,h2,h4,zeroValue,h3,h6,Instr.fill,newRow];rw[q]
