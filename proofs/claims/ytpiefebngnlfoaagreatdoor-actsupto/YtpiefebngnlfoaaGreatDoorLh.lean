import Derived.Test.YtpiefebngnlfoaaGreatDoorLg
import Derived.Laws.CopyRow
import Derived.Laws.AppendOwn
set_option maxRecDepth 99999
set_option maxHeartbeats 0
set_option linter.unusedVariables false
set_option linter.unusedSimpArgs false
namespace Go.Vw
open Go.Conc Go.ConcN
section
variable {P:Program}{F:FuncId->Bool}{Stop:Goroutine->(Nat->Prop)->World->Prop}{S:Nat->Prop}
theorem mD{g:Goroutine}{v:World}(h:View P S v->Reach P Stop g S v):Reach P Stop g S v:=λgs W sl t q hc=>h hc.rel.view gs W sl t q hc
theorem Nw(hG:Good P F){b:Frame}(hk:b.kind≠.early){ds:List Deferred}{fl:List Frame}{k:List Item}{Rd:Nat->Prop}{Dz:Nat}(hD:Rd Dz){Stop0:Goroutine->World->Prop}(rl:∀tmps todo u,¬Stop0 (eM b (aX Dz) [] tmps todo) u)(XO:∀tmps todo chain u,¬Stop0 (aR b (aX Dz) [] tmps todo chain) u)
  (mz:∀(st:WAt)(u:World),st.Ok P F->(∀u',Ext u u'->Stop0 (st.g b (aX Dz) []) u')->Reach P Stop (st.gk b ds fl k) S u) :
  ∀(m:Nat)(cF:WAt)(v:World),cF.Ok P F->(∃c t fr,v.heap[Dz]?=some (.cells c t fr))->¬S Dz->Goes P true Ext (DW Rd) Stop0 m (cF.g b (aX Dz) []) v->Reach P Stop (cF.gk b ds fl k) S v:=by
 intro m;induction m with
 |zero=>intro cF v dx _ _ hgo;exact mz cF v dx hgo
 |succ m ih=>
  intro cF v dx hB VT hgo;rcases hgo with gy|oh
  .exact mz cF v dx gy
  have EC:cF.Busy:=by
   cases cF using WAt.parts with
   |deep fr inner tmps todo=>trivial
   |top tmps todo=>rintro rfl;exact Ee rl (tmps:=tmps) hB hD oh.2
  refine gJ (by cases cF using WAt.parts<;>rfl) λW hR=>?_
  have CY:∀w₁,Ext v w₁->∃g' w' es,stepG P true (cF.g b (aX Dz) []) w₁ = .go g' w' es∧DW Rd w₁ w' es∧Goes P true Ext (DW Rd) Stop0 m g' w':=by
   intro w₁ hw;have:=oh.2 w₁ hw;cases hs:stepG P true (cF.g b (aX Dz) []) w₁ with
   |go g' w' es=>rw[hs]at this;exact⟨g',w',es,rfl,this.1,this.2⟩
   |_=>rw[hs]at this;exact this.elim
  obtain⟨v',W',es,L,ej,sw,ir,uj⟩:=wY hG hk hD hB dx hR CY;have WB:∃c t fr,v'.heap[Dz]?=some (.cells c t fr):=by obtain⟨c,t,fr,hc⟩:=hB;exact⟨c,t,fr,by rw[sw.seen Dz VT,ir.rd Dz hD VT,<-hR.seen Dz VT];exact hc⟩
  cases uj using fY.parts with
  |@on kq qf DS=>exact⟨_,W',es,v',ej k ds fl (.inl EC),λe he=>(ir.ev e he).1,ir.grown,ir.hidden,sw,ih kq v' qf WB VT DS⟩
  |@back tmps todo ei=>exact absurd (ei v' (.refl v')) (rl _ _ _)
  |@up tmps todo chain ei=>exact absurd (ei v' (.refl v')) (XO _ _ _ _)
end
section
variable {p:Ph}{Stop:Goroutine->(Nat->Prop)->World->Prop}{tag:CTag}{d0:Nat}{a:Goroutine}{n:Nat}{pl:Nat->Nat}{res:Nat->Obj}{R0:Nat->Prop}{v:World}
theorem iE(ok:p.Ok)(dq:a.status=.running)(eu:tag≠.blk)(hb:n-p.L+pend tag<2147483648){a':Goroutine}(h:∀W,stepG p.P true a W=.go a' W #[])(hr:bU p Stop tag d0 a' n pl res R0 v):bU p Stop tag d0 a n pl res R0 v:=
 vU ok dq eu hb λΓ gs W sl t st sm hA=>yQ ok hA (h W) (.refl _ _) hA.wg (by simp) hA.mode rfl λgs t h'=>hr Γ gs W sl t st sm h'
end
section
variable {P:Program}{main:Bool}{Rd:Nat->Prop}{fn:FuncId}{ops:Array Oper}{Q:Exit->Act->World->Prop}
theorem vE{o:Oper}{g i:Nat}{a:Act}{w:World}{t t':TypeId}{x y:Operand}{old:Array Value}{z:Value}
  (dm:o.op=.store t x y) (hx:a.eval x=.pointer (some ⟨g,i,none⟩)) (hy:a.eval y=z) (hz:z.cells=#[z]) (h1:z.oneCell'=true) (du:w.heap[g]?=some (.cells old t')) (hi:i<old.size) (hs:(P.info? t).map (·.size)=some 1) :
  ((execOp a.eval o).run P w=.ok .skip (w.setRow g (old.setIfInBounds i z))∨(execOp a.eval o).run P w=.ok (.value undef) (w.setRow g (old.setIfInBounds i z)))∧
  ∀ev∈listed P fn a o w,ev=⟨.cell ⟨g,i,none⟩,true,false⟩:=by
 have hc:w.cell? ⟨g,i,none⟩=some (old[i]):=by rw[ab w g i old t' (0,0) du];simp[hi]
 have hf:w.frozen? ⟨g,i,none⟩=false:=by simp[World.frozen?,du]
 obtain⟨inf,hq,fo⟩:=Option.map_eq_some_iff.1 hs;have e:=setCell_eq_setRow w g i old t' (0,0) z du;have AG:(⟨g,i,none⟩:Addr).add 0=⟨g,i,none⟩:=by unfold Addr.add;split<;>simp_all
 have hr:(store ⟨g,i,none⟩ z).run P w=.ok () (w.setRow g (old.setIfInBounds i z)):=by rw[run_store P w _ z _ h1,hc];simp[hf,e]
 have he:(store ⟨g,i,none⟩ z).events P w #[]=#[⟨.cell ⟨g,i,none⟩,true,false⟩]:=by rw[events_store P w #[] _ z _ h1,hc];simp[hf]
 constructor
 .unfold execOp;simp only[dm,hx,hy,Instr.storeAt,Instr.sureAddr];simp[storeVar,sizeOf,typeInfo,hq,fo,hz,storeCells,AG,hr]
 .intro ev fu;have hm:=mem_listed fu;unfold execOp at hm;simp only[dm,hx,hy,Instr.storeAt,Instr.sureAddr]at hm;simp[storeVar,sizeOf,typeInfo,hq,fo,hz,storeCells,AG,hr,he]at hm;exact hm
theorem rH{i:Nat}{rest:List Nat}{o:Oper}{n g j:Nat}{a:Act}{w:World}{t t':TypeId}{x y:Operand}{old:Array Value}{z:Value}
  (ho:ops[i]?=some o) (hw:Region.wanted o (yielded ops a.tmps)=true) (dm:o.op=.store t x y) (hx:a.eval x=.pointer (some ⟨g,j,none⟩)) (hy:a.eval y=z) (hz:z.cells=#[z]) (h1:z.oneCell'=true) (du:w.heap[g]?=some (.cells old t')) (hj:j<old.size) (hs:(P.info? t).map (·.size)=some 1) (hg:¬Rd g)
  (ee:∀w₁,Ext w w₁->OpsC P main Ext (DW Rd) fn ops rest n Q (a.put o.dst undef) (w₁.setRow g (old.setIfInBounds j z))):OpsC P main Ext (DW Rd) fn ops (i::rest) (n+1) Q a w:=by
 refine opsC_cons_k ho hw λw₁ hR K hK=>?_
 obtain⟨dq,fu⟩:=vE (P:=P) (fn:=fn) (w:=w₁) dm hx hy hz h1 (hR.row du) hj hs;have hD:DW Rd w₁ (w₁.setRow g (old.setIfInBounds j z)) (listed P fn a o w₁):=⟨⟨rfl,rfl⟩,λb hb=>setRow_other _ _ _ _ (λe=>hg (e▸hb)),λe he=>by rw[fu e he];exact⟨_,rfl,rfl,λ_=>hg⟩⟩
 rcases dq with dq|dq<;>rw[dq]
 .exact hK _ _ ⟨hD,ee _ hR⟩
 .exact hK _ _ ⟨hD,ee _ hR⟩
def tB(P:Program)(t:TypeId):Bool:=
 match P.underlying t with
 |some (.slice e)=>
  match P.info? e with
  |some i=>i.size==1&&i.bytes==1&&(match i.zero with|some (.int k n)=>decide (k=.u8)&&decide (n=0)|_=>false)
  |_=>false
 |_=>false
theorem Aj{t:TypeId}(h:tB P t=true):∃e inf,P.underlying t=some (.slice e)∧P.info? e=some inf∧inf.size=1∧inf.bytes=1∧inf.zero=some (.int .u8 0):=by
 unfold tB at h;split at h
 .split at h
  .simp only[bq,beq_iff_eq]at h;obtain⟨⟨h1,h2⟩,h3⟩:=h;split at h3
   .rename_i k n hz;simp only[bq,decide_eq_true_eq]at h3;obtain⟨rfl,rfl⟩:=h3;exact⟨_,_,by assumption,by assumption,h1,h2,hz⟩
   .cases h3
  .cases h
 .cases h
end
theorem Um{P:Program}{R:World->World->Prop}{D:World->World->Array Event->Prop}(T:Terms R D){fn:FuncId}{a:Act}{o:Oper}{w:World}(h:(execOp a.eval o).events P w #[]=#[]):D w w (listed P fn a o w):=by rw[listed_nil h];exact T.idle _
theorem pC{P:Program}{main:Bool}{b:Frame}{a:Act}{k:List Item}{cs:List Frame}{w:World}{ops:Array Oper}{i:Nat}{rest:List Nat}{o:Oper}{f:FuncId}{fn:Func}{c:Code}{args:Array Operand}{gq:Array TypeId}{vs:Array Value}
  (ho:ops[i]?=some o) (hw:Region.wanted o (yielded ops a.tmps)=true) (hk:b.kind≠.early) (dm:o.op=.call {callee:=.value (.func f),args,argTypes:=gq})
  (hf:P.funcs[f]?=some fn) (fv:(fn.name == "runtime.NumGoroutine")=false) (hb:fn.body=some c) (qe:args.map a.eval=vs) :
  stepG P main (G (b.at a (.inRegion ops (i::rest)::k)) cs) w=.go (G (Frame.enter P f vs .normal) (b.at a (.inRegion ops (i::rest)::k)::cs)) w #[]:=by
 have ic:fn.body.isNone=false:=by rw[hb];rfl
 subst qe;rw[stepG_enter ho hw hk (run_call_body dm hf fv ic)];have:listed P b.fn a o w=#[]:=by unfold listed;rw[events_call_body dm hf fv ic];exact seen_none P _
 rw[this]
section
variable {p:Ph}{Stop:Goroutine->(Nat->Prop)->World->Prop}{tag:CTag}{d0:Nat}{n:Nat}{pl:Nat->Nat}{res:Nat->Obj}{R0:Nat->Prop}{v:World}{fn:FuncId}{cs:List Frame}{k:List Item}{tmps:Array Value}
theorem kV(ok:p.Ok)(eu:tag≠.blk)(hb:n-p.L+pend tag<2147483648){c:Code}(dx:okCode p.P p.F c=true){N:Nat}{Post:Array Value->World->Prop}(EL:∀t x y,Ext x y->Post t x->Post t y)
  (hw:c.wpC p.P true Ext (DW R0) fn N (λe a w=>e=.normal∧a.defers=aX p.Dz∧Post a.tmps w) ⟨tmps,aX p.Dz⟩ v)
  (hn:∀tmps' v',Post tmps' v'->bU p Stop tag d0 (G ((base fn).at ⟨tmps',[]⟩ k) cs) n pl res R0 v'):bU p Stop tag d0 (G ((base fn).at ⟨tmps,[]⟩ (.code c::k)) cs) n pl res R0 v:=by
 refine Mf ok eu hb (b:=base fn) (by simp[base]) (ds:=[]) (fl:=cs) (k:=k) (Stop0:=λg w=>∃t,g=G ((base fn).at ⟨t,aX p.Dz⟩ []) []∧Post t w) ?_ ?_ ?_ (0+N) (.top tmps [.code c]) v ⟨λx hx=>?_⟩ ?_
 .rintro tm todo u ⟨t,e,_⟩;simp[eM,G,Frame.at,base]at e
 .rintro tm todo chain u ⟨t,e,_⟩;simp[aR,G,Frame.at,Frame.raise,base]at e
 .intro st u ei hs;obtain⟨t,e,hp⟩:=hs u (.refl u);cases st using WAt.parts with
  |top tm todo=>simp only[WAt.g,WAt.top,WAt.deep,G,Frame.at,Goroutine.mk.injEq,Frame.mk.injEq,true_and,and_true]at e;obtain⟨rfl,rfl⟩:=e;exact hn _ _ hp
  |deep fr inner tm todo=>simp[WAt.g,WAt.deep,WAt.top,G]at e
 .simp only[WAt.top,List.mem_singleton]at hx;subst hx;exact dx
 .refine hw (base fn) [] [] _ 0 rfl (by simp[base]) λe a w q=>?_
  obtain⟨rfl,hd,hp⟩:=q;intro w₁ hR;refine⟨a.tmps,?_,EL _ _ _ hR hp⟩;rw[<-hd]
theorem iD(ok:p.Ok)(eu:tag≠.blk)(hb:n-p.L+pend tag<2147483648){x y:Code}(h:bU p Stop tag d0 (G ((base fn).at ⟨tmps,[]⟩ (.code x::.code y::k)) cs) n pl res R0 v):bU p Stop tag d0 (G ((base fn).at ⟨tmps,[]⟩ (.code (.seq x y)::k)) cs) n pl res R0 v:=
 iE ok rfl eu hb (λ_=>stepG_seq) h
theorem Bh(ok:p.Ok)(eu:tag≠.blk)(hb:n-p.L+pend tag<2147483648)(h:bU p Stop tag d0 (G ((base fn).at ⟨tmps,[]⟩ k) cs) n pl res R0 v):bU p Stop tag d0 (G ((base fn).at ⟨tmps,[]⟩ (.code .skip::k)) cs) n pl res R0 v:=
 iE ok rfl eu hb (λ_=>stepG_skip) h
theorem Ao(ok:p.Ok)(eu:tag≠.blk)(hb:n-p.L+pend tag<2147483648){id:Nat}{c:Code}(h:bU p Stop tag d0 (G ((base fn).at ⟨tmps,[]⟩ (.code c::.inBlock id::k)) cs) n pl res R0 v):bU p Stop tag d0 (G ((base fn).at ⟨tmps,[]⟩ (.code (.block id c)::k)) cs) n pl res R0 v:=
 iE ok rfl eu hb (λ_=>stepG_block) h
theorem Jm(ok:p.Ok)(eu:tag≠.blk)(hb:n-p.L+pend tag<2147483648){id:Nat}(h:bU p Stop tag d0 (G ((base fn).at ⟨tmps,[]⟩ k) cs) n pl res R0 v):bU p Stop tag d0 (G ((base fn).at ⟨tmps,[]⟩ (.inBlock id::k)) cs) n pl res R0 v:=
 iE ok rfl eu hb (λ_=>stepG_inBlock) h
theorem Mh(ok:p.Ok)(eu:tag≠.blk)(hb:n-p.L+pend tag<2147483648){c:Code}(h:bU p Stop tag d0 (G ((base fn).at ⟨tmps,[]⟩ (.code c::.inLoop c::k)) cs) n pl res R0 v):bU p Stop tag d0 (G ((base fn).at ⟨tmps,[]⟩ (.code (.loop c)::k)) cs) n pl res R0 v:=
 iE ok rfl eu hb (λ_=>stepG_loop) h
theorem Jw(ok:p.Ok)(eu:tag≠.blk)(hb:n-p.L+pend tag<2147483648){c:Code}(h:bU p Stop tag d0 (G ((base fn).at ⟨tmps,[]⟩ (.code c::.inLoop c::k)) cs) n pl res R0 v):bU p Stop tag d0 (G ((base fn).at ⟨tmps,[]⟩ (.inLoop c::k)) cs) n pl res R0 v:=
 iE ok rfl eu hb (λ_=>stepG_inLoop) h
theorem Bi(ok:p.Ok)(eu:tag≠.blk)(hb:n-p.L+pend tag<2147483648){id:Nat}{k':List Item}(hk:exitTo id k=some k')(h:bU p Stop tag d0 (G ((base fn).at ⟨tmps,[]⟩ k') cs) n pl res R0 v):bU p Stop tag d0 (G ((base fn).at ⟨tmps,[]⟩ (.code (.exit id)::k)) cs) n pl res R0 v:=
 iE ok rfl eu hb (λ_=>stepG_exit hk) h
theorem vV(ok:p.Ok)(eu:tag≠.blk)(hb:n-p.L+pend tag<2147483648){c:Operand}{x y:Code}{t:Bool}(hc:(⟨tmps,[]⟩:Act).eval c=.bool t)(h:bU p Stop tag d0 (G ((base fn).at ⟨tmps,[]⟩ (.code (if t then x else y)::k)) cs) n pl res R0 v):bU p Stop tag d0 (G ((base fn).at ⟨tmps,[]⟩ (.code (.cond c x y)::k)) cs) n pl res R0 v:=
 iE ok rfl eu hb (λ_=>stepG_cond hc) h
theorem vA(ok:p.Ok)(eu:tag≠.blk)(hb:n-p.L+pend tag<2147483648){id:Nat}{ops:Array Oper}(h:bU p Stop tag d0 (G ((base fn).at ⟨tmps,[]⟩ (.inRegion ops (List.range ops.size)::k)) cs) n pl res R0 v):bU p Stop tag d0 (G ((base fn).at ⟨tmps,[]⟩ (.code (.region id ops false)::k)) cs) n pl res R0 v:=
 iE ok rfl eu hb (λ_=>stepG_region) h
theorem uV(ok:p.Ok)(eu:tag≠.blk)(hb:n-p.L+pend tag<2147483648){ops:Array Oper}(h:bU p Stop tag d0 (G ((base fn).at ⟨tmps,[]⟩ k) cs) n pl res R0 v):bU p Stop tag d0 (G ((base fn).at ⟨tmps,[]⟩ (.inRegion ops []::k)) cs) n pl res R0 v:=
 iE ok rfl eu hb (λ_=>stepG_region_end) h
end
section
variable {P:Program}{Stop:Goroutine->(Nat->Prop)->World->Prop}{S:Nat->Prop}{v:World}{fn:FuncId}{cs:List Frame}{k:List Item}{tmps:Array Value}
theorem pQ{x y:Code}(h:Reach P Stop (G ((base fn).at ⟨tmps,[]⟩ (.code x::.code y::k)) cs) S v):Reach P Stop (G ((base fn).at ⟨tmps,[]⟩ (.code (.seq x y)::k)) cs) S v:=cP rfl (λ_=>stepG_seq) h
theorem wG(h:Reach P Stop (G ((base fn).at ⟨tmps,[]⟩ k) cs) S v):Reach P Stop (G ((base fn).at ⟨tmps,[]⟩ (.code .skip::k)) cs) S v:=cP rfl (λ_=>stepG_skip) h
theorem Mb{id:Nat}{c:Code}(h:Reach P Stop (G ((base fn).at ⟨tmps,[]⟩ (.code c::.inBlock id::k)) cs) S v):Reach P Stop (G ((base fn).at ⟨tmps,[]⟩ (.code (.block id c)::k)) cs) S v:=cP rfl (λ_=>stepG_block) h
theorem Jv{id:Nat}(h:Reach P Stop (G ((base fn).at ⟨tmps,[]⟩ k) cs) S v):Reach P Stop (G ((base fn).at ⟨tmps,[]⟩ (.inBlock id::k)) cs) S v:=cP rfl (λ_=>stepG_inBlock) h
theorem Nz{c:Code}(h:Reach P Stop (G ((base fn).at ⟨tmps,[]⟩ (.code c::.inLoop c::k)) cs) S v):Reach P Stop (G ((base fn).at ⟨tmps,[]⟩ (.code (.loop c)::k)) cs) S v:=cP rfl (λ_=>stepG_loop) h
theorem Kr{c:Code}(h:Reach P Stop (G ((base fn).at ⟨tmps,[]⟩ (.code c::.inLoop c::k)) cs) S v):Reach P Stop (G ((base fn).at ⟨tmps,[]⟩ (.inLoop c::k)) cs) S v:=cP rfl (λ_=>stepG_inLoop) h
theorem bC{id:Nat}{k':List Item}(hk:exitTo id k=some k')(h:Reach P Stop (G ((base fn).at ⟨tmps,[]⟩ k') cs) S v):Reach P Stop (G ((base fn).at ⟨tmps,[]⟩ (.code (.exit id)::k)) cs) S v:=cP rfl (λ_=>stepG_exit hk) h
theorem Cm{c:Operand}{x y:Code}{t:Bool}(hc:(⟨tmps,[]⟩:Act).eval c=.bool t)(h:Reach P Stop (G ((base fn).at ⟨tmps,[]⟩ (.code (if t then x else y)::k)) cs) S v):Reach P Stop (G ((base fn).at ⟨tmps,[]⟩ (.code (.cond c x y)::k)) cs) S v:=cP rfl (λ_=>stepG_cond hc) h
theorem An{id:Nat}{ops:Array Oper}(h:Reach P Stop (G ((base fn).at ⟨tmps,[]⟩ (.inRegion ops (List.range ops.size)::k)) cs) S v):Reach P Stop (G ((base fn).at ⟨tmps,[]⟩ (.code (.region id ops false)::k)) cs) S v:=cP rfl (λ_=>stepG_region) h
def tO:Nat->List Oper->List Nat
 |_,[]=>[]
 |i,_::l=>i::tO (i+1) l
theorem yY:∀(l:List Oper)(i:Nat),tO i l=(List.range l.length).map (· + i)
 |[],i=>rfl
 |_::l,i=>by
  rw[tO,yY l (i+1),av,List.range_succ_eq_map,List.map_cons,List.map_map];refine congr (congrArg List.cons (by omega)) (List.map_congr_left λa _=>?_)
  show a+(i+1)=a+1+i;omega
theorem rR{id:Nat}{ops:List Oper}(h:Reach P Stop (G ((base fn).at ⟨tmps,[]⟩ (.inRegion ops.toArray (tO 0 ops)::k)) cs) S v):Reach P Stop (G ((base fn).at ⟨tmps,[]⟩ (.code (.region id ops.toArray false)::k)) cs) S v:=
 An (by rw[yY]at h;simpa using h)
theorem rA{x y:Code}(h:Reach P Stop (G ((base fn).at ⟨tmps,[]⟩ (.code x::.code y::k)) cs) S v):Reach P Stop (G ((base fn).at ⟨tmps,[]⟩ (.code (.seq x y)::k)) cs) S v:=pQ h
theorem rB(h:Reach P Stop (G ((base fn).at ⟨tmps,[]⟩ k) cs) S v):Reach P Stop (G ((base fn).at ⟨tmps,[]⟩ (.code .skip::k)) cs) S v:=wG h
theorem rC{id:Nat}{c:Code}(h:Reach P Stop (G ((base fn).at ⟨tmps,[]⟩ (.code c::.inBlock id::k)) cs) S v):Reach P Stop (G ((base fn).at ⟨tmps,[]⟩ (.code (.block id c)::k)) cs) S v:=Mb h
theorem rD{id:Nat}(h:Reach P Stop (G ((base fn).at ⟨tmps,[]⟩ k) cs) S v):Reach P Stop (G ((base fn).at ⟨tmps,[]⟩ (.inBlock id::k)) cs) S v:=Jv h
theorem rE{ops:Array Oper}(h:Reach P Stop (G ((base fn).at ⟨tmps,[]⟩ k) cs) S v):Reach P Stop (G ((base fn).at ⟨tmps,[]⟩ (.inRegion ops []::k)) cs) S v:=cP rfl (λ_=>stepG_region_end) h
theorem Je{ops:Array Oper}(h:Reach P Stop (G ((base fn).at ⟨tmps,[]⟩ k) cs) S v):Reach P Stop (G ((base fn).at ⟨tmps,[]⟩ (.inRegion ops []::k)) cs) S v:=cP rfl (λ_=>stepG_region_end) h
theorem gQ(h:Reach P Stop (G {(base fn).at ⟨tmps,[]⟩ []with mode:=.returning} cs) S v):Reach P Stop (G ((base fn).at ⟨tmps,[]⟩ []) cs) S v:=cP rfl (λ_=>stepG_end) h
theorem aM(h:∀todo,Reach P Stop (G {(base fn).at ⟨tmps,[]⟩ todo with mode:=.returning} cs) S v):Reach P Stop (G ((base fn).at ⟨tmps,[]⟩ (.code .ret::k)) cs) S v:=cP rfl (λ_=>stepG_ret') (h _)
theorem Ku{ops:Array Oper}{i:Nat}{rest:List Nat}{o:Oper}{f:FuncId}{g:Func}{c:Code}{args:Array Operand}{gq:Array TypeId}{vs:Array Value}
  (ho:ops[i]?=some o) (hw:Region.wanted o (yielded ops tmps)=true) (dm:o.op=.call {callee:=.value (.func f),args,argTypes:=gq})
  (hf:P.funcs[f]?=some g) (fv:(g.name == "runtime.NumGoroutine")=false) (hb:g.body=some c) (qe:args.map (⟨tmps,[]⟩:Act).eval=vs)
  (h:Reach P Stop (G (Frame.enter P f vs .normal) ((base fn).at ⟨tmps,[]⟩ (.inRegion ops (i::rest)::k)::cs)) S v):Reach P Stop (G ((base fn).at ⟨tmps,[]⟩ (.inRegion ops (i::rest)::k)) cs) S v:=
 cP rfl (λw=>pC ho hw (by simp[base]) dm hf fv hb qe) h
theorem wJ{F:FuncId->Bool}(hG:Good P F){c:Code}(dx:okCode P F c=true){Rd:Nat->Prop}{Dz:Nat}(hD:Rd Dz)(hB:∃c t fr,v.heap[Dz]?=some (.cells c t fr))(hS:¬S Dz){N:Nat}{Post:Array Value->World->Prop}(EL:∀t x y,Ext x y->Post t x->Post t y)
  (hw:c.wpC P true Ext (DW Rd) fn N (λe a w=>e=.normal∧a.defers=aX Dz∧Post a.tmps w) ⟨tmps,aX Dz⟩ v)
  (hn:∀tmps' v',Post tmps' v'->Reach P Stop (G ((base fn).at ⟨tmps',[]⟩ k) cs) S v'):Reach P Stop (G ((base fn).at ⟨tmps,[]⟩ (.code c::k)) cs) S v:=by
 refine Nw hG (b:=base fn) (by simp[base]) (ds:=[]) (fl:=cs) (k:=k) hD (Stop0:=λg w=>∃t,g=G ((base fn).at ⟨t,aX Dz⟩ []) []∧Post t w) ?_ ?_ ?_ (0+N) (.top tmps [.code c]) v ⟨λx hx=>?_⟩ hB hS ?_
 .rintro tm todo u ⟨t,e,_⟩;simp[eM,G,Frame.at,base]at e
 .rintro tm todo chain u ⟨t,e,_⟩;simp[aR,G,Frame.at,Frame.raise,base]at e
 .intro st u ei hs;obtain⟨t,e,hp⟩:=hs u (.refl u);cases st using WAt.parts with
  |top tm todo=>simp only[WAt.g,WAt.top,WAt.deep,G,Frame.at,Goroutine.mk.injEq,Frame.mk.injEq,true_and,and_true]at e;obtain⟨rfl,rfl⟩:=e;exact hn _ _ hp
  |deep fr inner tm todo=>simp[WAt.g,WAt.deep,WAt.top,G]at e
 .simp only[WAt.top,List.mem_singleton]at hx;subst hx;exact dx
 .refine hw (base fn) [] [] _ 0 rfl (by simp[base]) λe a w q=>?_
  obtain⟨rfl,hd,hp⟩:=q;intro w₁ hR;refine⟨a.tmps,?_,EL _ _ _ hR hp⟩;rw[<-hd]
end
open Go.Conc
theorem Ij(a:Int)(h1:-9223372036854775808<=a)(h2:a<=9223372036854775807):IntKind.i64.wrap a=a:=by rw[IntKind.wrap_i64];omega
theorem Q3(a:Int)(h1:0<=a)(h2:a<=255):IntKind.u8.wrap a=a:=by rw[IntKind.wrap_u8];omega
theorem wI(a:Int)(h1:-9223372036854775808<=a:=by omega)(h2:a<=9223372036854775807:=by omega):IntKind.i64.wrap a=a:=Ij a h1 h2
theorem wU(a:Int)(h1:0<=a:=by omega)(h2:a<=255:=by omega):IntKind.u8.wrap a=a:=Q3 a h1 h2
def st(f:Nat->Value)(d:Nat)(x:Value)(i:Nat):Value:=if i=d then x else f i
@[simp] theorem st_apply (f:Nat->Value) (d:Nat) (x:Value) (i:Nat):st f d x i=if i=d then x else f i:=rfl
def aG(f:Nat->Value)(d:Option Nat)(x:Value):Nat->Value:=
 match d with
 |some d=>st f d x
 |none=>f
@[simp] theorem stO_some (f:Nat->Value) (d:Nat) (x:Value):aG f (some d) x=st f d x:=rfl
@[simp] theorem stO_none (f:Nat->Value) (x:Value):aG f none x=f:=rfl
theorem sS(f:Nat->Value)(d:Nat)(x:Value):aG f (some d) x=st f d x:=rfl
theorem sN(f:Nat->Value)(x:Value):aG f none x=f:=rfl
def TA(n:Nat)(f:Nat->Value):Array Value:=(Array.range n).map f
theorem eC{n i:Nat}{f:Nat->Value}(h:i<n):(TA n f)[i]?=some (f i):=by simp[TA,h]
@[simp] theorem TA_getD {n i:Nat} {f:Nat->Value} (h:i<n):(TA n f)[i]?.getD undef=f i:=by simp[TA,h]
theorem Ys(n:Nat)(f:Nat->Value):(TA n f).size=n:=by simp[TA]
theorem R1{n d:Nat}{f:Nat->Value}{x:Value} : (TA n f).setIfInBounds d x=TA n (st f d x):=by
 apply au;intro c;rw[aj];by_cases e:d=c
 .subst e;by_cases hi:d<n<;>simp[TA,hi,st]
 .rw[ah e];by_cases hi:c<n<;>simp[TA,hi,st,show ¬c=d from λx=>e x.symm]
theorem cC{n:Nat}{f:Nat->Value}{d:Option Nat}{x:Value}{ds:List Deferred} : Act.put ⟨TA n f,ds⟩ d x=⟨TA n (aG f d x),ds⟩:=by
 cases d with
 |none=>rfl
 |some d=>simp only[Act.put,aG,R1]
def eG(args:Array Value)(i:Nat):Value:=args[i]?.getD undef
theorem qA{n:Nat}{args:Array Value}(h:args.size<=n):args++Array.replicate (n-args.size) undef=TA n (eG args):=by
 apply au;intro c;by_cases hc:c<n
 .rw[eC hc];by_cases ha:c<args.size
  .rw[Array.getElem?_append_left ha];simp[eG,ha]
  .rw[Array.getElem?_append_right (by omega),Array.getElem?_replicate,ai (by omega)];simp[eG,ha]
 .rw[af (by simp;omega),af (by rw[Ys];omega)]
def zL(o:Oper)(f:Nat->Value)(K:(Nat->Value)->World->Prop):Result Go.Next->Prop
 |.ok (.value x) w'=>K (aG f o.dst x) w'
 |.ok .skip w'=>K (aG f o.dst undef) w'
 |_=>False
@[simp] theorem uponF_value (o:Oper) (f:Nat->Value) (K:(Nat->Value)->World->Prop) (x:Value) (w:World):zL o f K (.ok (.value x) w)=K (aG f o.dst x) w:=rfl
@[simp] theorem uponF_skip (o:Oper) (f:Nat->Value) (K:(Nat->Value)->World->Prop) (w:World):zL o f K (.ok .skip w)=K (aG f o.dst undef) w:=rfl
@[simp] theorem eval_TA {n i:Nat} {f:Nat->Value} {ds:List Deferred} (h:i<n):Act.eval ⟨TA n f,ds⟩ (.tmp i)=f i:=by simp[Act.eval,h]
@[simp] theorem eval_const (a:Act) (x:Value):a.eval (.const x)=x:=rfl
section
variable {P:Program}{F:FuncId->Bool}{Stop:Goroutine->(Nat->Prop)->World->Prop}{S:Nat->Prop}{v:World}{fn:FuncId}{cs:List Frame}{k:List Item}{n:Nat}{f:Nat->Value}{ops:Array Oper}{i:Nat}{rest:List Nat}{o:Oper}{dst:Option Tmp}{op:Op}{ty:TypeId}{pos:String}{dw:Array Edge}{dv:Option (Nat×Bool)}
theorem tF(hG:Good P F)(ho:ops[i]?=some o)(hw:Region.wanted o (yielded ops (TA n f))=true)(dx:bW P F o=true)
  (h:∀u,Twin v u->∀K:(Nat->Value)->World->Prop,(∀f' w',Reach P Stop (G ((base fn).at ⟨TA n f',[]⟩ (.inRegion ops rest::k)) cs) S w'->K f' w')->zL o f K ((execOp (Act.eval ⟨TA n f,[]⟩) o).run P u)) :
  Reach P Stop (G ((base fn).at ⟨TA n f,[]⟩ (.inRegion ops (i::rest)::k)) cs) S v:=by
 refine gJ rfl λW hR=>?_
 let u:World:={v with tape:=W.tape,drawn:=W.drawn};have hu:Twin v u:=⟨rfl,rfl,rfl⟩;have h1:=h u hu _ λ_ _ x=>x
 have hρ : ∀g,(⟨TA n f,[]⟩:Act).eval (.func g)=.func (.func g) #[] #[]:=λg=>rfl
 have sa:=aA.execOp (S:=S) hG.cc hG.closed hρ dx;have e1:=Sem.runT_fst P (execOp (Act.eval ⟨TA n f,[]⟩) o) u #[];have e2:=Sem.runT_fst P (execOp (Act.eval ⟨TA n f,[]⟩) o) W #[];cases jj:(execOp (Act.eval ⟨TA n f,[]⟩) o).runT P u #[]with
 |mk r fw=>
 rw[jj]at e1;simp only at e1;rw[<-e1]at h1;have main:∀(nx:Go.Next)(w':World),r=.ok nx w'->∃W' es,(execOp (Act.eval ⟨TA n f,[]⟩) o).run P W=.ok nx W'∧listed P fn ⟨TA n f,[]⟩ o W=es∧(∀e∈es,fI S W'.heap.size e)∧W.heap.size<=W'.heap.size∧(∀b,S b->W'.heap[b]?=W.heap[b]?)∧Rel P S 0 w' W':=by
  intro nx w' hr;subst hr;have zd:Rel P S w'.drawn u W:=⟨λj q _=>rfl,hR.os,hR.output,hR.size,hR.seen,hR.hid,hR.tame,hR.high⟩
  have hA:=sa w'.drawn u W #[] zd;rw[jj]at hA;obtain⟨W',e,g⟩:=hA (ae _);have hK:=lB (P:=P) (execOp (Act.eval ⟨TA n f,[]⟩) o) W #[];rw[e]at hK e2;refine⟨W',_,e2.symm,rfl,λx hx=>?_,hK.size,g.hidden,g.rel.zero⟩
  have hm:=mem_listed hx;have e3:(execOp (Act.eval ⟨TA n f,[]⟩) o).events P W #[]=fw:=by unfold Sem.events;rw[e]
  rw[e3]at hm;obtain⟨l,el,hl⟩:=g.grow;have jh:x∈fw.toList:=by simpa using hm
  rw[el]at jh;simp at jh;have:=hl x jh;rwa [g.rel.size]at this
 cases r with
 |halt y w'=>exact h1.elim
 |ok nx w'=>
  obtain⟨W',es,dq,hl,fu,fo,vy,QS⟩:=main nx w' rfl;cases nx with
  |value x=>refine⟨_,W',es,w',?_,fu,fo,vy,QS,h1⟩;rw[stepG_value ho hw (by simp[base]) dq,cC,<-hl];rfl
  |skip=>refine⟨_,W',es,w',?_,fu,fo,vy,QS,h1⟩;rw[stepG_none ho hw (by simp[base]) dq,cC,<-hl];rfl
  |_=>exact h1.elim
theorem bV(hG:Good P F)(ho:ops[i]?=some ⟨dst,op,ty,pos,dw,dv⟩)(hw:Region.wanted ⟨dst,op,ty,pos,dw,dv⟩ (yielded ops (TA n f))=true)(dx:bW P F ⟨dst,op,ty,pos,dw,dv⟩=true){x:Value}
  (h:∀u,Twin v u->(execOp (Act.eval ⟨TA n f,[]⟩) ⟨dst,op,ty,pos,dw,dv⟩).run P u=.ok (.value x) u)
  (hn:Reach P Stop (G ((base fn).at ⟨TA n (aG f dst x),[]⟩ (.inRegion ops rest::k)) cs) S v) :
  Reach P Stop (G ((base fn).at ⟨TA n f,[]⟩ (.inRegion ops (i::rest)::k)) cs) S v:=by
 refine tF hG ho hw dx λu hu K hK=>?_
 rw[h u hu];exact hK _ _ (Reach.twin ⟨hu.heap.symm,hu.os.symm,hu.output.symm⟩ hn)
def uA(K:Value->World->Prop):Result Go.Next->Prop
 |.ok (.value x) w'=>K x w'
 |_=>False
@[simp] theorem uponV_value (K:Value->World->Prop) (x:Value) (w:World):uA K (.ok (.value x) w)=K x w:=rfl
theorem Kk(hG:Good P F)(ho:ops[i]?=some ⟨dst,op,ty,pos,dw,dv⟩)(hw:Region.wanted ⟨dst,op,ty,pos,dw,dv⟩ (yielded ops (TA n f))=true)(dx:bW P F ⟨dst,op,ty,pos,dw,dv⟩=true)
  (h:∀u,Twin v u->∀K:Value->World->Prop,(∀x,Reach P Stop (G ((base fn).at ⟨TA n (aG f dst x),[]⟩ (.inRegion ops rest::k)) cs) S v->K x u)->uA K ((execOp (Act.eval ⟨TA n f,[]⟩) ⟨dst,op,ty,pos,dw,dv⟩).run P u)) :
  Reach P Stop (G ((base fn).at ⟨TA n f,[]⟩ (.inRegion ops (i::rest)::k)) cs) S v:=by
 refine tF hG ho hw dx λu hu K hK=>?_
 have h1:=h u hu (λx w=>K (aG f dst x) w) λx hx=>hK _ _ (Reach.twin ⟨hu.heap.symm,hu.os.symm,hu.output.symm⟩ hx)
 cases hr:(execOp (Act.eval ⟨TA n f,[]⟩) ⟨dst,op,ty,pos,dw,dv⟩).run P u with
 |halt y w'=>rw[hr]at h1;exact h1.elim
 |ok nx w'=>
  rw[hr]at h1;cases nx with
  |value x=>exact h1
  |_=>exact h1.elim
theorem rO(hG:Good P F)(ho:ops[i]?=some ⟨dst,op,ty,pos,dw,dv⟩)
  (h:∀u,Twin v u->∀K:Value->World->Prop,(∀x,Reach P Stop (G ((base fn).at ⟨TA n (aG f dst x),[]⟩ (.inRegion ops rest::k)) cs) S v->K x u)->uA K ((execOp (Act.eval ⟨TA n f,[]⟩) ⟨dst,op,ty,pos,dw,dv⟩).run P u))
  (hw:Region.wanted ⟨dst,op,ty,pos,dw,dv⟩ (yielded ops (TA n f))=true:=by first|rfl|(simp[Region.wanted,yielded,eC, *];first|done|fail)) (dx:bW P F ⟨dst,op,ty,pos,dw,dv⟩=true:=by kernel_rfl) :
  Reach P Stop (G ((base fn).at ⟨TA n f,[]⟩ (.inRegion ops (i::rest)::k)) cs) S v:=Kk hG ho hw dx h
theorem wH(ho:ops[i]?=some ⟨dst,op,ty,pos,dw,dv⟩)(hw:Region.wanted ⟨dst,op,ty,pos,dw,dv⟩ (yielded ops (TA n f))=false)
  (hn:Reach P Stop (G ((base fn).at ⟨TA n (aG f dst undef),[]⟩ (.inRegion ops rest::k)) cs) S v) :
  Reach P Stop (G ((base fn).at ⟨TA n f,[]⟩ (.inRegion ops (i::rest)::k)) cs) S v:=
 cP rfl (λw=>by rw[stepG_unwanted ho hw,cC]) hn
theorem kE(hG:Good P F)(ho:ops[i]?=some ⟨dst,op,ty,pos,dw,dv⟩)(hw:Region.wanted ⟨dst,op,ty,pos,dw,dv⟩ (yielded ops (TA n f))=true)(dx:bW P F ⟨dst,op,ty,pos,dw,dv⟩=true){x:Value}{v':World}
  (h:∀u,Twin v u->∃w',Twin v' w'∧((execOp (Act.eval ⟨TA n f,[]⟩) ⟨dst,op,ty,pos,dw,dv⟩).run P u=.ok (.value x) w'∨((execOp (Act.eval ⟨TA n f,[]⟩) ⟨dst,op,ty,pos,dw,dv⟩).run P u=.ok .skip w'∧x=undef)))
  (hn:Reach P Stop (G ((base fn).at ⟨TA n (aG f dst x),[]⟩ (.inRegion ops rest::k)) cs) S v') :
  Reach P Stop (G ((base fn).at ⟨TA n f,[]⟩ (.inRegion ops (i::rest)::k)) cs) S v:=by
 refine tF hG ho hw dx λu hu K hK=>?_
 obtain⟨w',ht,h'|⟨h',hx⟩⟩:=h u hu
 .rw[h'];exact hK _ _ (Reach.twin ⟨ht.heap.symm,ht.os.symm,ht.output.symm⟩ hn)
 .rw[h'];subst hx;exact hK _ _ (Reach.twin ⟨ht.heap.symm,ht.os.symm,ht.output.symm⟩ hn)
def aJ(P:Program)(g:FuncId)(args:Array Value)(S:Nat->Prop)(v:World)(Post:Value->(Nat->Prop)->World->Prop):Prop:=
 ∀(Stop:Goroutine->(Nat->Prop)->World->Prop)(c:Frame)(cs:List Frame),(∀x S' v',View P S' v'->Post x S' v'->Reach P Stop (G (c.finish x) cs) S' v')->Reach P Stop (G (Frame.enter P g args .normal) (c::cs)) S v
theorem aJ.mono{g:FuncId}{args:Array Value}{Post wx:Value->(Nat->Prop)->World->Prop}(h:aJ P g args S v Post)(hp:∀x S' v',View P S' v'->Post x S' v'->wx x S' v'):aJ P g args S v wx:=
 λStop c cs hr=>h Stop c cs λx S' v' hv q=>hr x S' v' hv (hp x S' v' hv q)
theorem vT{g:FuncId}{gf:Func}{c:Code}{args:Array Operand}{gq:Array TypeId}{vs:Array Value}{Post:Value->(Nat->Prop)->World->Prop}
  (ho:ops[i]?=some ⟨dst,op,ty,pos,dw,dv⟩) (hw:Region.wanted ⟨dst,op,ty,pos,dw,dv⟩ (yielded ops (TA n f))=true) (dm:op=.call {callee:=.value (.func g),args,argTypes:=gq})
  (hf:P.funcs[g]?=some gf) (fv:(gf.name == "runtime.NumGoroutine")=false) (hb:gf.body=some c) (qe:args.map (⟨TA n f,[]⟩:Act).eval=vs) (hc:aJ P g vs S v Post)
  (hn:∀x S' v',View P S' v'->Post x S' v'->Reach P Stop (G ((base fn).at ⟨TA n (aG f dst x),[]⟩ (.inRegion ops rest::k)) cs) S' v') :
  Reach P Stop (G ((base fn).at ⟨TA n f,[]⟩ (.inRegion ops (i::rest)::k)) cs) S v:=by
 refine Ku ho hw dm hf fv hb qe (hc Stop _ cs λx S' v' hv q=>?_)
 rw[Frame.finish_at,ho];show Reach P Stop (G ((base fn).at (Act.put ⟨TA n f,[]⟩ dst x) (.inRegion ops rest::k)) cs) S' v';rw[cC];exact hn x S' v' hv q
theorem wK{gf:Func}(hf:P.funcs[fn]?=some gf){tmps:Array Value}{todo:List Item}{c:Frame}{x:Value}(iy:(results gf tmps).run P v=.ok x v)(hr:Reach P Stop (G (c.finish x) cs) S v):Reach P Stop (G {(base fn).at ⟨tmps,[]⟩ todo with mode:=.returning} (c::cs)) S v:=by
 refine gJ rfl λW hR=>?_;have sw:Rel P S v.drawn v W:=⟨λj q hj=>by omega,hR.os,hR.output,hR.size,hR.seen,hR.hid,hR.tame,hR.high⟩;have hA:=aA.results (P:=P) (S:=S) gf tmps v.drawn v W #[] sw;have e1:=Sem.runT_fst P (results gf tmps) v #[];rw[iy]at e1;cases jj:(results gf tmps).runT P v #[]with
 |mk r fw=>
 rw[jj]at hA e1;simp only at e1;subst e1;obtain⟨W',e,g⟩:=hA (ae _);refine⟨G (c.finish x) cs,W',Go.seen P fn fw,v,?_,?_,?_,g.hidden,g.rel.zero,hr⟩
 .simp only[G,stepG,unwind,Frame.at,base,hf,e,doReturn,GStep.after];simp
 .obtain⟨l,el,hl⟩:=g.grow;intro y hy;have:=mem_seen hy;have hm:y∈fw.toList:=by simpa using this
  rw[el]at hm;simp at hm;rw[<-g.rel.size];exact hl y hm
 .rw[<-g.rel.size,hR.size];exact ae _
theorem pM{g:FuncId}{gf:Func}{c:Code}{args:Array Value}{Post:Value->(Nat->Prop)->World->Prop}(hf:P.funcs[g]?=some gf)(hb:gf.body=some c)(hn:gf.ntmps=n)(hs:args.size<=n)
  (h:∀(Stop:Goroutine->(Nat->Prop)->World->Prop)(cc:Frame)(cs:List Frame),
   (∀(f':Nat->Value)(todo:List Item)(S':Nat->Prop)(v':World)(x:Value),(results gf (TA n f')).run P v'=.ok x v'->Post x S' v'->Reach P Stop (G {(base g).at ⟨TA n f',[]⟩ todo with mode:=.returning} (cc::cs)) S' v')->
   Reach P Stop (G ((base g).at ⟨TA n (eG args),[]⟩ [.code c]) (cc::cs)) S v):aJ P g args S v Post:=by
 intro Stop cc cs hr;rw[enter_at _ hf hb,hn,qA hs];exact h Stop cc cs λf' todo S' v' x iy q=>mD λhv=>wK hf iy (hr x S' v' hv q)
theorem bF{c:Code}(I:Nat->(Nat->Value)->(Nat->Prop)->World->Prop)(d:Nat)(h0:I d f S v)
  (round:∀d f S v,I d f S v->(∀f' S' v' d',d'<d->I d' f' S' v'->Reach P Stop (G ((base fn).at ⟨TA n f',[]⟩ (.inLoop c::k)) cs) S' v')->Reach P Stop (G ((base fn).at ⟨TA n f,[]⟩ (.code c::.inLoop c::k)) cs) S v) :
  Reach P Stop (G ((base fn).at ⟨TA n f,[]⟩ (.code (.loop c)::k)) cs) S v:=by
 refine Nz ?_;have key:∀d f S v,I d f S v->Reach P Stop (G ((base fn).at ⟨TA n f,[]⟩ (.code c::.inLoop c::k)) cs) S v:=by
  intro d;induction d using Nat.strongRecOn with
  |ind d ih=>intro f S v hI;exact round d f S v hI λf' S' v' d' hd xe=>Kr (ih d' hd f' S' v' xe)
 exact key d f S v h0
structure Wr(v:World)(g:Nat)(o:Obj)(v':World):Prop where
 at_:v'.heap[g]?=some o
 other:∀b,b≠g->v'.heap[b]?=v.heap[b]?
 size:v'.heap.size=v.heap.size
 os:v'.os=v.os
 output:v'.output=v.output
theorem jP{g:Nat}{old c:Array Value}{t:TypeId}(h:v.heap[g]?=some (.cells old t)):Wr v g (.cells c t) (v.setRow g c):=
 ⟨setRow_heap _ _ _ _ _ _ h,λb hb=>setRow_other _ _ _ _ hb,by simp[World.setRow],rfl,rfl⟩
theorem lZ{u:World}(h:Twin v u)(g:Nat)(c:Array Value):Twin (v.setRow g c) (u.setRow g c):=⟨by simp only[World.setRow,h.heap],h.os,h.output⟩
theorem wC{u:World}(h:Twin v u)(ob:Obj):Twin (v.alloc ob) (u.alloc ob):=⟨by simp only[World.alloc,h.heap],h.os,h.output⟩
theorem bI(v:World)(ob:Obj):(v.alloc ob).heap[v.heap.size]?=some ob:=by show(v.heap.push ob)[v.heap.size]?=_;simp
theorem jO(v:World)(ob:Obj):(v.alloc ob).heap.size=v.heap.size+1:=by show(v.heap.push ob).size=_;simp
theorem dQ(hG:Good P F)(ho:ops[i]?=some ⟨dst,op,ty,pos,dw,dv⟩)(hw:Region.wanted ⟨dst,op,ty,pos,dw,dv⟩ (yielded ops (TA n f))=true)(dx:bW P F ⟨dst,op,ty,pos,dw,dv⟩=true){t t':TypeId}{x y:Operand}{g j:Nat}{old:Array Value}{z:Value}
  (dm:op=.store t x y) (hx:(⟨TA n f,[]⟩:Act).eval x=.pointer (some ⟨g,j,none⟩)) (hy:(⟨TA n f,[]⟩:Act).eval y=z) (hz:z.cells=#[z]) (h1:z.oneCell'=true) (du:v.heap[g]?=some (.cells old t')) (hj:j<old.size) (hs:(P.info? t).map (·.size)=some 1)
  (hn:∀v',Wr v g (.cells (old.setIfInBounds j z) t') v'->Reach P Stop (G ((base fn).at ⟨TA n (aG f dst undef),[]⟩ (.inRegion ops rest::k)) cs) S v') :
  Reach P Stop (G ((base fn).at ⟨TA n f,[]⟩ (.inRegion ops (i::rest)::k)) cs) S v:=by
 refine kE hG ho hw dx (x:=undef) (λu hu=>⟨_,lZ hu g (old.setIfInBounds j z),?_⟩) (hn _ (jP du));obtain⟨dq,_⟩:=vE (P:=P) (fn:=fn) (w:=u) (o:=⟨dst,op,ty,pos,dw,dv⟩) dm hx hy hz h1 ((Ext.twin hu).row du) hj hs;rcases dq with h|h
 .exact .inr ⟨h,rfl⟩
 .exact .inl h
theorem cD(hG:Good P F)(ho:ops[i]?=some ⟨dst,op,ty,pos,dw,dv⟩)(hw:Region.wanted ⟨dst,op,ty,pos,dw,dv⟩ (yielded ops (TA n f))=true)(dx:bW P F ⟨dst,op,ty,pos,dw,dv⟩=true){t:TypeId}(z:Value)(dm:op=.alloc t)(hz:(P.info? t).map (·.zero)=some (some z))
  (hn:∀v',Ext v v'->v'.heap[v.heap.size]?=some (.cells z.cells t)->v'.heap.size=v.heap.size+1->Reach P Stop (G ((base fn).at ⟨TA n (aG f dst (.pointer (some ⟨v.heap.size,0,none⟩))),[]⟩ (.inRegion ops rest::k)) cs) S v') :
  Reach P Stop (G ((base fn).at ⟨TA n f,[]⟩ (.inRegion ops (i::rest)::k)) cs) S v:=by
 refine kE hG ho hw dx (x:=.pointer (some ⟨v.heap.size,0,none⟩)) (λu hu=>⟨_,wC hu (.cells z.cells t),.inl ?_⟩) (hn _ (Ext.alloc _ _) (bI _ _) (jO _ _));obtain⟨inf,hq,AQ⟩:=Option.map_eq_some_iff.1 hz;have hzero:(zeroValue t).run P u=.ok z u:=by simp[zeroValue,typeInfo,hq,AQ]
 unfold execOp;simp only[dm,df,Instr.alloc,hzero,newVar,newRow,run_newObj,dg,dc,<-hu.heap];rfl
theorem gO(hG:Good P F)(ho:ops[i]?=some ⟨dst,op,ty,pos,dw,dv⟩)(hw:Region.wanted ⟨dst,op,ty,pos,dw,dv⟩ (yielded ops (TA n f))=true)(dx:bW P F ⟨dst,op,ty,pos,dw,dv⟩=true){t:TypeId}{x:Operand}{b:Nat}{c:Array Value}{fr:Nat×Nat}(dm:op=.load t x)(hx:(⟨TA n f,[]⟩:Act).eval x=.pointer (some ⟨b,0,none⟩))
  (du:v.heap[b]?=some (.cells c t fr)) (hu:(P.underlying t).map fS=some true) (hi:(P.info? t).map (·.size)=some c.size)
  (hn:Reach P Stop (G ((base fn).at ⟨TA n (aG f dst (.agg c)),[]⟩ (.inRegion ops rest::k)) cs) S v) :
  Reach P Stop (G ((base fn).at ⟨TA n f,[]⟩ (.inRegion ops (i::rest)::k)) cs) S v:=by
 refine bV hG ho hw dx (x:=.agg c) (λu ht=>?_) hn;obtain⟨d,hu,hd⟩:=Option.map_eq_some_iff.1 hu;have lx:(loadVar t ⟨b,0,none⟩).run P u=.ok (.agg c) u:=run_loadVar_row u b t t c fr _ ((Ext.twin ht).row du) hu (by cases d<;>simp_all[fS]) hi
 unfold execOp;simp only[dm,hx,df,Instr.loadAt,Instr.sureAddr,dg,dc];rw[lx];rfl
theorem Lw(hG:Good P F)(ho:ops[i]?=some ⟨dst,op,ty,pos,dw,dv⟩)(hw:Region.wanted ⟨dst,op,ty,pos,dw,dv⟩ (yielded ops (TA n f))=true)(dx:bW P F ⟨dst,op,ty,pos,dw,dv⟩=true){t:TypeId}{x ix:Operand}{m L:Nat}{c:Array Value}{y:Value}
  (dm:op=.index t x ix) (hx:(⟨TA n f,[]⟩:Act).eval x=.agg c) (SE:(⟨TA n f,[]⟩:Act).eval ix=.int .i64 (m:Nat)) (hu:iO P t=some L) (hm:m<L) (hc:c[m]?=some y)
  (hn:Reach P Stop (G ((base fn).at ⟨TA n (aG f dst y),[]⟩ (.inRegion ops rest::k)) cs) S v) :
  Reach P Stop (G ((base fn).at ⟨TA n f,[]⟩ (.inRegion ops (i::rest)::k)) cs) S v:=by
 refine bV hG ho hw dx (x:=y) (λu ht=>?_) hn;obtain⟨e,inf,d,hu,hq,hs,QI,hd⟩:=uX hu;have AF:∀w,(isAgg e).run P w=.ok false w:=by intro w;unfold isAgg;rw[df,cw QI w];cases d<;>simp_all[fS]
 generalize (Act.eval ⟨TA n f,[]⟩)=ρ at hx SE⊢;unfold execOp;simp[dm,hx,SE,Instr.index,asIntOf,cw hu,hm,part,AF,sizeOf,typeInfo,hq,hs,hc]
theorem cS(hG:Good P F)(ho:ops[i]?=some ⟨dst,op,ty,pos,dw,dv⟩)(hw:Region.wanted ⟨dst,op,ty,pos,dw,dv⟩ (yielded ops (TA n f))=true)(dx:bW P F ⟨dst,op,ty,pos,dw,dv⟩=true){t t':TypeId}{x y:Operand}{g:Nat}{old c:Array Value}
  (dm:op=.store t x y) (hx:(⟨TA n f,[]⟩:Act).eval x=.pointer (some ⟨g,0,none⟩)) (hy:(⟨TA n f,[]⟩:Act).eval y=.agg c) (du:v.heap[g]?=some (.cells old t')) (hi:(P.info? t).map (·.size)=some c.size) (hs:old.size=c.size) (h1:c.all (·.oneCell')=true)
  (hn:∀v',Wr v g (.cells c t') v'->Reach P Stop (G ((base fn).at ⟨TA n (aG f dst undef),[]⟩ (.inRegion ops rest::k)) cs) S v') :
  Reach P Stop (G ((base fn).at ⟨TA n f,[]⟩ (.inRegion ops (i::rest)::k)) cs) S v:=by
 refine kE hG ho hw dx (x:=undef) (λu hu=>⟨_,lZ hu g c,.inr ⟨?_,rfl⟩⟩) (hn _ (jP du));have ei:=run_storeVar_row (P:=P) u g t' t old c ((Ext.twin hu).row du) hi hs h1;generalize (Act.eval ⟨TA n f,[]⟩)=ρ at hx hy⊢;unfold execOp;simp[dm,hx,hy,Instr.storeAt,Instr.sureAddr,ei]
theorem nO(hG:Good P F)(ho:ops[i]?=some ⟨dst,op,ty,pos,dw,dv⟩)(hw:Region.wanted ⟨dst,op,ty,pos,dw,dv⟩ (yielded ops (TA n f))=true)(dx:bW P F ⟨dst,op,ty,pos,dw,dv⟩=true){t e:TypeId}{l c:Operand}{m:Nat}(dm:op=.makeSlice t l c)
  (hl:(⟨TA n f,[]⟩:Act).eval l=.int .i64 (m:Nat)) (hc:(⟨TA n f,[]⟩:Act).eval c=.int .i64 (m:Nat)) (hm:m<=10000) (ht:tB P t=true) (he:P.underlying t=some (.slice e))
  (hn:∀v',Ext v v'->v'.heap[v.heap.size]?=some (.cells ((Array.range m).map λ_=>Value.int .u8 0) e)->v'.heap.size=v.heap.size+1->Reach P Stop (G ((base fn).at ⟨TA n (aG f dst (.slice (some ⟨v.heap.size,0,none⟩) m m)),[]⟩ (.inRegion ops rest::k)) cs) S v') :
  Reach P Stop (G ((base fn).at ⟨TA n f,[]⟩ (.inRegion ops (i::rest)::k)) cs) S v:=by
 refine kE hG ho hw dx (x:=.slice (some ⟨v.heap.size,0,none⟩) m m) (λu hu=>⟨_,wC hu (.cells ((Array.range m).map λ_=>Value.int .u8 0) e),.inl ?_⟩) (hn _ (Ext.alloc _ _) (bI _ _) (jO _ _))
 obtain⟨e',inf,NZ,hq,h1,h2,h3⟩:=Aj ht;rw[he]at NZ;cases NZ
 have wl:IntKind.i64.wrap (m:Int)=(m:Int):=by rw[IntKind.wrap_i64];omega
 have w0:IntKind.i64.wrap 0=0:=by decide
 have n1:¬((m:Int)<0):=by omega
 have n2:¬((281474976710656:Int)<(m:Int)):=by omega
 have n3:¬(m > roomBytes):=by simp only[roomBytes];omega
 have dq:(Instr.makeSlice t (.int .i64 (m:Nat)) (.int .i64 (m:Nat))).run P u=.ok (.slice (some ⟨u.heap.size,0,none⟩) m m) (u.alloc (.cells ((Array.range m).map λ_=>Value.int .u8 0) e)):=by
  by_cases xv:m=0
  .subst xv;simp[Instr.makeSlice,cw he,asInt,asIntOf,typeInfo,hq,h1,h2,sizeOf,askRoom,newRow,w0];rw[show Array.range 0=#[] by simp[Array.range]];simp
  .simp[Instr.makeSlice,cw he,asInt,asIntOf,typeInfo,hq,h1,h2,h3,sizeOf,askRoom,newRow,zeroValue,wl,n1,n2,n3,xv,Value.cells,Nat.mod_one]
 unfold execOp;simp only[dm,hl,hc,df,dq,dc,dg,hu.heap]
theorem nU(hG:Good P F)(ho:ops[i]?=some ⟨dst,op,ty,pos,dw,dv⟩)(hw:Region.wanted ⟨dst,op,ty,pos,dw,dv⟩ (yielded ops (TA n f))=true)(dx:bW P F ⟨dst,op,ty,pos,dw,dv⟩=true){t e:TypeId}{l c:Operand}{m wd:Nat}{z:Value}(dm:op=.makeSlice t l c)
  (hl:(⟨TA n f,[]⟩:Act).eval l=.int .i64 (m:Nat)) (hc:(⟨TA n f,[]⟩:Act).eval c=.int .i64 (m:Nat)) (hm:m<=10000) (X2:wd<=100) (xv:m≠0) (he:P.underlying t=some (.slice e)) (hq:(P.info? e).map (λi=>(i.size,i.bytes,i.zero))=some (1,wd,some z)) (hz:z.cells=#[z])
  (hn:∀v',Ext v v'->v'.heap[v.heap.size]?=some (.cells ((Array.range m).map λ_=>z) e)->v'.heap.size=v.heap.size+1->Reach P Stop (G ((base fn).at ⟨TA n (aG f dst (.slice (some ⟨v.heap.size,0,none⟩) m m)),[]⟩ (.inRegion ops rest::k)) cs) S v') :
  Reach P Stop (G ((base fn).at ⟨TA n f,[]⟩ (.inRegion ops (i::rest)::k)) cs) S v:=by
 refine kE hG ho hw dx (x:=.slice (some ⟨v.heap.size,0,none⟩) m m) (λu hu=>⟨_,wC hu (.cells ((Array.range m).map λ_=>z) e),.inl ?_⟩) (hn _ (Ext.alloc _ _) (bI _ _) (jO _ _))
 obtain⟨inf,hq,hi⟩:=Option.map_eq_some_iff.1 hq;simp only[Prod.mk.injEq]at hi;obtain⟨h1,h2,h3⟩:=hi;have wl:IntKind.i64.wrap (m:Int)=(m:Int):=by rw[IntKind.wrap_i64];omega
 have n1:¬((m:Int)<0):=by omega
 have se:m*wd<=10000*100:=Nat.mul_le_mul hm X2;have hmwI:((m*wd:Nat):Int)=(m:Int)*(wd:Int):=Int.natCast_mul m wd;have n2:¬((281474976710656:Int)<(m:Int)*(wd:Int)):=by omega
 have n3:¬(m*wd > roomBytes):=by simp only[roomBytes];omega
 have V4:¬((281474976710656:Int)<(wd:Int)*(m:Int)):=by rw[Int.mul_comm];exact n2
 have dq:(Instr.makeSlice t (.int .i64 (m:Nat)) (.int .i64 (m:Nat))).run P u=.ok (.slice (some ⟨u.heap.size,0,none⟩) m m) (u.alloc (.cells ((Array.range m).map λ_=>z) e)):=by simp[Instr.makeSlice,cw he,asInt,asIntOf,typeInfo,hq,h1,h2,h3,sizeOf,askRoom,newRow,zeroValue,wl,n1,n2,V4,n3,xv,hz,Nat.mod_one]
 unfold execOp;simp only[dm,hl,hc,df,dq,dc,dg,hu.heap]
def dD(v:World)(b off len:Nat)(x:Nat->Nat):Prop:=∀j,j<len->v.cell? ⟨b,off+j,none⟩=some (.int .u8 (x j:Nat))
theorem dD.ext{u:World}{b off len:Nat}{x:Nat->Nat}(h:dD v b off len x)(e:Ext v u):dD u b off len x:=λj hj=>e.cell (h j hj)
theorem sJ(hG:Good P F)(ho:ops[i]?=some ⟨dst,op,ty,pos,dw,dv⟩)(hw:Region.wanted ⟨dst,op,ty,pos,dw,dv⟩ (yielded ops (TA n f))=true)(dx:bW P F ⟨dst,op,ty,pos,dw,dv⟩=true){dT sT elem t:TypeId}{d s:Operand}{g o' dLen dCap b off sLen sCap:Nat}{cur:Array Value}{cells:List Value}
  (dm:op=.call {callee:=.builtin .copy,args:=#[d,s],argTypes:=#[dT,sT]}) (hd:(⟨TA n f,[]⟩:Act).eval d=.slice (some ⟨g,o',none⟩) dLen dCap) (hs:(⟨TA n f,[]⟩:Act).eval s=.slice (some ⟨b,off,none⟩) sLen sCap)
  (hu:P.underlying dT=some (.slice elem)) (hz:(P.info? elem).map (·.size)=some 1) (hg:v.heap[g]?=some (.cells cur t)) (hlen:cells.length=Nat.min sLen dLen) (LA:∀j x,cells[j]?=some x->v.cell? ⟨b,off+j,none⟩=some x) (DU:o'+cells.length<=cur.size) (h1:∀x∈cells,x.oneCell'=true)
  (hn:∀v',Wr v g (.cells (cur.toList.take o'++cells++cur.toList.drop (o'+cells.length)).toArray t) v'->Reach P Stop (G ((base fn).at ⟨TA n (aG f dst (goInt cells.length)),[]⟩ (.inRegion ops rest::k)) cs) S v') :
  Reach P Stop (G ((base fn).at ⟨TA n f,[]⟩ (.inRegion ops (i::rest)::k)) cs) S v:=by
 refine kE hG ho hw dx (x:=goInt cells.length) (λu NZ=>⟨_,lZ NZ g (cur.toList.take o'++cells++cur.toList.drop (o'+cells.length)).toArray,.inl ?_⟩) (hn _ (jP hg));have AG:∀j,(⟨b,off,none⟩:Addr).add j=⟨b,off+j,none⟩:=λj=>by unfold Addr.add;split<;>simp_all
 have:=run_copy_row P u dT sT ty elem g o' dLen dCap ⟨b,off,none⟩ sLen sCap cur t cells hu hz ((Ext.twin NZ).row hg) hlen (λj x hx=>by rw[AG];exact(Ext.twin NZ).cell (LA j x hx)) DU h1;generalize (Act.eval ⟨TA n f,[]⟩)=ρ at hd hs⊢;simp only[List.append_assoc]at this⊢;unfold execOp;simp[dm,hd,hs,this,resolve,go_sem]
theorem Ny(ho:ops[i]?=some ⟨dst,op,ty,pos,dw,dv⟩)(hw:Region.wanted ⟨dst,op,ty,pos,dw,dv⟩ (yielded ops (TA n f))=true){t e e':TypeId}{x:Operand}{g o' m c:Nat}{C:Array Value}{fr:Nat×Nat}(dm:op=.convert t t x)
  (ht:P.underlying t=some (.slice e)) (he:P.underlying e=some (.int .u8)) (hx:(⟨TA n f,[]⟩:Act).eval x=.slice (some ⟨g,o',none⟩) m c) (du:v.heap[g]?=some (.cells C e' fr))
  (hn:∀v' fr',Wr v g (.cells C e' fr') v'->Reach P Stop (G ((base fn).at ⟨TA n (aG f dst (.slice (some ⟨g,o',none⟩) m c)),[]⟩ (.inRegion ops rest::k)) cs) S v') :
  Reach P Stop (G ((base fn).at ⟨TA n f,[]⟩ (.inRegion ops (i::rest)::k)) cs) S v:=by
 refine gJ rfl λW hR=>?_
 have hS:¬S g:=λhs=>by have:=hR.hid g hs;rw[du]at this;cases this
 have QP:W.heap[g]?=some (.cells C e' fr):=by rw[<-hR.seen g hS];exact du
 have vk:W.shape? g=some (e',C.size):=by unfold World.shape?;rw[QP]
 have dq:(execOp (Act.eval ⟨TA n f,[]⟩) ⟨dst,op,ty,pos,dw,dv⟩).run P W=.ok (.value (.slice (some ⟨g,o',none⟩) m c)) (W.freeze ⟨g,C.size,none⟩ 1):=by generalize (Act.eval ⟨TA n f,[]⟩)=ρ at hx⊢;unfold execOp;simp[dm,hx,convert,cw ht,cw he,markStringish,vk]
 have fu:(execOp (Act.eval ⟨TA n f,[]⟩) ⟨dst,op,ty,pos,dw,dv⟩).events P W #[]=#[]:=by generalize (Act.eval ⟨TA n f,[]⟩)=ρ at hx⊢;unfold execOp;simp[dm,hx,convert,cw ht,cw he,markStringish,vk,Sem.events_bind]
 have KW:Wr v g (.cells C e' (if fr.1==fr.2 then(C.size,C.size+1) else(min fr.1 C.size,max fr.2 (C.size+1)))) (v.freeze ⟨g,C.size,none⟩ 1):=by
  unfold World.freeze;rw[ah (show ¬(1:Nat)=0 by decide)];refine⟨?_,λb hb=>?_,by simp,rfl,rfl⟩
  .show(v.heap.modify g _)[g]?=_;rw[Array.getElem?_modify,ai rfl,du];obtain⟨lo,hi⟩:=fr;rfl
  .show(v.heap.modify g _)[b]?=_;rw[Array.getElem?_modify,ah (Ne.symm hb)]
 refine⟨_,W.freeze ⟨g,C.size,none⟩ 1,#[],v.freeze ⟨g,C.size,none⟩ 1,?_,by simp,?_,λb hb=>?_,?_,hn _ _ KW⟩
 .rw[stepG_value ho hw (by simp[base]) dq,cC,listed_nil fu]
 .unfold World.freeze;rw[ah (show ¬(1:Nat)=0 by decide)];simp
 .unfold World.freeze;rw[ah (show ¬(1:Nat)=0 by decide)];show(W.heap.modify g _)[b]?=_;rw[Array.getElem?_modify,ah (λe:g=b=>hS (e▸hb))]
 .unfold World.freeze;rw[ah (show ¬(1:Nat)=0 by decide),ah (show ¬(1:Nat)=0 by decide)];refine hR.modify hS _ λo ht=>?_
  cases o<;>simp_all[Obj.tame]
end
section
variable {P:Program}{F:FuncId->Bool}{Stop:Goroutine->(Nat->Prop)->World->Prop}{S:Nat->Prop}{v:World}{fn:FuncId}{cs:List Frame}{k:List Item}{n:Nat}{ops:Array Oper}
def eX(P:Program)(F:FuncId->Bool)(S:Nat->Prop)(v:World)(ops:Array Oper)(o:Oper)(x:Value)(a:Act):Prop:=
 (Region.wanted o (yielded ops a.tmps)=true∧
  ((bW P F o=true∧∀u,Twin v u->(execOp a.eval o).run P u=.ok (.value x) u)∨
   (∃g gf c args gq,o.op=.call {callee:=.value (.func g),args,argTypes:=gq}∧P.funcs[g]?=some gf∧(gf.name == "runtime.NumGoroutine")=false∧gf.body=some c∧aJ P g (args.map a.eval) S v λy S' v'=>y=x∧S'=S∧v'=v)))∨
 (Region.wanted o (yielded ops a.tmps)=false∧x=undef)
def N4(ops:Array Oper)(j:Nat):Prop:=∀l,j∈Region.ready .any ops l->Region.ready .any ops (l.setIfInBounds j true)=[]
def fJ(P:Program)(Stop:Goroutine->(Nat->Prop)->World->Prop)(S:Nat->Prop)(v:World)(fn:FuncId)(cs:List Frame)(k:List Item)(ops:Array Oper)(rest:List Nat)(a:Act):Prop:=Reach P Stop (G ((base fn).at a (.inRegion ops rest::k)) cs) S v
def iT(P:Program)(F:FuncId->Bool)(Stop:Goroutine->(Nat->Prop)->World->Prop)(S:Nat->Prop)(v:World)(fn:FuncId)(cs:List Frame)(k:List Item)(ops:Array Oper):Nat->Array Bool->Act->Prop
 |0,l,a=>Region.ready .any ops l=[]∧fJ P Stop S v fn cs k ops [] a
 |fuel+1,l,a=>(Region.ready .any ops l=[]->fJ P Stop S v fn cs k ops [] a)∧
  ∀i∈Region.ready .any ops l,(∃o x,ops[i]?=some o∧eX P F S v ops o x a∧iT P F Stop S v fn cs k ops fuel (l.setIfInBounds i true) (a.put o.dst x))∨(N4 ops i∧fJ P Stop S v fn cs k ops [i] a)
theorem wL(hG:Good P F){i:Nat}{o:Oper}{x:Value}{rest:List Nat}{f:Nat->Value}(ho:ops[i]?=some o)(hy:eX P F S v ops o x ⟨TA n f,[]⟩)(h:fJ P Stop S v fn cs k ops rest ((⟨TA n f,[]⟩:Act).put o.dst x)):fJ P Stop S v fn cs k ops (i::rest) ⟨TA n f,[]⟩:=by
 obtain⟨dst,op,ty,pos,dw,dv⟩:=o;rw[cC]at h;rcases hy with⟨hw,⟨dx,hr⟩|⟨g,gf,c,args,gq,e1,e2,e3,e4,hc⟩⟩|⟨hw,rfl⟩
 .exact bV hG ho hw dx hr h
 .refine vT ho hw e1 e2 e3 e4 rfl hc λy S' v' _ hq=>?_;obtain⟨e5,e6,e7⟩:=hq;subst e5 e6 e7;exact h
 .exact wH ho hw h
theorem Ox(hG:Good P F):∀(fuel t:Nat)(l:Array Bool)(f:Nat->Value),iT P F Stop S v fn cs k ops fuel l ⟨TA n f,[]⟩->fJ P Stop S v fn cs k ops (Region.linearise.go .any ops fuel t l []) ⟨TA n f,[]⟩:=by
 intro fuel;induction fuel with
 |zero=>intro t l f h;simpa [Region.linearise.go] using h.2
 |succ fuel ih=>
  intro t l f h;obtain⟨h₀,h₁⟩:=h;simp only[Region.linearise.go]
  change fJ P Stop S v fn cs k ops (match (Region.ready .any ops l)[t%(Region.ready .any ops l).length]? with
   |some i=>Region.linearise.go .any ops fuel (t/(Region.ready .any ops l).length) (l.setIfInBounds i true) [i]
   |none=>[].reverse) ⟨TA n f,[]⟩
  cases hi:(Region.ready .any ops l)[t%(Region.ready .any ops l).length]? with
  |none=>
   have jy:Region.ready .any ops l=[]:=by
    cases hr:Region.ready .any ops l with
    |nil=>rfl
    |cons x xs=>rw[hr]at hi;have dp:t%(x::xs).length<(x::xs).length:=Nat.mod_lt _ (by simp);rw[List.getElem?_eq_none_iff]at hi;omega
   exact h₀ jy
  |some i=>
   simp only[];rw[linearise_go_acc,List.reverse_singleton,List.singleton_append];rcases h₁ i (al hi) with⟨o,x,ho,hy,hn⟩|⟨re,hr⟩
   .refine wL hG ho hy ?_;rw[cC]at hn⊢;exact ih _ _ _ hn
   .have jy:=re l (al hi);have:Region.linearise.go .any ops fuel (t/(Region.ready .any ops l).length) (l.setIfInBounds i true) []=[]:=by
     cases fuel with
     |zero=>simp[Region.linearise.go]
     |succ fuel=>simp only[Region.linearise.go];change (match (Region.ready .any ops (l.setIfInBounds i true))[_%(Region.ready .any ops (l.setIfInBounds i true)).length]? with|some i'=>Region.linearise.go .any ops fuel (_/(Region.ready .any ops (l.setIfInBounds i true)).length) ((l.setIfInBounds i true).setIfInBounds i' true) [i']|none=>[].reverse)=[];rw[jy];rfl
    rw[this];exact hr
theorem Oy{i:Nat}{oi:Oper}{x:Value}(hi:ops[i]?=some oi)(qw:∀(j:Nat)(o:Oper) cs b,ops[j]?=some o->o.op≠.select cs b):∀(fuel:Nat)(l:Array Bool)(a:Act),(∀j oj,ops[j]?=some oj->j≠i->l.getD j true=false->(∀e∈oj.after,Region.binds .any e=true->e.on≠i)->oi.apart ops oj=true)->i∈Region.ready .any ops l->eX P F S v ops oi x a->iT P F Stop S v fn cs k ops fuel (l.setIfInBounds i true) (a.put oi.dst x)->iT P F Stop S v fn cs k ops (fuel+1) l a:=by
 have keep:∀{o:Oper}{j:Nat}{d:Option Tmp}{u y:Value}{a:Act},ops[j]?=some o->(∀e,d=some e->e ∉ o.looksAt ops)->eX P F S v ops o y a->eX P F S v ops o y (a.put d u):=by
  intro o j d u y a ho hd hy;have zr:=λcs b=>qw j o cs b ho;rcases hy with⟨hw,⟨dx,hr⟩|⟨g,gf,c,args,gq,e1,e2,e3,e4,hc⟩⟩|⟨hw,rfl⟩
  .exact .inl ⟨by rw[wanted_put o a d u hd];exact hw,.inl ⟨dx,λw hu=>by rw[execOp_put o zr a d u hd];exact hr w hu⟩⟩
  .exact .inl ⟨by rw[wanted_put o a d u hd];exact hw,.inr ⟨g,gf,c,args,gq,e1,e2,e3,e4,by rw[lE u e1 hd];exact hc⟩⟩
  .exact .inr ⟨by rw[wanted_put o a d u hd];exact hw,rfl⟩
 have back:∀{o:Oper}{j:Nat}{d:Option Tmp}{u y:Value}{a:Act},ops[j]?=some o->(∀e,d=some e->e ∉ o.looksAt ops)->eX P F S v ops o y (a.put d u)->eX P F S v ops o y a:=by
  intro o j d u y a ho hd hy;have zr:=λcs b=>qw j o cs b ho;rcases hy with⟨hw,⟨dx,hr⟩|⟨g,gf,c,args,gq,e1,e2,e3,e4,hc⟩⟩|⟨hw,rfl⟩
  .exact .inl ⟨by rw[wanted_put o a d u hd]at hw;exact hw,.inl ⟨dx,λw hu=>by have:=hr w hu;rw[execOp_put o zr a d u hd]at this;exact this⟩⟩
  .exact .inl ⟨by rw[wanted_put o a d u hd]at hw;exact hw,.inr ⟨g,gf,c,args,gq,e1,e2,e3,e4,by rw[lE u e1 hd]at hc;exact hc⟩⟩
  .exact .inr ⟨by rw[wanted_put o a d u hd]at hw;exact hw,rfl⟩
 intro fuel;induction fuel with
 |zero=>
  intro l a _ hr hy H;refine⟨λh=>(by rw[h]at hr;cases hr),λj hj=>?_⟩;by_cases jz:j=i
  .subst jz;exact .inl ⟨oi,x,hi,hy,H⟩
  .have:=ready_mono hj jz;rw[H.1]at this;cases this
 |succ fuel ih=>
  intro l a mh hr hy H;refine⟨λh=>(by rw[h]at hr;cases hr),λj hj=>?_⟩;by_cases jz:j=i
  .subst jz;exact .inl ⟨oi,x,hi,hy,H⟩
  .have h1:=H.2 j (ready_mono hj jz);obtain⟨rh,oj,vt,fa⟩:=mem_ready.1 hj;have qz:∀e∈oj.after,Region.binds .any e=true->e.on≠i:=λe he hb heq=>by
    have h1:=fa e he hb;have h0:=(mem_ready.1 hr).1;rw[heq]at h1;rcases Nat.lt_or_ge i l.size with h'|h'
    .simp[h']at h0 h1;rw[h0]at h1;cases h1
    .simp[af h']at h1
   have qj:=mh j oj vt jz rh qz;obtain⟨q1,q2,q3⟩:=Oper.apart_spec qj;have np:∀c oc,ops[c]?=some oc->c≠i->(l.setIfInBounds j true).getD c true=false->
     (∀e∈oc.after,Region.binds .any e=true->e.on≠i)->oi.apart ops oc=true:=λc oc hc BD ik fe=>by
    refine mh c oc hc BD ?_ fe;by_cases AW:j=c
    .subst AW;exact rh
    .rw[getD_set_ne true AW]at ik;exact ik
   rcases h1 with⟨o',y,qa,CJ,hn⟩|⟨re,_⟩
   .obtain rfl:o'=oj:=by rw[vt]at qa;exact(bm qa).symm
    refine .inl ⟨o',y,vt,back vt q1 CJ,?_⟩;refine ih (l.setIfInBounds j true) (a.put o'.dst y) np (ready_mono hr (Ne.symm jz)) (keep hi q3 hy) ?_;rw[Array.setIfInBounds_comm _ _ jz,<-Act.put_comm a x y q2];exact hn
   .have jy:=re l hj;have:=ready_mono hr (Ne.symm jz);rw[jy]at this;cases this
theorem xO{i:Nat}{dst:Option Tmp}{op:Op}{ty:TypeId}{pos:String}{dw:Array Edge}{dv:Option (Nat×Bool)}{x:Value}{fuel:Nat}{l:Array Bool}{f:Nat->Value}(hi:ops[i]?=some ⟨dst,op,ty,pos,dw,dv⟩)(hs:Region.noSelect ops=true)(hf:Region.free .any ops l i=true)(hr:(Region.ready .any ops l).contains i=true)
  (hy:eX P F S v ops ⟨dst,op,ty,pos,dw,dv⟩ x ⟨TA n f,[]⟩) (h:iT P F Stop S v fn cs k ops fuel (l.setIfInBounds i true) ⟨TA n (aG f dst x),[]⟩):iT P F Stop S v fn cs k ops (fuel+1) l ⟨TA n f,[]⟩:=
 Oy hi (Region.noSelect_spec hs) fuel l _ (Region.free_spec hi hf) (by simpa using hr) hy (by rw[show(⟨dst,op,ty,pos,dw,dv⟩:Oper).dst=dst from rfl,cC];exact h)
theorem rT{i:Nat}{dst:Option Tmp}{op:Op}{ty:TypeId}{pos:String}{dw:Array Edge}{dv:Option (Nat×Bool)}{x:Value}{fuel:Nat}{l:Array Bool}{f:Nat->Value}(hi:ops[i]?=some ⟨dst,op,ty,pos,dw,dv⟩)
  (hy:∀u,Twin v u->(execOp (Act.eval ⟨TA n f,[]⟩) ⟨dst,op,ty,pos,dw,dv⟩).run P u=.ok (.value x) u) (h:iT P F Stop S v fn cs k ops fuel (l.setIfInBounds i true) ⟨TA n (aG f dst x),[]⟩)
  (hs:Region.noSelect ops=true:=by first|kernel_rfl|decide +kernel) (hf:Region.free .any ops l i=true:=by first|kernel_rfl|decide +kernel) (hr:(Region.ready .any ops l).contains i=true:=by first|kernel_rfl|decide +kernel)
  (hw:Region.wanted ⟨dst,op,ty,pos,dw,dv⟩ (yielded ops (TA n f))=true:=by first|rfl|(simp[Region.wanted,yielded,eC, *];first|done|fail)) (dx:bW P F ⟨dst,op,ty,pos,dw,dv⟩=true:=by kernel_rfl):iT P F Stop S v fn cs k ops (fuel+1) l ⟨TA n f,[]⟩:=
 xO hi hs hf hr (.inl ⟨hw,.inl ⟨dx,hy⟩⟩) h
theorem oH{l:Array Bool}{f:Nat->Value}(hr:Region.ready .any ops l=[])(h:Reach P Stop (G ((base fn).at ⟨TA n f,[]⟩ (.inRegion ops []::k)) cs) S v):∀fuel,iT P F Stop S v fn cs k ops fuel l ⟨TA n f,[]⟩
 |0=>⟨hr,h⟩
 |_+1=>⟨λ_=>h,λi hi=>by rw[hr]at hi;cases hi⟩
theorem oA(hG:Good P F)(hm:P.follows .mixedOrders=true){id:Nat}{f:Nat->Value}(h:iT P F Stop S v fn cs k ops ops.size (Array.replicate ops.size false) ⟨TA n f,[]⟩):Reach P Stop (G ((base fn).at ⟨TA n f,[]⟩ (.code (.region id ops true)::k)) cs) S v:=by
 refine gJ rfl λW hR=>?_;refine⟨_,{W with drawn:=W.drawn+1},#[],v,stepG_region_draw,by simp,ae _,λ_ _=>rfl,⟨λj q hj=>by omega,hR.os,hR.output,hR.size,hR.seen,hR.hid,hR.tame,hR.high⟩,?_⟩
 simp only[Region.schedule,hm,Bool.true_or,if_true,Region.linearise];exact Ox hG _ _ _ _ h
end
section
variable {P:Program}{F:FuncId->Bool}{Stop:Goroutine->(Nat->Prop)->World->Prop}{S:Nat->Prop}{v:World}{fn:FuncId}{cs:List Frame}{k:List Item}{n:Nat}{ops:Array Oper}{E:Nat->Bool}
def N3(P:Program)(F:FuncId->Bool)(v:World)(ops:Array Oper)(o:Oper)(Q:Value->World->Prop)(a:Act):Prop:=
 (Region.wanted o (yielded ops a.tmps)=true∧bW P F o=true∧∀u,Twin v u->∃x w',((execOp a.eval o).run P u=.ok (.value x) w'∨((execOp a.eval o).run P u=.ok .skip w'∧x=undef))∧Q x w')∨
 (Region.wanted o (yielded ops a.tmps)=false∧∀u,Twin v u->Q undef u)
theorem Uk(hG:Good P F){i:Nat}{o:Oper}{Q:Value->World->Prop}{rest:List Nat}{f:Nat->Value}(ho:ops[i]?=some o)(hy:N3 P F v ops o Q ⟨TA n f,[]⟩)(h:∀x v',Q x v'->fJ P Stop S v' fn cs k ops rest ((⟨TA n f,[]⟩:Act).put o.dst x)):fJ P Stop S v fn cs k ops (i::rest) ⟨TA n f,[]⟩:=by
 rcases hy with⟨hw,dx,hr⟩|⟨hw,hq⟩
 .refine tF hG ho hw dx λu hu K hK=>?_;obtain⟨x,w',dq,hQ⟩:=hr u hu;have hn:=h x w' hQ;rw[cC]at hn;rcases dq with e|⟨e,hx⟩
  .rw[e];exact hK _ _ hn
  .rw[e];subst hx;exact hK _ _ hn
 .obtain⟨dst,op,ty,pos,dw,dv⟩:=o;have hn:=h undef v (hq v (.refl v));rw[cC]at hn;exact wH ho hw hn
theorem Ak{o:Oper}{a:Act}{s x:Operand}{t e:TypeId}{i:TypeInfo}{z:Value}{size bytes:Nat}{u:World}(dm:o.op=Op.call {callee:=Callee.builtin Builtin.append,args:=#[s,x],argTypes:=#[t,t]})(base:Nat)
  (h1:P.underlying t=some (.slice e)) (h2:P.info? e=some i) (h3:i.zero=some z) (h4:i.size=size) (h5:i.bytes=bytes) (h6:z.cells.size=size) (h7:0<size)
  {sv:Value} {n:Nat} {xs:List Value} (hs:a.eval s=sv) (gm:u.ownsRow base e size sv n xs)
  {ad:Addr} {m c:Nat} {news:List Value} (hx:a.eval x=.slice (some ad) m c) (hl:news.length=m*size) (iw:∀j y,news[j]?=some y->u.cell? (ad.add j)=some y) (xh:∀y∈news,y.oneCell'=true)
  (b1:n+m<=maxLen) (b2:(n+m)*bytes<=140737488355328) (hb:base<=u.heap.size) :
  ∃v' w',(execOp a.eval o).run P u=.ok (.value v') w'∧w'.ownsRow base e size v' (n+m) (xs++news)∧u.grownBy w' sv.ownBlock∧(v'=.slice none 0 0↔sv=.slice none 0 0∧m=0):=by
 obtain⟨v',w',dq,q⟩:=run_append_own (P:=P) u base t o.type e i z size bytes h1 h2 h3 h4 h5 h6 h7 sv n xs gm ad m c news hl iw xh b1 b2 hb;refine⟨v',w',?_,q⟩;simp[execOp,dm,resolve,invoke,builtin,hs,hx,dq]
theorem aN{i:Nat}{dst:Option Tmp}{op:Op}{ty:TypeId}{pos:String}{dw:Array Edge}{dv:Option (Nat×Bool)}{rest:List Nat}{f:Nat->Value}{Q:Value->World->Prop}(hG:Good P F)(ho:ops[i]?=some ⟨dst,op,ty,pos,dw,dv⟩)(hw:Region.wanted ⟨dst,op,ty,pos,dw,dv⟩ (yielded ops (TA n f))=true)(dx:bW P F ⟨dst,op,ty,pos,dw,dv⟩=true)
  (h:∀u,Twin v u->∃x w',((execOp (Act.eval ⟨TA n f,[]⟩) ⟨dst,op,ty,pos,dw,dv⟩).run P u=.ok (.value x) w'∨((execOp (Act.eval ⟨TA n f,[]⟩) ⟨dst,op,ty,pos,dw,dv⟩).run P u=.ok .skip w'∧x=undef))∧Q x w')
  (hn:∀x v',Q x v'->Reach P Stop (G ((base fn).at ⟨TA n (aG f dst x),[]⟩ (.inRegion ops rest::k)) cs) S v') :
  Reach P Stop (G ((base fn).at ⟨TA n f,[]⟩ (.inRegion ops (i::rest)::k)) cs) S v:=
 Uk hG ho (.inl ⟨hw,dx,h⟩) λx v' hQ=>by rw[show(⟨dst,op,ty,pos,dw,dv⟩:Oper).dst=dst from rfl,cC];exact hn x v' hQ
theorem jA{o:Oper}{a:Act}{x:Operand}{t e:TypeId}{i:TypeInfo}{z y:Value}(dm:o.op=Op.buildSlice t 1 #[(0,x)])
  (h1:P.underlying t=some (.slice e)) (h2:P.info? e=some i) (h3:i.zero=some z) (h4:i.size=1) (h6:z.cells=#[z]) (hx:a.eval x=y) (hy:y.cells=#[y]) (u:World) :
  (execOp a.eval o).run P u=.ok (.value (.slice (some ⟨u.heap.size,0,none⟩) 1 1)) (u.alloc (.cells #[y] e)):=by
 simp[execOp,dm,hx,Instr.buildSlice,cw h1,sizeOf,typeInfo,h2,h4,zeroValue,h3,h6,Instr.fill,hy,newRow];congr 2;apply au;intro c;cases c<;>simp
end
section
variable {P:Program}{F:FuncId->Bool}{Stop:Goroutine->(Nat->Prop)->World->Prop}{S:Nat->Prop}{v0:World}{fn:FuncId}{cs:List Frame}{k:List Item}{n:Nat}{ops:Array Oper}{E:Nat->Bool}
def bQ(ops:Array Oper)(i:Nat):List Nat:=match ops[i]? with
 |some o=>(o.after.toList.filter λe=>Region.binds .any e).map λe=>e.on
 |none=>[]
theorem kD{l:Array Bool}{i:Nat}(h:i∈Region.ready .any ops l):∀a∈bQ ops i,l.getD a false=true:=by obtain⟨_,o,ho,fa⟩:=mem_ready.1 h;intro a ha;unfold bQ at ha;rw[ho]at ha;obtain⟨e,he,rfl⟩:=List.mem_map.1 ha;rw[List.mem_filter]at he;exact fa e (by simpa using he.1) he.2
end
variable {P:Program}
theorem xT(y0 y1:Value)(f:Nat->Value):(((Array.map f (Array.range 2)).setIfInBounds 0 y0).setIfInBounds 1 y1)=#[y0,y1]:=by apply Array.ext';simp[List.range,List.range.loop]
theorem sH{o:Oper}{a:Act}{x0 x1:Operand}{t e:TypeId}{i:TypeInfo}{z y0 y1:Value}(dm:o.op=Op.buildSlice t 2 #[(0,x0),(1,x1)])
  (h1:P.underlying t=some (.slice e)) (h2:P.info? e=some i) (h3:i.zero=some z) (h4:i.size=1) (h6:z.cells=#[z]) (xm:a.eval x0=y0) (KU:y0.cells=#[y0]) (ub:a.eval x1=y1) (KT:y1.cells=#[y1]) (u:World) :
  (execOp a.eval o).run P u=.ok (.value (.slice (some ⟨u.heap.size,0,none⟩) 2 2)) (u.alloc (.cells #[y0,y1] e)):=by
 have q:∀f:Nat->Value,(((Array.map f (Array.range 2)).setIfInBounds 0 y0).setIfInBounds 1 y1)=#[y0,y1]:=xT y0 y1;simp[execOp,dm,xm,KU,ub,KT,Instr.buildSlice,cw h1,sizeOf,typeInfo,h2,h4,zeroValue,h3,h6,Instr.fill,newRow];rw[q]
theorem Tu(y0 y1 y2 y3:Value)(f:Nat->Value):(((((Array.map f (Array.range 4)).setIfInBounds 0 y0).setIfInBounds 1 y1).setIfInBounds 2 y2).setIfInBounds 3 y3)=#[y0,y1,y2,y3]:=by apply Array.ext';simp[List.range,List.range.loop]
theorem wE{o:Oper}{a:Act}{x0 x1 x2 x3:Operand}{t e:TypeId}{i:TypeInfo}{z y0 y1 y2 y3:Value}(dm:o.op=Op.buildSlice t 4 #[(0,x0),(1,x1),(2,x2),(3,x3)])
  (h1:P.underlying t=some (.slice e)) (h2:P.info? e=some i) (h3:i.zero=some z) (h4:i.size=1) (h6:z.cells=#[z]) (xm:a.eval x0=y0) (KU:y0.cells=#[y0]) (ub:a.eval x1=y1) (KT:y1.cells=#[y1]) (zm:a.eval x2=y2) (NV:y2.cells=#[y2]) (CK:a.eval x3=y3) (XF:y3.cells=#[y3]) (u:World) :
  (execOp a.eval o).run P u=.ok (.value (.slice (some ⟨u.heap.size,0,none⟩) 4 4)) (u.alloc (.cells #[y0,y1,y2,y3] e)):=by
 have q:∀f:Nat->Value,(((((Array.map f (Array.range 4)).setIfInBounds 0 y0).setIfInBounds 1 y1).setIfInBounds 2 y2).setIfInBounds 3 y3)=#[y0,y1,y2,y3]:=Tu y0 y1 y2 y3;simp[execOp,dm,xm,KU,ub,KT,zm,NV,CK,XF,Instr.buildSlice,cw h1,sizeOf,typeInfo,h2,h4,zeroValue,h3,h6,Instr.fill,newRow];rw[q]
theorem Tt(y0 y1 y2 y3 y4 y5:Value)(f:Nat->Value):(((((((Array.map f (Array.range 6)).setIfInBounds 0 y0).setIfInBounds 1 y1).setIfInBounds 2 y2).setIfInBounds 3 y3).setIfInBounds 4 y4).setIfInBounds 5 y5)=#[y0,y1,y2,y3,y4,y5]:=by apply Array.ext';simp[List.range,List.range.loop]
theorem Ce{o:Oper}{a:Act}{x0 x1 x2 x3 x4 x5:Operand}{t e:TypeId}{i:TypeInfo}{z y0 y1 y2 y3 y4 y5:Value}(dm:o.op=Op.buildSlice t 6 #[(0,x0),(1,x1),(2,x2),(3,x3),(4,x4),(5,x5)])
  (h1:P.underlying t=some (.slice e)) (h2:P.info? e=some i) (h3:i.zero=some z) (h4:i.size=1) (h6:z.cells=#[z]) (xm:a.eval x0=y0) (KU:y0.cells=#[y0]) (ub:a.eval x1=y1) (KT:y1.cells=#[y1]) (zm:a.eval x2=y2) (NV:y2.cells=#[y2]) (CK:a.eval x3=y3) (XF:y3.cells=#[y3]) (QC:a.eval x4=y4) (XE:y4.cells=#[y4]) (NY:a.eval x5=y5) (XD:y5.cells=#[y5]) (u:World) :
  (execOp a.eval o).run P u=.ok (.value (.slice (some ⟨u.heap.size,0,none⟩) 6 6)) (u.alloc (.cells #[y0,y1,y2,y3,y4,y5] e)):=by
 have q:∀f:Nat->Value,(((((((Array.map f (Array.range 6)).setIfInBounds 0 y0).setIfInBounds 1 y1).setIfInBounds 2 y2).setIfInBounds 3 y3).setIfInBounds 4 y4).setIfInBounds 5 y5)=#[y0,y1,y2,y3,y4,y5]:=Tt y0 y1 y2 y3 y4 y5;simp[execOp,dm,xm,KU,ub,KT,zm,NV,CK,XF,QC,XE,NY,XD,Instr.buildSlice,cw h1,sizeOf,typeInfo,h2,h4,zeroValue,h3,h6,Instr.fill,newRow];rw[q]
