import Derived.Test.YtpiefebngnlfoaaGreatDoorLd
import Derived.Conc.AppendEvents3
import Derived.Laws.Rows
import Derived.Laws.World
import Derived.Laws.Tables
import Derived.Conc.AppendEvents
import Derived.Conc.CrowdStepW
set_option maxRecDepth 99999
set_option maxHeartbeats 0
set_option linter.unusedVariables false
set_option linter.unusedSimpArgs false
namespace Go.Vw
open Go.Conc
def fS:TypeDesc->Bool
 |.struct _|.array _ _=>true
 |_=>false
def EvW(Rd:Nat->Prop)(e:Event):Prop:=∃a:Addr,e.loc=.cell a∧e.sync=false∧(e.write=true->¬Rd a.block)
def DW(Rd:Nat->Prop)(w w':World)(es:Array Event):Prop:=(w'.os=w.os∧w'.output=w.output)∧(∀b,Rd b->w'.heap[b]?=w.heap[b]?)∧∀e∈es,EvW Rd e
theorem fM(Rd:Nat->Prop):Terms Ext (DW Rd):=⟨Ext.trans,λ_=>⟨⟨rfl,rfl⟩,λ_ _=>rfl,by simp⟩⟩
theorem zO(Rd:Nat->Prop):LetsDraw (DW Rd):=λ_=>⟨⟨rfl,rfl⟩,λ_ _=>rfl,by simp⟩
theorem Ext.draw(w:World):Ext w {w with drawn:=w.drawn+1}:=⟨ae _,λ_ _=>rfl,rfl,rfl⟩
theorem Ext.alloc(w:World)(o:Obj):Ext w (w.alloc o):=by
 refine⟨?_,λb hb=>?_,rfl,rfl⟩
 .show w.heap.size<=(w.heap.push o).size;rw[Array.size_push];omega
 .show(w.heap.push o)[b]?=w.heap[b]?;rw[Array.getElem?_push,ah (by omega)]
section
variable {P:Program}{main:Bool}{Rd:Nat->Prop}{fn:FuncId}{ops:Array Oper}{Q:Exit->Act->World->Prop}
theorem Ag(a:Addr):∀(n i:Nat)(acc:Array Value)(w:World)(es:Array Event),(∀j,j<n->(w.cell? (a.add (i+j))).isSome)->∀ev∈(loadCellsFrom a i n acc).events P w es,ev∈es∨(∃ad,ev.loc=.cell ad∧ev.sync=false∧ev.write=false)
 |0,_,_,_,_,_=>λev h=>.inl (by simpa [loadCellsFrom] using h)
 |n+1,i,acc,w,es,hc=>λev h=>by
  simp only[loadCellsFrom,Sem.events_bind]at h;obtain⟨u,hu⟩:=Option.isSome_iff_exists.1 (hc 0 (by omega));simp only[Nat.add_zero]at hu;have hr:(load (a.add i)).run P w=.ok u w:=by simp[hu]
  rw[hr]at h;rcases Ag a n (i+1) (acc.push u) w _ (λj hj=>by have:=hc (j+1) (by omega);rwa [show i+(j+1)=i+1+j by omega]at this) ev h with h|h
  .rw[events_load,hu]at h;rcases Array.mem_push.1 h with h|rfl
   .exact .inl h
   .exact .inr ⟨_,rfl,rfl,rfl⟩
  .exact .inr h
theorem uY{w:World}{b:Nat}{t t':TypeId}{d:TypeDesc}{c:Array Value}{fr:Nat×Nat}(du:w.heap[b]?=some (.cells c t' fr))(hu:P.underlying t=some d)(hd:fS d=true)(hi:(P.info? t).map (·.size)=some c.size):∀ev∈(loadVar t ⟨b,0,none⟩).events P w #[],EvW Rd ev:=by
 intro ev h;have AF:(isAgg t).run P w=.ok true w:=by unfold isAgg;rw[df,cw hu w];cases d<;>simp_all[fS]
 have EF:(isAgg t).events P w #[]=#[]:=by unfold isAgg;rw[Sem.events_bind,cw hu w];cases d<;>simp_all[fS]
 cases hq:P.info? t with
 |none=>simp[hq]at hi
 |some i=>
  have hs:i.size=c.size:=by simpa [hq] using hi
  simp[loadVar,AF,EF,sizeOf,typeInfo,hq,hs,loadCells,Sem.events_bind]at h
  rcases Ag _ _ _ _ w _ (λj hj=>by
   have AG:(⟨b,0,none⟩:Addr).add (0+j)=⟨b,j,none⟩:=by unfold Addr.add;split<;>simp_all
   rw[AG,ab w b j c t' fr du]
   simpa using hj) ev h with h|⟨ad,h1,h2,h3⟩
  .simp at h
  .exact⟨ad,h1,h2,λx=>by rw[h3]at x;cases x⟩
theorem rL{i:Nat}{rest:List Nat}{o:Oper}{n b:Nat}{a:Act}{w:World}{t:TypeId}{p:Operand}{c:Array Value}{fr:Nat×Nat}
  (ho:ops[i]?=some o) (hw:Region.wanted o (yielded ops a.tmps)=true) (dm:o.op=.load t p) (hp:a.eval p=.pointer (some ⟨b,0,none⟩))
  (du:w.heap[b]?=some (.cells c t fr)) (hu:(P.underlying t).map fS=some true) (hi:(P.info? t).map (·.size)=some c.size)
  (ee:∀w₁,Ext w w₁->OpsC P main Ext (DW Rd) fn ops rest n Q (a.put o.dst (.agg c)) w₁):OpsC P main Ext (DW Rd) fn ops (i::rest) (n+1) Q a w:=by
 refine opsC_cons_k ho hw λw₁ hR K hK=>?_
 have hr:=hR.row du;obtain⟨d,hu,hd⟩:=Option.map_eq_some_iff.1 hu;have lx:(loadVar t ⟨b,0,none⟩).run P w₁ = .ok (.agg c) w₁:=run_loadVar_row w₁ b t t c fr _ hr hu (by cases d<;>simp_all[fS]) hi
 have dq:(execOp a.eval o).run P w₁ = .ok (.value (.agg c)) w₁:=by unfold execOp;simp only[dm,hp,df,Instr.loadAt,Instr.sureAddr,dg,dc];rw[lx];rfl
 rw[dq];refine hK _ _ ⟨⟨⟨rfl,rfl⟩,λ_ _=>rfl,λev fu=>?_⟩,ee _ hR⟩
 have hm:=mem_listed fu;unfold execOp at hm;simp only[dm,hp,Instr.loadAt,Instr.sureAddr,pure_bind,Sem.events_bind,lx,Result.evThen_ok,Sem.events_pure]at hm;exact uY hr hu hd hi ev hm
theorem Us{i:Nat}{rest:List Nat}{o:Oper}{n:Nat}{a:Act}{w:World}{t:TypeId}{x:Operand}
  (ho:ops[i]?=some o) (hw:Region.wanted o (yielded ops a.tmps)=true) (dm:o.op=.box t x) (fq:∀b,Rd b->b<w.heap.size)
  (ee:∀w₁,Ext w w₁->OpsC P main Ext (DW Rd) fn ops rest n Q (a.put o.dst (.pointer (some ⟨w₁.heap.size,0,none⟩))) (w₁.alloc (.cells (a.eval x).cells t))):OpsC P main Ext (DW Rd) fn ops (i::rest) (n+1) Q a w:=by
 refine opsC_cons_k ho hw λw₁ hR K hK=>?_
 have dq:(execOp a.eval o).run P w₁ = .ok (.value (.pointer (some ⟨w₁.heap.size,0,none⟩))) (w₁.alloc (.cells (a.eval x).cells t)):=by unfold execOp;simp only[dm,df,Instr.box,newVar,newRow,run_newObj,dg,dc];rfl
 rw[dq];refine hK _ _ ⟨⟨⟨rfl,rfl⟩,λb hb=>(Ext.alloc w₁ _).block b (bg (fq b hb) hR.size),λev fu=>?_⟩,ee _ hR⟩
 have hm:=mem_listed fu;unfold execOp at hm;simp only[dm,Instr.box,newVar,newRow,Sem.events_bind,run_newObj,df,dg,dc,Result.evThen_ok,Sem.events_pure]at hm;simp[go_sem]at hm
theorem pL{i:Nat}{rest:List Nat}{o:Oper}{n:Nat}{a:Act}{w:World}{t:TypeId}{x:Operand}(c:Array Value)
  (ho:ops[i]?=some o) (hw:Region.wanted o (yielded ops a.tmps)=true) (dm:o.op=.box t x) (fq:∀b,Rd b->b<w.heap.size) (hx:(a.eval x).cells=c)
  (ee:∀N w',w.heap.size<=N->w'.heap[N]?=some (.cells c t)->Ext w w'->OpsC P main Ext (DW Rd) fn ops rest n Q (a.put o.dst (.pointer (some ⟨N,0,none⟩))) w'):OpsC P main Ext (DW Rd) fn ops (i::rest) (n+1) Q a w:=by
 subst hx;refine Us ho hw dm fq λw₁ hR=>ee _ _ hR.size ?_ (hR.trans _ _ _ (Ext.alloc _ _))
 show(w₁.heap.push _)[w₁.heap.size]?=_;simp
def iO(P:Program)(t:TypeId):Option Nat:=
 match P.underlying t with
 |some (.array L e)=>
  match P.info? e,P.underlying e with
  |some i,some d=>if i.size=1∧fS d=false then some L else none
  |_,_=>none
 |_=>none
theorem uX{t:TypeId}{L:Nat}(h:iO P t=some L):∃e inf d,P.underlying t=some (.array L e)∧P.info? e=some inf∧inf.size=1∧P.underlying e=some d∧fS d=false:=by
 unfold iO at h;split at h
 .rename_i L' e hu;split at h
  .rename_i i d h1 h2;split at h
   .rename_i hc;cases h;exact⟨e,i,d,hu,h1,hc.1,h2,hc.2⟩
   .cases h
  .cases h
 .cases h
theorem wN{R:World->World->Prop}{D:World->World->Array Event->Prop}(T:Terms R D){i:Nat}{rest:List Nat}{o:Oper}{n m L:Nat}{a:Act}{w:World}{t:TypeId}{x ix:Operand}{c:Array Value}{v:Value}
  (ho:ops[i]?=some o) (hw:Region.wanted o (yielded ops a.tmps)=true) (dm:o.op=.index t x ix) (hx:a.eval x=.agg c) (SE:a.eval ix=.int .i64 (m:Nat))
  (hu:iO P t=some L) (hm:m<L) (hc:c[m]?=some v)
  (ee:∀w₁,R w w₁->OpsC P main R D fn ops rest n Q (a.put o.dst v) w₁):OpsC P main R D fn ops (i::rest) (n+1) Q a w:=by
 refine opsC_cons_k ho hw λw₁ hR K hK=>?_
 obtain⟨e,inf,d,hu,hq,hs,QI,hd⟩:=uX hu;have AF:∀w,(isAgg e).run P w=.ok false w:=by intro w;unfold isAgg;rw[df,cw QI w];cases d<;>simp_all[fS]
 have EF:∀w es,(isAgg e).events P w es=es:=by intro w es;unfold isAgg;rw[Sem.events_bind,cw QI w];cases d<;>simp_all[fS]
 have hb:(0:Int)<=(m:Int)∧(m:Int)<(L:Int):=by omega
 have dq:(execOp a.eval o).run P w₁ = .ok (.value v) w₁:=by unfold execOp;simp[dm,hx,SE,Instr.index,asIntOf,cw hu,hm,part,AF,sizeOf,typeInfo,hq,hs,hc]
 rw[dq];refine hK _ _ ⟨?_,ee _ hR⟩;rw[listed_nil]
 .exact T.idle _
 .unfold execOp;simp[dm,hx,SE,Instr.index,asIntOf,cw hu,hm,part,AF,EF,sizeOf,typeInfo,hq,hs,hc]
theorem vB{i:Nat}{rest:List Nat}{o:Oper}{n:Nat}{a:Act}{w:World}{t:TypeId}(c:Array Value)
  (ho:ops[i]?=some o) (hw:Region.wanted o (yielded ops a.tmps)=true) (dm:o.op=.alloc t) (fq:∀b,Rd b->b<w.heap.size) (hz:(P.info? t).map (·.zero)=some (some (.agg c)))
  (ee:∀N w',w.heap.size<=N->w'.heap[N]?=some (.cells c t)->Ext w w'->OpsC P main Ext (DW Rd) fn ops rest n Q (a.put o.dst (.pointer (some ⟨N,0,none⟩))) w'):OpsC P main Ext (DW Rd) fn ops (i::rest) (n+1) Q a w:=by
 refine opsC_cons_k ho hw λw₁ hR K hK=>?_
 obtain⟨inf,hq,AQ⟩:=Option.map_eq_some_iff.1 hz;have hzero:(zeroValue t).run P w₁ = .ok (.agg c) w₁:=by simp[zeroValue,typeInfo,hq,AQ]
 have xk:(zeroValue t).events P w₁ #[]=#[]:=by simp[zeroValue,typeInfo,hq,AQ]
 have dq:(execOp a.eval o).run P w₁ = .ok (.value (.pointer (some ⟨w₁.heap.size,0,none⟩))) (w₁.alloc (.cells c t)):=by unfold execOp;simp only[dm,df,Instr.alloc,hzero,newVar,newRow,run_newObj,dg,dc];rfl
 rw[dq];refine hK _ _ ⟨⟨⟨rfl,rfl⟩,λb hb=>(Ext.alloc w₁ _).block b (bg (fq b hb) hR.size),λev fu=>?_⟩,ee _ _ hR.size ?_ (hR.trans _ _ _ (Ext.alloc _ _))⟩
 .have hm:=mem_listed fu;unfold execOp at hm;simp only[dm,Instr.alloc,hzero,xk,newVar,newRow,Sem.events_bind,run_newObj,df,dg,dc,Result.evThen_ok,Sem.events_pure]at hm;simp[go_sem]at hm
 .show(w₁.heap.push _)[w₁.heap.size]?=_;simp
theorem Js{f:FuncId}{g:Func}{tmps:Array Value}{w:World}{x:Tmp}{t:TypeId}{b:Nat}{c:Array Value}{fr:Nat×Nat}(h:g.results=#[.cell x t])(hx:tmps.getD x undef=.pointer (some ⟨b,0,none⟩))
  (du:w.heap[b]?=some (.cells c t fr)) (hu:(P.underlying t).map fS=some true) (hi:(P.info? t).map (·.size)=some c.size) :
  (results g tmps).run P w=.ok (.agg c) w∧∀ev∈seen P f ((results g tmps).events P w #[]),EvW Rd ev:=by
 obtain⟨d,hu,hd⟩:=Option.map_eq_some_iff.1 hu;have lx:(loadVar t ⟨b,0,none⟩).run P w=.ok (.agg c) w:=run_loadVar_row w b t t c fr _ du hu (by cases d<;>simp_all[fS]) hi
 have AR:tmps[x]?.getD undef=.pointer (some ⟨b,0,none⟩):=by simpa using hx
 constructor
 .simp[results,h,AR,asAddr,lx]
 .intro ev fu;have hm:=mem_seen fu;simp[results,h,AR,asAddr,lx]at hm;exact uY du hu hd hi ev hm
theorem Ou{f:FuncId}{g:Func}{tmps:Array Value}{w:World}{x:Tmp}{t:TypeId}{b:Nat}{c:Array Value}{fr:Nat×Nat}{Post:Value->World->Prop}(h:g.results=#[.cell x t])(hx:tmps.getD x undef=.pointer (some ⟨b,0,none⟩))
  (du:w.heap[b]?=some (.cells c t fr)) (hu:(P.underlying t).map fS=some true) (hi:(P.info? t).map (·.size)=some c.size) (hp:∀w₁,Ext w w₁->Post (.agg c) w₁) :
  ∀w₁,Ext w w₁->∃v w₂,(results g tmps).run P w₁ = .ok v w₁∧DW Rd w₁ w₁ (seen P f ((results g tmps).events P w₁ #[]))∧Post v w₂∧(w₂ = w₁∨Ext w₂ w₁):=by
 intro w₁ hR;obtain⟨r1,r2⟩:=Js (Rd:=Rd) (f:=f) h hx (hR.row du) hu hi;exact⟨_,_,r1,⟨⟨rfl,rfl⟩,λ_ _=>rfl,r2⟩,hp _ hR,.inl rfl⟩
theorem Ot{f:FuncId}{g:Func}{tmps:Array Value}{w:World}{Post:Value->World->Prop}(h:g.results=#[])(hp:∀v w₁,Ext w w₁->Post v w₁):∀w₁,Ext w w₁->∃v w₂,(results g tmps).run P w₁ = .ok v w₁∧DW Rd w₁ w₁ (seen P f ((results g tmps).events P w₁ #[]))∧Post v w₂∧(w₂ = w₁∨Ext w₂ w₁):=by intro w₁ hR;refine⟨.tuple #[],w₁,by simp[results,h],⟨⟨rfl,rfl⟩,λ_ _=>rfl,?_⟩,hp _ _ hR,.inl rfl⟩;intro ev fu;have hm:=mem_seen fu;simp[results,h]at hm
theorem Af(a:Addr):∀(vs:List Value)(i:Nat)(w:World)(es:Array Event),(∀v∈vs,v.oneCell'=true)->∀ev∈(storeCells a vs i).events P w es,ev∈es∨ev.sync=false
 |[],_,_,_,_=>λev h=>.inl (by simpa [storeCells] using h)
 |v::rest,i,w,es,h1=>λev h=>by
  have h0:∀ev∈(store (a.add i) v).events P w es,ev∈es∨ev.sync=false:=by
   intro ev h;rw[events_store P w es _ v _ (h1 v (by simp))]at h;split at h
   .split at h
    .exact .inl h
    .rcases Array.mem_push.1 h with h|rfl
     .exact .inl h
     .exact .inr rfl
   .split at h
    .rcases Array.mem_append.1 h with h|h
     .exact .inl h
     .obtain⟨x,_,rfl⟩:=Array.mem_map.1 h;exact .inr rfl
    .exact .inl h
  simp only[storeCells,Sem.events_bind]at h;cases hr:(store (a.add i) v).run P w with
  |ok u w'=>
   rw[hr]at h;rcases Af a rest (i+1) w' _ (λx hx=>h1 x (by simp[hx])) ev h with h|h
   .exact h0 ev h
   .exact .inr h
  |_=>rw[hr]at h;exact h0 ev h
theorem Jx{i:Nat}{rest:List Nat}{o:Oper}{n g:Nat}{a:Act}{w:World}{t t':TypeId}{x y:Operand}{old c:Array Value}
  (ho:ops[i]?=some o) (hw:Region.wanted o (yielded ops a.tmps)=true) (dm:o.op=.store t x y) (hx:a.eval x=.pointer (some ⟨g,0,none⟩)) (hy:a.eval y=.agg c)
  (du:w.heap[g]?=some (.cells old t')) (hi:(P.info? t).map (·.size)=some c.size) (hs:old.size=c.size) (h1:c.all (·.oneCell')=true) (hg:¬Rd g)
  (ee:∀w₁,Ext w w₁->OpsC P main Ext (DW Rd) fn ops rest n Q (a.put o.dst undef) (w₁.setRow g c)):OpsC P main Ext (DW Rd) fn ops (i::rest) (n+1) Q a w:=by
 refine opsC_cons_k ho hw λw₁ hR K hK=>?_
 have hr:=hR.row du;have ei:=run_storeVar_row (P:=P) w₁ g t' t old c hr hi hs h1;have dq:(execOp a.eval o).run P w₁ = .ok .skip (w₁.setRow g c)∨(execOp a.eval o).run P w₁ = .ok (.value undef) (w₁.setRow g c):=by unfold execOp;simp[dm,hx,hy,Instr.storeAt,Instr.sureAddr,ei]
 have hD:DW Rd w₁ (w₁.setRow g c) (listed P fn a o w₁):=by
  refine⟨⟨rfl,rfl⟩,λb hb=>setRow_other _ _ _ _ (λe=>hg (e▸hb)),λev fu=>?_⟩
  have hm:=mem_listed fu;unfold execOp at hm;obtain⟨inf,hq,fo⟩:=Option.map_eq_some_iff.1 hi;have lj:∀v∈c.toList,v.oneCell'=true:=λv hv=>(Array.all_eq_true_iff_forall_mem.1 h1) v (by simpa using hv)
  simp[dm,hx,hy,Instr.storeAt,Instr.sureAddr,ei,storeVar,sizeOf,typeInfo,hq,Value.cells,fo]at hm;rcases events_storeCells_at (P:=P) g 0 t' c.toList 0 old w₁ #[] hr (by simp;omega) lj ev hm with h|⟨ad,e1,e2⟩
  .simp at h
  .rcases Af (P:=P) _ c.toList 0 w₁ #[] lj ev hm with h|h
   .simp at h
   .exact⟨ad,e1,h,λ_=>e2▸hg⟩
 rcases dq with dq|dq
 .rw[dq];exact hK _ _ ⟨hD,ee _ hR⟩
 .rw[dq];exact hK _ _ ⟨hD,ee _ hR⟩
theorem Jp{o:Oper}{g i:Nat}{a:Act}{w:World}{t t':TypeId}{x y:Operand}{old:Array Value}{k:IntKind}{n:Int}
  (dm:o.op=.store t x y) (hx:a.eval x=.pointer (some ⟨g,i,none⟩)) (hy:a.eval y=.int k n) (du:w.heap[g]?=some (.cells old t')) (hi:i<old.size) (hs:(P.info? t).map (·.size)=some 1) :
  ((execOp a.eval o).run P w=.ok .skip (w.setRow g (old.setIfInBounds i (.int k n)))∨(execOp a.eval o).run P w=.ok (.value undef) (w.setRow g (old.setIfInBounds i (.int k n))))∧
  ∀ev∈listed P fn a o w,ev=⟨.cell ⟨g,i,none⟩,true,false⟩:=by
 have hc:w.cell? ⟨g,i,none⟩=some (old[i]):=by rw[ab w g i old t' (0,0) du];simp[hi]
 have hf:w.frozen? ⟨g,i,none⟩=false:=by simp[World.frozen?,du]
 obtain⟨inf,hq,fo⟩:=Option.map_eq_some_iff.1 hs;have e:=setCell_eq_setRow w g i old t' (0,0) (.int k n) du;constructor
 .unfold execOp;simp only[dm,hx,hy,Instr.storeAt,Instr.sureAddr];simp[storeVar,sizeOf,typeInfo,hq,fo,hc,hf,e,go_sem,storeCells]
 .intro ev fu;have hm:=mem_listed fu;unfold execOp at hm;simp only[dm,hx,hy,Instr.storeAt,Instr.sureAddr]at hm;simp[storeVar,sizeOf,typeInfo,hq,fo,hc,hf,e,go_sem,storeCells]at hm;exact hm
theorem Ext.setRow{w₀ w:World}(h:Ext w₀ w){g:Nat}(hg:w₀.heap.size<=g)(c:Array Value):Ext w₀ (w.setRow g c):=by refine⟨?_,λb hb=>(setRow_other _ _ _ _ (by omega)).trans (h.block b hb),h.os,h.output⟩;have:=h.size;simpa [World.setRow] using this
end
def aX(B:Nat):List Deferred:=[{target:=.collected B,args:=#[]}]
def jX(b:Frame)(Dz:Nat)(Φ : World->Prop)(g:Goroutine)(w:World):Prop:=∃tmps todo,g=eM b (aX Dz) [] tmps todo∧Φ w
def hid(Vis:Nat->Prop)(n:Nat)(b:Nat):Prop:=b<n∧¬Vis b
section
variable {P:Program}{F:FuncId->Bool}{m:Bool}{b:Frame}{Dz:Nat}{ds:List Deferred}{fl:List Frame}{Rd:Nat->Prop}{Stop:Goroutine->World->Prop}{S:Nat->Prop}{n:Nat}{g:Goroutine}{v W:World}
theorem Rel.congr{S S':Nat->Prop}{B:Nat}(h:Rel P S B v W)(e:∀b,S' b↔S b):Rel P S' B v W:=by have:S'=S:=funext λb=>propext (e b);rw[this];exact h
theorem Bv{c:Array Value}{t:TypeId}{fr:Nat×Nat}(hB:v.heap[Dz]?=some (.cells c t fr)):∃x,(Instr.takeDeferred Dz).run P v=.halt x v:=by obtain⟨_,e⟩:∃m,(getObj Dz).run P v=.halt (.stuck m) v:=⟨_,by simp only[getObj,Sem.run,hB];rfl⟩;simp only[Instr.takeDeferred,df,e];exact⟨_,rfl⟩
theorem Eq{tmps:Array Value}{todo:List Item}{c:Array Value}{t:TypeId}{fr:Nat×Nat}(hB:v.heap[Dz]?=some (.cells c t fr)):∀g' w' es,stepG P m (eM b (aX Dz) [] tmps todo) v≠.go g' w' es:=by intro g' w' es h;obtain⟨x,e⟩:=Bv (P:=P) hB;simp[eM,G,stepG,aX,Frame.at,unwind,e,GStep.after]at h
theorem Ww{tmps:Array Value}{todo:List Item}{chain:List PanicEntry}{c:Array Value}{t:TypeId}{fr:Nat×Nat}(hB:v.heap[Dz]?=some (.cells c t fr)):∀g' w' es,stepG P m (aR b (aX Dz) [] tmps todo chain) v≠.go g' w' es:=by intro g' w' es h;obtain⟨x,e⟩:=Bv (P:=P) hB;simp[aR,G,stepG,aX,Frame.at,Frame.raise,unwind,e,GStep.after]at h
def fY(P:Program)(F:FuncId->Bool)(m:Bool)(b:Frame)(Dz:Nat)(Rd:Nat->Prop)(Stop:Goroutine->World->Prop)(n:Nat)(v:World)(L:List Item->List Deferred->List Frame->Goroutine):Prop:=
 (∃st:WAt,st.Ok P F∧Goes P m Ext (DW Rd) Stop n (st.g b (aX Dz) []) v∧L=λk ds fl=>st.gk b ds fl k)∨
 (∃(tmps:Array Value)(todo:List Item),(∀u,Ext v u->Stop (eM b (aX Dz) [] tmps todo) u)∧L=λk ds fl=>eM b ds fl tmps (todo++k))∨
 ∃(tmps:Array Value)(todo:List Item)(chain:List PanicEntry),(∀u,Ext v u->Stop (aR b (aX Dz) [] tmps todo chain) u)∧L=λk ds fl=>aR b ds fl tmps (todo++k) chain
theorem fY.on{P:Program}{F:FuncId->Bool}{m:Bool}{b:Frame}{Dz:Nat}{Rd:Nat->Prop}{Stop:Goroutine->World->Prop}{n:Nat}{v:World}{st:WAt}(h:st.Ok P F)(h':Goes P m Ext (DW Rd) Stop n (st.g b (aX Dz) []) v):fY P F m b Dz Rd Stop n v (λk ds fl=>st.gk b ds fl k):=.inl ⟨_,h,h',rfl⟩
theorem fY.back{P:Program}{F:FuncId->Bool}{m:Bool}{b:Frame}{Dz:Nat}{Rd:Nat->Prop}{Stop:Goroutine->World->Prop}{n:Nat}{v:World}{tmps:Array Value}{todo:List Item}(h:∀u,Ext v u->Stop (eM b (aX Dz) [] tmps todo) u):fY P F m b Dz Rd Stop n v (λk ds fl=>eM b ds fl tmps (todo++k)):=.inr (.inl ⟨_,_,h,rfl⟩)
theorem fY.up{P:Program}{F:FuncId->Bool}{m:Bool}{b:Frame}{Dz:Nat}{Rd:Nat->Prop}{Stop:Goroutine->World->Prop}{n:Nat}{v:World}{tmps:Array Value}{todo:List Item}{chain:List PanicEntry}(h:∀u,Ext v u->Stop (aR b (aX Dz) [] tmps todo chain) u):fY P F m b Dz Rd Stop n v (λk ds fl=>aR b ds fl tmps (todo++k) chain):=.inr (.inr ⟨_,_,_,h,rfl⟩)
theorem fY.parts{P:Program}{F:FuncId->Bool}{m:Bool}{b:Frame}{Dz:Nat}{Rd:Nat->Prop}{Stop:Goroutine->World->Prop}{n:Nat}{v:World}{motive:∀L,fY P F m b Dz Rd Stop n v L->Prop}{L:List Item->List Deferred->List Frame->Goroutine}(h:fY P F m b Dz Rd Stop n v L)
  (on:∀{st:WAt}(h:st.Ok P F)(h':Goes P m Ext (DW Rd) Stop n (st.g b (aX Dz) []) v),motive _ (fY.on h h'))
  (back:∀{tmps:Array Value}{todo:List Item}(h:∀u,Ext v u->Stop (eM b (aX Dz) [] tmps todo) u),motive _ (fY.back h))
  (up:∀{tmps:Array Value}{todo:List Item}{chain:List PanicEntry}(h:∀u,Ext v u->Stop (aR b (aX Dz) [] tmps todo chain) u),motive _ (fY.up h)):motive L h:=by
 rcases h with⟨_,h,h',rfl⟩|⟨_,_,h,rfl⟩|⟨_,_,_,h,rfl⟩
 .exact on h h'
 .exact back h
 .exact up h
structure Eff(S Rd:Nat->Prop)(W W':World)(es:Array Event):Prop where
 grown:W.heap.size<=W'.heap.size
 hidden:∀b,S b->W'.heap[b]?=W.heap[b]?
 rd:∀b,Rd b->¬S b->W'.heap[b]?=W.heap[b]?
 os:W'.os=W.os
 output:W'.output=W.output
 ev:∀e∈es,fI S W'.heap.size e∧EvW Rd e
theorem Goes.stop_of{n:Nat}(fe:∀g' w' es,stepG P m g v≠.go g' w' es)(h:Goes P m Ext (DW Rd) Stop n g v):∀u,Ext v u->Stop g u:=by
 rcases Conc.Goes.cases h with h|⟨n',_,h⟩
 .exact h
 .obtain⟨g',w',es,h1,_⟩:=h v (.refl v);exact absurd h1 (fe _ _ _)
theorem wY(hG:Good P F)(hk:b.kind≠.early)(hD:Rd Dz)(hB:∃c t fr,v.heap[Dz]?=some (.cells c t fr)){st:WAt}(dx:st.Ok P F)(hR:Rel P S 0 v W){n':Nat}
  (h:∀w₁,Ext v w₁->∃g' w' es,stepG P m (st.g b (aX Dz) []) w₁ = .go g' w' es∧DW Rd w₁ w' es∧Goes P m Ext (DW Rd) Stop n' g' w') :
  ∃v' W' es L,(∀k ds fl,(st.Busy∨k=[])->stepG P m (st.gk b ds fl k) W=.go (L k ds fl) W' es)∧Rel P S 0 v' W'∧Eff S Rd W W' es∧fY P F m b Dz Rd Stop n' v' L:=by
 let u:World:={v with tape:=W.tape,drawn:=W.drawn};have tu:Ext v u:=Ext.twin ⟨rfl,rfl,rfl⟩;obtain⟨g',u',es,hs,⟨⟨YQ,EY⟩,LJ,fu⟩,oh⟩:=h u tu;have zd:Rel P S u'.drawn u W:=⟨λj q _=>rfl,hR.os,hR.output,hR.size,hR.seen,hR.hid,hR.tame,hR.high⟩
 obtain⟨L,hL,e,SQ,SB,W',hW,E4,ZX,BE,vy⟩:=Ld hG hk dx zd hs (ae _);subst e;have tq:W.heap.size<=W'.heap.size:=by have h2:=SB.size;have h3:=zd.size;have h4:=BE.size;omega
 obtain⟨c,t,fr,hB⟩:=hB;have WB:u'.heap[Dz]?=some (.cells c t fr):=(LJ Dz hD).trans hB;refine⟨u',W',es,L,hW,BE.zero,⟨tq,vy,λb hb hn=>?_,?_,?_,λe he=>⟨?_,fu e he⟩⟩,?_⟩
 .rw[<-BE.seen b hn,LJ b hb];exact zd.seen b hn
 .rw[<-BE.os,YQ];exact zd.os
 .rw[<-BE.output,EY];exact zd.output
 .have:=SQ e he;rwa [BE.size]at this
 .cases hL using iC.parts with
  |@on kq ho=>simp only[WAt.gk_nil]at oh;exact .on ho oh
  |@back tmps todo=>simp only[bo]at oh;exact .back (Goes.stop_of (Eq WB) oh)
  |@up tmps todo chain=>simp only[bo]at oh;exact .up (Goes.stop_of (Ww WB) oh)
theorem Pf(hG:Good P F)(hk:b.kind≠.early)(hD:Rd Dz)(hB:∃c t fr,v.heap[Dz]?=some (.cells c t fr)){st:WAt}(dx:st.Ok P F)(hR:Rel P S 0 v W)(hgo:Goes P m Ext (DW Rd) Stop n (st.g b (aX Dz) []) v):(∀u,Ext v u->Stop (st.g b (aX Dz) []) u)∨
  ∃n' v' W' es L,n=n'+1∧(∀k ds fl,(st.Busy∨k=[])->stepG P m (st.gk b ds fl k) W=.go (L k ds fl) W' es)∧Rel P S 0 v' W'∧Eff S Rd W W' es∧fY P F m b Dz Rd Stop n' v' L:=by
 rcases Conc.Goes.cases hgo with h|⟨n',rfl,h⟩
 .exact .inl h
 .obtain⟨v',W',es,L,h1,h2,h3,h4⟩:=wY hG hk hD hB dx hR h;exact .inr ⟨n',v',W',es,L,rfl,h1,h2,h3,h4⟩
end
structure Terr(P:Program)(Wg:Nat)(K:Nat->Prop)(Vis Rd:Nat->Nat->Prop)(v:Nat->World)(W:World):Prop where
 rel:∀k,K k->Rel P (hid (Vis k) W.heap.size) 0 (v k) W
 lt:∀k b,K k->Vis k b->b<W.heap.size
 wg:∀k,K k->¬Vis k Wg
 disj:∀k k' b,K k->K k'->k≠k'->Vis k b->¬Rd k b->¬Vis k' b
 rdVis:∀k b,K k->Rd k b->Vis k b
 glob:P.globals.size<=W.heap.size
structure Chg(X:Nat->Prop)(W W':World):Prop where
 grown:W.heap.size<=W'.heap.size
 block:∀b,b<W.heap.size->¬X b->W'.heap[b]?=W.heap[b]?
 os:W'.os=W.os
 output:W'.output=W.output
theorem Eff.chg{Vis Rd:Nat->Prop}{W W':World}{es:Array Event}(h:Eff (hid Vis W.heap.size) Rd W W' es):Chg (λb=>Vis b∧¬Rd b) W W':=by
 refine⟨h.grown,λb hb hx=>?_,h.os,h.output⟩;by_cases hv:Vis b
 .have hr:Rd b:=ar λhr=>hx ⟨hv,hr⟩;exact h.rd b hr λhh=>hh.2 hv
 .exact h.hidden b ⟨hb,hv⟩
section
variable {P:Program}{Wg:Nat}{K:Nat->Prop}{Vis Rd:Nat->Nat->Prop}{v:Nat->World}{W W':World}
theorem Gq{Vis:Nat->Prop}{X:Nat->Prop}{v:World}(h:Rel P (hid Vis W.heap.size) 0 v W)(hg:P.globals.size<=W.heap.size)(dp:∀b,Vis b->b<W.heap.size)(hc:Chg X W W')(hX:∀b,Vis b->¬X b):Rel P (hid Vis W'.heap.size) 0 (pad v (W'.heap.size-W.heap.size)) W':=by
 refine(Rel.pad h hg hc.grown (λb hb hn=>hc.block b hb (hX b ?_)) hc.os hc.output).congr λb=>?_
 .exact ar λhv=>hn ⟨hb,hv⟩
 .constructor
  .rintro⟨h1,h2⟩;rcases Nat.lt_or_ge b W.heap.size with hl|hl
   .exact .inl ⟨hl,h2⟩
   .exact .inr ⟨hl,h1⟩
  .rintro(⟨h1,h2⟩|⟨h1,h2⟩)
   .exact⟨bg h1 hc.grown,h2⟩
   .exact⟨h2,λhv=>by have:=dp b hv;omega⟩
def dE{α : Type}(f:Nat->α)(k:Nat)(x:α)(i:Nat):α:=if i=k then x else f i
theorem gI{α : Type}(f:Nat->α)(k:Nat)(x:α):dE f k x k=x:=by simp[dE]
theorem gD{α : Type}(f:Nat->α){k i:Nat}(x:α)(h:i≠k):dE f k x i=f i:=by simp[dE,h]
def more(Vis:Nat->Prop)(W W':World)(b:Nat):Prop:=Vis b∨(W.heap.size<=b∧b<W'.heap.size)
def iI(v:Nat->World)(k:Nat)(v':World)(n:Nat)(i:Nat):World:=if i=k then v' else pad (v i) n
theorem Terr.step(h:Terr P Wg K Vis Rd v W){k:Nat}(hk:K k){v':World}(hR:Rel P (hid (Vis k) W.heap.size) 0 v' W')(hc:Chg (λb=>Vis k b∧¬Rd k b) W W')(hWg:Wg<W.heap.size):Terr P Wg K (dE Vis k (more (Vis k) W W')) Rd (iI v k v' (W'.heap.size-W.heap.size)) W':=by
 refine⟨λi hi=>?_,λi b hi hb=>?_,λi hi hb=>?_,λi i' b hi ft dy hb hr ic=>?_,λi b hi hb=>?_,ak h.glob hc.grown⟩
 .by_cases e:i=k
  .subst e;rw[gI];simp only[iI,if_true];refine hR.congr λb=>?_;constructor
   .rintro⟨h1,h2⟩;have h3:¬Vis i b:=λx=>h2 (.inl x);exact⟨Nat.lt_of_not_le λx=>h2 (.inr ⟨x,h1⟩),h3⟩
   .rintro⟨h1,h2⟩;exact⟨bg h1 hc.grown,λx=>x.elim h2 λy=>by omega⟩
  .rw[gD _ _ e];simp only[iI,ah e];exact Gq (h.rel i hi) h.glob (h.lt i · hi) hc λb hb hx=>h.disj k i b hk hi (Ne.symm e) hx.1 hx.2 hb
 .by_cases e:i=k
  .subst e;rw[gI]at hb;rcases hb with hb|hb
   .exact bg (h.lt i b hi hb) hc.grown
   .exact hb.2
  .rw[gD _ _ e]at hb;exact bg (h.lt i b hi hb) hc.grown
 .by_cases e:i=k
  .subst e;rw[gI]at hb;rcases hb with hb|hb
   .exact h.wg i hi hb
   .omega
  .rw[gD _ _ e]at hb;exact h.wg i hi hb
 .by_cases e:i=k
  .subst e;rw[gI]at hb;rw[gD _ _ (Ne.symm dy)]at ic;rcases hb with hb|hb
   .exact h.disj i i' b hi ft dy hb hr ic
   .have:=h.lt i' b ft ic;omega
  .rw[gD _ _ e]at hb;by_cases e':i'=k
   .subst e';rw[gI]at ic;rcases ic with ic|ic
    .exact h.disj i i' b hi ft dy hb hr ic
    .have:=h.lt i b hi hb;omega
   .rw[gD _ _ e']at ic;exact h.disj i i' b hi ft dy hb hr ic
 .by_cases e:i=k
  .subst e;rw[gI];exact .inl (h.rdVis i b hi hb)
  .rw[gD _ _ e];exact h.rdVis i b hi hb
theorem Terr.still(h:Terr P Wg K Vis Rd v W){X:Nat->Prop}(hc:Chg X W W')(hs:W'.heap.size=W.heap.size)(hX:∀k b,K k->Vis k b->¬X b):Terr P Wg K Vis Rd v W':=by
 refine⟨λi hi=>?_,λi b hi hb=>by rw[hs];exact h.lt i b hi hb,h.wg,h.disj,h.rdVis,by rw[hs];exact h.glob⟩;have:=Gq (h.rel i hi) h.glob (h.lt i · hi) hc (hX i · hi);rw[hs,Nat.sub_self]at this;rw[hs];have e:pad (v i) 0=v i:=by simp[pad]
 rwa [e]at this
theorem Terr.at(h:Terr P Wg K Vis Rd v W)(d:Nat):Terr P Wg K Vis Rd v (W.at d):=⟨λi hi=>(h.rel i hi).at d,h.lt,h.wg,h.disj,h.rdVis,h.glob⟩
end
open Go.Conc Go.ConcN
open Go.ConcR (KK wgBlock WgAt stA smA rd wr mk DC0 Bk g_of_ofEvents bk_of_mute ofEvent_loc_mark ofEvent_cell ofEvent_mk)
def RL(ty:TypeId)(Wg:Nat)(w w₁ : World):Prop:=WgLive ty Wg w->WgLive ty Wg w₁
theorem RL.trans{ty:TypeId}{Wg:Nat}(a b c:World)(h:RL ty Wg a b)(k:RL ty Wg b c):RL ty Wg a c:=k∘h
section
variable (P:Program)(ty:TypeId)(Wg:Nat)
def uR(g:Goroutine)(w:World):Prop:=
 g.status=.running∧mayWake P g=true∧(WgAt ty Wg w 0 0->∃g',stepG P false g w=.go g' (w.setCell (smA Wg) (.int .u32 1)) (semEvents (smA Wg))∧∃q,QuitsD P q 1 g')
def uJ(g:Goroutine)(w:World):Prop:=
 g.status=.running∧(WgAt ty Wg w 1 0->∃g',stepG P false g w=.go g' (w.setCell (stA Wg) (.int .u64 0)) #[wr (stA Wg)]∧∃m,Goes P false (RL ty Wg) DC0 (uR P ty Wg) m g' (w.setCell (stA Wg) (.int .u64 0)))
def uK(g:Goroutine)(w:World):Prop:=
 g.status=.running∧(WgAt ty Wg w 1 0->∃g',stepG P false g w=.go g' w #[rd (stA Wg)]∧∃m,Goes P false (RL ty Wg) DC0 (uJ P ty Wg) m g' w)
def uT(g:Goroutine)(w:World):Prop:=
 g.status=.running∧∀v wt:Nat,wt<=1->v<2147483647->WgAt ty Wg w ((v+1)*KK+wt) 0->
  ∃g',stepG P false g w=.go g' (w.setCell (stA Wg) (.int .u64 (v*KK+wt))) #[rd (stA Wg),wr (stA Wg)]∧
   ((v=0∧wt=1)->∃m,Goes P false (RL ty Wg) DC0 (uK P ty Wg) m g' (w.setCell (stA Wg) (.int .u64 (v*KK+wt))))∧(¬(v=0∧wt=1)->∃q,QuitsD P q 1 g')
def uS(g:Goroutine)(w:World):Prop:=
 g.status=.running∧∃g',stepG P false g w=.go g' w #[mk .disable]∧∃m,Goes P false (RL ty Wg) DC0 (uT P ty Wg) m g' w
def nL(g:Goroutine)(w:World):Prop:=
 g.status=.running∧∃g',stepG P false g w=.go g' w #[mk (.releaseMerge (stA Wg))]∧∃m,Goes P false (RL ty Wg) DC0 (uS P ty Wg) m g' w
def bT(s m d:Nat)(g:Goroutine)(w:World):Prop:=
 (s=7∧d=0∧Goes P false (RL ty Wg) DC0 (nL P ty Wg) m g w)∨(s=6∧d=0∧Goes P false (RL ty Wg) DC0 (uS P ty Wg) m g w)∨(s=5∧d=1∧Goes P false (RL ty Wg) DC0 (uT P ty Wg) m g w)∨(s=4∧d=1∧Goes P false (RL ty Wg) DC0 (uK P ty Wg) m g w)∨(s=3∧d=1∧Goes P false (RL ty Wg) DC0 (uJ P ty Wg) m g w)∨(s=2∧d=1∧Goes P false (RL ty Wg) DC0 (uR P ty Wg) m g w)∨(s=1∧QuitsD P m d g)
end
section
variable {P:Program}{ty:TypeId}{Wg m:Nat}{g:Goroutine}{w:World}
theorem bT.rel(h:Goes P false (RL ty Wg) DC0 (nL P ty Wg) m g w):bT P ty Wg 7 m 0 g w:=.inl ⟨rfl,rfl,h⟩
theorem bT.off(h:Goes P false (RL ty Wg) DC0 (uS P ty Wg) m g w):bT P ty Wg 6 m 0 g w:=.inr (.inl ⟨rfl,rfl,h⟩)
theorem bT.add(h:Goes P false (RL ty Wg) DC0 (uT P ty Wg) m g w):bT P ty Wg 5 m 1 g w:=.inr (.inr (.inl ⟨rfl,rfl,h⟩))
theorem bT.look(h:Goes P false (RL ty Wg) DC0 (uK P ty Wg) m g w):bT P ty Wg 4 m 1 g w:=.inr (.inr (.inr (.inl ⟨rfl,rfl,h⟩)))
theorem bT.zero(h:Goes P false (RL ty Wg) DC0 (uJ P ty Wg) m g w):bT P ty Wg 3 m 1 g w:=.inr (.inr (.inr (.inr (.inl ⟨rfl,rfl,h⟩))))
theorem bT.sem(h:Goes P false (RL ty Wg) DC0 (uR P ty Wg) m g w):bT P ty Wg 2 m 1 g w:=.inr (.inr (.inr (.inr (.inr (.inl ⟨rfl,rfl,h⟩)))))
theorem bT.quit{d:Nat}(h:QuitsD P m d g):bT P ty Wg 1 m d g w:=.inr (.inr (.inr (.inr (.inr (.inr (⟨rfl,h⟩))))))
theorem bT.parts{motive:∀s m d g w,bT P ty Wg s m d g w->Prop}{s m d:Nat}{g:Goroutine}{w:World}(h:bT P ty Wg s m d g w)
  (rel:∀{m:Nat}{g:Goroutine}{w:World}(h:Goes P false (RL ty Wg) DC0 (nL P ty Wg) m g w),motive _ _ _ _ _ (bT.rel h))
  (off:∀{m:Nat}{g:Goroutine}{w:World}(h:Goes P false (RL ty Wg) DC0 (uS P ty Wg) m g w),motive _ _ _ _ _ (bT.off h))
  (add:∀{m:Nat}{g:Goroutine}{w:World}(h:Goes P false (RL ty Wg) DC0 (uT P ty Wg) m g w),motive _ _ _ _ _ (bT.add h))
  (look:∀{m:Nat}{g:Goroutine}{w:World}(h:Goes P false (RL ty Wg) DC0 (uK P ty Wg) m g w),motive _ _ _ _ _ (bT.look h))
  (zero:∀{m:Nat}{g:Goroutine}{w:World}(h:Goes P false (RL ty Wg) DC0 (uJ P ty Wg) m g w),motive _ _ _ _ _ (bT.zero h))
  (sem:∀{m:Nat}{g:Goroutine}{w:World}(h:Goes P false (RL ty Wg) DC0 (uR P ty Wg) m g w),motive _ _ _ _ _ (bT.sem h))
  (quit:∀{m d:Nat}{g:Goroutine}{w:World}(h:QuitsD P m d g),motive _ _ _ _ _ (bT.quit (ty:=ty) (Wg:=Wg) (w:=w) h)):motive s m d g w h:=by
 rcases h with⟨rfl,rfl,h⟩|⟨rfl,rfl,h⟩|⟨rfl,rfl,h⟩|⟨rfl,rfl,h⟩|⟨rfl,rfl,h⟩|⟨rfl,rfl,h⟩|⟨rfl,h⟩
 .exact rel h
 .exact off h
 .exact add h
 .exact look h
 .exact zero h
 .exact sem h
 .exact quit h
end
section
variable {P:Program}{ty:TypeId}{Wg s m d:Nat}{g:Goroutine}{w w₁ : World}
theorem bT.rely(h:bT P ty Wg s m d g w)(r:RL ty Wg w w₁):bT P ty Wg s m d g w₁:=by
 cases h using bT.parts with
 |rel h=>exact .rel (h.rely RL.trans r)
 |off h=>exact .off (h.rely RL.trans r)
 |add h=>exact .add (h.rely RL.trans r)
 |look h=>exact .look (h.rely RL.trans r)
 |zero h=>exact .zero (h.rely RL.trans r)
 |sem h=>exact .sem (h.rely RL.trans r)
 |quit h=>exact .quit h
theorem bT.pos(h:bT P ty Wg s m d g w):1<=s:=by cases h using bT.parts<;>omega
theorem bT.run(h:bT P ty Wg s m d g w):g.status=.running∨(s=1∧g.status=.finished):=by
 cases h using bT.parts with
 |rel h=>exact .inl (Goes.running (λ_ _ x=>x.1) w (λx=>x) h)
 |off h=>exact .inl (Goes.running (λ_ _ x=>x.1) w (λx=>x) h)
 |add h=>exact .inl (Goes.running (λ_ _ x=>x.1) w (λx=>x) h)
 |look h=>exact .inl (Goes.running (λ_ _ x=>x.1) w (λx=>x) h)
 |zero h=>exact .inl (Goes.running (λ_ _ x=>x.1) w (λx=>x) h)
 |sem h=>exact .inl (Goes.running (λ_ _ x=>x.1) w (λx=>x) h)
 |quit h=>exact h.status.elim .inl λx=>.inr ⟨rfl,x⟩
structure EvG(Wg:Nat)(e:Event):Prop where
 touch:∀x,(MemAct.ofEvent e).touch?=some x->ShN Wg x.loc∧x.kind=.atomic
 norel:∀a,e.loc≠.mark (.release a)
 low:(MemAct.ofEvent e).low (Wg+1)
theorem Ib{e:Event}(h:Bk Wg e):EvG Wg e:=by
 rcases h with h1|h1|⟨a,wr,rfl,ha⟩
 .exact⟨λx hx=>(by simp only[ofEvent_loc_mark h1]at hx;cases hx),λa e=>(by rw[h1]at e;cases e),by rw[ofEvent_loc_mark h1];trivial⟩
 .exact⟨λx hx=>(by simp only[ofEvent_loc_mark h1]at hx;cases hx),λa e=>(by rw[h1]at e;cases e),by rw[ofEvent_loc_mark h1];trivial⟩
 .refine⟨λx hx=>?_,λb e=>(by cases e),?_⟩
  .simp only[ofEvent_cell,MemAct.touch?,cr]at hx;subst hx;exact⟨⟨a,rfl,ha⟩,rfl⟩
  .rw[ofEvent_cell];show a.block<Wg+1;omega
theorem Yg:EvG Wg (mk (.releaseMerge (stA Wg))):=
 ⟨λx hx=>(by simp[mk,MemAct.ofEvent,MemAct.touch?]at hx),λa e=>(by simp[mk]at e),by simp[mk,MemAct.ofEvent,MemAct.low,stA]⟩
structure LTo(P:Program)(ty:TypeId)(Wg j:Nat)(D:Nat->WD)(tag:CTag)(i:Nat)(g:Goroutine)(w:World)(g':Goroutine)(w':World)(es:Array Event)(d:WD)(st sm:Int):Prop where
 go:stepG P false g w=.go g' w' es
 aside:Aside Wg w w'
 at':WgAt ty Wg w' st sm
 sit:bT P ty Wg d.stage d.fuel d.deaf g' w'
 ev:∀e∈es,EvG Wg e
 deaf:deafBehind (D i).deaf es=d.deaf
 rel:d.stage<=6->∀(t:Trace)(k:Nat)(fn:FuncId)(pos:String),Deaf t k=(D i).deaf->((D i).stage<=6->∃r,RelBy (stA Wg) t k r)->∃r,RelBy (stA Wg) (t++MemOp.ofEvents k fn pos es) k r
 mode:∀tag',(tag'=tag∨(tag=.blk∧tag'=.w3))->(mayWake P g=true->g'.status=.running->tag'≠.blk)->ConcN.Mode j (upd D i d) tag' st sm
 mute:(D i).stage=1->∀e∈es,(MemAct.ofEvent e).touch?=none
 less:(d.stage<(D i).stage∧cnt d<=cnt (D i))∨(d.stage=(D i).stage∧d.fuel+1=(D i).fuel)
theorem pO{st sm:Int}(h:WgAt ty Wg w st sm):Wg<w.heap.size:=(Array.getElem?_eq_some_iff.1 h).1
theorem Vf{j i:Nat}{D:Nat->WD}{tag:CTag}{st sm:Int}(hi:i<j)(hb:Vc j D+pend tag<2147483648)(ff:ConcN.Mode j D tag st sm)(gv:WgAt ty Wg w st sm)(hs:bT P ty Wg (D i).stage (D i).fuel (D i).deaf g w)(dq:g.status=.running):∃g' w' es d kq mj,LTo P ty Wg j D tag i g w g' w' es d kq mj:=by
 generalize ei:(D i).stage=s at hs;generalize hfu:(D i).fuel=m at hs;generalize SU:(D i).deaf=dd at hs;have hVj:=Vc_le j D;have refl:RL ty Wg w w:=λx=>x;have book:∀{g':Goroutine}{w':World}{es:Array Event}{d:WD}{kq mj:Int},stepG P false g w=.go g' w' es->Aside Wg w w'->WgAt ty Wg w' kq mj->(∀e∈es,Bk Wg e)->
   (∀jx e,es[jx]?=some e->(MemAct.ofEvent e).touch?=none∨0<deafBehind dd (es.extract 0 jx))->bT P ty Wg d.stage d.fuel d.deaf g' w'->deafBehind dd es=d.deaf->s<=6->
   (∀tag',(tag'=tag∨(tag=.blk∧tag'=.w3))->(mayWake P g=true->g'.status=.running->tag'≠.blk)->ConcN.Mode j (upd D i d) tag' kq mj)->((d.stage<s∧cnt d<=cnt (D i))∨(d.stage=s∧d.fuel+1=m))->(s=1->∀e∈es,(MemAct.ofEvent e).touch?=none)->
   ∃g' w' es d kq mj,LTo P ty Wg j D tag i g w g' w' es d kq mj:=by
  intro g' w' es d kq mj hgo has nt MV hdf LB SS h6 hm og hmu;refine⟨g',w',es,d,kq,mj,hgo,has,nt,LB,λe he=>Ib (MV e he),by rw[SU];exact SS,λ_ t k fn pos ZY hr=>?_,hm,λh=>hmu (ei▸h),by rw[ei,hfu];exact og⟩;obtain⟨r,hr⟩:=hr (by rw[ei];exact h6);exact⟨r,hr.book (Wg:=Wg) (ZY.trans SU) fn pos MV hdf⟩
 have idle:∀{g':Goroutine}{m':Nat},stepG P false g w=.go g' w #[]->bT P ty Wg s m' dd g' w->m'+1=m->s<=6->∃g' w' es d kq mj,LTo P ty Wg j D tag i g w g' w' es d kq mj:=by intro g' m' hgo im hm h6;exact book (d:=⟨s,m',dd⟩) hgo (.refl Wg w) gv (by simp) (by simp) im rfl h6 (λ_ ht _=>ConcN.Mode.retag (by have:=ff.same (i:=i) m' dd;rwa [ei]at this) ht) (.inr ⟨rfl,hm⟩) (by simp)
 cases hs using bT.parts with
 |rel h=>
  rcases Goes.cases h with gy|⟨m',rfl,ej⟩
  .obtain⟨_,g',hgo,m₂,hk⟩:=gy w refl
   refine⟨g',w,_,⟨6,m₂,0⟩,st,sm,hgo,.refl Wg w,gv,.off hk,λe he=>by simp at he;subst he;exact Yg,by rw[SU];rfl,λ_ t k fn pos ZY _=>⟨t.size,RelBy.new (ZY.trans SU) fn pos⟩,
    λ_ ht _=>(ff.counted hi (by omega) (.inl rfl) _ _).retag ht,λh=>absurd h (by omega),.inl ⟨by simp;omega,by simp[cnt,ei]⟩⟩
  .obtain⟨g',w',es,hgo,⟨rfl,rfl⟩,ks⟩:=ej w refl
   exact⟨g',w',#[],⟨7,m',0⟩,st,sm,hgo,.refl Wg _,gv,.rel ks,by simp,by rw[SU];rfl,λh=>absurd h (by simp),
    λ_ ht _=>ConcN.Mode.retag (by have:=ff.same (i:=i) m' 0;rwa [ei]at this) ht,λh=>absurd h (by omega),.inr ⟨ei.symm,by simp;omega⟩⟩
 |off h=>
  rcases Goes.cases h with gy|⟨m',rfl,ej⟩
  .obtain⟨_,g',hgo,m₂,hk⟩:=gy w refl;exact book (d:=⟨5,m₂,1⟩) hgo (.refl Wg w) gv (by intro e he;simp at he;subst he;exact .inl rfl) (by intro jx e he;exact .inl (by have:=Array.mem_of_getElem? he;simp at this;subst this;rfl)) (.add hk) rfl (by omega)
    (λ_ ht _=>(ff.counted hi (by omega) (.inr rfl) _ _).retag ht) (.inl ⟨by simp,by simp[cnt,ei]⟩) (λh=>absurd h (by omega))
  .obtain⟨g',w',es,hgo,⟨rfl,rfl⟩,ks⟩:=ej w refl;exact idle hgo (.off ks) rfl (by omega)
 |add h=>
  rcases Goes.cases h with gy|⟨m',rfl,ej⟩
  .obtain⟨_,fa⟩:=gy w refl;have OP:cnt (D i)=1:=by simp[cnt,ei]
   have hV1:1<=Vc j D:=by have:=le_sumTo (f:=λx=>cnt (D x)) hi;simp only[Vc];omega
   have bk2:∀e∈#[rd (stA Wg),wr (stA Wg)],Bk Wg e:=by intro e he;simp at he;rcases he with rfl|rfl<;>exact bk_cell _ _ rfl
   have x_:∀jx e,(#[rd (stA Wg),wr (stA Wg)]:Array Event)[jx]?=some e->(MemAct.ofEvent e).touch?=none∨0<deafBehind 1 ((#[rd (stA Wg),wr (stA Wg)]:Array Event).extract 0 jx):=by
    intro jx e he;match jx,he with
    |0,_=>exact .inr (by simp[deafBehind])
    |1,_=>exact .inr (by simp[deafBehind,rd])
    |jx+2,he=>simp at he
   have gone:∀q,OpenSt j D->OpenSt j (upd D i ⟨1,q,1⟩):=λq h a ha=>by
    by_cases e:a=i
    .subst e;rw[upd_same];simp
    .rw[upd_ne D _ e];exact h a ha
   have um:∀q,Vc j (upd D i ⟨1,q,1⟩)+1=Vc j D:=λq=>by have:=Vc_upd D (⟨1,q,1⟩:WD) hi;have c0:cnt (⟨1,q,1⟩:WD)=0:=rfl;omega
   have og:∀x:WD,x.stage<5->(x.stage<5∧cnt x<=cnt (D i)):=λx hx=>⟨hx,by rw[OP];simp only[cnt];split<;>omega⟩
   cases ff with
   |opn h1 h2 h3=>
    obtain⟨v,hv⟩:∃v,Vc j D+pend tag=v+1:=⟨Vc j D+pend tag - 1,by omega⟩;rw[hv]at gv;obtain⟨g',hgo,_,hq⟩:=fa v 0 (by omega) (by omega) (by simpa using gv);obtain⟨q,hq⟩:=hq (by omega);refine book (d:=⟨1,q,1⟩) hgo (aside_setCell w (stA Wg) _) (gv.setSt _) bk2 x_ (.quit hq) rfl (by omega) (λ_ ht _=>ConcN.Mode.retag ?_ ht) (.inl (og _ (by simp))) (λh=>absurd h (by omega));have e:((v:Nat):Int)*KK+((0:Nat):Int)=((Vc j (upd D i ⟨1,q,1⟩)+pend tag:Nat):Int)*KK:=by rw[show Vc j (upd D i ⟨1,q,1⟩)+pend tag=v by have:=um q;omega];simp
    rw[e];exact .opn h1 (gone q h2) (λvs ev=>by have:=h3 vs ev;have:=um q;omega)
   |reg h1 h2 h3=>
    obtain⟨v,hv⟩:∃v,Vc j D=v+1:=⟨Vc j D - 1,by omega⟩;rw[hv]at gv;obtain⟨g',hgo,hl,hq⟩:=fa v 1 (by omega) (by omega) (by simpa using gv);by_cases AS:v=0
    .subst AS;obtain⟨m₂,hk⟩:=hl ⟨rfl,rfl⟩;refine book (d:=⟨4,m₂,1⟩) hgo (aside_setCell w (stA Wg) _) (gv.setSt _) bk2 x_ (.look hk) rfl (by omega) (λ_ ht _=>ConcN.Mode.retag ?_ ht) (.inl (og _ (by simp))) (λh=>absurd h (by omega));have xu:∀a,a<j->a≠i->(D a).stage=1:=λa ha e=>by
      have c0:=others_uncounted hi hv OP a ha e;have:=h2 a ha;simp only[cnt]at c0;split at c0<;>omega
     have:=ConcN.Mode.last (j:=j) (D:=upd D i ⟨4,m₂,1⟩) (tag:=tag) i h1 hi (by rw[upd_same];simp) (λa ha e=>by rw[upd_ne D _ e];exact xu a ha e);rw[upd_same]at this;simpa using this
    .obtain⟨q,hq⟩:=hq (by omega);refine book (d:=⟨1,q,1⟩) hgo (aside_setCell w (stA Wg) _) (gv.setSt _) bk2 x_ (.quit hq) rfl (by omega) (λ_ ht _=>ConcN.Mode.retag ?_ ht) (.inl (og _ (by simp))) (λh=>absurd h (by omega));have e:((v:Nat):Int)*KK+((1:Nat):Int)=((Vc j (upd D i ⟨1,q,1⟩):Nat):Int)*KK+1:=by rw[show Vc j (upd D i ⟨1,q,1⟩)=v by have:=um q;omega];simp
     rw[e];exact .reg h1 (gone q h2) (by have:=um q;omega)
   |last l _ h2 h3 h4=>
    by_cases e:i=l
    .subst e;omega
    .have:=h4 i hi e;omega
   |sema h2=>have:=h2 i hi;omega
   |fin _ h2=>have:=h2 i hi;omega
  .obtain⟨g',w',es,hgo,⟨rfl,rfl⟩,ks⟩:=ej w refl;exact idle hgo (.add ks) rfl (by omega)
 |look h=>
  rcases Goes.cases h with gy|⟨m',rfl,ej⟩
  .obtain⟨_,hx⟩:=gy w refl;obtain⟨fz,xu,rfl,rfl⟩:=ff.isLast hi (by omega);simp only[ei]at gv;obtain⟨g',hgo,m₂,hk⟩:=hx (by simpa using gv);refine book (d:=⟨3,m₂,1⟩) hgo (.refl Wg w) gv (by intro e he;simp at he;subst he;exact bk_cell _ _ rfl) (by intro jx e he;match jx,he with|0,_=>exact .inr (by simp[deafBehind])|jx+1,he=>simp at he) (.zero hk) rfl (by omega) (λ_ ht _=>ConcN.Mode.retag ?_ ht) (.inl ⟨by simp,by simp[cnt]⟩) (λh=>absurd h (by omega))
   have:=ConcN.Mode.last (j:=j) (D:=upd D i ⟨3,m₂,1⟩) (tag:=tag) i fz hi (by rw[upd_same];simp) (λa ha e=>by rw[upd_ne D _ e];exact xu a ha e);rw[upd_same]at this;simpa using this
  .obtain⟨g',w',es,hgo,⟨rfl,rfl⟩,ks⟩:=ej w refl;exact idle hgo (.look ks) rfl (by omega)
 |zero h=>
  rcases Goes.cases h with gy|⟨m',rfl,ej⟩
  .obtain⟨_,hx⟩:=gy w refl;obtain⟨fz,xu,rfl,rfl⟩:=ff.isLast hi (by omega);simp only[ei]at gv;obtain⟨g',hgo,m₂,hk⟩:=hx (by simpa using gv);refine book (d:=⟨2,m₂,1⟩) hgo (aside_setCell w (stA Wg) _) (gv.setSt 0) (by intro e he;simp at he;subst he;exact bk_cell _ _ rfl) (by intro jx e he;match jx,he with|0,_=>exact .inr (by simp[deafBehind])|jx+1,he=>simp at he) (.sem hk) rfl (by omega) (λ_ ht _=>ConcN.Mode.retag ?_ ht) (.inl ⟨by simp,by simp[cnt]⟩) (λh=>absurd h (by omega))
   have:=ConcN.Mode.last (j:=j) (D:=upd D i ⟨2,m₂,1⟩) (tag:=tag) i fz hi (by rw[upd_same];simp) (λa ha e=>by rw[upd_ne D _ e];exact xu a ha e);rw[upd_same]at this;simpa using this
  .obtain⟨g',w',es,hgo,⟨rfl,rfl⟩,ks⟩:=ej w refl;exact idle hgo (.zero ks) rfl (by omega)
 |sem h=>
  rcases Goes.cases h with gy|⟨m',rfl,ej⟩
  .obtain⟨_,se,hx⟩:=gy w refl;obtain⟨fz,xu,rfl,rfl⟩:=ff.isLast hi (by omega);simp only[ei]at gv;obtain⟨g',hgo,q,hq⟩:=hx (by simpa using gv);have QN:g'.status=.running:=by
    cases q with
    |zero=>exact absurd hq.2 (by decide)
    |succ q=>exact hq.elim (λx=>absurd x.2 (by decide)) (λx=>x.1)
   refine book (d:=⟨1,q,1⟩) hgo (aside_setCell w (smA Wg) _) (gv.setSm 1) (es:=semEvents (smA Wg)) ?_ ?_ (.quit hq) (by simp[deafBehind,semEvents]) (by omega) ?_ (.inl ⟨by simp,by simp[cnt]⟩) (λh=>absurd h (by omega))
   .intro e he;simp[semEvents]at he;rcases he with rfl|rfl|rfl|rfl
    .exact .inl rfl
    .exact bk_cell _ _ rfl
    .exact bk_cell _ _ rfl
    .exact .inr (.inl rfl)
   .intro jx e he;match jx,he with
    |0,he=>simp[semEvents]at he;subst he;exact .inl rfl
    |1,_=>exact .inr (by simp[deafBehind,semEvents])
    |2,_=>exact .inr (by simp[deafBehind,semEvents])
    |3,he=>simp[semEvents]at he;subst he;exact .inl rfl
    |jx+4,he=>simp[semEvents]at he
   .intro tag' ht X1;have eu:=X1 se QN;have e3:tag'=.w3:=by
     rcases ht with rfl|⟨_,rfl⟩
     .cases tag'<;>first|rfl|exact fz.elim|exact absurd rfl eu
     .rfl
    subst e3;simp only[if_true];exact .sema λa ha=>by
     by_cases e:a=i
     .subst e;rw[upd_same]
     .rw[upd_ne D _ e];exact xu a ha e
  .obtain⟨g',w',es,hgo,⟨rfl,rfl⟩,ks⟩:=ej w refl;exact idle hgo (.sem ks) rfl (by omega)
 |quit h=>
  cases m with
  |zero=>rw[h.1]at dq;cases dq
  |succ q=>
   rcases h with⟨hf,_⟩|⟨_,g',es,lu,ej,hq⟩
   .rw[hf]at dq;cases dq
   .refine book (d:=⟨1,q,deafBehind dd es⟩) (ej w) (.refl Wg w) gv (λe he=>bk_of_mute (lu e he)) (λjx e he=>.inl ?_) (.quit hq) rfl (by omega) (λ_ ht _=>ConcN.Mode.retag (by have:=ff.same (i:=i) q (deafBehind dd es);rwa [ei]at this) ht) (.inr ⟨rfl,rfl⟩) (λ_ e he=>touch_mute (lu e he));exact touch_mute (lu e (Array.mem_of_getElem? he))
end
open Go.ConcR (KK WgAt stA smA g_of_ofEvents)
def blk:Loc->Option Nat
 |.cell a=>some a.block
 |.obj r=>some r
 |_=>none
def qV(L n:Nat)(Vis Rd:Nat->Nat->Prop)(k:Nat)(l:Loc):Prop:=L<k∧k<=n∧∃b,blk l=some b∧Vis k b∧¬Rd k b
def qZ(L n:Nat)(Rd:Nat->Nat->Prop)(k:Nat)(l:Loc):Prop:=L<k∧k<=n∧∃b,blk l=some b∧Rd k b
def Wk(L n k:Nat):Prop:=k=0∨(L<k∧k<=n)
section
variable {P:Program}{Wg L n:Nat}{Old:Nat->Prop}{Vis Rd:Nat->Nat->Prop}{v:Nat->World}{W:World}
theorem yI(h:Terr P Wg (Wk L n) Vis Rd v W):Apart (ShN Wg) (qV L n Vis Rd) (qZ L n Rd):=by
 refine⟨?_,?_,?_,?_⟩
 .rintro k k' l ⟨h1,h2,b,hb,h3,h4⟩ ⟨lj,nu,b',ic,FV,h4'⟩;rw[hb]at ic;cases ic;exact ar λdy=>h.disj k k' b (.inr ⟨h1,h2⟩) (.inr ⟨lj,nu⟩) dy h3 h4 FV
 .rintro k k' l ⟨h1,h2,b,hb,h3,h4⟩ ⟨lj,nu,b',ic,FV⟩;rw[hb]at ic;cases ic;by_cases e:k=k'
  .subst e;exact h4 FV
  .exact h.disj k k' b (.inr ⟨h1,h2⟩) (.inr ⟨lj,nu⟩) e h3 h4 (h.rdVis k' b (.inr ⟨lj,nu⟩) FV)
 .rintro k l ⟨h1,h2,b,hb,h3,h4⟩ ⟨a,rfl,rfl⟩;simp only[blk,cr]at hb;subst hb;exact h.wg k (.inr ⟨h1,h2⟩) h3
 .rintro k l ⟨h1,h2,b,hb,h3⟩ ⟨a,rfl,rfl⟩;simp only[blk,cr]at hb;subst hb;exact h.wg k (.inr ⟨h1,h2⟩) (h.rdVis k _ (.inr ⟨h1,h2⟩) h3)
end
structure TCom(Wg L:Nat)(Old:Nat->Prop)(n:Nat)(Vis Rd:Nat->Nat->Prop)(B:Nat)(t:Trace)(d0:Nat)(dW:Nat->Nat):Prop where
 pt:PT (Shun Old) (ShN Wg) (qV L n Vis Rd) (qZ L n Rd) t n
 tidy:jZ (n+1) t
 seen:∀op∈t,op.act.low B
 norel:NoRelease (stA Wg) t
 deaf0:Deaf t 0=d0
 deafW:∀i,i<n->Deaf t (i+1)=dW i
 above:∀k,n<k->Deaf t k=0
 known:∀i a k,touchAt t i=some a->t.g? i=some k->k<=L->Knows t 0 i∨(Shun Old a.loc∧a.kind=.atomic)
 atm:∀i a k,touchAt t i=some a->t.g? i=some k->L<k->a.kind=.atomic->ShN Wg a.loc
 over:∀i k,t.g? i=some k->0<k->k<=L->t.counts i->∃q,t.g? q=some 0∧HappensBefore t i q
structure EvK(Wg L n:Nat)(Vis Rd:Nat->Nat->Prop)(B k:Nat)(e:Event):Prop where
 touch:∀x,(MemAct.ofEvent e).touch?=some x->L<k∧x.loc.isMemory=true∧((ShN Wg x.loc∧x.kind=.atomic)∨(x.kind=.plain∧(qV L n Vis Rd k x.loc∨(qZ L n Rd k x.loc∧x.write=false))))
 norel:∀a,e.loc≠.mark (.release a)
 low:(MemAct.ofEvent e).low B
structure EvZ(Wg L n:Nat)(Old:Nat->Prop)(Vis Rd:Nat->Nat->Prop)(B:Nat)(e:Event):Prop where
 touch:∀x,(MemAct.ofEvent e).touch?=some x->x.loc.isMemory=true∧((ShN Wg x.loc∧x.kind≠.plain)∨∃b,blk x.loc=some b∧Vis 0 b∧(x.write=true->¬Rd 0 b))
 norel:∀a,e.loc≠.mark (.release a)
 low:(MemAct.ofEvent e).low B
section
variable {P:Program}{Wg L n:Nat}{Old:Nat->Prop}{Vis Rd:Nat->Nat->Prop}{v:Nat->World}{W:World}{B:Nat}{t:Trace}{d0:Nat}{dW:Nat->Nat}
theorem lt_of_g?{i k:Nat}(h:t.g? i=some k):i<t.size:=by unfold Trace.g? at h;obtain⟨z,hz,_⟩:=Option.map_eq_some_iff.1 h;exact lt_size_of_getElem? hz
theorem oD{u:Trace}{i:Nat}{a:Touch}(h:touchAt (t++u) i=some a)(hi:i<t.size):touchAt t i=some a:=by unfold touchAt at h⊢;rwa [act?_old hi]at h
theorem kK{u:Trace}{i:Nat}(hi:¬i<t.size){a:Touch}(h:touchAt (t++u) i=some a):∃op∈u,(t++u)[i]?=some op∧op.act.touch?=some a:=by
 obtain⟨op,dm,ky⟩:=touch_of h;rcases getElem?_append_cases dm with⟨h1,_⟩|⟨_,h1⟩
 .exact absurd h1 hi
 .exact⟨op,h1,dm,ky⟩
theorem g?_of{i:Nat}{op:MemOp}(h:t[i]?=some op):t.g? i=some op.g:=by simp[Trace.g?,h]
theorem TCom.mono(h:TCom Wg L Old n Vis Rd B t d0 dW){B':Nat}(hB:B<=B'):TCom Wg L Old n Vis Rd B' t d0 dW:=
 ⟨h.pt,h.tidy,λop dm=>MemAct.low_mono hB (h.seen op dm),h.norel,h.deaf0,h.deafW,h.above,h.known,h.atm,h.over⟩
theorem TCom.grow{yl:Nat->Nat->Prop}(h:TCom Wg L Old n Vis Rd B t d0 dW)(hv:∀k b,yl k b->Vis k b∨B<=b)(hm:∀k b,Vis k b->yl k b):TCom Wg L Old n yl Rd B t d0 dW:=by
 refine⟨h.pt.grow (λk l hl=>?_) (λk l hl=>?_) (λk l=>Iff.rfl),h.tidy,h.seen,h.norel,h.deaf0,h.deafW,h.above,h.known,h.atm,h.over⟩
 .obtain⟨h1,h2,b,hb,h3,h4⟩:=hl;rcases hv k b h3 with h5|h5
  .exact .inl ⟨h1,h2,b,hb,h5,h4⟩
  .refine .inr λi a ha e=>?_;obtain⟨op,dm,ky⟩:=touch_of ha;have hl:=h.seen op (Array.mem_of_getElem? dm);subst e;cases ye:op.act with
   |access e=>
    rw[ye]at ky hl;simp only[MemAct.touch?,cr]at ky;subst ky;have:e.loc.low B:=hl;simp only at hb;cases DH:e.loc with
    |cell a=>rw[DH]at hb this;simp only[blk,cr]at hb;have:a.block<B:=this;omega
    |obj r=>rw[DH]at hb this;simp only[blk,cr]at hb;have:r<B:=this;omega
    |output=>rw[DH]at hb;cases hb
    |goroutines=>rw[DH]at hb;cases hb
    |mark m=>rw[DH]at hb;cases hb
   |mark m=>
    rw[ye]at ky hl;cases m<;>simp only[MemAct.touch?,cr,reduceCtorEq]at ky
    all_goals
     subst ky;simp only[blk,cr]at hb;have:_<B:=hl;omega
   |_=>rw[ye]at ky;simp[MemAct.touch?]at ky
 .obtain⟨h1,h2,b,hb,h3,h4⟩:=hl;exact⟨h1,h2,b,hb,hm k b h3,h4⟩
theorem TCom.app(h:TCom Wg L Old n Vis Rd B t d0 dW)(A:Apart (ShN Wg) (qV L n Vis Rd) (qZ L n Rd)){i:Nat}(hi:i<n){fn:FuncId}{pos:String}{es:Array Event}(ly:∀e∈es,EvK Wg L n Vis Rd B (i+1) e):TCom Wg L Old n Vis Rd B (t++MemOp.ofEvents (i+1) fn pos es) d0 (upd dW i (deafBehind (dW i) es)):=by
 have hg:=g_of_ofEvents (g:=i+1) (fn:=fn) (pos:=pos) (es:=es);refine⟨h.pt.appW (k:=i+1) A (by omega) (by omega) (λop dm=>?_),?_,seen_app h.seen λop dm=>?_,h.norel.app λop dm e=>?_,(Deaf_other t (by omega) _ hg).trans h.deaf0,λi' ft=>?_,λk hk=>(Deaf_other t (by omega) _ hg).trans (h.above k hk),λx a k ha hk si=>?_,λx a k ha hk si nt=>?_,λx k hk h0 si hc=>?_⟩
 .obtain⟨e,he,rfl⟩:=Conc.mem_ofEvents dm;refine⟨rfl,λx hx=>?_⟩;rcases((ly e he).touch x hx).2.2 with⟨h1,h2⟩|⟨h1,h2⟩
  .exact .inl ⟨h1,by rw[h2];simp,by rw[h2];simp⟩
  .exact .inr h2
 .intro op dm;rcases Array.mem_append.1 dm with h1|h1
  .exact h.tidy op h1
  .obtain⟨e,he,rfl⟩:=Conc.mem_ofEvents h1;exact⟨by show i+1<n+1;omega,λx hx=>((ly e he).touch x hx).2.1⟩
 .obtain⟨e,he,rfl⟩:=Conc.mem_ofEvents dm;exact(ly e he).low
 .obtain⟨x,hx,rfl⟩:=Conc.mem_ofEvents dm;exact(ly x hx).norel _ (Go.ConcR.loc_of_ofEvent e)
 .by_cases e:i'=i
  .subst e;rw[Deaf_own,h.deafW i' ft,upd_same]
  .rw[Deaf_other t (by omega) _ hg,h.deafW i' ft,upd_ne _ _ e]
 .by_cases dp:x<t.size
  .exact(h.known x a k (oD ha dp) (by rwa [g?_old dp]at hk) si).imp (·.app _) id
  .obtain⟨op,dm,EX,ky⟩:=kK dp ha;obtain⟨e,he,rfl⟩:=Conc.mem_ofEvents dm;rw[g?_of EX]at hk;have:i+1=k:=bm hk;have:=((ly e he).touch a ky).1;omega
 .by_cases dp:x<t.size
  .exact h.atm x a k (oD ha dp) (by rwa [g?_old dp]at hk) si nt
  .obtain⟨op,dm,EX,ky⟩:=kK dp ha;obtain⟨e,he,rfl⟩:=Conc.mem_ofEvents dm;rcases((ly e he).touch a ky).2.2 with⟨h1,_⟩|⟨h1,_⟩
   .exact h1
   .rw[h1]at nt;cases nt
 .by_cases dp:x<t.size
  .obtain⟨q,hq,hb⟩:=h.over x k (by rwa [g?_old dp]at hk) h0 si ((counts_old dp).1 hc);exact⟨q,by rw[g?_old (lt_of_g? hq)];exact hq,hb_app _ hb⟩
  .obtain⟨y,hy,_⟩:=hc;obtain⟨op,dm,EX,ky⟩:=kK dp hy;obtain⟨e,he,rfl⟩:=Conc.mem_ofEvents dm;rw[g?_of EX]at hk;have:i+1=k:=bm hk;have:=((ly e he).touch y ky).1;omega
theorem TCom.app0(h:TCom Wg L Old n Vis Rd B t d0 dW)(T:Terr P Wg (Wk L n) Vis Rd v W)(l4:∀b,Old b->¬Vis 0 b)(TW:¬Old Wg){fn:FuncId}{pos:String}{es:Array Event}(ly:∀e∈es,EvZ Wg L n Old Vis Rd B e):TCom Wg L Old n Vis Rd B (t++MemOp.ofEvents 0 fn pos es) (deafBehind d0 es) dW:=by
 have hg:=g_of_ofEvents (g:=0) (fn:=fn) (pos:=pos) (es:=es);have A:=yI T;refine⟨h.pt.app0 A (λop dm=>?_),?_,seen_app h.seen λop dm=>?_,h.norel.app λop dm e=>?_,by rw[Deaf_own,h.deaf0],λi' ft=>(Deaf_other t (g':=0) (by omega) _ hg).trans (h.deafW i' ft),λk hk=>(Deaf_other t (g':=0) (by omega) _ hg).trans (h.above k hk),λx a k ha hk si=>?_,λx a k ha hk si nt=>?_,λx k hk h0 si hc=>?_⟩
 .obtain⟨e,he,rfl⟩:=Conc.mem_ofEvents dm;refine⟨rfl,λx hx=>?_⟩;rcases((ly e he).touch x hx).2 with⟨h1,h2⟩|⟨b,hb,hv,hw⟩
  .refine⟨?_,.inl ⟨h1,h2⟩⟩;obtain⟨a,ha,yg⟩:=h1;rw[ha];show ¬Old a.block;rw[yg];exact TW
  .refine⟨?_,.inr ⟨?_,λk k1 kn hk=>?_,λXJ k k1 kn hk=>?_⟩⟩
   .have ho:=λhx=>l4 b hx hv;cases hl:x.loc with
    |cell a=>rw[hl]at hb;simp only[blk,cr]at hb;subst hb;exact ho
    |obj r=>rw[hl]at hb;simp only[blk,cr]at hb;subst hb;exact ho
    |output=>exact λx=>x
    |goroutines=>exact λx=>x
    |mark m=>exact λx=>x
   .rintro⟨a,ha,yg⟩;rw[ha]at hb;simp only[blk,cr]at hb;exact T.wg 0 (.inl rfl) (by rw[<-yg,hb];exact hv)
   .obtain⟨h1,h2,b',ic,h3,h4⟩:=hk;rw[hb]at ic;cases ic;exact T.disj k 0 b (.inr ⟨h1,h2⟩) (.inl rfl) (by omega) h3 h4 hv
   .obtain⟨h1,h2,b',ic,h3⟩:=hk;rw[hb]at ic;cases ic;exact T.disj 0 k b (.inl rfl) (.inr ⟨h1,h2⟩) (by omega) hv (hw XJ) (T.rdVis k b (.inr ⟨h1,h2⟩) h3)
 .intro op dm;rcases Array.mem_append.1 dm with h1|h1
  .exact h.tidy op h1
  .obtain⟨e,he,rfl⟩:=Conc.mem_ofEvents h1;exact⟨Nat.succ_pos n,λx hx=>((ly e he).touch x hx).1⟩
 .obtain⟨e,he,rfl⟩:=Conc.mem_ofEvents dm;exact(ly e he).low
 .obtain⟨x,hx,rfl⟩:=Conc.mem_ofEvents dm;exact(ly x hx).norel _ (Go.ConcR.loc_of_ofEvent e)
 .by_cases dp:x<t.size
  .exact(h.known x a k (oD ha dp) (by rwa [g?_old dp]at hk) si).imp (·.app _) id
  .obtain⟨op,dm,EX,ky⟩:=kK dp ha;have:=knows_own EX;rw[hg op dm]at this;exact .inl this
 .by_cases dp:x<t.size
  .exact h.atm x a k (oD ha dp) (by rwa [g?_old dp]at hk) si nt
  .obtain⟨op,dm,EX,ky⟩:=kK dp ha;rw[g?_of EX,hg op dm]at hk;have:0=k:=bm hk;omega
 .by_cases dp:x<t.size
  .obtain⟨q,hq,hb⟩:=h.over x k (by rwa [g?_old dp]at hk) h0 si ((counts_old dp).1 hc);exact⟨q,by rw[g?_old (lt_of_g? hq)];exact hq,hb_app _ hb⟩
  .obtain⟨y,hy,_⟩:=hc;obtain⟨op,dm,EX,ky⟩:=kK dp hy;rw[g?_of EX,hg op dm]at hk;have:0=k:=bm hk;omega
end
