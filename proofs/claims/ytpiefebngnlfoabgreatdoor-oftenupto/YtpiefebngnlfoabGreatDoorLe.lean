import Derived.Test.YtpiefebngnlfoabGreatDoorLd
import Derived.Conc.AppendEvents3
import Derived.Laws.Rows
import Derived.Laws.World
import Derived.Laws.Tables
import Derived.Conc.AppendEvents
import Derived.Conc.CrowdStepW
set_option maxRecDepth 99999
set_option maxHeartbeats 0
set_option linter.unusedVariables false
set_option linter.unusedSimpArgs false
namespace Go.Vw
open Go.Conc
def fV:TypeDesc->Bool
 |.struct _|.array _ _=>true
 |_=>false
def EvW(Rd:Nat->Prop)(e:Event):Prop:=∃ a:Addr,e.loc=.cell a∧e.sync=false∧(e.write=true->¬Rd a.block)
def DW(Rd:Nat->Prop)(w w':World)(es:Array Event):Prop:=(w'.os=w.os∧w'.output=w.output)∧(∀ b,Rd b->w'.heap[b]?=w.heap[b]?)∧∀ e∈es,EvW Rd e
theorem fO(Rd:Nat->Prop):Terms Ext (DW Rd):=⟨Ext.trans,fun _=>⟨⟨rfl,rfl⟩,fun _ _=>rfl,by simp⟩⟩
theorem Ag(Rd:Nat->Prop):LetsDraw (DW Rd):=fun _=>⟨⟨rfl,rfl⟩,fun _ _=>rfl,by simp⟩
theorem Ext.draw(w:World):Ext w {w with drawn:=w.drawn+1}:=⟨Nat.le_refl _,fun _ _=>rfl,rfl,rfl⟩
theorem Ext.alloc(w:World)(o:Obj):Ext w (w.alloc o):=by
 refine⟨?_,fun b hb=>?_,rfl,rfl⟩
 .show w.heap.size<=(w.heap.push o).size;rw[Array.size_push];omega
 .show(w.heap.push o)[b]?=w.heap[b]?;rw[Array.getElem?_push,if_neg (by omega)]
section
variable {P:Program}{main:Bool}{Rd:Nat->Prop}{fn:FuncId}{ops:Array Oper}{Q:Exit->Act->World->Prop}
theorem Ax(a:Addr):∀ (n i:Nat) (acc:Array Value) (w:World) (es:Array Event),(∀ j,j<n->(w.cell? (a.add (i+j))).isSome)->
  ∀ ev∈(loadCellsFrom a i n acc).events P w es,ev∈es∨(∃ ad,ev.loc=.cell ad∧ev.sync=false∧ev.write=false)
 |0,_,_,_,_,_=>fun ev h=>.inl (by simpa [loadCellsFrom] using h)
 |n+1,i,acc,w,es,hc=>fun ev h=>by
  simp only[loadCellsFrom,Sem.events_bind]at h;obtain⟨u,hu⟩:=Option.isSome_iff_exists.1 (hc 0 (by omega));simp only[Nat.add_zero]at hu;have hr:(load (a.add i)).run P w=.ok u w:=by simp[hu]
  rw[hr]at h;rcases Ax a n (i+1) (acc.push u) w _ (fun j hj=>by have:=hc (j+1) (by omega);rwa [show i+(j+1)=i+1+j by omega]at this) ev h with h|h
  .rw[events_load,hu]at h;rcases Array.mem_push.1 h with h|rfl
   .exact .inl h
   .exact .inr ⟨_,rfl,rfl,rfl⟩
  .exact .inr h
theorem wH{w:World}{b:Nat}{t t':TypeId}{d:TypeDesc}{c:Array Value}{fr:Nat×Nat}(hrow:w.heap[b]?=some (.cells c t' fr))(hu:P.underlying t=some d)(hd:fV d=true)(hi:(P.info? t).map (·.size)=some c.size) :
  ∀ ev∈(loadVar t ⟨b,0,none⟩).events P w #[],EvW Rd ev:=by
 intro ev h;have hagg:(isAgg t).run P w=.ok true w:=by
  unfold isAgg;rw[Sem.run_bind,run_underlying hu w];cases d<;>simp_all[fV]
 have hagg2:(isAgg t).events P w #[]=#[]:=by
  unfold isAgg;rw[Sem.events_bind,run_underlying hu w];cases d<;>simp_all[fV]
 cases hq:P.info? t with
 |none=>simp[hq]at hi
 |some i=>
  have hs:i.size=c.size:=by simpa [hq] using hi
  simp[loadVar,hagg,hagg2,sizeOf,typeInfo,hq,hs,loadCells,Sem.events_bind]at h
  rcases Ax _ _ _ _ w _ (fun j hj=>by
   have hadd:(⟨b,0,none⟩:Addr).add (0+j)=⟨b,j,none⟩:=by unfold Addr.add;split<;>simp_all
   rw[hadd,cell_of_row w b j c t' fr hrow]
   simpa using hj) ev h with h|⟨ad,h1,h2,h3⟩
  .simp at h
  .exact⟨ad,h1,h2,fun x=>by rw[h3]at x;cases x⟩
theorem tF{i:Nat}{rest:List Nat}{o:Oper}{n b:Nat}{a:Act}{w:World}{t:TypeId}{p:Operand}{c:Array Value}{fr:Nat×Nat}
  (ho:ops[i]?=some o) (hw:Region.wanted o (yielded ops a.tmps)=true) (hop:o.op=.load t p) (hp:a.eval p=.pointer (some ⟨b,0,none⟩))
  (hrow:w.heap[b]?=some (.cells c t fr)) (hu:(P.underlying t).map fV=some true) (hi:(P.info? t).map (·.size)=some c.size)
  (hnext:∀ w₁,Ext w w₁->OpsC P main Ext (DW Rd) fn ops rest n Q (a.put o.dst (.agg c)) w₁):OpsC P main Ext (DW Rd) fn ops (i :: rest) (n+1) Q a w:=by
 refine opsC_cons_k ho hw fun w₁ hR K hK=>?_
 have hr:=hR.row hrow;obtain⟨d,hu,hd⟩:=Option.map_eq_some_iff.1 hu;have hload:(loadVar t ⟨b,0,none⟩).run P w₁ = .ok (.agg c) w₁:=run_loadVar_row w₁ b t t c fr _ hr hu (by cases d<;>simp_all[fV]) hi
 have hrun:(execOp a.eval o).run P w₁ = .ok (.value (.agg c)) w₁:=by
  unfold execOp;simp only[hop,hp,Sem.run_bind,Instr.loadAt,Instr.sureAddr,Sem.run_pure,Result.andThen_ok];rw[hload];rfl
 rw[hrun];refine hK _ _ ⟨⟨⟨rfl,rfl⟩,fun _ _=>rfl,fun ev hev=>?_⟩,hnext _ hR⟩
 have hm:=mem_listed hev;unfold execOp at hm;simp only[hop,hp,Instr.loadAt,Instr.sureAddr,pure_bind,Sem.events_bind,hload,Result.evThen_ok,Sem.events_pure]at hm;exact wH hr hu hd hi ev hm
theorem Vb{i:Nat}{rest:List Nat}{o:Oper}{n:Nat}{a:Act}{w:World}{t:TypeId}{x:Operand}
  (ho:ops[i]?=some o) (hw:Region.wanted o (yielded ops a.tmps)=true) (hop:o.op=.box t x) (hlow:∀ b,Rd b->b<w.heap.size)
  (hnext:∀ w₁,Ext w w₁->OpsC P main Ext (DW Rd) fn ops rest n Q (a.put o.dst (.pointer (some ⟨w₁.heap.size,0,none⟩))) (w₁.alloc (.cells (a.eval x).cells t))):OpsC P main Ext (DW Rd) fn ops (i :: rest) (n+1) Q a w:=by
 refine opsC_cons_k ho hw fun w₁ hR K hK=>?_
 have hrun:(execOp a.eval o).run P w₁ = .ok (.value (.pointer (some ⟨w₁.heap.size,0,none⟩))) (w₁.alloc (.cells (a.eval x).cells t)):=by
  unfold execOp;simp only[hop,Sem.run_bind,Instr.box,newVar,newRow,run_newObj,Sem.run_pure,Result.andThen_ok];rfl
 rw[hrun];refine hK _ _ ⟨⟨⟨rfl,rfl⟩,fun b hb=>(Ext.alloc w₁ _).block b (Nat.lt_of_lt_of_le (hlow b hb) hR.size),fun ev hev=>?_⟩,hnext _ hR⟩
 have hm:=mem_listed hev;unfold execOp at hm;simp only[hop,Instr.box,newVar,newRow,Sem.events_bind,run_newObj,Sem.run_bind,Sem.run_pure,Result.andThen_ok,Result.evThen_ok,Sem.events_pure]at hm;simp[go_sem]at hm
theorem pZ{i:Nat}{rest:List Nat}{o:Oper}{n:Nat}{a:Act}{w:World}{t:TypeId}{x:Operand}(c:Array Value)
  (ho:ops[i]?=some o) (hw:Region.wanted o (yielded ops a.tmps)=true) (hop:o.op=.box t x) (hlow:∀ b,Rd b->b<w.heap.size) (hx:(a.eval x).cells=c)
  (hnext:∀ N w',w.heap.size<=N->w'.heap[N]?=some (.cells c t)->Ext w w'->OpsC P main Ext (DW Rd) fn ops rest n Q (a.put o.dst (.pointer (some ⟨N,0,none⟩))) w'):OpsC P main Ext (DW Rd) fn ops (i :: rest) (n+1) Q a w:=by
 subst hx;refine Vb ho hw hop hlow fun w₁ hR=>hnext _ _ hR.size ?_ (hR.trans _ _ _ (Ext.alloc _ _))
 show(w₁.heap.push _)[w₁.heap.size]?=_;simp
def jA(P:Program)(t:TypeId):Option Nat:=
 match P.underlying t with
 |some (.array L e)=>
  match P.info? e,P.underlying e with
  |some i,some d=>if i.size=1∧fV d=false then some L else none
  |_,_=>none
 |_=>none
theorem wG{t:TypeId}{L:Nat}(h:jA P t=some L):∃ e inf d,P.underlying t=some (.array L e)∧P.info? e=some inf∧inf.size=1∧P.underlying e=some d∧fV d=false:=by
 unfold jA at h;split at h
 .rename_i L' e hu;split at h
  .rename_i i d h1 h2;split at h
   .rename_i hc;cases h
    exact⟨e,i,d,hu,h1,hc.1,h2,hc.2⟩
   .cases h
  .cases h
 .cases h
theorem xJ{R:World->World->Prop}{D:World->World->Array Event->Prop}(T:Terms R D){i:Nat}{rest:List Nat}{o:Oper}{n m L:Nat}{a:Act}{w:World}{t:TypeId}{x ix:Operand}{c:Array Value}{v:Value}
  (ho:ops[i]?=some o) (hw:Region.wanted o (yielded ops a.tmps)=true) (hop:o.op=.index t x ix) (hx:a.eval x=.agg c) (hix:a.eval ix=.int .i64 (m:Nat))
  (hu:jA P t=some L) (hm:m<L) (hc:c[m]?=some v)
  (hnext:∀ w₁,R w w₁->OpsC P main R D fn ops rest n Q (a.put o.dst v) w₁):OpsC P main R D fn ops (i :: rest) (n+1) Q a w:=by
 refine opsC_cons_k ho hw fun w₁ hR K hK=>?_
 obtain⟨e,inf,d,hu,hq,hs,hu2,hd⟩:=wG hu;have hagg:∀ w,(isAgg e).run P w=.ok false w:=by
  intro w;unfold isAgg;rw[Sem.run_bind,run_underlying hu2 w];cases d<;>simp_all[fV]
 have hagg2:∀ w es,(isAgg e).events P w es=es:=by
  intro w es;unfold isAgg;rw[Sem.events_bind,run_underlying hu2 w];cases d<;>simp_all[fV]
 have hb:(0:Int)<=(m:Int)∧(m:Int)<(L:Int):=by omega
 have hrun:(execOp a.eval o).run P w₁ = .ok (.value v) w₁:=by
  unfold execOp;simp[hop,hx,hix,Instr.index,asIntOf,run_underlying hu,hm,part,hagg,sizeOf,typeInfo,hq,hs,hc]
 rw[hrun];refine hK _ _ ⟨?_,hnext _ hR⟩;rw[listed_nil]
 .exact T.idle _
 .unfold execOp;simp[hop,hx,hix,Instr.index,asIntOf,run_underlying hu,hm,part,hagg,hagg2,sizeOf,typeInfo,hq,hs,hc]
theorem wL{i:Nat}{rest:List Nat}{o:Oper}{n:Nat}{a:Act}{w:World}{t:TypeId}(c:Array Value)
  (ho:ops[i]?=some o) (hw:Region.wanted o (yielded ops a.tmps)=true) (hop:o.op=.alloc t) (hlow:∀ b,Rd b->b<w.heap.size) (hz:(P.info? t).map (·.zero)=some (some (.agg c)))
  (hnext:∀ N w',w.heap.size<=N->w'.heap[N]?=some (.cells c t)->Ext w w'->OpsC P main Ext (DW Rd) fn ops rest n Q (a.put o.dst (.pointer (some ⟨N,0,none⟩))) w'):OpsC P main Ext (DW Rd) fn ops (i :: rest) (n+1) Q a w:=by
 refine opsC_cons_k ho hw fun w₁ hR K hK=>?_
 obtain⟨inf,hq,hzz⟩:=Option.map_eq_some_iff.1 hz;have hzero:(zeroValue t).run P w₁ = .ok (.agg c) w₁:=by simp[zeroValue,typeInfo,hq,hzz]
 have hzero2:(zeroValue t).events P w₁ #[]=#[]:=by simp[zeroValue,typeInfo,hq,hzz]
 have hrun:(execOp a.eval o).run P w₁ = .ok (.value (.pointer (some ⟨w₁.heap.size,0,none⟩))) (w₁.alloc (.cells c t)):=by
  unfold execOp;simp only[hop,Sem.run_bind,Instr.alloc,hzero,newVar,newRow,run_newObj,Sem.run_pure,Result.andThen_ok];rfl
 rw[hrun];refine hK _ _ ⟨⟨⟨rfl,rfl⟩,fun b hb=>(Ext.alloc w₁ _).block b (Nat.lt_of_lt_of_le (hlow b hb) hR.size),fun ev hev=>?_⟩,hnext _ _ hR.size ?_ (hR.trans _ _ _ (Ext.alloc _ _))⟩
 .have hm:=mem_listed hev;unfold execOp at hm;simp only[hop,Instr.alloc,hzero,hzero2,newVar,newRow,Sem.events_bind,run_newObj,Sem.run_bind,Sem.run_pure,Result.andThen_ok,Result.evThen_ok,Sem.events_pure]at hm;simp[go_sem]at hm
 .show(w₁.heap.push _)[w₁.heap.size]?=_;simp
theorem Jy{f:FuncId}{g:Func}{tmps:Array Value}{w:World}{x:Tmp}{t:TypeId}{b:Nat}{c:Array Value}{fr:Nat×Nat}(h:g.results=#[.cell x t])(hx:tmps.getD x undef=.pointer (some ⟨b,0,none⟩))
  (hrow:w.heap[b]?=some (.cells c t fr)) (hu:(P.underlying t).map fV=some true) (hi:(P.info? t).map (·.size)=some c.size) :
  (results g tmps).run P w=.ok (.agg c) w∧∀ ev∈seen P f ((results g tmps).events P w #[]),EvW Rd ev:=by
 obtain⟨d,hu,hd⟩:=Option.map_eq_some_iff.1 hu;have hload:(loadVar t ⟨b,0,none⟩).run P w=.ok (.agg c) w:=run_loadVar_row w b t t c fr _ hrow hu (by cases d<;>simp_all[fV]) hi
 have hx':tmps[x]?.getD undef=.pointer (some ⟨b,0,none⟩):=by simpa using hx
 constructor
 .simp[results,h,hx',asAddr,hload]
 .intro ev hev;have hm:=mem_seen hev;simp[results,h,hx',asAddr,hload]at hm;exact wH hrow hu hd hi ev hm
theorem Pn{f:FuncId}{g:Func}{tmps:Array Value}{w:World}{x:Tmp}{t:TypeId}{b:Nat}{c:Array Value}{fr:Nat×Nat}{Post:Value->World->Prop}(h:g.results=#[.cell x t])(hx:tmps.getD x undef=.pointer (some ⟨b,0,none⟩))
  (hrow:w.heap[b]?=some (.cells c t fr)) (hu:(P.underlying t).map fV=some true) (hi:(P.info? t).map (·.size)=some c.size) (hp:∀ w₁,Ext w w₁->Post (.agg c) w₁) :
  ∀ w₁,Ext w w₁->∃ v w₂,(results g tmps).run P w₁ = .ok v w₁∧DW Rd w₁ w₁ (seen P f ((results g tmps).events P w₁ #[]))∧Post v w₂∧(w₂ = w₁∨Ext w₂ w₁):=by
 intro w₁ hR;obtain⟨r1,r2⟩:=Jy (Rd:=Rd) (f:=f) h hx (hR.row hrow) hu hi;exact⟨_,_,r1,⟨⟨rfl,rfl⟩,fun _ _=>rfl,r2⟩,hp _ hR,.inl rfl⟩
theorem Pm{f:FuncId}{g:Func}{tmps:Array Value}{w:World}{Post:Value->World->Prop}(h:g.results=#[])(hp:∀ v w₁,Ext w w₁->Post v w₁) :
  ∀ w₁,Ext w w₁->∃ v w₂,(results g tmps).run P w₁ = .ok v w₁∧DW Rd w₁ w₁ (seen P f ((results g tmps).events P w₁ #[]))∧Post v w₂∧(w₂ = w₁∨Ext w₂ w₁):=by
 intro w₁ hR;refine⟨.tuple #[],w₁,by simp[results,h],⟨⟨rfl,rfl⟩,fun _ _=>rfl,?_⟩,hp _ _ hR,.inl rfl⟩
 intro ev hev;have hm:=mem_seen hev;simp[results,h]at hm
theorem Aw(a:Addr):∀ (vs:List Value) (i:Nat) (w:World) (es:Array Event),(∀ v∈vs,v.oneCell'=true)->∀ ev∈(storeCells a vs i).events P w es,ev∈es∨ev.sync=false
 |[],_,_,_,_=>fun ev h=>.inl (by simpa [storeCells] using h)
 |v :: rest,i,w,es,h1=>fun ev h=>by
  have h0:∀ ev∈(store (a.add i) v).events P w es,ev∈es∨ev.sync=false:=by
   intro ev h;rw[events_store P w es _ v _ (h1 v (by simp))]at h;split at h
   .split at h
    .exact .inl h
    .rcases Array.mem_push.1 h with h|rfl
     .exact .inl h
     .exact .inr rfl
   .split at h
    .rcases Array.mem_append.1 h with h|h
     .exact .inl h
     .obtain⟨x,_,rfl⟩:=Array.mem_map.1 h;exact .inr rfl
    .exact .inl h
  simp only[storeCells,Sem.events_bind]at h;cases hr:(store (a.add i) v).run P w with
  |ok u w'=>
   rw[hr]at h;rcases Aw a rest (i+1) w' _ (fun x hx=>h1 x (by simp[hx])) ev h with h|h
   .exact h0 ev h
   .exact .inr h
  |_=>
   rw[hr]at h;exact h0 ev h
theorem Kd{i:Nat}{rest:List Nat}{o:Oper}{n g:Nat}{a:Act}{w:World}{t t':TypeId}{x y:Operand}{old c:Array Value}
  (ho:ops[i]?=some o) (hw:Region.wanted o (yielded ops a.tmps)=true) (hop:o.op=.store t x y) (hx:a.eval x=.pointer (some ⟨g,0,none⟩)) (hy:a.eval y=.agg c)
  (hrow:w.heap[g]?=some (.cells old t')) (hi:(P.info? t).map (·.size)=some c.size) (hs:old.size=c.size) (h1:c.all (·.oneCell')=true) (hg:¬Rd g)
  (hnext:∀ w₁,Ext w w₁->OpsC P main Ext (DW Rd) fn ops rest n Q (a.put o.dst undef) (w₁.setRow g c)):OpsC P main Ext (DW Rd) fn ops (i :: rest) (n+1) Q a w:=by
 refine opsC_cons_k ho hw fun w₁ hR K hK=>?_
 have hr:=hR.row hrow;have hst:=run_storeVar_row (P:=P) w₁ g t' t old c hr hi hs h1;have hrun:(execOp a.eval o).run P w₁ = .ok .skip (w₁.setRow g c)∨(execOp a.eval o).run P w₁ = .ok (.value undef) (w₁.setRow g c):=by
  unfold execOp;simp[hop,hx,hy,Instr.storeAt,Instr.sureAddr,hst]
 have hD:DW Rd w₁ (w₁.setRow g c) (listed P fn a o w₁):=by
  refine⟨⟨rfl,rfl⟩,fun b hb=>setRow_other _ _ _ _ (fun e=>hg (e▸hb)),fun ev hev=>?_⟩
  have hm:=mem_listed hev;unfold execOp at hm;obtain⟨inf,hq,hsz⟩:=Option.map_eq_some_iff.1 hi;have h1':∀ v∈c.toList,v.oneCell'=true:=fun v hv=>(Array.all_eq_true_iff_forall_mem.1 h1) v (by simpa using hv)
  simp[hop,hx,hy,Instr.storeAt,Instr.sureAddr,hst,storeVar,sizeOf,typeInfo,hq,Value.cells,hsz]at hm;rcases events_storeCells_at (P:=P) g 0 t' c.toList 0 old w₁ #[] hr (by simp;omega) h1' ev hm with h|⟨ad,e1,e2⟩
  .simp at h
  .rcases Aw (P:=P) _ c.toList 0 w₁ #[] h1' ev hm with h|h
   .simp at h
   .exact⟨ad,e1,h,fun _=>e2▸hg⟩
 rcases hrun with hrun|hrun
 .rw[hrun];exact hK _ _ ⟨hD,hnext _ hR⟩
 .rw[hrun];exact hK _ _ ⟨hD,hnext _ hR⟩
theorem Jv{o:Oper}{g i:Nat}{a:Act}{w:World}{t t':TypeId}{x y:Operand}{old:Array Value}{k:IntKind}{n:Int}
  (hop:o.op=.store t x y) (hx:a.eval x=.pointer (some ⟨g,i,none⟩)) (hy:a.eval y=.int k n) (hrow:w.heap[g]?=some (.cells old t')) (hi:i<old.size) (hs:(P.info? t).map (·.size)=some 1) :
  ((execOp a.eval o).run P w=.ok .skip (w.setRow g (old.setIfInBounds i (.int k n)))∨(execOp a.eval o).run P w=.ok (.value undef) (w.setRow g (old.setIfInBounds i (.int k n))))∧
  ∀ ev∈listed P fn a o w,ev=⟨.cell ⟨g,i,none⟩,true,false⟩:=by
 have hc:w.cell? ⟨g,i,none⟩=some (old[i]):=by rw[cell_of_row w g i old t' (0,0) hrow];simp[hi]
 have hf:w.frozen? ⟨g,i,none⟩=false:=by simp[World.frozen?,hrow]
 obtain⟨inf,hq,hsz⟩:=Option.map_eq_some_iff.1 hs;have e:=setCell_eq_setRow w g i old t' (0,0) (.int k n) hrow;constructor
 .unfold execOp;simp only[hop,hx,hy,Instr.storeAt,Instr.sureAddr];simp[storeVar,sizeOf,typeInfo,hq,hsz,hc,hf,e,go_sem,storeCells]
 .intro ev hev;have hm:=mem_listed hev;unfold execOp at hm;simp only[hop,hx,hy,Instr.storeAt,Instr.sureAddr]at hm;simp[storeVar,sizeOf,typeInfo,hq,hsz,hc,hf,e,go_sem,storeCells]at hm;exact hm
theorem Ext.setRow{w₀ w:World}(h:Ext w₀ w){g:Nat}(hg:w₀.heap.size<=g)(c:Array Value):Ext w₀ (w.setRow g c):=by
 refine⟨?_,fun b hb=>(setRow_other _ _ _ _ (by omega)).trans (h.block b hb),h.os,h.output⟩
 have:=h.size;simpa [World.setRow] using this
end
def aV(B:Nat):List Deferred:=[{target:=.collected B,args:=#[]}]
def kC(b:Frame)(Dz:Nat)(Φ : World->Prop)(g:Goroutine)(w:World):Prop:=∃ tmps todo,g=eN b (aV Dz) [] tmps todo∧Φ w
def hid(Vis:Nat->Prop)(n:Nat)(b:Nat):Prop:=b<n∧¬Vis b
section
variable {P:Program}{F:FuncId->Bool}{m:Bool}{b:Frame}{Dz:Nat}{ds:List Deferred}{fl:List Frame}{Rd:Nat->Prop}{Stop:Goroutine->World->Prop}{S:Nat->Prop}{n:Nat}{g:Goroutine}{v W:World}
theorem Rel.congr{S S':Nat->Prop}{B:Nat}(h:Rel P S B v W)(e:∀ b,S' b↔S b):Rel P S' B v W:=by
 have:S'=S:=funext fun b=>propext (e b)
 rw[this];exact h
theorem Cl{c:Array Value}{t:TypeId}{fr:Nat×Nat}(hB:v.heap[Dz]?=some (.cells c t fr)):∃ x,(Instr.takeDeferred Dz).run P v=.halt x v:=by
 obtain⟨_,e⟩:∃ m,(getObj Dz).run P v=.halt (.stuck m) v:=⟨_,by simp only[getObj,Sem.run,hB];rfl⟩;simp only[Instr.takeDeferred,Sem.run_bind,e];exact⟨_,rfl⟩
theorem Fh{tmps:Array Value}{todo:List Item}{c:Array Value}{t:TypeId}{fr:Nat×Nat}(hB:v.heap[Dz]?=some (.cells c t fr)):∀ g' w' es,stepG P m (eN b (aV Dz) [] tmps todo) v≠.go g' w' es:=by
 intro g' w' es h;obtain⟨x,e⟩:=Cl (P:=P) hB;simp[eN,G,stepG,aV,Frame.at,unwind,e,GStep.after]at h
theorem Xa{tmps:Array Value}{todo:List Item}{chain:List PanicEntry}{c:Array Value}{t:TypeId}{fr:Nat×Nat}(hB:v.heap[Dz]?=some (.cells c t fr)):∀ g' w' es,stepG P m (aM b (aV Dz) [] tmps todo chain) v≠.go g' w' es:=by
 intro g' w' es h;obtain⟨x,e⟩:=Cl (P:=P) hB;simp[aM,G,stepG,aV,Frame.at,Frame.raise,unwind,e,GStep.after]at h
def gG(P:Program)(F:FuncId->Bool)(m:Bool)(b:Frame)(Dz:Nat)(Rd:Nat->Prop)(Stop:Goroutine->World->Prop)(n:Nat)(v:World)(L:List Item->List Deferred->List Frame->Goroutine):Prop:=
 (∃ st:WAt,st.Ok P F∧Goes P m Ext (DW Rd) Stop n (st.g b (aV Dz) []) v∧L=fun k ds fl=>st.gk b ds fl k)∨
 (∃ (tmps:Array Value) (todo:List Item),(∀ u,Ext v u->Stop (eN b (aV Dz) [] tmps todo) u)∧L=fun k ds fl=>eN b ds fl tmps (todo++k))∨
 ∃ (tmps:Array Value) (todo:List Item) (chain:List PanicEntry),(∀ u,Ext v u->Stop (aM b (aV Dz) [] tmps todo chain) u)∧L=fun k ds fl=>aM b ds fl tmps (todo++k) chain
theorem gG.on{P:Program}{F:FuncId->Bool}{m:Bool}{b:Frame}{Dz:Nat}{Rd:Nat->Prop}{Stop:Goroutine->World->Prop}{n:Nat}{v:World}{st:WAt}(h:st.Ok P F)(h':Goes P m Ext (DW Rd) Stop n (st.g b (aV Dz) []) v):gG P F m b Dz Rd Stop n v (fun k ds fl=>st.gk b ds fl k):=.inl ⟨_,h,h',rfl⟩
theorem gG.back{P:Program}{F:FuncId->Bool}{m:Bool}{b:Frame}{Dz:Nat}{Rd:Nat->Prop}{Stop:Goroutine->World->Prop}{n:Nat}{v:World}{tmps:Array Value}{todo:List Item}(h:∀ u,Ext v u->Stop (eN b (aV Dz) [] tmps todo) u):gG P F m b Dz Rd Stop n v (fun k ds fl=>eN b ds fl tmps (todo++k)):=.inr (.inl ⟨_,_,h,rfl⟩)
theorem gG.up{P:Program}{F:FuncId->Bool}{m:Bool}{b:Frame}{Dz:Nat}{Rd:Nat->Prop}{Stop:Goroutine->World->Prop}{n:Nat}{v:World}{tmps:Array Value}{todo:List Item}{chain:List PanicEntry}(h:∀ u,Ext v u->Stop (aM b (aV Dz) [] tmps todo chain) u):gG P F m b Dz Rd Stop n v (fun k ds fl=>aM b ds fl tmps (todo++k) chain):=.inr (.inr ⟨_,_,_,h,rfl⟩)
theorem gG.parts{P:Program}{F:FuncId->Bool}{m:Bool}{b:Frame}{Dz:Nat}{Rd:Nat->Prop}{Stop:Goroutine->World->Prop}{n:Nat}{v:World}{motive:∀ L,gG P F m b Dz Rd Stop n v L->Prop}{L:List Item->List Deferred->List Frame->Goroutine}(h:gG P F m b Dz Rd Stop n v L)
  (on:∀ {st:WAt} (h:st.Ok P F) (h':Goes P m Ext (DW Rd) Stop n (st.g b (aV Dz) []) v),motive _ (gG.on h h'))
  (back:∀ {tmps:Array Value} {todo:List Item} (h:∀ u,Ext v u->Stop (eN b (aV Dz) [] tmps todo) u),motive _ (gG.back h))
  (up:∀ {tmps:Array Value} {todo:List Item} {chain:List PanicEntry} (h:∀ u,Ext v u->Stop (aM b (aV Dz) [] tmps todo chain) u),motive _ (gG.up h)):motive L h:=by
 rcases h with⟨_,h,h',rfl⟩|⟨_,_,h,rfl⟩|⟨_,_,_,h,rfl⟩
 .exact on h h'
 .exact back h
 .exact up h
structure Eff(S Rd:Nat->Prop)(W W':World)(es:Array Event):Prop where
 grown:W.heap.size<=W'.heap.size
 hidden:∀ b,S b->W'.heap[b]?=W.heap[b]?
 rd:∀ b,Rd b->¬S b->W'.heap[b]?=W.heap[b]?
 os:W'.os=W.os
 output:W'.output=W.output
 ev:∀ e∈es,gS S W'.heap.size e∧EvW Rd e
theorem Goes.stop_of{n:Nat}(hno:∀ g' w' es,stepG P m g v≠.go g' w' es)(h:Goes P m Ext (DW Rd) Stop n g v):∀ u,Ext v u->Stop g u:=by
 rcases Conc.Goes.cases h with h|⟨n',_,h⟩
 .exact h
 .obtain⟨g',w',es,h1,_⟩:=h v (.refl v);exact absurd h1 (hno _ _ _)
theorem xV(hG:Good P F)(hk:b.kind≠.early)(hD:Rd Dz)(hB:∃ c t fr,v.heap[Dz]?=some (.cells c t fr)){st:WAt}(hok:st.Ok P F)(hR:Rel P S 0 v W){n':Nat}
  (h:∀ w₁,Ext v w₁->∃ g' w' es,stepG P m (st.g b (aV Dz) []) w₁ = .go g' w' es∧DW Rd w₁ w' es∧Goes P m Ext (DW Rd) Stop n' g' w') :
  ∃ v' W' es L,(∀ k ds fl,(st.Busy∨k=[])->stepG P m (st.gk b ds fl k) W=.go (L k ds fl) W' es)∧Rel P S 0 v' W'∧Eff S Rd W W' es∧gG P F m b Dz Rd Stop n' v' L:=by
 let u:World:={v with tape:=W.tape,drawn:=W.drawn};have tu:Ext v u:=Ext.twin ⟨rfl,rfl,rfl⟩;obtain⟨g',u',es,hs,⟨⟨ho1,ho2⟩,hrd,hev⟩,hgo'⟩:=h u tu;have hRu:Rel P S u'.drawn u W:=⟨fun j q _=>rfl,hR.os,hR.output,hR.size,hR.seen,hR.hid,hR.tame,hR.high⟩
 obtain⟨L,hL,e,hevok,hkept,W',hW,htape,hdrawn,hRW,hhid⟩:=Lf hG hk hok hRu hs (Nat.le_refl _);subst e;have hgrow:W.heap.size<=W'.heap.size:=by
  have h2:=hkept.size;have h3:=hRu.size;have h4:=hRW.size;omega
 obtain⟨c,t,fr,hB⟩:=hB;have hB':u'.heap[Dz]?=some (.cells c t fr):=(hrd Dz hD).trans hB;refine⟨u',W',es,L,hW,hRW.zero,⟨hgrow,hhid,fun b hb hn=>?_,?_,?_,fun e he=>⟨?_,hev e he⟩⟩,?_⟩
 .rw[<-hRW.seen b hn,hrd b hb];exact hRu.seen b hn
 .rw[<-hRW.os,ho1];exact hRu.os
 .rw[<-hRW.output,ho2];exact hRu.output
 .have:=hevok e he;rwa [hRW.size]at this
 .cases hL using iM.parts with
  |@on st' ho=>simp only[WAt.gk_nil]at hgo';exact .on ho hgo'
  |@back tmps todo=>simp only[List.append_nil]at hgo';exact .back (Goes.stop_of (Fh hB') hgo')
  |@up tmps todo chain=>simp only[List.append_nil]at hgo';exact .up (Goes.stop_of (Xa hB') hgo')
theorem Px(hG:Good P F)(hk:b.kind≠.early)(hD:Rd Dz)(hB:∃ c t fr,v.heap[Dz]?=some (.cells c t fr)){st:WAt}(hok:st.Ok P F)(hR:Rel P S 0 v W)(hgo:Goes P m Ext (DW Rd) Stop n (st.g b (aV Dz) []) v) :
  (∀ u,Ext v u->Stop (st.g b (aV Dz) []) u)∨
  ∃ n' v' W' es L,n=n'+1∧(∀ k ds fl,(st.Busy∨k=[])->stepG P m (st.gk b ds fl k) W=.go (L k ds fl) W' es)∧Rel P S 0 v' W'∧Eff S Rd W W' es∧gG P F m b Dz Rd Stop n' v' L:=by
 rcases Conc.Goes.cases hgo with h|⟨n',rfl,h⟩
 .exact .inl h
 .obtain⟨v',W',es,L,h1,h2,h3,h4⟩:=xV hG hk hD hB hok hR h;exact .inr ⟨n',v',W',es,L,rfl,h1,h2,h3,h4⟩
end
structure Terr(P:Program)(Wg:Nat)(K:Nat->Prop)(Vis Rd:Nat->Nat->Prop)(v:Nat->World)(W:World):Prop where
 rel:∀ k,K k->Rel P (hid (Vis k) W.heap.size) 0 (v k) W
 lt:∀ k b,K k->Vis k b->b<W.heap.size
 wg:∀ k,K k->¬Vis k Wg
 disj:∀ k k' b,K k->K k'->k≠k'->Vis k b->¬Rd k b->¬Vis k' b
 rdVis:∀ k b,K k->Rd k b->Vis k b
 glob:P.globals.size<=W.heap.size
structure fU(X:Nat->Prop)(W W':World):Prop where
 grown:W.heap.size<=W'.heap.size
 block:∀ b,b<W.heap.size->¬X b->W'.heap[b]?=W.heap[b]?
 os:W'.os=W.os
 output:W'.output=W.output
theorem Eff.chg{Vis Rd:Nat->Prop}{W W':World}{es:Array Event}(h:Eff (hid Vis W.heap.size) Rd W W' es):fU (fun b=>Vis b∧¬Rd b) W W':=by
 refine⟨h.grown,fun b hb hx=>?_,h.os,h.output⟩
 by_cases hv:Vis b
 .have hr:Rd b:=Classical.byContradiction fun hr=>hx ⟨hv,hr⟩
  exact h.rd b hr fun hh=>hh.2 hv
 .exact h.hidden b ⟨hb,hv⟩
section
variable {P:Program}{Wg:Nat}{K:Nat->Prop}{Vis Rd:Nat->Nat->Prop}{v:Nat->World}{W W':World}
theorem Hf{Vis:Nat->Prop}{X:Nat->Prop}{v:World}(h:Rel P (hid Vis W.heap.size) 0 v W)(hg:P.globals.size<=W.heap.size)(hlt:∀ b,Vis b->b<W.heap.size)(hc:fU X W W')(hX:∀ b,Vis b->¬X b) :
  Rel P (hid Vis W'.heap.size) 0 (pad v (W'.heap.size - W.heap.size)) W':=by
 refine(Rel.pad h hg hc.grown (fun b hb hn=>hc.block b hb (hX b ?_)) hc.os hc.output).congr fun b=>?_
 .exact Classical.byContradiction fun hv=>hn ⟨hb,hv⟩
 .constructor
  .rintro⟨h1,h2⟩;rcases Nat.lt_or_ge b W.heap.size with hl|hl
   .exact .inl ⟨hl,h2⟩
   .exact .inr ⟨hl,h1⟩
  .rintro(⟨h1,h2⟩|⟨h1,h2⟩)
   .exact⟨Nat.lt_of_lt_of_le h1 hc.grown,h2⟩
   .exact⟨h2,fun hv=>by have:=hlt b hv;omega⟩
def dF{α : Type}(f:Nat->α)(k:Nat)(x:α)(i:Nat):α:=if i=k then x else f i
theorem gU{α : Type}(f:Nat->α)(k:Nat)(x:α):dF f k x k=x:=by simp[dF]
theorem gM{α : Type}(f:Nat->α){k i:Nat}(x:α)(h:i≠k):dF f k x i=f i:=by simp[dF,h]
def more(Vis:Nat->Prop)(W W':World)(b:Nat):Prop:=Vis b∨(W.heap.size<=b∧b<W'.heap.size)
def iV(v:Nat->World)(k:Nat)(v':World)(n:Nat)(i:Nat):World:=if i=k then v' else pad (v i) n
theorem Terr.step(h:Terr P Wg K Vis Rd v W){k:Nat}(hk:K k){v':World}(hR:Rel P (hid (Vis k) W.heap.size) 0 v' W')(hc:fU (fun b=>Vis k b∧¬Rd k b) W W')(hWg:Wg<W.heap.size) :
  Terr P Wg K (dF Vis k (more (Vis k) W W')) Rd (iV v k v' (W'.heap.size - W.heap.size)) W':=by
 refine⟨fun i hi=>?_,fun i b hi hb=>?_,fun i hi hb=>?_,fun i i' b hi hi' hne hb hr hb'=>?_,fun i b hi hb=>?_,Nat.le_trans h.glob hc.grown⟩
 .by_cases e:i=k
  .subst e;rw[gU];simp only[iV,if_true];refine hR.congr fun b=>?_
   constructor
   .rintro⟨h1,h2⟩;have h3:¬Vis i b:=fun x=>h2 (.inl x)
    exact⟨Nat.lt_of_not_le fun x=>h2 (.inr ⟨x,h1⟩),h3⟩
   .rintro⟨h1,h2⟩;exact⟨Nat.lt_of_lt_of_le h1 hc.grown,fun x=>x.elim h2 fun y=>by omega⟩
  .rw[gM _ _ e];simp only[iV,if_neg e];exact Hf (h.rel i hi) h.glob (h.lt i · hi) hc fun b hb hx=>h.disj k i b hk hi (Ne.symm e) hx.1 hx.2 hb
 .by_cases e:i=k
  .subst e;rw[gU]at hb;rcases hb with hb|hb
   .exact Nat.lt_of_lt_of_le (h.lt i b hi hb) hc.grown
   .exact hb.2
  .rw[gM _ _ e]at hb;exact Nat.lt_of_lt_of_le (h.lt i b hi hb) hc.grown
 .by_cases e:i=k
  .subst e;rw[gU]at hb;rcases hb with hb|hb
   .exact h.wg i hi hb
   .omega
  .rw[gM _ _ e]at hb;exact h.wg i hi hb
 .by_cases e:i=k
  .subst e;rw[gU]at hb;rw[gM _ _ (Ne.symm hne)]at hb';rcases hb with hb|hb
   .exact h.disj i i' b hi hi' hne hb hr hb'
   .have:=h.lt i' b hi' hb';omega
  .rw[gM _ _ e]at hb;by_cases e':i'=k
   .subst e';rw[gU]at hb';rcases hb' with hb'|hb'
    .exact h.disj i i' b hi hi' hne hb hr hb'
    .have:=h.lt i b hi hb;omega
   .rw[gM _ _ e']at hb';exact h.disj i i' b hi hi' hne hb hr hb'
 .by_cases e:i=k
  .subst e;rw[gU];exact .inl (h.rdVis i b hi hb)
  .rw[gM _ _ e];exact h.rdVis i b hi hb
theorem Terr.still(h:Terr P Wg K Vis Rd v W){X:Nat->Prop}(hc:fU X W W')(hs:W'.heap.size=W.heap.size)(hX:∀ k b,K k->Vis k b->¬X b):Terr P Wg K Vis Rd v W':=by
 refine⟨fun i hi=>?_,fun i b hi hb=>by rw[hs];exact h.lt i b hi hb,h.wg,h.disj,h.rdVis,by rw[hs];exact h.glob⟩
 have:=Hf (h.rel i hi) h.glob (h.lt i · hi) hc (hX i · hi);rw[hs,Nat.sub_self]at this;rw[hs];have e:pad (v i) 0=v i:=by simp[pad]
 rwa [e]at this
theorem Terr.at(h:Terr P Wg K Vis Rd v W)(d:Nat):Terr P Wg K Vis Rd v (W.at d):=⟨fun i hi=>(h.rel i hi).at d,h.lt,h.wg,h.disj,h.rdVis,h.glob⟩
end
open Go.Conc Go.ConcN
open Go.ConcR (KK wgBlock WgAt stA smA rd wr mk DC0 Bk g_of_ofEvents bk_of_mute ofEvent_loc_mark ofEvent_cell ofEvent_mk)
def RL(ty:TypeId)(Wg:Nat)(w w₁ : World):Prop:=WgLive ty Wg w->WgLive ty Wg w₁
theorem RL.trans{ty:TypeId}{Wg:Nat}(a b c:World)(h:RL ty Wg a b)(k:RL ty Wg b c):RL ty Wg a c:=k∘h
section
variable (P:Program)(ty:TypeId)(Wg:Nat)
def wB(g:Goroutine)(w:World):Prop:=
 g.status=.running∧mayWake P g=true∧(WgAt ty Wg w 0 0->∃ g',stepG P false g w=.go g' (w.setCell (smA Wg) (.int .u32 1)) (semEvents (smA Wg))∧∃ q,QuitsD P q 1 g')
def vV(g:Goroutine)(w:World):Prop:=
 g.status=.running∧(WgAt ty Wg w 1 0->∃ g',stepG P false g w=.go g' (w.setCell (stA Wg) (.int .u64 0)) #[wr (stA Wg)]∧∃ m,Goes P false (RL ty Wg) DC0 (wB P ty Wg) m g' (w.setCell (stA Wg) (.int .u64 0)))
def vW(g:Goroutine)(w:World):Prop:=
 g.status=.running∧(WgAt ty Wg w 1 0->∃ g',stepG P false g w=.go g' w #[rd (stA Wg)]∧∃ m,Goes P false (RL ty Wg) DC0 (vV P ty Wg) m g' w)
def wD(g:Goroutine)(w:World):Prop:=
 g.status=.running∧∀ v wt:Nat,wt<=1->v<2147483647->WgAt ty Wg w ((v+1)*KK+wt) 0->
  ∃ g',stepG P false g w=.go g' (w.setCell (stA Wg) (.int .u64 (v*KK+wt))) #[rd (stA Wg),wr (stA Wg)]∧
   ((v=0∧wt=1)->∃ m,Goes P false (RL ty Wg) DC0 (vW P ty Wg) m g' (w.setCell (stA Wg) (.int .u64 (v*KK+wt))))∧(¬(v=0∧wt=1)->∃ q,QuitsD P q 1 g')
def wC(g:Goroutine)(w:World):Prop:=
 g.status=.running∧∃ g',stepG P false g w=.go g' w #[mk .disable]∧∃ m,Goes P false (RL ty Wg) DC0 (wD P ty Wg) m g' w
def nQ(g:Goroutine)(w:World):Prop:=
 g.status=.running∧∃ g',stepG P false g w=.go g' w #[mk (.releaseMerge (stA Wg))]∧∃ m,Goes P false (RL ty Wg) DC0 (wC P ty Wg) m g' w
def bZ(s m d:Nat)(g:Goroutine)(w:World):Prop:=
 (s=7∧d=0∧Goes P false (RL ty Wg) DC0 (nQ P ty Wg) m g w)∨(s=6∧d=0∧Goes P false (RL ty Wg) DC0 (wC P ty Wg) m g w)∨(s=5∧d=1∧Goes P false (RL ty Wg) DC0 (wD P ty Wg) m g w)∨(s=4∧d=1∧Goes P false (RL ty Wg) DC0 (vW P ty Wg) m g w)∨(s=3∧d=1∧Goes P false (RL ty Wg) DC0 (vV P ty Wg) m g w)∨(s=2∧d=1∧Goes P false (RL ty Wg) DC0 (wB P ty Wg) m g w)∨(s=1∧QuitsD P m d g)
end
section
variable {P:Program}{ty:TypeId}{Wg m:Nat}{g:Goroutine}{w:World}
theorem bZ.rel(h:Goes P false (RL ty Wg) DC0 (nQ P ty Wg) m g w):bZ P ty Wg 7 m 0 g w:=.inl ⟨rfl,rfl,h⟩
theorem bZ.off(h:Goes P false (RL ty Wg) DC0 (wC P ty Wg) m g w):bZ P ty Wg 6 m 0 g w:=.inr (.inl ⟨rfl,rfl,h⟩)
theorem bZ.add(h:Goes P false (RL ty Wg) DC0 (wD P ty Wg) m g w):bZ P ty Wg 5 m 1 g w:=.inr (.inr (.inl ⟨rfl,rfl,h⟩))
theorem bZ.look(h:Goes P false (RL ty Wg) DC0 (vW P ty Wg) m g w):bZ P ty Wg 4 m 1 g w:=.inr (.inr (.inr (.inl ⟨rfl,rfl,h⟩)))
theorem bZ.zero(h:Goes P false (RL ty Wg) DC0 (vV P ty Wg) m g w):bZ P ty Wg 3 m 1 g w:=.inr (.inr (.inr (.inr (.inl ⟨rfl,rfl,h⟩))))
theorem bZ.sem(h:Goes P false (RL ty Wg) DC0 (wB P ty Wg) m g w):bZ P ty Wg 2 m 1 g w:=.inr (.inr (.inr (.inr (.inr (.inl ⟨rfl,rfl,h⟩)))))
theorem bZ.quit{d:Nat}(h:QuitsD P m d g):bZ P ty Wg 1 m d g w:=.inr (.inr (.inr (.inr (.inr (.inr (⟨rfl,h⟩))))))
theorem bZ.parts{motive:∀ s m d g w,bZ P ty Wg s m d g w->Prop}{s m d:Nat}{g:Goroutine}{w:World}(h:bZ P ty Wg s m d g w)
  (rel:∀ {m:Nat} {g:Goroutine} {w:World} (h:Goes P false (RL ty Wg) DC0 (nQ P ty Wg) m g w),motive _ _ _ _ _ (bZ.rel h))
  (off:∀ {m:Nat} {g:Goroutine} {w:World} (h:Goes P false (RL ty Wg) DC0 (wC P ty Wg) m g w),motive _ _ _ _ _ (bZ.off h))
  (add:∀ {m:Nat} {g:Goroutine} {w:World} (h:Goes P false (RL ty Wg) DC0 (wD P ty Wg) m g w),motive _ _ _ _ _ (bZ.add h))
  (look:∀ {m:Nat} {g:Goroutine} {w:World} (h:Goes P false (RL ty Wg) DC0 (vW P ty Wg) m g w),motive _ _ _ _ _ (bZ.look h))
  (zero:∀ {m:Nat} {g:Goroutine} {w:World} (h:Goes P false (RL ty Wg) DC0 (vV P ty Wg) m g w),motive _ _ _ _ _ (bZ.zero h))
  (sem:∀ {m:Nat} {g:Goroutine} {w:World} (h:Goes P false (RL ty Wg) DC0 (wB P ty Wg) m g w),motive _ _ _ _ _ (bZ.sem h))
  (quit:∀ {m d:Nat} {g:Goroutine} {w:World} (h:QuitsD P m d g),motive _ _ _ _ _ (bZ.quit (ty:=ty) (Wg:=Wg) (w:=w) h)):motive s m d g w h:=by
 rcases h with⟨rfl,rfl,h⟩|⟨rfl,rfl,h⟩|⟨rfl,rfl,h⟩|⟨rfl,rfl,h⟩|⟨rfl,rfl,h⟩|⟨rfl,rfl,h⟩|⟨rfl,h⟩
 .exact rel h
 .exact off h
 .exact add h
 .exact look h
 .exact zero h
 .exact sem h
 .exact quit h
end
section
variable {P:Program}{ty:TypeId}{Wg s m d:Nat}{g:Goroutine}{w w₁ : World}
theorem bZ.rely(h:bZ P ty Wg s m d g w)(r:RL ty Wg w w₁):bZ P ty Wg s m d g w₁:=by
 cases h using bZ.parts with
 |rel h=>exact .rel (h.rely RL.trans r)
 |off h=>exact .off (h.rely RL.trans r)
 |add h=>exact .add (h.rely RL.trans r)
 |look h=>exact .look (h.rely RL.trans r)
 |zero h=>exact .zero (h.rely RL.trans r)
 |sem h=>exact .sem (h.rely RL.trans r)
 |quit h=>exact .quit h
theorem bZ.pos(h:bZ P ty Wg s m d g w):1<=s:=by cases h using bZ.parts<;>omega
theorem bZ.run(h:bZ P ty Wg s m d g w):g.status=.running∨(s=1∧g.status=.finished):=by
 cases h using bZ.parts with
 |rel h=>exact .inl (Goes.running (fun _ _ x=>x.1) w (fun x=>x) h)
 |off h=>exact .inl (Goes.running (fun _ _ x=>x.1) w (fun x=>x) h)
 |add h=>exact .inl (Goes.running (fun _ _ x=>x.1) w (fun x=>x) h)
 |look h=>exact .inl (Goes.running (fun _ _ x=>x.1) w (fun x=>x) h)
 |zero h=>exact .inl (Goes.running (fun _ _ x=>x.1) w (fun x=>x) h)
 |sem h=>exact .inl (Goes.running (fun _ _ x=>x.1) w (fun x=>x) h)
 |quit h=>exact h.status.elim .inl fun x=>.inr ⟨rfl,x⟩
structure EvG(Wg:Nat)(e:Event):Prop where
 touch:∀ x,(MemAct.ofEvent e).touch?=some x->ShN Wg x.loc∧x.kind=.atomic
 norel:∀ a,e.loc≠.mark (.release a)
 low:(MemAct.ofEvent e).low (Wg+1)
theorem Io{e:Event}(h:Bk Wg e):EvG Wg e:=by
 rcases h with h1|h1|⟨a,wr,rfl,ha⟩
 .exact⟨fun x hx=>(by simp only[ofEvent_loc_mark h1]at hx;cases hx),fun a e=>(by rw[h1]at e;cases e),by rw[ofEvent_loc_mark h1];trivial⟩
 .exact⟨fun x hx=>(by simp only[ofEvent_loc_mark h1]at hx;cases hx),fun a e=>(by rw[h1]at e;cases e),by rw[ofEvent_loc_mark h1];trivial⟩
 .refine⟨fun x hx=>?_,fun b e=>(by cases e),?_⟩
  .simp only[ofEvent_cell,MemAct.touch?,Option.some.injEq]at hx;subst hx;exact⟨⟨a,rfl,ha⟩,rfl⟩
  .rw[ofEvent_cell];show a.block<Wg+1;omega
theorem Yg:EvG Wg (mk (.releaseMerge (stA Wg))):=
 ⟨fun x hx=>(by simp[mk,MemAct.ofEvent,MemAct.touch?]at hx),fun a e=>(by simp[mk]at e),by simp[mk,MemAct.ofEvent,MemAct.low,stA]⟩
structure LTo(P:Program)(ty:TypeId)(Wg j:Nat)(D:Nat->WD)(tag:CTag)(i:Nat)(g:Goroutine)(w:World)(g':Goroutine)(w':World)(es:Array Event)(d:WD)(st sm:Int):Prop where
 go:stepG P false g w=.go g' w' es
 aside:Aside Wg w w'
 at':WgAt ty Wg w' st sm
 sit:bZ P ty Wg d.stage d.fuel d.deaf g' w'
 ev:∀ e∈es,EvG Wg e
 deaf:deafBehind (D i).deaf es=d.deaf
 rel:d.stage<=6->∀ (t:Trace) (k:Nat) (fn:FuncId) (pos:String),Deaf t k=(D i).deaf->((D i).stage<=6->∃ r,RelBy (stA Wg) t k r)->∃ r,RelBy (stA Wg) (t++MemOp.ofEvents k fn pos es) k r
 mode:∀ tag',(tag'=tag∨(tag=.blk∧tag'=.w3))->(mayWake P g=true->g'.status=.running->tag'≠.blk)->ConcN.Mode j (upd D i d) tag' st sm
 mute:(D i).stage=1->∀ e∈es,(MemAct.ofEvent e).touch?=none
 less:(d.stage<(D i).stage∧cnt d<=cnt (D i))∨(d.stage=(D i).stage∧d.fuel+1=(D i).fuel)
theorem qH{st sm:Int}(h:WgAt ty Wg w st sm):Wg<w.heap.size:=(Array.getElem?_eq_some_iff.1 h).1
theorem Vk{j i:Nat}{D:Nat->WD}{tag:CTag}{st sm:Int}(hi:i<j)(hb:Vc j D+pend tag<2147483648)(hmode:ConcN.Mode j D tag st sm)(hwg:WgAt ty Wg w st sm)(hs:bZ P ty Wg (D i).stage (D i).fuel (D i).deaf g w)(hrun:g.status=.running) :
  ∃ g' w' es d st' sm',LTo P ty Wg j D tag i g w g' w' es d st' sm':=by
 generalize hst:(D i).stage=s at hs;generalize hfu:(D i).fuel=m at hs;generalize hde:(D i).deaf=dd at hs;have hVj:=Vc_le j D;have refl:RL ty Wg w w:=fun x=>x
 have book:∀ {g':Goroutine} {w':World} {es:Array Event} {d:WD} {st' sm':Int},stepG P false g w=.go g' w' es->Aside Wg w w'->WgAt ty Wg w' st' sm'->(∀ e∈es,Bk Wg e)->
   (∀ jx e,es[jx]?=some e->(MemAct.ofEvent e).touch?=none∨0<deafBehind dd (es.extract 0 jx))->bZ P ty Wg d.stage d.fuel d.deaf g' w'->deafBehind dd es=d.deaf->s<=6->
   (∀ tag',(tag'=tag∨(tag=.blk∧tag'=.w3))->(mayWake P g=true->g'.status=.running->tag'≠.blk)->ConcN.Mode j (upd D i d) tag' st' sm')->((d.stage<s∧cnt d<=cnt (D i))∨(d.stage=s∧d.fuel+1=m))->(s=1->∀ e∈es,(MemAct.ofEvent e).touch?=none)->
   ∃ g' w' es d st' sm',LTo P ty Wg j D tag i g w g' w' es d st' sm':=by
  intro g' w' es d st' sm' hgo has hat hbk hdf hsit hdeaf h6 hm hless hmu;refine⟨g',w',es,d,st',sm',hgo,has,hat,hsit,fun e he=>Io (hbk e he),by rw[hde];exact hdeaf,fun _ t k fn pos hdk hr=>?_,hm,fun h=>hmu (hst▸h),by rw[hst,hfu];exact hless⟩
  obtain⟨r,hr⟩:=hr (by rw[hst];exact h6);exact⟨r,hr.book (Wg:=Wg) (hdk.trans hde) fn pos hbk hdf⟩
 have idle:∀ {g':Goroutine} {m':Nat},stepG P false g w=.go g' w #[]->bZ P ty Wg s m' dd g' w->m'+1=m->s<=6->∃ g' w' es d st' sm',LTo P ty Wg j D tag i g w g' w' es d st' sm':=by
  intro g' m' hgo hs' hm h6;exact book (d:=⟨s,m',dd⟩) hgo (.refl Wg w) hwg (by simp) (by simp) hs' rfl h6 (fun _ ht _=>ConcN.Mode.retag (by have:=hmode.same (i:=i) m' dd;rwa [hst]at this) ht) (.inr ⟨rfl,hm⟩) (by simp)
 cases hs using bZ.parts with
 |rel h=>
  rcases Goes.cases h with hstop|⟨m',rfl,hstep⟩
  .obtain⟨_,g',hgo,m₂,hk⟩:=hstop w refl
   refine⟨g',w,_,⟨6,m₂,0⟩,st,sm,hgo,.refl Wg w,hwg,.off hk,fun e he=>by simp at he;subst he;exact Yg,by rw[hde];rfl,fun _ t k fn pos hdk _=>⟨t.size,RelBy.new (hdk.trans hde) fn pos⟩,
    fun _ ht _=>(hmode.counted hi (by omega) (.inl rfl) _ _).retag ht,fun h=>absurd h (by omega),.inl ⟨by simp;omega,by simp[cnt,hst]⟩⟩
  .obtain⟨g',w',es,hgo,⟨rfl,rfl⟩,hg'⟩:=hstep w refl
   exact⟨g',w',#[],⟨7,m',0⟩,st,sm,hgo,.refl Wg _,hwg,.rel hg',by simp,by rw[hde];rfl,fun h=>absurd h (by simp),
    fun _ ht _=>ConcN.Mode.retag (by have:=hmode.same (i:=i) m' 0;rwa [hst]at this) ht,fun h=>absurd h (by omega),.inr ⟨hst.symm,by simp;omega⟩⟩
 |off h=>
  rcases Goes.cases h with hstop|⟨m',rfl,hstep⟩
  .obtain⟨_,g',hgo,m₂,hk⟩:=hstop w refl;exact book (d:=⟨5,m₂,1⟩) hgo (.refl Wg w) hwg (by intro e he;simp at he;subst he;exact .inl rfl) (by intro jx e he;exact .inl (by have:=Array.mem_of_getElem? he;simp at this;subst this;rfl)) (.add hk) rfl (by omega)
    (fun _ ht _=>(hmode.counted hi (by omega) (.inr rfl) _ _).retag ht) (.inl ⟨by simp,by simp[cnt,hst]⟩) (fun h=>absurd h (by omega))
  .obtain⟨g',w',es,hgo,⟨rfl,rfl⟩,hg'⟩:=hstep w refl;exact idle hgo (.off hg') rfl (by omega)
 |add h=>
  rcases Goes.cases h with hstop|⟨m',rfl,hstep⟩
  .obtain⟨_,hall⟩:=hstop w refl;have hc1:cnt (D i)=1:=by simp[cnt,hst]
   have hV1:1<=Vc j D:=by have:=le_sumTo (f:=fun x=>cnt (D x)) hi;simp only[Vc];omega
   have bk2:∀ e∈#[rd (stA Wg),wr (stA Wg)],Bk Wg e:=by intro e he;simp at he;rcases he with rfl|rfl<;>exact bk_cell _ _ rfl
   have df2:∀ jx e,(#[rd (stA Wg),wr (stA Wg)]:Array Event)[jx]?=some e->(MemAct.ofEvent e).touch?=none∨0<deafBehind 1 ((#[rd (stA Wg),wr (stA Wg)]:Array Event).extract 0 jx):=by
    intro jx e he;match jx,he with
    |0,_=>exact .inr (by simp[deafBehind])
    |1,_=>exact .inr (by simp[deafBehind,rd])
    |jx+2,he=>simp at he
   have gone:∀ q,OpenSt j D->OpenSt j (upd D i ⟨1,q,1⟩):=fun q h a ha=>by
    by_cases e:a=i
    .subst e;rw[upd_same];simp
    .rw[upd_ne D _ e];exact h a ha
   have hcount:∀ q,Vc j (upd D i ⟨1,q,1⟩)+1=Vc j D:=fun q=>by
    have:=Vc_upd D (⟨1,q,1⟩:WD) hi;have c0:cnt (⟨1,q,1⟩:WD)=0:=rfl;omega
   have hless:∀ x:WD,x.stage<5->(x.stage<5∧cnt x<=cnt (D i)):=fun x hx=>⟨hx,by rw[hc1];simp only[cnt];split<;>omega⟩
   cases hmode with
   |opn h1 h2 h3=>
    obtain⟨v,hv⟩:∃ v,Vc j D+pend tag=v+1:=⟨Vc j D+pend tag - 1,by omega⟩;rw[hv]at hwg;obtain⟨g',hgo,_,hq⟩:=hall v 0 (by omega) (by omega) (by simpa using hwg);obtain⟨q,hq⟩:=hq (by omega);refine book (d:=⟨1,q,1⟩) hgo (aside_setCell w (stA Wg) _) (hwg.setSt _) bk2 df2 (.quit hq) rfl (by omega) (fun _ ht _=>ConcN.Mode.retag ?_ ht) (.inl (hless _ (by simp))) (fun h=>absurd h (by omega));have e:((v:Nat):Int)*KK+((0:Nat):Int)=((Vc j (upd D i ⟨1,q,1⟩)+pend tag:Nat):Int)*KK:=by rw[show Vc j (upd D i ⟨1,q,1⟩)+pend tag=v by have:=hcount q;omega];simp
    rw[e];exact .opn h1 (gone q h2) (fun vs ev=>by have:=h3 vs ev;have:=hcount q;omega)
   |reg h1 h2 h3=>
    obtain⟨v,hv⟩:∃ v,Vc j D=v+1:=⟨Vc j D - 1,by omega⟩;rw[hv]at hwg;obtain⟨g',hgo,hl,hq⟩:=hall v 1 (by omega) (by omega) (by simpa using hwg);by_cases hv0:v=0
    .subst hv0;obtain⟨m₂,hk⟩:=hl ⟨rfl,rfl⟩;refine book (d:=⟨4,m₂,1⟩) hgo (aside_setCell w (stA Wg) _) (hwg.setSt _) bk2 df2 (.look hk) rfl (by omega) (fun _ ht _=>ConcN.Mode.retag ?_ ht) (.inl (hless _ (by simp))) (fun h=>absurd h (by omega));have hoth:∀ a,a<j->a≠i->(D a).stage=1:=fun a ha e=>by
      have c0:=others_uncounted hi hv hc1 a ha e;have:=h2 a ha;simp only[cnt]at c0;split at c0<;>omega
     have:=ConcN.Mode.last (j:=j) (D:=upd D i ⟨4,m₂,1⟩) (tag:=tag) i h1 hi (by rw[upd_same];simp) (fun a ha e=>by rw[upd_ne D _ e];exact hoth a ha e);rw[upd_same]at this;simpa using this
    .obtain⟨q,hq⟩:=hq (by omega);refine book (d:=⟨1,q,1⟩) hgo (aside_setCell w (stA Wg) _) (hwg.setSt _) bk2 df2 (.quit hq) rfl (by omega) (fun _ ht _=>ConcN.Mode.retag ?_ ht) (.inl (hless _ (by simp))) (fun h=>absurd h (by omega));have e:((v:Nat):Int)*KK+((1:Nat):Int)=((Vc j (upd D i ⟨1,q,1⟩):Nat):Int)*KK+1:=by rw[show Vc j (upd D i ⟨1,q,1⟩)=v by have:=hcount q;omega];simp
     rw[e];exact .reg h1 (gone q h2) (by have:=hcount q;omega)
   |last l _ h2 h3 h4=>
    by_cases e:i=l
    .subst e;omega
    .have:=h4 i hi e;omega
   |sema h2=>have:=h2 i hi;omega
   |fin _ h2=>have:=h2 i hi;omega
  .obtain⟨g',w',es,hgo,⟨rfl,rfl⟩,hg'⟩:=hstep w refl;exact idle hgo (.add hg') rfl (by omega)
 |look h=>
  rcases Goes.cases h with hstop|⟨m',rfl,hstep⟩
  .obtain⟨_,hx⟩:=hstop w refl;obtain⟨hW3,hoth,rfl,rfl⟩:=hmode.isLast hi (by omega);simp only[hst]at hwg;obtain⟨g',hgo,m₂,hk⟩:=hx (by simpa using hwg);refine book (d:=⟨3,m₂,1⟩) hgo (.refl Wg w) hwg (by intro e he;simp at he;subst he;exact bk_cell _ _ rfl) (by intro jx e he;match jx,he with|0,_=>exact .inr (by simp[deafBehind])|jx+1,he=>simp at he) (.zero hk) rfl (by omega) (fun _ ht _=>ConcN.Mode.retag ?_ ht) (.inl ⟨by simp,by simp[cnt]⟩) (fun h=>absurd h (by omega))
   have:=ConcN.Mode.last (j:=j) (D:=upd D i ⟨3,m₂,1⟩) (tag:=tag) i hW3 hi (by rw[upd_same];simp) (fun a ha e=>by rw[upd_ne D _ e];exact hoth a ha e);rw[upd_same]at this;simpa using this
  .obtain⟨g',w',es,hgo,⟨rfl,rfl⟩,hg'⟩:=hstep w refl;exact idle hgo (.look hg') rfl (by omega)
 |zero h=>
  rcases Goes.cases h with hstop|⟨m',rfl,hstep⟩
  .obtain⟨_,hx⟩:=hstop w refl;obtain⟨hW3,hoth,rfl,rfl⟩:=hmode.isLast hi (by omega);simp only[hst]at hwg;obtain⟨g',hgo,m₂,hk⟩:=hx (by simpa using hwg);refine book (d:=⟨2,m₂,1⟩) hgo (aside_setCell w (stA Wg) _) (hwg.setSt 0) (by intro e he;simp at he;subst he;exact bk_cell _ _ rfl) (by intro jx e he;match jx,he with|0,_=>exact .inr (by simp[deafBehind])|jx+1,he=>simp at he) (.sem hk) rfl (by omega) (fun _ ht _=>ConcN.Mode.retag ?_ ht) (.inl ⟨by simp,by simp[cnt]⟩) (fun h=>absurd h (by omega))
   have:=ConcN.Mode.last (j:=j) (D:=upd D i ⟨2,m₂,1⟩) (tag:=tag) i hW3 hi (by rw[upd_same];simp) (fun a ha e=>by rw[upd_ne D _ e];exact hoth a ha e);rw[upd_same]at this;simpa using this
  .obtain⟨g',w',es,hgo,⟨rfl,rfl⟩,hg'⟩:=hstep w refl;exact idle hgo (.zero hg') rfl (by omega)
 |sem h=>
  rcases Goes.cases h with hstop|⟨m',rfl,hstep⟩
  .obtain⟨_,hmw,hx⟩:=hstop w refl;obtain⟨hW3,hoth,rfl,rfl⟩:=hmode.isLast hi (by omega);simp only[hst]at hwg;obtain⟨g',hgo,q,hq⟩:=hx (by simpa using hwg);have hrun':g'.status=.running:=by
    cases q with
    |zero=>exact absurd hq.2 (by decide)
    |succ q=>exact hq.elim (fun x=>absurd x.2 (by decide)) (fun x=>x.1)
   refine book (d:=⟨1,q,1⟩) hgo (aside_setCell w (smA Wg) _) (hwg.setSm 1) (es:=semEvents (smA Wg)) ?_ ?_ (.quit hq) (by simp[deafBehind,semEvents]) (by omega) ?_ (.inl ⟨by simp,by simp[cnt]⟩) (fun h=>absurd h (by omega))
   .intro e he;simp[semEvents]at he;rcases he with rfl|rfl|rfl|rfl
    .exact .inl rfl
    .exact bk_cell _ _ rfl
    .exact bk_cell _ _ rfl
    .exact .inr (.inl rfl)
   .intro jx e he;match jx,he with
    |0,he=>simp[semEvents]at he;subst he;exact .inl rfl
    |1,_=>exact .inr (by simp[deafBehind,semEvents])
    |2,_=>exact .inr (by simp[deafBehind,semEvents])
    |3,he=>simp[semEvents]at he;subst he;exact .inl rfl
    |jx+4,he=>simp[semEvents]at he
   .intro tag' ht hwk;have hnb:=hwk hmw hrun';have e3:tag'=.w3:=by
     rcases ht with rfl|⟨_,rfl⟩
     .cases tag'<;>first|rfl|exact hW3.elim|exact absurd rfl hnb
     .rfl
    subst e3;simp only[if_true];exact .sema fun a ha=>by
     by_cases e:a=i
     .subst e;rw[upd_same]
     .rw[upd_ne D _ e];exact hoth a ha e
  .obtain⟨g',w',es,hgo,⟨rfl,rfl⟩,hg'⟩:=hstep w refl;exact idle hgo (.sem hg') rfl (by omega)
 |quit h=>
  cases m with
  |zero=>rw[h.1]at hrun;cases hrun
  |succ q=>
   rcases h with⟨hf,_⟩|⟨_,g',es,hmute,hstep,hq⟩
   .rw[hf]at hrun;cases hrun
   .refine book (d:=⟨1,q,deafBehind dd es⟩) (hstep w) (.refl Wg w) hwg (fun e he=>bk_of_mute (hmute e he)) (fun jx e he=>.inl ?_) (.quit hq) rfl (by omega) (fun _ ht _=>ConcN.Mode.retag (by have:=hmode.same (i:=i) q (deafBehind dd es);rwa [hst]at this) ht) (.inr ⟨rfl,rfl⟩) (fun _ e he=>touch_mute (hmute e he));exact touch_mute (hmute e (Array.mem_of_getElem? he))
end
open Go.ConcR (KK WgAt stA smA g_of_ofEvents)
def blk:Loc->Option Nat
 |.cell a=>some a.block
 |.obj r=>some r
 |_=>none
def sQ(L n:Nat)(Vis Rd:Nat->Nat->Prop)(k:Nat)(l:Loc):Prop:=L<k∧k<=n∧∃ b,blk l=some b∧Vis k b∧¬Rd k b
def sZ(L n:Nat)(Rd:Nat->Nat->Prop)(k:Nat)(l:Loc):Prop:=L<k∧k<=n∧∃ b,blk l=some b∧Rd k b
def Wk(L n k:Nat):Prop:=k=0∨(L<k∧k<=n)
section
variable {P:Program}{Wg L n:Nat}{Old:Nat->Prop}{Vis Rd:Nat->Nat->Prop}{v:Nat->World}{W:World}
theorem yW(h:Terr P Wg (Wk L n) Vis Rd v W):Apart (ShN Wg) (sQ L n Vis Rd) (sZ L n Rd):=by
 refine⟨?_,?_,?_,?_⟩
 .rintro k k' l ⟨h1,h2,b,hb,h3,h4⟩ ⟨h1',h2',b',hb',h3',h4'⟩;rw[hb]at hb';cases hb'
  exact Classical.byContradiction fun hne=>h.disj k k' b (.inr ⟨h1,h2⟩) (.inr ⟨h1',h2'⟩) hne h3 h4 h3'
 .rintro k k' l ⟨h1,h2,b,hb,h3,h4⟩ ⟨h1',h2',b',hb',h3'⟩;rw[hb]at hb';cases hb'
  by_cases e:k=k'
  .subst e;exact h4 h3'
  .exact h.disj k k' b (.inr ⟨h1,h2⟩) (.inr ⟨h1',h2'⟩) e h3 h4 (h.rdVis k' b (.inr ⟨h1',h2'⟩) h3')
 .rintro k l ⟨h1,h2,b,hb,h3,h4⟩ ⟨a,rfl,rfl⟩;simp only[blk,Option.some.injEq]at hb;subst hb;exact h.wg k (.inr ⟨h1,h2⟩) h3
 .rintro k l ⟨h1,h2,b,hb,h3⟩ ⟨a,rfl,rfl⟩;simp only[blk,Option.some.injEq]at hb;subst hb;exact h.wg k (.inr ⟨h1,h2⟩) (h.rdVis k _ (.inr ⟨h1,h2⟩) h3)
end
structure TCom(Wg L:Nat)(Old:Nat->Prop)(n:Nat)(Vis Rd:Nat->Nat->Prop)(B:Nat)(t:Trace)(d0:Nat)(dW:Nat->Nat):Prop where
 pt:PT (iA Old) (ShN Wg) (sQ L n Vis Rd) (sZ L n Rd) t n
 tidy:lX (n+1) t
 seen:∀ op∈t,op.act.low B
 norel:NoRelease (stA Wg) t
 deaf0:Deaf t 0=d0
 deafW:∀ i,i<n->Deaf t (i+1)=dW i
 above:∀ k,n<k->Deaf t k=0
 known:∀ i a k,touchAt t i=some a->t.g? i=some k->k<=L->Knows t 0 i∨(iA Old a.loc∧a.kind=.atomic)
 atm:∀ i a k,touchAt t i=some a->t.g? i=some k->L<k->a.kind=.atomic->ShN Wg a.loc
 over:∀ i k,t.g? i=some k->0<k->k<=L->t.counts i->∃ q,t.g? q=some 0∧HappensBefore t i q
structure EvK(Wg L n:Nat)(Vis Rd:Nat->Nat->Prop)(B k:Nat)(e:Event):Prop where
 touch:∀ x,(MemAct.ofEvent e).touch?=some x->L<k∧x.loc.isMemory=true∧((ShN Wg x.loc∧x.kind=.atomic)∨(x.kind=.plain∧(sQ L n Vis Rd k x.loc∨(sZ L n Rd k x.loc∧x.write=false))))
 norel:∀ a,e.loc≠.mark (.release a)
 low:(MemAct.ofEvent e).low B
structure EvZ(Wg L n:Nat)(Old:Nat->Prop)(Vis Rd:Nat->Nat->Prop)(B:Nat)(e:Event):Prop where
 touch:∀ x,(MemAct.ofEvent e).touch?=some x->x.loc.isMemory=true∧((ShN Wg x.loc∧x.kind≠.plain)∨∃ b,blk x.loc=some b∧Vis 0 b∧(x.write=true->¬Rd 0 b))
 norel:∀ a,e.loc≠.mark (.release a)
 low:(MemAct.ofEvent e).low B
section
variable {P:Program}{Wg L n:Nat}{Old:Nat->Prop}{Vis Rd:Nat->Nat->Prop}{v:Nat->World}{W:World}{B:Nat}{t:Trace}{d0:Nat}{dW:Nat->Nat}
theorem lt_of_g?{i k:Nat}(h:t.g? i=some k):i<t.size:=by
 unfold Trace.g? at h;obtain⟨z,hz,_⟩:=Option.map_eq_some_iff.1 h;exact lt_size_of_getElem? hz
theorem oJ{u:Trace}{i:Nat}{a:Touch}(h:touchAt (t++u) i=some a)(hi:i<t.size):touchAt t i=some a:=by
 unfold touchAt at h ⊢;rwa [act?_old hi]at h
theorem kR{u:Trace}{i:Nat}(hi:¬i<t.size){a:Touch}(h:touchAt (t++u) i=some a):∃ op∈u,(t++u)[i]?=some op∧op.act.touch?=some a:=by
 obtain⟨op,hop,hoa⟩:=touch_of h;rcases getElem?_append_cases hop with⟨h1,_⟩|⟨_,h1⟩
 .exact absurd h1 hi
 .exact⟨op,h1,hop,hoa⟩
theorem g?_of{i:Nat}{op:MemOp}(h:t[i]?=some op):t.g? i=some op.g:=by simp[Trace.g?,h]
theorem TCom.mono(h:TCom Wg L Old n Vis Rd B t d0 dW){B':Nat}(hB:B<=B'):TCom Wg L Old n Vis Rd B' t d0 dW:=
 ⟨h.pt,h.tidy,fun op hop=>MemAct.low_mono hB (h.seen op hop),h.norel,h.deaf0,h.deafW,h.above,h.known,h.atm,h.over⟩
theorem TCom.grow{Vis':Nat->Nat->Prop}(h:TCom Wg L Old n Vis Rd B t d0 dW)(hv:∀ k b,Vis' k b->Vis k b∨B<=b)(hm:∀ k b,Vis k b->Vis' k b):TCom Wg L Old n Vis' Rd B t d0 dW:=by
 refine⟨h.pt.grow (fun k l hl=>?_) (fun k l hl=>?_) (fun k l=>Iff.rfl),h.tidy,h.seen,h.norel,h.deaf0,h.deafW,h.above,h.known,h.atm,h.over⟩
 .obtain⟨h1,h2,b,hb,h3,h4⟩:=hl;rcases hv k b h3 with h5|h5
  .exact .inl ⟨h1,h2,b,hb,h5,h4⟩
  .refine .inr fun i a ha e=>?_
   obtain⟨op,hop,hoa⟩:=touch_of ha;have hl:=h.seen op (Array.mem_of_getElem? hop);subst e;cases hact:op.act with
   |access e=>
    rw[hact]at hoa hl;simp only[MemAct.touch?,Option.some.injEq]at hoa;subst hoa;have:e.loc.low B:=hl;simp only at hb;cases hloc:e.loc with
    |cell a=>rw[hloc]at hb this;simp only[blk,Option.some.injEq]at hb;have:a.block<B:=this;omega
    |obj r=>rw[hloc]at hb this;simp only[blk,Option.some.injEq]at hb;have:r<B:=this;omega
    |output=>rw[hloc]at hb;cases hb
    |goroutines=>rw[hloc]at hb;cases hb
    |mark m=>rw[hloc]at hb;cases hb
   |mark m=>
    rw[hact]at hoa hl;cases m<;>simp only[MemAct.touch?,Option.some.injEq,reduceCtorEq]at hoa
    all_goals
     subst hoa;simp only[blk,Option.some.injEq]at hb;have:_<B:=hl;omega
   |_=>rw[hact]at hoa;simp[MemAct.touch?]at hoa
 .obtain⟨h1,h2,b,hb,h3,h4⟩:=hl;exact⟨h1,h2,b,hb,hm k b h3,h4⟩
theorem TCom.app(h:TCom Wg L Old n Vis Rd B t d0 dW)(A:Apart (ShN Wg) (sQ L n Vis Rd) (sZ L n Rd)){i:Nat}(hi:i<n){fn:FuncId}{pos:String}{es:Array Event}(hes:∀ e∈es,EvK Wg L n Vis Rd B (i+1) e) :
  TCom Wg L Old n Vis Rd B (t++MemOp.ofEvents (i+1) fn pos es) d0 (upd dW i (deafBehind (dW i) es)):=by
 have hg:=g_of_ofEvents (g:=i+1) (fn:=fn) (pos:=pos) (es:=es);refine⟨h.pt.appW (k:=i+1) A (by omega) (by omega) (fun op hop=>?_),?_,seen_app h.seen fun op hop=>?_,h.norel.app fun op hop e=>?_,(Deaf_other t (by omega) _ hg).trans h.deaf0,fun i' hi'=>?_,fun k hk=>(Deaf_other t (by omega) _ hg).trans (h.above k hk),fun x a k ha hk hkL=>?_,fun x a k ha hk hkL hat=>?_,fun x k hk h0 hkL hc=>?_⟩
 .obtain⟨e,he,rfl⟩:=Conc.mem_ofEvents hop;refine⟨rfl,fun x hx=>?_⟩
  rcases((hes e he).touch x hx).2.2 with⟨h1,h2⟩|⟨h1,h2⟩
  .exact .inl ⟨h1,by rw[h2];simp,by rw[h2];simp⟩
  .exact .inr h2
 .intro op hop;rcases Array.mem_append.1 hop with h1|h1
  .exact h.tidy op h1
  .obtain⟨e,he,rfl⟩:=Conc.mem_ofEvents h1;exact⟨by show i+1<n+1;omega,fun x hx=>((hes e he).touch x hx).2.1⟩
 .obtain⟨e,he,rfl⟩:=Conc.mem_ofEvents hop;exact(hes e he).low
 .obtain⟨x,hx,rfl⟩:=Conc.mem_ofEvents hop;exact(hes x hx).norel _ (Go.ConcR.loc_of_ofEvent e)
 .by_cases e:i'=i
  .subst e;rw[Deaf_own,h.deafW i' hi',upd_same]
  .rw[Deaf_other t (by omega) _ hg,h.deafW i' hi',upd_ne _ _ e]
 .by_cases hlt:x<t.size
  .exact(h.known x a k (oJ ha hlt) (by rwa [g?_old hlt]at hk) hkL).imp (·.app _) id
  .obtain⟨op,hop,hox,hoa⟩:=kR hlt ha;obtain⟨e,he,rfl⟩:=Conc.mem_ofEvents hop;rw[g?_of hox]at hk;have:i+1=k:=Option.some.inj hk;have:=((hes e he).touch a hoa).1;omega
 .by_cases hlt:x<t.size
  .exact h.atm x a k (oJ ha hlt) (by rwa [g?_old hlt]at hk) hkL hat
  .obtain⟨op,hop,hox,hoa⟩:=kR hlt ha;obtain⟨e,he,rfl⟩:=Conc.mem_ofEvents hop;rcases((hes e he).touch a hoa).2.2 with⟨h1,_⟩|⟨h1,_⟩
   .exact h1
   .rw[h1]at hat;cases hat
 .by_cases hlt:x<t.size
  .obtain⟨q,hq,hb⟩:=h.over x k (by rwa [g?_old hlt]at hk) h0 hkL ((counts_old hlt).1 hc);exact⟨q,by rw[g?_old (lt_of_g? hq)];exact hq,hb_app _ hb⟩
  .obtain⟨y,hy,_⟩:=hc;obtain⟨op,hop,hox,hoa⟩:=kR hlt hy;obtain⟨e,he,rfl⟩:=Conc.mem_ofEvents hop;rw[g?_of hox]at hk;have:i+1=k:=Option.some.inj hk;have:=((hes e he).touch y hoa).1;omega
theorem TCom.app0(h:TCom Wg L Old n Vis Rd B t d0 dW)(T:Terr P Wg (Wk L n) Vis Rd v W)(hOld:∀ b,Old b->¬Vis 0 b)(hOldW:¬Old Wg){fn:FuncId}{pos:String}{es:Array Event}(hes:∀ e∈es,EvZ Wg L n Old Vis Rd B e) :
  TCom Wg L Old n Vis Rd B (t++MemOp.ofEvents 0 fn pos es) (deafBehind d0 es) dW:=by
 have hg:=g_of_ofEvents (g:=0) (fn:=fn) (pos:=pos) (es:=es);have A:=yW T;refine⟨h.pt.app0 A (fun op hop=>?_),?_,seen_app h.seen fun op hop=>?_,h.norel.app fun op hop e=>?_,by rw[Deaf_own,h.deaf0],fun i' hi'=>(Deaf_other t (g':=0) (by omega) _ hg).trans (h.deafW i' hi'),fun k hk=>(Deaf_other t (g':=0) (by omega) _ hg).trans (h.above k hk),fun x a k ha hk hkL=>?_,fun x a k ha hk hkL hat=>?_,fun x k hk h0 hkL hc=>?_⟩
 .obtain⟨e,he,rfl⟩:=Conc.mem_ofEvents hop;refine⟨rfl,fun x hx=>?_⟩
  rcases((hes e he).touch x hx).2 with⟨h1,h2⟩|⟨b,hb,hv,hw⟩
  .refine⟨?_,.inl ⟨h1,h2⟩⟩;obtain⟨a,ha,hab⟩:=h1;rw[ha];show ¬Old a.block;rw[hab];exact hOldW
  .refine⟨?_,.inr ⟨?_,fun k k1 kn hk=>?_,fun hwr k k1 kn hk=>?_⟩⟩
   .have ho:=fun hx=>hOld b hx hv
    cases hl:x.loc with
    |cell a=>rw[hl]at hb;simp only[blk,Option.some.injEq]at hb;subst hb;exact ho
    |obj r=>rw[hl]at hb;simp only[blk,Option.some.injEq]at hb;subst hb;exact ho
    |output=>exact fun x=>x
    |goroutines=>exact fun x=>x
    |mark m=>exact fun x=>x
   .rintro⟨a,ha,hab⟩;rw[ha]at hb;simp only[blk,Option.some.injEq]at hb;exact T.wg 0 (.inl rfl) (by rw[<-hab,hb];exact hv)
   .obtain⟨h1,h2,b',hb',h3,h4⟩:=hk;rw[hb]at hb';cases hb'
    exact T.disj k 0 b (.inr ⟨h1,h2⟩) (.inl rfl) (by omega) h3 h4 hv
   .obtain⟨h1,h2,b',hb',h3⟩:=hk;rw[hb]at hb';cases hb'
    exact T.disj 0 k b (.inl rfl) (.inr ⟨h1,h2⟩) (by omega) hv (hw hwr) (T.rdVis k b (.inr ⟨h1,h2⟩) h3)
 .intro op hop;rcases Array.mem_append.1 hop with h1|h1
  .exact h.tidy op h1
  .obtain⟨e,he,rfl⟩:=Conc.mem_ofEvents h1;exact⟨Nat.succ_pos n,fun x hx=>((hes e he).touch x hx).1⟩
 .obtain⟨e,he,rfl⟩:=Conc.mem_ofEvents hop;exact(hes e he).low
 .obtain⟨x,hx,rfl⟩:=Conc.mem_ofEvents hop;exact(hes x hx).norel _ (Go.ConcR.loc_of_ofEvent e)
 .by_cases hlt:x<t.size
  .exact(h.known x a k (oJ ha hlt) (by rwa [g?_old hlt]at hk) hkL).imp (·.app _) id
  .obtain⟨op,hop,hox,hoa⟩:=kR hlt ha;have:=knows_own hox;rw[hg op hop]at this;exact .inl this
 .by_cases hlt:x<t.size
  .exact h.atm x a k (oJ ha hlt) (by rwa [g?_old hlt]at hk) hkL hat
  .obtain⟨op,hop,hox,hoa⟩:=kR hlt ha;rw[g?_of hox,hg op hop]at hk;have:0=k:=Option.some.inj hk;omega
 .by_cases hlt:x<t.size
  .obtain⟨q,hq,hb⟩:=h.over x k (by rwa [g?_old hlt]at hk) h0 hkL ((counts_old hlt).1 hc);exact⟨q,by rw[g?_old (lt_of_g? hq)];exact hq,hb_app _ hb⟩
  .obtain⟨y,hy,_⟩:=hc;obtain⟨op,hop,hox,hoa⟩:=kR hlt hy;rw[g?_of hox,hg op hop]at hk;have:0=k:=Option.some.inj hk;omega
end
