import Derived.Test.YtpiefebngnlfoaaGreatDoorLi
import Derived.Deep.MidRow
import Derived.Laws.IdiomRangeMap
set_option maxRecDepth 100000
set_option maxHeartbeats 16000000
set_option linter.unusedVariables false
set_option linter.unusedSimpArgs false
namespace Go.Proofs.YtpiefebngnlfoaaGreatDoor
open Go.RowKit Go.Conc Go.Vw
theorem zmP{P:Program}{gf:Func}(h:gf.results=#[])(tmps:Array Value)(w:World)(es:Array Event):(results gf tmps).runT P w es=(.ok (.tuple #[]) w,es):=by
 have:results gf tmps=(Pure.pure (.tuple #[]):Sem Value):=by
  unfold results;rw[h];simp
 rw[this];rfl
end Go.Proofs.YtpiefebngnlfoaaGreatDoor
namespace Go.Vw
open Go.Conc
section
variable {P:Program}{S:Nat→Prop}{v:World}{o:Oper}{a:Act}{α : Type}
theorem zpZ{t:TypeId}(hop:o.op=.makeMap t none):Sim P S (execOp a.eval o):=by
 unfold execOp;simp only[hop,Option.map_none];exact Sim.bind (Sim.makeMap t) fun _=>Sim.pure _
theorem zqF{t:TypeId}{u:World}(hop:o.op=.makeMap t none):(execOp a.eval o).run P u=.ok (.value (.map (some u.heap.size))) (u.alloc (.map #[] 0)):=by
 unfold execOp;simp[hop,Instr.makeMap]
theorem Sim.range(t:TypeId)(m:Nat):Sim P S (Instr.range t (.map (some m))):=by
 unfold Instr.range;refine Sim.bind (Sim.underlying t) fun d=>?_
 cases d with
 |map key elem=>
  refine Sim.getThen (fun _ o=>?_) (fun v es=>Dead.first (Dead.stuck _ _ _));cases o with
  |map entries clock=>
   show Sim P S (Go.newObj (.mapIter (some m) clock #[] clock) >>= fun l=>Pure.pure (Value.pointer (some ⟨l,0,none⟩)))
   exact Sim.bind (Sim.newObj trivial) fun _=>Sim.pure _
  |_=>exact Sim.of_dead fun v W es _=>Dead.first (Dead.stuck _ _ _)
 |_=>exact Sim.of_dead fun v W es _=>Dead.first (Dead.stuck _ _ _)
theorem Sim.next(r:Nat)(t:TypeId):Sim P S (Instr.next (.pointer (some ⟨r,0,none⟩)) false t):=by
 unfold Instr.next;refine Sim.getThen (fun hs o=>?_) (fun v es=>Dead.stuck _ _ _);cases o with
 |mapIter mo since seen last=>
  cases mo with
  |none=>exact Sim.pure _
  |some m=>
   refine Sim.getThen (fun _ o=>?_) (fun v es=>Dead.stuck _ _ _);cases o with
   |map es clock=>
    simp only[];split
    ·exact Sim.of_dead fun v W es _=>Dead.first (Dead.unsupported _ _ _)
    ·refine Sim.bind (Sim.choose _) fun i=>?_
     split
     ·exact Sim.bind (Sim.setObj hs trivial) fun _=>Sim.pure _
     ·exact Sim.pure _
     ·exact Sim.stuck _
   |_=>exact Sim.stuck _
 |_=>exact Sim.stuck _
theorem ztZ{t:TypeId}{x:Operand}{m:Nat}(hop:o.op=.range t x)(hx:a.eval x=.map (some m)):Sim P S (execOp a.eval o):=by
 unfold execOp;simp only[hop,hx];exact Sim.bind (Sim.range t m) fun _=>Sim.pure _
theorem zuC{t kt et:TypeId}{x:Operand}{m c:Nat}{es:Array MapEntry}{u:World}(hop:o.op=.range t x)(hx:a.eval x=.map (some m))(ht:P.underlying t=some (.map kt et))(hm:u.heap[m]?=some (.map es c)) :
  (execOp a.eval o).run P u=.ok (.value (.pointer (some ⟨u.heap.size,0,none⟩))) (u.alloc (.mapIter (some m) c #[] c)):=by
 unfold execOp;simp[hop,hx,run_range_map u t kt et m es c ht hm]
theorem zhZ{x:Operand}{r:Nat}(hop:o.op=.next x false)(hx:a.eval x=.pointer (some ⟨r,0,none⟩)):Sim P S (execOp a.eval o):=by
 unfold execOp;simp only[hop,hx];exact Sim.bind (Sim.next r _) fun _=>Sim.pure _
theorem zyJ{x:Operand}{r m c since last:Nat}{u:World}(hop:o.op=.next x false)(hx:a.eval x=.pointer (some ⟨r,0,none⟩))(hr:u.heap[r]?=some (.mapIter (some m) since #[] last))(hm:u.heap[m]?=some (.map #[] c)) :
  ∃ w',Twin u w'∧(execOp a.eval o).run P u=.ok (.value (.tuple #[.bool false])) w':=by
 refine⟨u,.refl u,?_⟩;unfold execOp;simp[hop,hx,Instr.next,getObj,Sem.run,hr,hm,choose,Question.forced]
end
section
variable {P:Program}{Stop:Goroutine→(Nat→Prop)→World→Prop}{S:Nat→Prop}{v:World}{fn:FuncId}{cs:List Frame}{k:List Item}{n:Nat}{f:Nat→Value}{ops:Array Oper}{i:Nat}{rest:List Nat}{dst:Option Tmp}{op:Op}{ty:TypeId}{pos:String}{aft:Array Edge}{grd:Option (Nat×Bool)}
theorem zmQ{t:TypeId}(ho:ops[i]?=some ⟨dst,op,ty,pos,aft,grd⟩)(hw:Region.wanted ⟨dst,op,ty,pos,aft,grd⟩ (yielded ops (TA n f))=true)(hop:op=.makeMap t none)
  (hn:∀ v',Ext v v'→v'.heap[v.heap.size]?=some (.map #[] 0)→Reach P Stop (G ((base fn).at ⟨TA n (stO f dst (.map (some v.heap.size))),[]⟩ (.inRegion ops rest :: k)) cs) S v') :
  Reach P Stop (G ((base fn).at ⟨TA n f,[]⟩ (.inRegion ops (i :: rest) :: k)) cs) S v:=by
 refine zbO (by simp[base]) ho hw (zpZ hop) fun u hu=>⟨_,_,.inl (zqF hop),?_⟩
 rw[zbH];have:=hn (u.alloc (.map #[] 0)) ((Ext.twin hu).trans _ _ _ (Ext.alloc _ _)) (by rw[←hu.heap];exact zaX _ _);rwa [←hu.heap]at this
theorem zgS{t kt et:TypeId}{x:Operand}{m c:Nat}{es:Array MapEntry}(ho:ops[i]?=some ⟨dst,op,ty,pos,aft,grd⟩)(hw:Region.wanted ⟨dst,op,ty,pos,aft,grd⟩ (yielded ops (TA n f))=true)(hop:op=.range t x)(hx:(⟨TA n f,[]⟩:Act).eval x=.map (some m))(ht:P.underlying t=some (.map kt et))(hm:v.heap[m]?=some (.map es c))
  (hn:∀ v',Ext v v'→v'.heap[v.heap.size]?=some (.mapIter (some m) c #[] c)→Reach P Stop (G ((base fn).at ⟨TA n (stO f dst (.pointer (some ⟨v.heap.size,0,none⟩))),[]⟩ (.inRegion ops rest :: k)) cs) S v') :
  Reach P Stop (G ((base fn).at ⟨TA n f,[]⟩ (.inRegion ops (i :: rest) :: k)) cs) S v:=by
 refine zbO (by simp[base]) ho hw (ztZ hop hx) fun u hu=>⟨_,_,.inl (zuC hop hx ht ((Ext.twin hu).row hm)),?_⟩
 rw[zbH];have:=hn (u.alloc (.mapIter (some m) c #[] c)) ((Ext.twin hu).trans _ _ _ (Ext.alloc _ _)) (by rw[←hu.heap];exact zaX _ _);rwa [←hu.heap]at this
theorem zuL{x:Operand}{r m c since last:Nat}(ho:ops[i]?=some ⟨dst,op,ty,pos,aft,grd⟩)(hw:Region.wanted ⟨dst,op,ty,pos,aft,grd⟩ (yielded ops (TA n f))=true)(hop:op=.next x false)(hx:(⟨TA n f,[]⟩:Act).eval x=.pointer (some ⟨r,0,none⟩))(hr:v.heap[r]?=some (.mapIter (some m) since #[] last))(hm:v.heap[m]?=some (.map #[] c))
  (hn:Reach P Stop (G ((base fn).at ⟨TA n (stO f dst (.tuple #[.bool false])),[]⟩ (.inRegion ops rest :: k)) cs) S v) :
  Reach P Stop (G ((base fn).at ⟨TA n f,[]⟩ (.inRegion ops (i :: rest) :: k)) cs) S v:=by
 refine zbO (by simp[base]) ho hw (zhZ hop hx) fun u hu=>?_
 obtain⟨w',ht,hr⟩:=zyJ (P:=P) (o:=⟨dst,op,ty,pos,aft,grd⟩) hop hx ((Ext.twin hu).row hr) ((Ext.twin hu).row hm);refine⟨_,w',.inl hr,?_⟩;rw[zbH];exact Reach.twin ⟨(hu.trans ht).heap.symm,(hu.trans ht).os.symm,(hu.trans ht).output.symm⟩ hn
end
end Go.Vw
namespace Go.Proofs.YtpiefebngnlfoaaGreatDoor
open Go.RowKit Go.Conc Go.Vw
section
variable {X D DB M:Nat}{RB:Nat→Nat}{nd nb:Nat}{r l:Value}{w w' v:World}{S:Nat→Prop}
end
end Go.Proofs.YtpiefebngnlfoaaGreatDoor
