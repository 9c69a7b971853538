import Derived.Test.YtpiefebngnlfoaaGreatDoorMj
set_option maxRecDepth 100000
set_option maxHeartbeats 16000000
set_option linter.unusedVariables false
set_option linter.unusedSimpArgs false
namespace Go.Vw
open Go.Conc
theorem Sim.still{P:Program}{S:Nat→Prop}{α : Type}{s:Sem α}{x:α}(h:∀ w es,s.runT P w es=(.ok x w,es)):Sim P S s:=by
 intro B v W es hR;have h1:=Sim.pure (P:=P) (S:=S) x B v W es hR;rw[h,h];exact h1
theorem Sim.bindStill{P:Program}{S:Nat→Prop}{α β : Type}{x:Sem α}{f:α→Sem β}{a:α}(h:∀ w es,x.runT P w es=(.ok a w,es))(hf:Sim P S (f a)):Sim P S (x >>= f):=by
 intro B v W es hR;have hb:∀ w,(x >>= f).runT P w es=(f a).runT P w es:=fun w=>by
  show(Sem.bind x f).runT P w es=_;rw[Sem.runT_bind',h]
 rw[hb,hb];exact hf B v W es hR
end Go.Vw
namespace Go.Proofs.YtpiefebngnlfoaaGreatDoor
open Go.RowKit Go.Conc Go.Vw
structure Fd where
 id:Nat
 size:Nat
 turn:Nat
 slot:Nat
 good:Nat→Bool
def fndE(d:Fd):MapEntry:=⟨.agg (zbA d.id d.size d.turn),.agg (zaU d.id d.size d.turn d.slot d.good),0⟩
def fndO:Option Fd→Obj
 |none=>.map #[] 0
 |some d=>.map #[fndE d] 1
theorem zuF(b:Bool)(x y z:Int)(w:World)(es:Array Event):(Instr.checkKey b 10000 120 (.agg #[.int .i64 x,.int .i64 y,.int .u64 z])).runT Tryz.prog w es=(.ok () w,es):=by
 kernel_rfl
theorem ziA(b:Bool)(x y z:Int)(w:World):(Instr.checkKey b 10000 120 (.agg #[.int .i64 x,.int .i64 y,.int .u64 z])).run Tryz.prog w=.ok () w:=by
 kernel_rfl
theorem yjS(x y z:Int)(w:World):(Op.equal 120 (.agg #[.int .i64 x,.int .i64 y,.int .u64 z]) (.agg #[.int .i64 x,.int .i64 y,.int .u64 z])).run Tryz.prog w=.ok true w:=by
 have hf:∃ f1 f2 f3,(Tryz.prog.fieldsOf 120).toList=[f1,f2,f3]∧(f1.name≠ "_"∧f2.name≠ "_"∧f3.name≠ "_")∧(f1.type=3∧f2.type=3∧f3.type=78)∧f1.offset=0∧f2.offset=1∧f3.offset=2:=⟨_,_,_,rfl,⟨by decide,by decide,by decide⟩,⟨rfl,rfl,rfl⟩,rfl,rfl,rfl⟩;obtain⟨f1,f2,f3,h0,⟨n1,n2,n3⟩,⟨t1,t2,t3⟩,o1,o2,o3⟩:=hf;have p1:(part 3 #[.int .i64 x,.int .i64 y,.int .u64 z] 0).run Tryz.prog w=.ok (.int .i64 x) w:=by kernel_rfl
 have p2:(part 3 #[.int .i64 x,.int .i64 y,.int .u64 z] 1).run Tryz.prog w=.ok (.int .i64 y) w:=by kernel_rfl
 have p3:(part 78 #[.int .i64 x,.int .i64 y,.int .u64 z] 2).run Tryz.prog w=.ok (.int .u64 z) w:=by kernel_rfl
 have q1:=run_equalIn_int (P:=Tryz.prog) w 9998 3 .i64 .i64 x x Tryz.underlying3;have q2:=run_equalIn_int (P:=Tryz.prog) w 9998 3 .i64 .i64 y y Tryz.underlying3;have q3:=run_equalIn_int (P:=Tryz.prog) w 9998 78 .u64 .u64 z z Tryz.underlying78;unfold Op.equal Op.maxDepth;rw[show(10000:Nat)=9999+1 from rfl,run_equalIn_agg (P:=Tryz.prog) w 9999 120 _ _ (by kernel_rfl) (by kernel_rfl),h0];rw[show(9998+1:Nat)=9999 from rfl]at q1 q2 q3;simp[Op.eqFields,n1,n2,n3,t1,t2,t3,o1,o2,o3,p1,p2,p3,q1,q2,q3]
theorem zoI{S:Nat→Prop}(b:Bool)(x y z:Int):Sim Tryz.prog S (Instr.checkKey b 10000 120 (.agg #[.int .i64 x,.int .i64 y,.int .u64 z])):=Sim.still fun w es=>zuF b x y z w es
theorem zrY(w:World)(es:Array Event):(underlying 117).runT Tryz.prog w es=(.ok (.map 120 123) w,es):=by
 kernel_rfl
theorem zuA{S:Nat→Prop}(m:Nat)(x y z:Int)(ok:Bool):Sim Tryz.prog S (Instr.lookup 117 (.map (some m)) (.agg #[.int .i64 x,.int .i64 y,.int .u64 z]) ok):=by
 unfold Instr.lookup;refine Sim.bindStill zrY ?_;refine Sim.getThen (fun _ o=>?_) (fun v es=>Dead.first (Dead.stuck _ _ _));cases o with
 |map es c=>
  refine Sim.bind (Sim.pure _) fun es=>Sim.bind (zoI _ _ _ _) fun _=>Sim.bind (Sim.findKey noCC _ _ _) fun r=>?_
  cases r with
  |none=>exact Sim.bind (Sim.zeroValue _) fun _=>Sim.bind (Sim.pure _) fun _=>Sim.pure _
  |some q=>exact Sim.bind (Sim.pure _) fun _=>Sim.pure _
 |_=>exact Sim.of_dead fun v W es _=>Dead.first (Dead.stuck _ _ _)
theorem ztY{S:Nat→Prop}(m:Nat)(x y z:Int)(q:Value):Sim Tryz.prog S (Instr.mapUpdate 117 (.map (some m)) (.agg #[.int .i64 x,.int .i64 y,.int .u64 z]) q):=by
 unfold Instr.mapUpdate;refine Sim.bindStill zrY ?_;refine Sim.getThen (fun hs o=>?_) (fun v es=>Dead.stuck _ _ _);cases o with
 |map es c=>
  refine Sim.bind (zoI _ _ _ _) fun _=>Sim.bind (Sim.findKey noCC _ _ _) fun r=>?_
  cases r with
  |none=>exact Sim.setObj hs trivial
  |some q=>exact Sim.bind (Sim.keyStays _ _) fun _=>Sim.setObj hs trivial
 |_=>exact Sim.stuck _
theorem zrW(d:Fd)(u:World):(Instr.findKey 120 (.agg (zbA d.id d.size d.turn)) [fndE d]).run Tryz.prog u=.ok (some (0,.agg (zaU d.id d.size d.turn d.slot d.good))) u:=by
 have hn:∀ (k:TypeDesc),Instr.sameNow k (.agg (zbA d.id d.size d.turn)) (fndE d).key=none:=fun k=>by
  unfold fndE Instr.sameNow;cases k<;>rfl
 unfold Instr.findKey;simp only[Sem.run_bind,run_underlying Tryz.underlying120,Result.andThen_ok,Instr.findNow,hn,Instr.findAsking];have:=yjS (d.id:Nat) (d.size:Nat) (d.turn:Nat) u;simp only[fndE,zbA,this,Result.andThen_ok,if_true];rfl
def fdV:Option Fd→Value
 |none=>.agg (zaU 0 0 0 0 fun _=>false)
 |some d=>.agg (zaU d.id d.size d.turn d.slot d.good)
theorem ybN{m id size turn:Nat}{o:Option Fd}{u:World}(ho:∀ d,o=some d→d.id=id∧d.size=size∧d.turn=turn)(hm:u.heap[m]?=some (fndO o)):(Instr.lookup 117 (.map (some m)) (.agg (zbA id size turn)) false).run Tryz.prog u=.ok (fdV o) u:=by
 obtain⟨inf,q1,q2⟩:=zqT;unfold Instr.lookup;cases o with
 |none=>
  simp only[Sem.run_bind,run_underlying Tryz.underlying117,Result.andThen_ok,zbI hm trivial,fndO,Sem.run_pure,zbA,ziA];simp[Instr.findKey,Instr.findNow,run_underlying Tryz.underlying120,zeroValue,typeInfo,q1,q2,fdV]
 |some d=>
  obtain⟨e1,e2,e3⟩:=ho d rfl;subst e1 e2 e3;have hf:=zrW d u;simp only[Sem.run_bind,run_underlying Tryz.underlying117,Result.andThen_ok,zbI hm trivial,fndO,Sem.run_pure];unfold zbA at hf ⊢;simp only[ziA,Result.andThen_ok,hf];rfl
theorem yfT{m id size turn slot:Nat}{good:Nat→Bool}{o:Option Fd}{u:World}(ho:∀ d,o=some d→d.id=id∧d.size=size∧d.turn=turn)(hm:u.heap[m]?=some (fndO o)):∃ w',(Instr.mapUpdate 117 (.map (some m)) (.agg (zbA id size turn)) (.agg (zaU id size turn slot good))).run Tryz.prog u=.ok () w'∧Wr u m (fndO (some ⟨id,size,turn,slot,good⟩)) w':=by
 unfold Instr.mapUpdate;cases o with
 |none=>
  obtain⟨w',h1,h2⟩:=zdR (o':=fndO (some ⟨id,size,turn,slot,good⟩)) hm trivial;refine⟨w',?_,h2⟩;simp only[Sem.run_bind,run_underlying Tryz.underlying117,Result.andThen_ok,zbI hm trivial,fndO,Sem.run_pure,zbA,ziA];simp only[Instr.findKey,Instr.findNow,Sem.run_bind,run_underlying Tryz.underlying120,Result.andThen_ok,Sem.run_pure];exact h1
 |some d=>
  obtain⟨e1,e2,e3⟩:=ho d rfl;subst e1 e2 e3;have hf:=zrW d u;obtain⟨w',h1,h2⟩:=zdR (o':=fndO (some ⟨d.id,d.size,d.turn,slot,good⟩)) hm trivial;refine⟨w',?_,h2⟩;have hk:(Instr.keyThatStays ((((#[fndE d]:Array MapEntry)[0]?).map (·.key)).getD (.agg (zbA d.id d.size d.turn))) (.agg (zbA d.id d.size d.turn))).run Tryz.prog u=.ok (.agg (zbA d.id d.size d.turn)) u:=by
   simp[Instr.keyThatStays,fndE,zbA,Instr.sameBits]
  simp only[Sem.run_bind,run_underlying Tryz.underlying117,Result.andThen_ok,zbI hm trivial,fndO,Sem.run_pure];unfold zbA at hf hk ⊢;simp only[ziA,Result.andThen_ok,hf,Sem.run_bind,hk];exact h1
theorem zyL{r m:Nat}{d:Fd}{ty:TypeId}{u:World}(hr:u.heap[r]?=some (.mapIter (some m) 1 #[] 1))(hm:u.heap[m]?=some (fndO (some d))) :
  ∃ w',(Instr.next (.pointer (some ⟨r,0,none⟩)) false ty).run Tryz.prog u=.ok (.tuple #[.bool true,.agg (zbA d.id d.size d.turn),.agg (zaU d.id d.size d.turn d.slot d.good)]) w'∧Wr u r (.mapIter (some m) 1 #[0] 1) w':=by
 obtain⟨w',h1,h2⟩:=zdR (o':=.mapIter (some m) 1 #[0] 1) hr trivial;refine⟨w',?_,h2⟩;have f1:Array.filter (fun e:MapEntry=>!(#[]:Array Nat).contains e.born) #[fndE d]=#[fndE d]:=by simp
 have f2:Array.filter (fun e:MapEntry=>decide (e.born<1)) #[fndE d]=#[fndE d]:=by simp[fndE]
 have f3:Array.filter (fun e:MapEntry=>decide (e.born ≥ 1)) #[fndE d]=#[]:=by simp[fndE]
 simp only[Instr.next,Sem.run_bind,zbI hr trivial,Result.andThen_ok,zbI hm trivial,fndO];simp only[show(!(#[]:Array Nat).isEmpty&&!(#[fndE d]:Array MapEntry).isEmpty&&(#[fndE d]:Array MapEntry).all (fun x=>decide (x.born ≥ 1)))=false from rfl,Bool.false_eq_true,if_false,f1,f2,f3];simp[choose,Sem.run,Question.forced];have h1':(setObj r (.mapIter (some m) 1 #[(fndE d).born] 1)).run Tryz.prog u=.ok () w':=h1;rw[h1'];rfl
theorem zyK{r m:Nat}{d:Fd}{ty:TypeId}{u:World}(hr:u.heap[r]?=some (.mapIter (some m) 1 #[0] 1))(hm:u.heap[m]?=some (fndO (some d))) :
  (Instr.next (.pointer (some ⟨r,0,none⟩)) false ty).run Tryz.prog u=.ok (.tuple #[.bool false]) u:=by
 have f1:Array.filter (fun e:MapEntry=>!(#[0]:Array Nat).contains e.born) #[fndE d]=#[]:=by simp[fndE]
 simp only[Instr.next,Sem.run_bind,zbI hr trivial,Result.andThen_ok,zbI hm trivial,fndO];have t:(!(#[0]:Array Nat).isEmpty&&!(#[fndE d]:Array MapEntry).isEmpty&&(#[fndE d]:Array MapEntry).all (fun x=>decide (x.born ≥ 1)))=false:=by simp[fndE]
 simp only[t,Bool.false_eq_true,if_false,f1];simp[choose,Sem.run,Question.forced]
theorem zyQ{r m:Nat}{d:Fd}{u:World}(hr:u.heap[r]?=some (.mapIter (some m) 1 #[0] 1))(hm:u.heap[m]?=some (fndO (some d))) :
  (Instr.entry (.pointer (some ⟨r,0,none⟩))).run Tryz.prog u=.ok (.tuple #[.agg (zbA d.id d.size d.turn),.agg (zaU d.id d.size d.turn d.slot d.good)]) u:=by
 have hf:(#[fndE d]:Array MapEntry).find? (·.born == 0)=some (fndE d):=by simp[fndE]
 have hb:(#[0]:Array Nat).back?=some 0:=rfl;simp only[Instr.entry,Sem.run_bind,zbI hr trivial,Result.andThen_ok,zbI hm trivial,fndO,hb,bne_self_eq_false,Bool.false_eq_true,if_false,hf];rfl
section
variable {Stop:Goroutine→(Nat→Prop)→World→Prop}{S:Nat→Prop}{v:World}{fn:FuncId}{cs:List Frame}{k:List Item}{n:Nat}{f:Nat→Value}{ops:Array Oper}{i:Nat}{rest:List Nat}{dst:Option Tmp}{op:Op}{ty:TypeId}{pos:String}{aft:Array Edge}{grd:Option (Nat×Bool)}
theorem zuM{x y:Operand}{m id size turn:Nat}{o:Option Fd}(ho:ops[i]?=some ⟨dst,op,ty,pos,aft,grd⟩)(hw:Region.wanted ⟨dst,op,ty,pos,aft,grd⟩ (yielded ops (TA n f))=true)(hop:op=.lookup 117 x y false)(hx:(⟨TA n f,[]⟩:Act).eval x=.map (some m))(hy:(⟨TA n f,[]⟩:Act).eval y=.agg (zbA id size turn))(hd:∀ d,o=some d→d.id=id∧d.size=size∧d.turn=turn)(hm:v.heap[m]?=some (fndO o))
  (hn:Vw.Reach Tryz.prog Stop (G ((base fn).at ⟨TA n (stO f dst (fdV o)),[]⟩ (.inRegion ops rest :: k)) cs) S v):Vw.Reach Tryz.prog Stop (G ((base fn).at ⟨TA n f,[]⟩ (.inRegion ops (i :: rest) :: k)) cs) S v:=by
 refine zbO (by simp[base]) ho hw ?_ fun u hu=>⟨fdV o,u,.inl ?_,?_⟩
 ·unfold execOp;simp only[hop,hx,hy];exact Sim.bind (zuA _ _ _ _ _) fun _=>Sim.pure _
 ·unfold execOp;simp only[hop,hx,hy,Sem.run_bind,ybN hd ((Ext.twin hu).row hm),Result.andThen_ok,Sem.run_pure]
 ·rw[zbH];exact Reach.twin ⟨hu.heap.symm,hu.os.symm,hu.output.symm⟩ hn
theorem zyY{x y z:Operand}{m id size turn slot:Nat}{good:Nat→Bool}{o:Option Fd}(ho:ops[i]?=some ⟨dst,op,ty,pos,aft,grd⟩)(hw:Region.wanted ⟨dst,op,ty,pos,aft,grd⟩ (yielded ops (TA n f))=true)(hop:op=.mapUpdate 117 x y z)(hx:(⟨TA n f,[]⟩:Act).eval x=.map (some m))(hy:(⟨TA n f,[]⟩:Act).eval y=.agg (zbA id size turn))(hz:(⟨TA n f,[]⟩:Act).eval z=.agg (zaU id size turn slot good))(hd:∀ d,o=some d→d.id=id∧d.size=size∧d.turn=turn)(hm:v.heap[m]?=some (fndO o))
  (hn:∀ w',Wr v m (fndO (some ⟨id,size,turn,slot,good⟩)) w'→Vw.Reach Tryz.prog Stop (G ((base fn).at ⟨TA n (stO f dst undef),[]⟩ (.inRegion ops rest :: k)) cs) S w'):Vw.Reach Tryz.prog Stop (G ((base fn).at ⟨TA n f,[]⟩ (.inRegion ops (i :: rest) :: k)) cs) S v:=by
 refine zbO (by simp[base]) ho hw ?_ fun u hu=>?_
 ·unfold execOp;simp only[hop,hx,hy,hz];exact Sim.bind (ztY _ _ _ _ _) fun _=>Sim.pure _
 ·obtain⟨w',h1,h2⟩:=yfT (slot:=slot) (good:=good) hd ((Ext.twin hu).row hm);refine⟨undef,w',.inr ⟨?_,rfl⟩,?_⟩
  ·unfold execOp;simp only[hop,hx,hy,hz,Sem.run_bind,h1,Result.andThen_ok,Sem.run_pure]
  ·rw[zbH];exact hn w' (zmA hu h2)
theorem zsG{x:Operand}{r m:Nat}{d:Fd}(ho:ops[i]?=some ⟨dst,op,ty,pos,aft,grd⟩)(hw:Region.wanted ⟨dst,op,ty,pos,aft,grd⟩ (yielded ops (TA n f))=true)(hop:op=.next x false)(hx:(⟨TA n f,[]⟩:Act).eval x=.pointer (some ⟨r,0,none⟩))(hr:v.heap[r]?=some (.mapIter (some m) 1 #[] 1))(hm:v.heap[m]?=some (fndO (some d)))
  (hn:∀ w',Wr v r (.mapIter (some m) 1 #[0] 1) w'→Vw.Reach Tryz.prog Stop (G ((base fn).at ⟨TA n (stO f dst (.tuple #[.bool true,.agg (zbA d.id d.size d.turn),.agg (zaU d.id d.size d.turn d.slot d.good)])),[]⟩ (.inRegion ops rest :: k)) cs) S w'):Vw.Reach Tryz.prog Stop (G ((base fn).at ⟨TA n f,[]⟩ (.inRegion ops (i :: rest) :: k)) cs) S v:=by
 refine zbO (by simp[base]) ho hw (zhZ hop hx) fun u hu=>?_
 obtain⟨w',hrun,hW⟩:=zyL (ty:=ty) ((Ext.twin hu).row hr) ((Ext.twin hu).row hm);refine⟨.tuple #[.bool true,.agg (zbA d.id d.size d.turn),.agg (zaU d.id d.size d.turn d.slot d.good)],w',.inl ?_,?_⟩
 ·unfold execOp;simp only[hop,hx,Sem.run_bind,hrun,Result.andThen_ok,Sem.run_pure]
 ·rw[zbH];exact hn w' (zmA hu hW)
theorem zsF{x:Operand}{r m:Nat}{d:Fd}(ho:ops[i]?=some ⟨dst,op,ty,pos,aft,grd⟩)(hw:Region.wanted ⟨dst,op,ty,pos,aft,grd⟩ (yielded ops (TA n f))=true)(hop:op=.next x false)(hx:(⟨TA n f,[]⟩:Act).eval x=.pointer (some ⟨r,0,none⟩))(hr:v.heap[r]?=some (.mapIter (some m) 1 #[0] 1))(hm:v.heap[m]?=some (fndO (some d)))
  (hn:Vw.Reach Tryz.prog Stop (G ((base fn).at ⟨TA n (stO f dst (.tuple #[.bool false])),[]⟩ (.inRegion ops rest :: k)) cs) S v):Vw.Reach Tryz.prog Stop (G ((base fn).at ⟨TA n f,[]⟩ (.inRegion ops (i :: rest) :: k)) cs) S v:=by
 refine zbO (by simp[base]) ho hw (zhZ hop hx) fun u hu=>⟨.tuple #[.bool false],u,.inl ?_,?_⟩
 ·unfold execOp;simp only[hop,hx,Sem.run_bind,zyK (ty:=ty) ((Ext.twin hu).row hr) ((Ext.twin hu).row hm),Result.andThen_ok,Sem.run_pure]
 ·rw[zbH];exact Reach.twin ⟨hu.heap.symm,hu.os.symm,hu.output.symm⟩ hn
theorem zsI{x:Operand}{r m:Nat}{d:Fd}(ho:ops[i]?=some ⟨dst,op,ty,pos,aft,grd⟩)(hw:Region.wanted ⟨dst,op,ty,pos,aft,grd⟩ (yielded ops (TA n f))=true)(hop:op=.entry x)(hx:(⟨TA n f,[]⟩:Act).eval x=.pointer (some ⟨r,0,none⟩))(hr:v.heap[r]?=some (.mapIter (some m) 1 #[0] 1))(hm:v.heap[m]?=some (fndO (some d)))
  (hn:Vw.Reach Tryz.prog Stop (G ((base fn).at ⟨TA n (stO f dst (.tuple #[.agg (zbA d.id d.size d.turn),.agg (zaU d.id d.size d.turn d.slot d.good)])),[]⟩ (.inRegion ops rest :: k)) cs) S v):Vw.Reach Tryz.prog Stop (G ((base fn).at ⟨TA n f,[]⟩ (.inRegion ops (i :: rest) :: k)) cs) S v:=by
 refine zbO (by simp[base]) ho hw ?_ fun u hu=>⟨.tuple #[.agg (zbA d.id d.size d.turn),.agg (zaU d.id d.size d.turn d.slot d.good)],u,.inl ?_,?_⟩
 ·unfold execOp;simp only[hop,hx];exact Sim.bind (Sim.entry _) fun _=>Sim.pure _
 ·unfold execOp;simp only[hop,hx,Sem.run_bind,zyQ ((Ext.twin hu).row hr) ((Ext.twin hu).row hm),Result.andThen_ok,Sem.run_pure]
 ·rw[zbH];exact Reach.twin ⟨hu.heap.symm,hu.os.symm,hu.output.symm⟩ hn
end
end Go.Proofs.YtpiefebngnlfoaaGreatDoor
namespace Go.Vw
open Go.Conc
section
variable {P:Program}{F:FuncId→Bool}{Stop:Goroutine→(Nat→Prop)→World→Prop}{S:Nat→Prop}{v:World}{fn:FuncId}{cs:List Frame}{k:List Item}{n:Nat}{f:Nat→Value}{ops:Array Oper}{i:Nat}{rest:List Nat}{dst:Option Tmp}{op:Op}{ty:TypeId}{pos:String}{aft:Array Edge}{grd:Option (Nat×Bool)}
theorem zoA(hG:Good P F)(ho:ops[i]?=some ⟨dst,op,ty,pos,aft,grd⟩)(hw:Region.wanted ⟨dst,op,ty,pos,aft,grd⟩ (yielded ops (TA n f))=true)(hok:zbL P F ⟨dst,op,ty,pos,aft,grd⟩=true){t t':TypeId}{x y:Operand}{g off:Nat}{old c:Array Value}
  (hop:op=.store t x y) (hx:(⟨TA n f,[]⟩:Act).eval x=.pointer (some ⟨g,off,none⟩)) (hy:(⟨TA n f,[]⟩:Act).eval y=.agg c) (hrow:v.heap[g]?=some (.cells old t')) (hi:(P.info? t).map (·.size)=some c.size) (hfit:off+c.size≤old.size) (h1:∀ z∈c.toList,z.oneCell'=true)
  (hn:∀ v',Wr v g (.cells (old.toList.take off++c.toList++old.toList.drop (off+c.size)).toArray t') v'→Reach P Stop (G ((base fn).at ⟨TA n (stO f dst undef),[]⟩ (.inRegion ops rest :: k)) cs) S v') :
  Reach P Stop (G ((base fn).at ⟨TA n f,[]⟩ (.inRegion ops (i :: rest) :: k)) cs) S v:=by
 refine zdD hG ho hw hok (x:=undef) (fun u hu=>⟨_,zdM hu g (old.toList.take off++c.toList++old.toList.drop (off+c.size)).toArray,.inr ⟨?_,rfl⟩⟩) (hn _ (zdK hrow));obtain⟨inf,q1,q2⟩:=Option.map_eq_some_iff.1 hi;have hst:=run_storeCells_at P g off t' c.toList 0 old u ((Ext.twin hu).row hrow) (by rw[Array.length_toList];omega) h1;rw[Array.length_toList,Nat.add_zero]at hst;generalize (Act.eval ⟨TA n f,[]⟩)=ρ at hx hy ⊢;unfold execOp;simp[hop,hx,hy,Instr.storeAt,Instr.sureAddr,storeVar,sizeOf,typeInfo,q1,q2,Value.cells,hst]
end
end Go.Vw
namespace Go.Proofs.YtpiefebngnlfoaaGreatDoor
open Go.RowKit Go.Conc Go.Vw
structure Lb where
 id:Nat
 size:Nat
 turn:Nat
 val:Nat→Nat
structure Lb.Ok(l:Lb):Prop where
 id1:1≤l.id
 id2:l.id≤9999
 size:l.size≤400
 turn:l.turn<18446744073709551616
 val:∀ i,l.val i<256
def Lb.blk(l:Lb)(k:Nat):Nat→Nat:=zbM l.id l.size l.turn k ((l.size+9) / 10) (zbY l.val l.size k)
structure SlotK(c:Nat→Nat→Nat→Nat)(p:Nat)(l:Lb)(G:Nat→Bool):Prop where
 ok:∀ k,k<14→G k=true→l.Ok
 yes:∀ k,k<14→G k=true→∀ j,j<96→c k p j=l.blk k j
 no:∀ k,k<14→G k=false→¬zgN (c k p)
def upG(G:Nat→Bool)(n:Nat):Nat→Bool:=fun j=>decide (j<n)&&G j
def anyG(G:Nat→Bool)(n:Nat):Bool:=(List.range n).any G
theorem ztL(G:Nat→Bool)(n:Nat):anyG G (n+1)=(anyG G n||G n):=by simp[anyG,List.range_succ]
theorem yjM{G:Nat→Bool}{n:Nat}(h:G n=true):(fun j=>if j=n then true else upG G n j)=upG G (n+1):=by
 funext j;unfold upG;by_cases e:j=n
 ·subst e;simp[h]
 ·have:(j<n+1)↔j<n:=by omega
  simp[e,this]
theorem yfE{G:Nat→Bool}{n:Nat}(h:G n=false):upG G (n+1)=upG G n:=by
 funext j;unfold upG;by_cases e:j=n
 ·subst e;simp[h]
 ·have:(j<n+1)↔j<n:=by omega
  simp[this]
theorem yfF{G:Nat→Bool}{n:Nat}(h:anyG G n=false):upG G n=fun _=>false:=by
 funext j;unfold upG;by_cases e:j<n
 ·have:G j=false:=by
   have h2:¬(List.range n).any G=true:=by
    unfold anyG at h;rw[h];exact Bool.false_ne_true
   cases hg:G j with
   |false=>rfl
   |true=>exact absurd (List.any_eq_true.2 ⟨j,List.mem_range.2 e,hg⟩) h2
  simp[this]
 ·simp[e]
def fdAt(l:Lb)(G:Nat→Bool)(p n:Nat):Option Fd:=if anyG G n=true then some ⟨l.id,l.size,l.turn,p,upG G n⟩ else none
theorem ymN(l:Lb)(G:Nat→Bool)(p n:Nat):∃ i z t q,fdV (fdAt l G p n)=.agg (zaU i z t q (upG G n)):=by
 unfold fdAt;by_cases h:anyG G n=true
 ·rw[if_pos h];exact⟨_,_,_,_,rfl⟩
 ·rw[if_neg h,yfF (by simpa using h)];exact⟨_,_,_,_,rfl⟩
theorem zfW{o:Oper}{a:Act}{x:Operand}{b id size turn k m c:Nat}{pa:Option Addr}{u:World}(hop:o.op=.load 120 x)(hx:a.eval x=.pointer (some ⟨b,0,none⟩))(hb:u.heap[b]?=some (.cells (zbB id size turn k pa m c) 143)):(execOp a.eval o).run Tryz.prog u=.ok (.value (.agg (zbA id size turn))) u:=by
 have h:=run_loadAt_mid (P:=Tryz.prog) u b 0 120 (zbA id size turn).toList _ (fun j z hy=>by
  have hj:j<3:=(List.getElem?_eq_some_iff.1 hy).1;rw[Nat.zero_add,cell_of_row _ _ _ _ _ _ hb];match j,hj with
  |0,_=>exact hy
  |1,_=>exact hy
  |2,_=>exact hy) Tryz.underlying120 rfl (by kernel_rfl)
 unfold execOp;simp only[hop,hx,Sem.run_bind,h,Result.andThen_ok,Sem.run_pure]
section
variable {X D DB DA M:Nat}{RB RA:Nat→Nat}{nd nb turn:Nat}{s:Dsk}{L:List Ent}{w w' v:World}{S:Nat→Prop}
theorem ycO(t:TypeId)(e:Value)(p:Nat)(l:Lb)(G':Nat→Bool)(hg0:v.cell? ⟨0,0,none⟩=some (.iface t e))(hp:p<nb)(hn1:14≤nd)(hnd:nd≤18)(hnb:nb≤64)(hK:SlotK s.c p l G')(hX:StE X D DB DA M RB RA nd nb turn s L v) :
  zaP Tryz.prog 53 #[.pointer (some ⟨X,0,none⟩),.int .i64 (p:Nat)] S v fun x S' v'=>S'=S∧Ext v v'∧∃ m,x=.map (some m)∧v.heap.size≤m∧v'.heap[m]?=some (fndO (fdAt l G' p 14)):=by
 refine zaF Tryz.func53 rfl Tryz.ntmps53 (by simp) fun Stop cc cs ret=>?_
 have g0:argF #[.pointer (some ⟨X,0,none⟩),.int .i64 (p:Nat)] 0=.pointer (some ⟨X,0,none⟩):=rfl;have g1:argF #[.pointer (some ⟨X,0,none⟩),.int .i64 (p:Nat)] 1=.int .i64 (p:Nat):=rfl;generalize argF #[.pointer (some ⟨X,0,none⟩),.int .i64 (p:Nat)]=f at g0 g1;repeat (first|refine rQ rfl ?_|refine rY zaA ?_|refine rW ?_)
 refine zmQ rfl rfl rfl fun w1 hE1 hm1=>?_
 simp only[stO_some];repeat (first|refine rQ rfl ?_|refine rY zaA ?_|refine rW ?_)
 have hmlt:v.heap.size<w1.heap.size:=(Array.getElem?_eq_some_iff.1 hm1).1;generalize hmd:v.heap.size=m at *
 refine zaI (fun d f' S' w=>∃ k,d=14 - k∧k≤14∧S'=S∧Ext v w∧w.heap[m]?=some (fndO (fdAt l G' p k))∧f' 0=.pointer (some ⟨X,0,none⟩)∧f' 1=.int .i64 (p:Nat)∧f' 5=.map (some m)∧f' 11=.int .i64 (k:Nat)) 14 ⟨0,by omega,by omega,rfl,hE1,hm1,by simp[g0],by simp[g1],by simp,by simp⟩ ?_;clear g0 g1 f;rintro d f S' w ⟨k,rfl,hk,eS,hEw,hmw,g0,g1,g5,g11⟩ nxt;subst S';have hXw:=hX.ext hEw;have c0:=hXw.c0;repeat (first|refine rQ rfl ?_|refine rY zaA ?_|refine rW ?_)
 by_cases hlt:k<14
 ·have hkI:(k:Int)<14:=by omega
  (refine zaB (t:=true) (by simp[Act.eval,g11,hkI]) ?_;simp only[if_true,if_false,reduceIte,Bool.false_eq_true]);cases hgk:G' k with
  |false=>
   have hbad:=hK.no k hlt hgk;repeat (first|refine rQ rfl ?_|(refine rO zaA rfl ?_;intro _ hu_ K_ hK_;(have hc:=(Ext.twin hu_).cell c0);go_simp;(try rw[wI _]);(try rw[wU _]);refine hK_ _ ?_;clear hK_ K_ hu_;simp only[sS,sN])|refine rW ?_)
   (refine zaC rfl (by first|rfl|simp[Region.wanted,yielded,zaG, *]) rfl Tryz.func71 (by kernel_rfl) rfl (by simp[Act.eval, *];try rfl) (ycF t e k p (hEw.cell hg0) (by omega) hp hnd hnb hXw.dk hbad) ?_)
   rintro _ S1 w2 _ ⟨rfl,e1,hE2⟩;subst S1;simp only[stO_some];repeat (first|refine rQ rfl ?_|refine rY zaA ?_|refine rW ?_)
   refine zaN zaA rfl rfl (by kernel_rfl) (.agg zgE) rfl (by kernel_rfl) fun w3 hE3 hb3 hs3=>?_
   simp only[stO_some];refine zaL zaA rfl rfl (by kernel_rfl) (x:=.tmp 7) (y:=.tmp 22) (g:=w2.heap.size) (c:=zgE) rfl (by simp) (by simp) hb3 (by kernel_rfl) rfl (by kernel_rfl) fun w4 hW4=>?_
   simp only[stO_none];have hE4:Ext w w4:=hE2.trans _ _ _ (zbD hE3 (Nat.le_refl _) hW4);repeat (first|refine rQ rfl ?_|refine rY zaA ?_|refine rW ?_)
   (refine zaB (t:=true) (by simp[Act.eval]) ?_;simp only[if_true,if_false,reduceIte,Bool.false_eq_true]);refine zaK rfl ?_;repeat (first|refine rQ rfl ?_|refine rY zaA ?_|refine rW ?_)
   refine nxt _ _ _ (14 - (k+1)) (by omega) ⟨k+1,rfl,by omega,rfl,hEw.trans _ _ _ hE4,?_,by simp[g0],by simp[g1],by simp[g5],by simp⟩;have hfd:fdAt l G' p (k+1)=fdAt l G' p k:=by
    unfold fdAt;rw[ztL,hgk,Bool.or_false,yfE hgk]
   rw[hfd];have hml:m<w.heap.size:=(Array.getElem?_eq_some_iff.1 hmw).1;rw[hE4.block m hml];exact hmw
  |true=>
   have hlo:=hK.ok k hlt hgk;have hyes:=hK.yes k hlt hgk;have HG:=hide hgk;clear hgk;repeat (first|refine rQ rfl ?_|(refine rO zaA rfl ?_;intro _ hu_ K_ hK_;(have hc:=(Ext.twin hu_).cell c0);go_simp;(try rw[wI _]);(try rw[wU _]);refine hK_ _ ?_;clear hK_ K_ hu_;simp only[sS,sN])|refine rW ?_)
   (refine zaC rfl (by first|rfl|simp[Region.wanted,yielded,zaG, *]) rfl Tryz.func71 (by kernel_rfl) rfl (by simp[Act.eval, *];try rfl) (ycE l.id l.size l.turn k ((l.size+9) / 10) k p (zbY l.val l.size k) hlo.id2 hlo.id1 hlo.size hlt hlo.turn rfl (znN hlo.val _ _) (by omega) hp hnd hnb hXw.dk.old hyes) ?_)
   rintro _ S1 w2 _ ⟨e1,hE2,B,cp,rfl,hcp,hB,hby,hC⟩;subst S1;simp only[stO_some];generalize (l.size+9) / 10=q at *
   repeat (first|refine rQ rfl ?_|refine rY zaA ?_|refine rW ?_)
   refine zaN zaA rfl rfl (by kernel_rfl) (.agg zgE) rfl (by kernel_rfl) fun w3 hE3 hb3 hs3=>?_
   simp only[stO_some];refine zaL zaA rfl rfl (by kernel_rfl) (x:=.tmp 7) (y:=.tmp 22) (g:=w2.heap.size) (c:=zbB l.id l.size l.turn k (some ⟨B,0,none⟩) q cp) rfl (by simp) (by simp) hb3 (by kernel_rfl) rfl (by simp[zbB,Value.oneCell']) fun w4 hW4=>?_
   simp only[stO_none];have hE4:Ext w w4:=hE2.trans _ _ _ (zbD hE3 (Nat.le_refl _) hW4);have hpc:=hW4.at_;have hgs:w.heap.size≤w2.heap.size:=hE2.size;generalize hgd:w2.heap.size=g at *
   have cn:w4.cell? ⟨g,3,none⟩=some (.int .i64 (k:Nat)):=(cell_of_row _ _ _ _ _ _ hpc).trans rfl;have hml:m<w.heap.size:=(Array.getElem?_eq_some_iff.1 hmw).1;have hm4:w4.heap[m]?=some (fndO (fdAt l G' p k)):=by rw[hE4.block m hml];exact hmw
   have hfd:∀ d,fdAt l G' p k=some d→d.id=l.id∧d.size=l.size∧d.turn=l.turn:=fun d hd=>by
    unfold fdAt at hd;split at hd
    ·cases hd
     exact⟨rfl,rfl,rfl⟩
    ·cases hd
   repeat (first|refine rQ rfl ?_|(refine rO zaA rfl ?_;intro _ hu_ K_ hK_;(have hc:=(Ext.twin hu_).cell cn);go_simp;(try rw[wI _]);(try rw[wU _]);refine hK_ _ ?_;clear hK_ K_ hu_;simp only[sS,sN])|refine rW ?_)
   (refine zaB (t:=false) (by simp[Act.eval]) ?_;simp only[if_true,if_false,reduceIte,Bool.false_eq_true]);repeat (first|refine rQ rfl ?_|refine rY zaA ?_|refine rW ?_)
   refine zaO zaA rfl rfl (by kernel_rfl) (fun u hu=>zfW (x:=.tmp 33) (b:=g) rfl (by simp) ((Ext.twin hu).row hpc)) ?_;simp only[stO_some];refine zuM rfl rfl rfl (x:=.tmp 32) (y:=.tmp 34) (m:=m) (by simp[g5]) (by simp) hfd hm4 ?_;simp only[stO_some];obtain⟨i0,z0,t0,q0,hfv⟩:=ymN l G' p k;rw[hfv];refine zaN zaA rfl rfl (by kernel_rfl) (.agg (zaU 0 0 0 0 fun _=>false)) rfl (by kernel_rfl) fun w5 hE5 hb5 hs5=>?_
   simp only[stO_some];refine zaL zaA rfl rfl (by kernel_rfl) (x:=.tmp 9) (y:=.tmp 35) (g:=w4.heap.size) (c:=zaU i0 z0 t0 q0 (upG G' k)) rfl (by simp) (by simp) hb5 (by kernel_rfl) rfl (by simp[zaU,Value.oneCell']) fun w6 hW6=>?_
   simp only[stO_none];have hE6:Ext w4 w6:=zbD hE5 (Nat.le_refl _) hW6;have hpc6:=hE6.row hpc;have hk6:=hW6.at_;have hg4:g<w4.heap.size:=(Array.getElem?_eq_some_iff.1 hpc).1;generalize hgk:w4.heap.size=gk at *
   repeat (first|refine rQ rfl ?_|refine rY zaA ?_|refine rW ?_)
   refine zaO zaA rfl rfl (by kernel_rfl) (fun u hu=>zfW (x:=.tmp 37) (b:=g) rfl (by simp) ((Ext.twin hu).row hpc6)) ?_;simp only[stO_some];repeat (first|refine rQ rfl ?_|refine rY zaA ?_|refine rW ?_)
   refine zoA zaA rfl rfl (by kernel_rfl) (x:=.tmp 40) (y:=.tmp 38) (g:=gk) (off:=0) (c:=zbA l.id l.size l.turn) rfl (by simp) (by simp) hk6 (by kernel_rfl) (by simp[zbA,zaU]) (by simp[zbA,Value.oneCell']) fun w7 hW7=>?_
   simp only[stO_none];have hk7:w7.heap[gk]?=some (.cells (zaU l.id l.size l.turn q0 (upG G' k)) 123):=hW7.at_;repeat (first|refine rQ rfl ?_|refine rY zaA ?_|refine rW ?_)
   refine zaW zaA rfl rfl (by kernel_rfl) (x:=.tmp 41) (y:=.tmp 39) (g:=gk) (j:=3) (z:=.int .i64 (p:Nat)) rfl (by simp) (by simp[g1]) rfl rfl hk7 (by simp[zaU]) (by kernel_rfl) fun w8 hW8=>?_
   simp only[stO_none];have hk8:w8.heap[gk]?=some (.cells (zaU l.id l.size l.turn p (upG G' k)) 123):=hW8.at_;repeat (first|refine rQ rfl ?_|refine rY zaA ?_|refine rW ?_)
   refine zaW zaA rfl rfl (by kernel_rfl) (x:=.tmp 43) (y:=.const (.bool true)) (g:=gk) (j:=4+k) (z:=.bool true) rfl (by simp) (by simp) rfl rfl hk8 (by simp[zaU];omega) (by kernel_rfl) fun w9 hW9=>?_
   simp only[stO_none];rw[zsW hlt,yjM HG.out]at hW9;have hE9:Ext w4 w9:=zbD (zbD (zbD hE6 (by omega) hW7) (by omega) hW8) (by omega) hW9;have hpc9:=hE9.row hpc;have hm9:w9.heap[m]?=some (fndO (fdAt l G' p k)):=by rw[hE9.block m (by have:=hE4.size;omega)];exact hm4
   repeat (first|refine rQ rfl ?_|refine rY zaA ?_|refine rW ?_)
   refine zaO zaA rfl rfl (by kernel_rfl) (fun u hu=>zfW (x:=.tmp 45) (b:=g) rfl (by simp) ((Ext.twin hu).row hpc9)) ?_;simp only[stO_some];refine zaO zaA rfl rfl (by kernel_rfl) (fun u hu=>zcC (x:=.tmp 9) (b:=gk) rfl (by simp) ((Ext.twin hu).row hW9.at_)) ?_;simp only[stO_some];refine zyY rfl rfl rfl (x:=.tmp 44) (y:=.tmp 46) (z:=.tmp 47) (m:=m) (slot:=p) (good:=upG G' (k+1)) (by simp[g5]) (by simp) (by simp) hfd hm9 fun w10 hW10=>?_
   simp only[stO_none];repeat (first|refine rQ rfl ?_|refine rY zaA ?_|refine rW ?_)
   refine nxt _ _ _ (14 - (k+1)) (by omega) ⟨k+1,rfl,by omega,rfl,zbD (hEw.trans _ _ _ (hE4.trans _ _ _ hE9)) (by omega) hW10,?_,by simp[g0],by simp[g1],by simp[g5],by simp⟩;rw[hW10.at_];unfold fdAt;rw[ztL,HG.out,Bool.or_true,if_pos rfl]
 ·obtain rfl:k=14:=by omega
  (refine zaB (t:=false) (by simp[Act.eval,g11]) ?_;simp only[if_true,if_false,reduceIte,Bool.false_eq_true]);refine zaK rfl ?_;repeat (first|refine rQ rfl ?_|refine rY zaA ?_|refine rW ?_)
  refine zaH fun todo=>?_
  refine ret _ _ S w (.map (some m)) ?_ ⟨rfl,hEw,m,rfl,Nat.le_refl _,hmw⟩;simp[results,Tryz.results53,g5]
end
end Go.Proofs.YtpiefebngnlfoaaGreatDoor
