import Derived.Test.YtpiefebngnlfoabGreatDoorMj
set_option maxRecDepth 99999
set_option maxHeartbeats 0
set_option linter.unusedVariables false
set_option linter.unusedSimpArgs false
namespace Go.Vw
open Go.Conc
theorem aA.still{P:Program}{S:Nat->Prop}{α : Type}{s:Sem α}{x:α}(h:∀ w es,s.runT P w es=(.ok x w,es)):aA P S s:=by
 intro B v W es hR;have h1:=aA.pure (P:=P) (S:=S) x B v W es hR;rw[h,h];exact h1
theorem aA.bindStill{P:Program}{S:Nat->Prop}{α β : Type}{x:Sem α}{f:α->Sem β}{a:α}(h:∀ w es,x.runT P w es=(.ok a w,es))(hf:aA P S (f a)):aA P S (x >>= f):=by
 intro B v W es hR;have hb:∀ w,(x >>= f).runT P w es=(f a).runT P w es:=fun w=>by
  show(Sem.bind x f).runT P w es=_;rw[Sem.runT_bind',h]
 rw[hb,hb];exact hf B v W es hR
end Go.Vw
namespace Go.Proofs.YtpiefebngnlfoabGreatDoor
open Go.RowKit Go.Conc Go.Vw
structure Fd where
 id:Nat
 size:Nat
 turn:Nat
 slot:Nat
 good:Nat->Bool
def dV(d:Fd):MapEntry:=⟨.agg (bC d.id d.size d.turn),.agg (aL d.id d.size d.turn d.slot d.good),0⟩
def dG:Option Fd->Obj
 |none=>.map #[] 0
 |some d=>.map #[dV d] 1
theorem Mc(b:Bool)(x y z:Int)(w:World)(es:Array Event):(Instr.checkKey b 10000 78 (.agg #[.int .i64 x,.int .i64 y,.int .u64 z])).runT Tryz.prog w es=(.ok () w,es):=by
 kernel_rfl
theorem tP(b:Bool)(x y z:Int)(w:World):(Instr.checkKey b 10000 78 (.agg #[.int .i64 x,.int .i64 y,.int .u64 z])).run Tryz.prog w=.ok () w:=by
 kernel_rfl
theorem Xp(x y z:Int)(w:World):(Op.equal 78 (.agg #[.int .i64 x,.int .i64 y,.int .u64 z]) (.agg #[.int .i64 x,.int .i64 y,.int .u64 z])).run Tryz.prog w=.ok true w:=by
 have hf:∃ f1 f2 f3,(Tryz.prog.fieldsOf 78).toList=[f1,f2,f3]∧(f1.name≠ "_"∧f2.name≠ "_"∧f3.name≠ "_")∧(f1.type=3∧f2.type=3∧f3.type=74)∧f1.offset=0∧f2.offset=1∧f3.offset=2:=⟨_,_,_,rfl,⟨by decide,by decide,by decide⟩,⟨rfl,rfl,rfl⟩,rfl,rfl,rfl⟩;obtain⟨f1,f2,f3,h0,⟨n1,n2,n3⟩,⟨t1,t2,t3⟩,o1,o2,o3⟩:=hf;have p1:(part 3 #[.int .i64 x,.int .i64 y,.int .u64 z] 0).run Tryz.prog w=.ok (.int .i64 x) w:=by kernel_rfl
 have p2:(part 3 #[.int .i64 x,.int .i64 y,.int .u64 z] 1).run Tryz.prog w=.ok (.int .i64 y) w:=by kernel_rfl
 have p3:(part 74 #[.int .i64 x,.int .i64 y,.int .u64 z] 2).run Tryz.prog w=.ok (.int .u64 z) w:=by kernel_rfl
 have q1:=run_equalIn_int (P:=Tryz.prog) w 9998 3 .i64 .i64 x x Tryz.underlying3;have q2:=run_equalIn_int (P:=Tryz.prog) w 9998 3 .i64 .i64 y y Tryz.underlying3;have q3:=run_equalIn_int (P:=Tryz.prog) w 9998 74 .u64 .u64 z z Tryz.underlying74;unfold Op.equal Op.maxDepth;rw[show(10000:Nat)=9999+1 from rfl,run_equalIn_agg (P:=Tryz.prog) w 9999 78 _ _ (by kernel_rfl) (by kernel_rfl),h0];rw[show(9998+1:Nat)=9999 from rfl]at q1 q2 q3;simp[Op.eqFields,n1,n2,n3,t1,t2,t3,o1,o2,o3,p1,p2,p3,q1,q2,q3]
theorem Cr{S:Nat->Prop}(b:Bool)(x y z:Int):aA Tryz.prog S (Instr.checkKey b 10000 78 (.agg #[.int .i64 x,.int .i64 y,.int .u64 z])):=aA.still fun w es=>Mc b x y z w es
theorem Eq(w:World)(es:Array Event):(underlying 126).runT Tryz.prog w es=(.ok (.map 78 81) w,es):=by
 kernel_rfl
theorem Lw{S:Nat->Prop}(m:Nat)(x y z:Int)(ok:Bool):aA Tryz.prog S (Instr.lookup 126 (.map (some m)) (.agg #[.int .i64 x,.int .i64 y,.int .u64 z]) ok):=by
 unfold Instr.lookup;refine aA.bindStill Eq ?_;refine aA.getThen (fun _ o=>?_) (fun v es=>aJ.first (aJ.stuck _ _ _));cases o with
 |map es c=>
  refine aA.bind (aA.pure _) fun es=>aA.bind (Cr _ _ _ _) fun _=>aA.bind (aA.findKey nU _ _ _) fun r=>?_
  cases r with
  |none=>exact aA.bind (aA.zeroValue _) fun _=>aA.bind (aA.pure _) fun _=>aA.pure _
  |some q=>exact aA.bind (aA.pure _) fun _=>aA.pure _
 |_=>exact aA.of_dead fun v W es _=>aJ.first (aJ.stuck _ _ _)
theorem Lt{S:Nat->Prop}(m:Nat)(x y z:Int)(q:Value):aA Tryz.prog S (Instr.mapUpdate 126 (.map (some m)) (.agg #[.int .i64 x,.int .i64 y,.int .u64 z]) q):=by
 unfold Instr.mapUpdate;refine aA.bindStill Eq ?_;refine aA.getThen (fun hs o=>?_) (fun v es=>aJ.stuck _ _ _);cases o with
 |map es c=>
  refine aA.bind (Cr _ _ _ _) fun _=>aA.bind (aA.findKey nU _ _ _) fun r=>?_
  cases r with
  |none=>exact aA.setObj hs trivial
  |some q=>exact aA.bind (aA.keyStays _ _) fun _=>aA.setObj hs trivial
 |_=>exact aA.stuck _
theorem Ep(d:Fd)(u:World):(Instr.findKey 78 (.agg (bC d.id d.size d.turn)) [dV d]).run Tryz.prog u=.ok (some (0,.agg (aL d.id d.size d.turn d.slot d.good))) u:=by
 have hn:∀ (k:TypeDesc),Instr.sameNow k (.agg (bC d.id d.size d.turn)) (dV d).key=none:=fun k=>by
  unfold dV Instr.sameNow;cases k<;>rfl
 unfold Instr.findKey;simp only[Sem.run_bind,run_underlying Tryz.underlying78,Result.andThen_ok,Instr.findNow,hn,Instr.findAsking];have:=Xp (d.id:Nat) (d.size:Nat) (d.turn:Nat) u;simp only[dV,bC,this,Result.andThen_ok,if_true];rfl
def sV:Option Fd->Value
 |none=>.agg (aL 0 0 0 0 fun _=>false)
 |some d=>.agg (aL d.id d.size d.turn d.slot d.good)
theorem Ra{m id size turn:Nat}{o:Option Fd}{u:World}(ho:∀ d,o=some d->d.id=id∧d.size=size∧d.turn=turn)(hm:u.heap[m]?=some (dG o)):(Instr.lookup 126 (.map (some m)) (.agg (bC id size turn)) false).run Tryz.prog u=.ok (sV o) u:=by
 obtain⟨inf,q1,q2⟩:=yT;unfold Instr.lookup;cases o with
 |none=>
  simp only[Sem.run_bind,run_underlying Tryz.underlying126,Result.andThen_ok,fO hm trivial,dG,Sem.run_pure,bC,tP];simp[Instr.findKey,Instr.findNow,run_underlying Tryz.underlying78,zeroValue,typeInfo,q1,q2,sV]
 |some d=>
  obtain⟨e1,e2,e3⟩:=ho d rfl;subst e1 e2 e3;have hf:=Ep d u;simp only[Sem.run_bind,run_underlying Tryz.underlying126,Result.andThen_ok,fO hm trivial,dG,Sem.run_pure];unfold bC at hf ⊢;simp only[tP,Result.andThen_ok,hf];rfl
theorem Uq{m id size turn slot:Nat}{good:Nat->Bool}{o:Option Fd}{u:World}(ho:∀ d,o=some d->d.id=id∧d.size=size∧d.turn=turn)(hm:u.heap[m]?=some (dG o)):∃ w',(Instr.mapUpdate 126 (.map (some m)) (.agg (bC id size turn)) (.agg (aL id size turn slot good))).run Tryz.prog u=.ok () w'∧Wr u m (dG (some ⟨id,size,turn,slot,good⟩)) w':=by
 unfold Instr.mapUpdate;cases o with
 |none=>
  obtain⟨w',h1,h2⟩:=lH (o':=dG (some ⟨id,size,turn,slot,good⟩)) hm trivial;refine⟨w',?_,h2⟩;simp only[Sem.run_bind,run_underlying Tryz.underlying126,Result.andThen_ok,fO hm trivial,dG,Sem.run_pure,bC,tP];simp only[Instr.findKey,Instr.findNow,Sem.run_bind,run_underlying Tryz.underlying78,Result.andThen_ok,Sem.run_pure];exact h1
 |some d=>
  obtain⟨e1,e2,e3⟩:=ho d rfl;subst e1 e2 e3;have hf:=Ep d u;obtain⟨w',h1,h2⟩:=lH (o':=dG (some ⟨d.id,d.size,d.turn,slot,good⟩)) hm trivial;refine⟨w',?_,h2⟩;have hk:(Instr.keyThatStays ((((#[dV d]:Array MapEntry)[0]?).map (·.key)).getD (.agg (bC d.id d.size d.turn))) (.agg (bC d.id d.size d.turn))).run Tryz.prog u=.ok (.agg (bC d.id d.size d.turn)) u:=by
   simp[Instr.keyThatStays,dV,bC,Instr.sameBits]
  simp only[Sem.run_bind,run_underlying Tryz.underlying126,Result.andThen_ok,fO hm trivial,dG,Sem.run_pure];unfold bC at hf hk ⊢;simp only[tP,Result.andThen_ok,hf,Sem.run_bind,hk];exact h1
theorem Og{r m:Nat}{d:Fd}{ty:TypeId}{u:World}(hr:u.heap[r]?=some (.mapIter (some m) 1 #[] 1))(hm:u.heap[m]?=some (dG (some d))) :
  ∃ w',(Instr.next (.pointer (some ⟨r,0,none⟩)) false ty).run Tryz.prog u=.ok (.tuple #[.bool true,.agg (bC d.id d.size d.turn),.agg (aL d.id d.size d.turn d.slot d.good)]) w'∧Wr u r (.mapIter (some m) 1 #[0] 1) w':=by
 obtain⟨w',h1,h2⟩:=lH (o':=.mapIter (some m) 1 #[0] 1) hr trivial;refine⟨w',?_,h2⟩;have f1:Array.filter (fun e:MapEntry=>!(#[]:Array Nat).contains e.born) #[dV d]=#[dV d]:=by simp
 have f2:Array.filter (fun e:MapEntry=>decide (e.born<1)) #[dV d]=#[dV d]:=by simp[dV]
 have f3:Array.filter (fun e:MapEntry=>decide (e.born ≥ 1)) #[dV d]=#[]:=by simp[dV]
 simp only[Instr.next,Sem.run_bind,fO hr trivial,Result.andThen_ok,fO hm trivial,dG];simp only[show(!(#[]:Array Nat).isEmpty&&!(#[dV d]:Array MapEntry).isEmpty&&(#[dV d]:Array MapEntry).all (fun x=>decide (x.born ≥ 1)))=false from rfl,Bool.false_eq_true,if_false,f1,f2,f3];simp[choose,Sem.run,Question.forced];have h1':(setObj r (.mapIter (some m) 1 #[(dV d).born] 1)).run Tryz.prog u=.ok () w':=h1;rw[h1'];rfl
theorem Of{r m:Nat}{d:Fd}{ty:TypeId}{u:World}(hr:u.heap[r]?=some (.mapIter (some m) 1 #[0] 1))(hm:u.heap[m]?=some (dG (some d))) :
  (Instr.next (.pointer (some ⟨r,0,none⟩)) false ty).run Tryz.prog u=.ok (.tuple #[.bool false]) u:=by
 have f1:Array.filter (fun e:MapEntry=>!(#[0]:Array Nat).contains e.born) #[dV d]=#[]:=by simp[dV]
 simp only[Instr.next,Sem.run_bind,fO hr trivial,Result.andThen_ok,fO hm trivial,dG];have t:(!(#[0]:Array Nat).isEmpty&&!(#[dV d]:Array MapEntry).isEmpty&&(#[dV d]:Array MapEntry).all (fun x=>decide (x.born ≥ 1)))=false:=by simp[dV]
 simp only[t,Bool.false_eq_true,if_false,f1];simp[choose,Sem.run,Question.forced]
theorem Om{r m:Nat}{d:Fd}{u:World}(hr:u.heap[r]?=some (.mapIter (some m) 1 #[0] 1))(hm:u.heap[m]?=some (dG (some d))) :
  (Instr.entry (.pointer (some ⟨r,0,none⟩))).run Tryz.prog u=.ok (.tuple #[.agg (bC d.id d.size d.turn),.agg (aL d.id d.size d.turn d.slot d.good)]) u:=by
 have hf:(#[dV d]:Array MapEntry).find? (·.born == 0)=some (dV d):=by simp[dV]
 have hb:(#[0]:Array Nat).back?=some 0:=rfl;simp only[Instr.entry,Sem.run_bind,fO hr trivial,Result.andThen_ok,fO hm trivial,dG,hb,bne_self_eq_false,Bool.false_eq_true,if_false,hf];rfl
section
variable {Stop:Goroutine->(Nat->Prop)->World->Prop}{S:Nat->Prop}{v:World}{fn:FuncId}{cs:List Frame}{k:List Item}{n:Nat}{f:Nat->Value}{ops:Array Oper}{i:Nat}{rest:List Nat}{dst:Option Tmp}{op:Op}{ty:TypeId}{pos:String}{aft:Array Edge}{grd:Option (Nat×Bool)}
theorem Mg{x y:Operand}{m id size turn:Nat}{o:Option Fd}(ho:ops[i]?=some ⟨dst,op,ty,pos,aft,grd⟩)(hw:Region.wanted ⟨dst,op,ty,pos,aft,grd⟩ (yielded ops (TA n f))=true)(hop:op=.lookup 126 x y false)(hx:(⟨TA n f,[]⟩:Act).eval x=.map (some m))(hy:(⟨TA n f,[]⟩:Act).eval y=.agg (bC id size turn))(hd:∀ d,o=some d->d.id=id∧d.size=size∧d.turn=turn)(hm:v.heap[m]?=some (dG o))
  (hn:Vw.Reach Tryz.prog Stop (G ((base fn).at ⟨TA n (aG f dst (sV o)),[]⟩ (.inRegion ops rest :: k)) cs) S v):Vw.Reach Tryz.prog Stop (G ((base fn).at ⟨TA n f,[]⟩ (.inRegion ops (i :: rest) :: k)) cs) S v:=by
 refine fG (by simp[base]) ho hw ?_ fun u hu=>⟨sV o,u,.inl ?_,?_⟩
 .unfold execOp;simp only[hop,hx,hy];exact aA.bind (Lw _ _ _ _ _) fun _=>aA.pure _
 .unfold execOp;simp only[hop,hx,hy,Sem.run_bind,Ra hd ((Ext.twin hu).row hm),Result.andThen_ok,Sem.run_pure]
 .rw[bX];exact Reach.twin ⟨hu.heap.symm,hu.os.symm,hu.output.symm⟩ hn
theorem Ov{x y z:Operand}{m id size turn slot:Nat}{good:Nat->Bool}{o:Option Fd}(ho:ops[i]?=some ⟨dst,op,ty,pos,aft,grd⟩)(hw:Region.wanted ⟨dst,op,ty,pos,aft,grd⟩ (yielded ops (TA n f))=true)(hop:op=.mapUpdate 126 x y z)(hx:(⟨TA n f,[]⟩:Act).eval x=.map (some m))(hy:(⟨TA n f,[]⟩:Act).eval y=.agg (bC id size turn))(hz:(⟨TA n f,[]⟩:Act).eval z=.agg (aL id size turn slot good))(hd:∀ d,o=some d->d.id=id∧d.size=size∧d.turn=turn)(hm:v.heap[m]?=some (dG o))
  (hn:∀ w',Wr v m (dG (some ⟨id,size,turn,slot,good⟩)) w'->Vw.Reach Tryz.prog Stop (G ((base fn).at ⟨TA n (aG f dst undef),[]⟩ (.inRegion ops rest :: k)) cs) S w'):Vw.Reach Tryz.prog Stop (G ((base fn).at ⟨TA n f,[]⟩ (.inRegion ops (i :: rest) :: k)) cs) S v:=by
 refine fG (by simp[base]) ho hw ?_ fun u hu=>?_
 .unfold execOp;simp only[hop,hx,hy,hz];exact aA.bind (Lt _ _ _ _ _) fun _=>aA.pure _
 .obtain⟨w',h1,h2⟩:=Uq (slot:=slot) (good:=good) hd ((Ext.twin hu).row hm);refine⟨undef,w',.inr ⟨?_,rfl⟩,?_⟩
  .unfold execOp;simp only[hop,hx,hy,hz,Sem.run_bind,h1,Result.andThen_ok,Sem.run_pure]
  .rw[bX];exact hn w' (rG hu h2)
theorem La{x:Operand}{r m:Nat}{d:Fd}(ho:ops[i]?=some ⟨dst,op,ty,pos,aft,grd⟩)(hw:Region.wanted ⟨dst,op,ty,pos,aft,grd⟩ (yielded ops (TA n f))=true)(hop:op=.next x false)(hx:(⟨TA n f,[]⟩:Act).eval x=.pointer (some ⟨r,0,none⟩))(hr:v.heap[r]?=some (.mapIter (some m) 1 #[] 1))(hm:v.heap[m]?=some (dG (some d)))
  (hn:∀ w',Wr v r (.mapIter (some m) 1 #[0] 1) w'->Vw.Reach Tryz.prog Stop (G ((base fn).at ⟨TA n (aG f dst (.tuple #[.bool true,.agg (bC d.id d.size d.turn),.agg (aL d.id d.size d.turn d.slot d.good)])),[]⟩ (.inRegion ops rest :: k)) cs) S w'):Vw.Reach Tryz.prog Stop (G ((base fn).at ⟨TA n f,[]⟩ (.inRegion ops (i :: rest) :: k)) cs) S v:=by
 refine fG (by simp[base]) ho hw (tN hop hx) fun u hu=>?_
 obtain⟨w',hrun,hW⟩:=Og (ty:=ty) ((Ext.twin hu).row hr) ((Ext.twin hu).row hm);refine⟨.tuple #[.bool true,.agg (bC d.id d.size d.turn),.agg (aL d.id d.size d.turn d.slot d.good)],w',.inl ?_,?_⟩
 .unfold execOp;simp only[hop,hx,Sem.run_bind,hrun,Result.andThen_ok,Sem.run_pure]
 .rw[bX];exact hn w' (rG hu hW)
theorem Kz{x:Operand}{r m:Nat}{d:Fd}(ho:ops[i]?=some ⟨dst,op,ty,pos,aft,grd⟩)(hw:Region.wanted ⟨dst,op,ty,pos,aft,grd⟩ (yielded ops (TA n f))=true)(hop:op=.next x false)(hx:(⟨TA n f,[]⟩:Act).eval x=.pointer (some ⟨r,0,none⟩))(hr:v.heap[r]?=some (.mapIter (some m) 1 #[0] 1))(hm:v.heap[m]?=some (dG (some d)))
  (hn:Vw.Reach Tryz.prog Stop (G ((base fn).at ⟨TA n (aG f dst (.tuple #[.bool false])),[]⟩ (.inRegion ops rest :: k)) cs) S v):Vw.Reach Tryz.prog Stop (G ((base fn).at ⟨TA n f,[]⟩ (.inRegion ops (i :: rest) :: k)) cs) S v:=by
 refine fG (by simp[base]) ho hw (tN hop hx) fun u hu=>⟨.tuple #[.bool false],u,.inl ?_,?_⟩
 .unfold execOp;simp only[hop,hx,Sem.run_bind,Of (ty:=ty) ((Ext.twin hu).row hr) ((Ext.twin hu).row hm),Result.andThen_ok,Sem.run_pure]
 .rw[bX];exact Reach.twin ⟨hu.heap.symm,hu.os.symm,hu.output.symm⟩ hn
theorem Ld{x:Operand}{r m:Nat}{d:Fd}(ho:ops[i]?=some ⟨dst,op,ty,pos,aft,grd⟩)(hw:Region.wanted ⟨dst,op,ty,pos,aft,grd⟩ (yielded ops (TA n f))=true)(hop:op=.entry x)(hx:(⟨TA n f,[]⟩:Act).eval x=.pointer (some ⟨r,0,none⟩))(hr:v.heap[r]?=some (.mapIter (some m) 1 #[0] 1))(hm:v.heap[m]?=some (dG (some d)))
  (hn:Vw.Reach Tryz.prog Stop (G ((base fn).at ⟨TA n (aG f dst (.tuple #[.agg (bC d.id d.size d.turn),.agg (aL d.id d.size d.turn d.slot d.good)])),[]⟩ (.inRegion ops rest :: k)) cs) S v):Vw.Reach Tryz.prog Stop (G ((base fn).at ⟨TA n f,[]⟩ (.inRegion ops (i :: rest) :: k)) cs) S v:=by
 refine fG (by simp[base]) ho hw ?_ fun u hu=>⟨.tuple #[.agg (bC d.id d.size d.turn),.agg (aL d.id d.size d.turn d.slot d.good)],u,.inl ?_,?_⟩
 .unfold execOp;simp only[hop,hx];exact aA.bind (aA.entry _) fun _=>aA.pure _
 .unfold execOp;simp only[hop,hx,Sem.run_bind,Om ((Ext.twin hu).row hr) ((Ext.twin hu).row hm),Result.andThen_ok,Sem.run_pure]
 .rw[bX];exact Reach.twin ⟨hu.heap.symm,hu.os.symm,hu.output.symm⟩ hn
end
end Go.Proofs.YtpiefebngnlfoabGreatDoor
namespace Go.Vw
open Go.Conc
section
variable {P:Program}{F:FuncId->Bool}{Stop:Goroutine->(Nat->Prop)->World->Prop}{S:Nat->Prop}{v:World}{fn:FuncId}{cs:List Frame}{k:List Item}{n:Nat}{f:Nat->Value}{ops:Array Oper}{i:Nat}{rest:List Nat}{dst:Option Tmp}{op:Op}{ty:TypeId}{pos:String}{aft:Array Edge}{grd:Option (Nat×Bool)}
theorem Jy(hG:Good P F)(ho:ops[i]?=some ⟨dst,op,ty,pos,aft,grd⟩)(hw:Region.wanted ⟨dst,op,ty,pos,aft,grd⟩ (yielded ops (TA n f))=true)(hok:bW P F ⟨dst,op,ty,pos,aft,grd⟩=true){t t':TypeId}{x y:Operand}{g off:Nat}{old c:Array Value}
  (hop:op=.store t x y) (hx:(⟨TA n f,[]⟩:Act).eval x=.pointer (some ⟨g,off,none⟩)) (hy:(⟨TA n f,[]⟩:Act).eval y=.agg c) (hrow:v.heap[g]?=some (.cells old t')) (hi:(P.info? t).map (·.size)=some c.size) (hfit:off+c.size<=old.size) (h1:∀ z∈c.toList,z.oneCell'=true)
  (hn:∀ v',Wr v g (.cells (old.toList.take off++c.toList++old.toList.drop (off+c.size)).toArray t') v'->Reach P Stop (G ((base fn).at ⟨TA n (aG f dst undef),[]⟩ (.inRegion ops rest :: k)) cs) S v') :
  Reach P Stop (G ((base fn).at ⟨TA n f,[]⟩ (.inRegion ops (i :: rest) :: k)) cs) S v:=by
 refine kO hG ho hw hok (x:=undef) (fun u hu=>⟨_,mK hu g (old.toList.take off++c.toList++old.toList.drop (off+c.size)).toArray,.inr ⟨?_,rfl⟩⟩) (hn _ (jZ hrow));obtain⟨inf,q1,q2⟩:=Option.map_eq_some_iff.1 hi;have hst:=run_storeCells_at P g off t' c.toList 0 old u ((Ext.twin hu).row hrow) (by rw[Array.length_toList];omega) h1;rw[Array.length_toList,Nat.add_zero]at hst;generalize (Act.eval ⟨TA n f,[]⟩)=ρ at hx hy ⊢;unfold execOp;simp[hop,hx,hy,Instr.storeAt,Instr.sureAddr,storeVar,sizeOf,typeInfo,q1,q2,Value.cells,hst]
end
end Go.Vw
namespace Go.Proofs.YtpiefebngnlfoabGreatDoor
open Go.RowKit Go.Conc Go.Vw
structure Lb where
 id:Nat
 size:Nat
 turn:Nat
 val:Nat->Nat
structure Lb.Ok(l:Lb):Prop where
 id1:1<=l.id
 id2:l.id<=9999
 size:l.size<=400
 turn:l.turn<18446744073709551616
 val:∀ i,l.val i<256
def Lb.blk(l:Lb)(k:Nat):Nat->Nat:=aY l.id l.size l.turn k ((l.size+9) / 10) (bG l.val l.size k)
structure SlotK(c:Nat->Nat->Nat->Nat)(p:Nat)(l:Lb)(G:Nat->Bool):Prop where
 ok:∀ k,k<14->G k=true->l.Ok
 yes:∀ k,k<14->G k=true->∀ j,j<96->c k p j=l.blk k j
 no:∀ k,k<14->G k=false->¬gD (c k p)
def aN(G:Nat->Bool)(n:Nat):Nat->Bool:=fun j=>decide (j<n)&&G j
def dR(G:Nat->Bool)(n:Nat):Bool:=(List.range n).any G
theorem yL(G:Nat->Bool)(n:Nat):dR G (n+1)=(dR G n||G n):=by simp[dR,List.range_succ]
theorem Xk{G:Nat->Bool}{n:Nat}(h:G n=true):(fun j=>if j=n then true else aN G n j)=aN G (n+1):=by
 funext j;unfold aN;by_cases e:j=n
 .subst e;simp[h]
 .have:(j<n+1)↔j<n:=by omega
  simp[e,this]
theorem Ud{G:Nat->Bool}{n:Nat}(h:G n=false):aN G (n+1)=aN G n:=by
 funext j;unfold aN;by_cases e:j=n
 .subst e;simp[h]
 .have:(j<n+1)↔j<n:=by omega
  simp[this]
theorem Ue{G:Nat->Bool}{n:Nat}(h:dR G n=false):aN G n=fun _=>false:=by
 funext j;unfold aN;by_cases e:j<n
 .have:G j=false:=by
   have h2:¬(List.range n).any G=true:=by
    unfold dR at h;rw[h];exact Bool.false_ne_true
   cases hg:G j with
   |false=>rfl
   |true=>exact absurd (List.any_eq_true.2 ⟨j,List.mem_range.2 e,hg⟩) h2
  simp[this]
 .simp[e]
def gS(l:Lb)(G:Nat->Bool)(p n:Nat):Option Fd:=if dR G n=true then some ⟨l.id,l.size,l.turn,p,aN G n⟩ else none
theorem zaK(l:Lb)(G:Nat->Bool)(p n:Nat):∃ i z t q,sV (gS l G p n)=.agg (aL i z t q (aN G n)):=by
 unfold gS;by_cases h:dR G n=true
 .rw[if_pos h];exact⟨_,_,_,_,rfl⟩
 .rw[if_neg h,Ue (by simpa using h)];exact⟨_,_,_,_,rfl⟩
theorem wM{o:Oper}{a:Act}{x:Operand}{b id size turn k m c:Nat}{pa:Option Addr}{u:World}(hop:o.op=.load 78 x)(hx:a.eval x=.pointer (some ⟨b,0,none⟩))(hb:u.heap[b]?=some (.cells (bK id size turn k pa m c) 143)):(execOp a.eval o).run Tryz.prog u=.ok (.value (.agg (bC id size turn))) u:=by
 have h:=run_loadAt_mid (P:=Tryz.prog) u b 0 78 (bC id size turn).toList _ (fun j z hy=>by
  have hj:j<3:=(List.getElem?_eq_some_iff.1 hy).1;rw[Nat.zero_add,cell_of_row _ _ _ _ _ _ hb];match j,hj with
  |0,_=>exact hy
  |1,_=>exact hy
  |2,_=>exact hy) Tryz.underlying78 rfl (by kernel_rfl)
 unfold execOp;simp only[hop,hx,Sem.run_bind,h,Result.andThen_ok,Sem.run_pure]
section
variable {X D DB DA M:Nat}{RB RA:Nat->Nat}{nd nb turn:Nat}{s:Dsk}{L:List Ent}{w w' v:World}{S:Nat->Prop}
theorem Ry(t:TypeId)(e:Value)(p:Nat)(l:Lb)(G':Nat->Bool)(hg0:v.cell? ⟨0,0,none⟩=some (.iface t e))(hp:p<nb)(hn1:14<=nd)(hnd:nd<=18)(hnb:nb<=64)(hK:SlotK s.c p l G')(hX:StE X D DB DA M RB RA nd nb turn s L v) :
  aK Tryz.prog 64 #[.pointer (some ⟨X,0,none⟩),.int .i64 (p:Nat)] S v fun x S' v'=>S'=S∧Ext v v'∧∃ m,x=.map (some m)∧v.heap.size<=m∧v'.heap[m]?=some (dG (gS l G' p 14)):=by
 refine dL Tryz.func64 rfl Tryz.ntmps64 fun Stop cc cs ret f g0 g1=>?_
 repeat refine rN ?_
 refine Cd rfl rfl rfl fun w1 hE1 hm1=>?_
 simp only[stO_some];repeat refine rN ?_
 have hmlt:v.heap.size<w1.heap.size:=(Array.getElem?_eq_some_iff.1 hm1).1;generalize hmd:v.heap.size=m at *
 refine bT (fun d f' S' w=>∃ k,d=14 - k∧k<=14∧S'=S∧Ext v w∧w.heap[m]?=some (dG (gS l G' p k))∧f' 0=.pointer (some ⟨X,0,none⟩)∧f' 1=.int .i64 (p:Nat)∧f' 5=.map (some m)∧f' 11=.int .i64 (k:Nat)) 14 ⟨0,by omega,by omega,rfl,hE1,hm1,by simp[g0],by simp[g1],by simp,by simp⟩ ?_;clear g0 g1 f;rintro d f S' w ⟨k,rfl,hk,eS,hEw,hmw,g0,g1,g5,g11⟩ nxt;subst S';have hXw:=hX.ext hEw;have c0:=hXw.c0;repeat refine rN ?_
 by_cases hlt:k<14
 .have hkI:(k:Int)<14:=by omega
  refine rX (by simp[Act.eval,g11,hkI]) ?_;cases hgk:G' k with
  |false=>
   have hbad:=hK.no k hlt hgk;repeat refine rM c0 ?_
   refine rK Tryz.func78 (Rp t e k p (hEw.cell hg0) (by omega) hp hnd hnb hXw.dk hbad) ?_;rintro _ S1 w2 _ ⟨rfl,e1,hE2⟩;subst S1;repeat refine rN ?_
   refine cQ aB rfl rfl (by kernel_rfl) (.agg iW) rfl (by kernel_rfl) fun w3 hE3 hb3 hs3=>?_
   simp only[stO_some];refine dF aB rfl rfl (by kernel_rfl) (x:=.tmp 7) (y:=.tmp 22) (g:=w2.heap.size) (c:=iW) rfl (by simp) (by simp) hb3 (by kernel_rfl) rfl (by kernel_rfl) fun w4 hW4=>?_
   simp only[stO_none];have hE4:Ext w w4:=hE2.trans _ _ _ (bL hE3 (Nat.le_refl _) hW4);repeat refine rN ?_
   refine rX (by simp[Act.eval]) ?_;refine bD rfl ?_;repeat refine rN ?_
   refine nxt _ _ _ (14 - (k+1)) (by omega) ⟨k+1,rfl,by omega,rfl,hEw.trans _ _ _ hE4,?_,by simp[g0],by simp[g1],by simp[g5],by simp⟩;have hfd:gS l G' p (k+1)=gS l G' p k:=by
    unfold gS;rw[yL,hgk,Bool.or_false,Ud hgk]
   rw[hfd];have hml:m<w.heap.size:=(Array.getElem?_eq_some_iff.1 hmw).1;rw[hE4.block m hml];exact hmw
  |true=>
   have hlo:=hK.ok k hlt hgk;have hyes:=hK.yes k hlt hgk;have HG:=aE hgk;clear hgk;repeat refine rM c0 ?_
   refine rK Tryz.func78 (Hp l.id l.size l.turn k ((l.size+9) / 10) k p (bG l.val l.size k) hlo.id2 hlo.id1 hlo.size hlt hlo.turn rfl (lV hlo.val _ _) (by omega) hp hnd hnb hXw.dk.old hyes) ?_;rintro _ S1 w2 _ ⟨e1,hE2,B,cp,rfl,hcp,hB,hby,hC⟩;subst S1;generalize (l.size+9) / 10=q at *
   repeat refine rN ?_
   refine cQ aB rfl rfl (by kernel_rfl) (.agg iW) rfl (by kernel_rfl) fun w3 hE3 hb3 hs3=>?_
   simp only[stO_some];refine dF aB rfl rfl (by kernel_rfl) (x:=.tmp 7) (y:=.tmp 22) (g:=w2.heap.size) (c:=bK l.id l.size l.turn k (some ⟨B,0,none⟩) q cp) rfl (by simp) (by simp) hb3 (by kernel_rfl) rfl (by simp[bK,Value.oneCell']) fun w4 hW4=>?_
   simp only[stO_none];have hE4:Ext w w4:=hE2.trans _ _ _ (bL hE3 (Nat.le_refl _) hW4);have hpc:=hW4.at_;have hgs:w.heap.size<=w2.heap.size:=hE2.size;generalize hgd:w2.heap.size=g at *
   have cn:w4.cell? ⟨g,3,none⟩=some (.int .i64 (k:Nat)):=(cell_of_row _ _ _ _ _ _ hpc).trans rfl;have hml:m<w.heap.size:=(Array.getElem?_eq_some_iff.1 hmw).1;have hm4:w4.heap[m]?=some (dG (gS l G' p k)):=by rw[hE4.block m hml];exact hmw
   have hfd:∀ d,gS l G' p k=some d->d.id=l.id∧d.size=l.size∧d.turn=l.turn:=fun d hd=>by
    unfold gS at hd;split at hd
    .cases hd
     exact⟨rfl,rfl,rfl⟩
    .cases hd
   repeat refine rM cn ?_
   refine rZ (by simp[Act.eval]) ?_;repeat refine rN ?_
   refine cH aB rfl rfl (by kernel_rfl) (fun u hu=>wM (x:=.tmp 33) (b:=g) rfl (by simp) ((Ext.twin hu).row hpc)) ?_;simp only[stO_some];refine Mg rfl rfl rfl (x:=.tmp 32) (y:=.tmp 34) (m:=m) (by simp[g5]) (by simp) hfd hm4 ?_;simp only[stO_some];obtain⟨i0,z0,t0,q0,hfv⟩:=zaK l G' p k;rw[hfv];refine cQ aB rfl rfl (by kernel_rfl) (.agg (aL 0 0 0 0 fun _=>false)) rfl (by kernel_rfl) fun w5 hE5 hb5 hs5=>?_
   simp only[stO_some];refine dF aB rfl rfl (by kernel_rfl) (x:=.tmp 9) (y:=.tmp 35) (g:=w4.heap.size) (c:=aL i0 z0 t0 q0 (aN G' k)) rfl (by simp) (by simp) hb5 (by kernel_rfl) rfl (by simp[aL,Value.oneCell']) fun w6 hW6=>?_
   simp only[stO_none];have hE6:Ext w4 w6:=bL hE5 (Nat.le_refl _) hW6;have hpc6:=hE6.row hpc;have hk6:=hW6.at_;have hg4:g<w4.heap.size:=(Array.getElem?_eq_some_iff.1 hpc).1;generalize hgk:w4.heap.size=gk at *
   repeat refine rN ?_
   refine cH aB rfl rfl (by kernel_rfl) (fun u hu=>wM (x:=.tmp 37) (b:=g) rfl (by simp) ((Ext.twin hu).row hpc6)) ?_;simp only[stO_some];repeat refine rN ?_
   refine Jy aB rfl rfl (by kernel_rfl) (x:=.tmp 40) (y:=.tmp 38) (g:=gk) (off:=0) (c:=bC l.id l.size l.turn) rfl (by simp) (by simp) hk6 (by kernel_rfl) (by simp[bC,aL]) (by simp[bC,Value.oneCell']) fun w7 hW7=>?_
   simp only[stO_none];have hk7:w7.heap[gk]?=some (.cells (aL l.id l.size l.turn q0 (aN G' k)) 81):=hW7.at_;repeat refine rN ?_
   refine eT aB rfl rfl (by kernel_rfl) (x:=.tmp 41) (y:=.tmp 39) (g:=gk) (j:=3) (z:=.int .i64 (p:Nat)) rfl (by simp) (by simp[g1]) rfl rfl hk7 (by simp[aL]) (by kernel_rfl) fun w8 hW8=>?_
   simp only[stO_none];have hk8:w8.heap[gk]?=some (.cells (aL l.id l.size l.turn p (aN G' k)) 81):=hW8.at_;repeat refine rN ?_
   refine eT aB rfl rfl (by kernel_rfl) (x:=.tmp 43) (y:=.const (.bool true)) (g:=gk) (j:=4+k) (z:=.bool true) rfl (by simp) (by simp) rfl rfl hk8 (by simp[aL];omega) (by kernel_rfl) fun w9 hW9=>?_
   simp only[stO_none];rw[Fa hlt,Xk HG.out]at hW9;have hE9:Ext w4 w9:=bL (bL (bL hE6 (by omega) hW7) (by omega) hW8) (by omega) hW9;have hpc9:=hE9.row hpc;have hm9:w9.heap[m]?=some (dG (gS l G' p k)):=by rw[hE9.block m (by have:=hE4.size;omega)];exact hm4
   repeat refine rN ?_
   refine cH aB rfl rfl (by kernel_rfl) (fun u hu=>wM (x:=.tmp 45) (b:=g) rfl (by simp) ((Ext.twin hu).row hpc9)) ?_;simp only[stO_some];refine cH aB rfl rfl (by kernel_rfl) (fun u hu=>jX (x:=.tmp 9) (b:=gk) rfl (by simp) ((Ext.twin hu).row hW9.at_)) ?_;simp only[stO_some];refine Ov rfl rfl rfl (x:=.tmp 44) (y:=.tmp 46) (z:=.tmp 47) (m:=m) (slot:=p) (good:=aN G' (k+1)) (by simp[g5]) (by simp) (by simp) hfd hm9 fun w10 hW10=>?_
   simp only[stO_none];repeat refine rN ?_
   refine nxt _ _ _ (14 - (k+1)) (by omega) ⟨k+1,rfl,by omega,rfl,bL (hEw.trans _ _ _ (hE4.trans _ _ _ hE9)) (by omega) hW10,?_,by simp[g0],by simp[g1],by simp[g5],by simp⟩;rw[hW10.at_];unfold gS;rw[yL,HG.out,Bool.or_true,if_pos rfl]
 .obtain rfl:k=14:=by omega
  refine rZ (by simp[Act.eval,g11]) ?_;refine bD rfl ?_;repeat refine rN ?_
  refine aP fun todo=>?_
  refine ret _ _ S w (.map (some m)) ?_ ⟨rfl,hEw,m,rfl,Nat.le_refl _,hmw⟩;simp[results,Tryz.results64,g5]
end
theorem rL{n:Nat} : ∀ {x:Nat->Nat} {N:Nat},(∀ i,i<n->x i=bA N i)->bY x n=N % 256 ^ n:=by
 induction n with
 |zero=>intro x N h;simp[bY,Nat.mod_one]
 |succ n ih=>
  intro x N h;unfold bY;have h0:=h 0 (by omega);have h1:bY (fun i=>x (i+1)) n=(N / 256) % 256 ^ n:=ih fun i hi=>by
   rw[h (i+1) (by omega)];unfold bA;rw[Nat.pow_succ,Nat.mul_comm (256 ^ i) 256,<-Nat.div_div_eq_div_mul]
  rw[h0,h1];unfold bA;rw[Nat.pow_zero,Nat.div_one,Nat.pow_succ,Nat.mul_comm (256 ^ n) 256,Nat.mod_mul]
theorem Lb.Ok.sealed{l:Lb}(h:l.Ok){k:Nat}(hk:k<14){x:Nat->Nat}(hx:∀ j,j<96->x j=l.blk k j):gD x:=by
 have e1:bY x 2=l.id:=by
  rw[rL (N:=l.id) fun i hi=>by rw[hx i (by omega)];exact Gb hi]
  exact Nat.mod_eq_of_lt (by have:=h.id2;omega)
 have e2:bY (fun i=>x (2+i)) 2=l.size:=by
  rw[rL (N:=l.size) fun i hi=>by rw[hx (2+i) (by omega)];exact Cu hi]
  exact Nat.mod_eq_of_lt (by have:=h.size;omega)
 have e3:bY (fun i=>x (4+i)) 1=k:=by
  rw[rL (N:=k) fun i hi=>by rw[hx (4+i) (by omega)];exact El hi]
  exact Nat.mod_eq_of_lt (by omega)
 have e4:bY (fun i=>x (5+i)) 8=l.turn:=by
  rw[rL (N:=l.turn) fun i hi=>by rw[hx (5+i) (by omega)];exact Ct hi]
  exact Nat.mod_eq_of_lt (by have:=h.turn;omega)
 unfold gD;rw[e1,e2,e3,e4];refine⟨h.id1,h.id2,h.size,hk,fun j hj=>?_⟩
 rw[hx j hj];have hm:(l.size+9) / 10<=79:=by have:=h.size;omega
 have hb:∀ i,eB l.id l.size l.turn k ((l.size+9) / 10) (fun i=>x (13+i)) i=eB l.id l.size l.turn k ((l.size+9) / 10) (bG l.val l.size k) i:=fun i=>by
  unfold eB;by_cases hi:13<=i∧i<13+(l.size+9) / 10
  .rw[if_pos hi,if_pos hi];show x (13+(i - 13))=_;rw[hx (13+(i - 13)) (by omega)];exact Ca hm (by omega)
  .rw[if_neg hi,if_neg hi]
 have hb':eB l.id l.size l.turn k ((l.size+9) / 10) (fun i=>x (13+i))=eB l.id l.size l.turn k ((l.size+9) / 10) (bG l.val l.size k):=funext hb;unfold Lb.blk aY;rw[hb']
theorem SlotK.eq{c:Nat->Nat->Nat->Nat}{p:Nat}{l:Lb}{G:Nat->Bool}(h:SlotK c p l G)(hl:l.Ok){k:Nat}(hk:k<14):cC (c k p) (l.blk k) 0 96=G k:=by
 cases hg:G k with
 |true=>exact(iC _ _ 96 0).2 fun j _ hj=>h.yes k hk hg j (by omega)
 |false=>
  cases hq:cC (c k p) (l.blk k) 0 96 with
  |false=>rfl
  |true=>exact absurd (hl.sealed hk fun j hj=>(iC _ _ 96 0).1 hq j (by omega) (by omega)) (h.no k hk hg)
theorem Pf{id size turn slot k:Nat}{g:Nat->Bool}(hk:k<14):(aL id size turn slot g).setIfInBounds (4+k) (.bool (g k))=aL id size turn slot g:=by
 rcases(by omega:k=0∨k=1∨k=2∨k=3∨k=4∨k=5∨k=6∨k=7∨k=8∨k=9∨k=10∨k=11∨k=12∨k=13) with rfl|rfl|rfl|rfl|rfl|rfl|rfl|rfl|rfl|rfl|rfl|rfl|rfl|rfl<;>rfl
def Jb(X D bx BP k p id size turn m:Nat)(g:Nat->Bool)(blk:Nat->Nat)(j:Nat)(x:Value)(w:World):Prop:=
 match j with
 |0=>x=.int .i64 (k:Nat)
 |1=>x=.pointer (some ⟨X,0,none⟩)
 |2=>x=.pointer (some ⟨X,0,none⟩)
 |3=>x=.pointer (some ⟨X,0,none⟩)
 |4=>x=.pointer (some ⟨D,0,none⟩)
 |5=>x=.int .i64 (k:Nat)
 |6=>x=.pointer (some ⟨bx,3,none⟩)
 |7=>x=.int .i64 (p:Nat)
 |8=>x=.agg (aL id size turn p g)
 |9=>x=.int .i64 (k:Nat)
 |10=>x=sl BP m
 |11=>x=.agg (aC 96 blk)
 |12=>x=.bool (g k)
 |13=>x=.pointer (some ⟨bx,4,none⟩)
 |14=>x=.pointer (some ⟨bx,4+k,none⟩)
 |_=>True
section
variable {X D DB DA M:Nat}{RB RA:Nat->Nat}{nd nb turn:Nat}{s:Dsk}{L:List Ent}{w w' v:World}{S:Nat->Prop}
theorem Tu{f:Nat->Value}{Stop:Goroutine->(Nat->Prop)->World->Prop}{cs:List Frame}{k0:List Item}(l:Lb)(g:Nat->Bool)(hl:l.Ok)(bx BP k p:Nat)(hk:k<14)(hp:p<nb)(hn1:14<=nd)(hnd:nd<=18)(hnb:nb<=64)(hX:StE X D DB DA M RB RA nd nb turn s L w)(heq:cC (s.c k p) (l.blk k) 0 96=g k)
  (hbx:w.heap[bx]?=some (.cells (aL l.id l.size l.turn p g) 81)) (hBP:w.heap[BP]?=some (.cells (aC ((l.size+9) / 10) (bG l.val l.size k)) 5)) (g0:f 0=.pointer (some ⟨X,0,none⟩)) (g3:f 3=.pointer (some ⟨bx,0,none⟩)) (g7:f 7=.int .i64 (k:Nat)) (g8:f 8=sl BP ((l.size+9) / 10))
  (next:∀ w' f',Ext w w'->(∀ s,s<23->f' s=f s)->Vw.Reach Tryz.prog Stop (G ((base 65).at ⟨TA 40 f',[]⟩ (.inRegion ((cK 5 (Tryz.f65.body.getD .skip)).getD #[]) [] :: k0)) cs) S w') :
  Vw.Reach Tryz.prog Stop (G ((base 65).at ⟨TA 40 f,[]⟩ (.code (.region 5 ((cK 5 (Tryz.f65.body.getD .skip)).getD #[]) true) :: k0)) cs) S w:=by
 have e0:cK 5 (Tryz.f65.body.getD .skip)=some _:=rfl;rw[e0]at next ⊢
 simp only[Option.getD_some]at next ⊢
 clear e0;have hm79:(l.size+9) / 10<=79:=by have:=hl.size;omega
 have hkI:(k:Int)<14:=by omega
 have hblk:aY l.id l.size l.turn k ((l.size+9) / 10) (bG l.val l.size k)=l.blk k:=rfl;obtain⟨m,hm⟩:∃ m,m=(l.size+9) / 10:=⟨_,rfl⟩;rw[<-hm]at hm79 hBP g8 hblk;have HM:=aE hm;clear hm;refine jN (by kernel_rfl) (by kernel_rfl) (by kernel_rfl) 15 [0,1,2,3,4,5,6,7,8,9,10,11,12,13,14] (by kernel_rfl) (Jb X D bx BP k p l.id l.size l.turn m g (l.blk k)) (fun S' w'=>S'=S∧Ext w w') (fun S' f w'=>S'=S∧Ext w w') (fun S' w w' h hE=>⟨h.1,h.2.trans _ _ _ hE⟩) (fun S' i f x w w' hi hA hm' h hE=>⟨h.1,h.2.trans _ _ _ hE⟩) (fun j x w w' h hE=>h) ?_ ⟨rfl,.refl _⟩ ?_ ?_ ?_
 .intro j hj he x w h;have hj':j<16:=hj;rcases(by omega:j=0∨j=1∨j=2∨j=3∨j=4∨j=5∨j=6∨j=7∨j=8∨j=9∨j=10∨j=11∨j=12∨j=13∨j=14∨j=15) with rfl|rfl|rfl|rfl|rfl|rfl|rfl|rfl|rfl|rfl|rfl|rfl|rfl|rfl|rfl|rfl<;>first|exact trivial|cases he
 .intro i f' S1 w5 rest hi hne hB hf hd nxt;have g0':f' 0=.pointer (some ⟨X,0,none⟩):=(hf 0 (aW (by kernel_rfl))).trans g0;have g3':f' 3=.pointer (some ⟨bx,0,none⟩):=(hf 3 (aW (by kernel_rfl))).trans g3;have g7':f' 7=.int .i64 (k:Nat):=(hf 7 (aW (by kernel_rfl))).trans g7;have g8':f' 8=sl BP m:=(hf 8 (aW (by kernel_rfl))).trans g8;have hi':i<16:=hi
  obtain⟨eS,hE⟩:=hB (by
   simp
   omega)
  subst S1;have hXw:=hX.ext hE;clear hf hB;rcases(by omega:i=0∨i=1∨i=2∨i=3∨i=4∨i=5∨i=6∨i=7∨i=8∨i=9∨i=10∨i=11∨i=12∨i=13∨i=14∨i=15) with rfl|rfl|rfl|rfl|rfl|rfl|rfl|rfl|rfl|rfl|rfl|rfl|rfl|rfl|rfl|rfl
  .clear hd;refine rY aB ?_;exact nxt _ w5 (.refl w5) rfl
  .clear hd;refine rY aB ?_;exact nxt _ w5 (.refl w5) rfl
  .have d0:f' 24=.pointer (some ⟨X,0,none⟩):=hd 1 (aD (by kernel_rfl));clear hd;refine rY aB ?_;exact nxt _ w5 (.refl w5) rfl
  .have d0:f' 25=.pointer (some ⟨X,0,none⟩):=hd 2 (aD (by kernel_rfl));clear hd;refine rY aB ?_;exact nxt _ w5 (.refl w5) rfl
  .have d0:f' 26=.pointer (some ⟨X,0,none⟩):=hd 3 (aD (by kernel_rfl));have c0:=hXw.c0;clear hd;(refine rO aB rfl ?_;intro _ hu_ K_ hK_;(have hc:=(Ext.twin hu_).cell c0);go_simp;(try rw[wI _]);(try rw[wU _]);refine hK_ _ ?_;clear hK_ K_ hu_;simp only[sS,sN]);exact nxt _ w5 (.refl w5) rfl
  .clear hd;refine rY aB ?_;exact nxt _ w5 (.refl w5) rfl
  .clear hd;refine rY aB ?_;exact nxt _ w5 (.refl w5) rfl
  .have d0:f' 29=.pointer (some ⟨bx,3,none⟩):=hd 6 (aD (by kernel_rfl));have c0:w5.cell? ⟨bx,3,none⟩=some (.int .i64 (p:Nat)):=(cell_of_row _ _ _ _ _ _ (hE.row hbx)).trans rfl;clear hd;(refine rO aB rfl ?_;intro _ hu_ K_ hK_;(have hc:=(Ext.twin hu_).cell c0);go_simp;(try rw[wI _]);(try rw[wU _]);refine hK_ _ ?_;clear hK_ K_ hu_;simp only[sS,sN]);exact nxt _ w5 (.refl w5) rfl
  .clear hd;refine cH aB rfl rfl (by kernel_rfl) (fun u hu=>jX (x:=.tmp 3) (b:=bx) rfl (by simp[g3']) ((Ext.twin hu).row (hE.row hbx))) ?_;exact nxt _ w5 (.refl w5) rfl
  .clear hd;refine rY aB ?_;exact nxt _ w5 (.refl w5) rfl
  .clear hd;refine rY aB ?_;exact nxt _ w5 (.refl w5) rfl
  .have d0:f' 31=.agg (aL l.id l.size l.turn p g):=hd 8 (aD (by kernel_rfl));have d1:f' 32=.int .i64 (k:Nat):=hd 9 (aD (by kernel_rfl));have d2:f' 33=sl BP m:=hd 10 (aD (by kernel_rfl));unfold sl at d2;clear hd;refine dK Tryz.func79 (Hk l.id l.size l.turn p k m m BP 0 g (bG l.val l.size k) hl.id2 hl.size hk hl.turn hm79 (lV hl.val _ _) (fun i hi=>by rw[Nat.zero_add,cell_of_row _ _ _ _ _ _ (hE.row hBP),dZ _ _ _ hi])) ?_;rintro _ S1 w6 _ ⟨rfl,e1,hE6⟩;subst S1;rw[hblk];exact nxt _ w6 hE6 rfl
  .have d0:f' 27=.pointer (some ⟨D,0,none⟩):=hd 4 (aD (by kernel_rfl));have d1:f' 28=.int .i64 (k:Nat):=hd 5 (aD (by kernel_rfl));have d2:f' 30=.int .i64 (p:Nat):=hd 7 (aD (by kernel_rfl));have d3:f' 34=.agg (aC 96 (l.blk k)):=hd 11 (aD (by kernel_rfl));clear hd;refine dK Tryz.func60 (yU k p (l.blk k) (by omega) hp hnd hnb hXw.dk.old) ?_;rintro _ S1 w6 _ ⟨rfl,e1,hE6⟩;subst S1;rw[heq];exact nxt _ w6 hE6 rfl
  .clear hd;refine rY aB ?_;exact nxt _ w5 (.refl w5) rfl
  .have d0:f' 36=.pointer (some ⟨bx,4,none⟩):=hd 13 (aD (by kernel_rfl));have d1:f' 23=.int .i64 (k:Nat):=hd 0 (aD (by kernel_rfl));clear hd;refine rY aB ?_;exact nxt _ w5 (.refl w5) (by simp[Jb])
  .exact absurd rfl hne
 .rintro f' S1 w5 rest ⟨eS,hB⟩ hf hd nxt;subst S1;have d0:f' 37=.pointer (some ⟨bx,4+k,none⟩):=hd 14 (by simp);have d1:f' 35=.bool (g k):=hd 12 (by simp);clear hd hf;refine eT aB rfl rfl (by kernel_rfl) (x:=.tmp 37) (y:=.tmp 35) (g:=bx) (j:=4+k) (z:=.bool (g k)) rfl (by simp[d0]) (by simp[d1]) rfl rfl (hB.row hbx) (by simp[aL];omega) (by kernel_rfl) fun w6 hW=>?_
  rw[Pf hk]at hW;exact nxt undef S w6 ⟨rfl,hB.trans _ _ _ (Xh hW (hB.row hbx))⟩ trivial fun j x' hj h=>h
 .rintro f' S1 w5 ⟨eS,hE⟩ hf hd;subst S1;exact next w5 f' hE fun s hs=>hf s (rS (by kernel_rfl) hs)
end
section
variable {X D DB DA M:Nat}{RB RA:Nat->Nat}{nd nb turn:Nat}{s:Dsk}{L:List Ent}{w w' v:World}{S:Nat->Prop}
def Lb.ent(l:Lb)(p:Nat)(g:Nat->Bool):Ent:=⟨l.id,l.size,l.turn,p,l.val,g,0⟩
theorem SlotK.entOk{p:Nat}{l:Lb}{G:Nat->Bool}{c:Nat->Nat->Nat->Nat}(h:SlotK c p l G)(hl:l.Ok)(hp:p<nb)(h10:10<=aF (aN G 14) 14):EntOk nb l.turn c (l.ent p (aN G 14)):=
 ⟨hl.id1,hl.id2,hl.size,Nat.le_refl _,hp,hl.val,h10,fun k hk hg j hj=>by
  have:G k=true:=by
   have hg':(decide (k<14)&&G k)=true:=hg;simp[hk]at hg';exact hg'
  exact h.yes k hk this j hj⟩
theorem zbF{G:Nat->Bool}{k:Nat}(hk:k<14):aN G 14 k=G k:=by simp[aN,hk]
theorem Qa(p:Nat)(l:Lb)(G':Nat->Bool)(hl:l.Ok)(h10:10<=aF (aN G' 14) 14)(hp:p<nb)(hn1:14<=nd)(hnd:nd<=18)(hnb:nb<=64)(hg:Tryz.prog.globals.size<=v.heap.size)(hK:SlotK s.c p l G')(hX:StE X D DB DA M RB RA nd nb turn s L v) :
  aK Tryz.prog 65 #[.pointer (some ⟨X,0,none⟩),.agg (aL l.id l.size l.turn p (aN G' 14))] S v fun x S' v'=>Kp v (fun _=>False) v'∧x=.agg (aL l.id l.size l.turn p (aN G' 14)):=by
 refine oG Tryz.func65 rfl Tryz.ntmps65 (by simp) fun Stop cc cs ret=>?_
 have hok:=hK.entOk hl hp h10;obtain⟨g,hgd⟩:∃ g,g=aN G' 14:=⟨_,rfl⟩;have heq:∀ k,k<14->cC (s.c k p) (l.blk k) 0 96=g k:=fun k hk=>by rw[hK.eq hl hk,hgd,zbF hk]
 rw[<-hgd]at ret hok h10 ⊢;clear hgd hK;have g0:dD #[.pointer (some ⟨X,0,none⟩),.agg (aL l.id l.size l.turn p g)] 0=.pointer (some ⟨X,0,none⟩):=rfl;have g1:dD #[.pointer (some ⟨X,0,none⟩),.agg (aL l.id l.size l.turn p g)] 1=.agg (aL l.id l.size l.turn p g):=rfl;generalize dD #[.pointer (some ⟨X,0,none⟩),.agg (aL l.id l.size l.turn p g)]=f at g0 g1;repeat refine rN ?_
 refine bO (Q:=fun y w=>y=.pointer (some ⟨v.heap.size,0,none⟩)∧Ext v w∧w.heap[v.heap.size]?=some (.cells (aL l.id l.size l.turn p g) 81)∧w.heap.size=v.heap.size+1) aB rfl rfl (by kernel_rfl) (fun u hu=>⟨_,_,.inl (gM (x:=.tmp 1) (y:=.agg (aL l.id l.size l.turn p g)) rfl (by simp[g1]) u),by rw[hu.heap],(Ext.twin hu).trans _ _ _ (Ext.alloc _ _),by rw[<-hu.heap];exact cI _ _,by rw[jY,hu.heap]⟩) ?_
 rintro _ w1 ⟨rfl,hE1,hb1,hs1⟩;simp only[stO_some];refine cQ aB rfl rfl (by kernel_rfl) (.agg (aL 0 0 0 0 fun _=>false)) rfl (by kernel_rfl) fun w2 hE2 hb2 hs2=>?_
 simp only[stO_some];have hb1':=hE2.row hb1;have hE12:=hE1.trans _ _ _ hE2;have hX2:=hX.ext hE12;generalize hbx:v.heap.size=bx at *
 generalize hrx:w1.heap.size=rx at *
 repeat refine rN ?_
 refine cH aB rfl rfl (by kernel_rfl) (fun u hu=>jX (x:=.tmp 3) (b:=bx) rfl (by simp) ((Ext.twin hu).row hb1')) ?_;simp only[stO_some];refine rK Tryz.func52 (wP (l.ent p g) hok hl.turn hn1 hnd hnb hX2) ?_;rintro _ S1 w3 _ ⟨e1,hE3,BL,PB,CP,rfl,hrow,hps⟩;subst S1;have hgw:Tryz.prog.globals.size<=w3.heap.size:=by have:=hE3.size;have:=hE12.size;omega
 repeat refine rN ?_
 refine rK Tryz.func51 (zL (l.ent p g) BL PB CP hl.size hl.val h10 hgw ⟨hrow,hps⟩) ?_;rintro _ S1 w4 _ ⟨BA,PA,rfl,hP⟩;have hm79:((l.ent p g).size+9) / 10=(l.size+9) / 10:=rfl;have hK4:Kp v (fun _=>False) w4:=((Kp.refl v _).ext (hE12.trans _ _ _ hE3)).trans hP.kp;have hX4:=(hX2.ext hE3).kp hP.kp;have hb4:=hP.kp.cells _ _ _ _ (fun x=>x) (hE3.row hb1');have hr4:=hP.kp.cells _ _ _ _ (fun x=>x) (hE3.row hb2);have hba:w4.heap[BA]?=some (.cells (allA fun k=>sl (PA k) ((l.size+9) / 10)) 48):=hP.ba
 have hpb:∀ k,k<14->w4.heap[PA k]?=some (.cells (aC ((l.size+9) / 10) (bG l.val l.size k)) 5):=hP.pb;clear hrow hps;unfold sl at hba;repeat refine rN ?_
 refine bT (fun d f' S' w=>∃ k,d=14 - k∧k<=14∧S'=S1∧Ext w4 w∧f' 0=.pointer (some ⟨X,0,none⟩)∧f' 3=.pointer (some ⟨bx,0,none⟩)∧f' 4=.pointer (some ⟨rx,0,none⟩)∧f' 16=sl BA 14∧f' 17=.int .i64 14∧f' 18=.int .i64 (k:Nat)) 14 ⟨0,by omega,by omega,rfl,.refl _,by simp[g0],by simp,by simp,by simp,by simp[sl],by simp⟩ ?_;clear g0 g1 f;rintro d f S' w ⟨k,rfl,hk,eS,hEw,g0,g3,g4,g16,g17,g18⟩ nxt;subst S';have hXw:=hX4.ext hEw;unfold sl at g16;repeat refine rN ?_
 by_cases hlt:k<14
 .have hkI:(k:Int)<14:=by omega
  have ck:w.cell? ⟨BA,k,none⟩=some (.slice (some ⟨PA k,0,none⟩) ((l.size+9) / 10) ((l.size+9) / 10)):=by rw[cell_of_row _ _ _ _ _ _ (hEw.row hba),jQ _ _ hlt]
  refine rX (by simp[Act.eval,hkI,g18,g17]) ?_;repeat refine rM ck ?_
  refine Tu l g hl bx (PA k) k p hlt hp hn1 hnd hnb hXw (heq k hlt) (hEw.row hb4) (hEw.row (hpb k hlt)) (by simp[g0]) (by simp[g3]) (by simp) (by simp[sl]) fun w5 f5 hE5 hf5=>?_
  have k0:f5 0=.pointer (some ⟨X,0,none⟩):=(hf5 0 (by omega)).trans (by simp[g0]);have k3:f5 3=.pointer (some ⟨bx,0,none⟩):=(hf5 3 (by omega)).trans (by simp[g3]);have k4:f5 4=.pointer (some ⟨rx,0,none⟩):=(hf5 4 (by omega)).trans (by simp[g4]);have k16:f5 16=.slice (some ⟨BA,0,none⟩) 14 14:=(hf5 16 (by omega)).trans (by simp[g16]);have k17:f5 17=.int .i64 14:=(hf5 17 (by omega)).trans (by simp[g17]);have k18:f5 18=.int .i64 (k:Nat):=(hf5 18 (by omega)).trans (by simp[g18]);repeat refine rN ?_
  refine nxt _ _ _ (14 - (k+1)) (by omega) ⟨k+1,rfl,by omega,rfl,hEw.trans _ _ _ hE5,by simp[k0],by simp[k3],by simp[k4],by simp[k16,sl],by simp[k17],by simp⟩
 .obtain rfl:k=14:=by omega
  refine rZ (by simp[Act.eval,g18,g17]) ?_;refine bD rfl ?_;repeat refine rN ?_
  refine cH aB rfl rfl (by kernel_rfl) (fun u hu=>jX (x:=.tmp 3) (b:=bx) rfl (by simp[g3]) ((Ext.twin hu).row (hEw.row hb4))) ?_;simp only[stO_some];refine dF aB rfl rfl (by kernel_rfl) (x:=.tmp 4) (y:=.tmp 39) (g:=rx) (c:=aL l.id l.size l.turn p g) rfl (by simp[g4]) (by simp) (hEw.row hr4) (by kernel_rfl) rfl (by simp[aL,Value.oneCell']) fun w5 hW5=>?_
  simp only[stO_none];repeat refine rN ?_
  refine aP fun todo=>?_
  refine ret _ _ S1 w5 (.agg (aL l.id l.size l.turn p g)) ?_ ⟨(hK4.ext hEw).wr (.inr (by omega)) hW5,rfl⟩;have hl':=run_loadVar_row (P:=Tryz.prog) w5 rx 81 81 (aL l.id l.size l.turn p g) (0,0) _ hW5.at_ Tryz.underlying81 rfl (by kernel_rfl);simp[results,Tryz.results65,asAddr,hl',g4]
end
end Go.Proofs.YtpiefebngnlfoabGreatDoor
namespace Go.Vw
open Go.Conc
section
variable {P:Program}{Stop:Goroutine->(Nat->Prop)->World->Prop}{S:Nat->Prop}{v:World}{fn:FuncId}{cs:List Frame}{k:List Item}{n:Nat}{ops:Array Oper}
def Ih(ops:Array Oper)(z:Nat):Bool:=(List.range ops.size).all fun j=>decide (j=z)||(cJ ops z).contains j
theorem Uc{z:Nat}(h:Ih ops z=true){j:Nat}(hj:j<ops.size)(hne:j≠z):j∈cJ ops z:=by
 have:=List.all_eq_true.1 h j (List.mem_range.2 hj);simp only[Bool.or_eq_true,decide_eq_true_eq,List.contains_iff_mem]at this;rcases this with h1|h1
 .exact absurd h1 hne
 .exact h1
theorem Kx(hm:P.follows .mixedOrders=true)(ht:kJ ops=true)(ha:pB ops=true){id:Nat}{f0:Nat->Value}(m z:Nat)(hzm:z≠m)(hzd:Ih ops z=true)(A:List Nat)(hzA:z ∉ A)(Fin:(Nat->Value)->(Nat->Prop)->World->Prop)(hA:kK ops m A=true)
  (spec:Nat->Value->World->Prop) (B0:(Nat->Prop)->World->Prop) (B1:(Nat->Prop)->(Nat->Value)->World->Prop) (hB0:∀ S w w',B0 S w->Ext w w'->B0 S w') (hB1:∀ S i f x w w',i<ops.size->i ∉ A->i≠m->i≠z->B1 S f w->Ext w w'->B1 S (aG f (aI ops i) x) w') (hst:∀ j x w w',spec j x w->Ext w w'->spec j x w') (hnone:∀ j,j<ops.size->aI ops j=none->∀ x w,spec j x w->spec j undef w) (h0:B0 S v)
  (step:∀ i f S w rest,i<ops.size->i≠m->i≠z->(i∈A->B0 S w)->(B0 S w∨B1 S f w)->(∀ s,(∀ j,j<ops.size->aI ops j=some s->j=i∨i∈cJ ops j)->f s=f0 s)->(∀ a,a∈cJ ops i->spec a (bH ops f a) w)->(∀ x w',Ext w w'->spec i x w'->Reach P Stop (G ((base fn).at ⟨TA n (aG f (aI ops i) x),[]⟩ (.inRegion ops rest :: k)) cs) S w')->Reach P Stop (G ((base fn).at ⟨TA n f,[]⟩ (.inRegion ops (i :: rest) :: k)) cs) S w)
  (piv:∀ f S w rest,B0 S w->(∀ s,(∀ j,j<ops.size->aI ops j=some s->j=m∨m∈cJ ops j)->f s=f0 s)->(∀ a,a∈A->spec a (bH ops f a) w)->(∀ x S' w',B1 S' (aG f (aI ops m) x) w'->spec m x w'->(∀ j y,j≠m->spec j y w->spec j y w')->Reach P Stop (G ((base fn).at ⟨TA n (aG f (aI ops m) x),[]⟩ (.inRegion ops rest :: k)) cs) S' w')->Reach P Stop (G ((base fn).at ⟨TA n f,[]⟩ (.inRegion ops (m :: rest) :: k)) cs) S w)
  (last:∀ f S w rest,B1 S f w->(∀ s,(∀ j,j<ops.size->aI ops j≠some s)->f s=f0 s)->(∀ j,j<ops.size->j≠z->spec j (bH ops f j) w)->(∀ x S' w',Fin (aG f (aI ops z) x) S' w'->Reach P Stop (G ((base fn).at ⟨TA n (aG f (aI ops z) x),[]⟩ (.inRegion ops rest :: k)) cs) S' w')->Reach P Stop (G ((base fn).at ⟨TA n f,[]⟩ (.inRegion ops (z :: rest) :: k)) cs) S w)
  (fin:∀ f S w,Fin f S w->Reach P Stop (G ((base fn).at ⟨TA n f,[]⟩ (.inRegion ops [] :: k)) cs) S w) (hmlt:m<ops.size:=by decide) (hzlt:z<ops.size:=by decide) :
  Reach P Stop (G ((base fn).at ⟨TA n f0,[]⟩ (.code (.region id ops true) :: k)) cs) S v:=by
 refine tK hm ht (fun l f S w=>(l.getD z false=false->(∀ s,(∀ j,j<ops.size->l.getD j false=true->aI ops j≠some s)->f s=f0 s)∧(∀ j,j<ops.size->l.getD j false=true->spec j (bH ops f j) w)∧(∀ i,l.getD i false=true->∀ a∈cJ ops i,l.getD a false=true)∧(l.getD m false=false->B0 S w)∧(l.getD m false=true->B1 S f w∧∀ a∈A,l.getD a false=true))∧(l.getD z false=true->Fin f S w∧∀ j,j<ops.size->j≠z->l.getD j false=true)) ⟨fun _=>⟨fun _ _=>rfl,fun j hj h=>?_,fun i h=>?_,fun _=>h0,fun h=>?_⟩,fun h=>?_⟩ ?_ ?_
 .simp[Array.getD_eq_getD_getElem?,hj]at h
 .exfalso;by_cases hi:i<ops.size
  .simp[Array.getD_eq_getD_getElem?,hi]at h
  .simp[Array.getD_eq_getD_getElem?,hi]at h
 .simp[Array.getD_eq_getD_getElem?,hmlt]at h
 .exfalso;simp[Array.getD_eq_getD_getElem?,hzlt]at h
 .rintro l f S w i rest hl ⟨hJ,hZ⟩ hi nxt;obtain⟨h1,o,ho,_⟩:=mem_ready.1 hi;have hlt:i<ops.size:=(Array.getElem?_eq_some_iff.1 ho).1;have hdeps:=lI hi;have hun:l.getD i false=false:=by
   have:l.getD i true=false:=by simpa using h1
   simpa [Array.getD_eq_getD_getElem?,hl,hlt] using this
  have hzf:l.getD z false=false:=by
   cases hz:l.getD z false with
   |false=>rfl
   |true=>
    exfalso;by_cases e:i=z
    .rw[e,hz]at hun;cases hun
    .rw[(hZ hz).2 i hlt e]at hun;cases hun
  obtain⟨hf,hd,hc,hb0,hb1⟩:=hJ hzf;have hdlt:∀ a,l.getD a false=true->a<ops.size:=fun a h2=>by
   refine Nat.lt_of_not_le fun h3=>?_
   rw[<-hl]at h3;simp[Array.getD_eq_getD_getElem?,Array.getElem?_eq_none h3]at h2
  have hset:∀ j,l.getD j false=true->(l.setIfInBounds i true).getD j false=true:=fun j hj=>by
   by_cases e:i=j
   .subst e;have hil:i<l.size:=by omega
    simp[Array.getD_eq_getD_getElem?,Array.getElem?_setIfInBounds,hil]
   .simpa [Array.getD_eq_getD_getElem?,Array.getElem?_setIfInBounds,e] using hj
  have hseti:(l.setIfInBounds i true).getD i false=true:=by
   have hil:i<l.size:=by omega
   simp[Array.getD_eq_getD_getElem?,Array.getElem?_setIfInBounds,hil]
  have hf':∀ x s,(∀ j,j<ops.size->(l.setIfInBounds i true).getD j false=true->aI ops j≠some s)->aG f (aI ops i) x s=f0 s:=fun x s hs'=>by
   rw[<-hf s fun j hj h2=>hs' j hj (hset j h2)]
   have:=hs' i hlt hseti;cases hdo:aI ops i with
   |none=>rfl
   |some t=>
    rw[hdo]at this;have:s≠t:=fun e=>this (by rw[e])
    simp[aG,st,this]
  have hfi:∀ s,(∀ j,j<ops.size->aI ops j=some s->j=i∨i∈cJ ops j)->f s=f0 s:=fun s hs'=>hf s fun j hj h2 h3=>by
   rcases hs' j hj h3 with rfl|h4
   .rw[hun]at h2;cases h2
   .have:=hc j h2 i h4;rw[hun]at this;cases this
  have hval:∀ x w',spec i x w'->(∀ j,j<ops.size->j≠i->l.getD j false=true->spec j (bH ops f j) w')->∀ j,j<ops.size->(l.setIfInBounds i true).getD j false=true->spec j (bH ops (aG f (aI ops i) x) j) w':=fun x w' hs hothers j hj hj'=>by
   by_cases e:j=i
   .subst e;have:bH ops (aG f (aI ops j) x) j=if (aI ops j).isSome then x else undef:=by
     unfold bH;cases hdo:aI ops j<;>simp[aG,st]
    rw[this];cases hdo:aI ops j with
    |some t=>simpa using hs
    |none=>
     simp only[Option.isSome_none,Bool.false_eq_true,if_false];exact hnone j hj hdo x w' hs
   .have h2:=(iB hj').resolve_left e;have:bH ops (aG f (aI ops i) x) j=bH ops f j:=by
     unfold bH;cases hdj:aI ops j with
     |none=>rfl
     |some t=>
      cases hdi:aI ops i with
      |none=>rfl
      |some t'=>
       have hne:t≠t':=fun e'=>pV ha hj hlt e hdj (by rw[hdi,e'])
       simp[aG,st,hne]
    rw[this];exact hothers j hj e h2
  have hc':∀ i',(l.setIfInBounds i true).getD i' false=true->∀ a∈cJ ops i',(l.setIfInBounds i true).getD a false=true:=fun i' h2 a h3=>by
   rcases iB h2 with rfl|h2
   .exact hset a (hdeps a h3)
   .exact hset a (hc i' h2 a h3)
  by_cases ez:i=z
  .subst ez;have hall:∀ j,j<ops.size->j≠i->l.getD j false=true:=fun j hj hne=>hdeps j (Uc hzd hj hne)
   refine last f S w rest (hb1 (hall m hmlt (fun e=>hzm e.symm))).1 (fun s hs'=>hf s fun j hj _=>hs' j hj) (fun j hj hne=>hd j hj (hall j hj hne)) fun x S' w' hF=>nxt _ _ _ ⟨fun h2=>?_,fun _=>⟨hF,fun j hj hne=>hset j (hall j hj hne)⟩⟩
   rw[hseti]at h2;cases h2
  have hzn:(l.setIfInBounds i true).getD z false=true->False:=fun h2=>by
   rcases iB h2 with h3|h3
   .exact ez h3.symm
   .rw[hzf]at h3;cases h3
  by_cases e:i=m
  .subst e;have hAd:∀ a∈A,l.getD a false=true:=fun a h2=>mR hA hc hdeps _ a (Nat.le_refl _) h2
   refine piv f S w rest (hb0 hun) hfi (fun a h2=>hd a (hdlt a (hAd a h2)) (hAd a h2)) fun x S' w' hB hs hothers=>nxt _ _ _ ⟨fun _=>⟨hf' x,hval x w' hs fun j hj hne h2=>hothers j _ hne (hd j hj h2),hc',fun h2=>?_,fun _=>⟨hB,fun a h2=>hset a (hAd a h2)⟩⟩,fun h2=>(hzn h2).elim⟩
   rw[hseti]at h2;cases h2
  .have hAi:i∈A->B0 S w:=fun h2=>hb0 (by
    cases hb:l.getD m false with
    |false=>rfl
    |true=>
     have:=(hb1 hb).2 i h2;rw[hun]at this
     cases this)
   have hBB:B0 S w∨B1 S f w:=by
    cases hb:l.getD m false with
    |false=>exact .inl (hb0 hb)
    |true=>exact .inr (hb1 hb).1
   refine step i f S w rest hlt e ez hAi hBB hfi (fun a h2=>hd a (hdlt a (hdeps a h2)) (hdeps a h2)) fun x w' hE hs=>nxt _ _ _ ⟨fun _=>⟨hf' x,hval x w' hs fun j hj hne h2=>hst _ _ _ _ (hd j hj h2) hE,hc',fun h2=>?_,fun h2=>?_⟩,fun h2=>(hzn h2).elim⟩
   .refine hB0 _ _ _ (hb0 ?_) hE;cases hb:l.getD m false with
    |false=>rfl
    |true=>rw[hset m hb]at h2;cases h2
   .have h3:=(iB h2).resolve_left fun e'=>e e'.symm
    refine⟨hB1 S i f x _ _ hlt (fun h4=>?_) e ez (hb1 h3).1 hE,fun a h4=>hset a ((hb1 h3).2 a h4)⟩
    have:=(hb1 h3).2 i h4;rw[hun]at this;cases this
 .rintro l f S w ⟨hJ,hZ⟩ hall;exact fin f S w (hZ (hall z hzlt)).1
end
