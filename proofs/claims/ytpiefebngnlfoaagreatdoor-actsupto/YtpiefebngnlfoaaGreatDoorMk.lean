import Derived.Test.YtpiefebngnlfoaaGreatDoorMj
set_option maxRecDepth 99999
set_option maxHeartbeats 0
set_option linter.unusedVariables false
set_option linter.unusedSimpArgs false
namespace Go.Vw
open Go.Conc
theorem aA.still{P:Program}{S:Nat->Prop}{α : Type}{s:Sem α}{x:α}(h:∀w es,s.runT P w es=(.ok x w,es)):aA P S s:=by intro B v W es hR;have h1:=aA.pure (P:=P) (S:=S) x B v W es hR;rw[h,h];exact h1
theorem aA.bindStill{P:Program}{S:Nat->Prop}{α β : Type}{x:Sem α}{f:α->Sem β}{a:α}(h:∀w es,x.runT P w es=(.ok a w,es))(hf:aA P S (f a)):aA P S (x >>= f):=by
 intro B v W es hR;have hb:∀w,(x >>= f).runT P w es=(f a).runT P w es:=λw=>by show(Sem.bind x f).runT P w es=_;rw[Sem.runT_bind',h]
 rw[hb,hb];exact hf B v W es hR
end Go.Vw
namespace Go.Proofs.YtpiefebngnlfoaaGreatDoor
open Go.RowKit Go.Conc Go.Vw
structure Fd where
 id:Nat
 size:Nat
 turn:Nat
 slot:Nat
 good:Nat->Bool
def dZ(d:Fd):MapEntry:=⟨.agg (bG d.id d.size d.turn),.agg (aL d.id d.size d.turn d.slot d.good),0⟩
def dB:Option Fd->Obj
 |none=>.map #[] 0
 |some d=>.map #[dZ d] 1
theorem Lr(b:Bool)(x y z:Int)(w:World)(es:Array Event):(Instr.checkKey b 10000 120 (.agg #[.int .i64 x,.int .i64 y,.int .u64 z])).runT Tryz.prog w es=(.ok () w,es):=by kernel_rfl
theorem sG(b:Bool)(x y z:Int)(w:World):(Instr.checkKey b 10000 120 (.agg #[.int .i64 x,.int .i64 y,.int .u64 z])).run Tryz.prog w=.ok () w:=by kernel_rfl
theorem Xf(x y z:Int)(w:World):(Op.equal 120 (.agg #[.int .i64 x,.int .i64 y,.int .u64 z]) (.agg #[.int .i64 x,.int .i64 y,.int .u64 z])).run Tryz.prog w=.ok true w:=by
 have hf:∃f1 f2 f3,(Tryz.prog.fieldsOf 120).toList=[f1,f2,f3]∧(f1.name≠ "_"∧f2.name≠ "_"∧f3.name≠ "_")∧(f1.type=3∧f2.type=3∧f3.type=78)∧f1.offset=0∧f2.offset=1∧f3.offset=2:=⟨_,_,_,rfl,⟨by decide,by decide,by decide⟩,⟨rfl,rfl,rfl⟩,rfl,rfl,rfl⟩;obtain⟨f1,f2,f3,h0,⟨n1,n2,n3⟩,⟨t1,t2,t3⟩,o1,o2,o3⟩:=hf;have p1:(part 3 #[.int .i64 x,.int .i64 y,.int .u64 z] 0).run Tryz.prog w=.ok (.int .i64 x) w:=by kernel_rfl
 have p2:(part 3 #[.int .i64 x,.int .i64 y,.int .u64 z] 1).run Tryz.prog w=.ok (.int .i64 y) w:=by kernel_rfl
 have p3:(part 78 #[.int .i64 x,.int .i64 y,.int .u64 z] 2).run Tryz.prog w=.ok (.int .u64 z) w:=by kernel_rfl
 have q1:=run_equalIn_int (P:=Tryz.prog) w 9998 3 .i64 .i64 x x Tryz.underlying3;have q2:=run_equalIn_int (P:=Tryz.prog) w 9998 3 .i64 .i64 y y Tryz.underlying3;have q3:=run_equalIn_int (P:=Tryz.prog) w 9998 78 .u64 .u64 z z Tryz.underlying78;unfold Op.equal Op.maxDepth;rw[show(10000:Nat)=9999+1 from rfl,run_equalIn_agg (P:=Tryz.prog) w 9999 120 _ _ (by kernel_rfl) (by kernel_rfl),h0];rw[show(9998+1:Nat)=9999 from rfl]at q1 q2 q3;simp[Op.eqFields,n1,n2,n3,t1,t2,t3,o1,o2,o3,p1,p2,p3,q1,q2,q3]
theorem Bx{S:Nat->Prop}(b:Bool)(x y z:Int):aA Tryz.prog S (Instr.checkKey b 10000 120 (.agg #[.int .i64 x,.int .i64 y,.int .u64 z])):=aA.still λw es=>Lr b x y z w es
theorem Dt(w:World)(es:Array Event):(underlying 117).runT Tryz.prog w es=(.ok (.map 120 123) w,es):=by kernel_rfl
theorem Ll{S:Nat->Prop}(m:Nat)(x y z:Int)(ok:Bool):aA Tryz.prog S (Instr.lookup 117 (.map (some m)) (.agg #[.int .i64 x,.int .i64 y,.int .u64 z]) ok):=by
 unfold Instr.lookup;refine aA.bindStill Dt ?_;refine aA.getThen (λ_ o=>?_) (λv es=>aK.first (aK.stuck _ _ _));cases o with
 |map es c=>
  refine aA.bind (aA.pure _) λes=>aA.bind (Bx _ _ _ _) λ_=>aA.bind (aA.findKey lO _ _ _) λr=>?_;cases r with
  |none=>exact aA.bind (aA.zeroValue _) λ_=>aA.bind (aA.pure _) λ_=>aA.pure _
  |some q=>exact aA.bind (aA.pure _) λ_=>aA.pure _
 |_=>exact aA.of_dead λv W es _=>aK.first (aK.stuck _ _ _)
theorem Lj{S:Nat->Prop}(m:Nat)(x y z:Int)(q:Value):aA Tryz.prog S (Instr.mapUpdate 117 (.map (some m)) (.agg #[.int .i64 x,.int .i64 y,.int .u64 z]) q):=by
 unfold Instr.mapUpdate;refine aA.bindStill Dt ?_;refine aA.getThen (λhs o=>?_) (λv es=>aK.stuck _ _ _);cases o with
 |map es c=>
  refine aA.bind (Bx _ _ _ _) λ_=>aA.bind (aA.findKey lO _ _ _) λr=>?_;cases r with
  |none=>exact aA.setObj hs trivial
  |some q=>exact aA.bind (aA.keyStays _ _) λ_=>aA.setObj hs trivial
 |_=>exact aA.stuck _
theorem Dr(d:Fd)(u:World):(Instr.findKey 120 (.agg (bG d.id d.size d.turn)) [dZ d]).run Tryz.prog u=.ok (some (0,.agg (aL d.id d.size d.turn d.slot d.good))) u:=by
 have hn:∀(k:TypeDesc),Instr.sameNow k (.agg (bG d.id d.size d.turn)) (dZ d).key=none:=λk=>by unfold dZ Instr.sameNow;cases k<;>rfl
 unfold Instr.findKey;simp only[df,cw Tryz.underlying120,dc,Instr.findNow,hn,Instr.findAsking];have:=Xf (d.id:Nat) (d.size:Nat) (d.turn:Nat) u;simp only[dZ,bG,this,dc,if_true];rfl
def qX:Option Fd->Value
 |none=>.agg (aL 0 0 0 0 λ_=>false)
 |some d=>.agg (aL d.id d.size d.turn d.slot d.good)
theorem Qa{m id size turn:Nat}{o:Option Fd}{u:World}(ho:∀d,o=some d->d.id=id∧d.size=size∧d.turn=turn)(hm:u.heap[m]?=some (dB o)):(Instr.lookup 117 (.map (some m)) (.agg (bG id size turn)) false).run Tryz.prog u=.ok (qX o) u:=by
 obtain⟨inf,q1,q2⟩:=xZ;unfold Instr.lookup;cases o with
 |none=>simp only[df,cw Tryz.underlying117,dc,fK hm trivial,dB,dg,bG,sG];simp[Instr.findKey,Instr.findNow,cw Tryz.underlying120,zeroValue,typeInfo,q1,q2,qX]
 |some d=>obtain⟨e1,e2,e3⟩:=ho d rfl;subst e1 e2 e3;have hf:=Dr d u;simp only[df,cw Tryz.underlying117,dc,fK hm trivial,dB,dg];unfold bG at hf⊢;simp only[sG,dc,hf];rfl
theorem Ty{m id size turn slot:Nat}{good:Nat->Bool}{o:Option Fd}{u:World}(ho:∀d,o=some d->d.id=id∧d.size=size∧d.turn=turn)(hm:u.heap[m]?=some (dB o)):∃w',(Instr.mapUpdate 117 (.map (some m)) (.agg (bG id size turn)) (.agg (aL id size turn slot good))).run Tryz.prog u=.ok () w'∧Wr u m (dB (some ⟨id,size,turn,slot,good⟩)) w':=by
 unfold Instr.mapUpdate;cases o with
 |none=>obtain⟨w',h1,h2⟩:=kW (o':=dB (some ⟨id,size,turn,slot,good⟩)) hm trivial;refine⟨w',?_,h2⟩;simp only[df,cw Tryz.underlying117,dc,fK hm trivial,dB,dg,bG,sG];simp only[Instr.findKey,Instr.findNow,df,cw Tryz.underlying120,dc,dg];exact h1
 |some d=>
  obtain⟨e1,e2,e3⟩:=ho d rfl;subst e1 e2 e3;have hf:=Dr d u;obtain⟨w',h1,h2⟩:=kW (o':=dB (some ⟨d.id,d.size,d.turn,slot,good⟩)) hm trivial;refine⟨w',?_,h2⟩;have hk:(Instr.keyThatStays ((((#[dZ d]:Array MapEntry)[0]?).map (·.key)).getD (.agg (bG d.id d.size d.turn))) (.agg (bG d.id d.size d.turn))).run Tryz.prog u=.ok (.agg (bG d.id d.size d.turn)) u:=by simp[Instr.keyThatStays,dZ,bG,Instr.sameBits]
  simp only[df,cw Tryz.underlying117,dc,fK hm trivial,dB,dg];unfold bG at hf hk⊢;simp only[sG,dc,hf,df,hk];exact h1
theorem Ni{r m:Nat}{d:Fd}{ty:TypeId}{u:World}(hr:u.heap[r]?=some (.mapIter (some m) 1 #[] 1))(hm:u.heap[m]?=some (dB (some d))):∃w',(Instr.next (.pointer (some ⟨r,0,none⟩)) false ty).run Tryz.prog u=.ok (.tuple #[.bool true,.agg (bG d.id d.size d.turn),.agg (aL d.id d.size d.turn d.slot d.good)]) w'∧Wr u r (.mapIter (some m) 1 #[0] 1) w':=by
 obtain⟨w',h1,h2⟩:=kW (o':=.mapIter (some m) 1 #[0] 1) hr trivial;refine⟨w',?_,h2⟩;have f1:Array.filter (λe:MapEntry=>!(#[]:Array Nat).contains e.born) #[dZ d]=#[dZ d]:=by simp
 have f2:Array.filter (λe:MapEntry=>decide (e.born<1)) #[dZ d]=#[dZ d]:=by simp[dZ]
 have f3:Array.filter (λe:MapEntry=>decide (e.born ≥ 1)) #[dZ d]=#[]:=by simp[dZ]
 simp only[Instr.next,df,fK hr trivial,dc,fK hm trivial,dB];simp only[show(!(#[]:Array Nat).isEmpty&&!(#[dZ d]:Array MapEntry).isEmpty&&(#[dZ d]:Array MapEntry).all (λx=>decide (x.born ≥ 1)))=false from rfl,ay,if_false,f1,f2,f3];simp[choose,Sem.run,Question.forced];have lj:(setObj r (.mapIter (some m) 1 #[(dZ d).born] 1)).run Tryz.prog u=.ok () w':=h1;rw[lj];rfl
theorem Nh{r m:Nat}{d:Fd}{ty:TypeId}{u:World}(hr:u.heap[r]?=some (.mapIter (some m) 1 #[0] 1))(hm:u.heap[m]?=some (dB (some d))):(Instr.next (.pointer (some ⟨r,0,none⟩)) false ty).run Tryz.prog u=.ok (.tuple #[.bool false]) u:=by
 have f1:Array.filter (λe:MapEntry=>!(#[0]:Array Nat).contains e.born) #[dZ d]=#[]:=by simp[dZ]
 simp only[Instr.next,df,fK hr trivial,dc,fK hm trivial,dB];have t:(!(#[0]:Array Nat).isEmpty&&!(#[dZ d]:Array MapEntry).isEmpty&&(#[dZ d]:Array MapEntry).all (λx=>decide (x.born ≥ 1)))=false:=by simp[dZ]
 simp only[t,ay,if_false,f1];simp[choose,Sem.run,Question.forced]
theorem No{r m:Nat}{d:Fd}{u:World}(hr:u.heap[r]?=some (.mapIter (some m) 1 #[0] 1))(hm:u.heap[m]?=some (dB (some d))):(Instr.entry (.pointer (some ⟨r,0,none⟩))).run Tryz.prog u=.ok (.tuple #[.agg (bG d.id d.size d.turn),.agg (aL d.id d.size d.turn d.slot d.good)]) u:=by
 have hf:(#[dZ d]:Array MapEntry).find? (·.born==0)=some (dZ d):=by simp[dZ]
 have hb:(#[0]:Array Nat).back?=some 0:=rfl;simp only[Instr.entry,df,fK hr trivial,dc,fK hm trivial,dB,hb,bne_self_eq_false,ay,if_false,hf];rfl
section
variable {Stop:Goroutine->(Nat->Prop)->World->Prop}{S:Nat->Prop}{v:World}{fn:FuncId}{cs:List Frame}{k:List Item}{n:Nat}{f:Nat->Value}{ops:Array Oper}{i:Nat}{rest:List Nat}{dst:Option Tmp}{op:Op}{ty:TypeId}{pos:String}{dw:Array Edge}{dv:Option (Nat×Bool)}
theorem Lv{x y:Operand}{m id size turn:Nat}{o:Option Fd}(ho:ops[i]?=some ⟨dst,op,ty,pos,dw,dv⟩)(hw:Region.wanted ⟨dst,op,ty,pos,dw,dv⟩ (yielded ops (TA n f))=true)(dm:op=.lookup 117 x y false)(hx:(⟨TA n f,[]⟩:Act).eval x=.map (some m))(hy:(⟨TA n f,[]⟩:Act).eval y=.agg (bG id size turn))(hd:∀d,o=some d->d.id=id∧d.size=size∧d.turn=turn)(hm:v.heap[m]?=some (dB o))
  (hn:Vw.Reach Tryz.prog Stop (G ((base fn).at ⟨TA n (aG f dst (qX o)),[]⟩ (.inRegion ops rest::k)) cs) S v):Vw.Reach Tryz.prog Stop (G ((base fn).at ⟨TA n f,[]⟩ (.inRegion ops (i::rest)::k)) cs) S v:=by
 refine fC (by simp[base]) ho hw ?_ λu hu=>⟨qX o,u,.inl ?_,?_⟩
 .unfold execOp;simp only[dm,hx,hy];exact aA.bind (Ll _ _ _ _ _) λ_=>aA.pure _
 .unfold execOp;simp only[dm,hx,hy,df,Qa hd ((Ext.twin hu).row hm),dc,dg]
 .rw[cC];exact Reach.twin ⟨hu.heap.symm,hu.os.symm,hu.output.symm⟩ hn
theorem Nx{x y z:Operand}{m id size turn slot:Nat}{good:Nat->Bool}{o:Option Fd}(ho:ops[i]?=some ⟨dst,op,ty,pos,dw,dv⟩)(hw:Region.wanted ⟨dst,op,ty,pos,dw,dv⟩ (yielded ops (TA n f))=true)(dm:op=.mapUpdate 117 x y z)(hx:(⟨TA n f,[]⟩:Act).eval x=.map (some m))(hy:(⟨TA n f,[]⟩:Act).eval y=.agg (bG id size turn))(hz:(⟨TA n f,[]⟩:Act).eval z=.agg (aL id size turn slot good))(hd:∀d,o=some d->d.id=id∧d.size=size∧d.turn=turn)(hm:v.heap[m]?=some (dB o))
  (hn:∀w',Wr v m (dB (some ⟨id,size,turn,slot,good⟩)) w'->Vw.Reach Tryz.prog Stop (G ((base fn).at ⟨TA n (aG f dst undef),[]⟩ (.inRegion ops rest::k)) cs) S w'):Vw.Reach Tryz.prog Stop (G ((base fn).at ⟨TA n f,[]⟩ (.inRegion ops (i::rest)::k)) cs) S v:=by
 refine fC (by simp[base]) ho hw ?_ λu hu=>?_
 .unfold execOp;simp only[dm,hx,hy,hz];exact aA.bind (Lj _ _ _ _ _) λ_=>aA.pure _
 .obtain⟨w',h1,h2⟩:=Ty (slot:=slot) (good:=good) hd ((Ext.twin hu).row hm);refine⟨undef,w',.inr ⟨?_,rfl⟩,?_⟩
  .unfold execOp;simp only[dm,hx,hy,hz,df,h1,dc,dg]
  .rw[cC];exact hn w' (qB hu h2)
theorem Kq{x:Operand}{r m:Nat}{d:Fd}(ho:ops[i]?=some ⟨dst,op,ty,pos,dw,dv⟩)(hw:Region.wanted ⟨dst,op,ty,pos,dw,dv⟩ (yielded ops (TA n f))=true)(dm:op=.next x false)(hx:(⟨TA n f,[]⟩:Act).eval x=.pointer (some ⟨r,0,none⟩))(hr:v.heap[r]?=some (.mapIter (some m) 1 #[] 1))(hm:v.heap[m]?=some (dB (some d)))
  (hn:∀w',Wr v r (.mapIter (some m) 1 #[0] 1) w'->Vw.Reach Tryz.prog Stop (G ((base fn).at ⟨TA n (aG f dst (.tuple #[.bool true,.agg (bG d.id d.size d.turn),.agg (aL d.id d.size d.turn d.slot d.good)])),[]⟩ (.inRegion ops rest::k)) cs) S w'):Vw.Reach Tryz.prog Stop (G ((base fn).at ⟨TA n f,[]⟩ (.inRegion ops (i::rest)::k)) cs) S v:=by
 refine fC (by simp[base]) ho hw (sF dm hx) λu hu=>?_
 obtain⟨w',dq,hW⟩:=Ni (ty:=ty) ((Ext.twin hu).row hr) ((Ext.twin hu).row hm);refine⟨.tuple #[.bool true,.agg (bG d.id d.size d.turn),.agg (aL d.id d.size d.turn d.slot d.good)],w',.inl ?_,?_⟩
 .unfold execOp;simp only[dm,hx,df,dq,dc,dg]
 .rw[cC];exact hn w' (qB hu hW)
theorem Ko{x:Operand}{r m:Nat}{d:Fd}(ho:ops[i]?=some ⟨dst,op,ty,pos,dw,dv⟩)(hw:Region.wanted ⟨dst,op,ty,pos,dw,dv⟩ (yielded ops (TA n f))=true)(dm:op=.next x false)(hx:(⟨TA n f,[]⟩:Act).eval x=.pointer (some ⟨r,0,none⟩))(hr:v.heap[r]?=some (.mapIter (some m) 1 #[0] 1))(hm:v.heap[m]?=some (dB (some d)))
  (hn:Vw.Reach Tryz.prog Stop (G ((base fn).at ⟨TA n (aG f dst (.tuple #[.bool false])),[]⟩ (.inRegion ops rest::k)) cs) S v):Vw.Reach Tryz.prog Stop (G ((base fn).at ⟨TA n f,[]⟩ (.inRegion ops (i::rest)::k)) cs) S v:=by
 refine fC (by simp[base]) ho hw (sF dm hx) λu hu=>⟨.tuple #[.bool false],u,.inl ?_,?_⟩
 .unfold execOp;simp only[dm,hx,df,Nh (ty:=ty) ((Ext.twin hu).row hr) ((Ext.twin hu).row hm),dc,dg]
 .rw[cC];exact Reach.twin ⟨hu.heap.symm,hu.os.symm,hu.output.symm⟩ hn
theorem Ks{x:Operand}{r m:Nat}{d:Fd}(ho:ops[i]?=some ⟨dst,op,ty,pos,dw,dv⟩)(hw:Region.wanted ⟨dst,op,ty,pos,dw,dv⟩ (yielded ops (TA n f))=true)(dm:op=.entry x)(hx:(⟨TA n f,[]⟩:Act).eval x=.pointer (some ⟨r,0,none⟩))(hr:v.heap[r]?=some (.mapIter (some m) 1 #[0] 1))(hm:v.heap[m]?=some (dB (some d)))
  (hn:Vw.Reach Tryz.prog Stop (G ((base fn).at ⟨TA n (aG f dst (.tuple #[.agg (bG d.id d.size d.turn),.agg (aL d.id d.size d.turn d.slot d.good)])),[]⟩ (.inRegion ops rest::k)) cs) S v):Vw.Reach Tryz.prog Stop (G ((base fn).at ⟨TA n f,[]⟩ (.inRegion ops (i::rest)::k)) cs) S v:=by
 refine fC (by simp[base]) ho hw ?_ λu hu=>⟨.tuple #[.agg (bG d.id d.size d.turn),.agg (aL d.id d.size d.turn d.slot d.good)],u,.inl ?_,?_⟩
 .unfold execOp;simp only[dm,hx];exact aA.bind (aA.entry _) λ_=>aA.pure _
 .unfold execOp;simp only[dm,hx,df,No ((Ext.twin hu).row hr) ((Ext.twin hu).row hm),dc,dg]
 .rw[cC];exact Reach.twin ⟨hu.heap.symm,hu.os.symm,hu.output.symm⟩ hn
end
end Go.Proofs.YtpiefebngnlfoaaGreatDoor
namespace Go.Vw
open Go.Conc
section
variable {P:Program}{F:FuncId->Bool}{Stop:Goroutine->(Nat->Prop)->World->Prop}{S:Nat->Prop}{v:World}{fn:FuncId}{cs:List Frame}{k:List Item}{n:Nat}{f:Nat->Value}{ops:Array Oper}{i:Nat}{rest:List Nat}{dst:Option Tmp}{op:Op}{ty:TypeId}{pos:String}{dw:Array Edge}{dv:Option (Nat×Bool)}
theorem Jl(hG:Good P F)(ho:ops[i]?=some ⟨dst,op,ty,pos,dw,dv⟩)(hw:Region.wanted ⟨dst,op,ty,pos,dw,dv⟩ (yielded ops (TA n f))=true)(dx:bW P F ⟨dst,op,ty,pos,dw,dv⟩=true){t t':TypeId}{x y:Operand}{g off:Nat}{old c:Array Value}
  (dm:op=.store t x y) (hx:(⟨TA n f,[]⟩:Act).eval x=.pointer (some ⟨g,off,none⟩)) (hy:(⟨TA n f,[]⟩:Act).eval y=.agg c) (du:v.heap[g]?=some (.cells old t')) (hi:(P.info? t).map (·.size)=some c.size) (DU:off+c.size<=old.size) (h1:∀z∈c.toList,z.oneCell'=true)
  (hn:∀v',Wr v g (.cells (old.toList.take off++c.toList++old.toList.drop (off+c.size)).toArray t') v'->Reach P Stop (G ((base fn).at ⟨TA n (aG f dst undef),[]⟩ (.inRegion ops rest::k)) cs) S v') :
  Reach P Stop (G ((base fn).at ⟨TA n f,[]⟩ (.inRegion ops (i::rest)::k)) cs) S v:=by
 refine kE hG ho hw dx (x:=undef) (λu hu=>⟨_,lZ hu g (old.toList.take off++c.toList++old.toList.drop (off+c.size)).toArray,.inr ⟨?_,rfl⟩⟩) (hn _ (jP du));obtain⟨inf,q1,q2⟩:=Option.map_eq_some_iff.1 hi;have ei:=run_storeCells_at P g off t' c.toList 0 old u ((Ext.twin hu).row du) (by rw[Array.length_toList];omega) h1;rw[Array.length_toList,Nat.add_zero]at ei;generalize (Act.eval ⟨TA n f,[]⟩)=ρ at hx hy⊢;unfold execOp;simp[dm,hx,hy,Instr.storeAt,Instr.sureAddr,storeVar,sizeOf,typeInfo,q1,q2,Value.cells,ei]
end
end Go.Vw
namespace Go.Proofs.YtpiefebngnlfoaaGreatDoor
open Go.RowKit Go.Conc Go.Vw
structure Lb where
 id:Nat
 size:Nat
 turn:Nat
 val:Nat->Nat
structure Lb.Ok(l:Lb):Prop where
 id1:1<=l.id
 id2:l.id<=9999
 size:l.size<=400
 turn:l.turn<18446744073709551616
 val:∀i,l.val i<256
def Lb.blk(l:Lb)(k:Nat):Nat->Nat:=bB l.id l.size l.turn k ((l.size+9)/10) (bJ l.val l.size k)
structure SlotK(c:Nat->Nat->Nat->Nat)(p:Nat)(l:Lb)(G:Nat->Bool):Prop where
 ok:∀k,k<14->G k=true->l.Ok
 yes:∀k,k<14->G k=true->∀j,j<96->c k p j=l.blk k j
 no:∀k,k<14->G k=false->¬gX (c k p)
def aR(G:Nat->Bool)(n:Nat):Nat->Bool:=λj=>decide (j<n)&&G j
def iA(G:Nat->Bool)(n:Nat):Bool:=(List.range n).any G
theorem Es(G:Nat->Bool)(n:Nat):iA G (n+1)=(iA G n||G n):=by simp[iA,List.range_succ]
theorem Wx{G:Nat->Bool}{n:Nat}(h:G n=true):(λj=>if j=n then true else aR G n j)=aR G (n+1):=by
 funext j;unfold aR;by_cases e:j=n
 .subst e;simp[h]
 .have:(j<n+1)↔j<n:=by omega
  simp[e,this]
theorem Tg{G:Nat->Bool}{n:Nat}(h:G n=false):aR G (n+1)=aR G n:=by
 funext j;unfold aR;by_cases e:j=n
 .subst e;simp[h]
 .have:(j<n+1)↔j<n:=by omega
  simp[this]
theorem Th{G:Nat->Bool}{n:Nat}(h:iA G n=false):aR G n=λ_=>false:=by
 funext j;unfold aR;by_cases e:j<n
 .have:G j=false:=by
   have h2:¬(List.range n).any G=true:=by unfold iA at h;rw[h];exact Bool.false_ne_true
   cases hg:G j with
   |false=>rfl
   |true=>exact absurd (List.any_eq_true.2 ⟨j,List.mem_range.2 e,hg⟩) h2
  simp[this]
 .simp[e]
def gG(l:Lb)(G:Nat->Bool)(p n:Nat):Option Fd:=if iA G n=true then some ⟨l.id,l.size,l.turn,p,aR G n⟩ else none
theorem T1(l:Lb)(G:Nat->Bool)(p n:Nat):∃i z t q,qX (gG l G p n)=.agg (aL i z t q (aR G n)):=by
 unfold gG;by_cases h:iA G n=true
 .rw[ai h];exact⟨_,_,_,_,rfl⟩
 .rw[ah h,Th (by simpa using h)];exact⟨_,_,_,_,rfl⟩
theorem uZ{o:Oper}{a:Act}{x:Operand}{b id size turn k m c:Nat}{pa:Option Addr}{u:World}(dm:o.op=.load 120 x)(hx:a.eval x=.pointer (some ⟨b,0,none⟩))(hb:u.heap[b]?=some (.cells (bK id size turn k pa m c) 143)):(execOp a.eval o).run Tryz.prog u=.ok (.value (.agg (bG id size turn))) u:=by
 have h:=run_loadAt_mid (P:=Tryz.prog) u b 0 120 (bG id size turn).toList _ (λj z hy=>by
  have hj:j<3:=(List.getElem?_eq_some_iff.1 hy).1;rw[an,ab _ _ _ _ _ _ hb];match j,hj with
  |0,_=>exact hy
  |1,_=>exact hy
  |2,_=>exact hy) Tryz.underlying120 rfl (by kernel_rfl)
 unfold execOp;simp only[dm,hx,df,h,dc,dg]
section
variable {X D DB DA M:Nat}{RB RA:Nat->Nat}{nd nb turn:Nat}{s:Dsk}{L:List Ent}{w w' v:World}{S:Nat->Prop}
theorem Rb(t:TypeId)(e:Value)(p:Nat)(l:Lb)(G':Nat->Bool)(rv:v.cell? ⟨0,0,none⟩=some (.iface t e))(hp:p<nb)(jb:14<=nd)(gh:nd<=18)(eu:nb<=64)(hK:SlotK s.c p l G')(hX:StE X D DB DA M RB RA nd nb turn s L v):aJ Tryz.prog 53 #[.pointer (some ⟨X,0,none⟩),.int .i64 (p:Nat)] S v λx S' v'=>S'=S∧Ext v v'∧∃m,x=.map (some m)∧v.heap.size<=m∧v'.heap[m]?=some (dB (gG l G' p 14)):=by
 refine cX Tryz.func53 rfl Tryz.ntmps53 λStop cc cs ret f g0 g1=>?_
 repeat refine rN ?_
 refine Bd rfl rfl rfl λw1 eh nh=>?_;simp only[stO_some];repeat refine rN ?_
 have mg:v.heap.size<w1.heap.size:=(Array.getElem?_eq_some_iff.1 nh).1;generalize VF:v.heap.size=m at *
 refine bF (λd f' S' w=>∃k,d=14-k∧k<=14∧S'=S∧Ext v w∧w.heap[m]?=some (dB (gG l G' p k))∧f' 0=.pointer (some ⟨X,0,none⟩)∧f' 1=.int .i64 (p:Nat)∧f' 5=.map (some m)∧f' 11=.int .i64 (k:Nat)) 14 ⟨0,by omega,by omega,rfl,eh,nh,by simp[g0],by simp[g1],by simp,by simp⟩ ?_;clear g0 g1 f;rintro d f S' w ⟨k,rfl,hk,eS,fj,se,g0,g1,g5,g11⟩ dj;subst S';have jq:=hX.ext fj;have c0:=jq.c0;repeat refine rN ?_
 by_cases dp:k<14
 .have ll:(k:Int)<14:=by omega
  refine rX (by simp[Act.eval,g11,ll]) ?_;cases sj:G' k with
  |false=>
   have lq:=hK.no k dp sj;repeat refine rM c0 ?_
   refine rK Tryz.func71 (Qr t e k p (fj.cell rv) (by omega) hp gh eu jq.dk lq) ?_;rintro _ S1 w2 _ ⟨rfl,e1,ep⟩;subst S1;repeat refine rN ?_
   refine cD aB rfl rfl (by kernel_rfl) (.agg iH) rfl (by kernel_rfl) λw3 ef km ma=>?_;simp only[stO_some];refine cS aB rfl rfl (by kernel_rfl) (x:=.tmp 7) (y:=.tmp 22) (g:=w2.heap.size) (c:=iH) rfl (by simp) (by simp) km (by kernel_rfl) rfl (by kernel_rfl) λw4 jd=>?_;simp only[stO_none];have gn:Ext w w4:=ep.trans _ _ _ (bO ef (ae _) jd);repeat refine rN ?_
   refine rX (by simp[Act.eval]) ?_;refine bC rfl ?_;repeat refine rN ?_
   refine dj _ _ _ (14-(k+1)) (by omega) ⟨k+1,rfl,by omega,rfl,fj.trans _ _ _ gn,?_,by simp[g0],by simp[g1],by simp[g5],by simp⟩;have za:gG l G' p (k+1)=gG l G' p k:=by unfold gG;rw[Es,sj,Bool.or_false,Tg sj]
   rw[za];have ZB:m<w.heap.size:=(Array.getElem?_eq_some_iff.1 se).1;rw[gn.block m ZB];exact se
  |true=>
   have sg:=hK.ok k dp sj;have XC:=hK.yes k dp sj;have HG:=aP sj;clear sj;repeat refine rM c0 ?_
   refine rK Tryz.func71 (Gs l.id l.size l.turn k ((l.size+9)/10) k p (bJ l.val l.size k) sg.id2 sg.id1 sg.size dp sg.turn rfl (mR sg.val _ _) (by omega) hp gh eu jq.dk.old XC) ?_;rintro _ S1 w2 _ ⟨e1,ep,B,cp,rfl,yb,hB,I3,hC⟩;subst S1;generalize (l.size+9)/10=q at *
   repeat refine rN ?_
   refine cD aB rfl rfl (by kernel_rfl) (.agg iH) rfl (by kernel_rfl) λw3 ef km ma=>?_;simp only[stO_some];refine cS aB rfl rfl (by kernel_rfl) (x:=.tmp 7) (y:=.tmp 22) (g:=w2.heap.size) (c:=bK l.id l.size l.turn k (some ⟨B,0,none⟩) q cp) rfl (by simp) (by simp) km (by kernel_rfl) rfl (by simp[bK,Value.oneCell']) λw4 jd=>?_;simp only[stO_none];have gn:Ext w w4:=ep.trans _ _ _ (bO ef (ae _) jd);have OI:=jd.at_;have hgs:w.heap.size<=w2.heap.size:=ep.size;generalize AX:w2.heap.size=g at *
   have cn:w4.cell? ⟨g,3,none⟩=some (.int .i64 (k:Nat)):=(ab _ _ _ _ _ _ OI).trans rfl;have ZB:m<w.heap.size:=(Array.getElem?_eq_some_iff.1 se).1;have DF:w4.heap[m]?=some (dB (gG l G' p k)):=by rw[gn.block m ZB];exact se
   have za:∀d,gG l G' p k=some d->d.id=l.id∧d.size=l.size∧d.turn=l.turn:=λd hd=>by
    unfold gG at hd;split at hd
    .cases hd;exact⟨rfl,rfl,rfl⟩
    .cases hd
   repeat refine rM cn ?_
   refine rZ (by simp[Act.eval]) ?_;repeat refine rN ?_
   refine bV aB rfl rfl (by kernel_rfl) (λu hu=>uZ (x:=.tmp 33) (b:=g) rfl (by simp) ((Ext.twin hu).row OI)) ?_;simp only[stO_some];refine Lv rfl rfl rfl (x:=.tmp 32) (y:=.tmp 34) (m:=m) (by simp[g5]) (by simp) za DF ?_;simp only[stO_some];obtain⟨i0,z0,t0,q0,hfv⟩:=T1 l G' p k;rw[hfv];refine cD aB rfl rfl (by kernel_rfl) (.agg (aL 0 0 0 0 λ_=>false)) rfl (by kernel_rfl) λw5 lh FK CQ=>?_;simp only[stO_some];refine cS aB rfl rfl (by kernel_rfl) (x:=.tmp 9) (y:=.tmp 35) (g:=w4.heap.size) (c:=aL i0 z0 t0 q0 (aR G' k)) rfl (by simp) (by simp) FK (by kernel_rfl) rfl (by simp[aL,Value.oneCell']) λw6 ku=>?_;simp only[stO_none];have ew:Ext w4 w6:=bO lh (ae _) ku;have YI:=ew.row OI;have hk6:=ku.at_;have AY:g<w4.heap.size:=(Array.getElem?_eq_some_iff.1 OI).1;generalize sj:w4.heap.size=gk at *
   repeat refine rN ?_
   refine bV aB rfl rfl (by kernel_rfl) (λu hu=>uZ (x:=.tmp 37) (b:=g) rfl (by simp) ((Ext.twin hu).row YI)) ?_;simp only[stO_some];repeat refine rN ?_
   refine Jl aB rfl rfl (by kernel_rfl) (x:=.tmp 40) (y:=.tmp 38) (g:=gk) (off:=0) (c:=bG l.id l.size l.turn) rfl (by simp) (by simp) hk6 (by kernel_rfl) (by simp[bG,aL]) (by simp[bG,Value.oneCell']) λw7 nz=>?_;simp only[stO_none];have G7:w7.heap[gk]?=some (.cells (aL l.id l.size l.turn q0 (aR G' k)) 123):=nz.at_;repeat refine rN ?_
   refine dQ aB rfl rfl (by kernel_rfl) (x:=.tmp 41) (y:=.tmp 39) (g:=gk) (j:=3) (z:=.int .i64 (p:Nat)) rfl (by simp) (by simp[g1]) rfl rfl G7 (by simp[aL]) (by kernel_rfl) λw8 EG=>?_;simp only[stO_none];have G6:w8.heap[gk]?=some (.cells (aL l.id l.size l.turn p (aR G' k)) 123):=EG.at_;repeat refine rN ?_
   refine dQ aB rfl rfl (by kernel_rfl) (x:=.tmp 43) (y:=.const (.bool true)) (g:=gk) (j:=4+k) (z:=.bool true) rfl (by simp) (by simp) rfl rfl G6 (by simp[aL];omega) (by kernel_rfl) λw9 KA=>?_;simp only[stO_none];rw[Ec dp,Wx HG.out]at KA;have EN:Ext w4 w9:=bO (bO (bO ew (by omega) nz) (by omega) EG) (by omega) KA;have YH:=EN.row OI;have OK:w9.heap[m]?=some (dB (gG l G' p k)):=by rw[EN.block m (by have:=gn.size;omega)];exact DF
   repeat refine rN ?_
   refine bV aB rfl rfl (by kernel_rfl) (λu hu=>uZ (x:=.tmp 45) (b:=g) rfl (by simp) ((Ext.twin hu).row YH)) ?_;simp only[stO_some];refine bV aB rfl rfl (by kernel_rfl) (λu hu=>jN (x:=.tmp 9) (b:=gk) rfl (by simp) ((Ext.twin hu).row KA.at_)) ?_;simp only[stO_some];refine Nx rfl rfl rfl (x:=.tmp 44) (y:=.tmp 46) (z:=.tmp 47) (m:=m) (slot:=p) (good:=aR G' (k+1)) (by simp[g5]) (by simp) (by simp) za OK λA7 TL=>?_;simp only[stO_none];repeat refine rN ?_
   refine dj _ _ _ (14-(k+1)) (by omega) ⟨k+1,rfl,by omega,rfl,bO (fj.trans _ _ _ (gn.trans _ _ _ EN)) (by omega) TL,?_,by simp[g0],by simp[g1],by simp[g5],by simp⟩;rw[TL.at_];unfold gG;rw[Es,HG.out,Bool.or_true,ai rfl]
 .obtain rfl:k=14:=by omega
  refine rZ (by simp[Act.eval,g11]) ?_;refine bC rfl ?_;repeat refine rN ?_
  refine aM λtodo=>?_;refine ret _ _ S w (.map (some m)) ?_ ⟨rfl,fj,m,rfl,ae _,se⟩;simp[results,Tryz.results53,g5]
end
theorem qE{n:Nat} : ∀{x:Nat->Nat}{N:Nat},(∀i,i<n->x i=bX N i)->bY x n=N%256^n:=by
 induction n with
 |zero=>intro x N h;simp[bY,Nat.mod_one]
 |succ n ih=>
  intro x N h;unfold bY;have h0:=h 0 (by omega);have h1:bY (λi=>x (i+1)) n=(N/256)%256^n:=ih λi hi=>by rw[h (i+1) (by omega)];unfold bX;rw[Nat.pow_succ,Nat.mul_comm (256^i) 256,<-Nat.div_div_eq_div_mul]
  rw[h0,h1];unfold bX;rw[Nat.pow_zero,Nat.div_one,Nat.pow_succ,Nat.mul_comm (256^n) 256,Nat.mod_mul]
theorem Lb.Ok.sealed{l:Lb}(h:l.Ok){k:Nat}(hk:k<14){x:Nat->Nat}(hx:∀j,j<96->x j=l.blk k j):gX x:=by
 have e1:bY x 2=l.id:=by rw[qE (N:=l.id) λi hi=>by rw[hx i (by omega)];exact Fg hi];exact Nat.mod_eq_of_lt (by have:=h.id2;omega)
 have e2:bY (λi=>x (2+i)) 2=l.size:=by rw[qE (N:=l.size) λi hi=>by rw[hx (2+i) (by omega)];exact Ca hi];exact Nat.mod_eq_of_lt (by have:=h.size;omega)
 have e3:bY (λi=>x (4+i)) 1=k:=by rw[qE (N:=k) λi hi=>by rw[hx (4+i) (by omega)];exact Dn hi];exact Nat.mod_eq_of_lt (by omega)
 have e4:bY (λi=>x (5+i)) 8=l.turn:=by rw[qE (N:=l.turn) λi hi=>by rw[hx (5+i) (by omega)];exact Bz hi];exact Nat.mod_eq_of_lt (by have:=h.turn;omega)
 unfold gX;rw[e1,e2,e3,e4];refine⟨h.id1,h.id2,h.size,hk,λj hj=>?_⟩;rw[hx j hj];have hm:(l.size+9)/10<=79:=by have:=h.size;omega
 have hb:∀i,eQ l.id l.size l.turn k ((l.size+9)/10) (λi=>x (13+i)) i=eQ l.id l.size l.turn k ((l.size+9)/10) (bJ l.val l.size k) i:=λi=>by
  unfold eQ;by_cases hi:13<=i∧i<13+(l.size+9)/10
  .rw[ai hi,ai hi];show x (13+(i-13))=_;rw[hx (13+(i-13)) (by omega)];exact Az hm (by omega)
  .rw[ah hi,ah hi]
 have ic:eQ l.id l.size l.turn k ((l.size+9)/10) (λi=>x (13+i))=eQ l.id l.size l.turn k ((l.size+9)/10) (bJ l.val l.size k):=funext hb;unfold Lb.blk bB;rw[ic]
theorem SlotK.eq{c:Nat->Nat->Nat->Nat}{p:Nat}{l:Lb}{G:Nat->Bool}(h:SlotK c p l G)(hl:l.Ok){k:Nat}(hk:k<14):dI (c k p) (l.blk k) 0 96=G k:=by
 cases hg:G k with
 |true=>exact(lG _ _ 96 0).2 λj _ hj=>h.yes k hk hg j (by omega)
 |false=>
  cases hq:dI (c k p) (l.blk k) 0 96 with
  |false=>rfl
  |true=>exact absurd (hl.sealed hk λj hj=>(lG _ _ 96 0).1 hq j (by omega) (by omega)) (h.no k hk hg)
theorem Oi{id size turn slot k:Nat}{g:Nat->Bool}(hk:k<14):(aL id size turn slot g).setIfInBounds (4+k) (.bool (g k))=aL id size turn slot g:=by rcases(by omega:k=0∨k=1∨k=2∨k=3∨k=4∨k=5∨k=6∨k=7∨k=8∨k=9∨k=10∨k=11∨k=12∨k=13) with rfl|rfl|rfl|rfl|rfl|rfl|rfl|rfl|rfl|rfl|rfl|rfl|rfl|rfl<;>rfl
def Ik(X D bx BP k p id size turn m:Nat)(g:Nat->Bool)(blk:Nat->Nat)(j:Nat)(x:Value)(w:World):Prop:=
 match j with
 |0=>x=.int .i64 (k:Nat)
 |1=>x=.pointer (some ⟨X,0,none⟩)
 |2=>x=.pointer (some ⟨X,0,none⟩)
 |3=>x=.pointer (some ⟨X,0,none⟩)
 |4=>x=.pointer (some ⟨D,0,none⟩)
 |5=>x=.int .i64 (k:Nat)
 |6=>x=.pointer (some ⟨bx,3,none⟩)
 |7=>x=.int .i64 (p:Nat)
 |8=>x=.agg (aL id size turn p g)
 |9=>x=.int .i64 (k:Nat)
 |10=>x=sl BP m
 |11=>x=.agg (aE 96 blk)
 |12=>x=.bool (g k)
 |13=>x=.pointer (some ⟨bx,4,none⟩)
 |14=>x=.pointer (some ⟨bx,4+k,none⟩)
 |_=>True
section
variable {X D DB DA M:Nat}{RB RA:Nat->Nat}{nd nb turn:Nat}{s:Dsk}{L:List Ent}{w w' v:World}{S:Nat->Prop}
theorem Tb{f:Nat->Value}{Stop:Goroutine->(Nat->Prop)->World->Prop}{cs:List Frame}{k0:List Item}(l:Lb)(g:Nat->Bool)(hl:l.Ok)(bx BP k p:Nat)(hk:k<14)(hp:p<nb)(jb:14<=nd)(gh:nd<=18)(eu:nb<=64)(hX:StE X D DB DA M RB RA nd nb turn s L w)(heq:dI (s.c k p) (l.blk k) 0 96=g k)
  (vb:w.heap[bx]?=some (.cells (aL l.id l.size l.turn p g) 123)) (p8:w.heap[BP]?=some (.cells (aE ((l.size+9)/10) (bJ l.val l.size k)) 5)) (g0:f 0=.pointer (some ⟨X,0,none⟩)) (g3:f 3=.pointer (some ⟨bx,0,none⟩)) (g7:f 7=.int .i64 (k:Nat)) (g8:f 8=sl BP ((l.size+9)/10))
  (next:∀w' f',Ext w w'->(∀s,s<23->f' s=f s)->Vw.Reach Tryz.prog Stop (G ((base 55).at ⟨TA 40 f',[]⟩ (.inRegion ((bM 5 (Tryz.f55.body.getD .skip)).getD #[]) []::k0)) cs) S w') :
  Vw.Reach Tryz.prog Stop (G ((base 55).at ⟨TA 40 f,[]⟩ (.code (.region 5 ((bM 5 (Tryz.f55.body.getD .skip)).getD #[]) true)::k0)) cs) S w:=by
 have e0:bM 5 (Tryz.f55.body.getD .skip)=some _:=rfl;rw[e0]at next⊢
 simp only[ao]at next⊢
 clear e0;have sf:(l.size+9)/10<=79:=by have:=hl.size;omega
 have ll:(k:Int)<14:=by omega
 have hblk:bB l.id l.size l.turn k ((l.size+9)/10) (bJ l.val l.size k)=l.blk k:=rfl;obtain⟨m,hm⟩:∃m,m=(l.size+9)/10:=⟨_,rfl⟩;rw[<-hm]at sf p8 g8 hblk;have HM:=aP hm;clear hm;refine iY (by kernel_rfl) (by kernel_rfl) (by kernel_rfl) 15 [0,1,2,3,4,5,6,7,8,9,10,11,12,13,14] (by kernel_rfl) (Ik X D bx BP k p l.id l.size l.turn m g (l.blk k)) (λS' w'=>S'=S∧Ext w w') (λS' f w'=>S'=S∧Ext w w') (λS' w w' h hE=>⟨h.1,h.2.trans _ _ _ hE⟩) (λS' i f x w w' hi hA jh h hE=>⟨h.1,h.2.trans _ _ _ hE⟩) (λj x w w' h hE=>h) ?_ ⟨rfl,.refl _⟩ ?_ ?_ ?_
 .intro j hj he x w h;have jo:j<16:=hj;rcases(by omega:j=0∨j=1∨j=2∨j=3∨j=4∨j=5∨j=6∨j=7∨j=8∨j=9∨j=10∨j=11∨j=12∨j=13∨j=14∨j=15) with rfl|rfl|rfl|rfl|rfl|rfl|rfl|rfl|rfl|rfl|rfl|rfl|rfl|rfl|rfl|rfl<;>first|exact trivial|cases he
 .intro i f' S1 w5 rest hi dy hB hf hd dj;have BI:f' 0=.pointer (some ⟨X,0,none⟩):=(hf 0 (aV (by kernel_rfl))).trans g0;have OY:f' 3=.pointer (some ⟨bx,0,none⟩):=(hf 3 (aV (by kernel_rfl))).trans g3;have g7':f' 7=.int .i64 (k:Nat):=(hf 7 (aV (by kernel_rfl))).trans g7;have L6:f' 8=sl BP m:=(hf 8 (aV (by kernel_rfl))).trans g8;have ft:i<16:=hi
  obtain⟨eS,hE⟩:=hB (by
   simp
   omega)
  subst S1;have jq:=hX.ext hE;clear hf hB;rcases(by omega:i=0∨i=1∨i=2∨i=3∨i=4∨i=5∨i=6∨i=7∨i=8∨i=9∨i=10∨i=11∨i=12∨i=13∨i=14∨i=15) with rfl|rfl|rfl|rfl|rfl|rfl|rfl|rfl|rfl|rfl|rfl|rfl|rfl|rfl|rfl|rfl
  .clear hd;refine rY aB ?_;exact dj _ w5 (.refl w5) rfl
  .clear hd;refine rY aB ?_;exact dj _ w5 (.refl w5) rfl
  .have d0:f' 24=.pointer (some ⟨X,0,none⟩):=hd 1 (aD (by kernel_rfl));clear hd;refine rY aB ?_;exact dj _ w5 (.refl w5) rfl
  .have d0:f' 25=.pointer (some ⟨X,0,none⟩):=hd 2 (aD (by kernel_rfl));clear hd;refine rY aB ?_;exact dj _ w5 (.refl w5) rfl
  .have d0:f' 26=.pointer (some ⟨X,0,none⟩):=hd 3 (aD (by kernel_rfl));have c0:=jq.c0;clear hd;(refine rO aB rfl ?_;intro _ dt K_ dr;(have hc:=(Ext.twin dt).cell c0);go_simp;(try rw[wI _]);(try rw[wU _]);refine dr _ ?_;clear dr K_ dt;simp only[sS,sN]);exact dj _ w5 (.refl w5) rfl
  .clear hd;refine rY aB ?_;exact dj _ w5 (.refl w5) rfl
  .clear hd;refine rY aB ?_;exact dj _ w5 (.refl w5) rfl
  .have d0:f' 29=.pointer (some ⟨bx,3,none⟩):=hd 6 (aD (by kernel_rfl));have c0:w5.cell? ⟨bx,3,none⟩=some (.int .i64 (p:Nat)):=(ab _ _ _ _ _ _ (hE.row vb)).trans rfl;clear hd;(refine rO aB rfl ?_;intro _ dt K_ dr;(have hc:=(Ext.twin dt).cell c0);go_simp;(try rw[wI _]);(try rw[wU _]);refine dr _ ?_;clear dr K_ dt;simp only[sS,sN]);exact dj _ w5 (.refl w5) rfl
  .clear hd;refine bV aB rfl rfl (by kernel_rfl) (λu hu=>jN (x:=.tmp 3) (b:=bx) rfl (by simp[OY]) ((Ext.twin hu).row (hE.row vb))) ?_;exact dj _ w5 (.refl w5) rfl
  .clear hd;refine rY aB ?_;exact dj _ w5 (.refl w5) rfl
  .clear hd;refine rY aB ?_;exact dj _ w5 (.refl w5) rfl
  .have d0:f' 31=.agg (aL l.id l.size l.turn p g):=hd 8 (aD (by kernel_rfl));have d1:f' 32=.int .i64 (k:Nat):=hd 9 (aD (by kernel_rfl));have d2:f' 33=sl BP m:=hd 10 (aD (by kernel_rfl));unfold sl at d2;clear hd;refine dV Tryz.func73 (Gn l.id l.size l.turn p k m m BP 0 g (bJ l.val l.size k) hl.id2 hl.size hk hl.turn sf (mR hl.val _ _) (λi hi=>by rw[an,ab _ _ _ _ _ _ (hE.row p8),eE _ _ _ hi])) ?_;rintro _ S1 w6 _ ⟨rfl,e1,ew⟩;subst S1;rw[hblk];exact dj _ w6 ew rfl
  .have d0:f' 27=.pointer (some ⟨D,0,none⟩):=hd 4 (aD (by kernel_rfl));have d1:f' 28=.int .i64 (k:Nat):=hd 5 (aD (by kernel_rfl));have d2:f' 30=.int .i64 (p:Nat):=hd 7 (aD (by kernel_rfl));have d3:f' 34=.agg (aE 96 (l.blk k)):=hd 11 (aD (by kernel_rfl));clear hd;refine dV Tryz.func72 (yA k p (l.blk k) (by omega) hp gh eu jq.dk.old) ?_;rintro _ S1 w6 _ ⟨rfl,e1,ew⟩;subst S1;rw[heq];exact dj _ w6 ew rfl
  .clear hd;refine rY aB ?_;exact dj _ w5 (.refl w5) rfl
  .have d0:f' 36=.pointer (some ⟨bx,4,none⟩):=hd 13 (aD (by kernel_rfl));have d1:f' 23=.int .i64 (k:Nat):=hd 0 (aD (by kernel_rfl));clear hd;refine rY aB ?_;exact dj _ w5 (.refl w5) (by simp[Ik])
  .exact absurd rfl dy
 .rintro f' S1 w5 rest ⟨eS,hB⟩ hf hd dj;subst S1;have d0:f' 37=.pointer (some ⟨bx,4+k,none⟩):=hd 14 (by simp);have d1:f' 35=.bool (g k):=hd 12 (by simp);clear hd hf;refine dQ aB rfl rfl (by kernel_rfl) (x:=.tmp 37) (y:=.tmp 35) (g:=bx) (j:=4+k) (z:=.bool (g k)) rfl (by simp[d0]) (by simp[d1]) rfl rfl (hB.row vb) (by simp[aL];omega) (by kernel_rfl) λw6 hW=>?_
  rw[Oi hk]at hW;exact dj undef S w6 ⟨rfl,hB.trans _ _ _ (Wq hW (hB.row vb))⟩ trivial λj x' hj h=>h
 .rintro f' S1 w5 ⟨eS,hE⟩ hf hd;subst S1;exact next w5 f' hE λs hs=>hf s (tP (by kernel_rfl) hs)
end
section
variable {X D DB DA M:Nat}{RB RA:Nat->Nat}{nd nb turn:Nat}{s:Dsk}{L:List Ent}{w w' v:World}{S:Nat->Prop}
def Lb.ent(l:Lb)(p:Nat)(g:Nat->Bool):Ent:=⟨l.id,l.size,l.turn,p,l.val,g,0⟩
theorem SlotK.entOk{p:Nat}{l:Lb}{G:Nat->Bool}{c:Nat->Nat->Nat->Nat}(h:SlotK c p l G)(hl:l.Ok)(hp:p<nb)(oa:10<=aT (aR G 14) 14):EntOk nb l.turn c (l.ent p (aR G 14)):=
 ⟨hl.id1,hl.id2,hl.size,ae _,hp,hl.val,oa,λk hk hg j hj=>by
  have:G k=true:=by have ks:(decide (k<14)&&G k)=true:=hg;simp[hk]at ks;exact ks
  exact h.yes k hk this j hj⟩
theorem Q0{G:Nat->Bool}{k:Nat}(hk:k<14):aR G 14 k=G k:=by simp[aR,hk]
theorem Pc(p:Nat)(l:Lb)(G':Nat->Bool)(hl:l.Ok)(oa:10<=aT (aR G' 14) 14)(hp:p<nb)(jb:14<=nd)(gh:nd<=18)(eu:nb<=64)(hg:Tryz.prog.globals.size<=v.heap.size)(hK:SlotK s.c p l G')(hX:StE X D DB DA M RB RA nd nb turn s L v):aJ Tryz.prog 55 #[.pointer (some ⟨X,0,none⟩),.agg (aL l.id l.size l.turn p (aR G' 14))] S v λx S' v'=>Kp v (λ_=>False) v'∧x=.agg (aL l.id l.size l.turn p (aR G' 14)):=by
 refine pM Tryz.func55 rfl Tryz.ntmps55 (by simp) λStop cc cs ret=>?_;have dx:=hK.entOk hl hp oa;obtain⟨g,AX⟩:∃g,g=aR G' 14:=⟨_,rfl⟩;have heq:∀k,k<14->dI (s.c k p) (l.blk k) 0 96=g k:=λk hk=>by rw[hK.eq hl hk,AX,Q0 hk]
 rw[<-AX]at ret dx oa⊢;clear AX hK;have g0:eG #[.pointer (some ⟨X,0,none⟩),.agg (aL l.id l.size l.turn p g)] 0=.pointer (some ⟨X,0,none⟩):=rfl;have g1:eG #[.pointer (some ⟨X,0,none⟩),.agg (aL l.id l.size l.turn p g)] 1=.agg (aL l.id l.size l.turn p g):=rfl;generalize eG #[.pointer (some ⟨X,0,none⟩),.agg (aL l.id l.size l.turn p g)]=f at g0 g1;repeat refine rN ?_
 refine aN (Q:=λy w=>y=.pointer (some ⟨v.heap.size,0,none⟩)∧Ext v w∧w.heap[v.heap.size]?=some (.cells (aL l.id l.size l.turn p g) 123)∧w.heap.size=v.heap.size+1) aB rfl rfl (by kernel_rfl) (λu hu=>⟨_,_,.inl (gR (x:=.tmp 1) (y:=.agg (aL l.id l.size l.turn p g)) rfl (by simp[g1]) u),by rw[hu.heap],(Ext.twin hu).trans _ _ _ (Ext.alloc _ _),by rw[<-hu.heap];exact bI _ _,by rw[jO,hu.heap]⟩) ?_;rintro _ w1 ⟨rfl,eh,fg,jg⟩;simp only[stO_some];refine cD aB rfl rfl (by kernel_rfl) (.agg (aL 0 0 0 0 λ_=>false)) rfl (by kernel_rfl) λw2 ep ko pj=>?_;simp only[stO_some];have yd:=ep.row fg;have mi:=eh.trans _ _ _ ep;have yh:=hX.ext mi;generalize vb:v.heap.size=bx at *
 generalize E9:w1.heap.size=rx at *
 repeat refine rN ?_
 refine bV aB rfl rfl (by kernel_rfl) (λu hu=>jN (x:=.tmp 3) (b:=bx) rfl (by simp) ((Ext.twin hu).row yd)) ?_;simp only[stO_some];refine rK Tryz.func64 (vC (l.ent p g) dx hl.turn jb gh eu yh) ?_;rintro _ S1 w3 _ ⟨e1,ef,BL,PB,CP,rfl,du,OG⟩;subst S1;have FD:Tryz.prog.globals.size<=w3.heap.size:=by have:=ef.size;have:=mi.size;omega
 repeat refine rN ?_
 refine rK Tryz.func68 (yP (l.ent p g) BL PB CP hl.size hl.val oa FD ⟨du,OG⟩) ?_;rintro _ S1 w4 _ ⟨BA,PA,rfl,hP⟩;have sf:((l.ent p g).size+9)/10=(l.size+9)/10:=rfl;have xd:Kp v (λ_=>False) w4:=((Kp.refl v _).ext (mi.trans _ _ _ ef)).trans hP.kp;have pq:=(yh.ext ef).kp hP.kp;have kl:=hP.kp.cells _ _ _ _ (λx=>x) (ef.row yd);have JC:=hP.kp.cells _ _ _ _ (λx=>x) (ef.row ko);have FJ:w4.heap[BA]?=some (.cells (allA λk=>sl (PA k) ((l.size+9)/10)) 43):=hP.ba;have RD:∀k,k<14->w4.heap[PA k]?=some (.cells (aE ((l.size+9)/10) (bJ l.val l.size k)) 5):=hP.pb;clear du OG;unfold sl at FJ;repeat refine rN ?_
 refine bF (λd f' S' w=>∃k,d=14-k∧k<=14∧S'=S1∧Ext w4 w∧f' 0=.pointer (some ⟨X,0,none⟩)∧f' 3=.pointer (some ⟨bx,0,none⟩)∧f' 4=.pointer (some ⟨rx,0,none⟩)∧f' 16=sl BA 14∧f' 17=.int .i64 14∧f' 18=.int .i64 (k:Nat)) 14 ⟨0,by omega,by omega,rfl,.refl _,by simp[g0],by simp,by simp,by simp,by simp[sl],by simp⟩ ?_;clear g0 g1 f;rintro d f S' w ⟨k,rfl,hk,eS,fj,g0,g3,g4,g16,g17,g18⟩ dj;subst S';have jq:=pq.ext fj;unfold sl at g16;repeat refine rN ?_
 by_cases dp:k<14
 .have ll:(k:Int)<14:=by omega
  have ck:w.cell? ⟨BA,k,none⟩=some (.slice (some ⟨PA k,0,none⟩) ((l.size+9)/10) ((l.size+9)/10)):=by rw[ab _ _ _ _ _ _ (fj.row FJ),jC _ _ dp]
  refine rX (by simp[Act.eval,ll,g18,g17]) ?_;repeat refine rM ck ?_
  refine Tb l g hl bx (PA k) k p dp hp jb gh eu jq (heq k dp) (fj.row kl) (fj.row (RD k dp)) (by simp[g0]) (by simp[g3]) (by simp) (by simp[sl]) λw5 f5 lh OO=>?_;have k0:f5 0=.pointer (some ⟨X,0,none⟩):=(OO 0 (by omega)).trans (by simp[g0]);have k3:f5 3=.pointer (some ⟨bx,0,none⟩):=(OO 3 (by omega)).trans (by simp[g3]);have k4:f5 4=.pointer (some ⟨rx,0,none⟩):=(OO 4 (by omega)).trans (by simp[g4]);have WW:f5 16=.slice (some ⟨BA,0,none⟩) 14 14:=(OO 16 (by omega)).trans (by simp[g16]);have V5:f5 17=.int .i64 14:=(OO 17 (by omega)).trans (by simp[g17]);have k18:f5 18=.int .i64 (k:Nat):=(OO 18 (by omega)).trans (by simp[g18]);repeat refine rN ?_
  refine dj _ _ _ (14-(k+1)) (by omega) ⟨k+1,rfl,by omega,rfl,fj.trans _ _ _ lh,by simp[k0],by simp[k3],by simp[k4],by simp[WW,sl],by simp[V5],by simp⟩
 .obtain rfl:k=14:=by omega
  refine rZ (by simp[Act.eval,g18,g17]) ?_;refine bC rfl ?_;repeat refine rN ?_
  refine bV aB rfl rfl (by kernel_rfl) (λu hu=>jN (x:=.tmp 3) (b:=bx) rfl (by simp[g3]) ((Ext.twin hu).row (fj.row kl))) ?_;simp only[stO_some];refine cS aB rfl rfl (by kernel_rfl) (x:=.tmp 4) (y:=.tmp 39) (g:=rx) (c:=aL l.id l.size l.turn p g) rfl (by simp[g4]) (by simp) (fj.row JC) (by kernel_rfl) rfl (by simp[aL,Value.oneCell']) λw5 jc=>?_;simp only[stO_none];repeat refine rN ?_
  refine aM λtodo=>?_;refine ret _ _ S1 w5 (.agg (aL l.id l.size l.turn p g)) ?_ ⟨(xd.ext fj).wr (.inr (by omega)) jc,rfl⟩;have GQ:=run_loadVar_row (P:=Tryz.prog) w5 rx 123 123 (aL l.id l.size l.turn p g) (0,0) _ jc.at_ Tryz.underlying123 rfl (by kernel_rfl);simp[results,Tryz.results55,asAddr,GQ,g4]
end
end Go.Proofs.YtpiefebngnlfoaaGreatDoor
namespace Go.Vw
open Go.Conc
section
variable {P:Program}{Stop:Goroutine->(Nat->Prop)->World->Prop}{S:Nat->Prop}{v:World}{fn:FuncId}{cs:List Frame}{k:List Item}{n:Nat}{ops:Array Oper}
def Hp(ops:Array Oper)(z:Nat):Bool:=(List.range ops.size).all λj=>decide (j=z)||(bQ ops z).contains j
theorem Tf{z:Nat}(h:Hp ops z=true){j:Nat}(hj:j<ops.size)(dy:j≠z):j∈bQ ops z:=by
 have:=List.all_eq_true.1 h j (List.mem_range.2 hj);simp only[Bool.or_eq_true,decide_eq_true_eq,List.contains_iff_mem]at this;rcases this with h1|h1
 .exact absurd h1 dy
 .exact h1
theorem Kl(hm:P.follows .mixedOrders=true)(ht:jH ops=true)(ha:mT ops=true){id:Nat}{f0:Nat->Value}(m z:Nat)(W3:z≠m)(W4:Hp ops z=true)(A:List Nat)(hzA:z ∉ A)(Fin:(Nat->Value)->(Nat->Prop)->World->Prop)(hA:iS ops m A=true)
  (spec:Nat->Value->World->Prop) (B0:(Nat->Prop)->World->Prop) (B1:(Nat->Prop)->(Nat->Value)->World->Prop) (IF:∀S w w',B0 S w->Ext w w'->B0 S w') (IE:∀S i f x w w',i<ops.size->i ∉ A->i≠m->i≠z->B1 S f w->Ext w w'->B1 S (aG f (aF ops i) x) w') (ei:∀j x w w',spec j x w->Ext w w'->spec j x w') (mf:∀j,j<ops.size->aF ops j=none->∀x w,spec j x w->spec j undef w) (h0:B0 S v)
  (step:∀i f S w rest,i<ops.size->i≠m->i≠z->(i∈A->B0 S w)->(B0 S w∨B1 S f w)->(∀s,(∀j,j<ops.size->aF ops j=some s->j=i∨i∈bQ ops j)->f s=f0 s)->(∀a,a∈bQ ops i->spec a (aU ops f a) w)->(∀x w',Ext w w'->spec i x w'->Reach P Stop (G ((base fn).at ⟨TA n (aG f (aF ops i) x),[]⟩ (.inRegion ops rest::k)) cs) S w')->Reach P Stop (G ((base fn).at ⟨TA n f,[]⟩ (.inRegion ops (i::rest)::k)) cs) S w)
  (piv:∀f S w rest,B0 S w->(∀s,(∀j,j<ops.size->aF ops j=some s->j=m∨m∈bQ ops j)->f s=f0 s)->(∀a,a∈A->spec a (aU ops f a) w)->(∀x S' w',B1 S' (aG f (aF ops m) x) w'->spec m x w'->(∀j y,j≠m->spec j y w->spec j y w')->Reach P Stop (G ((base fn).at ⟨TA n (aG f (aF ops m) x),[]⟩ (.inRegion ops rest::k)) cs) S' w')->Reach P Stop (G ((base fn).at ⟨TA n f,[]⟩ (.inRegion ops (m::rest)::k)) cs) S w)
  (last:∀f S w rest,B1 S f w->(∀s,(∀j,j<ops.size->aF ops j≠some s)->f s=f0 s)->(∀j,j<ops.size->j≠z->spec j (aU ops f j) w)->(∀x S' w',Fin (aG f (aF ops z) x) S' w'->Reach P Stop (G ((base fn).at ⟨TA n (aG f (aF ops z) x),[]⟩ (.inRegion ops rest::k)) cs) S' w')->Reach P Stop (G ((base fn).at ⟨TA n f,[]⟩ (.inRegion ops (z::rest)::k)) cs) S w)
  (fin:∀f S w,Fin f S w->Reach P Stop (G ((base fn).at ⟨TA n f,[]⟩ (.inRegion ops []::k)) cs) S w) (mg:m<ops.size:=by decide) (CH:z<ops.size:=by decide) :
  Reach P Stop (G ((base fn).at ⟨TA n f0,[]⟩ (.code (.region id ops true)::k)) cs) S v:=by
 refine pJ hm ht (λl f S w=>(l.getD z false=false->(∀s,(∀j,j<ops.size->l.getD j false=true->aF ops j≠some s)->f s=f0 s)∧(∀j,j<ops.size->l.getD j false=true->spec j (aU ops f j) w)∧(∀i,l.getD i false=true->∀a∈bQ ops i,l.getD a false=true)∧(l.getD m false=false->B0 S w)∧(l.getD m false=true->B1 S f w∧∀a∈A,l.getD a false=true))∧(l.getD z false=true->Fin f S w∧∀j,j<ops.size->j≠z->l.getD j false=true)) ⟨λ_=>⟨λ_ _=>rfl,λj hj h=>?_,λi h=>?_,λ_=>h0,λh=>?_⟩,λh=>?_⟩ ?_ ?_
 .simp[aa,hj]at h
 .exfalso;by_cases hi:i<ops.size
  .simp[aa,hi]at h
  .simp[aa,hi]at h
 .simp[aa,mg]at h
 .exfalso;simp[aa,CH]at h
 .rintro l f S w i rest hl ⟨hJ,hZ⟩ hi dj;obtain⟨h1,o,ho,_⟩:=mem_ready.1 hi;have dp:i<ops.size:=(Array.getElem?_eq_some_iff.1 ho).1;have fp:=kD hi;have ik:l.getD i false=false:=by
   have:l.getD i true=false:=by simpa using h1
   simpa [aa,hl,dp] using this
  have D5:l.getD z false=false:=by
   cases hz:l.getD z false with
   |false=>rfl
   |true=>
    exfalso;by_cases e:i=z
    .rw[e,hz]at ik;cases ik
    .rw[(hZ hz).2 i dp e]at ik;cases ik
  obtain⟨hf,hd,hc,gx,fg⟩:=hJ D5;have oo:∀a,l.getD a false=true->a<ops.size:=λa h2=>by
   refine Nat.lt_of_not_le λh3=>?_
   rw[<-hl]at h3;simp[aa,af h3]at h2
  have fx:∀j,l.getD j false=true->(l.setIfInBounds i true).getD j false=true:=λj hj=>by
   by_cases e:i=j
   .subst e;have ri:i<l.size:=by omega
    simp[aa,aj,ri]
   .simpa [aa,aj,e] using hj
  have jf:(l.setIfInBounds i true).getD i false=true:=by
   have ri:i<l.size:=by omega
   simp[aa,aj,ri]
  have jk:∀x s,(∀j,j<ops.size->(l.setIfInBounds i true).getD j false=true->aF ops j≠some s)->aG f (aF ops i) x s=f0 s:=λx s im=>by
   rw[<-hf s λj hj h2=>im j hj (fx j h2)]
   have:=im i dp jf;cases om:aF ops i with
   |none=>rfl
   |some t=>
    rw[om]at this;have:s≠t:=λe=>this (by rw[e])
    simp[aG,st,this]
  have DV:∀s,(∀j,j<ops.size->aF ops j=some s->j=i∨i∈bQ ops j)->f s=f0 s:=λs im=>hf s λj hj h2 h3=>by
   rcases im j hj h3 with rfl|h4
   .rw[ik]at h2;cases h2
   .have:=hc j h2 i h4;rw[ik]at this;cases this
  have fh:∀x w',spec i x w'->(∀j,j<ops.size->j≠i->l.getD j false=true->spec j (aU ops f j) w')->∀j,j<ops.size->(l.setIfInBounds i true).getD j false=true->spec j (aU ops (aG f (aF ops i) x) j) w':=λx w' hs ey j hj jo=>by
   by_cases e:j=i
   .subst e;have:aU ops (aG f (aF ops j) x) j=if (aF ops j).isSome then x else undef:=by
     unfold aU;cases om:aF ops j<;>simp[aG,st]
    rw[this];cases om:aF ops j with
    |some t=>simpa using hs
    |none=>simp only[Option.isSome_none,ay,if_false];exact mf j hj om x w' hs
   .have h2:=(eU jo).resolve_left e;have:aU ops (aG f (aF ops i) x) j=aU ops f j:=by
     unfold aU;cases DX:aF ops j with
     |none=>rfl
     |some t=>
      cases DY:aF ops i with
      |none=>rfl
      |some t'=>
       have dy:t≠t':=λe'=>nT ha hj dp e DX (by rw[DY,e'])
       simp[aG,st,dy]
    rw[this];exact ey j hj e h2
  have ek:∀i',(l.setIfInBounds i true).getD i' false=true->∀a∈bQ ops i',(l.setIfInBounds i true).getD a false=true:=λi' h2 a h3=>by
   rcases eU h2 with rfl|h2
   .exact fx a (fp a h3)
   .exact fx a (hc i' h2 a h3)
  by_cases ez:i=z
  .subst ez;have fa:∀j,j<ops.size->j≠i->l.getD j false=true:=λj hj dy=>fp j (Tf W4 hj dy)
   refine last f S w rest (fg (fa m mg (λe=>W3 e.symm))).1 (λs im=>hf s λj hj _=>im j hj) (λj hj dy=>hd j hj (fa j hj dy)) λx S' w' hF=>dj _ _ _ ⟨λh2=>?_,λ_=>⟨hF,λj hj dy=>fx j (fa j hj dy)⟩⟩
   rw[jf]at h2;cases h2
  have D3:(l.setIfInBounds i true).getD z false=true->False:=λh2=>by
   rcases eU h2 with h3|h3
   .exact ez h3.symm
   .rw[D5]at h3;cases h3
  by_cases e:i=m
  .subst e;have ry:∀a∈A,l.getD a false=true:=λa h2=>jS hA hc fp _ a (ae _) h2
   refine piv f S w rest (gx ik) DV (λa h2=>hd a (oo a (ry a h2)) (ry a h2)) λx S' w' hB hs ey=>dj _ _ _ ⟨λ_=>⟨jk x,fh x w' hs λj hj dy h2=>ey j _ dy (hd j hj h2),ek,λh2=>?_,λ_=>⟨hB,λa h2=>fx a (ry a h2)⟩⟩,λh2=>(D3 h2).elim⟩
   rw[jf]at h2;cases h2
  .have IG:i∈A->B0 S w:=λh2=>gx (by
    cases hb:l.getD m false with
    |false=>rfl
    |true=>
     have:=(fg hb).2 i h2;rw[ik]at this
     cases this)
   have NL:B0 S w∨B1 S f w:=by
    cases hb:l.getD m false with
    |false=>exact .inl (gx hb)
    |true=>exact .inr (fg hb).1
   refine step i f S w rest dp e ez IG NL DV (λa h2=>hd a (oo a (fp a h2)) (fp a h2)) λx w' hE hs=>dj _ _ _ ⟨λ_=>⟨jk x,fh x w' hs λj hj dy h2=>ei _ _ _ _ (hd j hj h2) hE,ek,λh2=>?_,λh2=>?_⟩,λh2=>(D3 h2).elim⟩
   .refine IF _ _ _ (gx ?_) hE;cases hb:l.getD m false with
    |false=>rfl
    |true=>rw[fx m hb]at h2;cases h2
   .have h3:=(eU h2).resolve_left λe'=>e e'.symm
    refine⟨IE S i f x _ _ dp (λh4=>?_) e ez (fg h3).1 hE,λa h4=>fx a ((fg h3).2 a h4)⟩
    have:=(fg h3).2 i h4;rw[ik]at this;cases this
 .rintro l f S w ⟨hJ,hZ⟩ fa;exact fin f S w (hZ (fa z CH)).1
end
