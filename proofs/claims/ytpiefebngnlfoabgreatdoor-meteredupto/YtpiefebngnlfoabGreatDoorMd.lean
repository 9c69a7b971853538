import Derived.Test.YtpiefebngnlfoabGreatDoorMc
set_option maxRecDepth 99999
set_option maxHeartbeats 0
set_option linter.unusedVariables false
set_option linter.unusedSimpArgs false
namespace Go.Vw
open Go.Conc
section
variable {P:Program}{S:Nat->Prop}{v:World}{o:Oper}{a:Act}
theorem aA.checkKeyI(b:Bool)(t:TypeId)(k:IntKind)(x:Int):aA P S (Instr.checkKey b 10000 t (.int k x)):=by
 unfold Instr.checkKey;refine aA.bind (aA.underlying t) fun d=>?_
 cases d<;>first|exact aA.pure _|exact aA.stuck _
theorem aA.findAsking(hC:iX P)(t:TypeId)(k:Value):∀ (es:List MapEntry) (i:Nat),aA P S (Instr.findAsking t k es i)
 |[],i=>aA.pure _
 |e :: es,i=>aA.bind (aA.equal hC t k e.key) fun b=>aA.ite (aA.pure _) (aA.findAsking hC t k es (i+1))
theorem aA.findKey(hC:iX P)(t:TypeId)(k:Value)(es:List MapEntry):aA P S (Instr.findKey t k es):=by
 unfold Instr.findKey;refine aA.bind (aA.underlying t) fun d=>?_
 split
 .exact aA.pure _
 .exact aA.findAsking hC t k es 0
theorem aA.lookup(hC:iX P)(t:TypeId)(m:Nat)(k:IntKind)(x:Int)(ok:Bool):aA P S (Instr.lookup t (.map (some m)) (.int k x) ok):=by
 unfold Instr.lookup;refine aA.bind (aA.underlying t) fun d=>?_
 cases d with
 |map key elem=>
  refine aA.getThen (fun _ o=>?_) (fun v es=>aI.first (aI.stuck _ _ _));cases o with
  |map es c=>
   refine aA.bind (aA.pure _) fun es=>aA.bind (aA.checkKeyI _ _ _ _) fun _=>aA.bind (aA.findKey hC _ _ _) fun r=>?_
   cases r with
   |none=>exact aA.bind (aA.zeroValue _) fun _=>aA.bind (aA.pure _) fun _=>aA.pure _
   |some q=>exact aA.bind (aA.pure _) fun _=>aA.pure _
  |_=>exact aA.of_dead fun v W es _=>aI.first (aI.stuck _ _ _)
 |_=>exact aA.stuck _
theorem aA.keyStays(x y:Value):aA P S (Instr.keyThatStays x y):=by
 unfold Instr.keyThatStays;exact aA.ite (aA.pure _) (aA.bind (aA.choose _) fun _=>aA.pure _)
theorem aA.mapUpdate(hC:iX P)(t:TypeId)(m:Nat)(k:IntKind)(x:Int)(y:Value):aA P S (Instr.mapUpdate t (.map (some m)) (.int k x) y):=by
 unfold Instr.mapUpdate;refine aA.bind (aA.underlying t) fun d=>?_
 cases d with
 |map key elem=>
  refine aA.getThen (fun hs o=>?_) (fun v es=>aI.stuck _ _ _);cases o with
  |map es c=>
   refine aA.bind (aA.checkKeyI _ _ _ _) fun _=>aA.bind (aA.findKey hC _ _ _) fun r=>?_
   cases r with
   |none=>exact aA.setObj hs trivial
   |some q=>exact aA.bind (aA.keyStays _ _) fun _=>aA.setObj hs trivial
  |_=>exact aA.stuck _
 |_=>exact aA.stuck _
theorem aA.delete(hC:iX P)(t kt:TypeId)(ty:TypeId)(m:Nat)(k:IntKind)(x:Int):aA P S (Builtin.delete_ #[t,kt] ty #[.map (some m),.int k x]):=by
 unfold Builtin.delete_;refine aA.bind (aA.underlying _) fun d=>?_
 cases d with
 |map key elem=>
  refine aA.getThen (fun hs o=>?_) (fun v es=>aI.first (aI.stuck _ _ _));cases o with
  |map es c=>
   refine aA.bind (aA.checkKeyI _ _ _ _) fun _=>aA.bind (aA.findKey hC _ _ _) fun r=>?_
   cases r with
   |none=>exact aA.bind (aA.setObj hs trivial) fun _=>aA.pure _
   |some q=>exact aA.bind (aA.setObj hs trivial) fun _=>aA.pure _
  |_=>exact aA.of_dead fun v W es _=>aI.first (aI.stuck _ _ _)
 |_=>exact aA.stuck _
theorem aA.entry(r:Nat):aA P S (Instr.entry (.pointer (some ⟨r,0,none⟩))):=by
 unfold Instr.entry;refine aA.getThen (fun hs o=>?_) (fun v es=>aI.stuck _ _ _);cases o with
 |mapIter mo since seen last=>
  cases mo with
  |none=>exact aA.stuck _
  |some m=>
   simp only[];split
   .refine aA.getThen (fun _ o=>?_) (fun v es=>aI.stuck _ _ _);cases o with
    |map es clock=>
     simp only[];split
     .exact aA.of_dead fun v W es _=>aI.first (aI.unsupported _ _ _)
     .split
      .exact aA.pure _
      .exact aA.unsupported _
    |_=>exact aA.stuck _
   .exact aA.stuck _
 |_=>exact aA.stuck _
end
end Go.Vw
namespace Go.Proofs.YtpiefebngnlfoabGreatDoor
open Go.RowKit Go.Conc Go.Vw
structure Ent where
 id:Nat
 size:Nat
 turn:Nat
 slot:Nat
 val:Nat->Nat
 good:Nat->Bool
 born:Nat
def aK(id size turn slot:Nat)(good:Nat->Bool):Array Value:=#[.int .i64 (id:Nat),.int .i64 (size:Nat),.int .u64 (turn:Nat),.int .i64 (slot:Nat),.bool (good 0),.bool (good 1),.bool (good 2),.bool (good 3),.bool (good 4),.bool (good 5),.bool (good 6),.bool (good 7),.bool (good 8),.bool (good 9),.bool (good 10),.bool (good 11),.bool (good 12),.bool (good 13)]
def bN(e:Ent):Array Value:=aK e.id e.size e.turn e.slot e.good
def cQ(e:Ent):MapEntry:=⟨.int .i64 (e.id:Nat),.agg (bN e),e.born⟩
def bK(L:List Ent)(clock:Nat):Obj:=.map (L.map cQ).toArray clock
def aL(id:Nat):List Ent->Nat->Option (Nat×Ent)
 |[],_=>none
 |e :: es,i=>if e.id=id then some (i,e) else aL id es (i+1)
theorem uG{id:Nat} : ∀ {L:List Ent} {i:Nat},aL id L i=none->∀ e∈L,e.id≠id
 |[],_,_,e,h=>by cases h
 |e :: es,i,h,e',h'=>by
  unfold aL at h;split at h
  .cases h
  .rename_i hne;rcases List.mem_cons.1 h' with rfl|h'
   .exact hne
   .exact uG h e' h'
theorem dY{id:Nat} : ∀ {L:List Ent} {i j:Nat} {e:Ent},aL id L i=some (j,e)->∃ n,j=i+n∧L[n]?=some e∧e.id=id
 |[],_,_,_,h=>by cases h
 |e :: es,i,j,e',h=>by
  unfold aL at h;split at h
  .rename_i he;cases h
   exact⟨0,rfl,rfl,he⟩
  .obtain⟨n,h1,h2,h3⟩:=dY h;exact⟨n+1,by omega,by simpa using h2,h3⟩
theorem Ea(id:Nat):∀ (L:List Ent) (i:Nat),Instr.findNow (.int .i64) (.int .i64 (id:Nat)) (L.map cQ) i=some ((aL id L i).map fun q=>(q.1,.agg (bN q.2)))
 |[],i=>rfl
 |e :: es,i=>by
  unfold aL;simp only[List.map_cons,Instr.findNow,cQ,Instr.sameNow,if_true];by_cases h:e.id=id
  .subst h;simp
  .have:((id:Int) == (e.id:Int))=false:=by simp;omega
   rw[this,if_neg h];exact Ea id es (i+1)
theorem tL(id:Nat)(L:List Ent)(u:World):(Instr.findKey 3 (.int .i64 (id:Nat)) (L.map cQ)).run Tryz.prog u=.ok ((aL id L 0).map fun q=>(q.1,.agg (bN q.2))) u:=by
 unfold Instr.findKey;simp only[Sem.run_bind,run_underlying Tryz.underlying3,Result.andThen_ok];rw[Ea];rfl
theorem tG(b:Bool)(id:Nat)(u:World):(Instr.checkKey b 10000 3 (.int .i64 (id:Nat))).run Tryz.prog u=.ok () u:=by
 unfold Instr.checkKey;simp only[Sem.run_bind,run_underlying Tryz.underlying3,Result.andThen_ok];rfl
theorem zE:∃ i,Tryz.prog.info? 81=some i∧i.zero=some (.agg (aK 0 0 0 0 fun _=>false)):=⟨_,rfl,rfl⟩
def Obj.noRow:Obj->Prop
 |.cells _ _ _=>False
 |_=>True
theorem fJ{u:World}{M:Nat}{o:Obj}(h:u.heap[M]?=some o)(hn:Obj.noRow o):(getObj M).run Tryz.prog u=.ok o u:=by
 simp only[getObj,Sem.run,h];cases o<;>first|rfl|exact hn.elim
theorem lM{u:World}{M:Nat}{o o':Obj}(h:u.heap[M]?=some o)(hn:Obj.noRow o):∃ w',(setObj M o').run Tryz.prog u=.ok () w'∧Wr u M o' w':=by
 have hlt:=(Array.getElem?_eq_some_iff.1 h).1;refine⟨{u with heap:=u.heap.setIfInBounds M o'},?_,?_,fun b hb=>?_,by simp,rfl,rfl⟩
 .simp only[setObj,Sem.run,h];cases o<;>first|rfl|exact hn.elim
 .simp[Array.getElem?_setIfInBounds,hlt]
 .have:¬M=b:=fun e=>hb e.symm
  simp[Array.getElem?_setIfInBounds,this]
def fO(r:Option (Nat×Ent)):Value:=match r with
 |some q=>.tuple #[.agg (bN q.2),.bool true]
 |none=>.tuple #[.agg (aK 0 0 0 0 fun _=>false),.bool false]
theorem Ov{id M clock:Nat}{L:List Ent}{u:World}(hm:u.heap[M]?=some (bK L clock)):(Instr.lookup 73 (.map (some M)) (.int .i64 (id:Nat)) true).run Tryz.prog u=.ok (fO (aL id L 0)) u:=by
 obtain⟨inf,q1,q2⟩:=zE;unfold Instr.lookup;simp only[Sem.run_bind,run_underlying Tryz.underlying73,Result.andThen_ok,fJ hm trivial,bK,List.toList_toArray,Sem.run_pure,tG,tL];cases aL id L 0 with
 |none=>simp[fO,zeroValue,typeInfo,q1,q2]
 |some q=>simp[fO]
def bO(L:List Ent)(e:Ent)(clock:Nat):List Ent:=match aL e.id L 0 with
 |some (n,old)=>L.set n {e with born:=old.born}
 |none=>L++[{e with born:=clock}]
def jD(L:List Ent)(id clock:Nat):Nat:=match aL id L 0 with
 |some _=>clock
 |none=>clock+1
theorem Oo{M clock:Nat}{L:List Ent}{e:Ent}{u:World}(hm:u.heap[M]?=some (bK L clock)):∃ w',(Instr.mapUpdate 73 (.map (some M)) (.int .i64 (e.id:Nat)) (.agg (bN e))).run Tryz.prog u=.ok () w'∧Wr u M (bK (bO L e clock) (jD L e.id clock)) w':=by
 unfold Instr.mapUpdate;simp only[Sem.run_bind,run_underlying Tryz.underlying73,Result.andThen_ok,fJ hm trivial,bK,List.toList_toArray,tG,tL];cases h:aL e.id L 0 with
 |none=>
  obtain⟨w',h1,h2⟩:=lM (o':=Obj.map ((L.map cQ).toArray.push {key:=.int .i64 (e.id:Nat),val:=.agg (bN e),born:=clock}) (clock+1)) hm trivial;refine⟨w',h1,?_⟩;have:(L.map cQ).toArray.push {key:=.int .i64 (e.id:Nat),val:=.agg (bN e),born:=clock} = ((bO L e clock).map cQ).toArray:=by
   simp[bO,h,cQ,bN]
  rw[this]at h2;simpa [jD,h,bK] using h2
 |some q=>
  obtain⟨n,old⟩:=q;obtain⟨n',hn,hget,hid⟩:=dY h;obtain rfl:n=n':=by omega
  have hkey:(Instr.keyThatStays ((((L.map cQ).toArray[n]?).map (·.key)).getD (.int .i64 (e.id:Nat))) (.int .i64 (e.id:Nat))).run Tryz.prog u=.ok (.int .i64 (e.id:Nat)) u:=by
   have:(L.map cQ).toArray[n]?=some (cQ old):=by simp[hget]
   rw[this];simp[Instr.keyThatStays,cQ,hid,Instr.sameBits]
  obtain⟨w',h1,h2⟩:=lM (o':=Obj.map ((L.map cQ).toArray.modify n fun x=>{x with key:=.int .i64 (e.id:Nat),val:=.agg (bN e)}) clock) hm trivial
  refine⟨w',?_,?_⟩
  .simp only[Option.map_some,Sem.run_bind,hkey,Result.andThen_ok];exact h1
  .have:(L.map cQ).toArray.modify n (fun x=>{x with key:=.int .i64 (e.id:Nat),val:=.agg (bN e)})=((bO L e clock).map cQ).toArray:=by
    apply Array.ext';simp only[Array.toList_modify,bO,h,List.map_set];apply List.ext_getElem?;intro i;rw[List.getElem?_modify,List.getElem?_set];by_cases hi:n=i
    .subst hi;have hb:L[n]'(List.getElem?_eq_some_iff.1 hget).1=old:=(List.getElem?_eq_some_iff.1 hget).2;simp[hget,cQ,bN,(List.getElem?_eq_some_iff.1 hget).1,hb]
    .simp[hi]
   rw[this]at h2;simpa [jD,h,bK] using h2
theorem Gv{α β : Type}(f:α->β):∀ (L:List α) (n:Nat),(L.map f).eraseIdx n=(L.eraseIdx n).map f
 |[],n=>rfl
 |x :: L,0=>rfl
 |x :: L,n+1=>by simp only[List.map_cons,List.eraseIdx_cons_succ,Gv f L n]
def eY(L:List Ent)(id:Nat):List Ent:=match aL id L 0 with
 |some (n,_)=>L.eraseIdx n
 |none=>L
theorem Oz{M clock id:Nat}{kt ty:TypeId}{L:List Ent}{u:World}(hm:u.heap[M]?=some (bK L clock)):∃ w',(Builtin.delete_ #[73,kt] ty #[.map (some M),.int .i64 (id:Nat)]).run Tryz.prog u=.ok (.tuple #[]) w'∧Wr u M (bK (eY L id) clock) w':=by
 unfold Builtin.delete_;simp only[List.getElem?_toArray,List.getElem?_cons_zero,List.getElem?_cons_succ,Sem.run_bind,run_underlying Tryz.underlying73,Result.andThen_ok,fJ hm trivial,bK,List.toList_toArray,tG,tL];cases h:aL id L 0 with
 |none=>
  obtain⟨w',h1,h2⟩:=lM (o':=Obj.map (L.map cQ).toArray clock) hm trivial;refine⟨w',?_,?_⟩
  .simp only[Option.map_none,Sem.run_bind,h1,Result.andThen_ok,Sem.run_pure]
  .simpa [eY,h,bK] using h2
 |some q=>
  obtain⟨n,old⟩:=q;obtain⟨n',hn,hget,hid⟩:=dY h;obtain rfl:n=n':=by omega
  obtain⟨w',h1,h2⟩:=lM (o':=Obj.map ((L.map cQ).toArray.eraseIdxIfInBounds n) clock) hm trivial;refine⟨w',?_,?_⟩
  .simp only[Option.map_some,Sem.run_bind,h1,Result.andThen_ok,Sem.run_pure]
  .have hlt:=(List.getElem?_eq_some_iff.1 hget).1;have:(L.map cQ).toArray.eraseIdxIfInBounds n=((eY L id).map cQ).toArray:=by
    apply Array.ext';simp[eY,h,Array.eraseIdxIfInBounds,hlt,Gv]
   rw[this]at h2;simpa [eY,h,bK] using h2
theorem Ve{o:Oper}{a:Act}{x:Operand}{M clock:Nat}{L:List Ent}{u:World}(hop:o.op=Op.call {callee:=Callee.builtin Builtin.len,args:=#[x],argTypes:=#[73]})(hx:a.eval x=.map (some M))(hm:u.heap[M]?=some (bK L clock)):(execOp a.eval o).run Tryz.prog u=.ok (.value (.int .i64 (L.length:Nat))) u:=by
 unfold execOp;simp[hop,hx,resolve,invoke,builtin,Builtin.len_,run_underlying Tryz.underlying73,MapKept.run_getObj_map hm];rfl
theorem Vd{r M since last clock:Nat}{seen:Array Nat}{L:List Ent}{ty:TypeId}{u:World}(hr:u.heap[r]?=some (.mapIter (some M) since seen last))(hm:u.heap[M]?=some (bK L clock))(hold:∀ e∈L,e.born<since)(hsc:since<=last) :
  ((∀ e∈L,seen.contains e.born=true)∧(Instr.next (.pointer (some ⟨r,0,none⟩)) false ty).run Tryz.prog u=.ok (.tuple #[.bool false]) u)∨
  ∃ e∈L,seen.contains e.born=false∧∃ w',(Instr.next (.pointer (some ⟨r,0,none⟩)) false ty).run Tryz.prog u=.ok (.tuple #[.bool true,.int .i64 (e.id:Nat),.agg (bN e)]) w'∧Wr u r (.mapIter (some M) since (seen.push e.born) clock) w':=by
 have hold':∀ x∈(L.map cQ).toArray.toList,x.born<since:=fun x hx=>by
  simp only[List.toList_toArray,List.mem_map]at hx;obtain⟨e,he,rfl⟩:=hx;exact hold e he
 have ht:=next_test_false seen (L.map cQ).toArray since last hold' hsc;simp only[Instr.next,Sem.run_bind,fJ hr trivial,Result.andThen_ok,fJ hm trivial,bK,ht,Bool.false_eq_true,if_false];have hmem:∀ x∈(Array.filter (fun e=>!seen.contains e.born) (L.map cQ).toArray).toList,∃ e∈L,x=cQ e∧seen.contains e.born=false:=fun x hx=>by
  simp only[Array.toList_filter,List.toList_toArray,List.mem_filter,List.mem_map,Bool.not_eq_true']at hx;obtain⟨⟨e,he,rfl⟩,h2⟩:=hx;exact⟨e,he,rfl,h2⟩
 have hall:Array.filter (fun e=>!seen.contains e.born) (L.map cQ).toArray=#[]->∀ e∈L,seen.contains e.born=true:=fun h e he=>by
  rw[Array.filter_eq_empty_iff]at h;have:=h (cQ e) (by simpa using ⟨e,he,rfl⟩);simpa [cQ] using this
 generalize Array.filter (fun e=>!seen.contains e.born) (L.map cQ).toArray=Q at hmem hall ⊢;have hq:∀ x∈Q,x.born<since:=fun x hx=>by
  obtain⟨e,he,rfl,_⟩:=hmem x (by simpa using hx);exact hold e he
 have e1:Q.filter (fun x=>decide (x.born<since))=Q:=Array.filter_eq_self.2 (fun x hx=>by simpa using hq x hx);have e2:Q.filter (fun x=>decide (x.born ≥ since))=#[]:=by
  rw[Array.filter_eq_empty_iff];intro x hx;have:=hq x hx;simp;omega
 simp only[e1,e2,Array.append_empty];by_cases h0:Q.size=0
 .left;have:Q=#[]:=Array.eq_empty_of_size_eq_zero h0;subst this;refine⟨hall rfl,?_⟩;simp[choose,Sem.run,Question.forced]
 .right;have hne:Q.isEmpty=false:=by simp[Array.isEmpty,h0]
  simp only[hne,Bool.false_eq_true,if_false,Array.empty_append,Array.size_map];have hch:∃ (j:Nat) (w1:World),j<Q.size∧Vw.Twin u w1∧(choose (Question.mapNext Q.size)).run Tryz.prog u=.ok j w1:=by
   by_cases hf:Q.size<=1
   .exact⟨0,u,by omega,.refl u,by simp[choose,Sem.run,Question.forced,hf]⟩
   .exact⟨_,u.drew,Nat.mod_lt _ (by omega),⟨rfl,rfl,rfl⟩,by
     simp only[choose,Sem.run,Question.forced,decide_eq_true_eq,hf,if_false,Question.cut]
     rfl⟩
  obtain⟨j,w1,hj,hal,hrun⟩:=hch;obtain⟨e,he,hxe,hns⟩:=hmem Q[j] (by simp);obtain⟨w',hs,hW⟩:=lM (o':=.mapIter (some M) since (seen.push Q[j].born) clock) ((Ext.twin hal).row hr) trivial;refine⟨e,he,hns,w',?_,?_⟩
  .simp only[hrun,Array.getElem?_map,Array.getElem?_eq_getElem hj,Option.map_some,Sem.run_bind,hs,Result.andThen_ok,Sem.run_pure];rw[hxe];rfl
  .rw[hxe]at hW;exact⟨hW.at_,fun b hb=>by rw[hW.other b hb,hal.heap],by rw[hW.size,hal.heap],hW.os.trans hal.os,hW.output.trans hal.output⟩
theorem Fo{e:Ent} : ∀ {L:List Ent},(L.map (·.born)).Nodup->e∈L->(L.map cQ).find? (·.born == e.born)=some (cQ e)
 |[],_,h=>by cases h
 |x :: L,hn,h=>by
  have hn':=List.nodup_cons.1 hn;rw[List.map_cons,List.find?_cons];by_cases hx:x.born=e.born
  .have:x=e:=by
    rcases List.mem_cons.1 h with h|h
    .exact h.symm
    .exact absurd (show x.born∈L.map (·.born) by rw[hx];exact List.mem_map.2 ⟨e,h,rfl⟩) hn'.1
   subst this;simp[cQ]
  .have hb:((cQ x).born == e.born)=false:=by simpa [cQ] using hx
   rw[hb];rcases List.mem_cons.1 h with h|h
   .exact absurd (by rw[h]) hx
   .exact Fo hn'.2 h
theorem Rn{r M since clock:Nat}{seen:Array Nat}{L:List Ent}{e:Ent}{u:World}(hr:u.heap[r]?=some (.mapIter (some M) since (seen.push e.born) clock))(hm:u.heap[M]?=some (bK L clock))(hb:(L.map (·.born)).Nodup)(he:e∈L) :
  (Instr.entry (.pointer (some ⟨r,0,none⟩))).run Tryz.prog u=.ok (.tuple #[.int .i64 (e.id:Nat),.agg (bN e)]) u:=by
 have hf:(L.map cQ).toArray.find? (·.born == e.born)=some (cQ e):=by rw[<-Array.find?_toList];exact Fo hb he
 simp only[Instr.entry,Sem.run_bind,fJ hr trivial,Result.andThen_ok,fJ hm trivial,bK,Array.back?_push,bne_self_eq_false,Bool.false_eq_true,if_false,hf];rfl
section
variable {Stop:Goroutine->(Nat->Prop)->World->Prop}{S:Nat->Prop}{v:World}{fn:FuncId}{cs:List Frame}{k:List Item}{n:Nat}{f:Nat->Value}{ops:Array Oper}{i:Nat}{rest:List Nat}{dst:Option Tmp}{op:Op}{ty:TypeId}{pos:String}{aft:Array Edge}{grd:Option (Nat×Bool)}{M clock:Nat}{L:List Ent}
theorem oC{x y:Operand}{id:Nat}(ho:ops[i]?=some ⟨dst,op,ty,pos,aft,grd⟩)(hw:Region.wanted ⟨dst,op,ty,pos,aft,grd⟩ (yielded ops (TA n f))=true)(hop:op=.lookup 73 x y true)(hx:(⟨TA n f,[]⟩:Act).eval x=.map (some M))(hy:(⟨TA n f,[]⟩:Act).eval y=.int .i64 (id:Nat))(hm:v.heap[M]?=some (bK L clock))
  (hn:Vw.Reach Tryz.prog Stop (G ((base fn).at ⟨TA n (aE f dst (fO (aL id L 0))),[]⟩ (.inRegion ops rest :: k)) cs) S v):Vw.Reach Tryz.prog Stop (G ((base fn).at ⟨TA n f,[]⟩ (.inRegion ops (i :: rest) :: k)) cs) S v:=by
 refine fD (by simp[base]) ho hw ?_ fun u hu=>⟨fO (aL id L 0),u,.inl ?_,?_⟩
 .unfold execOp;simp only[hop,hx,hy];exact aA.bind (aA.lookup nT _ _ _ _ _) fun _=>aA.pure _
 .unfold execOp;simp only[hop,hx,hy,Sem.run_bind,Ov ((Ext.twin hu).row hm),Result.andThen_ok,Sem.run_pure]
 .rw[bU];exact Reach.twin ⟨hu.heap.symm,hu.os.symm,hu.output.symm⟩ hn
theorem qV{v u w:World}{g:Nat}{o:Obj}(h:Vw.Twin v u)(hW:Wr u g o w):Wr v g o w:=⟨hW.at_,fun b hb=>(hW.other b hb).trans (by rw[h.heap]),hW.size.trans (by rw[h.heap]),hW.os.trans h.os,hW.output.trans h.output⟩
theorem xB{x y z:Operand}{e:Ent}(ho:ops[i]?=some ⟨dst,op,ty,pos,aft,grd⟩)(hw:Region.wanted ⟨dst,op,ty,pos,aft,grd⟩ (yielded ops (TA n f))=true)(hop:op=.mapUpdate 73 x y z)(hx:(⟨TA n f,[]⟩:Act).eval x=.map (some M))(hy:(⟨TA n f,[]⟩:Act).eval y=.int .i64 (e.id:Nat))(hz:(⟨TA n f,[]⟩:Act).eval z=.agg (bN e))(hm:v.heap[M]?=some (bK L clock))
  (hn:∀ w',Wr v M (bK (bO L e clock) (jD L e.id clock)) w'->Vw.Reach Tryz.prog Stop (G ((base fn).at ⟨TA n (aE f dst undef),[]⟩ (.inRegion ops rest :: k)) cs) S w'):Vw.Reach Tryz.prog Stop (G ((base fn).at ⟨TA n f,[]⟩ (.inRegion ops (i :: rest) :: k)) cs) S v:=by
 refine fD (by simp[base]) ho hw ?_ fun u hu=>?_
 .unfold execOp;simp only[hop,hx,hy,hz];exact aA.bind (aA.mapUpdate nT _ _ _ _ _) fun _=>aA.pure _
 .obtain⟨w',h1,h2⟩:=Oo (e:=e) ((Ext.twin hu).row hm);refine⟨undef,w',.inr ⟨?_,rfl⟩,?_⟩
  .unfold execOp;simp only[hop,hx,hy,hz,Sem.run_bind,h1,Result.andThen_ok,Sem.run_pure]
  .rw[bU];exact hn w' (qV hu h2)
theorem Lt{x y:Operand}{kt:TypeId}{id:Nat}(ho:ops[i]?=some ⟨dst,op,ty,pos,aft,grd⟩)(hw:Region.wanted ⟨dst,op,ty,pos,aft,grd⟩ (yielded ops (TA n f))=true)(hop:op=.call {callee:=.builtin .delete,args:=#[x,y],argTypes:=#[73,kt]})(hx:(⟨TA n f,[]⟩:Act).eval x=.map (some M))(hy:(⟨TA n f,[]⟩:Act).eval y=.int .i64 (id:Nat))(hm:v.heap[M]?=some (bK L clock))
  (hn:∀ w',Wr v M (bK (eY L id) clock) w'->Vw.Reach Tryz.prog Stop (G ((base fn).at ⟨TA n (aE f dst (.tuple #[])),[]⟩ (.inRegion ops rest :: k)) cs) S w'):Vw.Reach Tryz.prog Stop (G ((base fn).at ⟨TA n f,[]⟩ (.inRegion ops (i :: rest) :: k)) cs) S v:=by
 refine fD (by simp[base]) ho hw ?_ fun u hu=>?_
 .unfold execOp;simp only[hop,resolve,invoke,builtin,List.map_toArray,List.map_cons,List.map_nil,hx,hy];show aA Tryz.prog S (Builtin.delete_ #[73,kt] ty #[.map (some M),.int .i64 (id:Nat)] >>= fun r=>pure (Next.value r))
  exact aA.bind (aA.delete nT _ _ _ _ _ _) fun _=>aA.pure _
 .obtain⟨w',h1,h2⟩:=Oz (kt:=kt) (ty:=ty) (id:=id) ((Ext.twin hu).row hm);refine⟨.tuple #[],w',.inl ?_,?_⟩
  .unfold execOp;simp[hop,resolve,invoke,builtin,hx,hy,h1]
  .rw[bU];exact hn w' (qV hu h2)
theorem tW{x:Operand}{r since last:Nat}{seen:Array Nat}(ho:ops[i]?=some ⟨dst,op,ty,pos,aft,grd⟩)(hw:Region.wanted ⟨dst,op,ty,pos,aft,grd⟩ (yielded ops (TA n f))=true)(hop:op=.next x false)(hx:(⟨TA n f,[]⟩:Act).eval x=.pointer (some ⟨r,0,none⟩))(hr:v.heap[r]?=some (.mapIter (some M) since seen last))(hm:v.heap[M]?=some (bK L clock))(hold:∀ e∈L,e.born<since)(hsc:since<=last)
  (hn1:(∀ e∈L,seen.contains e.born=true)->Vw.Reach Tryz.prog Stop (G ((base fn).at ⟨TA n (aE f dst (.tuple #[.bool false])),[]⟩ (.inRegion ops rest :: k)) cs) S v)
  (hn2:∀ e∈L,seen.contains e.born=false->∀ w',Wr v r (.mapIter (some M) since (seen.push e.born) clock) w'->Vw.Reach Tryz.prog Stop (G ((base fn).at ⟨TA n (aE f dst (.tuple #[.bool true,.int .i64 (e.id:Nat),.agg (bN e)])),[]⟩ (.inRegion ops rest :: k)) cs) S w'):Vw.Reach Tryz.prog Stop (G ((base fn).at ⟨TA n f,[]⟩ (.inRegion ops (i :: rest) :: k)) cs) S v:=by
 refine fD (by simp[base]) ho hw (tT hop hx) fun u hu=>?_
 rcases Vd (ty:=ty) ((Ext.twin hu).row hr) ((Ext.twin hu).row hm) hold hsc with⟨hall,hrun⟩|⟨e,he,hns,w',hrun,hW⟩
 .refine⟨.tuple #[.bool false],u,.inl ?_,?_⟩
  .unfold execOp;simp only[hop,hx,Sem.run_bind,hrun,Result.andThen_ok,Sem.run_pure]
  .rw[bU];exact Reach.twin ⟨hu.heap.symm,hu.os.symm,hu.output.symm⟩ (hn1 hall)
 .refine⟨.tuple #[.bool true,.int .i64 (e.id:Nat),.agg (bN e)],w',.inl ?_,?_⟩
  .unfold execOp;simp only[hop,hx,Sem.run_bind,hrun,Result.andThen_ok,Sem.run_pure]
  .rw[bU];exact hn2 e he hns w' (qV hu hW)
theorem Cm{x:Operand}{r since:Nat}{seen:Array Nat}{e:Ent}(ho:ops[i]?=some ⟨dst,op,ty,pos,aft,grd⟩)(hw:Region.wanted ⟨dst,op,ty,pos,aft,grd⟩ (yielded ops (TA n f))=true)(hop:op=.entry x)(hx:(⟨TA n f,[]⟩:Act).eval x=.pointer (some ⟨r,0,none⟩))(hr:v.heap[r]?=some (.mapIter (some M) since (seen.push e.born) clock))(hm:v.heap[M]?=some (bK L clock))(hb:(L.map (·.born)).Nodup)(he:e∈L)
  (hn:Vw.Reach Tryz.prog Stop (G ((base fn).at ⟨TA n (aE f dst (.tuple #[.int .i64 (e.id:Nat),.agg (bN e)])),[]⟩ (.inRegion ops rest :: k)) cs) S v):Vw.Reach Tryz.prog Stop (G ((base fn).at ⟨TA n f,[]⟩ (.inRegion ops (i :: rest) :: k)) cs) S v:=by
 refine fD (by simp[base]) ho hw ?_ fun u hu=>⟨.tuple #[.int .i64 (e.id:Nat),.agg (bN e)],u,.inl ?_,?_⟩
 .unfold execOp;simp only[hop,hx];exact aA.bind (aA.entry _) fun _=>aA.pure _
 .unfold execOp;simp only[hop,hx,Sem.run_bind,Rn ((Ext.twin hu).row hr) ((Ext.twin hu).row hm) hb he,Result.andThen_ok,Sem.run_pure]
 .rw[bU];exact Reach.twin ⟨hu.heap.symm,hu.os.symm,hu.output.symm⟩ hn
theorem Dq{x:Operand}(ho:ops[i]?=some ⟨dst,op,ty,pos,aft,grd⟩)(hw:Region.wanted ⟨dst,op,ty,pos,aft,grd⟩ (yielded ops (TA n f))=true)(hok:bV Tryz.prog FG ⟨dst,op,ty,pos,aft,grd⟩=true)(hop:op=Op.call {callee:=Callee.builtin Builtin.len,args:=#[x],argTypes:=#[73]})(hx:(⟨TA n f,[]⟩:Act).eval x=.map (some M))(hm:v.heap[M]?=some (bK L clock))
  (hn:Vw.Reach Tryz.prog Stop (G ((base fn).at ⟨TA n (aE f dst (.int .i64 (L.length:Nat))),[]⟩ (.inRegion ops rest :: k)) cs) S v):Vw.Reach Tryz.prog Stop (G ((base fn).at ⟨TA n f,[]⟩ (.inRegion ops (i :: rest) :: k)) cs) S v:=
 cR aB ho hw hok (fun u hu=>Ve hop hx ((Ext.twin hu).row hm)) hn
end
def aN(g:Nat->Bool)(n:Nat):Nat:=((List.range n).filter g).length
structure EntOk(nb turn:Nat)(c:Nat->Nat->Nat->Nat)(e:Ent):Prop where
 id1:1<=e.id
 id2:e.id<=9999
 size:e.size<=400
 turn:e.turn<=turn
 slot:e.slot<nb
 val:∀ i,e.val i<256
 ten:10<=aN e.good 14
 blk:∀ k,k<14->e.good k=true->∀ j,j<96->c k e.slot j=aV e.id e.size e.turn k ((e.size+9) / 10) (bC e.val e.size k) j
structure StE(X D DB DA M:Nat)(RB RA:Nat->Nat)(nd nb turn:Nat)(s:Dsk)(L:List Ent)(w:World):Prop where
 row:w.heap[X]?=some (.cells #[.pointer (some ⟨D,0,none⟩),.map (some M),.int .u64 (turn:Nat)] 76)
 map:∃ clock,w.heap[M]?=some (bK L clock)∧∀ e∈L,e.born<clock
 dk:DiskG D DB DA RB RA nd nb s w
 ent:∀ e∈L,EntOk nb turn s.c e
 ids:(L.map (·.id)).Nodup
 slots:(L.map (·.slot)).Nodup
 borns:(L.map (·.born)).Nodup
def dG(X D M:Nat)(RB RA:Nat->Nat)(nd:Nat)(b:Nat):Prop:=b=X∨b=M∨eK D RB RA nd b
section
variable {X D DB DA M:Nat}{RB RA:Nat->Nat}{nd nb turn:Nat}{s:Dsk}{L:List Ent}{w w' v:World}{S:Nat->Prop}
theorem StE.kp(h:StE X D DB DA M RB RA nd nb turn s L w)(hK:Kp w (fun _=>False) w'):StE X D DB DA M RB RA nd nb turn s L w':=
 ⟨hK.cells _ _ _ _ (fun x=>x) h.row,let ⟨cl,q1,q2⟩:=h.map;⟨cl,hK.objs _ _ (fun x=>x) q1 trivial,q2⟩,h.dk.kp0 hK,h.ent,h.ids,h.slots,h.borns⟩
theorem StE.ext(h:StE X D DB DA M RB RA nd nb turn s L w)(hE:Ext w w'):StE X D DB DA M RB RA nd nb turn s L w':=h.kp (dB hE)
theorem StE.c0(h:StE X D DB DA M RB RA nd nb turn s L w):w.cell? ⟨X,0,none⟩=some (.pointer (some ⟨D,0,none⟩)):=(cell_of_row _ _ _ _ _ _ h.row).trans rfl
theorem StE.c1(h:StE X D DB DA M RB RA nd nb turn s L w):w.cell? ⟨X,1,none⟩=some (.map (some M)):=(cell_of_row _ _ _ _ _ _ h.row).trans rfl
theorem StE.c2(h:StE X D DB DA M RB RA nd nb turn s L w):w.cell? ⟨X,2,none⟩=some (.int .u64 (turn:Nat)):=(cell_of_row _ _ _ _ _ _ h.row).trans rfl
def fT(n:Nat)(t:Nat->Bool):Array Value:=(Array.range n).map fun i=>.bool (t i)
theorem Cv(n:Nat)(t:Nat->Bool):(fT n t).size=n:=by simp[fT]
theorem yB{n i:Nat}{t:Nat->Bool}(h:i<n):(fT n t)[i]?=some (.bool (t i)):=by simp[fT,h]
theorem Ei{n i:Nat}{t:Nat->Bool} : (fT n t).setIfInBounds i (.bool true)=fT n fun j=>if j=i then true else t j:=by
 apply Array.ext_getElem?;intro j;rw[Array.getElem?_setIfInBounds];by_cases e:i=j
 .subst e;by_cases hi:i<n<;>simp[fT,hi]
 .rw[if_neg e];have:¬j=i:=fun h=>e h.symm
  by_cases hj:j<n<;>simp[fT,hj,this]
theorem oQ{s:Array Nat}{a b:Nat} : (s.push b).contains a=true↔s.contains a=true∨a=b:=by
 simp
theorem mN(e:Ent):(bN e).all (·.oneCell')=true:=by simp[bN,aK,Value.oneCell']
theorem jA{α : Type}{f:α->Nat} : ∀ {L:List α},(L.map f).Nodup->∀ {e e':α},e∈L->e'∈L->f e=f e'->e=e'
 |[],_,_,_,h,_,_=>by cases h
 |x :: L,hn,e,e',h,h',he=>by
  have hn':=List.nodup_cons.1 hn;rcases List.mem_cons.1 h with h|h
  .rcases List.mem_cons.1 h' with h'|h'
   .rw[h,h']
   .exact absurd (List.mem_map.2 ⟨e',h',by rw[<-he,h]⟩) hn'.1
  .rcases List.mem_cons.1 h' with h'|h'
   .exact absurd (List.mem_map.2 ⟨e,h,by rw[he,h']⟩) hn'.1
   .exact jA hn'.2 h h' he
def kY(L:List Ent)(s:Array Nat):Nat:=(L.filter fun e=>!s.contains e.born).length
theorem Eq{L:List Ent}{s:Array Nat}{e:Ent}(he:e∈L)(hs:s.contains e.born=false):kY L (s.push e.born)<kY L s:=by
 unfold kY;refine filter_lt (fun x:Ent=>!s.contains x.born) (fun x:Ent=>!(s.push e.born).contains x.born) (fun x hx=>?_) e ?_ ?_ L he
 .cases h:s.contains x.born with
  |false=>rfl
  |true=>
   have:=oQ (b:=e.born)|>.2 (.inl h);simp only[this]at hx;cases hx
 .simp only[hs];rfl
 .have:=oQ (s:=s) (a:=e.born) (b:=e.born)|>.2 (.inr rfl);simp only[this];rfl
theorem Gb(hb4:4<=nb)(hn1:14<=nd)(hnd:nd<=18)(hnb:nb<=64)(hX:StE X D DB DA M RB RA nd nb turn s L v) :
  aJ Tryz.prog 59 #[.pointer (some ⟨X,0,none⟩)] S v fun x S' v'=>S'=S∧Ext v v'∧∃ g t,x=.slice (some ⟨g,0,none⟩) nb nb∧v'.heap[g]?=some (.cells (fT nb t) 4)∧(∀ e∈L,t e.slot=true)∧∀ j,t j=true->∃ e∈L,e.slot=j:=by
 refine dQ Tryz.func59 rfl Tryz.ntmps59 fun Stop cc cs ret f g0=>?_
 have c0:=hX.c0;repeat refine rM c0 ?_
 refine rK Tryz.func45 (uZ (by omega) hX.dk.old) ?_;rintro _ S1 w1 _ ⟨rfl,e1,e2⟩;subst S1 w1;repeat refine rN ?_
 refine mK aB rfl rfl (by kernel_rfl) rfl (m:=nb) (wd:=1) (z:=.bool false) (by simp) (by simp) (by omega) (by omega) (by omega) Tryz.underlying68 (by kernel_rfl) rfl fun w1 hE1 hr1 hs1=>?_
 simp only[stO_some];have hX1:=hX.ext hE1;have c1:=hX1.c1;obtain⟨clock,hm1,hbn⟩:=hX1.map;have hr1':w1.heap[v.heap.size]?=some (.cells (fT nb fun _=>false) 4):=hr1
 repeat refine rM c1 ?_
 refine tN rfl rfl rfl (m:=M) (by simp) Tryz.underlying73 hm1 fun w2 hE2 hi2=>?_
 simp only[stO_some];repeat refine rN ?_
 refine bP (fun d f' S' w=>∃ seen t,d=kY L seen∧S'=S∧Ext v w∧f' 16=.pointer (some ⟨w1.heap.size,0,none⟩)∧f' 3=.slice (some ⟨v.heap.size,0,none⟩) nb nb∧w.heap[w1.heap.size]?=some (.mapIter (some M) clock seen clock)∧w.heap[v.heap.size]?=some (.cells (fT nb t) 4)∧(∀ e∈L,seen.contains e.born=true->t e.slot=true)∧∀ j,t j=true->∃ e∈L,e.slot=j) (kY L #[]) ⟨#[],fun _=>false,rfl,rfl,hE1.trans _ _ _ hE2,by simp,by simp,hi2,hE2.row hr1',fun e _ h=>by simp at h,fun j h=>by cases h⟩ ?_
 clear g0 f hE2 hi2;rintro d f S' w ⟨seen,t,rfl,eS,hEw,g16,g3,hit,hrt,ht1,ht2⟩ nxt;subst S';have hXw:=hX.ext hEw;have hmw:w.heap[M]?=some (bK L clock):=by
  have h0:M<v.heap.size:=by
   obtain⟨cl,q,_⟩:=hX.map;exact(Array.getElem?_eq_some_iff.1 q).1
  rw[hEw.block M h0,<-hE1.block M h0];exact hm1
 have hMr:M≠w1.heap.size:=by
  rintro rfl;rw[hit]at hmw;cases hmw
 have hgr:v.heap.size≠w1.heap.size:=by omega
 repeat refine rN ?_
 refine tW rfl rfl rfl (r:=w1.heap.size) (by simp[g16]) hit hmw hbn (Nat.le_refl _) (fun hall=>?_) fun e he hns w3 hW3=>?_
 .simp only[stO_some];repeat refine rN ?_
  refine rZ (by simp[Act.eval]) ?_;refine bH rfl ?_;repeat refine rN ?_
  refine aP fun todo=>?_
  refine ret _ _ S w (.slice (some ⟨v.heap.size,0,none⟩) nb nb) ?_ ⟨rfl,hEw,v.heap.size,t,rfl,hrt,fun e he=>ht1 e he (hall e he),ht2⟩
  simp[results,Tryz.results59,g3]
 .simp only[stO_some];have hEv3:Ext v w3:=bJ hEw (by omega) hW3;have hm3:=aO hW3 hmw hMr;have hrt3:=aO hW3 hrt hgr;repeat refine rN ?_
  refine rX (by simp[Act.eval]) ?_;repeat refine rN ?_
  refine Cm rfl rfl rfl (r:=w1.heap.size) (e:=e) (by simp[g16]) hW3.at_ hm3 hX.borns he ?_;simp only[stO_some];repeat refine rN ?_
  refine cM aB rfl rfl (by kernel_rfl) (.agg (aK 0 0 0 0 fun _=>false)) rfl (by kernel_rfl) fun w4 hE4 hb4' hs4=>?_
  simp only[stO_some];refine cZ aB rfl rfl (by kernel_rfl) (x:=.tmp 5) (y:=.tmp 20) (g:=w3.heap.size) (c:=bN e) rfl (by simp) (by simp) hb4' (by kernel_rfl) rfl (mN e) fun w5 hW5=>?_
  simp only[stO_none];have hvlt:v.heap.size<w3.heap.size:=(Array.getElem?_eq_some_iff.1 hrt3).1;have hEv5:Ext v w5:=bJ (hEv3.trans _ _ _ hE4) (by omega) hW5;have hrt5:=aO hW5 (hE4.row hrt3) (by omega);have hit5:=aO hW5 (hE4.row hW3.at_) (by have:=(Array.getElem?_eq_some_iff.1 hW3.at_).1;omega);have cs:w5.cell? ⟨w3.heap.size,3,none⟩=some (.int .i64 (e.slot:Nat)):=(cell_of_row _ _ _ _ _ _ hW5.at_).trans rfl;have hsl:=(hX.ent e he).slot;have hslI:(e.slot:Int)<(nb:Int):=by omega
  repeat refine rM cs ?_
  refine eR aB rfl rfl (by kernel_rfl) (x:=.tmp 24) (y:=.const (.bool true)) (g:=v.heap.size) (j:=e.slot) (z:=.bool true) rfl (by simp) (by simp) rfl rfl hrt5 (by rw[Cv];exact hsl) (by kernel_rfl) fun w6 hW6=>?_
  simp only[stO_none];rw[Ei]at hW6;repeat refine rN ?_
  refine nxt _ _ _ (kY L (seen.push e.born)) (Eq he hns) ⟨seen.push e.born,fun j=>if j=e.slot then true else t j,rfl,rfl,bJ hEv5 (Nat.le_refl _) hW6,by simp[g16],by simp[g3],aO hW6 hit5 (fun e=>hgr e.symm),hW6.at_,fun e' he' hs'=>?_,fun j hj=>?_⟩
  .rcases oQ.1 hs' with h|h
   .simp[ht1 e' he' h]
   .have:e'=e:=jA hX.borns he' he h;simp[this]
  .by_cases h:j=e.slot
   .exact⟨e,he,h.symm⟩
   .simp only[h,if_false]at hj;exact ht2 j hj
theorem Yg(g n:Nat)(t:Nat->Bool)(p:Nat)(hn:n<=64)(hp:p<n)(hpt:t p=false)(hlow:∀ j,j<p->t j=true)(hg:v.heap[g]?=some (.cells (fT n t) 4)) :
  aJ Tryz.prog 53 #[.slice (some ⟨g,0,none⟩) n n,.bool false] S v fun x S' v'=>x=.int .i64 (p:Nat)∧S'=S∧v'=v:=by
 refine dH Tryz.func53 rfl Tryz.ntmps53 fun Stop cc cs ret f g0 g1=>?_
 repeat refine rN ?_
 refine bP (fun d f' S' w=>∃ j,d=p - j∧j<=p∧S'=S∧w=v∧f' 0=.slice (some ⟨g,0,none⟩) n n∧f' 1=.bool false∧f' 7=.int .i64 (n:Nat)∧f' 8=.int .i64 (j:Nat)) p ⟨0,by omega,by omega,rfl,rfl,by simp[g0],by simp[g1],by simp[g0],by simp⟩ ?_;clear g0 g1 f;rintro d f S' w ⟨j,rfl,hj,eS,eW,g0,g1,g7,g8⟩ nxt;subst S' w;have hjn:j<n:=by omega
 have hjI:(j:Int)<(n:Int):=by omega
 have cj:v.cell? ⟨g,j,none⟩=some (.bool (t j)):=by rw[cell_of_row _ _ _ _ _ _ hg,yB hjn]
 repeat refine rN ?_
 refine rX (by simp[Act.eval,g8,g7,hjI,hjn]) ?_;by_cases hlt:j<p
 .rw[hlow j hlt]at cj;repeat refine rM cj ?_
  refine rZ (by simp[Act.eval]) ?_;repeat refine rN ?_
  refine nxt _ _ _ (p - (j+1)) (by omega) ⟨j+1,rfl,by omega,rfl,rfl,by simp[g0],by simp[g1],by simp[g7],by simp⟩
 .obtain rfl:j=p:=by omega
  rw[hpt]at cj;repeat refine rM cj ?_
  refine rX (by simp[Act.eval]) ?_;repeat refine rN ?_
  refine aP fun todo=>?_
  refine ret _ _ _ _ (.int .i64 (j:Nat)) ?_ ⟨rfl,rfl,rfl⟩;simp[results,Tryz.results53]
theorem Yh(id:Nat)(hid:id<=9999)(hn1:14<=nd)(hnd:nd<=18)(hb4:4<=nb)(hnb:nb<=64)(hL:L.length<=64)(hX:StE X D DB DA M RB RA nd nb turn s L v) :
  aJ Tryz.prog 41 #[.pointer (some ⟨X,0,none⟩),.int .i64 (id:Nat)] S v fun x S' v'=>x=.bool (decide (nb - 2<=L.length - (if (aL id L 0).isSome then 1 else 0)))∧S'=S∧Ext v v':=by
 refine dH Tryz.func41 rfl Tryz.ntmps41 fun Stop cc cs ret f g0 g1=>?_
 have c1:=hX.c1;obtain⟨clock,hm,hbn⟩:=hX.map;repeat refine rM c1 ?_
 refine Dq rfl rfl (by kernel_rfl) rfl (x:=.tmp 11) (by simp) hm ?_;simp only[stO_some];repeat refine rM c1 ?_
 refine oC rfl rfl rfl (x:=.tmp 17) (y:=.tmp 18) (id:=id) (by simp) (by simp[g1]) hm ?_;simp only[stO_some];cases hq:aL id L 0 with
 |none=>
  have hI:decide ((nb:Int) - 2<=(L.length:Int))=decide (nb - 2<=L.length - (if (none:Option (Nat×Ent)).isSome then 1 else 0)):=by
   rw[decide_eq_decide];simp;omega
  rw[hq]at ret;simp only[fO];repeat refine rN ?_
  refine cM aB rfl rfl (by kernel_rfl) (.agg (aK 0 0 0 0 fun _=>false)) rfl (by kernel_rfl) fun w2 hE2 hb2 hs2=>?_
  simp only[stO_some];refine cZ aB rfl rfl (by kernel_rfl) (x:=.tmp 6) (y:=.tmp 20) (g:=v.heap.size) (c:=aK 0 0 0 0 fun _=>false) rfl (by simp) (by simp) hb2 (by kernel_rfl) rfl (by simp[aK,Value.oneCell']) fun w3 hW3=>?_
  simp only[stO_none];have hE3:Ext v w3:=bJ hE2 (Nat.le_refl _) hW3;have hX3:=hX.ext hE3;have c3:=hX3.c0;repeat refine rN ?_
  refine rZ (by simp[Act.eval]) ?_;repeat refine rM c3 ?_
  refine rK Tryz.func45 (uZ (by omega) hX3.dk.old) ?_;rintro _ S1 w4 _ ⟨rfl,e1,e2⟩;subst S1 w4;repeat refine rN ?_
  refine aP fun todo=>?_
  refine ret _ _ S w3 _ ?_ ⟨rfl,rfl,hE3⟩;rw[<-hI];simp[results,Tryz.results41];omega
 |some q=>
  rw[hq]at ret;have hpos:0<L.length:=by
   obtain⟨n,h1,h2,h3⟩:=dY (i:=0) (j:=q.1) (e:=q.2) hq;have:=(List.getElem?_eq_some_iff.1 h2).1;omega
  have hI:decide ((nb:Int) - 2<=(L.length:Int) - 1)=decide (nb - 2<=L.length - (if (some q:Option (Nat×Ent)).isSome then 1 else 0)):=by
   rw[decide_eq_decide];simp;omega
  simp only[fO];repeat refine rN ?_
  refine cM aB rfl rfl (by kernel_rfl) (.agg (aK 0 0 0 0 fun _=>false)) rfl (by kernel_rfl) fun w2 hE2 hb2 hs2=>?_
  simp only[stO_some];refine cZ aB rfl rfl (by kernel_rfl) (x:=.tmp 6) (y:=.tmp 20) (g:=v.heap.size) (c:=bN q.2) rfl (by simp) (by simp) hb2 (by kernel_rfl) rfl (mN _) fun w3 hW3=>?_
  simp only[stO_none];have hE3:Ext v w3:=bJ hE2 (Nat.le_refl _) hW3;have hX3:=hX.ext hE3;have c3:=hX3.c0;repeat refine rN ?_
  refine rX (by simp[Act.eval]) ?_;repeat refine rM c3 ?_
  refine rK Tryz.func45 (uZ (by omega) hX3.dk.old) ?_;rintro _ S1 w4 _ ⟨rfl,e1,e2⟩;subst S1 w4;repeat refine rN ?_
  refine aP fun todo=>?_
  refine ret _ _ S w3 _ ?_ ⟨rfl,rfl,hE3⟩;rw[<-hI];simp[results,Tryz.results41];omega
end
