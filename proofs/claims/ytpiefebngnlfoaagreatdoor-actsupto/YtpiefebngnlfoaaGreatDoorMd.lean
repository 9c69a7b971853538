import Derived.Test.YtpiefebngnlfoaaGreatDoorMc
set_option maxRecDepth 99999
set_option maxHeartbeats 0
set_option linter.unusedVariables false
set_option linter.unusedSimpArgs false
namespace Go.Vw
open Go.Conc
section
variable {P:Program}{S:Nat->Prop}{v:World}{o:Oper}{a:Act}
theorem aA.checkKeyI(b:Bool)(t:TypeId)(k:IntKind)(x:Int):aA P S (Instr.checkKey b 10000 t (.int k x)):=by unfold Instr.checkKey;refine aA.bind (aA.underlying t) λd=>?_;cases d<;>first|exact aA.pure _|exact aA.stuck _
theorem aA.findAsking(hC:iB P)(t:TypeId)(k:Value):∀(es:List MapEntry)(i:Nat),aA P S (Instr.findAsking t k es i)
 |[],i=>aA.pure _
 |e::es,i=>aA.bind (aA.equal hC t k e.key) λb=>aA.ite (aA.pure _) (aA.findAsking hC t k es (i+1))
theorem aA.findKey(hC:iB P)(t:TypeId)(k:Value)(es:List MapEntry):aA P S (Instr.findKey t k es):=by
 unfold Instr.findKey;refine aA.bind (aA.underlying t) λd=>?_;split
 .exact aA.pure _
 .exact aA.findAsking hC t k es 0
theorem aA.lookup(hC:iB P)(t:TypeId)(m:Nat)(k:IntKind)(x:Int)(ok:Bool):aA P S (Instr.lookup t (.map (some m)) (.int k x) ok):=by
 unfold Instr.lookup;refine aA.bind (aA.underlying t) λd=>?_;cases d with
 |map key elem=>
  refine aA.getThen (λ_ o=>?_) (λv es=>aK.first (aK.stuck _ _ _));cases o with
  |map es c=>
   refine aA.bind (aA.pure _) λes=>aA.bind (aA.checkKeyI _ _ _ _) λ_=>aA.bind (aA.findKey hC _ _ _) λr=>?_;cases r with
   |none=>exact aA.bind (aA.zeroValue _) λ_=>aA.bind (aA.pure _) λ_=>aA.pure _
   |some q=>exact aA.bind (aA.pure _) λ_=>aA.pure _
  |_=>exact aA.of_dead λv W es _=>aK.first (aK.stuck _ _ _)
 |_=>exact aA.stuck _
theorem aA.keyStays(x y:Value):aA P S (Instr.keyThatStays x y):=by unfold Instr.keyThatStays;exact aA.ite (aA.pure _) (aA.bind (aA.choose _) λ_=>aA.pure _)
theorem aA.mapUpdate(hC:iB P)(t:TypeId)(m:Nat)(k:IntKind)(x:Int)(y:Value):aA P S (Instr.mapUpdate t (.map (some m)) (.int k x) y):=by
 unfold Instr.mapUpdate;refine aA.bind (aA.underlying t) λd=>?_;cases d with
 |map key elem=>
  refine aA.getThen (λhs o=>?_) (λv es=>aK.stuck _ _ _);cases o with
  |map es c=>
   refine aA.bind (aA.checkKeyI _ _ _ _) λ_=>aA.bind (aA.findKey hC _ _ _) λr=>?_;cases r with
   |none=>exact aA.setObj hs trivial
   |some q=>exact aA.bind (aA.keyStays _ _) λ_=>aA.setObj hs trivial
  |_=>exact aA.stuck _
 |_=>exact aA.stuck _
theorem aA.delete(hC:iB P)(t kt:TypeId)(ty:TypeId)(m:Nat)(k:IntKind)(x:Int):aA P S (Builtin.delete_ #[t,kt] ty #[.map (some m),.int k x]):=by
 unfold Builtin.delete_;refine aA.bind (aA.underlying _) λd=>?_;cases d with
 |map key elem=>
  refine aA.getThen (λhs o=>?_) (λv es=>aK.first (aK.stuck _ _ _));cases o with
  |map es c=>
   refine aA.bind (aA.checkKeyI _ _ _ _) λ_=>aA.bind (aA.findKey hC _ _ _) λr=>?_;cases r with
   |none=>exact aA.bind (aA.setObj hs trivial) λ_=>aA.pure _
   |some q=>exact aA.bind (aA.setObj hs trivial) λ_=>aA.pure _
  |_=>exact aA.of_dead λv W es _=>aK.first (aK.stuck _ _ _)
 |_=>exact aA.stuck _
theorem aA.entry(r:Nat):aA P S (Instr.entry (.pointer (some ⟨r,0,none⟩))):=by
 unfold Instr.entry;refine aA.getThen (λhs o=>?_) (λv es=>aK.stuck _ _ _);cases o with
 |mapIter mo since seen last=>
  cases mo with
  |none=>exact aA.stuck _
  |some m=>
   simp only[];split
   .refine aA.getThen (λ_ o=>?_) (λv es=>aK.stuck _ _ _);cases o with
    |map es clock=>
     simp only[];split
     .exact aA.of_dead λv W es _=>aK.first (aK.unsupported _ _ _)
     .split
      .exact aA.pure _
      .exact aA.unsupported _
    |_=>exact aA.stuck _
   .exact aA.stuck _
 |_=>exact aA.stuck _
end
end Go.Vw
namespace Go.Proofs.YtpiefebngnlfoaaGreatDoor
open Go.RowKit Go.Conc Go.Vw
structure Ent where
 id:Nat
 size:Nat
 turn:Nat
 slot:Nat
 val:Nat->Nat
 good:Nat->Bool
 born:Nat
def aL(id size turn slot:Nat)(good:Nat->Bool):Array Value:=#[.int .i64 (id:Nat),.int .i64 (size:Nat),.int .u64 (turn:Nat),.int .i64 (slot:Nat),.bool (good 0),.bool (good 1),.bool (good 2),.bool (good 3),.bool (good 4),.bool (good 5),.bool (good 6),.bool (good 7),.bool (good 8),.bool (good 9),.bool (good 10),.bool (good 11),.bool (good 12),.bool (good 13)]
def bN(e:Ent):Array Value:=aL e.id e.size e.turn e.slot e.good
def cO(e:Ent):MapEntry:=⟨.int .i64 (e.id:Nat),.agg (bN e),e.born⟩
def bL(L:List Ent)(clock:Nat):Obj:=.map (L.map cO).toArray clock
def aQ(id:Nat):List Ent->Nat->Option (Nat×Ent)
 |[],_=>none
 |e::es,i=>if e.id=id then some (i,e) else aQ id es (i+1)
theorem sP{id:Nat} : ∀{L:List Ent}{i:Nat},aQ id L i=none->∀e∈L,e.id≠id
 |[],_,_,e,h=>by cases h
 |e::es,i,h,e',h'=>by
  unfold aQ at h;split at h
  .cases h
  .rename_i dy;rcases List.mem_cons.1 h' with rfl|h'
   .exact dy
   .exact sP h e' h'
theorem eJ{id:Nat} : ∀{L:List Ent}{i j:Nat}{e:Ent},aQ id L i=some (j,e)->∃n,j=i+n∧L[n]?=some e∧e.id=id
 |[],_,_,_,h=>by cases h
 |e::es,i,j,e',h=>by
  unfold aQ at h;split at h
  .rename_i he;cases h
   exact⟨0,rfl,rfl,he⟩
  .obtain⟨n,h1,h2,h3⟩:=eJ h;exact⟨n+1,by omega,by simpa using h2,h3⟩
theorem Ct(id:Nat):∀(L:List Ent)(i:Nat),Instr.findNow (.int .i64) (.int .i64 (id:Nat)) (L.map cO) i=some ((aQ id L i).map λq=>(q.1,.agg (bN q.2)))
 |[],i=>rfl
 |e::es,i=>by
  unfold aQ;simp only[List.map_cons,Instr.findNow,cO,Instr.sameNow,if_true];by_cases h:e.id=id
  .subst h;simp
  .have:((id:Int)==(e.id:Int))=false:=by simp;omega
   rw[this,ah h];exact Ct id es (i+1)
theorem rS(id:Nat)(L:List Ent)(u:World):(Instr.findKey 3 (.int .i64 (id:Nat)) (L.map cO)).run Tryz.prog u=.ok ((aQ id L 0).map λq=>(q.1,.agg (bN q.2))) u:=by unfold Instr.findKey;simp only[df,cw Tryz.underlying3,dc];rw[Ct];rfl
theorem rI(b:Bool)(id:Nat)(u:World):(Instr.checkKey b 10000 3 (.int .i64 (id:Nat))).run Tryz.prog u=.ok () u:=by unfold Instr.checkKey;simp only[df,cw Tryz.underlying3,dc];rfl
theorem xZ:∃i,Tryz.prog.info? 123=some i∧i.zero=some (.agg (aL 0 0 0 0 λ_=>false)):=⟨_,rfl,rfl⟩
def Obj.noRow:Obj->Prop
 |.cells _ _ _=>False
 |_=>True
theorem fK{u:World}{M:Nat}{o:Obj}(h:u.heap[M]?=some o)(hn:Obj.noRow o):(getObj M).run Tryz.prog u=.ok o u:=by simp only[getObj,Sem.run,h];cases o<;>first|rfl|exact hn.elim
theorem kW{u:World}{M:Nat}{o o':Obj}(h:u.heap[M]?=some o)(hn:Obj.noRow o):∃w',(setObj M o').run Tryz.prog u=.ok () w'∧Wr u M o' w':=by
 have dp:=(Array.getElem?_eq_some_iff.1 h).1;refine⟨{u with heap:=u.heap.setIfInBounds M o'},?_,?_,λb hb=>?_,by simp,rfl,rfl⟩
 .simp only[setObj,Sem.run,h];cases o<;>first|rfl|exact hn.elim
 .simp[aj,dp]
 .have:¬M=b:=λe=>hb e.symm;simp[aj,this]
def fF(r:Option (Nat×Ent)):Value:=match r with
 |some q=>.tuple #[.agg (bN q.2),.bool true]
 |none=>.tuple #[.agg (aL 0 0 0 0 λ_=>false),.bool false]
theorem Nk{id M clock:Nat}{L:List Ent}{u:World}(hm:u.heap[M]?=some (bL L clock)):(Instr.lookup 77 (.map (some M)) (.int .i64 (id:Nat)) true).run Tryz.prog u=.ok (fF (aQ id L 0)) u:=by
 obtain⟨inf,q1,q2⟩:=xZ;unfold Instr.lookup;simp only[df,cw Tryz.underlying77,dc,fK hm trivial,bL,List.toList_toArray,dg,rI,rS];cases aQ id L 0 with
 |none=>simp[fF,zeroValue,typeInfo,q1,q2]
 |some q=>simp[fF]
def bS(L:List Ent)(e:Ent)(clock:Nat):List Ent:=match aQ e.id L 0 with
 |some (n,old)=>L.set n {e with born:=old.born}
 |none=>L++[{e with born:=clock}]
def iQ(L:List Ent)(id clock:Nat):Nat:=match aQ id L 0 with
 |some _=>clock
 |none=>clock+1
theorem Nf{M clock:Nat}{L:List Ent}{e:Ent}{u:World}(hm:u.heap[M]?=some (bL L clock)):∃w',(Instr.mapUpdate 77 (.map (some M)) (.int .i64 (e.id:Nat)) (.agg (bN e))).run Tryz.prog u=.ok () w'∧Wr u M (bL (bS L e clock) (iQ L e.id clock)) w':=by
 unfold Instr.mapUpdate;simp only[df,cw Tryz.underlying77,dc,fK hm trivial,bL,List.toList_toArray,rI,rS];cases h:aQ e.id L 0 with
 |none=>
  obtain⟨w',h1,h2⟩:=kW (o':=Obj.map ((L.map cO).toArray.push {key:=.int .i64 (e.id:Nat),val:=.agg (bN e),born:=clock}) (clock+1)) hm trivial;refine⟨w',h1,?_⟩;have:(L.map cO).toArray.push {key:=.int .i64 (e.id:Nat),val:=.agg (bN e),born:=clock} = ((bS L e clock).map cO).toArray:=by simp[bS,h,cO,bN]
  rw[this]at h2;simpa [iQ,h,bL] using h2
 |some q=>
  obtain⟨n,old⟩:=q;obtain⟨n',hn,kg,hid⟩:=eJ h;obtain rfl:n=n':=by omega
  have ZF:(Instr.keyThatStays ((((L.map cO).toArray[n]?).map (·.key)).getD (.int .i64 (e.id:Nat))) (.int .i64 (e.id:Nat))).run Tryz.prog u=.ok (.int .i64 (e.id:Nat)) u:=by
   have:(L.map cO).toArray[n]?=some (cO old):=by simp[kg]
   rw[this];simp[Instr.keyThatStays,cO,hid,Instr.sameBits]
  obtain⟨w',h1,h2⟩:=kW (o':=Obj.map ((L.map cO).toArray.modify n λx=>{x with key:=.int .i64 (e.id:Nat),val:=.agg (bN e)}) clock) hm trivial
  refine⟨w',?_,?_⟩
  .simp only[bt,df,ZF,dc];exact h1
  .have:(L.map cO).toArray.modify n (λx=>{x with key:=.int .i64 (e.id:Nat),val:=.agg (bN e)})=((bS L e clock).map cO).toArray:=by
    apply Array.ext';simp only[Array.toList_modify,bS,h,List.map_set];apply List.ext_getElem?;intro i;rw[List.getElem?_modify,List.getElem?_set];by_cases hi:n=i
    .subst hi;have hb:L[n]'(List.getElem?_eq_some_iff.1 kg).1=old:=(List.getElem?_eq_some_iff.1 kg).2;simp[kg,cO,bN,(List.getElem?_eq_some_iff.1 kg).1,hb]
    .simp[hi]
   rw[this]at h2;simpa [iQ,h,bL] using h2
theorem Fk{α β : Type}(f:α->β):∀(L:List α)(n:Nat),(L.map f).eraseIdx n=(L.eraseIdx n).map f
 |[],n=>rfl
 |x::L,0=>rfl
 |x::L,n+1=>by simp only[List.map_cons,List.eraseIdx_cons_succ,Fk f L n]
def fH(L:List Ent)(id:Nat):List Ent:=match aQ id L 0 with
 |some (n,_)=>L.eraseIdx n
 |none=>L
theorem Np{M clock id:Nat}{kt ty:TypeId}{L:List Ent}{u:World}(hm:u.heap[M]?=some (bL L clock)):∃w',(Builtin.delete_ #[77,kt] ty #[.map (some M),.int .i64 (id:Nat)]).run Tryz.prog u=.ok (.tuple #[]) w'∧Wr u M (bL (fH L id) clock) w':=by
 unfold Builtin.delete_;simp only[List.getElem?_toArray,List.getElem?_cons_zero,List.getElem?_cons_succ,df,cw Tryz.underlying77,dc,fK hm trivial,bL,List.toList_toArray,rI,rS];cases h:aQ id L 0 with
 |none=>
  obtain⟨w',h1,h2⟩:=kW (o':=Obj.map (L.map cO).toArray clock) hm trivial;refine⟨w',?_,?_⟩
  .simp only[Option.map_none,df,h1,dc,dg]
  .simpa [fH,h,bL] using h2
 |some q=>
  obtain⟨n,old⟩:=q;obtain⟨n',hn,kg,hid⟩:=eJ h;obtain rfl:n=n':=by omega
  obtain⟨w',h1,h2⟩:=kW (o':=Obj.map ((L.map cO).toArray.eraseIdxIfInBounds n) clock) hm trivial;refine⟨w',?_,?_⟩
  .simp only[bt,df,h1,dc,dg]
  .have dp:=(List.getElem?_eq_some_iff.1 kg).1;have:(L.map cO).toArray.eraseIdxIfInBounds n=((fH L id).map cO).toArray:=by
    apply Array.ext';simp[fH,h,Array.eraseIdxIfInBounds,dp,Fk]
   rw[this]at h2;simpa [fH,h,bL] using h2
theorem Uc{o:Oper}{a:Act}{x:Operand}{M clock:Nat}{L:List Ent}{u:World}(dm:o.op=Op.call {callee:=Callee.builtin Builtin.len,args:=#[x],argTypes:=#[77]})(hx:a.eval x=.map (some M))(hm:u.heap[M]?=some (bL L clock)):(execOp a.eval o).run Tryz.prog u=.ok (.value (.int .i64 (L.length:Nat))) u:=by unfold execOp;simp[dm,hx,resolve,invoke,builtin,Builtin.len_,cw Tryz.underlying77,MapKept.run_getObj_map hm];rfl
theorem Ub{r M since last clock:Nat}{seen:Array Nat}{L:List Ent}{ty:TypeId}{u:World}(hr:u.heap[r]?=some (.mapIter (some M) since seen last))(hm:u.heap[M]?=some (bL L clock))(hold:∀e∈L,e.born<since)(XU:since<=last):((∀e∈L,seen.contains e.born=true)∧(Instr.next (.pointer (some ⟨r,0,none⟩)) false ty).run Tryz.prog u=.ok (.tuple #[.bool false]) u)∨
  ∃e∈L,seen.contains e.born=false∧∃w',(Instr.next (.pointer (some ⟨r,0,none⟩)) false ty).run Tryz.prog u=.ok (.tuple #[.bool true,.int .i64 (e.id:Nat),.agg (bN e)]) w'∧Wr u r (.mapIter (some M) since (seen.push e.born) clock) w':=by
 have RG:∀x∈(L.map cO).toArray.toList,x.born<since:=λx hx=>by simp only[List.toList_toArray,List.mem_map]at hx;obtain⟨e,he,rfl⟩:=hx;exact hold e he
 have ht:=next_test_false seen (L.map cO).toArray since last RG XU;simp only[Instr.next,df,fK hr trivial,dc,fK hm trivial,bL,ht,ay,if_false];have DD:∀x∈(Array.filter (λe=>!seen.contains e.born) (L.map cO).toArray).toList,∃e∈L,x=cO e∧seen.contains e.born=false:=λx hx=>by simp only[Array.toList_filter,List.toList_toArray,List.mem_filter,List.mem_map,Bool.not_eq_true']at hx;obtain⟨⟨e,he,rfl⟩,h2⟩:=hx;exact⟨e,he,rfl,h2⟩
 have fa:Array.filter (λe=>!seen.contains e.born) (L.map cO).toArray=#[]->∀e∈L,seen.contains e.born=true:=λh e he=>by rw[Array.filter_eq_empty_iff]at h;have:=h (cO e) (by simpa using ⟨e,he,rfl⟩);simpa [cO] using this
 generalize Array.filter (λe=>!seen.contains e.born) (L.map cO).toArray=Q at DD fa⊢;have hq:∀x∈Q,x.born<since:=λx hx=>by obtain⟨e,he,rfl,_⟩:=DD x (by simpa using hx);exact hold e he
 have e1:Q.filter (λx=>decide (x.born<since))=Q:=Array.filter_eq_self.2 (λx hx=>by simpa using hq x hx);have e2:Q.filter (λx=>decide (x.born ≥ since))=#[]:=by rw[Array.filter_eq_empty_iff];intro x hx;have:=hq x hx;simp;omega
 simp only[e1,e2,Array.append_empty];by_cases h0:Q.size=0
 .left;have:Q=#[]:=Array.eq_empty_of_size_eq_zero h0;subst this;refine⟨fa rfl,?_⟩;simp[choose,Sem.run,Question.forced]
 .right;have dy:Q.isEmpty=false:=by simp[Array.isEmpty,h0]
  simp only[dy,ay,if_false,Array.empty_append,Array.size_map];have SZ:∃(j:Nat)(w1:World),j<Q.size∧Vw.Twin u w1∧(choose (Question.mapNext Q.size)).run Tryz.prog u=.ok j w1:=by
   by_cases hf:Q.size<=1
   .exact⟨0,u,by omega,.refl u,by simp[choose,Sem.run,Question.forced,hf]⟩
   .exact⟨_,u.drew,Nat.mod_lt _ (by omega),⟨rfl,rfl,rfl⟩,by
     simp only[choose,Sem.run,Question.forced,decide_eq_true_eq,hf,if_false,Question.cut]
     rfl⟩
  obtain⟨j,w1,hj,TJ,dq⟩:=SZ;obtain⟨e,he,D9,JG⟩:=DD Q[j] (by simp);obtain⟨w',hs,hW⟩:=kW (o':=.mapIter (some M) since (seen.push Q[j].born) clock) ((Ext.twin TJ).row hr) trivial;refine⟨e,he,JG,w',?_,?_⟩
  .simp only[dq,bj,bf hj,bt,df,hs,dc,dg];rw[D9];rfl
  .rw[D9]at hW;exact⟨hW.at_,λb hb=>by rw[hW.other b hb,TJ.heap],by rw[hW.size,TJ.heap],hW.os.trans TJ.os,hW.output.trans TJ.output⟩
theorem Ej{e:Ent} : ∀{L:List Ent},(L.map (·.born)).Nodup->e∈L->(L.map cO).find? (·.born==e.born)=some (cO e)
 |[],_,h=>by cases h
 |x::L,hn,h=>by
  have zv:=List.nodup_cons.1 hn;rw[List.map_cons,List.find?_cons];by_cases hx:x.born=e.born
  .have:x=e:=by
    rcases List.mem_cons.1 h with h|h
    .exact h.symm
    .exact absurd (show x.born∈L.map (·.born) by rw[hx];exact List.mem_map.2 ⟨e,h,rfl⟩) zv.1
   subst this;simp[cO]
  .have hb:((cO x).born==e.born)=false:=by simpa [cO] using hx
   rw[hb];rcases List.mem_cons.1 h with h|h
   .exact absurd (by rw[h]) hx
   .exact Ej zv.2 h
theorem Qd{r M since clock:Nat}{seen:Array Nat}{L:List Ent}{e:Ent}{u:World}(hr:u.heap[r]?=some (.mapIter (some M) since (seen.push e.born) clock))(hm:u.heap[M]?=some (bL L clock))(hb:(L.map (·.born)).Nodup)(he:e∈L):(Instr.entry (.pointer (some ⟨r,0,none⟩))).run Tryz.prog u=.ok (.tuple #[.int .i64 (e.id:Nat),.agg (bN e)]) u:=by
 have hf:(L.map cO).toArray.find? (·.born==e.born)=some (cO e):=by rw[<-Array.find?_toList];exact Ej hb he
 simp only[Instr.entry,df,fK hr trivial,dc,fK hm trivial,bL,Array.back?_push,bne_self_eq_false,ay,if_false,hf];rfl
section
variable {Stop:Goroutine->(Nat->Prop)->World->Prop}{S:Nat->Prop}{v:World}{fn:FuncId}{cs:List Frame}{k:List Item}{n:Nat}{f:Nat->Value}{ops:Array Oper}{i:Nat}{rest:List Nat}{dst:Option Tmp}{op:Op}{ty:TypeId}{pos:String}{dw:Array Edge}{dv:Option (Nat×Bool)}{M clock:Nat}{L:List Ent}
theorem lY{x y:Operand}{id:Nat}(ho:ops[i]?=some ⟨dst,op,ty,pos,dw,dv⟩)(hw:Region.wanted ⟨dst,op,ty,pos,dw,dv⟩ (yielded ops (TA n f))=true)(dm:op=.lookup 77 x y true)(hx:(⟨TA n f,[]⟩:Act).eval x=.map (some M))(hy:(⟨TA n f,[]⟩:Act).eval y=.int .i64 (id:Nat))(hm:v.heap[M]?=some (bL L clock))
  (hn:Vw.Reach Tryz.prog Stop (G ((base fn).at ⟨TA n (aG f dst (fF (aQ id L 0))),[]⟩ (.inRegion ops rest::k)) cs) S v):Vw.Reach Tryz.prog Stop (G ((base fn).at ⟨TA n f,[]⟩ (.inRegion ops (i::rest)::k)) cs) S v:=by
 refine fC (by simp[base]) ho hw ?_ λu hu=>⟨fF (aQ id L 0),u,.inl ?_,?_⟩
 .unfold execOp;simp only[dm,hx,hy];exact aA.bind (aA.lookup lO _ _ _ _ _) λ_=>aA.pure _
 .unfold execOp;simp only[dm,hx,hy,df,Nk ((Ext.twin hu).row hm),dc,dg]
 .rw[cC];exact Reach.twin ⟨hu.heap.symm,hu.os.symm,hu.output.symm⟩ hn
theorem qB{v u w:World}{g:Nat}{o:Obj}(h:Vw.Twin v u)(hW:Wr u g o w):Wr v g o w:=⟨hW.at_,λb hb=>(hW.other b hb).trans (by rw[h.heap]),hW.size.trans (by rw[h.heap]),hW.os.trans h.os,hW.output.trans h.output⟩
theorem vF{x y z:Operand}{e:Ent}(ho:ops[i]?=some ⟨dst,op,ty,pos,dw,dv⟩)(hw:Region.wanted ⟨dst,op,ty,pos,dw,dv⟩ (yielded ops (TA n f))=true)(dm:op=.mapUpdate 77 x y z)(hx:(⟨TA n f,[]⟩:Act).eval x=.map (some M))(hy:(⟨TA n f,[]⟩:Act).eval y=.int .i64 (e.id:Nat))(hz:(⟨TA n f,[]⟩:Act).eval z=.agg (bN e))(hm:v.heap[M]?=some (bL L clock))
  (hn:∀w',Wr v M (bL (bS L e clock) (iQ L e.id clock)) w'->Vw.Reach Tryz.prog Stop (G ((base fn).at ⟨TA n (aG f dst undef),[]⟩ (.inRegion ops rest::k)) cs) S w'):Vw.Reach Tryz.prog Stop (G ((base fn).at ⟨TA n f,[]⟩ (.inRegion ops (i::rest)::k)) cs) S v:=by
 refine fC (by simp[base]) ho hw ?_ λu hu=>?_
 .unfold execOp;simp only[dm,hx,hy,hz];exact aA.bind (aA.mapUpdate lO _ _ _ _ _) λ_=>aA.pure _
 .obtain⟨w',h1,h2⟩:=Nf (e:=e) ((Ext.twin hu).row hm);refine⟨undef,w',.inr ⟨?_,rfl⟩,?_⟩
  .unfold execOp;simp only[dm,hx,hy,hz,df,h1,dc,dg]
  .rw[cC];exact hn w' (qB hu h2)
theorem Kt{x y:Operand}{kt:TypeId}{id:Nat}(ho:ops[i]?=some ⟨dst,op,ty,pos,dw,dv⟩)(hw:Region.wanted ⟨dst,op,ty,pos,dw,dv⟩ (yielded ops (TA n f))=true)(dm:op=.call {callee:=.builtin .delete,args:=#[x,y],argTypes:=#[77,kt]})(hx:(⟨TA n f,[]⟩:Act).eval x=.map (some M))(hy:(⟨TA n f,[]⟩:Act).eval y=.int .i64 (id:Nat))(hm:v.heap[M]?=some (bL L clock))
  (hn:∀w',Wr v M (bL (fH L id) clock) w'->Vw.Reach Tryz.prog Stop (G ((base fn).at ⟨TA n (aG f dst (.tuple #[])),[]⟩ (.inRegion ops rest::k)) cs) S w'):Vw.Reach Tryz.prog Stop (G ((base fn).at ⟨TA n f,[]⟩ (.inRegion ops (i::rest)::k)) cs) S v:=by
 refine fC (by simp[base]) ho hw ?_ λu hu=>?_
 .unfold execOp;simp only[dm,resolve,invoke,builtin,List.map_toArray,List.map_cons,List.map_nil,hx,hy];show aA Tryz.prog S (Builtin.delete_ #[77,kt] ty #[.map (some M),.int .i64 (id:Nat)] >>= λr=>pure (Next.value r))
  exact aA.bind (aA.delete lO _ _ _ _ _ _) λ_=>aA.pure _
 .obtain⟨w',h1,h2⟩:=Np (kt:=kt) (ty:=ty) (id:=id) ((Ext.twin hu).row hm);refine⟨.tuple #[],w',.inl ?_,?_⟩
  .unfold execOp;simp[dm,resolve,invoke,builtin,hx,hy,h1]
  .rw[cC];exact hn w' (qB hu h2)
theorem sI{x:Operand}{r since last:Nat}{seen:Array Nat}(ho:ops[i]?=some ⟨dst,op,ty,pos,dw,dv⟩)(hw:Region.wanted ⟨dst,op,ty,pos,dw,dv⟩ (yielded ops (TA n f))=true)(dm:op=.next x false)(hx:(⟨TA n f,[]⟩:Act).eval x=.pointer (some ⟨r,0,none⟩))(hr:v.heap[r]?=some (.mapIter (some M) since seen last))(hm:v.heap[M]?=some (bL L clock))(hold:∀e∈L,e.born<since)(XU:since<=last)
  (jb:(∀e∈L,seen.contains e.born=true)->Vw.Reach Tryz.prog Stop (G ((base fn).at ⟨TA n (aG f dst (.tuple #[.bool false])),[]⟩ (.inRegion ops rest::k)) cs) S v)
  (LU:∀e∈L,seen.contains e.born=false->∀w',Wr v r (.mapIter (some M) since (seen.push e.born) clock) w'->Vw.Reach Tryz.prog Stop (G ((base fn).at ⟨TA n (aG f dst (.tuple #[.bool true,.int .i64 (e.id:Nat),.agg (bN e)])),[]⟩ (.inRegion ops rest::k)) cs) S w'):Vw.Reach Tryz.prog Stop (G ((base fn).at ⟨TA n f,[]⟩ (.inRegion ops (i::rest)::k)) cs) S v:=by
 refine fC (by simp[base]) ho hw (sF dm hx) λu hu=>?_
 rcases Ub (ty:=ty) ((Ext.twin hu).row hr) ((Ext.twin hu).row hm) hold XU with⟨fa,dq⟩|⟨e,he,JG,w',dq,hW⟩
 .refine⟨.tuple #[.bool false],u,.inl ?_,?_⟩
  .unfold execOp;simp only[dm,hx,df,dq,dc,dg]
  .rw[cC];exact Reach.twin ⟨hu.heap.symm,hu.os.symm,hu.output.symm⟩ (jb fa)
 .refine⟨.tuple #[.bool true,.int .i64 (e.id:Nat),.agg (bN e)],w',.inl ?_,?_⟩
  .unfold execOp;simp only[dm,hx,df,dq,dc,dg]
  .rw[cC];exact LU e he JG w' (qB hu hW)
theorem Be{x:Operand}{r since:Nat}{seen:Array Nat}{e:Ent}(ho:ops[i]?=some ⟨dst,op,ty,pos,dw,dv⟩)(hw:Region.wanted ⟨dst,op,ty,pos,dw,dv⟩ (yielded ops (TA n f))=true)(dm:op=.entry x)(hx:(⟨TA n f,[]⟩:Act).eval x=.pointer (some ⟨r,0,none⟩))(hr:v.heap[r]?=some (.mapIter (some M) since (seen.push e.born) clock))(hm:v.heap[M]?=some (bL L clock))(hb:(L.map (·.born)).Nodup)(he:e∈L)
  (hn:Vw.Reach Tryz.prog Stop (G ((base fn).at ⟨TA n (aG f dst (.tuple #[.int .i64 (e.id:Nat),.agg (bN e)])),[]⟩ (.inRegion ops rest::k)) cs) S v):Vw.Reach Tryz.prog Stop (G ((base fn).at ⟨TA n f,[]⟩ (.inRegion ops (i::rest)::k)) cs) S v:=by
 refine fC (by simp[base]) ho hw ?_ λu hu=>⟨.tuple #[.int .i64 (e.id:Nat),.agg (bN e)],u,.inl ?_,?_⟩
 .unfold execOp;simp only[dm,hx];exact aA.bind (aA.entry _) λ_=>aA.pure _
 .unfold execOp;simp only[dm,hx,df,Qd ((Ext.twin hu).row hr) ((Ext.twin hu).row hm) hb he,dc,dg]
 .rw[cC];exact Reach.twin ⟨hu.heap.symm,hu.os.symm,hu.output.symm⟩ hn
theorem Ck{x:Operand}(ho:ops[i]?=some ⟨dst,op,ty,pos,dw,dv⟩)(hw:Region.wanted ⟨dst,op,ty,pos,dw,dv⟩ (yielded ops (TA n f))=true)(dx:bW Tryz.prog FG ⟨dst,op,ty,pos,dw,dv⟩=true)(dm:op=Op.call {callee:=Callee.builtin Builtin.len,args:=#[x],argTypes:=#[77]})(hx:(⟨TA n f,[]⟩:Act).eval x=.map (some M))(hm:v.heap[M]?=some (bL L clock))
  (hn:Vw.Reach Tryz.prog Stop (G ((base fn).at ⟨TA n (aG f dst (.int .i64 (L.length:Nat))),[]⟩ (.inRegion ops rest::k)) cs) S v):Vw.Reach Tryz.prog Stop (G ((base fn).at ⟨TA n f,[]⟩ (.inRegion ops (i::rest)::k)) cs) S v:=
 bV aB ho hw dx (λu hu=>Uc dm hx ((Ext.twin hu).row hm)) hn
end
def aT(g:Nat->Bool)(n:Nat):Nat:=((List.range n).filter g).length
structure EntOk(nb turn:Nat)(c:Nat->Nat->Nat->Nat)(e:Ent):Prop where
 id1:1<=e.id
 id2:e.id<=9999
 size:e.size<=400
 turn:e.turn<=turn
 slot:e.slot<nb
 val:∀i,e.val i<256
 ten:10<=aT e.good 14
 blk:∀k,k<14->e.good k=true->∀j,j<96->c k e.slot j=bB e.id e.size e.turn k ((e.size+9)/10) (bJ e.val e.size k) j
structure StE(X D DB DA M:Nat)(RB RA:Nat->Nat)(nd nb turn:Nat)(s:Dsk)(L:List Ent)(w:World):Prop where
 row:w.heap[X]?=some (.cells #[.pointer (some ⟨D,0,none⟩),.map (some M),.int .u64 (turn:Nat)] 80)
 map:∃clock,w.heap[M]?=some (bL L clock)∧∀e∈L,e.born<clock
 dk:DiskG D DB DA RB RA nd nb s w
 ent:∀e∈L,EntOk nb turn s.c e
 ids:(L.map (·.id)).Nodup
 slots:(L.map (·.slot)).Nodup
 borns:(L.map (·.born)).Nodup
def dG(X D M:Nat)(RB RA:Nat->Nat)(nd:Nat)(b:Nat):Prop:=b=X∨b=M∨eH D RB RA nd b
section
variable {X D DB DA M:Nat}{RB RA:Nat->Nat}{nd nb turn:Nat}{s:Dsk}{L:List Ent}{w w' v:World}{S:Nat->Prop}
theorem StE.kp(h:StE X D DB DA M RB RA nd nb turn s L w)(hK:Kp w (λ_=>False) w'):StE X D DB DA M RB RA nd nb turn s L w':=
 ⟨hK.cells _ _ _ _ (λx=>x) h.row,let ⟨cl,q1,q2⟩:=h.map;⟨cl,hK.objs _ _ (λx=>x) q1 trivial,q2⟩,h.dk.kp0 hK,h.ent,h.ids,h.slots,h.borns⟩
theorem StE.ext(h:StE X D DB DA M RB RA nd nb turn s L w)(hE:Ext w w'):StE X D DB DA M RB RA nd nb turn s L w':=h.kp (aS hE)
theorem StE.c0(h:StE X D DB DA M RB RA nd nb turn s L w):w.cell? ⟨X,0,none⟩=some (.pointer (some ⟨D,0,none⟩)):=(ab _ _ _ _ _ _ h.row).trans rfl
theorem StE.c1(h:StE X D DB DA M RB RA nd nb turn s L w):w.cell? ⟨X,1,none⟩=some (.map (some M)):=(ab _ _ _ _ _ _ h.row).trans rfl
theorem StE.c2(h:StE X D DB DA M RB RA nd nb turn s L w):w.cell? ⟨X,2,none⟩=some (.int .u64 (turn:Nat)):=(ab _ _ _ _ _ _ h.row).trans rfl
def gK(n:Nat)(t:Nat->Bool):Array Value:=(Array.range n).map λi=>.bool (t i)
theorem Mt(n:Nat)(t:Nat->Bool):(gK n t).size=n:=by simp[gK]
theorem Da{n i:Nat}{t:Nat->Bool}(h:i<n):(gK n t)[i]?=some (.bool (t i)):=by simp[gK,h]
theorem Or{n i:Nat}{t:Nat->Bool} : (gK n t).setIfInBounds i (.bool true)=gK n λj=>if j=i then true else t j:=by
 apply au;intro j;rw[aj];by_cases e:i=j
 .subst e;by_cases hi:i<n<;>simp[gK,hi]
 .rw[ah e];have:¬j=i:=λh=>e h.symm;by_cases hj:j<n<;>simp[gK,hj,this]
theorem oG{s:Array Nat}{a b:Nat} : (s.push b).contains a=true↔s.contains a=true∨a=b:=by simp
theorem mF(e:Ent):(bN e).all (·.oneCell')=true:=by simp[bN,aL,Value.oneCell']
theorem iF{α : Type}{f:α->Nat} : ∀{L:List α},(L.map f).Nodup->∀{e e':α},e∈L->e'∈L->f e=f e'->e=e'
 |[],_,_,_,h,_,_=>by cases h
 |x::L,hn,e,e',h,h',he=>by
  have zv:=List.nodup_cons.1 hn;rcases List.mem_cons.1 h with h|h
  .rcases List.mem_cons.1 h' with h'|h'
   .rw[h,h']
   .exact absurd (List.mem_map.2 ⟨e',h',by rw[<-he,h]⟩) zv.1
  .rcases List.mem_cons.1 h' with h'|h'
   .exact absurd (List.mem_map.2 ⟨e,h,by rw[he,h']⟩) zv.1
   .exact iF zv.2 h h' he
def kJ(L:List Ent)(s:Array Nat):Nat:=(L.filter λe=>!s.contains e.born).length
theorem Dh{L:List Ent}{s:Array Nat}{e:Ent}(he:e∈L)(hs:s.contains e.born=false):kJ L (s.push e.born)<kJ L s:=by
 unfold kJ;refine filter_lt (λx:Ent=>!s.contains x.born) (λx:Ent=>!(s.push e.born).contains x.born) (λx hx=>?_) e ?_ ?_ L he
 .cases h:s.contains x.born with
  |false=>rfl
  |true=>have:=oG (b:=e.born)|>.2 (.inl h);simp only[this]at hx;cases hx
 .simp only[hs];rfl
 .have:=oG (s:=s) (a:=e.born) (b:=e.born)|>.2 (.inr rfl);simp only[this];rfl
theorem Ez(kl:4<=nb)(jb:14<=nd)(gh:nd<=18)(eu:nb<=64)(hX:StE X D DB DA M RB RA nd nb turn s L v):aJ Tryz.prog 56 #[.pointer (some ⟨X,0,none⟩)] S v λx S' v'=>S'=S∧Ext v v'∧∃g t,x=.slice (some ⟨g,0,none⟩) nb nb∧v'.heap[g]?=some (.cells (gK nb t) 4)∧(∀e∈L,t e.slot=true)∧∀j,t j=true->∃e∈L,e.slot=j:=by
 refine dX Tryz.func56 rfl Tryz.ntmps56 λStop cc cs ret f g0=>?_;have c0:=hX.c0;repeat refine rM c0 ?_
 refine rK Tryz.func25 (tD (by omega) hX.dk.old) ?_;rintro _ S1 w1 _ ⟨rfl,e1,e2⟩;subst S1 w1;repeat refine rN ?_
 refine nU aB rfl rfl (by kernel_rfl) rfl (m:=nb) (wd:=1) (z:=.bool false) (by simp) (by simp) (by omega) (by omega) (by omega) Tryz.underlying103 (by kernel_rfl) rfl λw1 eh sb jg=>?_;simp only[stO_some];have ss:=hX.ext eh;have c1:=ss.c1;obtain⟨clock,nh,qp⟩:=ss.map;have GH:w1.heap[v.heap.size]?=some (.cells (gK nb λ_=>false) 4):=sb
 repeat refine rM c1 ?_
 refine sB rfl rfl rfl (m:=M) (by simp) Tryz.underlying77 nh λw2 ep zy=>?_;simp only[stO_some];repeat refine rN ?_
 refine bF (λd f' S' w=>∃seen t,d=kJ L seen∧S'=S∧Ext v w∧f' 16=.pointer (some ⟨w1.heap.size,0,none⟩)∧f' 3=.slice (some ⟨v.heap.size,0,none⟩) nb nb∧w.heap[w1.heap.size]?=some (.mapIter (some M) clock seen clock)∧w.heap[v.heap.size]?=some (.cells (gK nb t) 4)∧(∀e∈L,seen.contains e.born=true->t e.slot=true)∧∀j,t j=true->∃e∈L,e.slot=j) (kJ L #[]) ⟨#[],λ_=>false,rfl,rfl,eh.trans _ _ _ ep,by simp,by simp,zy,ep.row GH,λe _ h=>by simp at h,λj h=>by cases h⟩ ?_;clear g0 f ep zy;rintro d f S' w ⟨seen,t,rfl,eS,fj,g16,g3,hit,QO,OC,OB⟩ dj;subst S';have jq:=hX.ext fj;have se:w.heap[M]?=some (bL L clock):=by
  have h0:M<v.heap.size:=by obtain⟨cl,q,_⟩:=hX.map;exact(Array.getElem?_eq_some_iff.1 q).1
  rw[fj.block M h0,<-eh.block M h0];exact nh
 have l5:M≠w1.heap.size:=by rintro rfl;rw[hit]at se;cases se
 have ZO:v.heap.size≠w1.heap.size:=by omega
 repeat refine rN ?_
 refine sI rfl rfl rfl (r:=w1.heap.size) (by simp[g16]) hit se qp (ae _) (λfa=>?_) λe he JG w3 fz=>?_
 .simp only[stO_some];repeat refine rN ?_
  refine rZ (by simp[Act.eval]) ?_;refine bC rfl ?_;repeat refine rN ?_
  refine aM λtodo=>?_;refine ret _ _ S w (.slice (some ⟨v.heap.size,0,none⟩) nb nb) ?_ ⟨rfl,fj,v.heap.size,t,rfl,QO,λe he=>OC e he (fa e he),OB⟩;simp[results,Tryz.results56,g3]
 .simp only[stO_some];have IC:Ext v w3:=bO fj (by omega) fz;have FA:=aO fz se l5;have GF:=aO fz QO ZO;repeat refine rN ?_
  refine rX (by simp[Act.eval]) ?_;repeat refine rN ?_
  refine Be rfl rfl rfl (r:=w1.heap.size) (e:=e) (by simp[g16]) fz.at_ FA hX.borns he ?_;simp only[stO_some];repeat refine rN ?_
  refine cD aB rfl rfl (by kernel_rfl) (.agg (aL 0 0 0 0 λ_=>false)) rfl (by kernel_rfl) λw4 gn AD AT=>?_;simp only[stO_some];refine cS aB rfl rfl (by kernel_rfl) (x:=.tmp 5) (y:=.tmp 20) (g:=w3.heap.size) (c:=bN e) rfl (by simp) (by simp) AD (by kernel_rfl) rfl (mF e) λw5 jc=>?_;simp only[stO_none];have QE:v.heap.size<w3.heap.size:=(Array.getElem?_eq_some_iff.1 GF).1;have NG:Ext v w5:=bO (IC.trans _ _ _ gn) (by omega) jc;have GD:=aO jc (gn.row GF) (by omega);have MD:=aO jc (gn.row fz.at_) (by have:=(Array.getElem?_eq_some_iff.1 fz.at_).1;omega);have cs:w5.cell? ⟨w3.heap.size,3,none⟩=some (.int .i64 (e.slot:Nat)):=(ab _ _ _ _ _ _ jc.at_).trans rfl;have qo:=(hX.ent e he).slot;have Y0:(e.slot:Int)<(nb:Int):=by omega
  repeat refine rM cs ?_
  refine dQ aB rfl rfl (by kernel_rfl) (x:=.tmp 24) (y:=.const (.bool true)) (g:=v.heap.size) (j:=e.slot) (z:=.bool true) rfl (by simp) (by simp) rfl rfl GD (by rw[Mt];exact qo) (by kernel_rfl) λw6 ku=>?_;simp only[stO_none];rw[Or]at ku;repeat refine rN ?_
  refine dj _ _ _ (kJ L (seen.push e.born)) (Dh he JG) ⟨seen.push e.born,λj=>if j=e.slot then true else t j,rfl,rfl,bO NG (ae _) ku,by simp[g16],by simp[g3],aO ku MD (λe=>ZO e.symm),ku.at_,λe' sr im=>?_,λj hj=>?_⟩
  .rcases oG.1 im with h|h
   .simp[OC e' sr h]
   .have:e'=e:=iF hX.borns sr he h;simp[this]
  .by_cases h:j=e.slot
   .exact⟨e,he,h.symm⟩
   .simp only[h,if_false]at hj;exact OB j hj
theorem Xz(g n:Nat)(t:Nat->Bool)(p:Nat)(hn:n<=64)(hp:p<n)(QZ:t p=false)(fq:∀j,j<p->t j=true)(hg:v.heap[g]?=some (.cells (gK n t) 4)):aJ Tryz.prog 69 #[.slice (some ⟨g,0,none⟩) n n,.bool false] S v λx S' v'=>x=.int .i64 (p:Nat)∧S'=S∧v'=v:=by
 refine cX Tryz.func69 rfl Tryz.ntmps69 λStop cc cs ret f g0 g1=>?_
 repeat refine rN ?_
 refine bF (λd f' S' w=>∃j,d=p-j∧j<=p∧S'=S∧w=v∧f' 0=.slice (some ⟨g,0,none⟩) n n∧f' 1=.bool false∧f' 7=.int .i64 (n:Nat)∧f' 8=.int .i64 (j:Nat)) p ⟨0,by omega,by omega,rfl,rfl,by simp[g0],by simp[g1],by simp[g0],by simp⟩ ?_;clear g0 g1 f;rintro d f S' w ⟨j,rfl,hj,eS,eW,g0,g1,g7,g8⟩ dj;subst S' w;have JL:j<n:=by omega
 have ja:(j:Int)<(n:Int):=by omega
 have cj:v.cell? ⟨g,j,none⟩=some (.bool (t j)):=by rw[ab _ _ _ _ _ _ hg,Da JL]
 repeat refine rN ?_
 refine rX (by simp[Act.eval,g8,g7,ja,JL]) ?_;by_cases dp:j<p
 .rw[fq j dp]at cj;repeat refine rM cj ?_
  refine rZ (by simp[Act.eval]) ?_;repeat refine rN ?_
  refine dj _ _ _ (p-(j+1)) (by omega) ⟨j+1,rfl,by omega,rfl,rfl,by simp[g0],by simp[g1],by simp[g7],by simp⟩
 .obtain rfl:j=p:=by omega
  rw[QZ]at cj;repeat refine rM cj ?_
  refine rX (by simp[Act.eval]) ?_;repeat refine rN ?_
  refine aM λtodo=>?_;refine ret _ _ _ _ (.int .i64 (j:Nat)) ?_ ⟨rfl,rfl,rfl⟩;simp[results,Tryz.results69]
theorem Ya(id:Nat)(hid:id<=9999)(jb:14<=nd)(gh:nd<=18)(kl:4<=nb)(eu:nb<=64)(hL:L.length<=64)(hX:StE X D DB DA M RB RA nd nb turn s L v):aJ Tryz.prog 60 #[.pointer (some ⟨X,0,none⟩),.int .i64 (id:Nat)] S v λx S' v'=>x=.bool (decide (nb-2<=L.length-(if (aQ id L 0).isSome then 1 else 0)))∧S'=S∧Ext v v':=by
 refine cX Tryz.func60 rfl Tryz.ntmps60 λStop cc cs ret f g0 g1=>?_;have c1:=hX.c1;obtain⟨clock,hm,qp⟩:=hX.map;repeat refine rM c1 ?_
 refine Ck rfl rfl (by kernel_rfl) rfl (x:=.tmp 11) (by simp) hm ?_;simp only[stO_some];repeat refine rM c1 ?_
 refine lY rfl rfl rfl (x:=.tmp 17) (y:=.tmp 18) (id:=id) (by simp) (by simp[g1]) hm ?_;simp only[stO_some];cases hq:aQ id L 0 with
 |none=>
  have hI:decide ((nb:Int)-2<=(L.length:Int))=decide (nb-2<=L.length-(if (none:Option (Nat×Ent)).isSome then 1 else 0)):=by rw[decide_eq_decide];simp;omega
  rw[hq]at ret;simp only[fF];repeat refine rN ?_
  refine cD aB rfl rfl (by kernel_rfl) (.agg (aL 0 0 0 0 λ_=>false)) rfl (by kernel_rfl) λw2 ep ko pj=>?_;simp only[stO_some];refine cS aB rfl rfl (by kernel_rfl) (x:=.tmp 6) (y:=.tmp 20) (g:=v.heap.size) (c:=aL 0 0 0 0 λ_=>false) rfl (by simp) (by simp) ko (by kernel_rfl) rfl (by simp[aL,Value.oneCell']) λw3 fz=>?_;simp only[stO_none];have ef:Ext v w3:=bO ep (ae _) fz;have MX:=hX.ext ef;have c3:=MX.c0;repeat refine rN ?_
  refine rZ (by simp[Act.eval]) ?_;repeat refine rM c3 ?_
  refine rK Tryz.func25 (tD (by omega) MX.dk.old) ?_;rintro _ S1 w4 _ ⟨rfl,e1,e2⟩;subst S1 w4;repeat refine rN ?_
  refine aM λtodo=>?_;refine ret _ _ S w3 _ ?_ ⟨rfl,rfl,ef⟩;rw[<-hI];simp[results,Tryz.results60];omega
 |some q=>
  rw[hq]at ret;have me:0<L.length:=by obtain⟨n,h1,h2,h3⟩:=eJ (i:=0) (j:=q.1) (e:=q.2) hq;have:=(List.getElem?_eq_some_iff.1 h2).1;omega
  have hI:decide ((nb:Int)-2<=(L.length:Int)-1)=decide (nb-2<=L.length-(if (some q:Option (Nat×Ent)).isSome then 1 else 0)):=by rw[decide_eq_decide];simp;omega
  simp only[fF];repeat refine rN ?_
  refine cD aB rfl rfl (by kernel_rfl) (.agg (aL 0 0 0 0 λ_=>false)) rfl (by kernel_rfl) λw2 ep ko pj=>?_;simp only[stO_some];refine cS aB rfl rfl (by kernel_rfl) (x:=.tmp 6) (y:=.tmp 20) (g:=v.heap.size) (c:=bN q.2) rfl (by simp) (by simp) ko (by kernel_rfl) rfl (mF _) λw3 fz=>?_;simp only[stO_none];have ef:Ext v w3:=bO ep (ae _) fz;have MX:=hX.ext ef;have c3:=MX.c0;repeat refine rN ?_
  refine rX (by simp[Act.eval]) ?_;repeat refine rM c3 ?_
  refine rK Tryz.func25 (tD (by omega) MX.dk.old) ?_;rintro _ S1 w4 _ ⟨rfl,e1,e2⟩;subst S1 w4;repeat refine rN ?_
  refine aM λtodo=>?_;refine ret _ _ S w3 _ ?_ ⟨rfl,rfl,ef⟩;rw[<-hI];simp[results,Tryz.results60];omega
end
