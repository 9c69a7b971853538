import Derived.Test.YtpiefebngnlfoabGreatDoorLa
import Derived.Conc.CompanyDraw
set_option maxRecDepth 99999
set_option maxHeartbeats 0
set_option linter.unusedVariables false
set_option linter.unusedSimpArgs false
namespace Go.Vw
section
variable {P:Program}{S:Nat->Prop}{B:Nat}{α β : Type}
theorem aA.oneBehind{f:Addr->Sem α}(hf:∀ a,aA P S (f a)∨S a.block)(hd:∀ {B:Nat} v W,Rel P S B v W->∀ a es,S a.block->aJ P (f a) v es)(a:Addr):aA P S (do f (<-Go.behindNumber a).1):=by
 by_cases ha:S a.block
 .exact aA.ofDead fun v W es h=>aJ.later (uB h ha es) (hd v W h _ _ ha)
 .refine aA.bind (aA.behind ha) fun q=>?_
  by_cases hq:S q.1.block
  .exact aA.ofDead fun v W es h=>hd v W h _ _ hq
  .exact(hf q.1).resolve_right hq
theorem aA.binOp(hC:jA P)(op:BinOp)(t:TypeId)(x y:Value):aA P S (Go.binOp op t x y):=by
 have hsub:∀ {B:Nat} v W,Rel P S B v W->∀ a b es,S a.block∨S b.block->aJ P (Op.addrSub .u64 a b) v es:=fun v W h a b es hs=>by
  unfold Op.addrSub;exact aJ.first (Hf h hs es)
 have hcmp:∀ op (B:Nat) v W,Rel P S B v W->∀ a b es,S a.block∨S b.block->aJ P (Op.addrCmp op a b) v es:=fun op B v W h a b es hs=>by
  unfold Op.addrCmp;exact aJ.first (Hf h hs es)
 have hmod:∀ k n (a:Addr),aA P S (do Op.addrMod k (<-Go.behindNumber a).1 n):=fun k n a=>
  aA.oneBehind (f:=fun a=>Op.addrMod k a n) (fun a=>by by_cases hs:S a.block;exact .inr hs;exact .inl (aA.addrMod k a n hs)) (fun v W h a es hs=>Xx h k hs n es) a
 unfold Go.binOp;split
 .exact aA.shift _ _ _ _ _
 .exact aA.shift _ _ _ _ _
 .refine aA.ite (aA.stuck _) ?_;split<;>first|exact aA.intArith _ _ _ _|exact aA.intDiv _ _ _ _|exact aA.intBits _ _ _ _|exact aA.intCmp _ _ _
 .refine aA.ite (aA.stuck _) ?_;split<;>first|exact aA.floatArith _ _ _ _|exact aA.floatCmp _ _ _ _
 .exact aA.ite (aA.stuck _) (aA.complexOp _ _ _ _ _ _)
 .exact aA.stringOp _ _ _
 .exact aA.bind (aA.equal hC _ _ _) fun _=>aA.pure _
 .exact aA.bind (aA.equal hC _ _ _) fun _=>aA.pure _
 .refine aA.bind (aA.underlying _) fun _=>?_
  split
  .exact aA.movedPointer _ _ _
  .exact aA.movedNumber _ _ _
 .exact aA.movedNumber _ _ _
 .exact aA.movedNumber _ _ _
 .exact aA.twoBehind (f:=Op.addrSub .u64) (fun a b=>aA.addrSub _ a b) hsub _ _
 .exact aA.twoBehind (f:=Op.addrCmp _) (fun a b=>aA.addrCmp _ a b) (fun {B}=>hcmp _ B) _ _
 .exact aA.twoBehind (f:=Op.addrCmp _) (fun a b=>aA.addrCmp _ a b) (fun {B}=>hcmp _ B) _ _
 .exact aA.twoBehind (f:=Op.addrCmp _) (fun a b=>aA.addrCmp _ a b) (fun {B}=>hcmp _ B) _ _
 .exact aA.twoBehind (f:=Op.addrCmp _) (fun a b=>aA.addrCmp _ a b) (fun {B}=>hcmp _ B) _ _
 .exact hmod _ _ _
 .exact hmod _ _ _
 .exact hmod _ _ _
 .exact aA.unsupported _
 .exact aA.unsupported _
 .exact aA.stuck _
theorem aA.lenOf(x:Value):aA P S (Builtin.lenOf x):=by
 unfold Builtin.lenOf;split<;>first|exact aA.pure _|exact aA.stuck _
theorem aA.firstCells(s n:Nat)(x:Value):aA P S (Builtin.firstCells s n x):=by
 unfold Builtin.firstCells;split<;>first|exact aA.loadCells _ _|exact aA.pure _|exact aA.stuck _
theorem aA.getThen{r:Nat}{k:Obj->Sem α}(hk:¬S r->∀ o,aA P S (k o))(hj:∀ v es,aJ P (k eU) v es):aA P S (Go.getObj r >>= k):=by
 by_cases hs:S r
 .refine aA.ofDead fun v W es h=>?_
  have e:(Go.getObj r).runT P v es=(.ok eU v,es.push ⟨.obj r,false,eU.isChan⟩):=by
   have:=h.hid r hs;simp only[Go.getObj,Sem.runT,this,eU]
  exact aJ.later e (hj _ _)
 .exact aA.bind (aA.getObj hs) fun o=>hk hs o
theorem aA.len(ts:Array TypeId)(t:TypeId)(args:Array Value):aA P S (Builtin.len_ ts t args):=by
 unfold Builtin.len_;split
 .refine aA.bind (aA.underlying _) fun d=>?_
  split
  .exact aA.pure _
  .exact aA.pure _
  .refine aA.bind (aA.underlying _) fun d=>?_
   split<;>first|exact aA.pure _|exact aA.stuck _
  .exact aA.pure _
  .exact aA.pure _
  .exact aA.pure _
  .refine aA.getThen (fun _ o=>?_) (fun v es=>aJ.stuck _ _ _);split<;>first|exact aA.pure _|exact aA.stuck _
  .refine aA.getThen (fun _ o=>?_) (fun v es=>aJ.stuck _ _ _);split<;>first|exact aA.pure _|exact aA.stuck _
  .exact aA.stuck _
 .exact aA.stuck _
theorem aA.cap(ts:Array TypeId)(t:TypeId)(args:Array Value):aA P S (Builtin.cap_ ts t args):=by
 unfold Builtin.cap_;split
 .refine aA.bind (aA.underlying _) fun d=>?_
  split
  .exact aA.pure _
  .refine aA.bind (aA.underlying _) fun d=>?_
   split<;>first|exact aA.pure _|exact aA.stuck _
  .exact aA.pure _
  .exact aA.pure _
  .refine aA.getThen (fun _ o=>?_) (fun v es=>aJ.stuck _ _ _);split<;>first|exact aA.pure _|exact aA.stuck _
  .exact aA.stuck _
 .exact aA.stuck _
theorem aA.copy(ts:Array TypeId)(t:TypeId)(args:Array Value):aA P S (Builtin.copy_ ts t args):=by
 unfold Builtin.copy_;split
 .refine aA.bind (aA.underlying _) fun d=>?_
  split
  .split
   .refine aA.bind (aA.lenOf _) fun n=>aA.bind (aA.sizeOf _) fun z=>aA.bind (aA.firstCells _ _ _) fun c=>?_
    split
    .exact aA.bind (aA.storeCells _ _ _) fun _=>aA.pure _
    .exact aA.pure _
   .exact aA.stuck _
  .exact aA.stuck _
 .exact aA.stuck _
theorem aA.min2(x y:Value):aA P S (Builtin.min2 x y):=by
 unfold Builtin.min2;split
 .exact aA.pure _
 .split<;>first|exact aA.pure _|exact aA.bind (aA.choose _) fun _=>aA.pure _
 .exact aA.bind (aA.stringOp _ _ _) fun _=>aA.bind (aA.asBool _) fun _=>aA.pure _
 .exact aA.unsupported _
 .exact aA.unsupported _
 .exact aA.stuck _
theorem aA.min(ts:Array TypeId)(t:TypeId)(args:Array Value):aA P S (Builtin.min_ ts t args):=by
 unfold Builtin.min_;split
 .exact aA.stuck _
 .exact aA.foldL (fun _ _=>aA.min2 _ _) _ _
end
section
variable {P:Program}{S:Nat->Prop}{B:Nat}{α β : Type}
def kX(w:World)(a:Addr)(c:Nat):Bool:=match w.shape? a.block with|some (_,n)=>a.spot.isNone&&decide (a.off+c<=n)|none=>false
theorem Eo(a:Addr)(c:Nat)(w:World)(es:Array Event):(Builtin.holdsCells a c).runT P w es=(.ok (kX w a c) w,es):=by
 unfold kX;show((Go.shape a.block).bind _).runT P w es=_;rw[Sem.runT_bind'];simp only[Go.shape,Sem.runT];cases w.shape? a.block with
 |none=>rfl
 |some q=>rfl
def lU(w:World)(s l:Nat):Option Addr->Bool
 |none=>true
 |some a=>kX w a (l*s)&&!w.frozen? (a.add (l / 2*s))
def lZ(w:World)(s n:Nat)(b:Option Addr):Value->Bool
 |.slice (some c) _ _=>!kX w c (n*s)||b.any (·.block == c.block)
 |_=>false
theorem Qv(s l n:Nat)(b:Option Addr)(x:Value)(w:World)(es:Array Event):(Builtin.mayShare s l n b x).runT P w es=(.ok (if lU w s l b then lZ w s n b x else true) w,es):=by
 have rest:∀ q:Bool,(if (!q)=true then Pure.pure true else match x with
   |.slice (some c) _ _=>do let r <-Builtin.holdsCells c (n*s);Pure.pure (!r||b.any (·.block == c.block))
   |_=>Pure.pure false:Sem Bool).runT P w es=(.ok (if q then lZ w s n b x else true) w,es):=fun q=>by
  cases q
  .rfl
  .simp only[Bool.not_true,Bool.false_eq_true,if_false,if_true];unfold lZ;split
   .show((Builtin.holdsCells _ _).bind _).runT P w es=_;rw[Sem.runT_bind',Eo];rfl
   .rfl
 unfold Builtin.mayShare;simp only;cases b with
 |none=>
  show(Sem.bind (Pure.pure true) _).runT P w es=_;rw[Sem.runT_bind'];exact rest true
 |some a=>
  show((Builtin.holdsCells a (l*s)).bind _).runT P w es=_;rw[Sem.runT_bind',Eo];simp only;show((Go.frozen _).bind _).runT P w es=_;rw[Sem.runT_bind'];simp only[Go.frozen,Sem.runT];show(Sem.bind (Pure.pure _) _).runT P w es=_;rw[Sem.runT_bind'];exact rest _
theorem Dk{v W:World}(h:Rel P S B v W){a:Addr}{c:Nat}(e:kX v a c=true):¬S a.block:=fun hs=>by
 unfold kX at e;rw[h.shape_hid hs]at e;cases e
theorem aA.noBear(msg:String)(s l n:Nat)(b:Option Addr)(x:Value):aA P S (do
  let q <-Builtin.mayShare s l n b x
  if (!q)=true then do
   let _ <-mark Mark.noRoom
   Go.unsupported (Unsupported.resourceLimit msg)
  else(Go.unsupported (Unsupported.resourceLimit msg):Sem Unit)):=by
 intro B v W es h
 have run:∀ w:World,(do
   let q <-Builtin.mayShare s l n b x;if (!q)=true then do
    let _ <-mark Mark.noRoom;Go.unsupported (Unsupported.resourceLimit msg)
   else(Go.unsupported (Unsupported.resourceLimit msg):Sem Unit)).runT P w es
   = (.halt (.unsupported (Unsupported.resourceLimit msg)) w,if (if lU w s l b then lZ w s n b x else true) then es else es.push ⟨.mark .noRoom,false,true⟩):=fun w=>by
  show((Builtin.mayShare s l n b x).bind _).runT P w es=_;rw[Sem.runT_bind',Qv];simp only;cases(if lU w s l b then lZ w s n b x else true)<;>rfl
 have hdead:lD (.unsupported (Unsupported.resourceLimit msg)):=fun x hx=>by cases hx
 cases hv:(if lU v s l b then lZ v s n b x else true) with
 |true=>
  rw[run v,hv];exact fE.over _ hdead (.refl _)
 |false=>
  have ht:lU v s l b=true:=by
   cases hh:lU v s l b with
   |true=>rfl
   |false=>rw[hh]at hv;cases hv
  rw[ht]at hv;simp only[if_true]at hv;have hsame:∀ (a:Addr) (c:Nat),¬S a.block->kX W a c=kX v a c:=fun a c hs=>by unfold kX;rw[h.shape hs]
  have h1:lU W s l b=true:=by
   cases b with
   |none=>rfl
   |some a=>
    simp only[lU,Bool.and_eq_true]at ht ⊢;have hs:=Dk h ht.1;have hs':¬S (a.add (l / 2*s)).block:=by unfold Addr.add;split<;>exact hs
    rw[hsame a _ hs,h.frozen hs'];exact ht
  have h2:lZ W s n b x=false:=by
   unfold lZ at hv ⊢;split at hv
   .rename_i c _ _;simp only[Bool.or_eq_false_iff,Bool.not_eq_false']at hv ⊢;rw[hsame _ _ (Dk h hv.1)];exact hv
   .rfl
  rw[run v,run W,ht,h1];simp only[if_true];rw[hv,h2];simp only[Bool.false_eq_true,if_false];exact .inl ⟨hdead,fun _ hn=>hn⟩
theorem aA.append(ts:Array TypeId)(t:TypeId)(args:Array Value):aA P S (Builtin.append_ ts t args):=by
 unfold Builtin.append_;split
 .refine aA.bind (aA.underlying _) fun d=>?_
  split
  .split
   .refine aA.bind (aA.sizeOf _) fun z=>?_
    simp only;repeat' with_reducible first
     |exact aA.pure _
     |refine aA.bind (aA.pure _) fun _=>?_
     |refine aA.bind (aA.typeInfo _) fun _=>?_
     |refine aA.bind (aA.underlying _) fun _=>?_
     |refine aA.bind (aA.zeroValue _) fun _=>?_
     |refine aA.bind (aA.asInt _) fun _=>?_
     |refine aA.bind (aA.lenOf _) fun _=>?_
     |refine aA.bind (aA.choose _) fun _=>?_
     |refine aA.bind (aA.askRoom _) fun _=>?_
     |refine aA.bind (aA.firstCells _ _ _) fun _=>?_
     |refine aA.bind (aA.storeCells _ _ _) fun _=>?_
     |refine aA.bind (aA.newRow _ _) fun _=>?_
     |refine aA.bind (aA.runtimePanic _) fun _=>?_
     |refine aA.bind (aA.ite (aA.runtimePanic _) (aA.noBear _ _ _ _ _ _)) fun _=>?_
     |refine aA.bind (aA.ite (aA.firstCells _ _ _) (aA.ite (aA.pure _) (aA.bind (aA.zeroValue _) fun _=>aA.pure _))) fun _=>?_
     |refine aA.ite ?_ ?_
     |split
   .exact aA.stuck _
  .exact aA.stuck _
 .exact aA.stuck _
end
section
variable {P:Program}{S:Nat->Prop}{B:Nat}{α β : Type}
theorem aA.bytesToString(x:Value):aA P S (Conv.bytesToString x):=by
 unfold Conv.bytesToString;split
 .exact aA.pure _
 .refine aA.bind (aA.loadCells _ _) fun c=>aA.bind (aA.forInA (fun a s=>?_) _ _) fun _=>aA.pure _
  split<;>first|exact aA.pure _|exact aA.stuck _
 .exact aA.stuck _
theorem aA.newMark(e:TypeId)(c:Array Value)(k:Addr->Sem α)(hk:∀ a,aA P S (k a)):aA P S (do let a <-Go.newRow e c;Go.markStringish a;k a):=by
 have first:aA P S (do let a <-Go.newRow e c;Go.markStringish a;Pure.pure a):=by
  intro B v W es h;have en:∀ w:World,(do let a <-Go.newRow e c;Go.markStringish a;Pure.pure a:Sem Addr).runT P w es
    = (.ok ⟨w.heap.size,0,none⟩ (World.freeze {w with heap:=w.heap.push (.cells c e)} ⟨w.heap.size,c.size,none⟩ 1),es):=fun w=>by
   show((Go.newRow e c).bind fun a=>(Go.markStringish a).bind fun _=>Pure.pure a).runT P w es=_
   rw[Sem.runT_bind'];have e1:(Go.newRow e c).runT P w es=(.ok ⟨w.heap.size,0,none⟩ {w with heap:=w.heap.push (.cells c e)},es):=rfl;rw[e1];simp only;rw[Sem.runT_bind'];have e2:(Go.markStringish ⟨w.heap.size,0,none⟩).runT P {w with heap:=w.heap.push (.cells c e)} es=(.ok () (World.freeze {w with heap:=w.heap.push (.cells c e)} ⟨w.heap.size,c.size,none⟩ 1),es):=by
    show((Go.shape w.heap.size).bind _).runT P _ es=_;rw[Sem.runT_bind'];have:(World.shape? {w with heap:=w.heap.push (.cells c e)} w.heap.size)=some (e,c.size):=by simp[World.shape?]
    simp only[Go.shape,Sem.runT,this];rfl
   rw[e2];rfl
  rw[en,en];intro hb;rw[<-h.size];refine⟨_,rfl,?_,?_,?_,.refl _ _,fun b hb=>?_⟩
  .simp[World.freeze]
  .simp[World.freeze]
  rotate_left
  .have hlt:=h.lt hb;have hsz:=h.size;simp only[World.freeze,Nat.succ_ne_zero,if_false];rw[Array.getElem?_modify,if_neg (by omega),Array.getElem?_push,if_neg (by omega)]
  .have hp:=h.push (o:=.cells c e) trivial;simp only[World.freeze,Nat.succ_ne_zero,if_false];exact hp.modify h.new _ (fun o ho=>by cases o<;>simp_all[Obj.tame])
 have e3:(do let a <-Go.newRow e c;Go.markStringish a;k a)=((do let a <-Go.newRow e c;Go.markStringish a;Pure.pure a) >>= k):=by simp
 rw[e3];exact aA.bind first hk
theorem aA.stringToBytes(e:TypeId)(s:ByteArray):aA P S (Conv.stringToBytes e s):=by
 unfold Conv.stringToBytes;exact aA.bind (aA.choose _) fun c=>aA.newMark e _ (fun a=>Pure.pure (Value.slice (some a) s.size c)) fun _=>aA.pure _
theorem aA.floatToInt(k:FloatKind)(x:Nat)(k':IntKind):aA P S (Conv.floatToInt k x k'):=by
 unfold Conv.floatToInt;simp only;split
 .exact aA.ite (aA.pure _) (aA.bind (aA.choose _) fun _=>aA.pure _)
 .exact aA.bind (aA.choose _) fun _=>aA.pure _
def Ab(P:Program)(src dst:TypeId):Bool:=
 match P.underlying src,P.underlying dst with
 |some (.int _),some (.int _)=>true
 |some .string,some .string=>true
 |some .string,some (.slice e)=>(P.underlying e matches some (.int .u8))
 |some (.slice e),some .string=>(P.underlying e matches some (.int .u8))
 |_,_=>false
theorem En{t:TypeId}{d:TypeDesc}(h:P.underlying t=some d)(w:World)(es:Array Event):(Go.underlying t).runT P w es=(.ok d w,es):=by
 unfold Go.underlying;show(Go.program.bind _).runT P w es=_;rw[Sem.runT_bind'];simp only[Go.program,Sem.runT,h];rfl
theorem aA.under{t:TypeId}{d:TypeDesc}{f:TypeDesc->Sem α}(h:P.underlying t=some d)(hf:aA P S (f d)):aA P S (Go.underlying t >>= f):=by
 intro B v W es hR;show fE P S _ _ _ _ (((Go.underlying t).bind f).runT P v es) (((Go.underlying t).bind f).runT P W es);rw[Sem.runT_bind',Sem.runT_bind',En h,En h];exact hf B v W es hR
theorem aA.convert{src dst:TypeId}(ok:Ab P src dst=true)(x:Value):aA P S (Go.convert src dst x):=by
 unfold Ab at ok;unfold Go.convert;split at ok
 .rename_i k k' h1 h2;refine aA.under h1 (aA.under h2 ?_);split<;>first|exact aA.pure _|exact aA.unsupported _|exact aA.floatToInt _ _ _|(simp_all;done)
 .rename_i h1 h2;refine aA.under h1 (aA.under h2 ?_);split<;>first|exact aA.pure _|exact aA.unsupported _|(simp_all;done)
 .rename_i e h1 h2;have h3:P.underlying e=some (.int .u8):=by
   revert ok;cases h:P.underlying e with
   |none=>intro x;cases x
   |some d=>
    cases d<;>first|(intro x;cases x;done)|skip
    rename_i k;cases k<;>first|(intro x;cases x;done)|(intro _;rfl)
  refine aA.under h1 (aA.under h2 ?_);cases x with
  |string s=>exact aA.under h3 (aA.stringToBytes _ _)
  |slice a _ _=>cases a<;>exact aA.unsupported _
  |_=>exact aA.unsupported _
 .rename_i e h1 h2;have h3:P.underlying e=some (.int .u8):=by
   revert ok;cases h:P.underlying e with
   |none=>intro x;cases x
   |some d=>
    cases d<;>first|(intro x;cases x;done)|skip
    rename_i k;cases k<;>first|(intro x;cases x;done)|(intro _;rfl)
  refine aA.under h1 (aA.under h2 ?_);cases x<;>first|exact aA.under h3 (aA.bytesToString _)|exact aA.pure _|exact aA.unsupported _
 .cases ok
theorem aA.followBlind:∀ (l:List FieldStep) (t:TypeId) (x:Option Value),aA P S (Go.followBlind l t x)
 |[],_,_=>aA.pure _
 |s :: rest,t,x=>by
  have ih:=aA.followBlind rest;rw[Go.followBlind];refine aA.bind (aA.underlying _) fun d=>?_
  split
  .split
   .split
    .exact aA.pure _
    .exact ih _ _
    .exact aA.stuck _
    .exact aA.pure _
    .exact aA.bind (aA.part _ _ _) fun _=>ih _ _
    .exact aA.stuck _
    .exact ih _ _
   .exact aA.stuck _
  .exact aA.stuck _
theorem aA.nilAhead:∀ (n:Nat) (t:TypeId) (v:Value) (name:String),aA P S (Go.nilAhead n t v name)
 |0,_,_,_=>aA.pure _
 |n+1,t,v,name=>by
  have ih:=aA.nilAhead n;rw[Go.nilAhead];refine aA.bind (aA.typeInfo _) fun i=>?_
  split
  .refine aA.bind (aA.followBlind _ _ _) fun r=>?_
   split
   .exact aA.pure _
   .split
    .exact ih _ _ _
    .exact aA.pure _
    .exact aA.stuck _
    .exact aA.pure _
    .exact aA.pure _
    .refine aA.bind (aA.underlying _) fun d=>?_
     split<;>exact aA.pure _
  .exact aA.stuck _
theorem aA.callFunc{f:FuncId}{fn:Func}(hf:P.funcs[f]?=some fn)(hb:fn.body.isSome=true)(args:Array Value):aA P S (Go.callFunc f args):=by
 intro B v W es h;have e:∀ w:World,(Go.callFunc f args).runT P w es=(.ok (if fn.name == "runtime.NumGoroutine" then .numGoroutine else .enter f args) w,es):=by
  intro w;unfold Go.callFunc;show(Go.program.bind _).runT P w es=_;rw[Sem.runT_bind'];simp only[Go.program,Sem.runT,hf];split
  .rfl
  .rename_i hn;have hbn:fn.body.isNone=false:=by cases hh:fn.body<;>simp_all
   simp only[hbn,Bool.false_eq_true,if_false];rfl
 rw[e,e];exact .stay h
def Ad(F:FuncId->Bool)(c:Call):Bool:=
 match c.callee with
 |.builtin b=>b == .append||b == .cap||b == .copy||b == .len||b == .min
 |.value (.func f)=>F f
 |_=>false
def bW(P:Program)(F:FuncId->Bool)(o:Oper):Bool:=
 match o.op with
 |.move _|.assign _|.pick _ _ _|.alloc _|.box _ _|.build _ _|.buildSlice _ _ _|.load _ _|.store _ _ _|.nilCheck _|.binOp _ _ _ _ _|.unOp _ _ _
 |.makeSlice _ _ _|.slice _ _ _ _ _|.fieldAddr _ _ _|.field _ _ _|.indexAddr _ _ _|.index _ _ _|.extract _ _=>true
 |.convert s d _=>Ab P s d
 |.call c=>Ad F c
 |_=>false
def Iy(F:FuncId->Bool):Next->Prop
 |.value _|.skip=>True
 |.enter f _=>F f=true
 |_=>False
def Ah(P:Program)(F:FuncId->Bool):Prop:=∀ f,F f=true->∃ fn,P.funcs[f]?=some fn∧fn.body.isSome=true∧(fn.name == "runtime.NumGoroutine")=false
theorem aA.execOp(hC:jA P){F:FuncId->Bool}(hF:Ah P F){ρ : Operand->Value}(hρ : ∀ f,ρ (.func f)=.func (.func f) #[] #[]){o:Oper}(ho:bW P F o=true):aA P S (Go.execOp ρ o):=by
 unfold bW at ho;unfold Go.execOp;split at ho
 all_goals try (cases ho;done)
 all_goals rename_i heq;rw[heq];simp only
 .exact aA.pure _
 .exact aA.pure _
 .exact aA.bind (aA.asBool _) fun _=>aA.pure _
 .exact aA.bind (aA.alloc _) fun _=>aA.pure _
 .exact aA.bind (aA.box _ _) fun _=>aA.pure _
 .exact aA.bind (aA.build _ _) fun _=>aA.pure _
 .exact aA.bind (aA.buildSlice _ _ _) fun _=>aA.pure _
 .exact aA.bind (aA.loadAt _ _) fun _=>aA.pure _
 .exact aA.bind (aA.storeAt _ _ _) fun _=>aA.pure _
 .split
  .exact aA.runtimePanic _
  .exact aA.runtimePanic _
  .exact aA.runtimePanic _
  .split
   .exact aA.runtimePanic _
   .refine aA.bind aA.program fun p=>aA.bind (aA.nilAhead _ _ _ _) fun q=>?_
    exact aA.ite (aA.bind (aA.unsupported _) fun _=>aA.pure _) (aA.pure _)
   .exact aA.pure _
  .exact aA.pure _
 .exact aA.bind (aA.bind (aA.eqGuard _ _ _ _ _ _) fun _=>aA.binOp hC _ _ _ _) fun _=>aA.pure _
 .exact aA.bind (aA.unary _ _) fun _=>aA.pure _
 .exact aA.bind (aA.makeSlice _ _ _) fun _=>aA.pure _
 .exact aA.bind (aA.sliceAt _ _ _ _ _) fun _=>aA.pure _
 .exact aA.bind (aA.fieldAt _ _ _) fun _=>aA.pure _
 .exact aA.bind (aA.field _ _ _) fun _=>aA.pure _
 .exact aA.bind (aA.indexAt _ _ _) fun _=>aA.pure _
 .exact aA.bind (aA.index _ _ _) fun _=>aA.pure _
 .exact aA.bind (aA.extract _ _) fun _=>aA.pure _
 .exact aA.bind (aA.convert ho _) fun _=>aA.pure _
 .rename_i c;unfold Ad at ho;split at ho
  .rename_i b hb;have e:∀ ρ : Operand->Value,(do let d <-resolve ρ c o.type;invoke d.target d.args)=builtin b c.argTypes o.type (c.args.map fun|.const _=>true|_=>false) (c.args.map ρ):=by
    intro ρ;unfold resolve;simp only[hb];rfl
   rw[e];cases b<;>first|(cases ho;done)|skip
   .exact aA.bind (aA.append _ _ _) fun _=>aA.pure _
   .exact aA.bind (aA.cap _ _ _) fun _=>aA.pure _
   .exact aA.bind (aA.copy _ _ _) fun _=>aA.pure _
   .exact aA.bind (aA.len _ _ _) fun _=>aA.pure _
   .exact aA.bind (aA.min _ _ _) fun _=>aA.pure _
  .rename_i f hb;have e:(do let d <-resolve ρ c o.type;invoke d.target d.args)=Go.callFunc f (#[]++c.args.map ρ++#[]):=by
    unfold resolve;simp only[hb,hρ,Deferred.ofValue];rfl
   rw[e];obtain⟨fn,h1,h2,_⟩:=hF f ho;exact aA.callFunc h1 h2 _
  .cases ho
theorem fP{s:Sem α}{f:α->Next}{w w':World}{n:Next}(h:(do let x <-s;Pure.pure (f x):Sem Next).run P w=.ok n w'):∃ x,n=f x:=by
 have h1:(s.bind fun x=>Pure.pure (f x)).run P w=.ok n w':=h
 rw[Sem.run_bind']at h1;cases hs:s.run P w with
 |ok a w1=>rw[hs]at h1;cases h1;exact⟨a,rfl⟩
 |halt x w1=>rw[hs]at h1;cases h1
theorem wY{s:Sem α}{k:α->Sem β}{w w':World}{n:β}(h:(s >>= k).run P w=.ok n w'):∃ a w1,(k a).run P w1=.ok n w':=by
 have h1:(s.bind k).run P w=.ok n w':=h;rw[Sem.run_bind']at h1;cases hs:s.run P w with
 |ok a w1=>rw[hs]at h1;exact⟨a,w1,h1⟩
 |halt x w1=>rw[hs]at h1;cases h1
theorem Nc{F:FuncId->Bool}(hF:Ah P F){ρ : Operand->Value}(hρ : ∀ f,ρ (.func f)=.func (.func f) #[] #[]){o:Oper}(ho:bW P F o=true){w w':World}{n:Next}
  (h:(Go.execOp ρ o).run P w=.ok n w'):Iy F n:=by
 unfold bW at ho;unfold Go.execOp at h;split at ho
 all_goals try (cases ho;done)
 all_goals rename_i heq;rw[heq]at h;simp only at h
 .cases h;trivial
 .cases h;trivial
 .obtain⟨v,rfl⟩:=fP h;trivial
 .obtain⟨v,rfl⟩:=fP h;trivial
 .obtain⟨v,rfl⟩:=fP h;trivial
 .obtain⟨v,rfl⟩:=fP h;trivial
 .obtain⟨v,rfl⟩:=fP h;trivial
 .obtain⟨v,rfl⟩:=fP h;trivial
 .obtain⟨v,rfl⟩:=fP h;trivial
 .split at h
  .cases h
  .cases h
  .cases h
  .split at h
   .cases h
   .obtain⟨_,w1,h⟩:=wY h;obtain⟨q,w2,h⟩:=wY h;split at h
    .obtain⟨_,w3,h⟩:=wY h;cases h;trivial
    .cases h;trivial
   .cases h;trivial
  .cases h;trivial
 .obtain⟨v,rfl⟩:=fP (s:=do eqGuard _ _ _ _ _ _;Go.binOp _ _ _ _) h;trivial
 .obtain⟨v,rfl⟩:=fP h;trivial
 .obtain⟨v,rfl⟩:=fP h;trivial
 .obtain⟨v,rfl⟩:=fP h;trivial
 .obtain⟨v,rfl⟩:=fP h;trivial
 .obtain⟨v,rfl⟩:=fP h;trivial
 .obtain⟨v,rfl⟩:=fP h;trivial
 .obtain⟨v,rfl⟩:=fP h;trivial
 .obtain⟨v,rfl⟩:=fP h;trivial
 .obtain⟨v,rfl⟩:=fP h;trivial
 .rename_i c;unfold Ad at ho;split at ho
  .rename_i b hb;have e:(do let d <-resolve ρ c o.type;invoke d.target d.args)=builtin b c.argTypes o.type (c.args.map fun|.const _=>true|_=>false) (c.args.map ρ):=by
    unfold resolve;simp only[hb];rfl
   rw[e]at h;cases b<;>first|(cases ho;done)|skip
   all_goals obtain⟨v,rfl⟩:=fP h;trivial
  .rename_i f hb;have e:(do let d <-resolve ρ c o.type;invoke d.target d.args)=Go.callFunc f (#[]++c.args.map ρ++#[]):=by
    unfold resolve;simp only[hb,hρ,Deferred.ofValue];rfl
   rw[e]at h;obtain⟨fn,h1,h2,h3⟩:=hF f ho;unfold Go.callFunc at h;have h4:(Go.program.bind _).run P w=.ok n w':=h;rw[Sem.run_bind']at h4;have hbn:fn.body.isNone=false:=by cases hh:fn.body<;>simp_all
   simp only[Go.program,Sem.run,Result.andThen,h1,h3,hbn,Bool.false_eq_true,if_false]at h4;cases h4
   exact ho
  .cases ho
end
open Go.Conc
def eG(P:Program)(F:FuncId->Bool):Code->Bool
 |.skip|.label _|.exit _|.ret|.refuse _=>true
 |.region _ ops _=>ops.all (bW P F)
 |.seq a b=>eG P F a&&eG P F b
 |.cond _ a b=>eG P F a&&eG P F b
 |.block _ c=>eG P F c
 |.loop c=>eG P F c
 |_=>false
def eF(P:Program)(F:FuncId->Bool):Item->Bool
 |.code c=>eG P F c
 |.inBlock _=>true
 |.inLoop c=>eG P F c
 |.inRegion ops _=>ops.all (bW P F)
 |_=>false
structure Good(P:Program)(F:FuncId->Bool):Prop where
 body:∀ f,F f=true->∃ fn c,P.funcs[f]?=some fn∧fn.body=some c∧eG P F c=true∧(fn.name == "runtime.NumGoroutine")=false
 cc:jA P
structure OkFrame(P:Program)(F:FuncId->Bool)(fr:Frame):Prop where
 todo:∀ x∈fr.todo,eF P F x=true
 defers:fr.defers=[]
 kind:fr.kind=.normal
 round:fr.roundOf=none
 fn:∃ f,P.funcs[fr.fn]?=some f
section
variable {P:Program}{F:FuncId->Bool}{S:Nat->Prop}{B:Nat}
theorem Good.closed(h:Good P F):Ah P F:=fun f hf=>by
 obtain⟨fn,c,h1,h2,_,h3⟩:=h.body f hf;exact⟨fn,h1,by simp[h2],h3⟩
def run(fn:FuncId)(tmps:Array Value)(todo:List Item):Frame:=⟨fn,tmps,todo,[],.run,.normal,none⟩
theorem xP{id:Nat} : ∀ {k k':List Item},exitTo id k=some k'->∀ x∈k',x∈k
 |[],_,h=>by simp[exitTo]at h
 |y :: k,k',h=>by
  cases y
  case inBlock id'=>
   simp only[exitTo]at h;split at h
   .cases h;exact fun x hx=>List.mem_cons_of_mem _ hx
   .exact fun x hx=>List.mem_cons_of_mem _ (xP h x hx)
  all_goals exact fun x hx=>List.mem_cons_of_mem _ (xP (by simpa [exitTo] using h) x hx)
section
variable {fn:FuncId}{tmps:Array Value}{ops:Array Oper}{i:Nat}{rest:List Nat}{k:List Item}{cs:List Frame}{s:Sem Next}{w w1:World}{es0:Array Event}
end
theorem Zb{ops:Array Oper}(h:ops.all (bW P F)=true){i:Nat}{o:Oper}(ho:ops[i]?=some o):bW P F o=true:=by
 have:=Array.all_eq_true_iff_forall_mem.1 h o (Array.mem_of_getElem? ho);exact this
theorem aA.results(fn:Func)(tmps:Array Value):aA P S (Go.results fn tmps):=by
 unfold Go.results;refine aA.bind (aA.mapA (fun r=>?_) _) fun _=>aA.pure _
 split
 .exact aA.pure _
 .exact aA.bind (aA.asAddr _) fun _=>aA.loadVar _ _
theorem ok_finish'{c:Frame}(h:OkFrame P F c)(x:Value):OkFrame P F (c.finish x):=by
 obtain⟨fn,tmps,todo,defers,mode,kind,round⟩:=c;obtain⟨htodo,hdef,hkind,hround,hfn⟩:=h;simp only at htodo hdef hkind hround hfn;subst hdef hkind hround;unfold Frame.finish;simp only;split
 .refine⟨?_,rfl,rfl,rfl,hfn⟩;rename_i ops i rest k;intro y hy;rcases List.mem_cons.1 hy with rfl|hk
  .exact htodo (.inRegion ops (i :: rest)) (by simp)
  .exact htodo y (by simp[hk])
 .exact absurd (htodo _ (List.mem_cons_self)) (by simp[eF])
 .exact absurd (htodo _ (List.mem_cons_self)) (by simp[eF])
 .exact absurd (htodo _ (List.mem_cons_self)) (by simp[eF])
 .exact absurd (htodo _ (List.mem_cons_self)) (by simp[eF])
 .exact⟨htodo,rfl,rfl,rfl,hfn⟩
theorem Gk{c:Frame}(h:OkFrame P F c)(chain:List PanicEntry):OkFrame P F (c.raise chain):=by
 unfold Frame.raise;first
 |exact⟨h.todo,h.defers,h.kind,h.round,h.fn⟩
 |(split<;>exact⟨h.todo,h.defers,h.kind,h.round,h.fn⟩)
end
