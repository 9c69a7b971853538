import Derived.Test.YtpiefebngnlfoaaGreatDoorLa
import Derived.Conc.CompanyDraw
set_option maxRecDepth 99999
set_option maxHeartbeats 0
set_option linter.unusedVariables false
set_option linter.unusedSimpArgs false
namespace Go.Vw
section
variable {P:Program}{S:Nat->Prop}{B:Nat}{α β : Type}
theorem aA.oneBehind{f:Addr->Sem α}(hf:∀a,aA P S (f a)∨S a.block)(hd:∀{B:Nat} v W,Rel P S B v W->∀a es,S a.block->aK P (f a) v es)(a:Addr):aA P S (do f (<-Go.behindNumber a).1):=by
 by_cases ha:S a.block
 .exact aA.ofDead λv W es h=>aK.later (sV h ha es) (hd v W h _ _ ha)
 .refine aA.bind (aA.behind ha) λq=>?_;by_cases hq:S q.1.block
  .exact aA.ofDead λv W es h=>hd v W h _ _ hq
  .exact(hf q.1).resolve_right hq
theorem aA.binOp(hC:iB P)(op:BinOp)(t:TypeId)(x y:Value):aA P S (Go.binOp op t x y):=by
 have GC:∀{B:Nat} v W,Rel P S B v W->∀a b es,S a.block∨S b.block->aK P (Op.addrSub .u64 a b) v es:=λv W h a b es hs=>by unfold Op.addrSub;exact aK.first (Gi h hs es)
 have GX:∀op(B:Nat) v W,Rel P S B v W->∀a b es,S a.block∨S b.block->aK P (Op.addrCmp op a b) v es:=λop B v W h a b es hs=>by unfold Op.addrCmp;exact aK.first (Gi h hs es)
 have DC:∀k n(a:Addr),aA P S (do Op.addrMod k (<-Go.behindNumber a).1 n):=λk n a=>
  aA.oneBehind (f:=λa=>Op.addrMod k a n) (λa=>by by_cases hs:S a.block;exact .inr hs;exact .inl (aA.addrMod k a n hs)) (λv W h a es hs=>Xn h k hs n es) a
 unfold Go.binOp;split
 .exact aA.shift _ _ _ _ _
 .exact aA.shift _ _ _ _ _
 .refine aA.ite (aA.stuck _) ?_;split<;>first|exact aA.intArith _ _ _ _|exact aA.intDiv _ _ _ _|exact aA.intBits _ _ _ _|exact aA.intCmp _ _ _
 .refine aA.ite (aA.stuck _) ?_;split<;>first|exact aA.floatArith _ _ _ _|exact aA.floatCmp _ _ _ _
 .exact aA.ite (aA.stuck _) (aA.complexOp _ _ _ _ _ _)
 .exact aA.stringOp _ _ _
 .exact aA.bind (aA.equal hC _ _ _) λ_=>aA.pure _
 .exact aA.bind (aA.equal hC _ _ _) λ_=>aA.pure _
 .refine aA.bind (aA.underlying _) λ_=>?_;split
  .exact aA.movedPointer _ _ _
  .exact aA.movedNumber _ _ _
 .exact aA.movedNumber _ _ _
 .exact aA.movedNumber _ _ _
 .exact aA.twoBehind (f:=Op.addrSub .u64) (λa b=>aA.addrSub _ a b) GC _ _
 .exact aA.twoBehind (f:=Op.addrCmp _) (λa b=>aA.addrCmp _ a b) (λ{B}=>GX _ B) _ _
 .exact aA.twoBehind (f:=Op.addrCmp _) (λa b=>aA.addrCmp _ a b) (λ{B}=>GX _ B) _ _
 .exact aA.twoBehind (f:=Op.addrCmp _) (λa b=>aA.addrCmp _ a b) (λ{B}=>GX _ B) _ _
 .exact aA.twoBehind (f:=Op.addrCmp _) (λa b=>aA.addrCmp _ a b) (λ{B}=>GX _ B) _ _
 .exact DC _ _ _
 .exact DC _ _ _
 .exact DC _ _ _
 .exact aA.unsupported _
 .exact aA.unsupported _
 .exact aA.stuck _
theorem aA.lenOf(x:Value):aA P S (Builtin.lenOf x):=by unfold Builtin.lenOf;split<;>first|exact aA.pure _|exact aA.stuck _
theorem aA.firstCells(s n:Nat)(x:Value):aA P S (Builtin.firstCells s n x):=by unfold Builtin.firstCells;split<;>first|exact aA.loadCells _ _|exact aA.pure _|exact aA.stuck _
theorem aA.getThen{r:Nat}{k:Obj->Sem α}(hk:¬S r->∀o,aA P S (k o))(hj:∀v es,aK P (k eR) v es):aA P S (Go.getObj r >>= k):=by
 by_cases hs:S r
 .refine aA.ofDead λv W es h=>?_;have e:(Go.getObj r).runT P v es=(.ok eR v,es.push ⟨.obj r,false,eR.isChan⟩):=by
   have:=h.hid r hs;simp only[Go.getObj,Sem.runT,this,eR]
  exact aK.later e (hj _ _)
 .exact aA.bind (aA.getObj hs) λo=>hk hs o
theorem aA.len(ts:Array TypeId)(t:TypeId)(args:Array Value):aA P S (Builtin.len_ ts t args):=by
 unfold Builtin.len_;split
 .refine aA.bind (aA.underlying _) λd=>?_;split
  .exact aA.pure _
  .exact aA.pure _
  .refine aA.bind (aA.underlying _) λd=>?_;split<;>first|exact aA.pure _|exact aA.stuck _
  .exact aA.pure _
  .exact aA.pure _
  .exact aA.pure _
  .refine aA.getThen (λ_ o=>?_) (λv es=>aK.stuck _ _ _);split<;>first|exact aA.pure _|exact aA.stuck _
  .refine aA.getThen (λ_ o=>?_) (λv es=>aK.stuck _ _ _);split<;>first|exact aA.pure _|exact aA.stuck _
  .exact aA.stuck _
 .exact aA.stuck _
theorem aA.cap(ts:Array TypeId)(t:TypeId)(args:Array Value):aA P S (Builtin.cap_ ts t args):=by
 unfold Builtin.cap_;split
 .refine aA.bind (aA.underlying _) λd=>?_;split
  .exact aA.pure _
  .refine aA.bind (aA.underlying _) λd=>?_;split<;>first|exact aA.pure _|exact aA.stuck _
  .exact aA.pure _
  .exact aA.pure _
  .refine aA.getThen (λ_ o=>?_) (λv es=>aK.stuck _ _ _);split<;>first|exact aA.pure _|exact aA.stuck _
  .exact aA.stuck _
 .exact aA.stuck _
theorem aA.copy(ts:Array TypeId)(t:TypeId)(args:Array Value):aA P S (Builtin.copy_ ts t args):=by
 unfold Builtin.copy_;split
 .refine aA.bind (aA.underlying _) λd=>?_;split
  .split
   .refine aA.bind (aA.lenOf _) λn=>aA.bind (aA.sizeOf _) λz=>aA.bind (aA.firstCells _ _ _) λc=>?_;split
    .exact aA.bind (aA.storeCells _ _ _) λ_=>aA.pure _
    .exact aA.pure _
   .exact aA.stuck _
  .exact aA.stuck _
 .exact aA.stuck _
theorem aA.min2(x y:Value):aA P S (Builtin.min2 x y):=by
 unfold Builtin.min2;split
 .exact aA.pure _
 .split<;>first|exact aA.pure _|exact aA.bind (aA.choose _) λ_=>aA.pure _
 .exact aA.bind (aA.stringOp _ _ _) λ_=>aA.bind (aA.asBool _) λ_=>aA.pure _
 .exact aA.unsupported _
 .exact aA.unsupported _
 .exact aA.stuck _
theorem aA.min(ts:Array TypeId)(t:TypeId)(args:Array Value):aA P S (Builtin.min_ ts t args):=by
 unfold Builtin.min_;split
 .exact aA.stuck _
 .exact aA.foldL (λ_ _=>aA.min2 _ _) _ _
end
section
variable {P:Program}{S:Nat->Prop}{B:Nat}{α β : Type}
def kL(w:World)(a:Addr)(c:Nat):Bool:=match w.shape? a.block with|some (_,n)=>a.spot.isNone&&decide (a.off+c<=n)|none=>false
theorem Dq(a:Addr)(c:Nat)(w:World)(es:Array Event):(Builtin.holdsCells a c).runT P w es=(.ok (kL w a c) w,es):=by
 unfold kL;show((Go.shape a.block).bind _).runT P w es=_;rw[Sem.runT_bind'];simp only[Go.shape,Sem.runT];cases w.shape? a.block with
 |none=>rfl
 |some q=>rfl
def lH(w:World)(s l:Nat):Option Addr->Bool
 |none=>true
 |some a=>kL w a (l*s)&&!w.frozen? (a.add (l/2*s))
def lJ(w:World)(s n:Nat)(b:Option Addr):Value->Bool
 |.slice (some c) _ _=>!kL w c (n*s)||b.any (·.block==c.block)
 |_=>false
theorem Pv(s l n:Nat)(b:Option Addr)(x:Value)(w:World)(es:Array Event):(Builtin.mayShare s l n b x).runT P w es=(.ok (if lH w s l b then lJ w s n b x else true) w,es):=by
 have rest:∀q:Bool,(if (!q)=true then Pure.pure true else match x with
   |.slice (some c) _ _=>do let r <-Builtin.holdsCells c (n*s);Pure.pure (!r||b.any (·.block==c.block))
   |_=>Pure.pure false:Sem Bool).runT P w es=(.ok (if q then lJ w s n b x else true) w,es):=λq=>by
  cases q
  .rfl
  .simp only[Bool.not_true,ay,if_false,if_true];unfold lJ;split
   .show((Builtin.holdsCells _ _).bind _).runT P w es=_;rw[Sem.runT_bind',Dq];rfl
   .rfl
 unfold Builtin.mayShare;simp only;cases b with
 |none=>show(Sem.bind (Pure.pure true) _).runT P w es=_;rw[Sem.runT_bind'];exact rest true
 |some a=>show((Builtin.holdsCells a (l*s)).bind _).runT P w es=_;rw[Sem.runT_bind',Dq];simp only;show((Go.frozen _).bind _).runT P w es=_;rw[Sem.runT_bind'];simp only[Go.frozen,Sem.runT];show(Sem.bind (Pure.pure _) _).runT P w es=_;rw[Sem.runT_bind'];exact rest _
theorem Cp{v W:World}(h:Rel P S B v W){a:Addr}{c:Nat}(e:kL v a c=true):¬S a.block:=λhs=>by unfold kL at e;rw[h.shape_hid hs]at e;cases e
theorem aA.noBear(msg:String)(s l n:Nat)(b:Option Addr)(x:Value):aA P S (do
  let q <-Builtin.mayShare s l n b x
  if (!q)=true then do
   let _ <-mark Mark.noRoom
   Go.unsupported (Unsupported.resourceLimit msg)
  else(Go.unsupported (Unsupported.resourceLimit msg):Sem Unit)):=by
 intro B v W es h
 have run:∀w:World,(do
   let q <-Builtin.mayShare s l n b x;if (!q)=true then do
    let _ <-mark Mark.noRoom;Go.unsupported (Unsupported.resourceLimit msg)
   else(Go.unsupported (Unsupported.resourceLimit msg):Sem Unit)).runT P w es
   = (.halt (.unsupported (Unsupported.resourceLimit msg)) w,if (if lH w s l b then lJ w s n b x else true) then es else es.push ⟨.mark .noRoom,false,true⟩):=λw=>by
  show((Builtin.mayShare s l n b x).bind _).runT P w es=_;rw[Sem.runT_bind',Pv];simp only;cases(if lH w s l b then lJ w s n b x else true)<;>rfl
 have we:jJ (.unsupported (Unsupported.resourceLimit msg)):=λx hx=>by cases hx
 cases hv:(if lH v s l b then lJ v s n b x else true) with
 |true=>rw[run v,hv];exact eZ.over _ we (.refl _)
 |false=>
  have ht:lH v s l b=true:=by
   cases hh:lH v s l b with
   |true=>rfl
   |false=>rw[hh]at hv;cases hv
  rw[ht]at hv;simp only[if_true]at hv;have vm:∀(a:Addr)(c:Nat),¬S a.block->kL W a c=kL v a c:=λa c hs=>by unfold kL;rw[h.shape hs]
  have h1:lH W s l b=true:=by
   cases b with
   |none=>rfl
   |some a=>
    simp only[lH,bq]at ht⊢;have hs:=Cp h ht.1;have im:¬S (a.add (l/2*s)).block:=by unfold Addr.add;split<;>exact hs
    rw[vm a _ hs,h.frozen im];exact ht
  have h2:lJ W s n b x=false:=by
   unfold lJ at hv⊢;split at hv
   .rename_i c _ _;simp only[Bool.or_eq_false_iff,Bool.not_eq_false']at hv⊢;rw[vm _ _ (Cp h hv.1)];exact hv
   .rfl
  rw[run v,run W,ht,h1];simp only[if_true];rw[hv,h2];simp only[ay,if_false];exact .inl ⟨we,λ_ hn=>hn⟩
theorem aA.append(ts:Array TypeId)(t:TypeId)(args:Array Value):aA P S (Builtin.append_ ts t args):=by
 unfold Builtin.append_;split
 .refine aA.bind (aA.underlying _) λd=>?_;split
  .split
   .refine aA.bind (aA.sizeOf _) λz=>?_;simp only;repeat' with_reducible first
     |exact aA.pure _
     |refine aA.bind (aA.pure _) λ_=>?_
     |refine aA.bind (aA.typeInfo _) λ_=>?_
     |refine aA.bind (aA.underlying _) λ_=>?_
     |refine aA.bind (aA.zeroValue _) λ_=>?_
     |refine aA.bind (aA.asInt _) λ_=>?_
     |refine aA.bind (aA.lenOf _) λ_=>?_
     |refine aA.bind (aA.choose _) λ_=>?_
     |refine aA.bind (aA.askRoom _) λ_=>?_
     |refine aA.bind (aA.firstCells _ _ _) λ_=>?_
     |refine aA.bind (aA.storeCells _ _ _) λ_=>?_
     |refine aA.bind (aA.newRow _ _) λ_=>?_
     |refine aA.bind (aA.runtimePanic _) λ_=>?_
     |refine aA.bind (aA.ite (aA.runtimePanic _) (aA.noBear _ _ _ _ _ _)) λ_=>?_
     |refine aA.bind (aA.ite (aA.firstCells _ _ _) (aA.ite (aA.pure _) (aA.bind (aA.zeroValue _) λ_=>aA.pure _))) λ_=>?_
     |refine aA.ite ?_ ?_
     |split
   .exact aA.stuck _
  .exact aA.stuck _
 .exact aA.stuck _
end
section
variable {P:Program}{S:Nat->Prop}{B:Nat}{α β : Type}
theorem aA.bytesToString(x:Value):aA P S (Conv.bytesToString x):=by
 unfold Conv.bytesToString;split
 .exact aA.pure _
 .refine aA.bind (aA.loadCells _ _) λc=>aA.bind (aA.forInA (λa s=>?_) _ _) λ_=>aA.pure _;split<;>first|exact aA.pure _|exact aA.stuck _
 .exact aA.stuck _
theorem aA.newMark(e:TypeId)(c:Array Value)(k:Addr->Sem α)(hk:∀a,aA P S (k a)):aA P S (do let a <-Go.newRow e c;Go.markStringish a;k a):=by
 have first:aA P S (do let a <-Go.newRow e c;Go.markStringish a;Pure.pure a):=by
  intro B v W es h;have en:∀w:World,(do let a <-Go.newRow e c;Go.markStringish a;Pure.pure a:Sem Addr).runT P w es
    = (.ok ⟨w.heap.size,0,none⟩ (World.freeze {w with heap:=w.heap.push (.cells c e)} ⟨w.heap.size,c.size,none⟩ 1),es):=λw=>by
   show((Go.newRow e c).bind λa=>(Go.markStringish a).bind λ_=>Pure.pure a).runT P w es=_;rw[Sem.runT_bind'];have e1:(Go.newRow e c).runT P w es=(.ok ⟨w.heap.size,0,none⟩ {w with heap:=w.heap.push (.cells c e)},es):=rfl;rw[e1];simp only;rw[Sem.runT_bind'];have e2:(Go.markStringish ⟨w.heap.size,0,none⟩).runT P {w with heap:=w.heap.push (.cells c e)} es=(.ok () (World.freeze {w with heap:=w.heap.push (.cells c e)} ⟨w.heap.size,c.size,none⟩ 1),es):=by
    show((Go.shape w.heap.size).bind _).runT P _ es=_;rw[Sem.runT_bind'];have:(World.shape? {w with heap:=w.heap.push (.cells c e)} w.heap.size)=some (e,c.size):=by simp[World.shape?]
    simp only[Go.shape,Sem.runT,this];rfl
   rw[e2];rfl
  rw[en,en];intro hb;rw[<-h.size];refine⟨_,rfl,?_,?_,?_,.refl _ _,λb hb=>?_⟩
  .simp[World.freeze]
  .simp[World.freeze]
  rotate_left
  .have dp:=h.lt hb;have fo:=h.size;simp only[World.freeze,Nat.succ_ne_zero,if_false];rw[Array.getElem?_modify,ah (by omega),Array.getElem?_push,ah (by omega)]
  .have hp:=h.push (o:=.cells c e) trivial;simp only[World.freeze,Nat.succ_ne_zero,if_false];exact hp.modify h.new _ (λo ho=>by cases o<;>simp_all[Obj.tame])
 have e3:(do let a <-Go.newRow e c;Go.markStringish a;k a)=((do let a <-Go.newRow e c;Go.markStringish a;Pure.pure a) >>= k):=by simp
 rw[e3];exact aA.bind first hk
theorem aA.stringToBytes(e:TypeId)(s:ByteArray):aA P S (Conv.stringToBytes e s):=by unfold Conv.stringToBytes;exact aA.bind (aA.choose _) λc=>aA.newMark e _ (λa=>Pure.pure (Value.slice (some a) s.size c)) λ_=>aA.pure _
theorem aA.floatToInt(k:FloatKind)(x:Nat)(k':IntKind):aA P S (Conv.floatToInt k x k'):=by
 unfold Conv.floatToInt;simp only;split
 .exact aA.ite (aA.pure _) (aA.bind (aA.choose _) λ_=>aA.pure _)
 .exact aA.bind (aA.choose _) λ_=>aA.pure _
def zC(P:Program)(src dst:TypeId):Bool:=
 match P.underlying src,P.underlying dst with
 |some (.int _),some (.int _)=>true
 |some .string,some .string=>true
 |some .string,some (.slice e)=>(P.underlying e matches some (.int .u8))
 |some (.slice e),some .string=>(P.underlying e matches some (.int .u8))
 |_,_=>false
theorem Do{t:TypeId}{d:TypeDesc}(h:P.underlying t=some d)(w:World)(es:Array Event):(Go.underlying t).runT P w es=(.ok d w,es):=by unfold Go.underlying;show(Go.program.bind _).runT P w es=_;rw[Sem.runT_bind'];simp only[Go.program,Sem.runT,h];rfl
theorem aA.under{t:TypeId}{d:TypeDesc}{f:TypeDesc->Sem α}(h:P.underlying t=some d)(hf:aA P S (f d)):aA P S (Go.underlying t >>= f):=by intro B v W es hR;show eZ P S _ _ _ _ (((Go.underlying t).bind f).runT P v es) (((Go.underlying t).bind f).runT P W es);rw[Sem.runT_bind',Sem.runT_bind',Do h,Do h];exact hf B v W es hR
theorem aA.convert{src dst:TypeId}(ok:zC P src dst=true)(x:Value):aA P S (Go.convert src dst x):=by
 unfold zC at ok;unfold Go.convert;split at ok
 .rename_i k k' h1 h2;refine aA.under h1 (aA.under h2 ?_);split<;>first|exact aA.pure _|exact aA.unsupported _|exact aA.floatToInt _ _ _|(simp_all;done)
 .rename_i h1 h2;refine aA.under h1 (aA.under h2 ?_);split<;>first|exact aA.pure _|exact aA.unsupported _|(simp_all;done)
 .rename_i e h1 h2;have h3:P.underlying e=some (.int .u8):=by
   revert ok;cases h:P.underlying e with
   |none=>intro x;cases x
   |some d=>
    cases d<;>first|(intro x;cases x;done)|skip
    rename_i k;cases k<;>first|(intro x;cases x;done)|(intro _;rfl)
  refine aA.under h1 (aA.under h2 ?_);cases x with
  |string s=>exact aA.under h3 (aA.stringToBytes _ _)
  |slice a _ _=>cases a<;>exact aA.unsupported _
  |_=>exact aA.unsupported _
 .rename_i e h1 h2;have h3:P.underlying e=some (.int .u8):=by
   revert ok;cases h:P.underlying e with
   |none=>intro x;cases x
   |some d=>
    cases d<;>first|(intro x;cases x;done)|skip
    rename_i k;cases k<;>first|(intro x;cases x;done)|(intro _;rfl)
  refine aA.under h1 (aA.under h2 ?_);cases x<;>first|exact aA.under h3 (aA.bytesToString _)|exact aA.pure _|exact aA.unsupported _
 .cases ok
theorem aA.followBlind:∀(l:List FieldStep)(t:TypeId)(x:Option Value),aA P S (Go.followBlind l t x)
 |[],_,_=>aA.pure _
 |s::rest,t,x=>by
  have ih:=aA.followBlind rest;rw[Go.followBlind];refine aA.bind (aA.underlying _) λd=>?_
  split
  .split
   .split
    .exact aA.pure _
    .exact ih _ _
    .exact aA.stuck _
    .exact aA.pure _
    .exact aA.bind (aA.part _ _ _) λ_=>ih _ _
    .exact aA.stuck _
    .exact ih _ _
   .exact aA.stuck _
  .exact aA.stuck _
theorem aA.nilAhead:∀(n:Nat)(t:TypeId)(v:Value)(name:String),aA P S (Go.nilAhead n t v name)
 |0,_,_,_=>aA.pure _
 |n+1,t,v,name=>by
  have ih:=aA.nilAhead n;rw[Go.nilAhead];refine aA.bind (aA.typeInfo _) λi=>?_
  split
  .refine aA.bind (aA.followBlind _ _ _) λr=>?_
   split
   .exact aA.pure _
   .split
    .exact ih _ _ _
    .exact aA.pure _
    .exact aA.stuck _
    .exact aA.pure _
    .exact aA.pure _
    .refine aA.bind (aA.underlying _) λd=>?_
     split<;>exact aA.pure _
  .exact aA.stuck _
theorem aA.callFunc{f:FuncId}{fn:Func}(hf:P.funcs[f]?=some fn)(hb:fn.body.isSome=true)(args:Array Value):aA P S (Go.callFunc f args):=by
 intro B v W es h;have e:∀w:World,(Go.callFunc f args).runT P w es=(.ok (if fn.name == "runtime.NumGoroutine" then .numGoroutine else .enter f args) w,es):=by
  intro w;unfold Go.callFunc;show(Go.program.bind _).runT P w es=_;rw[Sem.runT_bind'];simp only[Go.program,Sem.runT,hf];split
  .rfl
  .rename_i hn;have qp:fn.body.isNone=false:=by cases hh:fn.body<;>simp_all
   simp only[qp,ay,if_false];rfl
 rw[e,e];exact .stay h
def zD(F:FuncId->Bool)(c:Call):Bool:=
 match c.callee with
 |.builtin b=>b == .append||b == .cap||b == .copy||b == .len||b == .min
 |.value (.func f)=>F f
 |_=>false
def bW(P:Program)(F:FuncId->Bool)(o:Oper):Bool:=
 match o.op with
 |.move _|.assign _|.pick _ _ _|.alloc _|.box _ _|.build _ _|.buildSlice _ _ _|.load _ _|.store _ _ _|.nilCheck _|.binOp _ _ _ _ _|.unOp _ _ _
 |.makeSlice _ _ _|.slice _ _ _ _ _|.fieldAddr _ _ _|.field _ _ _|.indexAddr _ _ _|.index _ _ _|.extract _ _=>true
 |.convert s d _=>zC P s d
 |.call c=>zD F c
 |_=>false
def Ig(F:FuncId->Bool):Next->Prop
 |.value _|.skip=>True
 |.enter f _=>F f=true
 |_=>False
def oN(P:Program)(F:FuncId->Bool):Prop:=∀f,F f=true->∃fn,P.funcs[f]?=some fn∧fn.body.isSome=true∧(fn.name == "runtime.NumGoroutine")=false
theorem aA.execOp(hC:iB P){F:FuncId->Bool}(hF:oN P F){ρ : Operand->Value}(hρ : ∀f,ρ (.func f)=.func (.func f) #[] #[]){o:Oper}(ho:bW P F o=true):aA P S (Go.execOp ρ o):=by
 unfold bW at ho;unfold Go.execOp;split at ho
 all_goals try (cases ho;done)
 all_goals rename_i heq;rw[heq];simp only
 .exact aA.pure _
 .exact aA.pure _
 .exact aA.bind (aA.asBool _) λ_=>aA.pure _
 .exact aA.bind (aA.alloc _) λ_=>aA.pure _
 .exact aA.bind (aA.box _ _) λ_=>aA.pure _
 .exact aA.bind (aA.build _ _) λ_=>aA.pure _
 .exact aA.bind (aA.buildSlice _ _ _) λ_=>aA.pure _
 .exact aA.bind (aA.loadAt _ _) λ_=>aA.pure _
 .exact aA.bind (aA.storeAt _ _ _) λ_=>aA.pure _
 .split
  .exact aA.runtimePanic _
  .exact aA.runtimePanic _
  .exact aA.runtimePanic _
  .split
   .exact aA.runtimePanic _
   .refine aA.bind aA.program λp=>aA.bind (aA.nilAhead _ _ _ _) λq=>?_;exact aA.ite (aA.bind (aA.unsupported _) λ_=>aA.pure _) (aA.pure _)
   .exact aA.pure _
  .exact aA.pure _
 .exact aA.bind (aA.bind (aA.eqGuard _ _ _ _ _ _) λ_=>aA.binOp hC _ _ _ _) λ_=>aA.pure _
 .exact aA.bind (aA.unary _ _) λ_=>aA.pure _
 .exact aA.bind (aA.makeSlice _ _ _) λ_=>aA.pure _
 .exact aA.bind (aA.sliceAt _ _ _ _ _) λ_=>aA.pure _
 .exact aA.bind (aA.fieldAt _ _ _) λ_=>aA.pure _
 .exact aA.bind (aA.field _ _ _) λ_=>aA.pure _
 .exact aA.bind (aA.indexAt _ _ _) λ_=>aA.pure _
 .exact aA.bind (aA.index _ _ _) λ_=>aA.pure _
 .exact aA.bind (aA.extract _ _) λ_=>aA.pure _
 .exact aA.bind (aA.convert ho _) λ_=>aA.pure _
 .rename_i c;unfold zD at ho;split at ho
  .rename_i b hb;have e:∀ρ : Operand->Value,(do let d <-resolve ρ c o.type;invoke d.target d.args)=builtin b c.argTypes o.type (c.args.map λ|.const _=>true|_=>false) (c.args.map ρ):=by
    intro ρ;unfold resolve;simp only[hb];rfl
   rw[e];cases b<;>first|(cases ho;done)|skip
   .exact aA.bind (aA.append _ _ _) λ_=>aA.pure _
   .exact aA.bind (aA.cap _ _ _) λ_=>aA.pure _
   .exact aA.bind (aA.copy _ _ _) λ_=>aA.pure _
   .exact aA.bind (aA.len _ _ _) λ_=>aA.pure _
   .exact aA.bind (aA.min _ _ _) λ_=>aA.pure _
  .rename_i f hb;have e:(do let d <-resolve ρ c o.type;invoke d.target d.args)=Go.callFunc f (#[]++c.args.map ρ++#[]):=by
    unfold resolve;simp only[hb,hρ,Deferred.ofValue];rfl
   rw[e];obtain⟨fn,h1,h2,_⟩:=hF f ho;exact aA.callFunc h1 h2 _
  .cases ho
theorem fL{s:Sem α}{f:α->Next}{w w':World}{n:Next}(h:(do let x <-s;Pure.pure (f x):Sem Next).run P w=.ok n w'):∃x,n=f x:=by
 have h1:(s.bind λx=>Pure.pure (f x)).run P w=.ok n w':=h;rw[Sem.run_bind']at h1;cases hs:s.run P w with
 |ok a w1=>rw[hs]at h1;cases h1;exact⟨a,rfl⟩
 |halt x w1=>rw[hs]at h1;cases h1
theorem vQ{s:Sem α}{k:α->Sem β}{w w':World}{n:β}(h:(s >>= k).run P w=.ok n w'):∃a w1,(k a).run P w1=.ok n w':=by
 have h1:(s.bind k).run P w=.ok n w':=h;rw[Sem.run_bind']at h1;cases hs:s.run P w with
 |ok a w1=>rw[hs]at h1;exact⟨a,w1,h1⟩
 |halt x w1=>rw[hs]at h1;cases h1
theorem Bm{F:FuncId->Bool}(hF:oN P F){ρ : Operand->Value}(hρ : ∀f,ρ (.func f)=.func (.func f) #[] #[]){o:Oper}(ho:bW P F o=true){w w':World}{n:Next}
  (h:(Go.execOp ρ o).run P w=.ok n w'):Ig F n:=by
 unfold bW at ho;unfold Go.execOp at h;split at ho
 all_goals try (cases ho;done)
 all_goals rename_i heq;rw[heq]at h;simp only at h
 .cases h;trivial
 .cases h;trivial
 .obtain⟨v,rfl⟩:=fL h;trivial
 .obtain⟨v,rfl⟩:=fL h;trivial
 .obtain⟨v,rfl⟩:=fL h;trivial
 .obtain⟨v,rfl⟩:=fL h;trivial
 .obtain⟨v,rfl⟩:=fL h;trivial
 .obtain⟨v,rfl⟩:=fL h;trivial
 .obtain⟨v,rfl⟩:=fL h;trivial
 .split at h
  .cases h
  .cases h
  .cases h
  .split at h
   .cases h
   .obtain⟨_,w1,h⟩:=vQ h;obtain⟨q,w2,h⟩:=vQ h;split at h
    .obtain⟨_,w3,h⟩:=vQ h;cases h;trivial
    .cases h;trivial
   .cases h;trivial
  .cases h;trivial
 .obtain⟨v,rfl⟩:=fL (s:=do eqGuard _ _ _ _ _ _;Go.binOp _ _ _ _) h;trivial
 .obtain⟨v,rfl⟩:=fL h;trivial
 .obtain⟨v,rfl⟩:=fL h;trivial
 .obtain⟨v,rfl⟩:=fL h;trivial
 .obtain⟨v,rfl⟩:=fL h;trivial
 .obtain⟨v,rfl⟩:=fL h;trivial
 .obtain⟨v,rfl⟩:=fL h;trivial
 .obtain⟨v,rfl⟩:=fL h;trivial
 .obtain⟨v,rfl⟩:=fL h;trivial
 .obtain⟨v,rfl⟩:=fL h;trivial
 .rename_i c;unfold zD at ho;split at ho
  .rename_i b hb;have e:(do let d <-resolve ρ c o.type;invoke d.target d.args)=builtin b c.argTypes o.type (c.args.map λ|.const _=>true|_=>false) (c.args.map ρ):=by
    unfold resolve;simp only[hb];rfl
   rw[e]at h;cases b<;>first|(cases ho;done)|skip
   all_goals obtain⟨v,rfl⟩:=fL h;trivial
  .rename_i f hb;have e:(do let d <-resolve ρ c o.type;invoke d.target d.args)=Go.callFunc f (#[]++c.args.map ρ++#[]):=by
    unfold resolve;simp only[hb,hρ,Deferred.ofValue];rfl
   rw[e]at h;obtain⟨fn,h1,h2,h3⟩:=hF f ho;unfold Go.callFunc at h;have h4:(Go.program.bind _).run P w=.ok n w':=h;rw[Sem.run_bind']at h4;have qp:fn.body.isNone=false:=by cases hh:fn.body<;>simp_all
   simp only[Go.program,Sem.run,Result.andThen,h1,h3,qp,ay,if_false]at h4;cases h4
   exact ho
  .cases ho
end
open Go.Conc
def okCode(P:Program)(F:FuncId->Bool):Code->Bool
 |.skip|.label _|.exit _|.ret|.refuse _=>true
 |.region _ ops _=>ops.all (bW P F)
 |.seq a b=>okCode P F a&&okCode P F b
 |.cond _ a b=>okCode P F a&&okCode P F b
 |.block _ c=>okCode P F c
 |.loop c=>okCode P F c
 |_=>false
def cH(P:Program)(F:FuncId->Bool):Item->Bool
 |.code c=>okCode P F c
 |.inBlock _=>true
 |.inLoop c=>okCode P F c
 |.inRegion ops _=>ops.all (bW P F)
 |_=>false
structure Good(P:Program)(F:FuncId->Bool):Prop where
 body:∀f,F f=true->∃fn c,P.funcs[f]?=some fn∧fn.body=some c∧okCode P F c=true∧(fn.name == "runtime.NumGoroutine")=false
 cc:iB P
structure OkFrame(P:Program)(F:FuncId->Bool)(fr:Frame):Prop where
 todo:∀x∈fr.todo,cH P F x=true
 defers:fr.defers=[]
 kind:fr.kind=.normal
 round:fr.roundOf=none
 fn:∃f,P.funcs[fr.fn]?=some f
section
variable {P:Program}{F:FuncId->Bool}{S:Nat->Prop}{B:Nat}
theorem Good.closed(h:Good P F):oN P F:=λf hf=>by obtain⟨fn,c,h1,h2,_,h3⟩:=h.body f hf;exact⟨fn,h1,by simp[h2],h3⟩
def run(fn:FuncId)(tmps:Array Value)(todo:List Item):Frame:=⟨fn,tmps,todo,[],.run,.normal,none⟩
theorem OkFrame.run{fn:FuncId}{tmps:Array Value}{todo:List Item}(ny:∃f,P.funcs[fn]?=some f)(h:∀x∈todo,cH P F x=true):OkFrame P F (Vw.run fn tmps todo):=⟨h,rfl,rfl,rfl,ny⟩
theorem sQ{id:Nat} : ∀{k k':List Item},exitTo id k=some k'->∀x∈k',x∈k
 |[],_,h=>by simp[exitTo]at h
 |y::k,k',h=>by
  cases y
  case inBlock V_=>
   simp only[exitTo]at h;split at h
   .cases h;exact λx hx=>List.mem_cons_of_mem _ hx
   .exact λx hx=>List.mem_cons_of_mem _ (sQ h x hx)
  all_goals exact λx hx=>List.mem_cons_of_mem _ (sQ (by simpa [exitTo] using h) x hx)
section
variable {fn:FuncId}{tmps:Array Value}{ops:Array Oper}{i:Nat}{rest:List Nat}{k:List Item}{cs:List Frame}{s:Sem Next}{w w1:World}{fw:Array Event}
theorem vX{x:Value}(h:s.runT P w #[]=(.ok (.value x) w1,fw)):stepG.apply P true (Vw.run fn tmps (.inRegion ops (i::rest)::k)) cs none s w=.go (G ((Vw.run fn tmps (.inRegion ops (i::rest)::k)).finish x) cs) w1 (seen P fn fw):=by simp only[stepG.apply,if_true,h,Vw.run,GStep.after,G];simp
theorem wV(h:s.runT P w #[]=(.ok .skip w1,fw)):stepG.apply P true (Vw.run fn tmps (.inRegion ops (i::rest)::k)) cs none s w=.go (G ((Vw.run fn tmps (.inRegion ops (i::rest)::k)).finish undef) cs) w1 (seen P fn fw):=by simp only[stepG.apply,if_true,h,Vw.run,GStep.after,G];simp
theorem vZ{f:FuncId}{args:Array Value}(h:s.runT P w #[]=(.ok (.enter f args) w1,fw)):stepG.apply P true (Vw.run fn tmps (.inRegion ops (i::rest)::k)) cs none s w=.go (G (Frame.enter P f args .normal) (Vw.run fn tmps (.inRegion ops (i::rest)::k)::cs)) w1 (seen P fn fw):=by simp only[stepG.apply,if_true,h,Vw.run,GStep.after,G];simp
theorem vY{x:Value}(h:s.runT P w #[]=(.halt (.panic x) w1,fw)):stepG.apply P true (Vw.run fn tmps (.inRegion ops (i::rest)::k)) cs none s w=.go (G ((Vw.run fn tmps (.inRegion ops (i::rest)::k)).raise [{v:=x,recovered:=false}]) cs) w1 (seen P fn fw):=by simp only[stepG.apply,if_true,h,Vw.run,GStep.after,G];simp
theorem Ow{y:Halt}(hd:jJ y)(h:s.runT P w #[]=(.halt y w1,fw)){g':Goroutine}{w':World}{es:Array Event}:stepG.apply P true (Vw.run fn tmps (.inRegion ops (i::rest)::k)) cs none s w≠.go g' w' es:=by
 cases y<;>first|(exact hd.elim)|skip
 .rename_i u;cases u<;>first|(exact absurd rfl (hd _))|(simp only[stepG.apply,if_true,h,Vw.run,GStep.after];simp)
 .simp only[stepG.apply,if_true,h,Vw.run,GStep.after];simp
end
theorem tR{ops:Array Oper}(h:ops.all (bW P F)=true){i:Nat}{o:Oper}(ho:ops[i]?=some o):bW P F o=true:=by have:=Array.all_eq_true_iff_forall_mem.1 h o (Array.mem_of_getElem? ho);exact this
theorem aA.results(fn:Func)(tmps:Array Value):aA P S (Go.results fn tmps):=by
 unfold Go.results;refine aA.bind (aA.mapA (λr=>?_) _) λ_=>aA.pure _;split
 .exact aA.pure _
 .exact aA.bind (aA.asAddr _) λ_=>aA.loadVar _ _
theorem ok_finish'{c:Frame}(h:OkFrame P F c)(x:Value):OkFrame P F (c.finish x):=by
 obtain⟨fn,tmps,todo,defers,mode,kind,round⟩:=c;obtain⟨eb,oq,fc,ig,ny⟩:=h;simp only at eb oq fc ig ny;subst oq fc ig;unfold Frame.finish;simp only;split
 .refine⟨?_,rfl,rfl,rfl,ny⟩;rename_i ops i rest k;intro y hy;rcases List.mem_cons.1 hy with rfl|hk
  .exact eb (.inRegion ops (i::rest)) (by simp)
  .exact eb y (by simp[hk])
 .exact absurd (eb _ (bw)) (by simp[cH])
 .exact absurd (eb _ (bw)) (by simp[cH])
 .exact absurd (eb _ (bw)) (by simp[cH])
 .exact absurd (eb _ (bw)) (by simp[cH])
 .exact⟨eb,rfl,rfl,rfl,ny⟩
theorem tG{c:Frame}(h:OkFrame P F c)(chain:List PanicEntry):OkFrame P F (c.raise chain):=by
 unfold Frame.raise;first
 |exact⟨h.todo,h.defers,h.kind,h.round,h.fn⟩
 |(split<;>exact⟨h.todo,h.defers,h.kind,h.round,h.fn⟩)
end
