import Derived.Test.YtpiefebngnlfoabGreatDoorLi
import Derived.Conc.WgGenN3
import Derived.Conc.Starve
import Derived.Deep.WholeRow
import Derived.Conc.SmallLaws
import Derived.Conc.EventLaws
import Derived.Conc.EventLaws2
set_option maxRecDepth 99999
set_option maxHeartbeats 0
set_option linter.unusedVariables false
namespace Go.Proofs.YtpiefebngnlfoabGreatDoor.Fld
def xt(a:Nat):Nat:=if a<128 then 2*a else(2*a) ^^^ 285
def xp:Nat->Nat->Nat
 |0,a=>a
 |k+1,a=>xt (xp k a)
def mk(a b:Nat):Nat->Nat
 |0=>0
 |k+1=>if b / 2 ^ k % 2=1 then mk a b k ^^^ xp k a else mk a b k
def mul(a b:Nat):Nat:=mk a b 8
def vU(p:Nat->Bool):Nat->Bool
 |0=>true
 |n+1=>p n&&vU p n
theorem allTo_spec{p:Nat->Bool}{n:Nat}(h:vU p n=true):∀ k,k<n->p k=true:=by
 induction n with
 |zero=>intro k hk;omega
 |succ n ih=>
  simp only[vU,Bool.and_eq_true]at h;intro k hk;by_cases e:k=n
  .subst e;exact h.1
  .exact ih h.2 k (by omega)
theorem zaY{a:Nat}(h:a<256):xt a<256:=by
 have:=allTo_spec (p:=fun a=>decide (xt a<256)) (n:=256) (by decide +kernel) a h
 simpa using this
theorem zaX{a:Nat}(h:a<256)(h0:a≠0):xt a≠0:=by
 have:=allTo_spec (p:=fun a=>a == 0||xt a != 0) (n:=256) (by decide +kernel) a h
 simpa [h0] using this
theorem Ia(n k:Nat):n / 2 ^ k % 2=1↔n.testBit k=true:=by
 rw[Nat.testBit_eq_decide_div_mod_eq];simp
theorem xor_lt{a b:Nat}(ha:a<256)(hb:b<256):a ^^^ b<256:=Nat.xor_lt_two_pow (n:=8) ha hb
theorem Aj(a:Nat):xt a=if a.testBit 7=true∧a<256 then(2*a) ^^^ 285 else if a<256 then 2*a else xt a:=by
 unfold xt;by_cases h:a<256
 .have:a.testBit 7=true↔128<=a:=by rw[<-Ia];omega
  by_cases g:a<128
  .have:¬a.testBit 7=true:=by rw[this];omega
   simp[h,this,g]
  .have:a.testBit 7=true:=by rw[this];omega
   simp[h,this,g]
 .simp[h]
theorem Lp(a b:Nat):2*(a ^^^ b)=(2*a) ^^^ (2*b):=by
 have h (n:Nat):2*n=n <<< 1:=by rw[Nat.shiftLeft_eq];omega
 rw[h,h a,h b,Nat.shiftLeft_xor_distrib]
theorem xD(a b:Nat):a ^^^ b ^^^ b=a:=by rw[Nat.xor_assoc,Nat.xor_self,Nat.xor_zero]
theorem wA(a b c d:Nat):(a ^^^ b) ^^^ (c ^^^ d)=(a ^^^ c) ^^^ (b ^^^ d):=by
 rw[Nat.xor_assoc,<-Nat.xor_assoc b,Nat.xor_comm b c,Nat.xor_assoc c,<-Nat.xor_assoc]
theorem Ie{a b:Nat}(ha:a<256)(hb:b<256):xt (a ^^^ b)=xt a ^^^ xt b:=by
 have hab:=xor_lt ha hb;have ht:(a ^^^ b).testBit 7=(a.testBit 7 ^^ b.testBit 7):=Nat.testBit_xor _ _ _;rw[Aj a,Aj b,Aj (a ^^^ b),ht,Lp];simp only[ha,hb,hab,and_true,if_true];have e:=xD (2*a ^^^ 2*b) 285;cases a.testBit 7<;>cases b.testBit 7<;>simp
 .exact Nat.xor_assoc _ _ _
 .rw[Nat.xor_assoc,Nat.xor_assoc,Nat.xor_comm 285]
 .rw[wA,Nat.xor_self,Nat.xor_zero]
theorem Xb:xt 0=0:=rfl
theorem xp_lt{a:Nat}(h:a<256)(k:Nat):xp k a<256:=by
 induction k with
 |zero=>exact h
 |succ k ih=>exact zaY ih
theorem Zf{a b:Nat}(ha:a<256)(hb:b<256)(k:Nat):xp k (a ^^^ b)=xp k a ^^^ xp k b:=by
 induction k with
 |zero=>rfl
 |succ k ih=>simp only[xp];rw[ih,Ie (xp_lt ha k) (xp_lt hb k)]
theorem Xc(k:Nat):xp k 0=0:=by
 induction k with
 |zero=>rfl
 |succ k ih=>simp only[xp];rw[ih,Xb]
theorem zbB{a:Nat}(h:a<256)(h0:a≠0)(k:Nat):xp k a≠0:=by
 induction k with
 |zero=>exact h0
 |succ k ih=>exact zaX (xp_lt h k) ih
theorem vD(i j a:Nat):xp (i+j) a=xp i (xp j a):=by
 induction i with
 |zero=>simp[xp]
 |succ i ih=>rw[show i+1+j=(i+j)+1 from by omega];simp only[xp];rw[ih]
theorem Ja(k a:Nat):xp k (xt a)=xt (xp k a):=by
 induction k with
 |zero=>rfl
 |succ k ih=>simp only[xp];rw[ih]
theorem mk_lt{a:Nat}(h:a<256)(b k:Nat):mk a b k<256:=by
 induction k with
 |zero=>simp[mk]
 |succ k ih=>
  simp only[mk];split
  .exact xor_lt ih (xp_lt h k)
  .exact ih
theorem mk_stay(a b k:Nat)(h:b / 2 ^ k=0)(j:Nat):mk a b (k+j)=mk a b k:=by
 induction j with
 |zero=>rfl
 |succ j ih=>
  have:b / 2 ^ (k+j)=0:=by rw[Nat.pow_add,<-Nat.div_div_eq_div_mul,h];simp
  rw[<-Nat.add_assoc];simp only[mk];rw[this];simpa using ih
theorem zbW{a:Nat}(h:a<256)(b k:Nat):mk (xt a) b k=xt (mk a b k):=by
 induction k with
 |zero=>rfl
 |succ k ih=>
  simp only[mk];split
  .rw[ih,Ja,Ie (mk_lt h b k) (xp_lt h k)]
  .exact ih
theorem Ng{a c:Nat}(ha:a<256)(hc:c<256)(b k:Nat):mk (a ^^^ c) b k=mk a b k ^^^ mk c b k:=by
 induction k with
 |zero=>simp[mk]
 |succ k ih=>
  simp only[mk];split
  .rw[ih,Zf ha hc,wA]
  .exact ih
theorem Lj(a b c k:Nat):mk a (b ^^^ c) k=mk a b k ^^^ mk a c k:=by
 induction k with
 |zero=>simp[mk]
 |succ k ih=>
  simp only[mk,Ia,Nat.testBit_xor];rw[ih];cases b.testBit k<;>cases c.testBit k<;>simp
  .exact Nat.xor_assoc _ _ _
  .rw[Nat.xor_assoc,Nat.xor_assoc,Nat.xor_comm (mk a c k)]
  .rw[wA,Nat.xor_self,Nat.xor_zero]
theorem Li(b k:Nat):mk 0 b k=0:=by
 induction k with
 |zero=>rfl
 |succ k ih=>simp only[mk];rw[ih,Xc];simp
theorem Kl(a k:Nat):mk a 0 k=0:=by
 induction k with
 |zero=>rfl
 |succ k ih=>simp only[mk];rw[ih];simp
theorem mul_lt{a:Nat}(h:a<256)(b:Nat):mul a b<256:=mk_lt h b 8
theorem jO(b:Nat):mul 0 b=0:=Li b 8
theorem mul_zero(a:Nat):mul a 0=0:=Kl a 8
theorem rP(a b c:Nat):mul a (b ^^^ c)=mul a b ^^^ mul a c:=Lj a b c 8
theorem add_mul{a c:Nat}(ha:a<256)(hc:c<256)(b:Nat):mul (a ^^^ c) b=mul a b ^^^ mul c b:=Ng ha hc b 8
theorem one_mul{a:Nat}(h:a<256):mul 1 a=a:=by
 have:=allTo_spec (p:=fun a=>mul 1 a == a) (n:=256) (by decide +kernel) a h
 simpa using this
theorem mY{b:Nat}(hb:b<256)(i:Nat):mul (xp i 1) b=xp i b:=by
 induction i with
 |zero=>exact one_mul hb
 |succ i ih=>
  show mk (xt (xp i 1)) b 8=xt (xp i b);rw[zbW (xp_lt (by omega) i)];exact congrArg xt ih
def sM:Nat->Nat->List Nat
 |0,_=>[]
 |n+1,a=>a :: sM n (xt a)
theorem Rx(n a c:Nat)(h:c∈sM n a):∃ i,c=xp i a:=by
 induction n generalizing a with
 |zero=>simp[sM]at h
 |succ n ih=>
  simp only[sM,List.mem_cons]at h;rcases h with rfl|h
  .exact⟨0,rfl⟩
  .obtain⟨i,hi⟩:=ih _ h;exact⟨i+1,by rw[hi,Ja];rfl⟩
theorem qW{a:Nat}(h:a<256)(h0:a≠0):∃ i,a=xp i 1:=by
 have:=allTo_spec (p:=fun a=>a == 0||(sM 255 1).contains a) (n:=256) (by decide +kernel) a h
 exact Rx 255 1 a (by simpa [h0] using this)
theorem mul_comm{a b:Nat}(ha:a<256)(hb:b<256):mul a b=mul b a:=by
 by_cases a0:a=0
 .subst a0;rw[jO,mul_zero]
 by_cases b0:b=0
 .subst b0;rw[jO,mul_zero]
 obtain⟨i,rfl⟩:=qW ha a0;obtain⟨j,rfl⟩:=qW hb b0;rw[mY hb,mY ha,<-vD,<-vD,Nat.add_comm]
theorem mul_assoc{a b c:Nat}(ha:a<256)(hb:b<256)(hc:c<256):mul (mul a b) c=mul a (mul b c):=by
 by_cases a0:a=0
 .subst a0;rw[jO,jO,jO]
 by_cases b0:b=0
 .subst b0;rw[mul_zero,jO,mul_zero]
 obtain⟨i,rfl⟩:=qW ha a0;obtain⟨j,rfl⟩:=qW hb b0;rw[mY hb,mY hc,<-vD,mY hc,mY (xp_lt hc j),vD]
theorem Ip{a b:Nat}(ha:a<256)(hb:b<256)(a0:a≠0)(b0:b≠0):mul a b≠0:=by
 obtain⟨i,rfl⟩:=qW ha a0;rw[mY hb];exact zbB hb b0 i
theorem Nd{a b:Nat}(ha:a<256)(hb:b<256):mul a b=0↔a=0∨b=0:=by
 constructor
 .intro h;by_cases a0:a=0
  .exact .inl a0
  by_cases b0:b=0
  .exact .inr b0
  exact absurd h (Ip ha hb a0 b0)
 .rintro(rfl|rfl)
  .exact jO _
  .exact mul_zero _
end Go.Proofs.YtpiefebngnlfoabGreatDoor.Fld
namespace Go.Proofs.YtpiefebngnlfoabGreatDoor
open Go.RowKit
theorem Tr(a:Nat)(h:a<128):bits .and .u8 (a:Int) 128=0:=by
 rw[show(128:Int)=((128:Nat):Int) from rfl,u8_and_nat a 128 (by omega) (by omega)];have:=Fld.allTo_spec (p:=fun a=>a&&&128 == 0) (n:=128) (by decide +kernel) a h
 simp at this;rw[this];rfl
theorem Tt(a:Nat)(h:128<=a)(h':a<256):bits .and .u8 (a:Int) 128=128:=by
 rw[show(128:Int)=((128:Nat):Int) from rfl,u8_and_nat a 128 (by omega) (by omega)];have:=Fld.allTo_spec (p:=fun a=>a<128||a&&&128 == 128) (n:=256) (by decide +kernel) a h'
 simp at this;rcases this with h|h
 .omega
 .rw[h]
theorem zaZ(a:Nat)(h:a<128):(a:Int)*2=((Fld.xt a:Nat):Int):=by
 unfold Fld.xt;rw[if_pos h];omega
theorem zbA(a:Nat)(h:128<=a)(h':a<256):bits .xor .u8 ((a:Int)*2 % 256) 29=((Fld.xt a:Nat):Int):=by
 have e:(a:Int)*2 % 256=((2*a % 256:Nat):Int):=by omega
 rw[e,show(29:Int)=((29:Nat):Int) from rfl,u8_xor_nat _ 29 (by omega) (by omega)];have:=Fld.allTo_spec (p:=fun a=>a<128||2*a % 256 ^^^ 29 == Fld.xt a) (n:=256) (by decide +kernel) a h'
 simp at this;rcases this with h|h
 .omega
 .rw[h]
theorem Jo(n:Nat)(h:n<256):bits .and .u8 (n:Int) 1=((n % 2:Nat):Int):=by
 rw[show(1:Int)=((1:Nat):Int) from rfl,u8_and_nat n 1 h (by omega),Nat.and_one_is_mod]
theorem Wx(n:Nat)(h:n<256)(g:n % 2=1):(bits .and .u8 (n:Int) 1 == 1)=true:=by rw[Jo n h,g];rfl
theorem Za(n:Nat)(h:n<256)(g:¬n % 2=1):(bits .and .u8 (n:Int) 1 == 1)=false:=by
 rw[Jo n h,show n % 2=0 from by omega];rfl
def sh(b k:Nat):Nat:=b / 2 ^ k
theorem uW(b k:Nat):sh b (k+1)=sh b k / 2:=by unfold sh;rw[Nat.pow_succ,Nat.div_div_eq_div_mul]
theorem zbM(b k:Nat)(h:b<256):sh b k<256:=Nat.lt_of_le_of_lt (Nat.div_le_self _ _) h
theorem zbL(b k:Nat)(h:b<256)(h0:sh b k≠0):k<8:=by
 by_cases g:k<8
 .exact g
 .exfalso;apply h0;unfold sh;apply Nat.div_eq_of_lt;have:2 ^ 8<=2 ^ k:=Nat.pow_le_pow_right (by omega) (by omega);omega
theorem Zy(a b k:Nat)(hk:k<=8)(h0:sh b k=0):Fld.mk a b k=Fld.mul a b:=by
 unfold Fld.mul;obtain⟨j,hj⟩:=Nat.exists_eq_add_of_le hk;have:=Fld.mk_stay a b k h0 j;rw[hj,this]
theorem zbX(a b k:Nat)(h:sh b k % 2=1):Fld.mk a b (k+1)=Fld.mk a b k ^^^ Fld.xp k a:=by
 simp only[Fld.mk];unfold sh at h;rw[if_pos h]
theorem Zx(a b k:Nat)(h:¬sh b k % 2=1):Fld.mk a b (k+1)=Fld.mk a b k:=by
 simp only[Fld.mk];unfold sh at h;rw[if_neg h]
abbrev link:Go.Conc.Lib.WgLink:={add:=80,done:=82,wait:=85,relMerge:=94,disable:=95,enable:=96,inBubble:=97,associate:=98,fatal:=99,uOr:=100,uAdd:=101,raceRead:=102,uLoad:=103,uStore:=104,disassociate:=105,semrelease:=106,acquire:=110,isAssociated:=111,uCas:=112,raceWrite:=113,semacquire:=114,orU64:=119,addU64:=120,loadU64:=121,storeU64:=122,casU64:=124,tWgP:=167,tUP:=169,tAssoc:=171,tWg:=155,tAU:=153,tU64:=74,tUint:=110,tU32:=137,tPU32:=175,tPAU:=192,tPU64:=194,tNoCopy:=149,tANoCopy:=150,tAlign64:=151}
theorem lX:Go.Conc.Lib.WgLib Tryz.prog link:=
 ⟨Tryz.func80,Tryz.func82,Tryz.func85,Tryz.func94,Tryz.func95,Tryz.func96,Tryz.func97,Tryz.func98,Tryz.func99,Tryz.func100,Tryz.func101,Tryz.func102,Tryz.func103,Tryz.func104,Tryz.func105,Tryz.func106,Tryz.func110,Tryz.func111,Tryz.func112,Tryz.func113,Tryz.func114,Tryz.func119,Tryz.func120,Tryz.func121,Tryz.func122,Tryz.func124,Tryz.underlying167,Tryz.runUnderlying167,Tryz.sizeOf167,Tryz.isAgg167,Tryz.zeroValue167,Tryz.underlying169,Tryz.runUnderlying169,Tryz.sizeOf169,Tryz.isAgg169,Tryz.zeroValue169,Tryz.underlying171,Tryz.runUnderlying171,Tryz.sizeOf171,Tryz.isAgg171,Tryz.zeroValue171,Tryz.underlying155,Tryz.runUnderlying155,Tryz.sizeOf155,Tryz.isAgg155,Tryz.zeroValue155,Tryz.underlying153,Tryz.runUnderlying153,Tryz.sizeOf153,Tryz.isAgg153,Tryz.zeroValue153,Tryz.underlying74,Tryz.runUnderlying74,Tryz.sizeOf74,Tryz.isAgg74,Tryz.zeroValue74,Tryz.underlying110,Tryz.runUnderlying110,Tryz.sizeOf110,Tryz.isAgg110,Tryz.zeroValue110,Tryz.underlying137,Tryz.runUnderlying137,Tryz.sizeOf137,Tryz.isAgg137,Tryz.zeroValue137,Tryz.underlying175,Tryz.runUnderlying175,Tryz.sizeOf175,Tryz.isAgg175,Tryz.zeroValue175,Tryz.underlying192,Tryz.runUnderlying192,Tryz.sizeOf192,Tryz.isAgg192,Tryz.zeroValue192,Tryz.underlying194,Tryz.runUnderlying194,Tryz.sizeOf194,Tryz.isAgg194,Tryz.zeroValue194,Tryz.underlying0,Tryz.runUnderlying0,Tryz.sizeOf0,Tryz.isAgg0,Tryz.zeroValue0,Tryz.underlying3,Tryz.runUnderlying3,Tryz.sizeOf3,Tryz.isAgg3,Tryz.zeroValue3,Tryz.underlying4,Tryz.runUnderlying4,Tryz.sizeOf4,Tryz.isAgg4,Tryz.zeroValue4,Tryz.underlying9,Tryz.runUnderlying9,Tryz.sizeOf9,Tryz.isAgg9,Tryz.zeroValue9,Tryz.underlying20,Tryz.runUnderlying20,Tryz.sizeOf20,Tryz.isAgg20,Tryz.zeroValue20,Tryz.underlying21,Tryz.runUnderlying21,Tryz.sizeOf21,Tryz.isAgg21,Tryz.zeroValue21,(by kernel_rfl),(by kernel_rfl)⟩
end Go.Proofs.YtpiefebngnlfoabGreatDoor
namespace Go.Vw
def Ap(P:Program)(F:FuncId->Bool)(f:FuncId):Bool:=
 match P.funcs[f]? with
 |some fn=>(match fn.body with|some c=>eG P F c|none=>false)&&!(fn.name == "runtime.NumGoroutine")
 |none=>false
theorem Sj{P:Program}{F:FuncId->Bool}{f:FuncId}(h:Ap P F f=true):∃ fn c,P.funcs[f]?=some fn∧fn.body=some c∧eG P F c=true∧(fn.name == "runtime.NumGoroutine")=false:=by
 unfold Ap at h;split at h
 .rename_i fn hf;rw[Bool.and_eq_true]at h;obtain⟨h1,h2⟩:=h;split at h1
  .rename_i c hc;exact⟨fn,c,hf,hc,h1,by simpa using h2⟩
  .cases h1
 .cases h
end Go.Vw
namespace Go.Proofs.YtpiefebngnlfoabGreatDoor
open Go.Vw
def FL:List FuncId:=[38,16,35,107,123,56,57,76,77,83,84,108,109]
def FG(f:FuncId):Bool:=FL.contains f
theorem zaU:FL.all (Ap Tryz.prog FG)=true:=by kernel_rfl
theorem aB:Vw.Good Tryz.prog FG:=by
 refine⟨fun f hf=>?_,nU⟩
 have hm:f∈FL:=by simpa [FG] using hf
 exact Sj (List.all_eq_true.1 zaU f hm)
section
open Go.Vw Go.Conc
variable {Stop:Goroutine->(Nat->Prop)->World->Prop}{S:Nat->Prop}{v:World}{fn:FuncId}{cs:List Frame}{k k':List Item}{a b:Array Value}
theorem rN(hr:Vw.Reach Tryz.prog Stop (G ((base fn).at ⟨b,[]⟩ k') cs) S v)(hs:Sp Tryz.prog S v fn a k b k':=by first|exact spQ rfl|exact spY aB|exact spW):Vw.Reach Tryz.prog Stop (G ((base fn).at ⟨a,[]⟩ k) cs) S v:=hs _ _ hr
theorem rM{A:Addr}{y:Value}(hc:v.cell? A=some y)(hr:Vw.Reach Tryz.prog Stop (G ((base fn).at ⟨b,[]⟩ k') cs) S v)(hs:v.cell? A=some y->Sp Tryz.prog S v fn a k b k':=by intro hc_;first|exact spQ rfl|exact spC aB hc_|exact spW):Vw.Reach Tryz.prog Stop (G ((base fn).at ⟨a,[]⟩ k) cs) S v:=hs hc _ _ hr
end
open Go.RowKit Go.Conc
theorem vF(n:Int):IntKind.u8.wrap n=n % 256:=by simp[IntKind.wrap,IntKind.bits,IntKind.signed]
section
variable {main:Bool}{R:World->World->Prop}{D:World->World->Array Event->Prop}
theorem Uh(T:Terms R D):∃ k,∀ (a:Nat) (w₀ w:World),a<256->Since R w₀ w->
  CallsC Tryz.prog main R D 123 #[.int .u8 (a:Int)] k w fun v w'=>v=.int .u8 (Fld.xt a:Nat)∧Since R w₀ w':=by
 co_apply Exists.intro;intro a w₀ w ha hF;co_apply callsC_of_wpC Tryz.func123 (by rfl) rfl;simp only[Tryz.ntmps123,List.size_toArray,List.length_cons,List.length_nil,Nat.reduceAdd,Nat.reduceSub,Array.replicate_succ,Array.replicate_zero,List.push_toArray,List.append_toArray,List.nil_append,List.cons_append];co_go T (Since.rely T) hF (co_quiet T);co_split T (bits .and .u8 (a:Int) 128 == 0)
 .intro ht;have g:a<128:=by
   rcases Nat.lt_or_ge a 128 with g|g
   .exact g
   .rw[Tt a g ha]at ht;cases ht
  co_go T (Since.rely T) hF (co_quiet T);exact⟨rfl,_,resultsC_tmp (by rfl) _,by simp only[go_sem];rw[vF];simpa [Int.emod_eq_of_lt (show(0:Int)<=(a:Int)*2 by omega) (show(a:Int)*2<256 by omega)] using zaZ a g,hF⟩
 .intro ht;have g:128<=a:=by
   rcases Nat.lt_or_ge a 128 with g|g
   .rw[Tr a g]at ht;cases ht
   .exact g
  co_go T (Since.rely T) hF (co_quiet T);exact⟨rfl,_,resultsC_tmp (by rfl) _,by simp[vF];exact zbA a g ha,hF⟩
theorem pT(T:Terms R D){P:Program}{fn:FuncId}{Q:Exit->Act->World->Prop}{a:Act}{w:World}{ops:Array Oper}{i:Nat}{rest:List Nat}{o:Oper}{f:FuncId}{args:Array Operand}{ats:Array TypeId}{nf n:Nat}{Post:Value->World->Prop}{vs:Array Value}
  (ho:ops[i]?=some o) (hw:Region.wanted o (yielded ops a.tmps)=true) (hop:o.op=.call {callee:=.value (.func f),args,argTypes:=ats})
  (hcall:CallsC P main R D f vs nf w Post) (hvs:args.map a.eval=vs) (hnext:∀ v w',Post v w'->OpsC P main R D fn ops rest n Q (a.put o.dst v) w'):OpsC P main R D fn ops (i :: rest) (n+nf+3) Q a w:=by
 subst hvs;exact opsC_call T ho hw hop hcall hnext
theorem vL(T:Terms R D):∃ k,∀ (a b:Nat) (w₀ w:World),a<256->b<256->Since R w₀ w->
  CallsC Tryz.prog main R D 107 #[.int .u8 (a:Int),.int .u8 (b:Int)] k w fun v w'=>v=.int .u8 (Fld.mul a b:Nat)∧Since R w₀ w':=by
 obtain⟨kx,hx⟩:=Uh (main:=main) T;co_apply Exists.intro;intro a b w₀ w ha hb hF;co_apply callsC_of_wpC Tryz.func107 (by rfl) rfl;simp only[Tryz.ntmps107,List.size_toArray,List.length_cons,List.length_nil,Nat.reduceAdd,Nat.reduceSub,Array.replicate_succ,Array.replicate_zero,List.push_toArray,List.append_toArray,List.nil_append,List.cons_append];co_go T (Since.rely T) hF (co_quiet T)
 co_apply wpC_loop T (fun act w'=>Since R w₀ w'∧∃ (k:Nat) (u2 u3 u6 u7 u8 u9 u10 u11 u12 u13 u14 u15 u16 u17 u18:Value),k<=8∧
   act=⟨#[.int .u8 (Fld.xp k a:Nat),.int .u8 (sh b k:Nat),u2,u3,.int .u8 0,.int .u8 (Fld.mk a b k:Nat),u6,u7,u8,u9,u10,u11,u12,u13,u14,u15,u16,u17,u18],[]⟩)
  (fun act _=>(intOf (act.tmps.getD 1 undef)).toNat) _ 256 ?h0 ?hN ?round
 case h0=>exact⟨hF,0,undef,undef,undef,undef,undef,undef,undef,undef,undef,undef,undef,undef,undef,undef,undef,by omega,by simp[sh,Fld.xp,Fld.mk]⟩
 case hN=>simp[intOf];omega
 case round=>
  rintro act w' ⟨hF,k,u2,u3,u6,u7,u8,u9,u10,u11,u12,u13,u14,u15,u16,u17,u18,hk,rfl⟩;have h1:=zbM b k hb;have h2:=Fld.xp_lt ha k;have h3:=Fld.mk_lt ha b k;co_go T (Since.rely T) hF (co_quiet T);co_split T ((sh b k:Int) != 0)
  .intro hz;have h0:sh b k≠0:=by intro e;rw[e]at hz;cases hz
   have hk8:=zbL b k hb h0;co_go T (Since.rely T) hF (co_quiet T);co_split T (bits .and .u8 (sh b k:Int) 1 == 1)
   .intro hb1;have hm:sh b k % 2=1:=by
     rcases Nat.mod_two_eq_zero_or_one (sh b k) with e|e
     .have:=Za _ h1 (show ¬sh b k % 2=1 by omega);rw[this]at hb1;cases hb1
     .exact e
    have H:=aE (zbX a b k hm);co_go T (Since.rely T) hF (co_quiet T);co_apply pT T rfl (by rfl) rfl (hx _ _ _ h2 hF) (by simp[Act.eval]);rintro v w'' ⟨rfl,hF⟩;co_go T (Since.rely T) hF (co_quiet T);have e2:((sh b k:Nat):Int) / 2=((sh b (k+1):Nat):Int):=by rw[uW];omega
    rw[u8_xor_nat _ _ h3 h2,<-H.out,e2];exact⟨⟨hF,k+1,u2,u3,_,_,_,_,_,_,_,_,_,_,_,_,_,by omega,rfl⟩,by rw[uW];simp[intOf];omega⟩
   .intro hb1;have hm:¬sh b k % 2=1:=by
     intro e;have:=Wx _ h1 e;rw[this]at hb1;cases hb1
    have H:=aE (Zx a b k hm);co_apply wpC_skip T;co_then;co_apply wpC_more;co_go T (Since.rely T) hF (co_quiet T);co_apply pT T rfl (by rfl) rfl (hx _ _ _ h2 hF) (by simp[Act.eval]);rintro v w'' ⟨rfl,hF⟩;co_go T (Since.rely T) hF (co_quiet T);have e2:((sh b k:Nat):Int) / 2=((sh b (k+1):Nat):Int):=by rw[uW];omega
    rw[<-H.out,e2];exact⟨⟨hF,k+1,u2,u3,_,_,_,_,_,_,_,_,_,_,_,_,_,by omega,rfl⟩,by rw[uW];simp[intOf];omega⟩;omega
  .intro hz;have h0:sh b k=0:=by
    rcases Nat.eq_zero_or_pos (sh b k) with e|e
    .exact e
    .exfalso;have:((sh b k:Int) != 0)=true:=by simp;omega
     rw[this]at hz;cases hz
   co_apply wpC_exit T;co_then;co_go T (Since.rely T) hF (co_quiet T);exact⟨rfl,_,resultsC_tmp (by rfl) _,by simp[Zy a b k hk h0],hF⟩
end
namespace Fld
def sq(a:Nat):Nat->Nat
 |0=>a
 |k+1=>mul (sq a k) (sq a k)
def iv(a:Nat):Nat->Nat
 |0=>1
 |k+1=>mul (iv a k) (sq a (k+1))
def inv(a:Nat):Nat:=iv a 7
theorem sq_lt{a:Nat}(h:a<256)(k:Nat):sq a k<256:=by
 induction k with
 |zero=>exact h
 |succ k ih=>exact mul_lt ih _
theorem iv_lt(a k:Nat):iv a k<256:=by
 induction k with
 |zero=>exact(by decide:1<256)
 |succ k ih=>exact mul_lt ih _
theorem inv_lt(a:Nat):inv a<256:=iv_lt a 7
theorem Yj{a:Nat}(h:a<256)(h0:a≠0):mul a (inv a)=1:=by
 have key:vU (fun n=>n == 0||mul n (inv n) == 1) 256=true:=by decide +kernel
 have:=allTo_spec key a h;simpa [h0] using this
end Fld
section
variable {main:Bool}{R:World->World->Prop}{D:World->World->Array Event->Prop}
theorem So(T:Terms R D):∃ k,∀ (a:Nat) (w₀ w:World),a<256->Since R w₀ w->
  CallsC Tryz.prog main R D 109 #[.int .u8 (a:Int)] k w fun v w'=>v=.int .u8 (Fld.inv a:Nat)∧Since R w₀ w':=by
 obtain⟨kx,hx⟩:=vL (main:=main) T;co_apply Exists.intro;intro a w₀ w ha hF;co_apply callsC_of_wpC Tryz.func109 (by rfl) rfl;simp only[Tryz.ntmps109,List.size_toArray,List.length_cons,List.length_nil,Nat.reduceAdd,Nat.reduceSub,Array.replicate_succ,Array.replicate_zero,List.push_toArray,List.append_toArray,List.nil_append,List.cons_append];co_go T (Since.rely T) hF (co_quiet T)
 co_apply wpC_loop T (fun act w'=>Since R w₀ w'∧∃ (k:Nat) (u1 u7 u8 u9 u10 u11 u12 u13 u14 u15:Value),k<=7∧
   act=⟨#[.int .u8 (a:Nat),u1,.int .u8 0,.int .u8 (Fld.sq a k:Nat),.int .u8 (Fld.iv a k:Nat),.int .u8 (a:Nat),.int .i64 (k:Nat),u7,u8,u9,u10,u11,u12,u13,u14,u15],[]⟩)
  (fun act _=>7 - (intOf (act.tmps.getD 6 undef)).toNat) _ 7 ?h0 ?hN ?round
 case h0=>exact⟨hF,0,undef,undef,undef,undef,undef,undef,undef,undef,undef,undef,by omega,by simp[Fld.sq,Fld.iv]⟩
 case hN=>simp[intOf]
 case round=>
  rintro act w' ⟨hF,k,u1,u7,u8,u9,u10,u11,u12,u13,u14,u15,hk,rfl⟩;have h1:=Fld.sq_lt ha k;have h1':=Fld.sq_lt ha (k+1);have h2:=Fld.iv_lt a k;co_go T (Since.rely T) hF (co_quiet T);co_split T (decide ((k:Int)<7))
  .intro hz;have hk7:k<7:=by have:=of_decide_eq_true hz;omega
   co_go T (Since.rely T) hF (co_quiet T);co_apply pT T rfl (by rfl) rfl (hx _ _ _ _ h1 h1 hF) (by simp[Act.eval]);rintro v w'' ⟨rfl,hF⟩;co_go T (Since.rely T) hF (co_quiet T);co_apply pT T rfl (by rfl) rfl (hx _ _ _ _ h2 h1' hF) (by simp[Act.eval,Fld.sq]);rintro v w'' ⟨rfl,hF⟩;co_go T (Since.rely T) hF (co_quiet T);have e:IntKind.i64.wrap ((k:Int)+1)=((k+1:Nat):Int):=by
    rw[IntKind.wrap_i64];omega
   rw[e];exact⟨⟨hF,k+1,u1,_,_,_,_,_,_,_,_,_,by omega,rfl⟩,by simp[intOf];omega⟩
  .intro hz;have h0:k=7:=by
    have:=of_decide_eq_false hz;omega
   subst h0;co_go T (Since.rely T) hF (co_quiet T);exact⟨rfl,_,resultsC_tmp (by rfl) _,by simp[Fld.inv],hF⟩
end
open Go.RowKit Go.Conc Go.Vw
namespace Fld
def dist(known:Nat->Nat)(j k:Nat):Nat->Nat
 |0=>1
 |m+1=>if m=j then dist known j k m else mul (dist known j k m) (k ^^^ known m)
theorem dist_lt(known:Nat->Nat)(j k m:Nat):dist known j k m<256:=by
 induction m with
 |zero=>exact(by decide:1<256)
 |succ m ih=>
  unfold dist;split
  .exact ih
  .exact mul_lt ih _
end Fld
def ten(known:Nat->Nat):Array Value:=(Array.range 10).map fun i=>.int .i64 (known i:Nat)
theorem gK(known:Nat->Nat):(ten known).size=10:=by simp[ten]
theorem rI(known:Nat->Nat)(i:Nat)(h:i<10):(ten known)[i]?=some (.int .i64 (known i:Nat)):=by simp[ten,h]
structure HR(w₀ : World)(N:Nat)(o:Obj)(w:World):Prop where
 since:Since Ext w₀ w
 row:w.heap[N]?=some o
theorem HR.rely{w₀ w w₁ : World}{N:Nat}{o:Obj}(h:HR w₀ N o w)(r:Ext w w₁):HR w₀ N o w₁:=⟨h.since.rely (fR fun _=>False) r,r.row h.row⟩
section
variable {main:Bool}{Rd:Nat->Prop}
theorem Nk:∃ n,∀ (known:Nat->Nat) (j k:Nat) (w₀ w:World),(∀ i,i<10->known i<14)->j<10->k<14->(∀ b,Rd b->b<w.heap.size)->Since Ext w₀ w->
  CallsC Tryz.prog main Ext (DW Rd) 108 #[.agg (ten known),.int .i64 (j:Nat),.int .i64 (k:Nat)] n w fun v w'=>v=.int .u8 (Fld.dist known j k 10:Nat)∧Since Ext w₀ w':=by
 have T:=fR Rd;obtain⟨kx,hx⟩:=vL (main:=main) T;co_apply Exists.intro;intro known j k w₀ w hkn hj hk hlow hF;co_apply callsC_of_wpC Tryz.func108 (by rfl) rfl;simp only[Tryz.ntmps108,List.size_toArray,List.length_cons,List.length_nil,Nat.reduceAdd,Nat.reduceSub,Array.replicate_succ,Array.replicate_zero,List.push_toArray,List.append_toArray,List.nil_append,List.cons_append];co_apply wpC_seq T;co_reg T;co_apply qA (ten known) rfl (by rfl) rfl hlow rfl;intro N w' hN hrow hE;have hH:HR w₀ N _ w':=⟨hF.rely T hE,hrow⟩;clear hF hE hlow hrow;try walk_nrm
 co_go T HR.rely hH (co_quiet T);co_apply tE rfl (by rfl) rfl rfl hH.row (by kernel_rfl) (by rw[gK];kernel_rfl);intro w₂ hR;have hF:=(hH.rely hR).since;clear hH hR;try walk_nrm
 co_go T (Since.rely T) hF (co_quiet T)
 co_apply wpC_loop T (fun act w'=>Since Ext w₀ w'∧∃ (m:Nat) (u4 u5 u8 u9 u12 u13 u14 u15 u16 u17 u18 u19 u20 u21 u22 u23 u24 u25 u26:Value),m<=10∧
   act=⟨#[.agg (ten known),.int .i64 (j:Nat),.int .i64 (k:Nat),.pointer (some ⟨N,0,none⟩),u4,u5,.int .u8 0,.int .u8 (Fld.dist known j k m:Nat),u8,u9,.agg (ten known),.int .i64 (m:Nat),u12,u13,u14,u15,u16,u17,u18,u19,u20,u21,u22,u23,u24,u25,u26],[]⟩)
  (fun act _=>10 - (intOf (act.tmps.getD 11 undef)).toNat) _ 10 ?h0 ?hN ?round
 case h0=>exact⟨hF,0,undef,undef,undef,undef,undef,undef,undef,undef,undef,undef,undef,undef,undef,undef,undef,undef,undef,undef,undef,by omega,by simp[Fld.dist]⟩
 case hN=>simp[intOf]
 case round=>
  rintro act w' ⟨hF,m,u4,u5,u8,u9,u12,u13,u14,u15,u16,u17,u18,u19,u20,u21,u22,u23,u24,u25,u26,hm,rfl⟩;have h3:=Fld.dist_lt known j k m;co_go T (Since.rely T) hF (co_quiet T);co_split T (decide ((m:Int)<10))
  .intro hz;have hm7:m<10:=by have:=of_decide_eq_true hz;omega
   have hkm:=hkn m hm7;co_go T (Since.rely T) hF (co_quiet T);co_apply xM T rfl (by rfl) rfl rfl rfl (show jD _ _=some 10 by kernel_rfl) hm7 (rI known m hm7);intro w₃ hR;replace hF:=Since.rely T hF hR;clear hR;try walk_nrm
   co_go T (Since.rely T) hF (co_quiet T);co_split T ((m:Int) != (j:Int))
   .intro hne;have hmj:m≠j:=by intro e;subst e;simp at hne
    have hd:Fld.dist known j k (m+1)=Fld.mul (Fld.dist known j k m) (k ^^^ known m):=by simp[Fld.dist,hmj]
    have hkk:k ^^^ known m<256:=Fld.xor_lt (by omega) (by omega);have e1:IntKind.u8.wrap (k:Int)=(k:Int):=by rw[vF];omega
    have e2:IntKind.u8.wrap (known m:Int)=(known m:Int):=by rw[vF];omega
    co_go T (Since.rely T) hF (first|co_quiet T|(rw[listed_nil (by(simp[go_sem];exact events_convert_int _ _ _ _ (by kernel_rfl) (by kernel_rfl) _))];exact Terms.idle T _));co_apply pT T rfl (by rfl) rfl (hx _ _ _ _ h3 hkk hF) (by simp[Act.eval,u8_xor_nat _ _ (show k<256 by omega) (show known m<256 by omega)]);rintro v w'' ⟨rfl,hF⟩;co_go T (Since.rely T) hF (co_quiet T);have e:IntKind.i64.wrap ((m:Int)+1)=((m+1:Nat):Int):=by rw[IntKind.wrap_i64];omega
    rw[e,<-hd];exact⟨⟨hF,m+1,u4,u5,_,_,_,_,_,_,_,_,_,_,_,_,_,_,_,_,_,by omega,rfl⟩,by simp[intOf];omega⟩
   .intro hne;have hmj:m=j:=by
     rcases Nat.decEq m j with e|e
     .exfalso;have:((m:Int) != (j:Int))=true:=by simp;omega
      rw[this]at hne;cases hne
     .exact e
    have hd:Fld.dist known j k (m+1)=Fld.dist known j k m:=by simp[Fld.dist,hmj]
    clear hmj;co_apply wpC_skip T;co_then;co_apply wpC_more;co_go T (Since.rely T) hF (co_quiet T);have e:IntKind.i64.wrap ((m:Int)+1)=((m+1:Nat):Int):=by rw[IntKind.wrap_i64];omega
    rw[e,<-hd];exact⟨⟨hF,m+1,u4,u5,_,_,_,_,_,_,_,_,_,_,_,_,_,_,_,_,_,by omega,rfl⟩,by simp[intOf];omega⟩;omega
  .intro hz;have h0:m=10:=by
    have:=of_decide_eq_false hz;omega
   subst h0;co_go T (Since.rely T) hF (co_quiet T);exact⟨rfl,_,resultsC_tmp (by rfl) _,by simp,hF⟩
end
end Go.Proofs.YtpiefebngnlfoabGreatDoor
namespace Go.Vw
open Go.Conc
section
variable {P:Program}{main:Bool}{Rd:Nat->Prop}{fn:FuncId}{ops:Array Oper}{S:World->Prop}
theorem sZ{t:TypeId}{L m:Nat}{ad:Addr}{w:World}{es:Array Event}(hu:jD P t=some L)(hm:m<L) :
  (Instr.indexAt t (.pointer (some ad)) (.int .i64 (m:Nat))).events P w es=es:=by
 obtain⟨e,inf,d,hu,hq,hs,hu2,hd⟩:=wK hu;have hb:(0:Int)<=(m:Int)∧(m:Int)<(L:Int):=by omega
 simp[Instr.indexAt,asIntOf,Instr.sureAddr,Sem.events_bind,run_underlying hu,hm,hb,sizeOf,typeInfo,hq]
theorem tA{o:Oper}{b:Nat}{a:Act}{t t':TypeId}{p:Operand}{c:Array Value}{fr:Nat×Nat}
  (hw:Region.wanted o (yielded ops a.tmps)=true) (hop:o.op=.load t p) (hp:a.eval p=.pointer (some ⟨b,0,none⟩))
  (hrow:∀ w,S w->w.heap[b]?=some (.cells c t' fr)) (hu:(P.underlying t).map fY=some true) (hi:(P.info? t).map (·.size)=some c.size) :
  YieldsIfC P (DW Rd) fn ops S o (.agg c) a:=by
 refine .inl ⟨hw,fun w hS=>?_⟩
 obtain⟨d,hu,hd⟩:=Option.map_eq_some_iff.1 hu;have hload:(loadVar t ⟨b,0,none⟩).run P w=.ok (.agg c) w:=run_loadVar_row w b t' t c fr _ (hrow w hS) hu (by cases d<;>simp_all[fY]) hi
 constructor
 .unfold execOp;simp only[hop,hp,Sem.run_bind,Instr.loadAt,Instr.sureAddr,Sem.run_pure,Result.andThen_ok,hload]
 .refine⟨⟨rfl,rfl⟩,fun _ _=>rfl,fun ev hev=>?_⟩
  have hm:=mem_listed hev;unfold execOp at hm;simp only[hop,hp,Instr.loadAt,Instr.sureAddr,pure_bind,Sem.events_bind,hload,Result.evThen_ok,Sem.events_pure]at hm;exact wL (hrow w hS) hu hd hi ev hm
theorem Ea{md:Region.Mode}{Q:Exit->Act->World->Prop}{N:Nat}{fuel:Nat}{l:Array Bool}{a:Act}{w:World}{o:Oper}{g i j:Nat}{t t':TypeId}{x y:Operand}{old:Array Value}{k:IntKind}{n:Int}(hr:Region.ready md ops l=[j])(ho:ops[j]?=some o)
  (hw:Region.wanted o (yielded ops a.tmps)=true) (hop:o.op=.store t x y) (hx:a.eval x=.pointer (some ⟨g,i,none⟩)) (hy:a.eval y=.int k n) (hrow:w.heap[g]?=some (.cells old t')) (hi:i<old.size) (hs:(P.info? t).map (·.size)=some 1) (hg:¬Rd g)
  (hnext:∀ w₁,Ext w w₁->S (w₁.setRow g (old.setIfInBounds i (.int k n)))∧dS P main Ext (DW Rd) fn md ops Q S N fuel (l.setIfInBounds j true) (a.put o.dst undef) (w₁.setRow g (old.setIfInBounds i (.int k n)))):dS P main Ext (DW Rd) fn md ops Q S N (fuel+1) l a w:=by
 refine zE hr (by simp) fun i' hi'=>?_
 obtain rfl:i'=j:=by simpa using hi'
 unfold gV;simp only[ho,hw,if_true];refine .inl fun w₁ hR=>?_
 obtain⟨hrun,hev⟩:=Kc (P:=P) (fn:=fn) (w:=w₁) hop hx hy (hR.row hrow) hi hs;have hD:DW Rd w₁ (w₁.setRow g (old.setIfInBounds i (.int k n))) (listed P fn a o w₁):=⟨⟨rfl,rfl⟩,fun b hb=>setRow_other _ _ _ _ (fun e=>hg (e▸hb)),fun e he=>by rw[hev e he];exact⟨_,rfl,rfl,fun _=>hg⟩⟩
 rcases hrun with hrun|hrun<;>rw[hrun]
 .exact⟨hD,hnext _ hR⟩
 .exact⟨hD,hnext _ hR⟩
end
end Go.Vw
namespace Go.Proofs.YtpiefebngnlfoabGreatDoor
open Go.RowKit Go.Conc Go.Vw
namespace Fld
def wgt(known:Nat->Nat)(k i:Nat):Nat:=mul (dist known i k 10) (inv (dist known i (known i) 10))
end Fld
def dJ(known:Nat->Nat)(k m:Nat):Array Value:=(Array.range 10).map fun i=>.int .u8 ((if i<m then Fld.wgt known k i else 0:Nat):Int)
theorem oU(known:Nat->Nat)(k m:Nat):(dJ known k m).size=10:=by simp[dJ]
theorem Fp(known:Nat->Nat)(k:Nat):dJ known k 0=#[.int .u8 0,.int .u8 0,.int .u8 0,.int .u8 0,.int .u8 0,.int .u8 0,.int .u8 0,.int .u8 0,.int .u8 0,.int .u8 0]:=by
 simp only[dJ,Nat.not_lt_zero,if_false];kernel_rfl
structure HW(w₀ : World)(K Z W:Nat)(ok oz ow:Obj)(w:World):Prop where
 since:Since Ext w₀ w
 rk:w.heap[K]?=some ok
 rz:w.heap[Z]?=some oz
 rw:w.heap[W]?=some ow
theorem HW.rely{w₀ w w₁ : World}{K Z W:Nat}{ok oz ow:Obj}(h:HW w₀ K Z W ok oz ow w)(r:Ext w w₁):HW w₀ K Z W ok oz ow w₁:=⟨h.since.rely (fR fun _=>False) r,r.row h.rk,r.row h.rz,r.row h.rw⟩
structure HS(w₀ : World)(K Z W:Nat)(ok oz:Obj)(tw:TypeId)(w:World):Prop where
 since:Since Ext w₀ w
 rk:w.heap[K]?=some ok
 rz:w.heap[Z]?=some oz
 ex:∃ c,w.heap[W]?=some (.cells c tw)
theorem HS.rely{w₀ w w₁ : World}{K Z W:Nat}{ok oz:Obj}{tw:TypeId}(h:HS w₀ K Z W ok oz tw w)(r:Ext w w₁):HS w₀ K Z W ok oz tw w₁:=⟨h.since.rely (fR fun _=>False) r,r.row h.rk,r.row h.rz,h.ex.imp fun _=>r.row⟩
theorem HW.hs{w₀ w:World}{K Z W:Nat}{ok oz:Obj}{tw:TypeId}{c:Array Value}(h:HW w₀ K Z W ok oz (.cells c tw) w):HS w₀ K Z W ok oz tw w:=⟨h.since,h.rk,h.rz,c,h.rw⟩
theorem gJ{w w':World}(h:Since Ext w w'):Ext w w':=h.elim (fun e=>e▸Ext.refl _) id
theorem Xd(known:Nat->Nat)(k m:Nat)(h:m<10):(dJ known k m).setIfInBounds m (.int .u8 (Fld.wgt known k m:Nat))=dJ known k (m+1):=by
 apply Array.ext_getElem?;intro i;rw[Array.getElem?_setIfInBounds];by_cases e:m=i
 .subst e;simp[dJ,h]
 .rw[if_neg e];simp only[dJ,Array.getElem?_map];by_cases hi:i<10
  .simp[hi,show i<m+1↔i<m by omega]
  .simp[hi]
theorem Xe(known:Nat->Nat)(k m:Nat):(dJ known k m).all (·.oneCell')=true:=by
 rw[Array.all_eq_true_iff_forall_mem];intro v hv;simp only[dJ,Array.mem_map]at hv;obtain⟨i,_,rfl⟩:=hv;rfl
section
variable {main:Bool}{Rd:Nat->Prop}
theorem Qb:∃ n,∀ (known:Nat->Nat) (k:Nat) (w₀ w:World),(∀ i,i<10->known i<14)->k<14->(∀ b,Rd b->b<w.heap.size)->Since Ext w₀ w->
  eN Tryz.prog main Ext (DW Rd) 84 #[.agg (ten known),.int .i64 (k:Nat)] n w fun v w'=>v=.agg (dJ known k 10)∧Since Ext w₀ w':=by
 have T:=fR Rd;obtain⟨kx,hx⟩:=vL (main:=main) T;obtain⟨ki,hi⟩:=So (main:=main) T;obtain⟨kd,hdist⟩:=Nk (main:=main) (Rd:=Rd);co_apply Exists.intro;intro known k w₀ w hkn hk hlow hF;co_apply Bi Tryz.func84 (by rfl) rfl;simp only[Tryz.ntmps84,List.size_toArray,List.length_cons,List.length_nil,Nat.reduceAdd,Nat.reduceSub,Array.replicate_succ,Array.replicate_zero,List.push_toArray,List.append_toArray,List.nil_append,List.cons_append];co_apply wpC_seq T;co_reg T;co_apply qA (ten known) rfl (by rfl) rfl hlow rfl;intro K w1 hK hrK hE;obtain⟨tk,etk,hrK⟩:∃ tk,tk=id _∧w1.heap[K]?=some (.cells (ten known) tk):=⟨_,rfl,hrK⟩;have hF1:=hF.rely T hE;have hlow1:∀ b,Rd b->b<w1.heap.size:=fun b hb=>Nat.lt_of_lt_of_le (hlow b hb) hE.size
 try walk_nrm
 co_apply wO (dJ known k 0) rfl (by rfl) rfl hlow1 (by rw[Fp];kernel_rfl);intro Z w2 hZ hrZ hE2;obtain⟨tw,etw,hrZ⟩:∃ tw,tw=id _∧w2.heap[Z]?=some (.cells (dJ known k 0) tw):=⟨_,rfl,hrZ⟩;have hF2:=hF1.rely T hE2;have hlow2:∀ b,Rd b->b<w2.heap.size:=fun b hb=>Nat.lt_of_lt_of_le (hlow1 b hb) hE2.size
 have hrK2:=hE2.row hrK;try walk_nrm
 co_go T (fun h r=>h) hK (co_quiet T);co_apply wO (dJ known k 0) rfl (by rfl) rfl hlow2 (by rw[Fp];kernel_rfl);intro W w3 hW hrW hE3;replace hrW:w3.heap[W]?=some (.cells (dJ known k 0) tw):=by rw[etw];exact hrW
 have hlow3:∀ b,Rd b->b<w3.heap.size:=fun b hb=>Nat.lt_of_lt_of_le (hlow2 b hb) hE3.size
 have hH:HW w₀ K Z W _ _ _ w3:=⟨hF2.rely T hE3,hE3.row hrK2,hE3.row hrZ,hrW⟩;have hW0:w₀.heap.size<=W:=by
  have:=(gJ hF2).size;omega
 have hZ0:w₀.heap.size<=Z:=by
  have:=(gJ hF1).size;omega
 have n1:¬Rd W:=fun h=>by have:=hlow2 W h;omega
 have n2:¬Rd Z:=fun h=>by have:=hlow1 Z h;omega
 try walk_nrm
 co_go T HW.rely hH (co_quiet T)
 co_apply wpC_loop T (fun act w'=>∃ (m:Nat) (u3 u6 u8 u9 u10 u11 u12 u13 u14 u15 u16 u17 u18 u19 u20 u21 u22 u23 u24 u25:Value),m<=10∧HW w₀ K Z W (.cells (ten known) tk) (.cells (dJ known k 0) tw) (.cells (dJ known k m) tw) w'∧
   act=⟨#[.agg (ten known),.int .i64 (k:Nat),.pointer (some ⟨K,0,none⟩),u3,.pointer (some ⟨Z,0,none⟩),.pointer (some ⟨W,0,none⟩),u6,.int .i64 (m:Nat),u8,u9,u10,u11,u12,u13,u14,u15,u16,u17,u18,u19,u20,u21,u22,u23,u24,u25],[]⟩)
  (fun act _=>10 - (intOf (act.tmps.getD 7 undef)).toNat) _ 10 ?h0 ?hN ?round
 case h0=>exact⟨0,undef,undef,undef,undef,undef,undef,undef,undef,undef,undef,undef,undef,undef,undef,undef,undef,undef,undef,undef,undef,by omega,hH,by simp⟩
 case hN=>simp[intOf]
 case round=>
  rintro act w' ⟨m,u3,u6,u8,u9,u10,u11,u12,u13,u14,u15,u16,u17,u18,u19,u20,u21,u22,u23,u24,u25,hm,hH,rfl⟩;co_go T HW.rely hH (co_quiet T);co_split T (decide ((m:Int)<10))
  .intro hz;have hm7:m<10:=by have:=of_decide_eq_true hz;omega
   have hkm:=hkn m hm7;co_go T HW.rely hH (co_quiet T);co_apply wJ T (Am Rd) (N:=kx+ki+kd+4) (S:=HS w₀ K Z W (.cells (ten known) tk) (.cells (dJ known k 0) tw) tw) (by omega) (by first|kernel_rfl|rfl)
   intro w₁ hR;replace hH:=HW.rely (hH.rely hR) (Ext.draw _);clear hR;have hS:=hH.hs;have hlo:∀ w,HS w₀ K Z W (.cells (ten known) tk) (.cells (dJ known k 0) tw) tw w->∀ b,Rd b->b<w.heap.size:=fun w h b hb=>by
    obtain⟨c,hc⟩:=h.ex;have:=(Array.getElem?_eq_some_iff.1 hc).1;have:=hlow2 b hb;omega
   simp only[List.size_toArray,List.length_cons,List.length_nil,Nat.reduceAdd,Nat.zero_add];co_applyP dQ T (fun _ _ h r=>HS.rely h r) (fun _ _ _ h r=>wpC_rely T h r) (i:=0) rfl (by first|kernel_rfl|decide +kernel) (by first|kernel_rfl|decide +kernel) (by first|kernel_rfl|decide +kernel) (.inl ⟨by rfl,fun _ hw=>⟨run_eq_of ?run1,?guar1⟩⟩) hS ?rest1
   case run1=>
    intro K_ hK_;skip;go_simp;exact hK_
   case guar1=>
    skip;(co_quiet T)
   try walk_nrm
   co_applyP dQ T (fun _ _ h r=>HS.rely h r) (fun _ _ _ h r=>wpC_rely T h r) (i:=1) rfl (by first|kernel_rfl|decide +kernel) (by first|kernel_rfl|decide +kernel) (by first|kernel_rfl|decide +kernel) (tA (by rfl) rfl rfl (fun w h=>etk▸h.rk) (by kernel_rfl) (by rw[gK];kernel_rfl)) hS
   try walk_nrm
   co_applyP dQ T (fun _ _ h r=>HS.rely h r) (fun _ _ _ h r=>wpC_rely T h r) (i:=2) rfl (by first|kernel_rfl|decide +kernel) (by first|kernel_rfl|decide +kernel) (by first|kernel_rfl|decide +kernel) (.inl ⟨by rfl,fun _ hw=>⟨run_eq_of ?run3,?guar3⟩⟩) hS ?rest3
   case run3=>
    intro K_ hK_;skip;go_simp;exact hK_
   case guar3=>
    skip;(co_quiet T)
   try walk_nrm
   co_applyP dQ T (fun _ _ h r=>HS.rely h r) (fun _ _ _ h r=>wpC_rely T h r) (i:=3) rfl (by first|kernel_rfl|decide +kernel) (by first|kernel_rfl|decide +kernel) (by first|kernel_rfl|decide +kernel) (.inl ⟨by rfl,fun _ hw=>⟨run_eq_of ?run4,?guar4⟩⟩) hS ?rest4
   case run4=>
    intro K_ hK_;skip;go_simp;exact hK_
   case guar4=>
    skip;(co_quiet T)
   try walk_nrm
   co_applyP dQ T (fun _ _ h r=>HS.rely h r) (fun _ _ _ h r=>wpC_rely T h r) (i:=5) rfl (by first|kernel_rfl|decide +kernel) (by first|kernel_rfl|decide +kernel) (by first|kernel_rfl|decide +kernel) (tA (by rfl) rfl rfl (fun w h=>etk▸h.rk) (by kernel_rfl) (by rw[gK];kernel_rfl)) hS
   try walk_nrm
   co_applyP dQ T (fun _ _ h r=>HS.rely h r) (fun _ _ _ h r=>wpC_rely T h r) (i:=6) rfl (by first|kernel_rfl|decide +kernel) (by first|kernel_rfl|decide +kernel) (by first|kernel_rfl|decide +kernel) (.inl ⟨by rfl,fun _ hw=>⟨run_eq_of ?run6,?guar6⟩⟩) hS ?rest6
   case run6=>
    intro K_ hK_;skip;go_simp;exact hK_
   case guar6=>
    skip;(co_quiet T)
   try walk_nrm
   co_applyP dQ T (fun _ _ h r=>HS.rely h r) (fun _ _ _ h r=>wpC_rely T h r) (i:=7) rfl (by first|kernel_rfl|decide +kernel) (by first|kernel_rfl|decide +kernel) (by first|kernel_rfl|decide +kernel) (.inl ⟨by rfl,fun _ hw=>⟨run_eq_of ?run7,?guar7⟩⟩) hS ?rest7
   case run7=>
    intro K_ hK_;skip;go_simp;exact hK_
   case guar7=>
    skip;(co_quiet T)
   try walk_nrm
   have hm8:(m:Int)<10:=by omega
   co_applyP dQ T (fun _ _ h r=>HS.rely h r) (fun _ _ _ h r=>wpC_rely T h r) (i:=8) rfl (by first|kernel_rfl|decide +kernel) (by first|kernel_rfl|decide +kernel) (by first|kernel_rfl|decide +kernel) (.inl ⟨by rfl,fun _ hw=>⟨run_eq_of ?run8,?guar8⟩⟩) hS ?rest8
   case run8=>
    intro K_ hK_;skip;go_simp;exact hK_
   case guar8=>
    skip;(rw[listed_nil (by(simp[go_sem];exact sZ (show jD _ _=some 10 by kernel_rfl) hm7))];exact Terms.idle T _)
   try walk_nrm
   co_applyP dQ (v:=.int .i64 (known m:Nat)) T (fun _ _ h r=>HS.rely h r) (fun _ _ _ h r=>wpC_rely T h r) (i:=9) rfl (by first|kernel_rfl|decide +kernel) (by first|kernel_rfl|decide +kernel) (by first|kernel_rfl|decide +kernel) (.inl ⟨by rfl,fun _ hw=>⟨run_eq_of ?run9,?guar9⟩⟩) hS ?rest9
   case run9=>
    intro K_ hK_;(have hc:=(cell_of_row _ K m _ _ _ (HS.rk hw)).trans (rI known m hm7));go_simp;exact hK_
   case guar9=>
    have hc:=(cell_of_row _ K m _ _ _ (HS.rk hw)).trans (rI known m hm7);(refine⟨⟨rfl,rfl⟩,fun _ _=>rfl,?_⟩;co_evs (exact⟨_,rfl,rfl,by simp⟩))
   try walk_nrm
   have hd1:=Fld.dist_lt known m k 10;have hd2:=Fld.dist_lt known m (known m) 10;have hd3:=Fld.inv_lt (Fld.dist known m (known m) 10);co_applyP oB T (fun _ _ h r=>HS.rely h r) (fun _ _ _ h r=>wpC_rely T h r) (i:=4) rfl (by first|kernel_rfl|decide +kernel) (by first|kernel_rfl|decide +kernel) (by first|kernel_rfl|decide +kernel) (by rfl) rfl (by simp[Act.eval]) (by omega) (fun w h=>(eN.of_callsC T (hdist known m k w w hkn hm7 hk (hlo w h) (.refl w))).mono fun v w' q=>⟨q.1,h.rely (gJ q.2),gJ q.2⟩) hS
   try walk_nrm
   co_applyP oB T (fun _ _ h r=>HS.rely h r) (fun _ _ _ h r=>wpC_rely T h r) (i:=10) rfl (by first|kernel_rfl|decide +kernel) (by first|kernel_rfl|decide +kernel) (by first|kernel_rfl|decide +kernel) (by rfl) rfl (by simp[Act.eval]) (by omega) (fun w h=>(eN.of_callsC T (hdist known m (known m) w w hkn hm7 hkm (hlo w h) (.refl w))).mono fun v w' q=>⟨q.1,h.rely (gJ q.2),gJ q.2⟩) hS
   try walk_nrm
   co_applyP oB T (fun _ _ h r=>HS.rely h r) (fun _ _ _ h r=>wpC_rely T h r) (i:=11) rfl (by first|kernel_rfl|decide +kernel) (by first|kernel_rfl|decide +kernel) (by first|kernel_rfl|decide +kernel) (by rfl) rfl (by simp[Act.eval]) (by omega) (fun w h=>(eN.of_callsC T (hi _ w w hd2 (.refl w))).mono fun v w' q=>⟨q.1,h.rely (gJ q.2),gJ q.2⟩) hS
   try walk_nrm
   co_applyP oB T (fun _ _ h r=>HS.rely h r) (fun _ _ _ h r=>wpC_rely T h r) (i:=12) rfl (by first|kernel_rfl|decide +kernel) (by first|kernel_rfl|decide +kernel) (by first|kernel_rfl|decide +kernel) (by rfl) rfl (by simp[Act.eval]) (by omega) (fun w h=>(eN.of_callsC T (hx _ _ w w hd1 hd3 (.refl w))).mono fun v w' q=>⟨q.1,h.rely (gJ q.2),gJ q.2⟩) hS
   try walk_nrm
   co_applyP dQ T (fun _ _ h r=>HS.rely h r) (fun _ _ _ h r=>wpC_rely T h r) (i:=13) rfl (by first|kernel_rfl|decide +kernel) (by first|kernel_rfl|decide +kernel) (by first|kernel_rfl|decide +kernel) (.inl ⟨by rfl,fun _ hw=>⟨run_eq_of ?run14,?guar14⟩⟩) hS ?rest14
   case run14=>
    intro K_ hK_;skip;go_simp;exact hK_
   case guar14=>
    skip;(rw[listed_nil (by(simp[go_sem];exact sZ (show jD _ _=some 10 by kernel_rfl) hm7))];exact Terms.idle T _)
   try walk_nrm
   co_applyP Ea (j:=14) (by first|kernel_rfl|decide +kernel) rfl (by rfl) rfl rfl rfl hH.rw (by rw[oU];exact hm7) (by kernel_rfl) n1
   intro w₂ hR;have hst:=Xd known k m hm7;unfold Fld.wgt at hst;rw[hst];clear hst;have h2:=hH.rely hR;have nK:K≠W:=by have:=(Array.getElem?_eq_some_iff.1 hrK2).1;omega
   have nZ:Z≠W:=by have:=(Array.getElem?_eq_some_iff.1 hrZ).1;omega
   have hH':HW w₀ K Z W (.cells (ten known) tk) (.cells (dJ known k 0) tw) (.cells (dJ known k (m+1)) tw) (w₂.setRow W (dJ known k (m+1))):=
    ⟨.inr ((gJ h2.since).setRow hW0 _),(setRow_other _ _ _ _ nK).trans h2.rk,(setRow_other _ _ _ _ nZ).trans h2.rz,setRow_heap _ _ _ _ _ _ h2.rw⟩
   clear hH hS h2 hR;generalize w₂.setRow W (dJ known k (m+1))=w₃ at hH';co_apply And.intro hH'.hs;co_apply yK (by first|kernel_rfl|decide +kernel)
   try walk_nrm
   co_then;co_go T HW.rely hH' (co_quiet T);have e:IntKind.i64.wrap ((m:Int)+1)=((m+1:Nat):Int):=by rw[IntKind.wrap_i64];omega
   rw[e];exact⟨⟨m+1,u3,_,_,_,_,_,_,_,_,_,_,_,_,_,_,_,_,_,_,_,by omega,hH',rfl⟩,by simp[intOf];omega⟩
  .intro hz;have h0:m=10:=by
    have:=of_decide_eq_false hz;omega
   subst h0;co_go T HW.rely hH (co_quiet T);co_apply tE rfl (by rfl) rfl rfl (etw▸hH.rw) (by kernel_rfl) (by rw[oU];kernel_rfl);intro w₂ hR;replace hH:=hH.rely hR;clear hR;try walk_nrm
   co_apply Kk rfl (by rfl) rfl rfl rfl hH.rz (by rw[oU];kernel_rfl) (by rw[oU,oU]) (Xe known k 10) n2;intro w₃ hR;have h2:=hH.rely hR;have nK:K≠Z:=by have:=(Array.getElem?_eq_some_iff.1 hrK).1;omega
   have nW:W≠Z:=by have:=(Array.getElem?_eq_some_iff.1 hrZ).1;omega
   have hH':HW w₀ K Z W (.cells (ten known) tk) (.cells (dJ known k 10) tw) (.cells (dJ known k 10) tw) (w₃.setRow Z (dJ known k 10)):=
    ⟨.inr ((gJ h2.since).setRow hZ0 _),(setRow_other _ _ _ _ nK).trans h2.rk,setRow_heap _ _ _ _ _ _ h2.rz,(setRow_other _ _ _ _ nW).trans h2.rw⟩
   clear hH h2 hR;generalize w₃.setRow Z (dJ known k 10)=w₄ at hH';try walk_nrm
   co_go T HW.rely hH' (co_quiet T);exact⟨rfl,Ps (by rfl) (by rfl) (etw▸hH'.rz) (by kernel_rfl) (by rw[oU];kernel_rfl) (fun w₅ hR=>⟨rfl,(hH'.rely hR).since⟩)⟩
end
end Go.Proofs.YtpiefebngnlfoabGreatDoor
namespace Go.Vw
open Go.Conc
section
variable {P:Program}{main:Bool}{Rd:Nat->Prop}{fn:FuncId}{ops:Array Oper}{S:World->Prop}
def kP(P:Program)(t:TypeId):Bool:=
 match P.underlying t with
 |some (.slice e)=>
  match P.info? e with
  |some i=>i.size == 1
  |_=>false
 |_=>false
theorem Ju{t:TypeId}(h:kP P t=true):∃ e inf,P.underlying t=some (.slice e)∧P.info? e=some inf∧inf.size=1:=by
 unfold kP at h;split at h
 .split at h
  .exact⟨_,_,by assumption,by assumption,by simpa using h⟩
  .cases h
 .cases h
theorem oA{t:TypeId}{L c m:Nat}{ad:Addr}{w:World}{es:Array Event}(hu:kP P t=true)(hm:m<L) :
  (Instr.indexAt t (.slice (some ad) L c) (.int .i64 (m:Nat))).events P w es=es:=by
 obtain⟨e,inf,hu,hq,hs⟩:=Ju hu;have hb:(0:Int)<=(m:Int)∧(m:Int)<(L:Int):=by omega
 simp[Instr.indexAt,asIntOf,Sem.events_bind,run_underlying hu,hm,hb,sizeOf,typeInfo,hq]
theorem Ww{md:Region.Mode}{Q:Exit->Act->World->Prop}{N:Nat}{fuel:Nat}{l:Array Bool}{a:Act}{w:World}{o:Oper}{j:Nat}{v:Value}(T:Terms Ext (DW Rd))(hSR:∀ x y,S x->Ext x y->S y)(hQR:∀ a x y,Q .normal a x->Ext x y->Q .normal a y)
  (hr:Region.ready md ops l=[j]) (ho:ops[j]?=some o) (hw:Region.wanted o (yielded ops a.tmps)=true) (hy:∀ w₁,Ext w w₁->(execOp a.eval o).run P w₁ = .ok (.value v) w₁∧DW Rd w₁ w₁ (listed P fn a o w₁)) (hS:S w)
  (hnext:dS P main Ext (DW Rd) fn md ops Q S N fuel (l.setIfInBounds j true) (a.put o.dst v) w):dS P main Ext (DW Rd) fn md ops Q S N (fuel+1) l a w:=by
 refine zE hr (by simp) fun i' hi'=>?_
 obtain rfl:i'=j:=by simpa using hi'
 unfold gV;simp only[ho,hw,if_true];refine .inl fun w₁ hR=>?_
 obtain⟨h1,h2⟩:=hy w₁ hR;rw[h1];exact⟨h2,hSR _ _ hS hR,dS.rely T hSR hQR _ _ _ _ _ hnext hR⟩
end
end Go.Vw
namespace Go.Proofs.YtpiefebngnlfoabGreatDoor
open Go.RowKit Go.Conc Go.Vw
namespace Fld
def comb(wt:Nat->Nat)(x:Nat->Nat->Nat):Nat->Nat->Nat
 |0,_=>0
 |m+1,i=>comb wt x m i ^^^ mul (wt m) (x m i)
theorem comb_lt{wt:Nat->Nat}(x:Nat->Nat->Nat)(h:∀ i,wt i<256)(m i:Nat):comb wt x m i<256:=by
 induction m with
 |zero=>exact(by decide:0<256)
 |succ m ih=>exact xor_lt ih (mul_lt (h m) _)
end Fld
def aC(n:Nat)(f:Nat->Nat):Array Value:=(Array.range n).map fun i=>.int .u8 ((f i:Nat):Int)
theorem dY(n:Nat)(f:Nat->Nat):(aC n f).size=n:=by simp[aC]
theorem dZ(n:Nat)(f:Nat->Nat)(i:Nat)(h:i<n):(aC n f)[i]?=some (.int .u8 (f i:Nat)):=by simp[aC,h]
theorem Dt(n:Nat)(f:Nat->Nat)(i:Nat)(y:Nat):(aC n f).setIfInBounds i (.int .u8 (y:Nat))=aC n fun c=>if c=i then y else f c:=by
 apply Array.ext_getElem?;intro c;rw[Array.getElem?_setIfInBounds];by_cases e:i=c
 .subst e;by_cases hi:i<n<;>simp[aC,hi]
 .rw[if_neg e];by_cases hi:c<n<;>simp[aC,hi,show ¬c=i from fun x=>e x.symm]
theorem iG{n:Nat}{f g:Nat->Nat}(h:∀ i,i<n->f i=g i):aC n f=aC n g:=by
 apply Array.ext_getElem?;intro c;by_cases hi:c<n
 .rw[dZ n f c hi,dZ n g c hi,h c hi]
 .rw[Array.getElem?_eq_none (by rw[dY];omega),Array.getElem?_eq_none (by rw[dY];omega)]
def fZ(RB:Nat->Nat)(n:Nat):Array Value:=(Array.range 10).map fun j=>.slice (some ⟨RB j,0,none⟩) n n
theorem Bz(RB:Nat->Nat)(n:Nat):(fZ RB n).size=10:=by simp[fZ]
theorem Oa(RB:Nat->Nat)(n i:Nat)(h:i<10):(fZ RB n)[i]?=some (.slice (some ⟨RB i,0,none⟩) n n):=by simp[fZ,h]
def mD(wt:Nat->Nat):Array Value:=aC 10 wt
def iM(wt:Nat->Nat)(x:Nat->Nat->Nat)(m i c:Nat):Nat:=if c<i then Fld.comb wt x (m+1) c else Fld.comb wt x m c
structure HK(w₀ : World)(RB:Nat->Nat)(x:Nat->Nat->Nat)(n:Nat)(wt:Nat->Nat)(PB B5:Nat)(tb tw:TypeId)(w:World):Prop where
 rows:∀ j,j<10->w.heap[RB j]?=some (.cells (aC n (x j)) tb)
 box:w.heap[B5]?=some (.cells (mD wt) tw)
 place:∃ c,w.heap[PB]?=some (.cells c tb)
 keep:∀ b,b≠PB->∀ o,w₀.heap[b]?=some o->w.heap[b]?=some o
theorem HK.rely{w₀ : World}{RB:Nat->Nat}{x:Nat->Nat->Nat}{n:Nat}{wt:Nat->Nat}{PB B5:Nat}{tb tw:TypeId}{w w₁ : World}(h:HK w₀ RB x n wt PB B5 tb tw w)(r:Ext w w₁):HK w₀ RB x n wt PB B5 tb tw w₁:=⟨fun j hj=>r.row (h.rows j hj),r.row h.box,h.place.imp fun _=>r.row,fun b hb o ho=>r.row (h.keep b hb o ho)⟩
structure HP(w₀ : World)(RB:Nat->Nat)(x:Nat->Nat->Nat)(n:Nat)(wt:Nat->Nat)(PB B5:Nat)(tb tw:TypeId)(m i:Nat)(w:World):Prop where
 hk:HK w₀ RB x n wt PB B5 tb tw w
 place:w.heap[PB]?=some (.cells (aC n (iM wt x m i)) tb)
theorem HP.rely{w₀ : World}{RB:Nat->Nat}{x:Nat->Nat->Nat}{n:Nat}{wt:Nat->Nat}{PB B5:Nat}{tb tw:TypeId}{m i:Nat}{w w₁ : World}(h:HP w₀ RB x n wt PB B5 tb tw m i w)(r:Ext w w₁):HP w₀ RB x n wt PB B5 tb tw m i w₁:=⟨h.hk.rely r,r.row h.place⟩
theorem Nz(wt:Nat->Nat)(x:Nat->Nat->Nat)(m n:Nat):aC n (iM wt x m n)=aC n (iM wt x (m+1) 0):=
 iG fun i hi=>by simp[iM,hi]
theorem Ny(wt:Nat->Nat)(x:Nat->Nat->Nat)(m i n:Nat):(aC n (iM wt x m i)).setIfInBounds i (.int .u8 ((Fld.comb wt x m i ^^^ Fld.mul (wt m) (x m i):Nat):Int))=aC n (iM wt x m (i+1)):=by
 rw[Dt];refine iG fun c hc=>?_
 by_cases e:c=i
 .subst e;simp[iM,Fld.comb]
 .simp only[if_neg e,iM,show c<i+1↔c<i by omega]
section
variable {main:Bool}{Rd:Nat->Prop}
theorem Uz:∃ k,∀ (tb:TypeId) (RB:Nat->Nat) (x:Nat->Nat->Nat) (n:Nat) (wt:Nat->Nat) (PB:Nat) (w:World),n<=400->(∀ i,wt i<256)->(∀ j i,x j i<256)->(∀ b,Rd b->b<w.heap.size)->¬Rd PB->(∀ j,j<10->Rd (RB j))->
  (∀ j,j<10->w.heap[RB j]?=some (.cells (aC n (x j)) tb))->w.heap[PB]?=some (.cells (aC n fun _=>0) tb)->
  eN Tryz.prog main Ext (DW Rd) 83 #[.slice (some ⟨PB,0,none⟩) n n,.agg (fZ RB n),.agg (mD wt)] k w fun v w'=>w'.heap[PB]?=some (.cells (aC n (Fld.comb wt x 10)) tb)∧∀ b,b≠PB->∀ o,w.heap[b]?=some o->w'.heap[b]?=some o:=by
 have T:=fR Rd;obtain⟨kx,hx⟩:=vL (main:=main) T;co_apply Exists.intro;intro tb RB x n wt PB w hn hwt hxs hlow hPB hRB hrows hplace;co_apply Bi Tryz.func83 (by rfl) rfl;simp only[Tryz.ntmps83,List.size_toArray,List.length_cons,List.length_nil,Nat.reduceAdd,Nat.reduceSub,Array.replicate_succ,Array.replicate_zero,List.push_toArray,List.append_toArray,List.nil_append,List.cons_append];co_apply wpC_seq T;co_reg T;co_apply qA (fZ RB n) rfl (by rfl) rfl hlow rfl;intro B4 w1 hB4 hr4 hE;obtain⟨t4,et4,hr4⟩:∃ t4,t4=id _∧w1.heap[B4]?=some (.cells (fZ RB n) t4):=⟨_,rfl,hr4⟩;have hlow1:∀ b,Rd b->b<w1.heap.size:=fun b hb=>Nat.lt_of_lt_of_le (hlow b hb) hE.size
 try walk_nrm
 co_apply qA (mD wt) rfl (by rfl) rfl hlow1 rfl;intro B5 w2 hB5 hr5 hE2;obtain⟨tw,etw,hr5⟩:∃ tw,tw=id _∧w2.heap[B5]?=some (.cells (mD wt) tw):=⟨_,rfl,hr5⟩;have hPlt:PB<w.heap.size:=(Array.getElem?_eq_some_iff.1 hplace).1;have n5:B5≠PB:=by have:=hE.size;omega
 have nR:∀ j,j<10->RB j≠PB:=fun j hj e=>hPB (e▸hRB j hj)
 have hH:HP w RB x n wt PB B5 tb tw 0 0 w2:=by
  exact⟨⟨fun j hj=>hE2.row (hE.row (hrows j hj)),hr5,⟨_,hE2.row (hE.row hplace)⟩,fun b _ o ho=>hE2.row (hE.row ho)⟩,(hE2.row (hE.row hplace)).trans (by rw[iG (g:=iM wt x 0 0) fun i _=>by simp[iM,Fld.comb]])⟩
 have h4:w2.heap[B4]?=some (.cells (fZ RB n) t4):=hE2.row hr4;try walk_nrm
 co_go T (fun h r=>h) hn (co_quiet T);co_apply tE rfl (by rfl) rfl rfl (et4▸h4) (by kernel_rfl) (by rw[Bz];kernel_rfl);intro w3 hR;replace hH:=hH.rely hR;clear hR;try walk_nrm
 co_go T HP.rely hH (co_quiet T)
 co_apply wpC_loop T (fun act w'=>∃ (m:Nat) (u3 u6 u7 u8 u11 u12 u13 u14 u15 u16 u17 u18 u19 u20 u21 u22 u23 u24 u25 u26 u27 u28 u29 u30 u31 u32 u33 u34:Value),m<=10∧HP w RB x n wt PB B5 tb tw m 0 w'∧
   act=⟨#[.slice (some ⟨PB,0,none⟩) n n,.agg (fZ RB n),.agg (mD wt),u3,.pointer (some ⟨B4,0,none⟩),.pointer (some ⟨B5,0,none⟩),u6,u7,u8,.agg (fZ RB n),.int .i64 (m:Nat),u11,u12,u13,u14,u15,u16,u17,u18,u19,u20,u21,u22,u23,u24,u25,u26,u27,u28,u29,u30,u31,u32,u33,u34],[]⟩)
  (fun act _=>10 - (intOf (act.tmps.getD 10 undef)).toNat) _ 10 ?h0 ?hN ?round
 case h0=>exact⟨0,undef,undef,undef,undef,undef,undef,undef,undef,undef,undef,undef,undef,undef,undef,undef,undef,undef,undef,undef,undef,undef,undef,undef,undef,undef,undef,undef,undef,by omega,hH,by simp⟩
 case hN=>simp[intOf]
 case round=>
  rintro act w' ⟨m,u3,u6,u7,u8,u11,u12,u13,u14,u15,u16,u17,u18,u19,u20,u21,u22,u23,u24,u25,u26,u27,u28,u29,u30,u31,u32,u33,u34,hm,hH,rfl⟩;co_go T HP.rely hH (co_quiet T);co_split T (decide ((m:Int)<10))
  .intro hz;have hm7:m<10:=by have:=of_decide_eq_true hz;omega
   co_go T HP.rely hH (co_quiet T);co_apply xM T rfl (by rfl) rfl rfl rfl (show jD _ _=some 10 by kernel_rfl) hm7 (Oa RB n m hm7);intro w₃ hR;replace hH:=hH.rely hR;clear hR;try walk_nrm
   co_go T HP.rely hH (co_quiet T)
   co_apply wpC_loop T (fun act w'=>∃ (i:Nat) (u3 u8 u11 u12 u13 u14 u17 u18 u19 u20 u21 u22 u23 u24 u25 u26 u27 u28 u29 u30 u31 u32 u33 u34:Value),i<=n∧HP w RB x n wt PB B5 tb tw m i w'∧
     act=⟨#[.slice (some ⟨PB,0,none⟩) n n,.agg (fZ RB n),.agg (mD wt),u3,.pointer (some ⟨B4,0,none⟩),.pointer (some ⟨B5,0,none⟩),.int .i64 (m:Nat),.slice (some ⟨RB m,0,none⟩) n n,u8,.agg (fZ RB n),.int .i64 (m:Nat),u11,u12,u13,u14,.int .i64 (n:Nat),.int .i64 (i:Nat),u17,u18,u19,u20,u21,u22,u23,u24,u25,u26,u27,u28,u29,u30,u31,u32,u33,u34],[]⟩)
    (fun act _=>n - (intOf (act.tmps.getD 16 undef)).toNat) _ 400 ?h0 ?hN ?round
   case h0=>exact⟨0,u3,_,_,_,_,_,_,_,_,_,_,_,_,_,_,_,_,_,_,_,_,_,_,_,by omega,hH,rfl⟩
   case hN=>simp[intOf];omega
   case round=>
    rintro act w' ⟨i,u3,u8,u11,u12,u13,u14,u17,u18,u19,u20,u21,u22,u23,u24,u25,u26,u27,u28,u29,u30,u31,u32,u33,u34,hi,hH,rfl⟩;co_go T HP.rely hH (co_quiet T);co_split T (decide ((i:Int)<(n:Int)))
    .intro hz;have hin:i<n:=by have:=of_decide_eq_true hz;omega
     have hiI:(i:Int)<(n:Int):=by omega
     have hmI:(m:Int)<10:=by omega
     co_go T HP.rely hH (co_quiet T);co_apply wJ T (Am Rd) (N:=kx+4) (S:=HK w RB x n wt PB B5 tb tw) (by omega) (by first|kernel_rfl|rfl)
     intro w₁ hR;replace hH:=HP.rely (hH.rely hR) (Ext.draw _);clear hR;have hS:=hH.hk;simp only[List.size_toArray,List.length_cons,List.length_nil,Nat.reduceAdd,Nat.zero_add];co_applyP dQ T (fun _ _ h r=>HK.rely h r) (fun _ _ _ h r=>wpC_rely T h r) (i:=0) rfl (by first|kernel_rfl|decide +kernel) (by first|kernel_rfl|decide +kernel) (by first|kernel_rfl|decide +kernel) (.inl ⟨by rfl,fun _ hw=>⟨run_eq_of ?run1,?guar1⟩⟩) hS ?rest1
     case run1=>
      intro K_ hK_;skip;go_simp;exact hK_
     case guar1=>
      skip;(co_quiet T)
     try walk_nrm
     co_applyP dQ T (fun _ _ h r=>HK.rely h r) (fun _ _ _ h r=>wpC_rely T h r) (i:=1) rfl (by first|kernel_rfl|decide +kernel) (by first|kernel_rfl|decide +kernel) (by first|kernel_rfl|decide +kernel) (.inl ⟨by rfl,fun _ hw=>⟨run_eq_of ?run2,?guar2⟩⟩) hS ?rest2
     case run2=>
      intro K_ hK_;skip;go_simp;exact hK_
     case guar2=>
      skip;(co_quiet T)
     try walk_nrm
     co_applyP dQ T (fun _ _ h r=>HK.rely h r) (fun _ _ _ h r=>wpC_rely T h r) (i:=2) rfl (by first|kernel_rfl|decide +kernel) (by first|kernel_rfl|decide +kernel) (by first|kernel_rfl|decide +kernel) (.inl ⟨by rfl,fun _ hw=>⟨run_eq_of ?run3,?guar3⟩⟩) hS ?rest3
     case run3=>
      intro K_ hK_;skip;go_simp;exact hK_
     case guar3=>
      skip;(rw[listed_nil (by(simp[go_sem];exact oA (show kP _ _=true by kernel_rfl) hin))];exact Terms.idle T _)
     try walk_nrm
     co_applyP dQ T (fun _ _ h r=>HK.rely h r) (fun _ _ _ h r=>wpC_rely T h r) (i:=4) rfl (by first|kernel_rfl|decide +kernel) (by first|kernel_rfl|decide +kernel) (by first|kernel_rfl|decide +kernel) (.inl ⟨by rfl,fun _ hw=>⟨run_eq_of ?run4,?guar4⟩⟩) hS ?rest4
     case run4=>
      intro K_ hK_;skip;go_simp;exact hK_
     case guar4=>
      skip;(co_quiet T)
     try walk_nrm
     co_applyP dQ T (fun _ _ h r=>HK.rely h r) (fun _ _ _ h r=>wpC_rely T h r) (i:=5) rfl (by first|kernel_rfl|decide +kernel) (by first|kernel_rfl|decide +kernel) (by first|kernel_rfl|decide +kernel) (.inl ⟨by rfl,fun _ hw=>⟨run_eq_of ?run5,?guar5⟩⟩) hS ?rest5
     case run5=>
      intro K_ hK_;skip;go_simp;exact hK_
     case guar5=>
      skip;(rw[listed_nil (by(simp[go_sem];exact sZ (show jD _ _=some 10 by kernel_rfl) hm7))];exact Terms.idle T _)
     try walk_nrm
     co_applyP dQ (v:=.int .u8 (wt m:Nat)) T (fun _ _ h r=>HK.rely h r) (fun _ _ _ h r=>wpC_rely T h r) (i:=6) rfl (by first|kernel_rfl|decide +kernel) (by first|kernel_rfl|decide +kernel) (by first|kernel_rfl|decide +kernel) (.inl ⟨by rfl,fun _ hw=>⟨run_eq_of ?run6,?guar6⟩⟩) hS ?rest6
     case run6=>
      intro K_ hK_;(have hc:=(cell_of_row _ B5 m _ _ _ (HK.box hw)).trans (dZ 10 wt m hm7));go_simp;exact hK_
     case guar6=>
      have hc:=(cell_of_row _ B5 m _ _ _ (HK.box hw)).trans (dZ 10 wt m hm7);(refine⟨⟨rfl,rfl⟩,fun _ _=>rfl,?_⟩;co_evs (exact⟨_,rfl,rfl,by simp⟩))
     try walk_nrm
     co_applyP dQ T (fun _ _ h r=>HK.rely h r) (fun _ _ _ h r=>wpC_rely T h r) (i:=7) rfl (by first|kernel_rfl|decide +kernel) (by first|kernel_rfl|decide +kernel) (by first|kernel_rfl|decide +kernel) (.inl ⟨by rfl,fun _ hw=>⟨run_eq_of ?run7,?guar7⟩⟩) hS ?rest7
     case run7=>
      intro K_ hK_;skip;go_simp;exact hK_
     case guar7=>
      skip;(co_quiet T)
     try walk_nrm
     co_applyP dQ T (fun _ _ h r=>HK.rely h r) (fun _ _ _ h r=>wpC_rely T h r) (i:=8) rfl (by first|kernel_rfl|decide +kernel) (by first|kernel_rfl|decide +kernel) (by first|kernel_rfl|decide +kernel) (.inl ⟨by rfl,fun _ hw=>⟨run_eq_of ?run8,?guar8⟩⟩) hS ?rest8
     case run8=>
      intro K_ hK_;skip;go_simp;exact hK_
     case guar8=>
      skip;(co_quiet T)
     try walk_nrm
     co_applyP dQ T (fun _ _ h r=>HK.rely h r) (fun _ _ _ h r=>wpC_rely T h r) (i:=9) rfl (by first|kernel_rfl|decide +kernel) (by first|kernel_rfl|decide +kernel) (by first|kernel_rfl|decide +kernel) (.inl ⟨by rfl,fun _ hw=>⟨run_eq_of ?run9,?guar9⟩⟩) hS ?rest9
     case run9=>
      intro K_ hK_;skip;go_simp;exact hK_
     case guar9=>
      skip;(rw[listed_nil (by(simp[go_sem];exact oA (show kP _ _=true by kernel_rfl) hin))];exact Terms.idle T _)
     try walk_nrm
     co_applyP dQ (v:=.int .u8 (x m i:Nat)) T (fun _ _ h r=>HK.rely h r) (fun _ _ _ h r=>wpC_rely T h r) (i:=10) rfl (by first|kernel_rfl|decide +kernel) (by first|kernel_rfl|decide +kernel) (by first|kernel_rfl|decide +kernel) (.inl ⟨by rfl,fun _ hw=>⟨run_eq_of ?run10,?guar10⟩⟩) hS ?rest10
     case run10=>
      intro K_ hK_;(have hc:=(cell_of_row _ (RB m) i _ _ _ (HK.rows hw m hm7)).trans (dZ n (x m) i hin));go_simp;exact hK_
     case guar10=>
      have hc:=(cell_of_row _ (RB m) i _ _ _ (HK.rows hw m hm7)).trans (dZ n (x m) i hin);(refine⟨⟨rfl,rfl⟩,fun _ _=>rfl,?_⟩;co_evs (exact⟨_,rfl,rfl,by simp⟩))
     try walk_nrm
     have hw1:=hwt m;have hx1:=hxs m i;co_applyP oB T (fun _ _ h r=>HK.rely h r) (fun _ _ _ h r=>wpC_rely T h r) (i:=11) rfl (by first|kernel_rfl|decide +kernel) (by first|kernel_rfl|decide +kernel) (by first|kernel_rfl|decide +kernel) (by rfl) rfl (by simp[Act.eval]) (by omega) (fun w h=>(eN.of_callsC T (hx _ _ w w hw1 hx1 (.refl w))).mono fun v w' q=>⟨q.1,h.rely (gJ q.2),gJ q.2⟩) hS
     try walk_nrm
     co_applyP Ww (j:=3) (v:=.int .u8 (Fld.comb wt x m i:Nat)) T (fun _ _ h r=>HK.rely h r) (fun _ _ _ h r=>wpC_rely T h r) (by first|kernel_rfl|decide +kernel) rfl (by rfl) (fun w hR=>⟨run_eq_of ?runL,?guarL⟩) hS ?restL
     case runL=>
      intro K_ hK_;have hc:=(cell_of_row _ PB i _ _ _ (hH.rely hR).place).trans (dZ n _ i hin);simp only[iM,Nat.lt_irrefl,if_false]at hc;go_simp;exact hK_
     case guarL=>
      have hc:=(cell_of_row _ PB i _ _ _ (hH.rely hR).place).trans (dZ n _ i hin);(refine⟨⟨rfl,rfl⟩,fun _ _=>rfl,?_⟩;co_evs (exact⟨_,rfl,rfl,by simp⟩))
     try walk_nrm
     have hc1:=Fld.comb_lt x hwt m i;have hc2:=Fld.mul_lt hw1 (x m i);co_applyP dQ T (fun _ _ h r=>HK.rely h r) (fun _ _ _ h r=>wpC_rely T h r) (i:=12) rfl (by first|kernel_rfl|decide +kernel) (by first|kernel_rfl|decide +kernel) (by first|kernel_rfl|decide +kernel) (.inl ⟨by rfl,fun _ hw=>⟨run_eq_of ?run12,?guar12⟩⟩) hS ?rest12
     case run12=>
      intro K_ hK_;skip;go_simp;exact hK_
     case guar12=>
      skip;(co_quiet T)
     try walk_nrm
     rw[u8_xor_nat _ _ hc1 hc2];co_applyP dQ T (fun _ _ h r=>HK.rely h r) (fun _ _ _ h r=>wpC_rely T h r) (i:=13) rfl (by first|kernel_rfl|decide +kernel) (by first|kernel_rfl|decide +kernel) (by first|kernel_rfl|decide +kernel) (.inl ⟨by rfl,fun _ hw=>⟨run_eq_of ?run13,?guar13⟩⟩) hS ?rest13
     case run13=>
      intro K_ hK_;skip;go_simp;exact hK_
     case guar13=>
      skip;(rw[listed_nil (by(simp[go_sem];exact oA (show kP _ _=true by kernel_rfl) hin))];exact Terms.idle T _)
     try walk_nrm
     co_applyP Ea (j:=14) (by first|kernel_rfl|decide +kernel) rfl (by rfl) rfl rfl rfl hH.place (by rw[dY];exact hin) (by kernel_rfl) hPB
     intro w₂ hR;rw[Ny];have h2:=hH.rely hR;have hH':HP w RB x n wt PB B5 tb tw m (i+1) (w₂.setRow PB (aC n (iM wt x m (i+1)))):=
      ⟨⟨fun j hj=>(setRow_other _ _ _ _ (nR j hj)).trans (h2.hk.rows j hj),(setRow_other _ _ _ _ n5).trans h2.hk.box,⟨_,setRow_heap _ _ _ _ _ _ h2.place⟩,fun b hb o ho=>(setRow_other _ _ _ _ hb).trans (h2.hk.keep b hb o ho)⟩,setRow_heap _ _ _ _ _ _ h2.place⟩
     clear hH hS h2 hR;generalize w₂.setRow PB (aC n (iM wt x m (i+1)))=w₃ at hH';co_apply And.intro hH'.hk;co_apply yK (by first|kernel_rfl|decide +kernel)
     try walk_nrm
     co_then;co_go T HP.rely hH' (co_quiet T);have e:IntKind.i64.wrap ((i:Int)+1)=((i+1:Nat):Int):=by rw[IntKind.wrap_i64];omega
     rw[e];exact⟨⟨i+1,u3,_,_,_,_,_,_,_,_,_,_,_,_,_,_,_,_,_,_,_,_,_,_,_,by omega,hH',rfl⟩,by simp[intOf];omega⟩
    .intro hz;have h0:i=n:=by
      have:=of_decide_eq_false hz;omega
     have hHn:HP w RB x n wt PB B5 tb tw (m+1) 0 _:=⟨hH.hk,by have:=hH.place;rw[h0,Nz]at this;exact this⟩;clear hH;co_go T HP.rely hHn (co_quiet T);have e:IntKind.i64.wrap ((m:Int)+1)=((m+1:Nat):Int):=by rw[IntKind.wrap_i64];omega
     rw[e];exact⟨⟨m+1,u3,_,_,_,_,_,_,_,_,_,_,_,_,_,_,_,_,_,_,_,_,_,_,_,_,_,_,_,by omega,hHn,rfl⟩,by simp[intOf];omega⟩
  .intro hz;have h0:m=10:=by
    have:=of_decide_eq_false hz;omega
   subst h0;co_go T HP.rely hH (co_quiet T);refine⟨rfl,Pr (by rfl) fun v w₅ hR=>?_⟩
   refine⟨?_,(hH.rely hR).hk.keep⟩;rw[(hH.rely hR).place,iG (g:=Fld.comb wt x 10) fun i _=>by simp[iM]]
end
end Go.Proofs.YtpiefebngnlfoabGreatDoor
namespace Go.Vw
open Go.Conc
section
variable {P:Program}{main:Bool}{R:World->World->Prop}{D:World->World->Array Event->Prop}{fn:FuncId}{ops:Array Oper}{S:World->Prop}
theorem Kq{md:Region.Mode}{Q:Exit->Act->World->Prop}{N:Nat}{fuel:Nat}{l:Array Bool}{a:Act}{w:World}{o:Oper}{j:Nat}{f:FuncId}{args:Array Operand}{ats:Array TypeId}{nf:Nat}{vs:Array Value}{Post:Value->World->Prop}(hr:Region.ready md ops l=[j])(ho:ops[j]?=some o)(hw:Region.wanted o (yielded ops a.tmps)=true)
  (hop:o.op=.call {callee:=.value (.func f),args,argTypes:=ats}) (hvs:args.map a.eval=vs) (hN:nf+3<=N) (hcall:eN P main R D f vs nf w Post)
  (hnext:∀ v w',Post v w'->S w'∧dS P main R D fn md ops Q S N fuel (l.setIfInBounds j true) (a.put o.dst v) w'):dS P main R D fn md ops Q S N (fuel+1) l a w:=by
 refine zE hr (by simp) fun i' hi'=>?_
 obtain rfl:i'=j:=by simpa using hi'
 unfold gV;simp only[ho,hw,if_true];exact .inr ⟨f,args,ats,nf,Post,hop,hN,by rw[hvs];exact hcall,hnext⟩
end
def kD:Option Code->Code
 |some (.seq _ c)=>c
 |_=>.skip
end Go.Vw
namespace Go.Proofs.YtpiefebngnlfoabGreatDoor
open Go.RowKit Go.Conc Go.Vw
theorem Ua(known:Nat->Nat)(k:Nat):dJ known k 10=mD (Fld.wgt known k):=by
 apply Array.ext_getElem?;intro i;by_cases hi:i<10<;>simp[dJ,mD,aC,hi]
theorem Ig(known:Nat->Nat)(k i:Nat):Fld.wgt known k i<256:=Fld.mul_lt (Fld.dist_lt _ _ _ _) _
structure HB(Rd:Nat->Prop)(known:Nat->Nat)(k:Nat)(RB:Nat->Nat)(n PB BP BR BK BC:Nat)(tp tr tk tc:TypeId)(x:Nat->Nat->Nat)(tb:TypeId)(w:World):Prop where
 bp:w.heap[BP]?=some (.cells #[.slice (some ⟨PB,0,none⟩) n n] tp)
 br:w.heap[BR]?=some (.cells (fZ RB n) tr)
 bk:w.heap[BK]?=some (.cells (ten known) tk)
 bc:w.heap[BC]?=some (.cells #[.int .i64 (k:Nat)] tc)
 rows:∀ j,j<10->w.heap[RB j]?=some (.cells (aC n (x j)) tb)
 low:∀ b,Rd b->b<w.heap.size
theorem HB.rely{Rd:Nat->Prop}{known:Nat->Nat}{k:Nat}{RB:Nat->Nat}{n PB BP BR BK BC:Nat}{tp tr tk tc:TypeId}{x:Nat->Nat->Nat}{tb:TypeId}{w w₁ : World}(h:HB Rd known k RB n PB BP BR BK BC tp tr tk tc x tb w)(r:Ext w w₁):HB Rd known k RB n PB BP BR BK BC tp tr tk tc x tb w₁:=
 ⟨r.row h.bp,r.row h.br,r.row h.bk,r.row h.bc,fun j hj=>r.row (h.rows j hj),fun b hb=>Nat.lt_of_lt_of_le (h.low b hb) r.size⟩
section
variable {main:Bool}{Rd:Nat->Prop}
theorem zaP:∃ N,∀ (tb tp tr tk tc:TypeId) (known:Nat->Nat) (k:Nat) (RB:Nat->Nat) (x:Nat->Nat->Nat) (n PB BP BR BK BC:Nat) (t0:Value) (ds:List Deferred) (w:World),(∀ i,i<10->known i<14)->k<14->n<=400->(∀ j i,x j i<256)->
  ¬Rd PB->(∀ j,j<10->Rd (RB j))->Rd BP->Rd BR->Rd BK->Rd BC->HB Rd known k RB n PB BP BR BK BC tp tr tk tc x tb w->w.heap[PB]?=some (.cells (aC n fun _=>0) tb)->
  (kD Tryz.f81.body).wpC Tryz.prog main Ext (DW Rd) 81 N (fun e a w'=>e=.normal∧a.defers=ds∧w'.heap[PB]?=some (.cells (aC n (Fld.comb (Fld.wgt known k) x 10)) tb))
   ⟨#[t0,.pointer (some ⟨BP,0,none⟩),.pointer (some ⟨BR,0,none⟩),.pointer (some ⟨BK,0,none⟩),.pointer (some ⟨BC,0,none⟩),undef,undef,undef,undef,undef,undef],ds⟩ w:=by
 have T:=fR Rd;obtain⟨kw,hwt⟩:=Qb (main:=main) (Rd:=Rd);obtain⟨kr,hrk⟩:=Uz (main:=main) (Rd:=Rd);co_apply Exists.intro;intro tb tp tr tk tc known k RB x n PB BP BR BK BC t0 ds w hkn hk hn hx hPB hRB r1 r2 r3 r4 hH hplace;simp only[kD,Tryz.f81];co_apply wJ T (Am Rd) (N:=kw+kr+4) (S:=HB Rd known k RB n PB BP BR BK BC tp tr tk tc x tb) (by omega) (by first|kernel_rfl|rfl)
 intro w₁ hR;replace hH:=HB.rely (hH.rely hR) (Ext.draw _);replace hplace:=(Ext.draw w₁).row (hR.row hplace);clear hR;simp only[List.size_toArray,List.length_cons,List.length_nil,Nat.reduceAdd,Nat.zero_add];generalize ({w₁ with drawn:=w₁.drawn+1} : World)=w₀ at hH hplace;co_applyP dQ (v:=.slice (some ⟨PB,0,none⟩) n n) T (fun _ _ h r=>HB.rely h r) (fun _ _ _ h r=>⟨h.1,h.2.1,r.row h.2.2⟩) (i:=0) rfl (by first|kernel_rfl|decide +kernel) (by first|kernel_rfl|decide +kernel) (by first|kernel_rfl|decide +kernel) (.inl ⟨by rfl,fun _ hw=>⟨run_eq_of ?run1,?guar1⟩⟩) hH ?rest1
 case run1=>
  intro K_ hK_;(have hc:=cell_of_row _ BP 0 _ _ _ (HB.bp hw);simp at hc);go_simp;exact hK_
 case guar1=>
  have hc:=cell_of_row _ BP 0 _ _ _ (HB.bp hw);simp at hc;(refine⟨⟨rfl,rfl⟩,fun _ _=>rfl,?_⟩;co_evs (exact⟨_,rfl,rfl,by simp⟩))
 try walk_nrm
 co_applyP dQ T (fun _ _ h r=>HB.rely h r) (fun _ _ _ h r=>⟨h.1,h.2.1,r.row h.2.2⟩) (i:=1) rfl (by first|kernel_rfl|decide +kernel) (by first|kernel_rfl|decide +kernel) (by first|kernel_rfl|decide +kernel) (tA (by rfl) rfl rfl (fun w h=>HB.br h) (by kernel_rfl) (by rw[Bz];kernel_rfl)) hH
 try walk_nrm
 co_applyP dQ T (fun _ _ h r=>HB.rely h r) (fun _ _ _ h r=>⟨h.1,h.2.1,r.row h.2.2⟩) (i:=2) rfl (by first|kernel_rfl|decide +kernel) (by first|kernel_rfl|decide +kernel) (by first|kernel_rfl|decide +kernel) (tA (by rfl) rfl rfl (fun w h=>HB.bk h) (by kernel_rfl) (by rw[gK];kernel_rfl)) hH
 try walk_nrm
 co_applyP dQ (v:=.int .i64 (k:Nat)) T (fun _ _ h r=>HB.rely h r) (fun _ _ _ h r=>⟨h.1,h.2.1,r.row h.2.2⟩) (i:=3) rfl (by first|kernel_rfl|decide +kernel) (by first|kernel_rfl|decide +kernel) (by first|kernel_rfl|decide +kernel) (.inl ⟨by rfl,fun _ hw=>⟨run_eq_of ?run4,?guar4⟩⟩) hH ?rest4
 case run4=>
  intro K_ hK_;(have hc:=cell_of_row _ BC 0 _ _ _ (HB.bc hw);simp at hc);go_simp;exact hK_
 case guar4=>
  have hc:=cell_of_row _ BC 0 _ _ _ (HB.bc hw);simp at hc;(refine⟨⟨rfl,rfl⟩,fun _ _=>rfl,?_⟩;co_evs (exact⟨_,rfl,rfl,by simp⟩))
 try walk_nrm
 co_applyP oB T (fun _ _ h r=>HB.rely h r) (fun _ _ _ h r=>⟨h.1,h.2.1,r.row h.2.2⟩) (i:=4) rfl (by first|kernel_rfl|decide +kernel) (by first|kernel_rfl|decide +kernel) (by first|kernel_rfl|decide +kernel) (by rfl) rfl (by simp[Act.eval]) (by omega) (fun w h=>(hwt known k w w hkn hk h.low (.refl w)).mono fun v w' q=>⟨q.1,h.rely (gJ q.2),gJ q.2⟩) hH
 try walk_nrm
 have hcall:=hrk tb RB x n (Fld.wgt known k) PB w₀ hn (Ig known k) hx hH.low hPB hRB hH.rows hplace;co_applyP Kq (j:=5) (by first|kernel_rfl|decide +kernel) rfl (by rfl) rfl (by simp[Act.eval,Ua]) (by omega) hcall
 rintro v w' ⟨hp,hkeep⟩;have nB:∀ {B:Nat},Rd B->B≠PB:=fun h e=>hPB (e▸h)
 co_apply And.intro ⟨hkeep _ (nB r1) _ hH.bp,hkeep _ (nB r2) _ hH.br,hkeep _ (nB r3) _ hH.bk,hkeep _ (nB r4) _ hH.bc,fun j hj=>hkeep _ (nB (hRB j hj)) _ (hH.rows j hj),fun b hb=>(Array.getElem?_eq_some_iff.1 (hkeep b (nB hb) _ (Array.getElem?_eq_getElem (hH.low b hb)))).1⟩
 co_apply yK (by first|kernel_rfl|decide +kernel)
 exact⟨rfl,rfl,hp⟩
theorem Lo:∃ N,∀ (tb tp tr tk tc:TypeId) (known:Nat->Nat) (k:Nat) (RB:Nat->Nat) (x:Nat->Nat->Nat) (n PB BP BR BK BC Dz:Nat) (t0:Value) (w:World),(∀ i,i<10->known i<14)->k<14->n<=400->(∀ j i,x j i<256)->
  ¬Rd PB->(∀ j,j<10->Rd (RB j))->Rd BP->Rd BR->Rd BK->Rd BC->HB Rd known k RB n PB BP BR BK BC tp tr tk tc x tb w->w.heap[PB]?=some (.cells (aC n fun _=>0) tb)->
  Goes Tryz.prog main Ext (DW Rd) (kI (baseD 81) Dz fun w'=>w'.heap[PB]?=some (.cells (aC n (Fld.comb (Fld.wgt known k) x 10)) tb)) N
   (G ((baseD 81).at ⟨#[t0,.pointer (some ⟨BP,0,none⟩),.pointer (some ⟨BR,0,none⟩),.pointer (some ⟨BK,0,none⟩),.pointer (some ⟨BC,0,none⟩),undef,undef,undef,undef,undef,undef],aZ Dz⟩ [.code (kD Tryz.f81.body)]) []) w:=by
 obtain⟨N,h⟩:=zaP (main:=main) (Rd:=Rd);refine⟨1+N,fun tb tp tr tk tc known k RB x n PB BP BR BK BC Dz t0 w hkn hk hn hx hPB hRB r1 r2 r3 r4 hH hplace=>?_⟩
 refine(h tb tp tr tk tc known k RB x n PB BP BR BK BC t0 (aZ Dz) w hkn hk hn hx hPB hRB r1 r2 r3 r4 hH hplace) (baseD 81) [] [] _ 1 rfl (by simp[baseD]) fun e a w' q=>?_
 obtain⟨rfl,hd,hp⟩:=q;refine Goes.step rfl fun w₁ hR=>?_
 rw[stepG_end];refine⟨(fR Rd).idle _,Goes.stop fun w₂ h₂=>⟨a.tmps,[],?_,h₂.row (hR.row hp)⟩⟩
 rw[<-hd];rfl
end
