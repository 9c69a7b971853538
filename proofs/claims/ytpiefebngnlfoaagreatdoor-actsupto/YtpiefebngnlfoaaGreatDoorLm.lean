import Derived.Test.YtpiefebngnlfoaaGreatDoorLi
import Derived.Conc.WgGenN3
import Derived.Conc.Starve
import Derived.Deep.WholeRow
import Derived.Conc.SmallLaws
import Derived.Conc.EventLaws
import Derived.Conc.EventLaws2
set_option maxRecDepth 99999
set_option maxHeartbeats 0
set_option linter.unusedVariables false
namespace Go.Proofs.YtpiefebngnlfoaaGreatDoor.Fld
def xt(a:Nat):Nat:=if a<128 then 2*a else(2*a)^^^285
def xp:Nat->Nat->Nat
 |0,a=>a
 |k+1,a=>xt (xp k a)
def mk(a b:Nat):Nat->Nat
 |0=>0
 |k+1=>if b/2^k%2=1 then mk a b k^^^xp k a else mk a b k
def mul(a b:Nat):Nat:=mk a b 8
def uG(p:Nat->Bool):Nat->Bool
 |0=>true
 |n+1=>p n&&uG p n
theorem allTo_spec{p:Nat->Bool}{n:Nat}(h:uG p n=true):∀k,k<n->p k=true:=by
 induction n with
 |zero=>intro k hk;omega
 |succ n ih=>
  simp only[uG,bq]at h;intro k hk;by_cases e:k=n
  .subst e;exact h.1
  .exact ih h.2 k (by omega)
theorem Q7{a:Nat}(h:a<256):xt a<256:=by have:=allTo_spec (p:=λa=>decide (xt a<256)) (n:=256) (by decide +kernel) a h;simpa using this
theorem Q8{a:Nat}(h:a<256)(h0:a≠0):xt a≠0:=by have:=allTo_spec (p:=λa=>a==0||xt a != 0) (n:=256) (by decide +kernel) a h;simpa [h0] using this
theorem Hg(n k:Nat):n/2^k%2=1↔n.testBit k=true:=by rw[Nat.testBit_eq_decide_div_mod_eq];simp
theorem xor_lt{a b:Nat}(ha:a<256)(hb:b<256):a^^^b<256:=Nat.xor_lt_two_pow (n:=8) ha hb
theorem zK(a:Nat):xt a=if a.testBit 7=true∧a<256 then(2*a)^^^285 else if a<256 then 2*a else xt a:=by
 unfold xt;by_cases h:a<256
 .have:a.testBit 7=true↔128<=a:=by rw[<-Hg];omega
  by_cases g:a<128
  .have:¬a.testBit 7=true:=by rw[this];omega
   simp[h,this,g]
  .have:a.testBit 7=true:=by rw[this];omega
   simp[h,this,g]
 .simp[h]
theorem Lg(a b:Nat):2*(a^^^b)=(2*a)^^^(2*b):=by
 have h (n:Nat):2*n=n<<<1:=by rw[Nat.shiftLeft_eq];omega
 rw[h,h a,h b,Nat.shiftLeft_xor_distrib]
theorem wA(a b:Nat):a^^^b^^^b=a:=by rw[Nat.xor_assoc,Nat.xor_self,Nat.xor_zero]
theorem uN(a b c d:Nat):(a^^^b)^^^(c^^^d)=(a^^^c)^^^(b^^^d):=by rw[Nat.xor_assoc,<-Nat.xor_assoc b,Nat.xor_comm b c,Nat.xor_assoc c,<-Nat.xor_assoc]
theorem Hk{a b:Nat}(ha:a<256)(hb:b<256):xt (a^^^b)=xt a^^^xt b:=by
 have yg:=xor_lt ha hb;have ht:(a^^^b).testBit 7=(a.testBit 7 ^^ b.testBit 7):=Nat.testBit_xor _ _ _;rw[zK a,zK b,zK (a^^^b),ht,Lg];simp only[ha,hb,yg,and_true,if_true];have e:=wA (2*a^^^2*b) 285;cases a.testBit 7<;>cases b.testBit 7<;>simp
 .exact Nat.xor_assoc _ _ _
 .rw[Nat.xor_assoc,Nat.xor_assoc,Nat.xor_comm 285]
 .rw[uN,Nat.xor_self,Nat.xor_zero]
theorem Wi:xt 0=0:=rfl
theorem xp_lt{a:Nat}(h:a<256)(k:Nat):xp k a<256:=by
 induction k with
 |zero=>exact h
 |succ k ih=>exact Q7 ih
theorem Yv{a b:Nat}(ha:a<256)(hb:b<256)(k:Nat):xp k (a^^^b)=xp k a^^^xp k b:=by
 induction k with
 |zero=>rfl
 |succ k ih=>simp only[xp];rw[ih,Hk (xp_lt ha k) (xp_lt hb k)]
theorem Wj(k:Nat):xp k 0=0:=by
 induction k with
 |zero=>rfl
 |succ k ih=>simp only[xp];rw[ih,Wi]
theorem Q4{a:Nat}(h:a<256)(h0:a≠0)(k:Nat):xp k a≠0:=by
 induction k with
 |zero=>exact h0
 |succ k ih=>exact Q8 (xp_lt h k) ih
theorem tS(i j a:Nat):xp (i+j) a=xp i (xp j a):=by
 induction i with
 |zero=>simp[xp]
 |succ i ih=>rw[show i+1+j=(i+j)+1 from by omega];simp only[xp];rw[ih]
theorem Ii(k a:Nat):xp k (xt a)=xt (xp k a):=by
 induction k with
 |zero=>rfl
 |succ k ih=>simp only[xp];rw[ih]
theorem mk_lt{a:Nat}(h:a<256)(b k:Nat):mk a b k<256:=by
 induction k with
 |zero=>simp[mk]
 |succ k ih=>
  simp only[mk];split
  .exact xor_lt ih (xp_lt h k)
  .exact ih
theorem mk_stay(a b k:Nat)(h:b/2^k=0)(j:Nat):mk a b (k+j)=mk a b k:=by
 induction j with
 |zero=>rfl
 |succ j ih=>
  have:b/2^(k+j)=0:=by rw[Nat.pow_add,<-Nat.div_div_eq_div_mul,h];simp
  rw[<-Nat.add_assoc];simp only[mk];rw[this];simpa using ih
theorem O3{a:Nat}(h:a<256)(b k:Nat):mk (xt a) b k=xt (mk a b k):=by
 induction k with
 |zero=>rfl
 |succ k ih=>
  simp only[mk];split
  .rw[ih,Ii,Hk (mk_lt h b k) (xp_lt h k)]
  .exact ih
theorem Ml{a c:Nat}(ha:a<256)(hc:c<256)(b k:Nat):mk (a^^^c) b k=mk a b k^^^mk c b k:=by
 induction k with
 |zero=>simp[mk]
 |succ k ih=>
  simp only[mk];split
  .rw[ih,Yv ha hc,uN]
  .exact ih
theorem Kx(a b c k:Nat):mk a (b^^^c) k=mk a b k^^^mk a c k:=by
 induction k with
 |zero=>simp[mk]
 |succ k ih=>
  simp only[mk,Hg,Nat.testBit_xor];rw[ih];cases b.testBit k<;>cases c.testBit k<;>simp
  .exact Nat.xor_assoc _ _ _
  .rw[Nat.xor_assoc,Nat.xor_assoc,Nat.xor_comm (mk a c k)]
  .rw[uN,Nat.xor_self,Nat.xor_zero]
theorem Kw(b k:Nat):mk 0 b k=0:=by
 induction k with
 |zero=>rfl
 |succ k ih=>simp only[mk];rw[ih,Wj];simp
theorem Jy(a k:Nat):mk a 0 k=0:=by
 induction k with
 |zero=>rfl
 |succ k ih=>simp only[mk];rw[ih];simp
theorem mul_lt{a:Nat}(h:a<256)(b:Nat):mul a b<256:=mk_lt h b 8
theorem zero_mul(b:Nat):mul 0 b=0:=Kw b 8
theorem mul_zero(a:Nat):mul a 0=0:=Jy a 8
theorem qF(a b c:Nat):mul a (b^^^c)=mul a b^^^mul a c:=Kx a b c 8
theorem add_mul{a c:Nat}(ha:a<256)(hc:c<256)(b:Nat):mul (a^^^c) b=mul a b^^^mul c b:=Ml ha hc b 8
theorem one_mul{a:Nat}(h:a<256):mul 1 a=a:=by have:=allTo_spec (p:=λa=>mul 1 a==a) (n:=256) (by decide +kernel) a h;simpa using this
theorem mK{b:Nat}(hb:b<256)(i:Nat):mul (xp i 1) b=xp i b:=by
 induction i with
 |zero=>exact one_mul hb
 |succ i ih=>show mk (xt (xp i 1)) b 8=xt (xp i b);rw[O3 (xp_lt (by omega) i)];exact congrArg xt ih
def qS:Nat->Nat->List Nat
 |0,_=>[]
 |n+1,a=>a::qS n (xt a)
theorem Ra(n a c:Nat)(h:c∈qS n a):∃i,c=xp i a:=by
 induction n generalizing a with
 |zero=>simp[qS]at h
 |succ n ih=>
  simp only[qS,az]at h;rcases h with rfl|h
  .exact⟨0,rfl⟩
  .obtain⟨i,hi⟩:=ih _ h;exact⟨i+1,by rw[hi,Ii];rfl⟩
theorem pY{a:Nat}(h:a<256)(h0:a≠0):∃i,a=xp i 1:=by have:=allTo_spec (p:=λa=>a==0||(qS 255 1).contains a) (n:=256) (by decide +kernel) a h;exact Ra 255 1 a (by simpa [h0] using this)
theorem mul_comm{a b:Nat}(ha:a<256)(hb:b<256):mul a b=mul b a:=by
 by_cases a0:a=0
 .subst a0;rw[zero_mul,mul_zero]
 by_cases b0:b=0
 .subst b0;rw[zero_mul,mul_zero]
 obtain⟨i,rfl⟩:=pY ha a0;obtain⟨j,rfl⟩:=pY hb b0;rw[mK hb,mK ha,<-tS,<-tS,Nat.add_comm]
theorem mul_assoc{a b c:Nat}(ha:a<256)(hb:b<256)(hc:c<256):mul (mul a b) c=mul a (mul b c):=by
 by_cases a0:a=0
 .subst a0;rw[zero_mul,zero_mul,zero_mul]
 by_cases b0:b=0
 .subst b0;rw[mul_zero,zero_mul,mul_zero]
 obtain⟨i,rfl⟩:=pY ha a0;obtain⟨j,rfl⟩:=pY hb b0;rw[mK hb,mK hc,<-tS,mK hc,mK (xp_lt hc j),tS]
theorem Hu{a b:Nat}(ha:a<256)(hb:b<256)(a0:a≠0)(b0:b≠0):mul a b≠0:=by obtain⟨i,rfl⟩:=pY ha a0;rw[mK hb];exact Q4 hb b0 i
theorem Mk{a b:Nat}(ha:a<256)(hb:b<256):mul a b=0↔a=0∨b=0:=by
 constructor
 .intro h;by_cases a0:a=0
  .exact .inl a0
  by_cases b0:b=0
  .exact .inr b0
  exact absurd h (Hu ha hb a0 b0)
 .rintro(rfl|rfl)
  .exact zero_mul _
  .exact mul_zero _
end Go.Proofs.YtpiefebngnlfoaaGreatDoor.Fld
namespace Go.Proofs.YtpiefebngnlfoaaGreatDoor
open Go.RowKit
theorem Sz(a:Nat)(h:a<128):bits .and .u8 (a:Int) 128=0:=by rw[show(128:Int)=((128:Nat):Int) from rfl,u8_and_nat a 128 (by omega) (by omega)];have:=Fld.allTo_spec (p:=λa=>a&&&128==0) (n:=128) (by decide +kernel) a h;simp at this;rw[this];rfl
theorem Ta(a:Nat)(h:128<=a)(h':a<256):bits .and .u8 (a:Int) 128=128:=by
 rw[show(128:Int)=((128:Nat):Int) from rfl,u8_and_nat a 128 (by omega) (by omega)];have:=Fld.allTo_spec (p:=λa=>a<128||a&&&128==128) (n:=256) (by decide +kernel) a h';simp at this;rcases this with h|h
 .omega
 .rw[h]
theorem Q6(a:Nat)(h:a<128):(a:Int)*2=((Fld.xt a:Nat):Int):=by unfold Fld.xt;rw[ai h];omega
theorem Q5(a:Nat)(h:128<=a)(h':a<256):bits .xor .u8 ((a:Int)*2%256) 29=((Fld.xt a:Nat):Int):=by
 have e:(a:Int)*2%256=((2*a%256:Nat):Int):=by omega
 rw[e,show(29:Int)=((29:Nat):Int) from rfl,u8_xor_nat _ 29 (by omega) (by omega)];have:=Fld.allTo_spec (p:=λa=>a<128||2*a%256^^^29==Fld.xt a) (n:=256) (by decide +kernel) a h';simp at this;rcases this with h|h
 .omega
 .rw[h]
theorem Ja(n:Nat)(h:n<256):bits .and .u8 (n:Int) 1=((n%2:Nat):Int):=by rw[show(1:Int)=((1:Nat):Int) from rfl,u8_and_nat n 1 h (by omega),Nat.and_one_is_mod]
theorem Wc(n:Nat)(h:n<256)(g:n%2=1):(bits .and .u8 (n:Int) 1==1)=true:=by rw[Ja n h,g];rfl
theorem Yr(n:Nat)(h:n<256)(g:¬n%2=1):(bits .and .u8 (n:Int) 1==1)=false:=by rw[Ja n h,show n%2=0 from by omega];rfl
def sh(b k:Nat):Nat:=b/2^k
theorem tK(b k:Nat):sh b (k+1)=sh b k/2:=by unfold sh;rw[Nat.pow_succ,Nat.div_div_eq_div_mul]
theorem P3(b k:Nat)(h:b<256):sh b k<256:=Nat.lt_of_le_of_lt (Nat.div_le_self _ _) h
theorem P4(b k:Nat)(h:b<256)(h0:sh b k≠0):k<8:=by
 by_cases g:k<8
 .exact g
 .exfalso;apply h0;unfold sh;apply Nat.div_eq_of_lt;have:2^8<=2^k:=Nat.pow_le_pow_right (by omega) (by omega);omega
theorem Zq(a b k:Nat)(hk:k<=8)(h0:sh b k=0):Fld.mk a b k=Fld.mul a b:=by unfold Fld.mul;obtain⟨j,hj⟩:=Nat.exists_eq_add_of_le hk;have:=Fld.mk_stay a b k h0 j;rw[hj,this]
theorem O2(a b k:Nat)(h:sh b k%2=1):Fld.mk a b (k+1)=Fld.mk a b k^^^Fld.xp k a:=by simp only[Fld.mk];unfold sh at h;rw[ai h]
theorem Zp(a b k:Nat)(h:¬sh b k%2=1):Fld.mk a b (k+1)=Fld.mk a b k:=by simp only[Fld.mk];unfold sh at h;rw[ah h]
abbrev link:Go.Conc.Lib.WgLink:={add:=86,done:=88,wait:=91,relMerge:=105,disable:=106,enable:=107,inBubble:=108,associate:=109,fatal:=110,uOr:=111,uAdd:=112,raceRead:=113,uLoad:=114,uStore:=115,disassociate:=116,semrelease:=117,acquire:=121,isAssociated:=122,uCas:=123,raceWrite:=124,semacquire:=125,orU64:=131,addU64:=132,loadU64:=133,storeU64:=134,casU64:=136,tWgP:=187,tUP:=189,tAssoc:=190,tWg:=169,tAU:=166,tU64:=78,tUint:=154,tU32:=167,tPU32:=194,tPAU:=210,tPU64:=212,tNoCopy:=162,tANoCopy:=163,tAlign64:=164}
theorem lI:Go.Conc.Lib.WgLib Tryz.prog link:=
 ⟨Tryz.func86,Tryz.func88,Tryz.func91,Tryz.func105,Tryz.func106,Tryz.func107,Tryz.func108,Tryz.func109,Tryz.func110,Tryz.func111,Tryz.func112,Tryz.func113,Tryz.func114,Tryz.func115,Tryz.func116,Tryz.func117,Tryz.func121,Tryz.func122,Tryz.func123,Tryz.func124,Tryz.func125,Tryz.func131,Tryz.func132,Tryz.func133,Tryz.func134,Tryz.func136,Tryz.underlying187,Tryz.runUnderlying187,Tryz.sizeOf187,Tryz.isAgg187,Tryz.zeroValue187,Tryz.underlying189,Tryz.runUnderlying189,Tryz.sizeOf189,Tryz.isAgg189,Tryz.zeroValue189,Tryz.underlying190,Tryz.runUnderlying190,Tryz.sizeOf190,Tryz.isAgg190,Tryz.zeroValue190,Tryz.underlying169,Tryz.runUnderlying169,Tryz.sizeOf169,Tryz.isAgg169,Tryz.zeroValue169,Tryz.underlying166,Tryz.runUnderlying166,Tryz.sizeOf166,Tryz.isAgg166,Tryz.zeroValue166,Tryz.underlying78,Tryz.runUnderlying78,Tryz.sizeOf78,Tryz.isAgg78,Tryz.zeroValue78,Tryz.underlying154,Tryz.runUnderlying154,Tryz.sizeOf154,Tryz.isAgg154,Tryz.zeroValue154,Tryz.underlying167,Tryz.runUnderlying167,Tryz.sizeOf167,Tryz.isAgg167,Tryz.zeroValue167,Tryz.underlying194,Tryz.runUnderlying194,Tryz.sizeOf194,Tryz.isAgg194,Tryz.zeroValue194,Tryz.underlying210,Tryz.runUnderlying210,Tryz.sizeOf210,Tryz.isAgg210,Tryz.zeroValue210,Tryz.underlying212,Tryz.runUnderlying212,Tryz.sizeOf212,Tryz.isAgg212,Tryz.zeroValue212,Tryz.underlying0,Tryz.runUnderlying0,Tryz.sizeOf0,Tryz.isAgg0,Tryz.zeroValue0,Tryz.underlying3,Tryz.runUnderlying3,Tryz.sizeOf3,Tryz.isAgg3,Tryz.zeroValue3,Tryz.underlying4,Tryz.runUnderlying4,Tryz.sizeOf4,Tryz.isAgg4,Tryz.zeroValue4,Tryz.underlying9,Tryz.runUnderlying9,Tryz.sizeOf9,Tryz.isAgg9,Tryz.zeroValue9,Tryz.underlying20,Tryz.runUnderlying20,Tryz.sizeOf20,Tryz.isAgg20,Tryz.zeroValue20,Tryz.underlying21,Tryz.runUnderlying21,Tryz.sizeOf21,Tryz.isAgg21,Tryz.zeroValue21,(by kernel_rfl),(by kernel_rfl)⟩
end Go.Proofs.YtpiefebngnlfoaaGreatDoor
namespace Go.Vw
def zS(P:Program)(F:FuncId->Bool)(f:FuncId):Bool:=
 match P.funcs[f]? with
 |some fn=>(match fn.body with|some c=>okCode P F c|none=>false)&&!(fn.name == "runtime.NumGoroutine")
 |none=>false
theorem Rk{P:Program}{F:FuncId->Bool}{f:FuncId}(h:zS P F f=true):∃fn c,P.funcs[f]?=some fn∧fn.body=some c∧okCode P F c=true∧(fn.name == "runtime.NumGoroutine")=false:=by
 unfold zS at h;split at h
 .rename_i fn hf;rw[bq]at h;obtain⟨h1,h2⟩:=h;split at h1
  .rename_i c hc;exact⟨fn,c,hf,hc,h1,by simpa using h2⟩
  .cases h1
 .cases h
end Go.Vw
namespace Go.Proofs.YtpiefebngnlfoaaGreatDoor
open Go.Vw
def FL:List FuncId:=[28,30,11,37,38,50,42,45,118,35,135,75,76,81,82,89,90,119,120]
def FG(f:FuncId):Bool:=FL.contains f
theorem R6:FL.all (zS Tryz.prog FG)=true:=by kernel_rfl
theorem aB:Vw.Good Tryz.prog FG:=by
 refine⟨λf hf=>?_,lO⟩;have hm:f∈FL:=by simpa [FG] using hf
 exact Rk (List.all_eq_true.1 R6 f hm)
section
open Go.Vw Go.Conc
variable {Stop:Goroutine->(Nat->Prop)->World->Prop}{S:Nat->Prop}{v:World}{fn:FuncId}{cs:List Frame}{k k':List Item}{a b:Array Value}
theorem rN(hr:Vw.Reach Tryz.prog Stop (G ((base fn).at ⟨b,[]⟩ k') cs) S v)(hs:Sp Tryz.prog S v fn a k b k':=by first|exact spQ rfl|exact spY aB|exact spW):Vw.Reach Tryz.prog Stop (G ((base fn).at ⟨a,[]⟩ k) cs) S v:=hs _ _ hr
theorem rM{A:Addr}{y:Value}(hc:v.cell? A=some y)(hr:Vw.Reach Tryz.prog Stop (G ((base fn).at ⟨b,[]⟩ k') cs) S v)(hs:v.cell? A=some y->Sp Tryz.prog S v fn a k b k':=by intro I2;first|exact spQ rfl|exact spC aB I2|exact spW):Vw.Reach Tryz.prog Stop (G ((base fn).at ⟨a,[]⟩ k) cs) S v:=hs hc _ _ hr
end
open Go.RowKit Go.Conc
theorem tU(n:Int):IntKind.u8.wrap n=n%256:=by simp[IntKind.wrap,IntKind.bits,IntKind.signed]
section
variable {main:Bool}{R:World->World->Prop}{D:World->World->Array Event->Prop}
theorem Ti(T:Terms R D):∃k,∀(a:Nat)(w₀ w:World),a<256->Since R w₀ w->CallsC Tryz.prog main R D 135 #[.int .u8 (a:Int)] k w λv w'=>v=.int .u8 (Fld.xt a:Nat)∧Since R w₀ w':=by
 co_apply Exists.intro;intro a w₀ w ha hF;co_apply callsC_of_wpC Tryz.func135 (by rfl) rfl;simp only[Tryz.ntmps135,bh,av,cf,Nat.reduceAdd,Nat.reduceSub,Array.replicate_succ,Array.replicate_zero,List.push_toArray,List.append_toArray,List.nil_append,List.cons_append];co_go T (Since.rely T) hF (co_quiet T);co_split T (bits .and .u8 (a:Int) 128==0)
 .intro ht;have g:a<128:=by
   rcases Nat.lt_or_ge a 128 with g|g
   .exact g
   .rw[Ta a g ha]at ht;cases ht
  co_go T (Since.rely T) hF (co_quiet T);exact⟨rfl,_,resultsC_tmp (by rfl) _,by simp only[go_sem];rw[tU];simpa [Int.emod_eq_of_lt (show(0:Int)<=(a:Int)*2 by omega) (show(a:Int)*2<256 by omega)] using Q6 a g,hF⟩
 .intro ht;have g:128<=a:=by
   rcases Nat.lt_or_ge a 128 with g|g
   .rw[Sz a g]at ht;cases ht
   .exact g
  co_go T (Since.rely T) hF (co_quiet T);exact⟨rfl,_,resultsC_tmp (by rfl) _,by simp[tU];exact Q5 a g ha,hF⟩
theorem pE(T:Terms R D){P:Program}{fn:FuncId}{Q:Exit->Act->World->Prop}{a:Act}{w:World}{ops:Array Oper}{i:Nat}{rest:List Nat}{o:Oper}{f:FuncId}{args:Array Operand}{gq:Array TypeId}{nf n:Nat}{Post:Value->World->Prop}{vs:Array Value}
  (ho:ops[i]?=some o) (hw:Region.wanted o (yielded ops a.tmps)=true) (dm:o.op=.call {callee:=.value (.func f),args,argTypes:=gq})
  (jm:CallsC P main R D f vs nf w Post) (qe:args.map a.eval=vs) (ee:∀v w',Post v w'->OpsC P main R D fn ops rest n Q (a.put o.dst v) w'):OpsC P main R D fn ops (i::rest) (n+nf+3) Q a w:=by
 subst qe;exact opsC_call T ho hw dm jm ee
theorem tY(T:Terms R D):∃k,∀(a b:Nat)(w₀ w:World),a<256->b<256->Since R w₀ w->CallsC Tryz.prog main R D 118 #[.int .u8 (a:Int),.int .u8 (b:Int)] k w λv w'=>v=.int .u8 (Fld.mul a b:Nat)∧Since R w₀ w':=by
 obtain⟨kx,hx⟩:=Ti (main:=main) T;co_apply Exists.intro;intro a b w₀ w ha hb hF;co_apply callsC_of_wpC Tryz.func118 (by rfl) rfl;simp only[Tryz.ntmps118,bh,av,cf,Nat.reduceAdd,Nat.reduceSub,Array.replicate_succ,Array.replicate_zero,List.push_toArray,List.append_toArray,List.nil_append,List.cons_append];co_go T (Since.rely T) hF (co_quiet T)
 co_apply wpC_loop T (λact w'=>Since R w₀ w'∧∃(k:Nat)(u2 u3 u6 u7 u8 u9 u10 u11 u12 u13 u14 yq u16 yp yn:Value),k<=8∧
   act=⟨#[.int .u8 (Fld.xp k a:Nat),.int .u8 (sh b k:Nat),u2,u3,.int .u8 0,.int .u8 (Fld.mk a b k:Nat),u6,u7,u8,u9,u10,u11,u12,u13,u14,yq,u16,yp,yn],[]⟩)
  (λact _=>(intOf (act.tmps.getD 1 undef)).toNat) _ 256 ?h0 ?hN ?round
 case h0=>exact⟨hF,0,undef,undef,undef,undef,undef,undef,undef,undef,undef,undef,undef,undef,undef,undef,undef,by omega,by simp[sh,Fld.xp,Fld.mk]⟩
 case hN=>simp[intOf];omega
 case round=>
  rintro act w' ⟨hF,k,u2,u3,u6,u7,u8,u9,u10,u11,u12,u13,u14,yq,u16,yp,yn,hk,rfl⟩;have h1:=P3 b k hb;have h2:=Fld.xp_lt ha k;have h3:=Fld.mk_lt ha b k;co_go T (Since.rely T) hF (co_quiet T);co_split T ((sh b k:Int) != 0)
  .intro hz;have h0:sh b k≠0:=by intro e;rw[e]at hz;cases hz
   have G6:=P4 b k hb h0;co_go T (Since.rely T) hF (co_quiet T);co_split T (bits .and .u8 (sh b k:Int) 1==1)
   .intro fg;have hm:sh b k%2=1:=by
     rcases Nat.mod_two_eq_zero_or_one (sh b k) with e|e
     .have:=Yr _ h1 (show ¬sh b k%2=1 by omega);rw[this]at fg;cases fg
     .exact e
    have H:=aP (O2 a b k hm);co_go T (Since.rely T) hF (co_quiet T);co_apply pE T rfl (by rfl) rfl (hx _ _ _ h2 hF) (by simp[Act.eval]);rintro v NS ⟨rfl,hF⟩;co_go T (Since.rely T) hF (co_quiet T);have e2:((sh b k:Nat):Int)/2=((sh b (k+1):Nat):Int):=by rw[tK];omega
    rw[u8_xor_nat _ _ h3 h2,<-H.out,e2];exact⟨⟨hF,k+1,u2,u3,_,_,_,_,_,_,_,_,_,_,_,_,_,by omega,rfl⟩,by rw[tK];simp[intOf];omega⟩
   .intro fg;have hm:¬sh b k%2=1:=by
     intro e;have:=Wc _ h1 e;rw[this]at fg;cases fg
    have H:=aP (Zp a b k hm);co_apply wpC_skip T;co_then;co_apply wpC_more;co_go T (Since.rely T) hF (co_quiet T);co_apply pE T rfl (by rfl) rfl (hx _ _ _ h2 hF) (by simp[Act.eval]);rintro v NS ⟨rfl,hF⟩;co_go T (Since.rely T) hF (co_quiet T);have e2:((sh b k:Nat):Int)/2=((sh b (k+1):Nat):Int):=by rw[tK];omega
    rw[<-H.out,e2];exact⟨⟨hF,k+1,u2,u3,_,_,_,_,_,_,_,_,_,_,_,_,_,by omega,rfl⟩,by rw[tK];simp[intOf];omega⟩;omega
  .intro hz;have h0:sh b k=0:=by
    rcases Nat.eq_zero_or_pos (sh b k) with e|e
    .exact e
    .exfalso;have:((sh b k:Int) != 0)=true:=by simp;omega
     rw[this]at hz;cases hz
   co_apply wpC_exit T;co_then;co_go T (Since.rely T) hF (co_quiet T);exact⟨rfl,_,resultsC_tmp (by rfl) _,by simp[Zq a b k hk h0],hF⟩
end
namespace Fld
def sq(a:Nat):Nat->Nat
 |0=>a
 |k+1=>mul (sq a k) (sq a k)
def iv(a:Nat):Nat->Nat
 |0=>1
 |k+1=>mul (iv a k) (sq a (k+1))
def inv(a:Nat):Nat:=iv a 7
theorem sq_lt{a:Nat}(h:a<256)(k:Nat):sq a k<256:=by
 induction k with
 |zero=>exact h
 |succ k ih=>exact mul_lt ih _
theorem iv_lt(a k:Nat):iv a k<256:=by
 induction k with
 |zero=>exact(by decide:1<256)
 |succ k ih=>exact mul_lt ih _
theorem inv_lt(a:Nat):inv a<256:=iv_lt a 7
theorem Xs{a:Nat}(h:a<256)(h0:a≠0):mul a (inv a)=1:=by
 have key:uG (λn=>n==0||mul n (inv n)==1) 256=true:=by decide +kernel
 have:=allTo_spec key a h;simpa [h0] using this
end Fld
section
variable {main:Bool}{R:World->World->Prop}{D:World->World->Array Event->Prop}
theorem Rs(T:Terms R D):∃k,∀(a:Nat)(w₀ w:World),a<256->Since R w₀ w->CallsC Tryz.prog main R D 120 #[.int .u8 (a:Int)] k w λv w'=>v=.int .u8 (Fld.inv a:Nat)∧Since R w₀ w':=by
 obtain⟨kx,hx⟩:=tY (main:=main) T;co_apply Exists.intro;intro a w₀ w ha hF;co_apply callsC_of_wpC Tryz.func120 (by rfl) rfl;simp only[Tryz.ntmps120,bh,av,cf,Nat.reduceAdd,Nat.reduceSub,Array.replicate_succ,Array.replicate_zero,List.push_toArray,List.append_toArray,List.nil_append,List.cons_append];co_go T (Since.rely T) hF (co_quiet T)
 co_apply wpC_loop T (λact w'=>Since R w₀ w'∧∃(k:Nat)(u1 u7 u8 u9 u10 u11 u12 u13 u14 yq:Value),k<=7∧
   act=⟨#[.int .u8 (a:Nat),u1,.int .u8 0,.int .u8 (Fld.sq a k:Nat),.int .u8 (Fld.iv a k:Nat),.int .u8 (a:Nat),.int .i64 (k:Nat),u7,u8,u9,u10,u11,u12,u13,u14,yq],[]⟩)
  (λact _=>7-(intOf (act.tmps.getD 6 undef)).toNat) _ 7 ?h0 ?hN ?round
 case h0=>exact⟨hF,0,undef,undef,undef,undef,undef,undef,undef,undef,undef,undef,by omega,by simp[Fld.sq,Fld.iv]⟩
 case hN=>simp[intOf]
 case round=>
  rintro act w' ⟨hF,k,u1,u7,u8,u9,u10,u11,u12,u13,u14,yq,hk,rfl⟩;have h1:=Fld.sq_lt ha k;have lj:=Fld.sq_lt ha (k+1);have h2:=Fld.iv_lt a k;co_go T (Since.rely T) hF (co_quiet T);co_split T (decide ((k:Int)<7))
  .intro hz;have G7:k<7:=by have:=of_decide_eq_true hz;omega
   co_go T (Since.rely T) hF (co_quiet T);co_apply pE T rfl (by rfl) rfl (hx _ _ _ _ h1 h1 hF) (by simp[Act.eval]);rintro v NS ⟨rfl,hF⟩;co_go T (Since.rely T) hF (co_quiet T);co_apply pE T rfl (by rfl) rfl (hx _ _ _ _ h2 lj hF) (by simp[Act.eval,Fld.sq]);rintro v NS ⟨rfl,hF⟩;co_go T (Since.rely T) hF (co_quiet T);have e:IntKind.i64.wrap ((k:Int)+1)=((k+1:Nat):Int):=by rw[IntKind.wrap_i64];omega
   rw[e];exact⟨⟨hF,k+1,u1,_,_,_,_,_,_,_,_,_,by omega,rfl⟩,by simp[intOf];omega⟩
  .intro hz;have h0:k=7:=by
    have:=of_decide_eq_false hz;omega
   subst h0;co_go T (Since.rely T) hF (co_quiet T);exact⟨rfl,_,resultsC_tmp (by rfl) _,by simp[Fld.inv],hF⟩
end
open Go.RowKit Go.Conc Go.Vw
namespace Fld
def dist(known:Nat->Nat)(j k:Nat):Nat->Nat
 |0=>1
 |m+1=>if m=j then dist known j k m else mul (dist known j k m) (k^^^known m)
theorem dist_lt(known:Nat->Nat)(j k m:Nat):dist known j k m<256:=by
 induction m with
 |zero=>exact(by decide:1<256)
 |succ m ih=>
  unfold dist;split
  .exact ih
  .exact mul_lt ih _
end Fld
def ten(known:Nat->Nat):Array Value:=(Array.range 10).map λi=>.int .i64 (known i:Nat)
theorem gC(known:Nat->Nat):(ten known).size=10:=by simp[ten]
theorem qC(known:Nat->Nat)(i:Nat)(h:i<10):(ten known)[i]?=some (.int .i64 (known i:Nat)):=by simp[ten,h]
structure HR(w₀ : World)(N:Nat)(o:Obj)(w:World):Prop where
 since:Since Ext w₀ w
 row:w.heap[N]?=some o
theorem HR.rely{w₀ w w₁ : World}{N:Nat}{o:Obj}(h:HR w₀ N o w)(r:Ext w w₁):HR w₀ N o w₁:=⟨h.since.rely (fM λ_=>False) r,r.row h.row⟩
section
variable {main:Bool}{Rd:Nat->Prop}
theorem Mn:∃n,∀(known:Nat->Nat)(j k:Nat)(w₀ w:World),(∀i,i<10->known i<14)->j<10->k<14->(∀b,Rd b->b<w.heap.size)->Since Ext w₀ w->CallsC Tryz.prog main Ext (DW Rd) 119 #[.agg (ten known),.int .i64 (j:Nat),.int .i64 (k:Nat)] n w λv w'=>v=.int .u8 (Fld.dist known j k 10:Nat)∧Since Ext w₀ w':=by
 have T:=fM Rd;obtain⟨kx,hx⟩:=tY (main:=main) T;co_apply Exists.intro;intro known j k w₀ w qg hj hk fq hF;co_apply callsC_of_wpC Tryz.func119 (by rfl) rfl;simp only[Tryz.ntmps119,bh,av,cf,Nat.reduceAdd,Nat.reduceSub,Array.replicate_succ,Array.replicate_zero,List.push_toArray,List.append_toArray,List.nil_append,List.cons_append];co_apply wpC_seq T;co_reg T;co_apply pL (ten known) rfl (by rfl) rfl fq rfl;intro N w' hN du hE;have hH:HR w₀ N _ w':=⟨hF.rely T hE,du⟩;clear hF hE fq du;try walk_nrm
 co_go T HR.rely hH (co_quiet T);co_apply rL rfl (by rfl) rfl rfl hH.row (by kernel_rfl) (by rw[gC];kernel_rfl);intro w₂ hR;have hF:=(hH.rely hR).since;clear hH hR;try walk_nrm
 co_go T (Since.rely T) hF (co_quiet T)
 co_apply wpC_loop T (λact w'=>Since Ext w₀ w'∧∃(m:Nat)(u4 u5 u8 u9 u12 u13 u14 yq u16 yp yn BW BU BS BQ BO BN BM IK:Value),m<=10∧
   act=⟨#[.agg (ten known),.int .i64 (j:Nat),.int .i64 (k:Nat),.pointer (some ⟨N,0,none⟩),u4,u5,.int .u8 0,.int .u8 (Fld.dist known j k m:Nat),u8,u9,.agg (ten known),.int .i64 (m:Nat),u12,u13,u14,yq,u16,yp,yn,BW,BU,BS,BQ,BO,BN,BM,IK],[]⟩)
  (λact _=>10-(intOf (act.tmps.getD 11 undef)).toNat) _ 10 ?h0 ?hN ?round
 case h0=>exact⟨hF,0,undef,undef,undef,undef,undef,undef,undef,undef,undef,undef,undef,undef,undef,undef,undef,undef,undef,undef,undef,by omega,by simp[Fld.dist]⟩
 case hN=>simp[intOf]
 case round=>
  rintro act w' ⟨hF,m,u4,u5,u8,u9,u12,u13,u14,yq,u16,yp,yn,BW,BU,BS,BQ,BO,BN,BM,IK,hm,rfl⟩;have h3:=Fld.dist_lt known j k m;co_go T (Since.rely T) hF (co_quiet T);co_split T (decide ((m:Int)<10))
  .intro hz;have ng:m<10:=by have:=of_decide_eq_true hz;omega
   have OM:=qg m ng;co_go T (Since.rely T) hF (co_quiet T);co_apply wN T rfl (by rfl) rfl rfl rfl (show iO _ _=some 10 by kernel_rfl) ng (qC known m ng);intro w₃ hR;replace hF:=Since.rely T hF hR;clear hR;try walk_nrm
   co_go T (Since.rely T) hF (co_quiet T);co_split T ((m:Int) != (j:Int))
   .intro dy;have VD:m≠j:=by intro e;subst e;simp at dy
    have hd:Fld.dist known j k (m+1)=Fld.mul (Fld.dist known j k m) (k^^^known m):=by simp[Fld.dist,VD]
    have MB:k^^^known m<256:=Fld.xor_lt (by omega) (by omega);have e1:IntKind.u8.wrap (k:Int)=(k:Int):=by rw[tU];omega
    have e2:IntKind.u8.wrap (known m:Int)=(known m:Int):=by rw[tU];omega
    co_go T (Since.rely T) hF (first|co_quiet T|(rw[listed_nil (by(simp[go_sem];exact events_convert_int _ _ _ _ (by kernel_rfl) (by kernel_rfl) _))];exact Terms.idle T _));co_apply pE T rfl (by rfl) rfl (hx _ _ _ _ h3 MB hF) (by simp[Act.eval,u8_xor_nat _ _ (show k<256 by omega) (show known m<256 by omega)]);rintro v NS ⟨rfl,hF⟩;co_go T (Since.rely T) hF (co_quiet T);have e:IntKind.i64.wrap ((m:Int)+1)=((m+1:Nat):Int):=by rw[IntKind.wrap_i64];omega
    rw[e,<-hd];exact⟨⟨hF,m+1,u4,u5,_,_,_,_,_,_,_,_,_,_,_,_,_,_,_,_,_,by omega,rfl⟩,by simp[intOf];omega⟩
   .intro dy;have VD:m=j:=by
     rcases Nat.decEq m j with e|e
     .exfalso;have:((m:Int) != (j:Int))=true:=by simp;omega
      rw[this]at dy;cases dy
     .exact e
    have hd:Fld.dist known j k (m+1)=Fld.dist known j k m:=by simp[Fld.dist,VD]
    clear VD;co_apply wpC_skip T;co_then;co_apply wpC_more;co_go T (Since.rely T) hF (co_quiet T);have e:IntKind.i64.wrap ((m:Int)+1)=((m+1:Nat):Int):=by rw[IntKind.wrap_i64];omega
    rw[e,<-hd];exact⟨⟨hF,m+1,u4,u5,_,_,_,_,_,_,_,_,_,_,_,_,_,_,_,_,_,by omega,rfl⟩,by simp[intOf];omega⟩;omega
  .intro hz;have h0:m=10:=by
    have:=of_decide_eq_false hz;omega
   subst h0;co_go T (Since.rely T) hF (co_quiet T);exact⟨rfl,_,resultsC_tmp (by rfl) _,by simp,hF⟩
end
end Go.Proofs.YtpiefebngnlfoaaGreatDoor
namespace Go.Vw
open Go.Conc
section
variable {P:Program}{main:Bool}{Rd:Nat->Prop}{fn:FuncId}{ops:Array Oper}{S:World->Prop}
theorem rF{t:TypeId}{L m:Nat}{ad:Addr}{w:World}{es:Array Event}(hu:iO P t=some L)(hm:m<L):(Instr.indexAt t (.pointer (some ad)) (.int .i64 (m:Nat))).events P w es=es:=by
 obtain⟨e,inf,d,hu,hq,hs,QI,hd⟩:=uX hu;have hb:(0:Int)<=(m:Int)∧(m:Int)<(L:Int):=by omega
 simp[Instr.indexAt,asIntOf,Instr.sureAddr,Sem.events_bind,cw hu,hm,hb,sizeOf,typeInfo,hq]
theorem rG{o:Oper}{b:Nat}{a:Act}{t t':TypeId}{p:Operand}{c:Array Value}{fr:Nat×Nat}
  (hw:Region.wanted o (yielded ops a.tmps)=true) (dm:o.op=.load t p) (hp:a.eval p=.pointer (some ⟨b,0,none⟩))
  (du:∀w,S w->w.heap[b]?=some (.cells c t' fr)) (hu:(P.underlying t).map fS=some true) (hi:(P.info? t).map (·.size)=some c.size) :
  YieldsIfC P (DW Rd) fn ops S o (.agg c) a:=by
 refine .inl ⟨hw,λw hS=>?_⟩
 obtain⟨d,hu,hd⟩:=Option.map_eq_some_iff.1 hu;have lx:(loadVar t ⟨b,0,none⟩).run P w=.ok (.agg c) w:=run_loadVar_row w b t' t c fr _ (du w hS) hu (by cases d<;>simp_all[fS]) hi
 constructor
 .unfold execOp;simp only[dm,hp,df,Instr.loadAt,Instr.sureAddr,dg,dc,lx]
 .refine⟨⟨rfl,rfl⟩,λ_ _=>rfl,λev fu=>?_⟩
  have hm:=mem_listed fu;unfold execOp at hm;simp only[dm,hp,Instr.loadAt,Instr.sureAddr,pure_bind,Sem.events_bind,lx,Result.evThen_ok,Sem.events_pure]at hm;exact uY (du w hS) hu hd hi ev hm
theorem Dc{md:Region.Mode}{Q:Exit->Act->World->Prop}{N:Nat}{fuel:Nat}{l:Array Bool}{a:Act}{w:World}{o:Oper}{g i j:Nat}{t t':TypeId}{x y:Operand}{old:Array Value}{k:IntKind}{n:Int}(hr:Region.ready md ops l=[j])(ho:ops[j]?=some o)
  (hw:Region.wanted o (yielded ops a.tmps)=true) (dm:o.op=.store t x y) (hx:a.eval x=.pointer (some ⟨g,i,none⟩)) (hy:a.eval y=.int k n) (du:w.heap[g]?=some (.cells old t')) (hi:i<old.size) (hs:(P.info? t).map (·.size)=some 1) (hg:¬Rd g)
  (ee:∀w₁,Ext w w₁->S (w₁.setRow g (old.setIfInBounds i (.int k n)))∧dU P main Ext (DW Rd) fn md ops Q S N fuel (l.setIfInBounds j true) (a.put o.dst undef) (w₁.setRow g (old.setIfInBounds i (.int k n)))):dU P main Ext (DW Rd) fn md ops Q S N (fuel+1) l a w:=by
 refine yJ hr (by simp) λi' ft=>?_
 obtain rfl:i'=j:=by simpa using ft
 unfold gH;simp only[ho,hw,if_true];refine .inl λw₁ hR=>?_
 obtain⟨dq,fu⟩:=Jp (P:=P) (fn:=fn) (w:=w₁) dm hx hy (hR.row du) hi hs;have hD:DW Rd w₁ (w₁.setRow g (old.setIfInBounds i (.int k n))) (listed P fn a o w₁):=⟨⟨rfl,rfl⟩,λb hb=>setRow_other _ _ _ _ (λe=>hg (e▸hb)),λe he=>by rw[fu e he];exact⟨_,rfl,rfl,λ_=>hg⟩⟩
 rcases dq with dq|dq<;>rw[dq]
 .exact⟨hD,ee _ hR⟩
 .exact⟨hD,ee _ hR⟩
end
end Go.Vw
namespace Go.Proofs.YtpiefebngnlfoaaGreatDoor
open Go.RowKit Go.Conc Go.Vw
namespace Fld
def wgt(known:Nat->Nat)(k i:Nat):Nat:=mul (dist known i k 10) (inv (dist known i (known i) 10))
end Fld
def dH(known:Nat->Nat)(k m:Nat):Array Value:=(Array.range 10).map λi=>.int .u8 ((if i<m then Fld.wgt known k i else 0:Nat):Int)
theorem oJ(known:Nat->Nat)(k m:Nat):(dH known k m).size=10:=by simp[dH]
theorem Eu(known:Nat->Nat)(k:Nat):dH known k 0=#[.int .u8 0,.int .u8 0,.int .u8 0,.int .u8 0,.int .u8 0,.int .u8 0,.int .u8 0,.int .u8 0,.int .u8 0,.int .u8 0]:=by simp only[dH,Nat.not_lt_zero,if_false];kernel_rfl
structure HW(w₀ : World)(K Z W:Nat)(ok oz ow:Obj)(w:World):Prop where
 since:Since Ext w₀ w
 rk:w.heap[K]?=some ok
 rz:w.heap[Z]?=some oz
 rw:w.heap[W]?=some ow
theorem HW.rely{w₀ w w₁ : World}{K Z W:Nat}{ok oz ow:Obj}(h:HW w₀ K Z W ok oz ow w)(r:Ext w w₁):HW w₀ K Z W ok oz ow w₁:=⟨h.since.rely (fM λ_=>False) r,r.row h.rk,r.row h.rz,r.row h.rw⟩
structure HS(w₀ : World)(K Z W:Nat)(ok oz:Obj)(tw:TypeId)(w:World):Prop where
 since:Since Ext w₀ w
 rk:w.heap[K]?=some ok
 rz:w.heap[Z]?=some oz
 ex:∃c,w.heap[W]?=some (.cells c tw)
theorem HS.rely{w₀ w w₁ : World}{K Z W:Nat}{ok oz:Obj}{tw:TypeId}(h:HS w₀ K Z W ok oz tw w)(r:Ext w w₁):HS w₀ K Z W ok oz tw w₁:=⟨h.since.rely (fM λ_=>False) r,r.row h.rk,r.row h.rz,h.ex.imp λ_=>r.row⟩
theorem HW.hs{w₀ w:World}{K Z W:Nat}{ok oz:Obj}{tw:TypeId}{c:Array Value}(h:HW w₀ K Z W ok oz (.cells c tw) w):HS w₀ K Z W ok oz tw w:=⟨h.since,h.rk,h.rz,c,h.rw⟩
theorem gA{w w':World}(h:Since Ext w w'):Ext w w':=h.elim (λe=>e▸Ext.refl _) id
theorem Wl(known:Nat->Nat)(k m:Nat)(h:m<10):(dH known k m).setIfInBounds m (.int .u8 (Fld.wgt known k m:Nat))=dH known k (m+1):=by
 apply au;intro i;rw[aj];by_cases e:m=i
 .subst e;simp[dH,h]
 .rw[ah e];simp only[dH,bj];by_cases hi:i<10
  .simp[hi,show i<m+1↔i<m by omega]
  .simp[hi]
theorem Wn(known:Nat->Nat)(k m:Nat):(dH known k m).all (·.oneCell')=true:=by rw[Array.all_eq_true_iff_forall_mem];intro v hv;simp only[dH,Array.mem_map]at hv;obtain⟨i,_,rfl⟩:=hv;rfl
section
variable {main:Bool}{Rd:Nat->Prop}
theorem Pe:∃n,∀(known:Nat->Nat)(k:Nat)(w₀ w:World),(∀i,i<10->known i<14)->k<14->(∀b,Rd b->b<w.heap.size)->Since Ext w₀ w->eL Tryz.prog main Ext (DW Rd) 90 #[.agg (ten known),.int .i64 (k:Nat)] n w λv w'=>v=.agg (dH known k 10)∧Since Ext w₀ w':=by
 have T:=fM Rd;obtain⟨kx,hx⟩:=tY (main:=main) T;obtain⟨ki,hi⟩:=Rs (main:=main) T;obtain⟨kd,JQ⟩:=Mn (main:=main) (Rd:=Rd);co_apply Exists.intro;intro known k w₀ w qg hk fq hF;co_apply Am Tryz.func90 (by rfl) rfl;simp only[Tryz.ntmps90,bh,av,cf,Nat.reduceAdd,Nat.reduceSub,Array.replicate_succ,Array.replicate_zero,List.push_toArray,List.append_toArray,List.nil_append,List.cons_append];co_apply wpC_seq T;co_reg T;co_apply pL (ten known) rfl (by rfl) rfl fq rfl;intro K w1 hK VA hE;obtain⟨tk,L_,VA⟩:∃tk,tk=id _∧w1.heap[K]?=some (.cells (ten known) tk):=⟨_,rfl,VA⟩;have EM:=hF.rely T hE;have vw:∀b,Rd b->b<w1.heap.size:=λb hb=>bg (fq b hb) hE.size
 try walk_nrm
 co_apply vB (dH known k 0) rfl (by rfl) rfl vw (by rw[Eu];kernel_rfl);intro Z w2 hZ QU ep;obtain⟨tw,WH,QU⟩:∃tw,tw=id _∧w2.heap[Z]?=some (.cells (dH known k 0) tw):=⟨_,rfl,QU⟩;have pe:=EM.rely T ep;have yz:∀b,Rd b->b<w2.heap.size:=λb hb=>bg (vw b hb) ep.size
 have QV:=ep.row VA;try walk_nrm
 co_go T (λh r=>h) hK (co_quiet T);co_apply vB (dH known k 0) rfl (by rfl) rfl yz (by rw[Eu];kernel_rfl);intro W w3 hW YC ef;replace YC:w3.heap[W]?=some (.cells (dH known k 0) tw):=by rw[WH];exact YC
 have RU:∀b,Rd b->b<w3.heap.size:=λb hb=>bg (yz b hb) ef.size;have hH:HW w₀ K Z W _ _ _ w3:=⟨pe.rely T ef,ef.row QV,ef.row QU,YC⟩;have hW0:w₀.heap.size<=W:=by have:=(gA pe).size;omega
 have hZ0:w₀.heap.size<=Z:=by have:=(gA EM).size;omega
 have n1:¬Rd W:=λh=>by have:=yz W h;omega
 have n2:¬Rd Z:=λh=>by have:=vw Z h;omega
 try walk_nrm
 co_go T HW.rely hH (co_quiet T)
 co_apply wpC_loop T (λact w'=>∃(m:Nat)(u3 u6 u8 u9 u10 u11 u12 u13 u14 yq u16 yp yn BW BU BS BQ BO BN BM:Value),m<=10∧HW w₀ K Z W (.cells (ten known) tk) (.cells (dH known k 0) tw) (.cells (dH known k m) tw) w'∧
   act=⟨#[.agg (ten known),.int .i64 (k:Nat),.pointer (some ⟨K,0,none⟩),u3,.pointer (some ⟨Z,0,none⟩),.pointer (some ⟨W,0,none⟩),u6,.int .i64 (m:Nat),u8,u9,u10,u11,u12,u13,u14,yq,u16,yp,yn,BW,BU,BS,BQ,BO,BN,BM],[]⟩)
  (λact _=>10-(intOf (act.tmps.getD 7 undef)).toNat) _ 10 ?h0 ?hN ?round
 case h0=>exact⟨0,undef,undef,undef,undef,undef,undef,undef,undef,undef,undef,undef,undef,undef,undef,undef,undef,undef,undef,undef,undef,by omega,hH,by simp⟩
 case hN=>simp[intOf]
 case round=>
  rintro act w' ⟨m,u3,u6,u8,u9,u10,u11,u12,u13,u14,yq,u16,yp,yn,BW,BU,BS,BQ,BO,BN,BM,hm,hH,rfl⟩;co_go T HW.rely hH (co_quiet T);co_split T (decide ((m:Int)<10))
  .intro hz;have ng:m<10:=by have:=of_decide_eq_true hz;omega
   have OM:=qg m ng;co_go T HW.rely hH (co_quiet T);co_apply uW T (zO Rd) (N:=kx+ki+kd+4) (S:=HS w₀ K Z W (.cells (ten known) tk) (.cells (dH known k 0) tw) tw) (by omega) (by first|kernel_rfl|rfl)
   intro w₁ hR;replace hH:=HW.rely (hH.rely hR) (Ext.draw _);clear hR;have hS:=hH.hs;have sg:∀w,HS w₀ K Z W (.cells (ten known) tk) (.cells (dH known k 0) tw) tw w->∀b,Rd b->b<w.heap.size:=λw h b hb=>by obtain⟨c,hc⟩:=h.ex;have:=(Array.getElem?_eq_some_iff.1 hc).1;have:=yz b hb;omega
   simp only[bh,av,cf,Nat.reduceAdd,an];co_applyP dR T (λ_ _ h r=>HS.rely h r) (λ_ _ _ h r=>wpC_rely T h r) (i:=0) rfl (by first|kernel_rfl|decide +kernel) (by first|kernel_rfl|decide +kernel) (by first|kernel_rfl|decide +kernel) (.inl ⟨by rfl,λ_ hw=>⟨run_eq_of ?run1,?guar1⟩⟩) hS ?rest1
   case run1=>
    intro K_ dr;skip;go_simp;exact dr
   case guar1=>
    skip;(co_quiet T)
   try walk_nrm
   co_applyP dR T (λ_ _ h r=>HS.rely h r) (λ_ _ _ h r=>wpC_rely T h r) (i:=1) rfl (by first|kernel_rfl|decide +kernel) (by first|kernel_rfl|decide +kernel) (by first|kernel_rfl|decide +kernel) (rG (by rfl) rfl rfl (λw h=>L_▸h.rk) (by kernel_rfl) (by rw[gC];kernel_rfl)) hS
   try walk_nrm
   co_applyP dR T (λ_ _ h r=>HS.rely h r) (λ_ _ _ h r=>wpC_rely T h r) (i:=2) rfl (by first|kernel_rfl|decide +kernel) (by first|kernel_rfl|decide +kernel) (by first|kernel_rfl|decide +kernel) (.inl ⟨by rfl,λ_ hw=>⟨run_eq_of ?run3,?guar3⟩⟩) hS ?rest3
   case run3=>
    intro K_ dr;skip;go_simp;exact dr
   case guar3=>
    skip;(co_quiet T)
   try walk_nrm
   co_applyP dR T (λ_ _ h r=>HS.rely h r) (λ_ _ _ h r=>wpC_rely T h r) (i:=3) rfl (by first|kernel_rfl|decide +kernel) (by first|kernel_rfl|decide +kernel) (by first|kernel_rfl|decide +kernel) (.inl ⟨by rfl,λ_ hw=>⟨run_eq_of ?run4,?guar4⟩⟩) hS ?rest4
   case run4=>
    intro K_ dr;skip;go_simp;exact dr
   case guar4=>
    skip;(co_quiet T)
   try walk_nrm
   co_applyP dR T (λ_ _ h r=>HS.rely h r) (λ_ _ _ h r=>wpC_rely T h r) (i:=5) rfl (by first|kernel_rfl|decide +kernel) (by first|kernel_rfl|decide +kernel) (by first|kernel_rfl|decide +kernel) (rG (by rfl) rfl rfl (λw h=>L_▸h.rk) (by kernel_rfl) (by rw[gC];kernel_rfl)) hS
   try walk_nrm
   co_applyP dR T (λ_ _ h r=>HS.rely h r) (λ_ _ _ h r=>wpC_rely T h r) (i:=6) rfl (by first|kernel_rfl|decide +kernel) (by first|kernel_rfl|decide +kernel) (by first|kernel_rfl|decide +kernel) (.inl ⟨by rfl,λ_ hw=>⟨run_eq_of ?run6,?guar6⟩⟩) hS ?rest6
   case run6=>
    intro K_ dr;skip;go_simp;exact dr
   case guar6=>
    skip;(co_quiet T)
   try walk_nrm
   co_applyP dR T (λ_ _ h r=>HS.rely h r) (λ_ _ _ h r=>wpC_rely T h r) (i:=7) rfl (by first|kernel_rfl|decide +kernel) (by first|kernel_rfl|decide +kernel) (by first|kernel_rfl|decide +kernel) (.inl ⟨by rfl,λ_ hw=>⟨run_eq_of ?run7,?guar7⟩⟩) hS ?rest7
   case run7=>
    intro K_ dr;skip;go_simp;exact dr
   case guar7=>
    skip;(co_quiet T)
   try walk_nrm
   have hm8:(m:Int)<10:=by omega
   co_applyP dR T (λ_ _ h r=>HS.rely h r) (λ_ _ _ h r=>wpC_rely T h r) (i:=8) rfl (by first|kernel_rfl|decide +kernel) (by first|kernel_rfl|decide +kernel) (by first|kernel_rfl|decide +kernel) (.inl ⟨by rfl,λ_ hw=>⟨run_eq_of ?run8,?guar8⟩⟩) hS ?rest8
   case run8=>
    intro K_ dr;skip;go_simp;exact dr
   case guar8=>
    skip;(rw[listed_nil (by(simp[go_sem];exact rF (show iO _ _=some 10 by kernel_rfl) ng))];exact Terms.idle T _)
   try walk_nrm
   co_applyP dR (v:=.int .i64 (known m:Nat)) T (λ_ _ h r=>HS.rely h r) (λ_ _ _ h r=>wpC_rely T h r) (i:=9) rfl (by first|kernel_rfl|decide +kernel) (by first|kernel_rfl|decide +kernel) (by first|kernel_rfl|decide +kernel) (.inl ⟨by rfl,λ_ hw=>⟨run_eq_of ?run9,?guar9⟩⟩) hS ?rest9
   case run9=>
    intro K_ dr;(have hc:=(ab _ K m _ _ _ (HS.rk hw)).trans (qC known m ng));go_simp;exact dr
   case guar9=>
    have hc:=(ab _ K m _ _ _ (HS.rk hw)).trans (qC known m ng);(refine⟨⟨rfl,rfl⟩,λ_ _=>rfl,?_⟩;co_evs (exact⟨_,rfl,rfl,by simp⟩))
   try walk_nrm
   have SV:=Fld.dist_lt known m k 10;have qh:=Fld.dist_lt known m (known m) 10;have b5:=Fld.inv_lt (Fld.dist known m (known m) 10);co_applyP nQ T (λ_ _ h r=>HS.rely h r) (λ_ _ _ h r=>wpC_rely T h r) (i:=4) rfl (by first|kernel_rfl|decide +kernel) (by first|kernel_rfl|decide +kernel) (by first|kernel_rfl|decide +kernel) (by rfl) rfl (by simp[Act.eval]) (by omega) (λw h=>(eL.of_callsC T (JQ known m k w w qg ng hk (sg w h) (.refl w))).mono λv w' q=>⟨q.1,h.rely (gA q.2),gA q.2⟩) hS
   try walk_nrm
   co_applyP nQ T (λ_ _ h r=>HS.rely h r) (λ_ _ _ h r=>wpC_rely T h r) (i:=10) rfl (by first|kernel_rfl|decide +kernel) (by first|kernel_rfl|decide +kernel) (by first|kernel_rfl|decide +kernel) (by rfl) rfl (by simp[Act.eval]) (by omega) (λw h=>(eL.of_callsC T (JQ known m (known m) w w qg ng OM (sg w h) (.refl w))).mono λv w' q=>⟨q.1,h.rely (gA q.2),gA q.2⟩) hS
   try walk_nrm
   co_applyP nQ T (λ_ _ h r=>HS.rely h r) (λ_ _ _ h r=>wpC_rely T h r) (i:=11) rfl (by first|kernel_rfl|decide +kernel) (by first|kernel_rfl|decide +kernel) (by first|kernel_rfl|decide +kernel) (by rfl) rfl (by simp[Act.eval]) (by omega) (λw h=>(eL.of_callsC T (hi _ w w qh (.refl w))).mono λv w' q=>⟨q.1,h.rely (gA q.2),gA q.2⟩) hS
   try walk_nrm
   co_applyP nQ T (λ_ _ h r=>HS.rely h r) (λ_ _ _ h r=>wpC_rely T h r) (i:=12) rfl (by first|kernel_rfl|decide +kernel) (by first|kernel_rfl|decide +kernel) (by first|kernel_rfl|decide +kernel) (by rfl) rfl (by simp[Act.eval]) (by omega) (λw h=>(eL.of_callsC T (hx _ _ w w SV b5 (.refl w))).mono λv w' q=>⟨q.1,h.rely (gA q.2),gA q.2⟩) hS
   try walk_nrm
   co_applyP dR T (λ_ _ h r=>HS.rely h r) (λ_ _ _ h r=>wpC_rely T h r) (i:=13) rfl (by first|kernel_rfl|decide +kernel) (by first|kernel_rfl|decide +kernel) (by first|kernel_rfl|decide +kernel) (.inl ⟨by rfl,λ_ hw=>⟨run_eq_of ?run14,?guar14⟩⟩) hS ?rest14
   case run14=>
    intro K_ dr;skip;go_simp;exact dr
   case guar14=>
    skip;(rw[listed_nil (by(simp[go_sem];exact rF (show iO _ _=some 10 by kernel_rfl) ng))];exact Terms.idle T _)
   try walk_nrm
   co_applyP Dc (j:=14) (by first|kernel_rfl|decide +kernel) rfl (by rfl) rfl rfl rfl hH.rw (by rw[oJ];exact ng) (by kernel_rfl) n1
   intro w₂ hR;have ei:=Wl known k m ng;unfold Fld.wgt at ei;rw[ei];clear ei;have h2:=hH.rely hR;have nK:K≠W:=by have:=(Array.getElem?_eq_some_iff.1 QV).1;omega
   have nZ:Z≠W:=by have:=(Array.getElem?_eq_some_iff.1 QU).1;omega
   have ua:HW w₀ K Z W (.cells (ten known) tk) (.cells (dH known k 0) tw) (.cells (dH known k (m+1)) tw) (w₂.setRow W (dH known k (m+1))):=
    ⟨.inr ((gA h2.since).setRow hW0 _),(setRow_other _ _ _ _ nK).trans h2.rk,(setRow_other _ _ _ _ nZ).trans h2.rz,setRow_heap _ _ _ _ _ _ h2.rw⟩
   clear hH hS h2 hR;generalize w₂.setRow W (dH known k (m+1))=w₃ at ua;co_apply And.intro ua.hs;co_apply xP (by first|kernel_rfl|decide +kernel)
   try walk_nrm
   co_then;co_go T HW.rely ua (co_quiet T);have e:IntKind.i64.wrap ((m:Int)+1)=((m+1:Nat):Int):=by rw[IntKind.wrap_i64];omega
   rw[e];exact⟨⟨m+1,u3,_,_,_,_,_,_,_,_,_,_,_,_,_,_,_,_,_,_,_,by omega,ua,rfl⟩,by simp[intOf];omega⟩
  .intro hz;have h0:m=10:=by
    have:=of_decide_eq_false hz;omega
   subst h0;co_go T HW.rely hH (co_quiet T);co_apply rL rfl (by rfl) rfl rfl (WH▸hH.rw) (by kernel_rfl) (by rw[oJ];kernel_rfl);intro w₂ hR;replace hH:=hH.rely hR;clear hR;try walk_nrm
   co_apply Jx rfl (by rfl) rfl rfl rfl hH.rz (by rw[oJ];kernel_rfl) (by rw[oJ,oJ]) (Wn known k 10) n2;intro w₃ hR;have h2:=hH.rely hR;have nK:K≠Z:=by have:=(Array.getElem?_eq_some_iff.1 VA).1;omega
   have nW:W≠Z:=by have:=(Array.getElem?_eq_some_iff.1 QU).1;omega
   have ua:HW w₀ K Z W (.cells (ten known) tk) (.cells (dH known k 10) tw) (.cells (dH known k 10) tw) (w₃.setRow Z (dH known k 10)):=
    ⟨.inr ((gA h2.since).setRow hZ0 _),(setRow_other _ _ _ _ nK).trans h2.rk,setRow_heap _ _ _ _ _ _ h2.rz,(setRow_other _ _ _ _ nW).trans h2.rw⟩
   clear hH h2 hR;generalize w₃.setRow Z (dH known k 10)=w₄ at ua;try walk_nrm
   co_go T HW.rely ua (co_quiet T);exact⟨rfl,Ou (by rfl) (by rfl) (WH▸ua.rz) (by kernel_rfl) (by rw[oJ];kernel_rfl) (λw₅ hR=>⟨rfl,(ua.rely hR).since⟩)⟩
end
end Go.Proofs.YtpiefebngnlfoaaGreatDoor
namespace Go.Vw
open Go.Conc
section
variable {P:Program}{main:Bool}{Rd:Nat->Prop}{fn:FuncId}{ops:Array Oper}{S:World->Prop}
def kF(P:Program)(t:TypeId):Bool:=
 match P.underlying t with
 |some (.slice e)=>
  match P.info? e with
  |some i=>i.size==1
  |_=>false
 |_=>false
theorem Jg{t:TypeId}(h:kF P t=true):∃e inf,P.underlying t=some (.slice e)∧P.info? e=some inf∧inf.size=1:=by
 unfold kF at h;split at h
 .split at h
  .exact⟨_,_,by assumption,by assumption,by simpa using h⟩
  .cases h
 .cases h
theorem nN{t:TypeId}{L c m:Nat}{ad:Addr}{w:World}{es:Array Event}(hu:kF P t=true)(hm:m<L):(Instr.indexAt t (.slice (some ad) L c) (.int .i64 (m:Nat))).events P w es=es:=by
 obtain⟨e,inf,hu,hq,hs⟩:=Jg hu;have hb:(0:Int)<=(m:Int)∧(m:Int)<(L:Int):=by omega
 simp[Instr.indexAt,asIntOf,Sem.events_bind,cw hu,hm,hb,sizeOf,typeInfo,hq]
theorem Wb{md:Region.Mode}{Q:Exit->Act->World->Prop}{N:Nat}{fuel:Nat}{l:Array Bool}{a:Act}{w:World}{o:Oper}{j:Nat}{v:Value}(T:Terms Ext (DW Rd))(zc:∀x y,S x->Ext x y->S y)(EJ:∀a x y,Q .normal a x->Ext x y->Q .normal a y)
  (hr:Region.ready md ops l=[j]) (ho:ops[j]?=some o) (hw:Region.wanted o (yielded ops a.tmps)=true) (hy:∀w₁,Ext w w₁->(execOp a.eval o).run P w₁ = .ok (.value v) w₁∧DW Rd w₁ w₁ (listed P fn a o w₁)) (hS:S w)
  (ee:dU P main Ext (DW Rd) fn md ops Q S N fuel (l.setIfInBounds j true) (a.put o.dst v) w):dU P main Ext (DW Rd) fn md ops Q S N (fuel+1) l a w:=by
 refine yJ hr (by simp) λi' ft=>?_
 obtain rfl:i'=j:=by simpa using ft
 unfold gH;simp only[ho,hw,if_true];refine .inl λw₁ hR=>?_
 obtain⟨h1,h2⟩:=hy w₁ hR;rw[h1];exact⟨h2,zc _ _ hS hR,dU.rely T zc EJ _ _ _ _ _ ee hR⟩
end
end Go.Vw
namespace Go.Proofs.YtpiefebngnlfoaaGreatDoor
open Go.RowKit Go.Conc Go.Vw
namespace Fld
def comb(wt:Nat->Nat)(x:Nat->Nat->Nat):Nat->Nat->Nat
 |0,_=>0
 |m+1,i=>comb wt x m i^^^mul (wt m) (x m i)
theorem comb_lt{wt:Nat->Nat}(x:Nat->Nat->Nat)(h:∀i,wt i<256)(m i:Nat):comb wt x m i<256:=by
 induction m with
 |zero=>exact(by decide:0<256)
 |succ m ih=>exact xor_lt ih (mul_lt (h m) _)
end Fld
def aE(n:Nat)(f:Nat->Nat):Array Value:=(Array.range n).map λi=>.int .u8 ((f i:Nat):Int)
theorem eB(n:Nat)(f:Nat->Nat):(aE n f).size=n:=by simp[aE]
theorem eE(n:Nat)(f:Nat->Nat)(i:Nat)(h:i<n):(aE n f)[i]?=some (.int .u8 (f i:Nat)):=by simp[aE,h]
theorem Cy(n:Nat)(f:Nat->Nat)(i:Nat)(y:Nat):(aE n f).setIfInBounds i (.int .u8 (y:Nat))=aE n λc=>if c=i then y else f c:=by
 apply au;intro c;rw[aj];by_cases e:i=c
 .subst e;by_cases hi:i<n<;>simp[aE,hi]
 .rw[ah e];by_cases hi:c<n<;>simp[aE,hi,show ¬c=i from λx=>e x.symm]
theorem gP{n:Nat}{f g:Nat->Nat}(h:∀i,i<n->f i=g i):aE n f=aE n g:=by
 apply au;intro c;by_cases hi:c<n
 .rw[eE n f c hi,eE n g c hi,h c hi]
 .rw[af (by rw[eB];omega),af (by rw[eB];omega)]
def fU(RB:Nat->Nat)(n:Nat):Array Value:=(Array.range 10).map λj=>.slice (some ⟨RB j,0,none⟩) n n
theorem Ay(RB:Nat->Nat)(n:Nat):(fU RB n).size=10:=by simp[fU]
theorem Nb(RB:Nat->Nat)(n i:Nat)(h:i<10):(fU RB n)[i]?=some (.slice (some ⟨RB i,0,none⟩) n n):=by simp[fU,h]
def lM(wt:Nat->Nat):Array Value:=aE 10 wt
def gY(wt:Nat->Nat)(x:Nat->Nat->Nat)(m i c:Nat):Nat:=if c<i then Fld.comb wt x (m+1) c else Fld.comb wt x m c
structure HK(w₀ : World)(RB:Nat->Nat)(x:Nat->Nat->Nat)(n:Nat)(wt:Nat->Nat)(PB B5:Nat)(tb tw:TypeId)(w:World):Prop where
 rows:∀j,j<10->w.heap[RB j]?=some (.cells (aE n (x j)) tb)
 box:w.heap[B5]?=some (.cells (lM wt) tw)
 place:∃c,w.heap[PB]?=some (.cells c tb)
 keep:∀b,b≠PB->∀o,w₀.heap[b]?=some o->w.heap[b]?=some o
theorem HK.rely{w₀ : World}{RB:Nat->Nat}{x:Nat->Nat->Nat}{n:Nat}{wt:Nat->Nat}{PB B5:Nat}{tb tw:TypeId}{w w₁ : World}(h:HK w₀ RB x n wt PB B5 tb tw w)(r:Ext w w₁):HK w₀ RB x n wt PB B5 tb tw w₁:=⟨λj hj=>r.row (h.rows j hj),r.row h.box,h.place.imp λ_=>r.row,λb hb o ho=>r.row (h.keep b hb o ho)⟩
structure HP(w₀ : World)(RB:Nat->Nat)(x:Nat->Nat->Nat)(n:Nat)(wt:Nat->Nat)(PB B5:Nat)(tb tw:TypeId)(m i:Nat)(w:World):Prop where
 hk:HK w₀ RB x n wt PB B5 tb tw w
 place:w.heap[PB]?=some (.cells (aE n (gY wt x m i)) tb)
theorem HP.rely{w₀ : World}{RB:Nat->Nat}{x:Nat->Nat->Nat}{n:Nat}{wt:Nat->Nat}{PB B5:Nat}{tb tw:TypeId}{m i:Nat}{w w₁ : World}(h:HP w₀ RB x n wt PB B5 tb tw m i w)(r:Ext w w₁):HP w₀ RB x n wt PB B5 tb tw m i w₁:=⟨h.hk.rely r,r.row h.place⟩
theorem Na(wt:Nat->Nat)(x:Nat->Nat->Nat)(m n:Nat):aE n (gY wt x m n)=aE n (gY wt x (m+1) 0):=
 gP λi hi=>by simp[gY,hi]
theorem Mz(wt:Nat->Nat)(x:Nat->Nat->Nat)(m i n:Nat):(aE n (gY wt x m i)).setIfInBounds i (.int .u8 ((Fld.comb wt x m i^^^Fld.mul (wt m) (x m i):Nat):Int))=aE n (gY wt x m (i+1)):=by
 rw[Cy];refine gP λc hc=>?_;by_cases e:c=i
 .subst e;simp[gY,Fld.comb]
 .simp only[ah e,gY,show c<i+1↔c<i by omega]
section
variable {main:Bool}{Rd:Nat->Prop}
theorem Uj:∃k,∀(tb:TypeId)(RB:Nat->Nat)(x:Nat->Nat->Nat)(n:Nat)(wt:Nat->Nat)(PB:Nat)(w:World),n<=400->(∀i,wt i<256)->(∀j i,x j i<256)->(∀b,Rd b->b<w.heap.size)->¬Rd PB->(∀j,j<10->Rd (RB j))->(∀j,j<10->w.heap[RB j]?=some (.cells (aE n (x j)) tb))->w.heap[PB]?=some (.cells (aE n λ_=>0) tb)->eL Tryz.prog main Ext (DW Rd) 89 #[.slice (some ⟨PB,0,none⟩) n n,.agg (fU RB n),.agg (lM wt)] k w λv w'=>w'.heap[PB]?=some (.cells (aE n (Fld.comb wt x 10)) tb)∧∀b,b≠PB->∀o,w.heap[b]?=some o->w'.heap[b]?=some o:=by
 have T:=fM Rd;obtain⟨kx,hx⟩:=tY (main:=main) T;co_apply Exists.intro;intro tb RB x n wt PB w hn KV pg fq qm OU vn jw;co_apply Am Tryz.func89 (by rfl) rfl;simp only[Tryz.ntmps89,bh,av,cf,Nat.reduceAdd,Nat.reduceSub,Array.replicate_succ,Array.replicate_zero,List.push_toArray,List.append_toArray,List.nil_append,List.cons_append];co_apply wpC_seq T;co_reg T;co_apply pL (fU RB n) rfl (by rfl) rfl fq rfl;intro B4 w1 s6 JC hE;obtain⟨t4,et4,JC⟩:∃t4,t4=id _∧w1.heap[B4]?=some (.cells (fU RB n) t4):=⟨_,rfl,JC⟩;have vw:∀b,Rd b->b<w1.heap.size:=λb hb=>bg (fq b hb) hE.size
 try walk_nrm
 co_apply pL (lM wt) rfl (by rfl) rfl vw rfl;intro B5 w2 r_ QX ep;obtain⟨tw,WH,QX⟩:∃tw,tw=id _∧w2.heap[B5]?=some (.cells (lM wt) tw):=⟨_,rfl,QX⟩;have hPlt:PB<w.heap.size:=(Array.getElem?_eq_some_iff.1 jw).1;have n5:B5≠PB:=by have:=hE.size;omega
 have nR:∀j,j<10->RB j≠PB:=λj hj e=>qm (e▸OU j hj);have hH:HP w RB x n wt PB B5 tb tw 0 0 w2:=by exact⟨⟨λj hj=>ep.row (hE.row (vn j hj)),QX,⟨_,ep.row (hE.row jw)⟩,λb _ o ho=>ep.row (hE.row ho)⟩,(ep.row (hE.row jw)).trans (by rw[gP (g:=gY wt x 0 0) λi _=>by simp[gY,Fld.comb]])⟩
 have h4:w2.heap[B4]?=some (.cells (fU RB n) t4):=ep.row JC;try walk_nrm
 co_go T (λh r=>h) hn (co_quiet T);co_apply rL rfl (by rfl) rfl rfl (et4▸h4) (by kernel_rfl) (by rw[Ay];kernel_rfl);intro w3 hR;replace hH:=hH.rely hR;clear hR;try walk_nrm
 co_go T HP.rely hH (co_quiet T)
 co_apply wpC_loop T (λact w'=>∃(m:Nat)(u3 u6 u7 u8 u11 u12 u13 u14 yq u16 yp yn BW BU BS BQ BO BN BM IK PN PM PK PI PH u32 PG PF:Value),m<=10∧HP w RB x n wt PB B5 tb tw m 0 w'∧
   act=⟨#[.slice (some ⟨PB,0,none⟩) n n,.agg (fU RB n),.agg (lM wt),u3,.pointer (some ⟨B4,0,none⟩),.pointer (some ⟨B5,0,none⟩),u6,u7,u8,.agg (fU RB n),.int .i64 (m:Nat),u11,u12,u13,u14,yq,u16,yp,yn,BW,BU,BS,BQ,BO,BN,BM,IK,PN,PM,PK,PI,PH,u32,PG,PF],[]⟩)
  (λact _=>10-(intOf (act.tmps.getD 10 undef)).toNat) _ 10 ?h0 ?hN ?round
 case h0=>exact⟨0,undef,undef,undef,undef,undef,undef,undef,undef,undef,undef,undef,undef,undef,undef,undef,undef,undef,undef,undef,undef,undef,undef,undef,undef,undef,undef,undef,undef,by omega,hH,by simp⟩
 case hN=>simp[intOf]
 case round=>
  rintro act w' ⟨m,u3,u6,u7,u8,u11,u12,u13,u14,yq,u16,yp,yn,BW,BU,BS,BQ,BO,BN,BM,IK,PN,PM,PK,PI,PH,u32,PG,PF,hm,hH,rfl⟩;co_go T HP.rely hH (co_quiet T);co_split T (decide ((m:Int)<10))
  .intro hz;have ng:m<10:=by have:=of_decide_eq_true hz;omega
   co_go T HP.rely hH (co_quiet T);co_apply wN T rfl (by rfl) rfl rfl rfl (show iO _ _=some 10 by kernel_rfl) ng (Nb RB n m ng);intro w₃ hR;replace hH:=hH.rely hR;clear hR;try walk_nrm
   co_go T HP.rely hH (co_quiet T)
   co_apply wpC_loop T (λact w'=>∃(i:Nat)(u3 u8 u11 u12 u13 u14 yp yn BW BU BS BQ BO BN BM IK PN PM PK PI PH u32 PG PF:Value),i<=n∧HP w RB x n wt PB B5 tb tw m i w'∧
     act=⟨#[.slice (some ⟨PB,0,none⟩) n n,.agg (fU RB n),.agg (lM wt),u3,.pointer (some ⟨B4,0,none⟩),.pointer (some ⟨B5,0,none⟩),.int .i64 (m:Nat),.slice (some ⟨RB m,0,none⟩) n n,u8,.agg (fU RB n),.int .i64 (m:Nat),u11,u12,u13,u14,.int .i64 (n:Nat),.int .i64 (i:Nat),yp,yn,BW,BU,BS,BQ,BO,BN,BM,IK,PN,PM,PK,PI,PH,u32,PG,PF],[]⟩)
    (λact _=>n-(intOf (act.tmps.getD 16 undef)).toNat) _ 400 ?h0 ?hN ?round
   case h0=>exact⟨0,u3,_,_,_,_,_,_,_,_,_,_,_,_,_,_,_,_,_,_,_,_,_,_,_,by omega,hH,rfl⟩
   case hN=>simp[intOf];omega
   case round=>
    rintro act w' ⟨i,u3,u8,u11,u12,u13,u14,yp,yn,BW,BU,BS,BQ,BO,BN,BM,IK,PN,PM,PK,PI,PH,u32,PG,PF,hi,hH,rfl⟩;co_go T HP.rely hH (co_quiet T);co_split T (decide ((i:Int)<(n:Int)))
    .intro hz;have qb:i<n:=by have:=of_decide_eq_true hz;omega
     have pd:(i:Int)<(n:Int):=by omega
     have RR:(m:Int)<10:=by omega
     co_go T HP.rely hH (co_quiet T);co_apply uW T (zO Rd) (N:=kx+4) (S:=HK w RB x n wt PB B5 tb tw) (by omega) (by first|kernel_rfl|rfl)
     intro w₁ hR;replace hH:=HP.rely (hH.rely hR) (Ext.draw _);clear hR;have hS:=hH.hk;simp only[bh,av,cf,Nat.reduceAdd,an];co_applyP dR T (λ_ _ h r=>HK.rely h r) (λ_ _ _ h r=>wpC_rely T h r) (i:=0) rfl (by first|kernel_rfl|decide +kernel) (by first|kernel_rfl|decide +kernel) (by first|kernel_rfl|decide +kernel) (.inl ⟨by rfl,λ_ hw=>⟨run_eq_of ?run1,?guar1⟩⟩) hS ?rest1
     case run1=>
      intro K_ dr;skip;go_simp;exact dr
     case guar1=>
      skip;(co_quiet T)
     try walk_nrm
     co_applyP dR T (λ_ _ h r=>HK.rely h r) (λ_ _ _ h r=>wpC_rely T h r) (i:=1) rfl (by first|kernel_rfl|decide +kernel) (by first|kernel_rfl|decide +kernel) (by first|kernel_rfl|decide +kernel) (.inl ⟨by rfl,λ_ hw=>⟨run_eq_of ?run2,?guar2⟩⟩) hS ?rest2
     case run2=>
      intro K_ dr;skip;go_simp;exact dr
     case guar2=>
      skip;(co_quiet T)
     try walk_nrm
     co_applyP dR T (λ_ _ h r=>HK.rely h r) (λ_ _ _ h r=>wpC_rely T h r) (i:=2) rfl (by first|kernel_rfl|decide +kernel) (by first|kernel_rfl|decide +kernel) (by first|kernel_rfl|decide +kernel) (.inl ⟨by rfl,λ_ hw=>⟨run_eq_of ?run3,?guar3⟩⟩) hS ?rest3
     case run3=>
      intro K_ dr;skip;go_simp;exact dr
     case guar3=>
      skip;(rw[listed_nil (by(simp[go_sem];exact nN (show kF _ _=true by kernel_rfl) qb))];exact Terms.idle T _)
     try walk_nrm
     co_applyP dR T (λ_ _ h r=>HK.rely h r) (λ_ _ _ h r=>wpC_rely T h r) (i:=4) rfl (by first|kernel_rfl|decide +kernel) (by first|kernel_rfl|decide +kernel) (by first|kernel_rfl|decide +kernel) (.inl ⟨by rfl,λ_ hw=>⟨run_eq_of ?run4,?guar4⟩⟩) hS ?rest4
     case run4=>
      intro K_ dr;skip;go_simp;exact dr
     case guar4=>
      skip;(co_quiet T)
     try walk_nrm
     co_applyP dR T (λ_ _ h r=>HK.rely h r) (λ_ _ _ h r=>wpC_rely T h r) (i:=5) rfl (by first|kernel_rfl|decide +kernel) (by first|kernel_rfl|decide +kernel) (by first|kernel_rfl|decide +kernel) (.inl ⟨by rfl,λ_ hw=>⟨run_eq_of ?run5,?guar5⟩⟩) hS ?rest5
     case run5=>
      intro K_ dr;skip;go_simp;exact dr
     case guar5=>
      skip;(rw[listed_nil (by(simp[go_sem];exact rF (show iO _ _=some 10 by kernel_rfl) ng))];exact Terms.idle T _)
     try walk_nrm
     co_applyP dR (v:=.int .u8 (wt m:Nat)) T (λ_ _ h r=>HK.rely h r) (λ_ _ _ h r=>wpC_rely T h r) (i:=6) rfl (by first|kernel_rfl|decide +kernel) (by first|kernel_rfl|decide +kernel) (by first|kernel_rfl|decide +kernel) (.inl ⟨by rfl,λ_ hw=>⟨run_eq_of ?run6,?guar6⟩⟩) hS ?rest6
     case run6=>
      intro K_ dr;(have hc:=(ab _ B5 m _ _ _ (HK.box hw)).trans (eE 10 wt m ng));go_simp;exact dr
     case guar6=>
      have hc:=(ab _ B5 m _ _ _ (HK.box hw)).trans (eE 10 wt m ng);(refine⟨⟨rfl,rfl⟩,λ_ _=>rfl,?_⟩;co_evs (exact⟨_,rfl,rfl,by simp⟩))
     try walk_nrm
     co_applyP dR T (λ_ _ h r=>HK.rely h r) (λ_ _ _ h r=>wpC_rely T h r) (i:=7) rfl (by first|kernel_rfl|decide +kernel) (by first|kernel_rfl|decide +kernel) (by first|kernel_rfl|decide +kernel) (.inl ⟨by rfl,λ_ hw=>⟨run_eq_of ?run7,?guar7⟩⟩) hS ?rest7
     case run7=>
      intro K_ dr;skip;go_simp;exact dr
     case guar7=>
      skip;(co_quiet T)
     try walk_nrm
     co_applyP dR T (λ_ _ h r=>HK.rely h r) (λ_ _ _ h r=>wpC_rely T h r) (i:=8) rfl (by first|kernel_rfl|decide +kernel) (by first|kernel_rfl|decide +kernel) (by first|kernel_rfl|decide +kernel) (.inl ⟨by rfl,λ_ hw=>⟨run_eq_of ?run8,?guar8⟩⟩) hS ?rest8
     case run8=>
      intro K_ dr;skip;go_simp;exact dr
     case guar8=>
      skip;(co_quiet T)
     try walk_nrm
     co_applyP dR T (λ_ _ h r=>HK.rely h r) (λ_ _ _ h r=>wpC_rely T h r) (i:=9) rfl (by first|kernel_rfl|decide +kernel) (by first|kernel_rfl|decide +kernel) (by first|kernel_rfl|decide +kernel) (.inl ⟨by rfl,λ_ hw=>⟨run_eq_of ?run9,?guar9⟩⟩) hS ?rest9
     case run9=>
      intro K_ dr;skip;go_simp;exact dr
     case guar9=>
      skip;(rw[listed_nil (by(simp[go_sem];exact nN (show kF _ _=true by kernel_rfl) qb))];exact Terms.idle T _)
     try walk_nrm
     co_applyP dR (v:=.int .u8 (x m i:Nat)) T (λ_ _ h r=>HK.rely h r) (λ_ _ _ h r=>wpC_rely T h r) (i:=10) rfl (by first|kernel_rfl|decide +kernel) (by first|kernel_rfl|decide +kernel) (by first|kernel_rfl|decide +kernel) (.inl ⟨by rfl,λ_ hw=>⟨run_eq_of ?run10,?guar10⟩⟩) hS ?rest10
     case run10=>
      intro K_ dr;(have hc:=(ab _ (RB m) i _ _ _ (HK.rows hw m ng)).trans (eE n (x m) i qb));go_simp;exact dr
     case guar10=>
      have hc:=(ab _ (RB m) i _ _ _ (HK.rows hw m ng)).trans (eE n (x m) i qb);(refine⟨⟨rfl,rfl⟩,λ_ _=>rfl,?_⟩;co_evs (exact⟨_,rfl,rfl,by simp⟩))
     try walk_nrm
     have IW:=KV m;have ub:=pg m i;co_applyP nQ T (λ_ _ h r=>HK.rely h r) (λ_ _ _ h r=>wpC_rely T h r) (i:=11) rfl (by first|kernel_rfl|decide +kernel) (by first|kernel_rfl|decide +kernel) (by first|kernel_rfl|decide +kernel) (by rfl) rfl (by simp[Act.eval]) (by omega) (λw h=>(eL.of_callsC T (hx _ _ w w IW ub (.refl w))).mono λv w' q=>⟨q.1,h.rely (gA q.2),gA q.2⟩) hS
     try walk_nrm
     co_applyP Wb (j:=3) (v:=.int .u8 (Fld.comb wt x m i:Nat)) T (λ_ _ h r=>HK.rely h r) (λ_ _ _ h r=>wpC_rely T h r) (by first|kernel_rfl|decide +kernel) rfl (by rfl) (λw hR=>⟨run_eq_of ?runL,?guarL⟩) hS ?restL
     case runL=>
      intro K_ dr;have hc:=(ab _ PB i _ _ _ (hH.rely hR).place).trans (eE n _ i qb);simp only[gY,Nat.lt_irrefl,if_false]at hc;go_simp;exact dr
     case guarL=>
      have hc:=(ab _ PB i _ _ _ (hH.rely hR).place).trans (eE n _ i qb);(refine⟨⟨rfl,rfl⟩,λ_ _=>rfl,?_⟩;co_evs (exact⟨_,rfl,rfl,by simp⟩))
     try walk_nrm
     have OP:=Fld.comb_lt x KV m i;have MS:=Fld.mul_lt IW (x m i);co_applyP dR T (λ_ _ h r=>HK.rely h r) (λ_ _ _ h r=>wpC_rely T h r) (i:=12) rfl (by first|kernel_rfl|decide +kernel) (by first|kernel_rfl|decide +kernel) (by first|kernel_rfl|decide +kernel) (.inl ⟨by rfl,λ_ hw=>⟨run_eq_of ?run12,?guar12⟩⟩) hS ?rest12
     case run12=>
      intro K_ dr;skip;go_simp;exact dr
     case guar12=>
      skip;(co_quiet T)
     try walk_nrm
     rw[u8_xor_nat _ _ OP MS];co_applyP dR T (λ_ _ h r=>HK.rely h r) (λ_ _ _ h r=>wpC_rely T h r) (i:=13) rfl (by first|kernel_rfl|decide +kernel) (by first|kernel_rfl|decide +kernel) (by first|kernel_rfl|decide +kernel) (.inl ⟨by rfl,λ_ hw=>⟨run_eq_of ?run13,?guar13⟩⟩) hS ?rest13
     case run13=>
      intro K_ dr;skip;go_simp;exact dr
     case guar13=>
      skip;(rw[listed_nil (by(simp[go_sem];exact nN (show kF _ _=true by kernel_rfl) qb))];exact Terms.idle T _)
     try walk_nrm
     co_applyP Dc (j:=14) (by first|kernel_rfl|decide +kernel) rfl (by rfl) rfl rfl rfl hH.place (by rw[eB];exact qb) (by kernel_rfl) qm
     intro w₂ hR;rw[Mz];have h2:=hH.rely hR;have ua:HP w RB x n wt PB B5 tb tw m (i+1) (w₂.setRow PB (aE n (gY wt x m (i+1)))):=
      ⟨⟨λj hj=>(setRow_other _ _ _ _ (nR j hj)).trans (h2.hk.rows j hj),(setRow_other _ _ _ _ n5).trans h2.hk.box,⟨_,setRow_heap _ _ _ _ _ _ h2.place⟩,λb hb o ho=>(setRow_other _ _ _ _ hb).trans (h2.hk.keep b hb o ho)⟩,setRow_heap _ _ _ _ _ _ h2.place⟩
     clear hH hS h2 hR;generalize w₂.setRow PB (aE n (gY wt x m (i+1)))=w₃ at ua;co_apply And.intro ua.hk;co_apply xP (by first|kernel_rfl|decide +kernel)
     try walk_nrm
     co_then;co_go T HP.rely ua (co_quiet T);have e:IntKind.i64.wrap ((i:Int)+1)=((i+1:Nat):Int):=by rw[IntKind.wrap_i64];omega
     rw[e];exact⟨⟨i+1,u3,_,_,_,_,_,_,_,_,_,_,_,_,_,_,_,_,_,_,_,_,_,_,_,by omega,ua,rfl⟩,by simp[intOf];omega⟩
    .intro hz;have h0:i=n:=by
      have:=of_decide_eq_false hz;omega
     have K6:HP w RB x n wt PB B5 tb tw (m+1) 0 _:=⟨hH.hk,by have:=hH.place;rw[h0,Na]at this;exact this⟩;clear hH;co_go T HP.rely K6 (co_quiet T);have e:IntKind.i64.wrap ((m:Int)+1)=((m+1:Nat):Int):=by rw[IntKind.wrap_i64];omega
     rw[e];exact⟨⟨m+1,u3,_,_,_,_,_,_,_,_,_,_,_,_,_,_,_,_,_,_,_,_,_,_,_,_,_,_,_,by omega,K6,rfl⟩,by simp[intOf];omega⟩
  .intro hz;have h0:m=10:=by
    have:=of_decide_eq_false hz;omega
   subst h0;co_go T HP.rely hH (co_quiet T);refine⟨rfl,Ot (by rfl) λv w₅ hR=>?_⟩;refine⟨?_,(hH.rely hR).hk.keep⟩;rw[(hH.rely hR).place,gP (g:=Fld.comb wt x 10) λi _=>by simp[gY]]
end
end Go.Proofs.YtpiefebngnlfoaaGreatDoor
namespace Go.Vw
open Go.Conc
section
variable {P:Program}{main:Bool}{R:World->World->Prop}{D:World->World->Array Event->Prop}{fn:FuncId}{ops:Array Oper}{S:World->Prop}
theorem Kd{md:Region.Mode}{Q:Exit->Act->World->Prop}{N:Nat}{fuel:Nat}{l:Array Bool}{a:Act}{w:World}{o:Oper}{j:Nat}{f:FuncId}{args:Array Operand}{gq:Array TypeId}{nf:Nat}{vs:Array Value}{Post:Value->World->Prop}(hr:Region.ready md ops l=[j])(ho:ops[j]?=some o)(hw:Region.wanted o (yielded ops a.tmps)=true)
  (dm:o.op=.call {callee:=.value (.func f),args,argTypes:=gq}) (qe:args.map a.eval=vs) (hN:nf+3<=N) (jm:eL P main R D f vs nf w Post)
  (ee:∀v w',Post v w'->S w'∧dU P main R D fn md ops Q S N fuel (l.setIfInBounds j true) (a.put o.dst v) w'):dU P main R D fn md ops Q S N (fuel+1) l a w:=by
 refine yJ hr (by simp) λi' ft=>?_
 obtain rfl:i'=j:=by simpa using ft
 unfold gH;simp only[ho,hw,if_true];exact .inr ⟨f,args,gq,nf,Post,dm,hN,by rw[qe];exact jm,ee⟩
end
def jT:Option Code->Code
 |some (.seq _ c)=>c
 |_=>.skip
end Go.Vw
namespace Go.Proofs.YtpiefebngnlfoaaGreatDoor
open Go.RowKit Go.Conc Go.Vw
theorem Td(known:Nat->Nat)(k:Nat):dH known k 10=lM (Fld.wgt known k):=by apply au;intro i;by_cases hi:i<10<;>simp[dH,lM,aE,hi]
theorem Hn(known:Nat->Nat)(k i:Nat):Fld.wgt known k i<256:=Fld.mul_lt (Fld.dist_lt _ _ _ _) _
structure HB(Rd:Nat->Prop)(known:Nat->Nat)(k:Nat)(RB:Nat->Nat)(n PB BP BR BK BC:Nat)(tp tr tk tc:TypeId)(x:Nat->Nat->Nat)(tb:TypeId)(w:World):Prop where
 bp:w.heap[BP]?=some (.cells #[.slice (some ⟨PB,0,none⟩) n n] tp)
 br:w.heap[BR]?=some (.cells (fU RB n) tr)
 bk:w.heap[BK]?=some (.cells (ten known) tk)
 bc:w.heap[BC]?=some (.cells #[.int .i64 (k:Nat)] tc)
 rows:∀j,j<10->w.heap[RB j]?=some (.cells (aE n (x j)) tb)
 low:∀b,Rd b->b<w.heap.size
theorem HB.rely{Rd:Nat->Prop}{known:Nat->Nat}{k:Nat}{RB:Nat->Nat}{n PB BP BR BK BC:Nat}{tp tr tk tc:TypeId}{x:Nat->Nat->Nat}{tb:TypeId}{w w₁ : World}(h:HB Rd known k RB n PB BP BR BK BC tp tr tk tc x tb w)(r:Ext w w₁):HB Rd known k RB n PB BP BR BK BC tp tr tk tc x tb w₁:=
 ⟨r.row h.bp,r.row h.br,r.row h.bk,r.row h.bc,λj hj=>r.row (h.rows j hj),λb hb=>bg (h.low b hb) r.size⟩
section
variable {main:Bool}{Rd:Nat->Prop}
theorem S0:∃N,∀(tb tp tr tk tc:TypeId)(known:Nat->Nat)(k:Nat)(RB:Nat->Nat)(x:Nat->Nat->Nat)(n PB BP BR BK BC:Nat)(t0:Value)(ds:List Deferred)(w:World),(∀i,i<10->known i<14)->k<14->n<=400->(∀j i,x j i<256)->¬Rd PB->(∀j,j<10->Rd (RB j))->Rd BP->Rd BR->Rd BK->Rd BC->HB Rd known k RB n PB BP BR BK BC tp tr tk tc x tb w->w.heap[PB]?=some (.cells (aE n λ_=>0) tb)->(jT Tryz.f87.body).wpC Tryz.prog main Ext (DW Rd) 87 N (λe a w'=>e=.normal∧a.defers=ds∧w'.heap[PB]?=some (.cells (aE n (Fld.comb (Fld.wgt known k) x 10)) tb))
   ⟨#[t0,.pointer (some ⟨BP,0,none⟩),.pointer (some ⟨BR,0,none⟩),.pointer (some ⟨BK,0,none⟩),.pointer (some ⟨BC,0,none⟩),undef,undef,undef,undef,undef,undef],ds⟩ w:=by
 have T:=fM Rd;obtain⟨kw,KV⟩:=Pe (main:=main) (Rd:=Rd);obtain⟨kr,Y7⟩:=Uj (main:=main) (Rd:=Rd);co_apply Exists.intro;intro tb tp tr tk tc known k RB x n PB BP BR BK BC t0 ds w qg hk hn hx qm OU r1 r2 r3 r4 hH jw;simp only[jT,Tryz.f87];co_apply uW T (zO Rd) (N:=kw+kr+4) (S:=HB Rd known k RB n PB BP BR BK BC tp tr tk tc x tb) (by omega) (by first|kernel_rfl|rfl)
 intro w₁ hR;replace hH:=HB.rely (hH.rely hR) (Ext.draw _);replace jw:=(Ext.draw w₁).row (hR.row jw);clear hR;simp only[bh,av,cf,Nat.reduceAdd,an];generalize ({w₁ with drawn:=w₁.drawn+1} : World)=w₀ at hH jw;co_applyP dR (v:=.slice (some ⟨PB,0,none⟩) n n) T (λ_ _ h r=>HB.rely h r) (λ_ _ _ h r=>⟨h.1,h.2.1,r.row h.2.2⟩) (i:=0) rfl (by first|kernel_rfl|decide +kernel) (by first|kernel_rfl|decide +kernel) (by first|kernel_rfl|decide +kernel) (.inl ⟨by rfl,λ_ hw=>⟨run_eq_of ?run1,?guar1⟩⟩) hH ?rest1
 case run1=>
  intro K_ dr;(have hc:=ab _ BP 0 _ _ _ (HB.bp hw);simp at hc);go_simp;exact dr
 case guar1=>
  have hc:=ab _ BP 0 _ _ _ (HB.bp hw);simp at hc;(refine⟨⟨rfl,rfl⟩,λ_ _=>rfl,?_⟩;co_evs (exact⟨_,rfl,rfl,by simp⟩))
 try walk_nrm
 co_applyP dR T (λ_ _ h r=>HB.rely h r) (λ_ _ _ h r=>⟨h.1,h.2.1,r.row h.2.2⟩) (i:=1) rfl (by first|kernel_rfl|decide +kernel) (by first|kernel_rfl|decide +kernel) (by first|kernel_rfl|decide +kernel) (rG (by rfl) rfl rfl (λw h=>HB.br h) (by kernel_rfl) (by rw[Ay];kernel_rfl)) hH
 try walk_nrm
 co_applyP dR T (λ_ _ h r=>HB.rely h r) (λ_ _ _ h r=>⟨h.1,h.2.1,r.row h.2.2⟩) (i:=2) rfl (by first|kernel_rfl|decide +kernel) (by first|kernel_rfl|decide +kernel) (by first|kernel_rfl|decide +kernel) (rG (by rfl) rfl rfl (λw h=>HB.bk h) (by kernel_rfl) (by rw[gC];kernel_rfl)) hH
 try walk_nrm
 co_applyP dR (v:=.int .i64 (k:Nat)) T (λ_ _ h r=>HB.rely h r) (λ_ _ _ h r=>⟨h.1,h.2.1,r.row h.2.2⟩) (i:=3) rfl (by first|kernel_rfl|decide +kernel) (by first|kernel_rfl|decide +kernel) (by first|kernel_rfl|decide +kernel) (.inl ⟨by rfl,λ_ hw=>⟨run_eq_of ?run4,?guar4⟩⟩) hH ?rest4
 case run4=>
  intro K_ dr;(have hc:=ab _ BC 0 _ _ _ (HB.bc hw);simp at hc);go_simp;exact dr
 case guar4=>
  have hc:=ab _ BC 0 _ _ _ (HB.bc hw);simp at hc;(refine⟨⟨rfl,rfl⟩,λ_ _=>rfl,?_⟩;co_evs (exact⟨_,rfl,rfl,by simp⟩))
 try walk_nrm
 co_applyP nQ T (λ_ _ h r=>HB.rely h r) (λ_ _ _ h r=>⟨h.1,h.2.1,r.row h.2.2⟩) (i:=4) rfl (by first|kernel_rfl|decide +kernel) (by first|kernel_rfl|decide +kernel) (by first|kernel_rfl|decide +kernel) (by rfl) rfl (by simp[Act.eval]) (by omega) (λw h=>(KV known k w w qg hk h.low (.refl w)).mono λv w' q=>⟨q.1,h.rely (gA q.2),gA q.2⟩) hH
 try walk_nrm
 have jm:=Y7 tb RB x n (Fld.wgt known k) PB w₀ hn (Hn known k) hx hH.low qm OU hH.rows jw;co_applyP Kd (j:=5) (by first|kernel_rfl|decide +kernel) rfl (by rfl) rfl (by simp[Act.eval,Td]) (by omega) jm
 rintro v w' ⟨hp,tj⟩;have nB:∀{B:Nat},Rd B->B≠PB:=λh e=>qm (e▸h)
 co_apply And.intro ⟨tj _ (nB r1) _ hH.bp,tj _ (nB r2) _ hH.br,tj _ (nB r3) _ hH.bk,tj _ (nB r4) _ hH.bc,λj hj=>tj _ (nB (OU j hj)) _ (hH.rows j hj),λb hb=>(Array.getElem?_eq_some_iff.1 (tj b (nB hb) _ (bf (hH.low b hb)))).1⟩
 co_apply xP (by first|kernel_rfl|decide +kernel)
 exact⟨rfl,rfl,hp⟩
theorem Le:∃N,∀(tb tp tr tk tc:TypeId)(known:Nat->Nat)(k:Nat)(RB:Nat->Nat)(x:Nat->Nat->Nat)(n PB BP BR BK BC Dz:Nat)(t0:Value)(w:World),(∀i,i<10->known i<14)->k<14->n<=400->(∀j i,x j i<256)->¬Rd PB->(∀j,j<10->Rd (RB j))->Rd BP->Rd BR->Rd BK->Rd BC->HB Rd known k RB n PB BP BR BK BC tp tr tk tc x tb w->w.heap[PB]?=some (.cells (aE n λ_=>0) tb)->Goes Tryz.prog main Ext (DW Rd) (jX (baseD 87) Dz λw'=>w'.heap[PB]?=some (.cells (aE n (Fld.comb (Fld.wgt known k) x 10)) tb)) N
   (G ((baseD 87).at ⟨#[t0,.pointer (some ⟨BP,0,none⟩),.pointer (some ⟨BR,0,none⟩),.pointer (some ⟨BK,0,none⟩),.pointer (some ⟨BC,0,none⟩),undef,undef,undef,undef,undef,undef],aX Dz⟩ [.code (jT Tryz.f87.body)]) []) w:=by
 obtain⟨N,h⟩:=S0 (main:=main) (Rd:=Rd);refine⟨1+N,λtb tp tr tk tc known k RB x n PB BP BR BK BC Dz t0 w qg hk hn hx qm OU r1 r2 r3 r4 hH jw=>?_⟩
 refine(h tb tp tr tk tc known k RB x n PB BP BR BK BC t0 (aX Dz) w qg hk hn hx qm OU r1 r2 r3 r4 hH jw) (baseD 87) [] [] _ 1 rfl (by simp[baseD]) λe a w' q=>?_
 obtain⟨rfl,hd,hp⟩:=q;refine Goes.step rfl λw₁ hR=>?_
 rw[stepG_end];refine⟨(fM Rd).idle _,Goes.stop λw₂ h₂=>⟨a.tmps,[],?_,h₂.row (hR.row hp)⟩⟩
 rw[<-hd];rfl
end
