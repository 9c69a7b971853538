import Derived.Test.YtpiefebngnlfoabGreatDoorNm
import Derived.Test.YtpiefebngnlfoabGreatDoorNn
set_option maxRecDepth 99999
set_option maxHeartbeats 0
set_option linter.unusedVariables false
set_option linter.unusedSimpArgs false
namespace Go.Proofs.YtpiefebngnlfoabGreatDoor
open Go.RowKit Go.Conc Go.Vw
def sq:Nat->Code->Code
 |0,c=>c
 |n+1,.seq _ y=>sq n y
 |_+1,c=>c
def jV(id:Nat):Code->Option Code
 |.block i c=>bif Nat.beq i id then some c else jV id c
 |.seq a b=>match jV id a with
  |some x=>some x
  |none=>jV id b
 |.cond _ a b=>match jV id a with
  |some x=>some x
  |none=>jV id b
 |.loop c=>jV id c
 |_=>none
def LB(f:Func):Code:=f.body.getD .skip
def LR(Stop:Goroutine->(Nat->Prop)->World->Prop)(cs:List Frame)(k:Nat)(f:Nat->Value)(S:Nat->Prop)(w:World):Prop:=Vw.Reach Tryz.prog Stop (G ((base 4).at ⟨TA 241 f,[]⟩ [.code (sq k (LB Tryz.f4))]) cs) S w
theorem Wo{nd nb:Nat}{c a:Nat->Nat->Nat->Nat}(ha:∀ d p i,a d p i<256)(wr:Nat):gT nd nb c (aH (fun d=>bS nb (a d)) wr).c=gT nd nb c a:=by
 unfold gT;refine tM nd fun d hd=>tM nb fun p hp=>?_
 have:(p+1)*96<=nb*96:=Nat.mul_le_mul_right _ hp;have e:∀ i,i<96->(aH (fun d=>bS nb (a d)) wr).c d p i=a d p i:=fun i hi=>by
  show aS (bS nb (a d)) (p*96+i)=_;rw[rH (fun q j=>ha d q j) (by omega)];show a d ((p*96+i) / 96) ((p*96+i) % 96)=_;rw[show(p*96+i) / 96=p by omega,show(p*96+i) % 96=i by omega]
 have h2:cC (c d p) ((aH (fun d=>bS nb (a d)) wr).c d p) 0 96=cC (c d p) (a d p) 0 96:=by
  cases h:cC (c d p) (a d p) 0 96 with
  |true=>
   refine(iC _ _ 96 0).2 fun j h1 h2=>?_
   rw[e j (by omega)];exact(iC _ _ 96 0).1 h j h1 h2
  |false=>
   cases h':cC (c d p) ((aH (fun d=>bS nb (a d)) wr).c d p) 0 96 with
   |false=>rfl
   |true=>
    have:cC (c d p) (a d p) 0 96=true:=(iC _ _ 96 0).2 fun j h1 h2=>by
     rw[(iC _ _ 96 0).1 h' j h1 h2,e j (by omega)]
    rw[h]at this;cases this
 unfold eJ;rw[h2]
section
variable {nd nb:Nat}{w w' v:World}{S:Nat->Prop}
theorem Nl{P:Program}{g:FuncId}{vs:Array Value}{S:Nat->Prop}{v:World}{Q R:Value->(Nat->Prop)->World->Prop}(h:aK P g vs S v Q)(hq:∀ x S' v',Q x S' v'->R x S' v'):aK P g vs S v R:=fun Stop cc cs hn=>h Stop cc cs fun x S' v' hv q=>hn x S' v' hv (hq x S' v' q)
theorem xN(t:TypeId)(e:Value)(hg0:v.cell? ⟨0,0,none⟩=some (.iface t e))(hg:Tryz.prog.globals.size<=v.heap.size)(N B c wr m:Nat)(a:Nat->Nat->Nat->Nat)(T:List It)(hN:N<=v.heap.size)(hM:eC nb m a T)(hw:wr<=1099511627776)(b4:4<=nb)(n14:14<=nd)(n18:nd<=18)(hnb:nb<=64)(hT:eH v B nd fun d=>bS nb (a d)) :
  aK Tryz.prog 8 #[.slice (some ⟨B,0,none⟩) nd c,.int .i64 (wr:Nat)] S v fun x S' v'=>Kp v (fun _=>False) v'∧∃ X D DB DA M RB RA L turn s,x=.pointer (some ⟨X,0,none⟩)∧Hw N nd nb m X D DB DA M RB RA turn s L T v'∧eC nb m s.a T∧(∀ n,n+28*nb<=wr->aQ s n)∧∀ b,bN X D M RB RA nd b->v.heap.size<=b:=by
 obtain⟨lb,G,E,hW⟩:=hM.texts (wr:=wr);refine Nl (qH t e hg0 hg B c wr (fun d=>bS nb (a d)) lb G hw b4 n14 n18 hnb ⟨fun j _=>.inr (lN _ _),0,by omega,lN _ _⟩ hT hW.slot) fun x S' v' h=>?_
 obtain⟨hK,X,D,DB,DA,M,RB,RA,L,turn,h1,h2,h3,h4⟩:=h;refine⟨hK,X,D,DB,DA,M,RB,RA,L,turn,_,h1,hW.mount h2 h3 fun b hb=>Nat.le_trans hN (h4 b hb),?_,fun n hn=>aQ.sweep nb ⟨rfl,hn⟩,h4⟩
 have:=hW.swept h2 wr;rw[qD,fQ];exact this
end
