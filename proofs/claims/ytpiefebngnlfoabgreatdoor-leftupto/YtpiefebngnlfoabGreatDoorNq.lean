import Derived.Test.YtpiefebngnlfoabGreatDoorNm
import Derived.Test.YtpiefebngnlfoabGreatDoorNn
set_option maxRecDepth 100000
set_option maxHeartbeats 16000000
set_option linter.unusedVariables false
set_option linter.unusedSimpArgs false
namespace Go.Proofs.YtpiefebngnlfoabGreatDoor
open Go.RowKit Go.Conc Go.Vw
def sq:Nat->Code->Code
 |0,c=>c
 |n+1,.seq _ y=>sq n y
 |_+1,c=>c
def inB(id:Nat):Code->Option Code
 |.block i c=>bif Nat.beq i id then some c else inB id c
 |.seq a b=>match inB id a with
  |some x=>some x
  |none=>inB id b
 |.cond _ a b=>match inB id a with
  |some x=>some x
  |none=>inB id b
 |.loop c=>inB id c
 |_=>none
def LB:Code:=Tryz.f4.body.getD .skip
def LR(Stop:Goroutine->(Nat->Prop)->World->Prop)(cs:List Frame)(k:Nat)(f:Nat->Value)(S:Nat->Prop)(w:World):Prop:=Vw.Reach Tryz.prog Stop (G ((base 4).at ⟨TA 241 f,[]⟩ [.code (sq k LB)]) cs) S w
theorem Up{nd nb:Nat}{c a:Nat->Nat->Nat->Nat}(ha:∀ d p i,a d p i<256)(wr:Nat):fS nd nb c (aF (fun d=>txt nb (a d)) wr).c=fS nd nb c a:=by
 unfold fS;refine qT nd fun d hd=>qT nb fun p hp=>?_
 have:(p+1)*96<=nb*96:=Nat.mul_le_mul_right _ hp;have e:∀ i,i<96->(aF (fun d=>txt nb (a d)) wr).c d p i=a d p i:=fun i hi=>by
  show byt (txt nb (a d)) (p*96+i)=_;rw[pK (fun q j=>ha d q j) (by omega)];show a d ((p*96+i) / 96) ((p*96+i) % 96)=_;rw[show(p*96+i) / 96=p by omega,show(p*96+i) % 96=i by omega]
 have h2:eqF (c d p) ((aF (fun d=>txt nb (a d)) wr).c d p) 0 96=eqF (c d p) (a d p) 0 96:=by
  cases h:eqF (c d p) (a d p) 0 96 with
  |true=>
   refine(fZ _ _ 96 0).2 fun j h1 h2=>?_
   rw[e j (by omega)];exact(fZ _ _ 96 0).1 h j h1 h2
  |false=>
   cases h':eqF (c d p) ((aF (fun d=>txt nb (a d)) wr).c d p) 0 96 with
   |false=>rfl
   |true=>
    have:eqF (c d p) (a d p) 0 96=true:=(fZ _ _ 96 0).2 fun j h1 h2=>by
     rw[(fZ _ _ 96 0).1 h' j h1 h2,e j (by omega)]
    rw[h]at this;cases this
 unfold dP;rw[h2]
section
variable {nd nb:Nat}{w w' v:World}{S:Nat->Prop}
theorem Lm{P:Program}{g:FuncId}{vs:Array Value}{S:Nat->Prop}{v:World}{Q R:Value->(Nat->Prop)->World->Prop}(h:aI P g vs S v Q)(hq:∀ x S' v',Q x S' v'->R x S' v'):aI P g vs S v R:=fun Stop cc cs hn=>h Stop cc cs fun x S' v' hv q=>hn x S' v' hv (hq x S' v' q)
theorem vQ(t:TypeId)(e:Value)(hg0:v.cell? ⟨0,0,none⟩=some (.iface t e))(hg:Tryz.prog.globals.size<=v.heap.size)(N B c wr m:Nat)(a:Nat->Nat->Nat->Nat)(T:List It)(hN:N<=v.heap.size)(hM:Mid nb m a T)(hw:wr<=1099511627776)(b4:4<=nb)(n14:14<=nd)(n18:nd<=18)(hnb:nb<=64)(hT:dN v B nd fun d=>txt nb (a d)) :
  aI Tryz.prog 8 #[.slice (some ⟨B,0,none⟩) nd c,.int .i64 (wr:Nat)] S v fun x S' v'=>Kp v (fun _=>False) v'∧∃ X D DB DA M RB RA L turn s,x=.pointer (some ⟨X,0,none⟩)∧Hw N nd nb m X D DB DA M RB RA turn s L T v'∧Mid nb m s.a T∧(∀ n,n+28*nb<=wr->aN s n)∧∀ b,bG X D M RB RA nd b->v.heap.size<=b:=by
 obtain⟨lb,G,E,hW⟩:=hM.texts (wr:=wr);refine Lm (oP t e hg0 hg B c wr (fun d=>txt nb (a d)) lb G hw b4 n14 n18 hnb ⟨fun j _=>.inr (kC _ _),0,by omega,kC _ _⟩ hT hW.slot) fun x S' v' h=>?_
 obtain⟨hK,X,D,DB,DA,M,RB,RA,L,turn,h1,h2,h3,h4⟩:=h;refine⟨hK,X,D,DB,DA,M,RB,RA,L,turn,_,h1,hW.mount h2 h3 fun b hb=>Nat.le_trans hN (h4 b hb),?_,fun n hn=>aN.sweep nb ⟨rfl,hn⟩,h4⟩
 have:=hW.swept h2 wr;rw[oM,eR];exact this
end
