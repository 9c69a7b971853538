import Derived.Test.YtpiefebngnlfoabGreatDoorNm
import Derived.Test.YtpiefebngnlfoabGreatDoorNn
set_option maxRecDepth 99999
set_option maxHeartbeats 0
set_option linter.unusedVariables false
set_option linter.unusedSimpArgs false
namespace Go.Proofs.YtpiefebngnlfoabGreatDoor
open Go.RowKit Go.Conc Go.Vw
def sq:Nat->Code->Code
 |0,c=>c
 |n+1,.seq _ y=>sq n y
 |_+1,c=>c
def fT(id:Nat):Code->Option Code
 |.block i c=>bif Nat.beq i id then some c else fT id c
 |.seq a b=>match fT id a with
  |some x=>some x
  |none=>fT id b
 |.cond _ a b=>match fT id a with
  |some x=>some x
  |none=>fT id b
 |.loop c=>fT id c
 |_=>none
def LB(f:Func):Code:=f.body.getD .skip
section
variable {nd nb:Nat}{w w' v:World}{S:Nat->Prop}
theorem Nd{P:Program}{g:FuncId}{vs:Array Value}{S:Nat->Prop}{v:World}{Q R:Value->(Nat->Prop)->World->Prop}(h:aI P g vs S v Q)(hq:∀ x S' v',Q x S' v'->R x S' v'):aI P g vs S v R:=fun Stop cc cs hn=>h Stop cc cs fun x S' v' hv q=>hn x S' v' hv (hq x S' v' q)
theorem Df(t:TypeId)(e:Value)(hg0:v.cell? ⟨0,0,none⟩=some (.iface t e))(hg:Tryz.prog.globals.size<=v.heap.size)(N B c wr m:Nat)(a:Nat->Nat->Nat->Nat)(T:List It)(hN:N<=v.heap.size)(hM:dQ nb m a T)(hw:wr<=1099511627776)(b4:4<=nb)(n14:14<=nd)(n18:nd<=18)(hnb:nb<=64)(hT:dS v B nd fun d=>cC nb (a d)) :
  aI Tryz.prog 8 #[.slice (some ⟨B,0,none⟩) nd c,.int .i64 (wr:Nat)] S v fun x S' v'=>Kp v (fun _=>False) v'∧∃ X D DB DA M RB RA L turn s,x=.pointer (some ⟨X,0,none⟩)∧Hw N nd nb m X D DB DA M RB RA turn s L T v'∧dQ nb m s.a T∧(∀ n,n+28*nb<=wr->aP s n)∧∀ b,bU X D M RB RA nd b->v.heap.size<=b:=by
 obtain⟨lb,G,E,hW⟩:=hM.texts (wr:=wr);refine Nd (qF t e hg0 hg B c wr (fun d=>cC nb (a d)) lb G hw b4 n14 n18 hnb ⟨fun j _=>.inr (oR _ _),0,by omega,oR _ _⟩ hT hW.slot) fun x S' v' h=>?_
 obtain⟨hK,X,D,DB,DA,M,RB,RA,L,turn,h1,h2,h3,h4⟩:=h;refine⟨hK,X,D,DB,DA,M,RB,RA,L,turn,_,h1,hW.mount h2 h3 fun b hb=>Nat.le_trans hN (h4 b hb),?_,fun n hn=>aP.sweep nb ⟨rfl,hn⟩,h4⟩
 have:=hW.swept h2 wr;rw[qC,fX];exact this
end
