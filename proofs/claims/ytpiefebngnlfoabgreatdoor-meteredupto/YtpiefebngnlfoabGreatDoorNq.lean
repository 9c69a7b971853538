import Derived.Test.YtpiefebngnlfoabGreatDoorNm
import Derived.Test.YtpiefebngnlfoabGreatDoorNn
set_option maxRecDepth 99999
set_option maxHeartbeats 0
set_option linter.unusedVariables false
set_option linter.unusedSimpArgs false
namespace Go.Proofs.YtpiefebngnlfoabGreatDoor
open Go.RowKit Go.Conc Go.Vw
def sq:Nat->Code->Code
 |0,c=>c
 |n+1,.seq _ y=>sq n y
 |_+1,c=>c
def LB(f:Func):Code:=f.body.getD .skip
theorem qS{nd nb:Nat}{c a:Nat->Nat->Nat->Nat}(ha:∀ d p i,a d p i<256)(wr:Nat):dO nd nb c (aH (fun d=>bG nb (a d)) wr).c=dO nd nb c a:=by
 unfold dO;refine oF nd fun d hd=>oF nb fun p hp=>?_
 have:(p+1)*96<=nb*96:=Nat.mul_le_mul_right _ hp;have e:∀ i,i<96->(aH (fun d=>bG nb (a d)) wr).c d p i=a d p i:=fun i hi=>by
  show aR (bG nb (a d)) (p*96+i)=_;rw[Hp (fun q j=>ha d q j) (by omega)];show a d ((p*96+i) / 96) ((p*96+i) % 96)=_;rw[show(p*96+i) / 96=p by omega,show(p*96+i) % 96=i by omega]
 have h2:bT (c d p) ((aH (fun d=>bG nb (a d)) wr).c d p) 0 96=bT (c d p) (a d p) 0 96:=by
  cases h:bT (c d p) (a d p) 0 96 with
  |true=>
   refine(fL _ _ 96 0).2 fun j h1 h2=>?_
   rw[e j (by omega)];exact(fL _ _ 96 0).1 h j h1 h2
  |false=>
   cases h':bT (c d p) ((aH (fun d=>bG nb (a d)) wr).c d p) 0 96 with
   |false=>rfl
   |true=>
    have:bT (c d p) (a d p) 0 96=true:=(fL _ _ 96 0).2 fun j h1 h2=>by
     rw[(fL _ _ 96 0).1 h' j h1 h2,e j (by omega)]
    rw[h]at this;cases this
 unfold dN;rw[h2]
section
variable {nd nb:Nat}{w w' v:World}{S:Nat->Prop}
end
