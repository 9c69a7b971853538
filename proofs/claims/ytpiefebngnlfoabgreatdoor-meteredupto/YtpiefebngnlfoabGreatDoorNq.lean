import Derived.Test.YtpiefebngnlfoabGreatDoorNm
import Derived.Test.YtpiefebngnlfoabGreatDoorNn
set_option maxRecDepth 100000
set_option maxHeartbeats 16000000
set_option linter.unusedVariables false
set_option linter.unusedSimpArgs false
namespace Go.Proofs.YtpiefebngnlfoabGreatDoor
open Go.RowKit Go.Conc Go.Vw
def sq:Nat->Code->Code
 |0,c=>c
 |n+1,.seq _ y=>sq n y
 |_+1,c=>c
def LB:Code:=Tryz.f4.body.getD .skip
theorem pH{nd nb:Nat}{c a:Nat->Nat->Nat->Nat}(ha:∀ d p i,a d p i<256)(wr:Nat):dB nd nb c (aF (fun d=>txt nb (a d)) wr).c=dB nd nb c a:=by
 unfold dB;refine mP nd fun d hd=>mP nb fun p hp=>?_
 have:(p+1)*96<=nb*96:=Nat.mul_le_mul_right _ hp;have e:∀ i,i<96->(aF (fun d=>txt nb (a d)) wr).c d p i=a d p i:=fun i hi=>by
  show byt (txt nb (a d)) (p*96+i)=_;rw[Ft (fun q j=>ha d q j) (by omega)];show a d ((p*96+i) / 96) ((p*96+i) % 96)=_;rw[show(p*96+i) / 96=p by omega,show(p*96+i) % 96=i by omega]
 have h2:eqF (c d p) ((aF (fun d=>txt nb (a d)) wr).c d p) 0 96=eqF (c d p) (a d p) 0 96:=by
  cases h:eqF (c d p) (a d p) 0 96 with
  |true=>
   refine(eR _ _ 96 0).2 fun j h1 h2=>?_
   rw[e j (by omega)];exact(eR _ _ 96 0).1 h j h1 h2
  |false=>
   cases h':eqF (c d p) ((aF (fun d=>txt nb (a d)) wr).c d p) 0 96 with
   |false=>rfl
   |true=>
    have:eqF (c d p) (a d p) 0 96=true:=(eR _ _ 96 0).2 fun j h1 h2=>by
     rw[(eR _ _ 96 0).1 h' j h1 h2,e j (by omega)]
    rw[h]at this;cases this
 unfold dA;rw[h2]
section
variable {nd nb:Nat}{w w' v:World}{S:Nat->Prop}
end
