import Derived.Test.YtpiefebngnlfoabGreatDoorNt
import Derived.Test.YtpiefebngnlfoabGreatDoorNq
set_option maxRecDepth 99999
set_option maxHeartbeats 0
set_option linter.unusedVariables false
set_option linter.unusedSimpArgs false
namespace Go.Proofs.YtpiefebngnlfoabGreatDoor
open Go.RowKit Go.Conc Go.Vw
section
variable {w w' v:World}{S:Nat->Prop}
theorem Yf{f:Nat->Value}{Stop:Goroutine->(Nat->Prop)->World->Prop}{cs:List Frame}{Ts:List (List It)}(T0:List It)(mv svc x6 x15 x16 x26 x29:Value)(hT0:T0∈Ts)(hlen:Ts.length=1∨Ts.length=2)(hM:dB v.heap.size v.heap.size w mv Ts)(hIc:aV v.heap.size v.heap.size w svc T0)(hz:∀ x∈T0,x.size<=400)(hl:T0.length<=6)
  (g6:f 6=x6) (g15:f 15=x15) (g16:f 16=x16) (g20:f 20=mv) (g25:f 25=svc) (g26:f 26=x26) (g29:f 29=x29)
  (next:∀ f',f' 30=.bool true->f' 6=x6->f' 15=x15->f' 16=x16->f' 25=svc->f' 26=x26->f' 29=x29->LR Stop cs 19 f' S w) :
  LR Stop cs 18 f S w:=by
 unfold LR at next ⊢
 have hal:iZ T0 T0=true:=kC.2 (.refl _);have e0:sq 18 (LB Tryz.f4)=.seq _ (sq 19 (LB Tryz.f4)):=rfl;rw[e0];clear e0;generalize sq 19 (LB Tryz.f4)=rst at next ⊢
 obtain⟨svs,ho,hMI⟩:=hM;obtain⟨gm,cm,cur,q1,q2,q3,q4,q5,q6,q7⟩:=ho.2.resolve_left (fun q=>by rcases hlen with h|h<;>omega);have hcell:∀ (i:Nat) sv,svs[i]?=some sv->w.cell? ⟨gm,i,none⟩=some sv:=fun i sv h=>by
  rw[cell_of_row _ _ _ _ _ _ q3,<-Array.getElem?_toList];have hlt:=(List.getElem?_eq_some_iff.1 h).1;have hl:=ho.1;rw[<-q7,List.getElem?_take,if_pos (by omega)]at h;exact h
 have hsl:svs.length=Ts.length:=by have:=ho.1;omega
 subst q1;obtain⟨sv0,hs0⟩:∃ sv0,svs[0]?=some sv0:=⟨_,List.getElem?_eq_getElem (by rcases hlen with h|h<;>omega)⟩;obtain⟨Ta,hTa⟩:∃ Ta,Ts[0]?=some Ta:=⟨_,List.getElem?_eq_getElem (by rcases hlen with h|h<;>omega)⟩;obtain⟨hIa,hza,hla⟩:=hMI 0 sv0 Ta hs0 hTa;have hc0:=hcell 0 sv0 hs0;obtain⟨nt,hnt⟩:∃ nt,nt=Ts.length:=⟨_,rfl⟩;rw[<-hnt]at g20 hlen;have HNT:=aE hnt;have hn1:0<nt:=by rcases hlen with h|h<;>omega
 have hn1I:(0:Int)<(nt:Int):=by omega
 have HL:=aE hlen;clear hnt hlen;repeat (first|refine rQ rfl ?_|refine cY aB ?_|refine cZ ?_)
 refine cH aB rfl rfl (by kernel_rfl) (fun u hu=>run_eq_of fun K_ hK_=>by have hc:=(Ext.twin hu).cell hc0;go_simp;exact hK_) ?_
 simp only[stO_some];refine rK2 Tryz.func15 (mX v.heap.size v.heap.size v.heap.size v.heap.size svc sv0 T0 Ta hIc hIa hz hza (by omega) (by omega)) ?_;rintro _ S7 w7 _ ⟨rfl,eS,eW⟩;subst S7 w7;cases hb:iZ T0 Ta with
 |true=>
  simp only[stO_some];repeat (first|refine rQ rfl ?_|refine cY aB ?_|refine cZ ?_)
  exact next _ (by simp) (by simp[g6]) (by simp[g15]) (by simp[g16]) (by simp[g25]) (by simp[g26]) (by simp[g29])
 |false=>
  have hne:T0≠Ta:=fun q=>by rw[q,kC.2 (.refl _)]at hb;cases hb
  have h2:nt=2∧Ts[1]?=some T0:=by
   have hlen:=HL.out;have hnt:=HNT.out;obtain⟨i,hi⟩:=List.mem_iff_getElem?.1 hT0;match i with
   |0=>
    rw[hTa]at hi;cases hi
    exact absurd rfl hne
   |1=>
    have:=(List.getElem?_eq_some_iff.1 hi).1;exact⟨by rcases hlen with h|h<;>omega,hi⟩
   |i+2=>
    have:=(List.getElem?_eq_some_iff.1 hi).1;rcases hlen with h|h<;>omega
  obtain⟨h2,hTb⟩:=h2;obtain⟨sv1,hs1⟩:∃ sv1,svs[1]?=some sv1:=⟨_,List.getElem?_eq_getElem (by have:=HNT.out;omega)⟩;obtain⟨hIb,hzb,hlb⟩:=hMI 1 sv1 T0 hs1 hTb;have hc1:=hcell 1 sv1 hs1;have h2I:(1:Int)<(nt:Int):=by omega
  have h2n:1<nt:=by omega
  have H2:=aE h2;clear h2;simp only[stO_some];repeat (first|refine rQ rfl ?_|refine cY aB ?_|refine cZ ?_)
  refine cH aB rfl (wnT rfl (by simp) (by decide)) (by kernel_rfl) (fun u hu=>run_eq_of fun K_ hK_=>by have hc:=(Ext.twin hu).cell hc1;go_simp;exact hK_) ?_
  simp only[stO_some];refine fW Tryz.func15 (mX v.heap.size v.heap.size v.heap.size v.heap.size svc sv1 T0 T0 hIc hIb hz hzb (by omega) (by omega)) ?_;rintro _ S7 w7 _ ⟨rfl,eS,eW⟩;subst S7 w7;rw[hal];repeat (first|refine rQ rfl ?_|refine cY aB ?_|refine cZ ?_)
  exact next _ (by simp) (by simp[g6]) (by simp[g15]) (by simp[g16]) (by simp[g25]) (by simp[g26]) (by simp[g29])
end
