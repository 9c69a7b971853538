import Derived.Test.YtpiefebngnlfoabGreatDoorNu
set_option maxRecDepth 99999
set_option maxHeartbeats 0
set_option linter.unusedVariables false
set_option linter.unusedSimpArgs false
namespace Go.Proofs.YtpiefebngnlfoabGreatDoor
open Go.RowKit Go.Conc Go.Vw
section
variable {w w' v:World}{S:Nat->Prop}
theorem Xq{f:Nat->Value}{Stop:Goroutine->(Nat->Prop)->World->Prop}{cs:List Frame}{k0:List Item}{nd nb:Nat}(t:TypeId)(e:Value)(hg0:v.cell? ⟨0,0,none⟩=some (.iface t e))(hg:Tryz.prog.globals.size<=v.heap.size)(n14:14<=nd)(n18:nd<=18)(b4:4<=nb)(b15:nb<=15)(hK:Kp v (fun _=>False) w)(B off nr cap j gd cd m:Nat)(R:Nat->Rnd)(a:Nat->Nat->Nat->Nat)(T:List It)(sv x4:Value)(hlt:j<nr)(hcell:∀ k y,(R j).agg[k]?=some y->w.cell? ⟨B,off+j*2+k,none⟩=some y)(hr:(R j).Ok v.heap.size w)(hTx:dS w gd nd fun d=>cC nb (a d))(hMid:dQ nb m a T)(hI:bO v.heap.size v.heap.size w sv T)(hm:m+1048576<=2199023255552)
  (g3:f 3=.slice (some ⟨B,off,none⟩) nr cap) (g4:f 4=x4) (g12:f 12=sv) (g13:f 13=.slice (some ⟨gd,0,none⟩) nd cd) (g14:f 14=.int .i64 (j:Nat))
  (next:∀ f' S' w' g mv svc a' Ts T0,Kp v (fun _=>False) w'->dS w' g nd (fun d=>cC nb (a' d))->dQ nb (m+1048576) a' T0->T0∈Ts->(Ts.length=1∨Ts.length=2)->dE v.heap.size v.heap.size w' mv Ts->bO v.heap.size v.heap.size w' svc T0->(∀ x∈T0,x.size<=400)->T0.length<=6->f' 3=.slice (some ⟨B,off,none⟩) nr cap->f' 4=x4->f' 13=.slice (some ⟨g,0,none⟩) nd nd->f' 14=.int .i64 (j:Nat)->f' 16=mv->f' 19=svc->f' 20=.bool true->Vw.Reach Tryz.prog Stop (G ((base 6).at ⟨TA 131 f',[]⟩ (.code (sq 6 ((fT 1 (Tryz.f6.body.getD .skip)).getD .skip)) :: k0)) cs) S' w') :
  Vw.Reach Tryz.prog Stop (G ((base 6).at ⟨TA 131 f,[]⟩ (.code ((fT 1 (Tryz.f6.body.getD .skip)).getD .skip) :: k0)) cs) S w:=by
 have e0:(fT 1 (Tryz.f6.body.getD .skip)).getD .skip=.seq _ (.seq _ (.seq _ (.seq _ (.seq _ (.seq _ (sq 6 ((fT 1 (Tryz.f6.body.getD .skip)).getD .skip))))))):=rfl;generalize sq 6 ((fT 1 (Tryz.f6.body.getD .skip)).getD .skip)=rst at e0 next
 rw[e0];clear e0;have hjI:(j:Int)<(nr:Int):=by omega
 have hrn:=hr.n;repeat (first|refine rQ rfl ?_|refine cS aB ?_|refine cZ ?_)
 refine bV aB rfl rfl (by kernel_rfl) (fun u hu=>Qv (b:=B) (off:=off+j*2) (x:=.tmp 51) (c:=R j) rfl (by simp) fun k y hy=>(Ext.twin hu).cell (hcell k y hy)) ?_
 simp only[stO_some];refine iC Tryz.func22 (Xk t e (hK.cell (fun h=>h) hg0) (Nat.le_trans hg hK.size) v.heap.size gd cd m a T sv (R j) hK.size n14 n18 b4 b15 hMid hTx hI hr (by omega)) ?_;rintro _ S1 w1 _ ⟨hK1,g,mv,a',Ts,T0,rfl,hT1,hM1,hT0,hlen,hMid1⟩;have hKv1:=hK.trans hK1;repeat (first|refine rQ rfl ?_|refine cS aB ?_|refine cZ ?_)
 refine rZ (by simp[Act.eval]) ?_;repeat (first|refine rQ rfl ?_|refine cS aB ?_|refine cZ ?_)
 refine iC Tryz.func8 (Df t e (hKv1.cell (fun h=>h) hg0) (Nat.le_trans hg hKv1.size) v.heap.size g nd 1099511627776 (m+(R j).n) a' T0 hKv1.size hMid1 (Nat.le_refl _) b4 n14 n18 (by omega) hT1) ?_;rintro _ S2 w2 _ ⟨hK2,Xu,Du,DBu,DAu,Mu,RBu,RAu,Lu,turnu,su,rfl,hHu,_,_,_⟩;have hKv2:=hKv1.trans hK2;have hlu:=hHu.few6;have htu:=hHu.turn;repeat (first|refine rQ rfl ?_|refine cS aB ?_|refine cZ ?_)
 refine rZ (by simp[Act.eval]) ?_;repeat (first|refine rQ rfl ?_|refine cS aB ?_|refine cZ ?_)
 refine iC Tryz.func14 (xN v.heap.size hKv2.size (by omega) (Nat.le_trans hg hKv2.size) (by omega) n14 n18 (by omega) hHu.st) ?_;rintro _ S3 w3 _ ⟨hK3,svc,T3,rfl,hR3,hl3,hI3⟩;obtain rfl:=hR3.uniq hHu.rep;have hz:=hR3.size hHu.st.ent;have hT6:=hR3.len6 hHu.few;have hIc:=hI3.lower hKv2.size;have hK13:=hK2.trans hK3;repeat (first|refine rQ rfl ?_|refine cS aB ?_|refine cZ ?_)
 exact next _ _ w3 g mv svc a' Ts T3 (hKv2.trans hK3) (fun j hj=>hK13.cell (fun h=>h) (hT1 j hj)) (hMid1.le (by omega)) hT0 hlen (hM1.kp0 hK13) hIc hz hT6 (by simp[g3]) (by simp[g4]) (by simp) (by simp[g14]) (by simp) (by simp) (by simp)
theorem Xp{f:Nat->Value}{Stop:Goroutine->(Nat->Prop)->World->Prop}{cs:List Frame}{k0:List Item}{Ts:List (List It)}(T0:List It)(mv svc x3 x4 x13 x14:Value)(hT0:T0∈Ts)(hlen:Ts.length=1∨Ts.length=2)(hM:dE v.heap.size v.heap.size w mv Ts)(hIc:bO v.heap.size v.heap.size w svc T0)(hz:∀ x∈T0,x.size<=400)(hl:T0.length<=6)
  (g3:f 3=x3) (g4:f 4=x4) (g13:f 13=x13) (g14:f 14=x14) (g16:f 16=mv) (g19:f 19=svc) (g20:f 20=.bool true)
  (next:∀ f' sv',bO v.heap.size v.heap.size w sv' T0->f' 3=x3->f' 4=x4->f' 12=sv'->f' 13=x13->f' 14=x14->Vw.Reach Tryz.prog Stop (G ((base 6).at ⟨TA 131 f',[]⟩ k0) cs) S w) :
  Vw.Reach Tryz.prog Stop (G ((base 6).at ⟨TA 131 f,[]⟩ (.code (sq 6 ((fT 1 (Tryz.f6.body.getD .skip)).getD .skip)) :: .inBlock 1 :: k0)) cs) S w:=by
 have e0:fT 1 (Tryz.f6.body.getD .skip)=some _:=rfl;rw[e0];simp only[sq,Option.getD_some];clear e0;have hal:iW T0 T0=true:=mO.2 (.refl _);obtain⟨svs,ho,hMI⟩:=hM;obtain⟨gm,cm,cur,q1,q2,q3,q4,q5,q6,q7⟩:=ho.2.resolve_left (fun q=>by rcases hlen with h|h<;>omega);have hcell:∀ (i:Nat) sv,svs[i]?=some sv->w.cell? ⟨gm,i,none⟩=some sv:=fun i sv h=>by
  rw[cell_of_row _ _ _ _ _ _ q3,<-Array.getElem?_toList];have hlt:=(List.getElem?_eq_some_iff.1 h).1;have hl:=ho.1;rw[<-q7,List.getElem?_take,if_pos (by omega)]at h;exact h
 have hsl:svs.length=Ts.length:=by have:=ho.1;omega
 subst q1;obtain⟨sv0,hs0⟩:∃ sv0,svs[0]?=some sv0:=⟨_,List.getElem?_eq_getElem (by rcases hlen with h|h<;>omega)⟩;obtain⟨Ta,hTa⟩:∃ Ta,Ts[0]?=some Ta:=⟨_,List.getElem?_eq_getElem (by rcases hlen with h|h<;>omega)⟩;obtain⟨hIa,hza,hla⟩:=hMI 0 sv0 Ta hs0 hTa;have hc0:=hcell 0 sv0 hs0;have hrest:iW T0 Ta=true∨(Ts.length=2∧Ts[1]?=some T0):=by
  by_cases hq:T0=Ta
  .rw[hq];exact .inl (mO.2 (.refl _))
  .obtain⟨i,hi⟩:=List.mem_iff_getElem?.1 hT0;match i with
   |0=>
    rw[hTa]at hi;cases hi
    exact absurd rfl hq
   |1=>
    have:=(List.getElem?_eq_some_iff.1 hi).1;exact .inr ⟨by rcases hlen with h|h<;>omega,hi⟩
   |i+2=>
    have:=(List.getElem?_eq_some_iff.1 hi).1;rcases hlen with h|h<;>omega
 have hI1:iW T0 Ta=true->bO v.heap.size v.heap.size w sv0 T0:=fun h=>hIa.alk (mO.1 h)
 have two:Ts.length=2->∃ sv1 Tb,w.cell? ⟨gm,1,none⟩=some sv1∧Ts[1]?=some Tb∧bO v.heap.size v.heap.size w sv1 Tb∧(∀ x∈Tb,x.size<=400)∧Tb.length<=6:=fun h=>by
  obtain⟨sv1,hs1⟩:∃ sv1,svs[1]?=some sv1:=⟨_,List.getElem?_eq_getElem (by omega)⟩;obtain⟨Tb,hTb⟩:∃ Tb,Ts[1]?=some Tb:=⟨_,List.getElem?_eq_getElem (by omega)⟩;obtain⟨h1,h2,h3⟩:=hMI 1 sv1 Tb hs1 hTb;exact⟨sv1,Tb,hcell 1 sv1 hs1,hTb,h1,h2,h3⟩
 obtain⟨nt,hnt⟩:∃ nt,nt=Ts.length:=⟨_,rfl⟩;rw[<-hnt]at g16 hlen hrest two;have hn1:0<nt:=by rcases hlen with h|h<;>omega
 have hn1I:(0:Int)<(nt:Int):=by omega
 clear hMI hcell hsl q2 q3 q4 q5 q6 q7 ho hnt hTa;refine rQ rfl ?_;repeat (first|refine rQ rfl ?_|refine cS aB ?_)
 refine bV aB rfl rfl (by kernel_rfl) (fun u hu=>run_eq_of fun K_ hK_=>by have hc:=(Ext.twin hu).cell hc0;go_simp;exact hK_) ?_
 simp only[stO_some];refine iC Tryz.func15 (rS v.heap.size v.heap.size v.heap.size v.heap.size svc sv0 T0 Ta hIc hIa hz hza (by omega) (by omega)) ?_;rintro _ S7 w7 _ ⟨rfl,eS,eW⟩;subst S7 w7;rcases hlen with rfl|rfl
 .have hb:iW T0 Ta=true:=hrest.resolve_right fun h=>by omega
  have hI:=hI1 hb;rw[hb];clear two hrest hI1;repeat (first|refine rQ rfl ?_|refine cS aB ?_|refine cZ ?_)
  refine rZ (by simp[Act.eval]) ?_;repeat (first|refine rQ rfl ?_|refine cS aB ?_|refine cZ ?_)
  refine bV aB rfl rfl (by kernel_rfl) (fun u hu=>run_eq_of fun K_ hK_=>by have hc:=(Ext.twin hu).cell hc0;go_simp;exact hK_) ?_
  simp only[stO_some];repeat (first|refine rQ rfl ?_|refine cS aB ?_|refine cZ ?_)
  refine rZ (by simp[Act.eval]) ?_;repeat (first|refine rQ rfl ?_|refine cS aB ?_|refine cZ ?_)
  exact next _ sv0 hI (by simp[g3]) (by simp[g4]) (by simp) (by simp[g13]) (by simp[g14])
 .obtain⟨sv1,Tb,hc1,hTb,hIb,hzb,hlb⟩:=two rfl;clear two;cases hb:iW T0 Ta with
  |true=>
   have hI:=hI1 hb;clear hrest hI1;repeat (first|refine rQ rfl ?_|refine cS aB ?_|refine cZ ?_)
   refine bV aB rfl (sU rfl (by simp) (by decide)) (by kernel_rfl) (fun u hu=>run_eq_of fun K_ hK_=>by have hc:=(Ext.twin hu).cell hc1;go_simp;exact hK_) ?_
   simp only[stO_some];refine iC Tryz.func15 (rS v.heap.size v.heap.size v.heap.size v.heap.size svc sv1 T0 Tb hIc hIb hz hzb (by omega) (by omega)) ?_;rintro _ S7 w7 _ ⟨rfl,eS,eW⟩;subst S7 w7;generalize iW T0 Tb=b2;repeat (first|refine rQ rfl ?_|refine cS aB ?_|refine cZ ?_)
   refine rZ (by simp[Act.eval]) ?_;repeat (first|refine rQ rfl ?_|refine cS aB ?_|refine cZ ?_)
   refine bV aB rfl rfl (by kernel_rfl) (fun u hu=>run_eq_of fun K_ hK_=>by have hc:=(Ext.twin hu).cell hc0;go_simp;exact hK_) ?_
   simp only[stO_some];repeat (first|refine rQ rfl ?_|refine cS aB ?_|refine cZ ?_)
   refine rZ (by simp[Act.eval]) ?_;repeat (first|refine rQ rfl ?_|refine cS aB ?_|refine cZ ?_)
   exact next _ sv0 hI (by simp[g3]) (by simp[g4]) (by simp) (by simp[g13]) (by simp[g14])
  |false=>
   have hq:Tb=T0:=by
    rcases hrest with h|⟨_,h⟩
    .rw[hb]at h;cases h
    .rw[hTb]at h;exact Option.some.inj h
   subst hq;clear hrest hI1;repeat (first|refine rQ rfl ?_|refine cS aB ?_|refine cZ ?_)
   refine bV aB rfl (sU rfl (by simp) (by decide)) (by kernel_rfl) (fun u hu=>run_eq_of fun K_ hK_=>by have hc:=(Ext.twin hu).cell hc1;go_simp;exact hK_) ?_
   simp only[stO_some];refine iC Tryz.func15 (rS v.heap.size v.heap.size v.heap.size v.heap.size svc sv1 Tb Tb hIc hIb hz hzb (by omega) (by omega)) ?_;rintro _ S7 w7 _ ⟨rfl,eS,eW⟩;subst S7 w7;rw[hal];repeat (first|refine rQ rfl ?_|refine cS aB ?_|refine cZ ?_)
   refine rZ (by simp[Act.eval]) ?_;repeat (first|refine rQ rfl ?_|refine cS aB ?_|refine cZ ?_)
   refine bV aB rfl rfl (by kernel_rfl) (fun u hu=>run_eq_of fun K_ hK_=>by have hc:=(Ext.twin hu).cell hc0;go_simp;exact hK_) ?_
   simp only[stO_some];repeat (first|refine rQ rfl ?_|refine cS aB ?_|refine cZ ?_)
   refine rX (by simp[Act.eval]) ?_;repeat (first|refine rQ rfl ?_|refine cS aB ?_|refine cZ ?_)
   refine bV aB rfl rfl (by kernel_rfl) (fun u hu=>run_eq_of fun K_ hK_=>by have hc:=(Ext.twin hu).cell hc1;go_simp;exact hK_) ?_
   simp only[stO_some];repeat (first|refine rQ rfl ?_|refine cS aB ?_|refine cZ ?_)
   exact next _ sv1 hIb (by simp[g3]) (by simp[g4]) (by simp) (by simp[g13]) (by simp[g14])
end
