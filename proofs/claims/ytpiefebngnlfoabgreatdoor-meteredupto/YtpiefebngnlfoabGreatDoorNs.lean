import Derived.Test.YtpiefebngnlfoabGreatDoorNr
import Derived.Test.YtpiefebngnlfoabGreatDoorNq
set_option maxRecDepth 99999
set_option maxHeartbeats 0
set_option linter.unusedVariables false
set_option linter.unusedSimpArgs false
namespace Go.Proofs.YtpiefebngnlfoabGreatDoor
open Go.RowKit Go.Conc Go.Vw
theorem Tn(c c':Nat->Nat->Nat->Nat)(d p:Nat):dN c c' d p=dN c' c d p:=by
 unfold dN;have:bT (c d p) (c' d p) 0 96=bT (c' d p) (c d p) 0 96:=by
  cases h:bT (c' d p) (c d p) 0 96 with
  |true=>exact(fL _ _ 96 0).2 fun j h1 h2=>((fL _ _ 96 0).1 h j h1 h2).symm
  |false=>
   cases h':bT (c d p) (c' d p) 0 96 with
   |false=>rfl
   |true=>rw[(fL _ _ 96 0).2 fun j h1 h2=>((fL _ _ 96 0).1 h' j h1 h2).symm]at h;cases h
 rw[this]
theorem Fs(nd nb:Nat)(c c':Nat->Nat->Nat->Nat):dO nd nb c c'=dO nd nb c' c:=by
 unfold dO;refine oF nd fun d _=>oF nb fun p _=>Tn c c' d p
theorem Fr{nd nb:Nat}{c a:Nat->Nat->Nat->Nat}(ha:∀ d p i,a d p i<256):dO nd nb (aH (fun d=>bG nb (a d)) 0).c c=dO nd nb a c:=by
 rw[Fs,qS ha,Fs]
def jF(nb nd:Nat)(Tx:Nat->ByteArray)(lb:Nat->Lb)(Gf:Nat->Nat->Bool)(A:Nat->Ac)(na sc wr:Nat)(w:World)(g:Nat)(s:Dsk):Prop:=cC w g nd (fun d=>bG nb (s.a d))∧(∃ L t,jN nb Tx lb Gf A (na / 2) sc wr na s L t)∧(∀ d p i,s.a d p i<256)∧(549755813888<=wr->s.a=s.c)
section
variable {w w' v:World}{S:Nat->Prop}
theorem Tb{f:Nat->Value}{Stop:Goroutine->(Nat->Prop)->World->Prop}{cs:List Frame}(t:TypeId)(e:Value)(hg0:v.cell? ⟨0,0,none⟩=some (.iface t e))(hg:Tryz.prog.globals.size<=v.heap.size)(sb:Int)(hs1:-9223372036854775808<=sb)(hs2:sb<=9223372036854775807)(p2:Option Addr)(na2 cap2:Nat)(A2:Nat->Ac)(hA2:iK v.heap.size v p2 na2 A2)(hna2:na2<=1048576)(nd nb turn gd' cd' k:Nat)(T':Nat->ByteArray)(T:List It)(lb:Nat->Lb)(Gf:Nat->Nat->Bool)(E:Nat->Bool)(n14:14<=nd)(n18:nd<=18)(b4:4<=nb)(b15:nb<=15)(htu:turn<=2097152)(hM:∀ wr,MidW nb turn (aH T' wr).c T lb Gf E)(hO:TextsOk nd nb T')(hk:k<120)(hKv:Kp v (fun _=>False) w)(hTx':cC w gd' nd T')
  (g4:f 4=.slice p2 na2 cap2) (g5:f 5=.int .i64 sb) (g17:f 17=.slice (some ⟨gd',0,none⟩) nd cd') (g18:f 18=.int .i64 (k:Nat))
  (next:∀ f' S' w' gA gB gC gD gF sA sB sC sD sF,Kp v (fun _=>False) w'->cC w' gd' nd T'->jF nb nd T' lb Gf A2 na2 (bB sb 9) 0 w' gA sA->jF nb nd T' lb Gf A2 na2 (bB sb 9) k w' gB sB->jF nb nd T' lb Gf A2 na2 (bB sb 9) (k+1) w' gC sC->jF nb nd T' lb Gf A2 na2 (bB sb 9) 1099511627776 w' gD sD->jF nb nd T' lb Gf A2 na2 (bB sb 9) 1099511627776 w' gF sF->f' 4=.slice p2 na2 cap2->f' 5=.int .i64 sb->f' 17=.slice (some ⟨gd',0,none⟩) nd cd'->f' 18=.int .i64 (k:Nat)->f' 19=.slice (some ⟨gA,0,none⟩) nd nd->f' 20=.slice (some ⟨gB,0,none⟩) nd nd->f' 21=.slice (some ⟨gC,0,none⟩) nd nd->f' 22=.slice (some ⟨gD,0,none⟩) nd nd->f' 23=.slice (some ⟨gF,0,none⟩) nd nd->Vw.Reach Tryz.prog Stop (G ((base 5).at ⟨TA 118 f',[]⟩ [.code (sq 10 (Tryz.f5.body.getD .skip))]) cs) S' w') :
  Vw.Reach Tryz.prog Stop (G ((base 5).at ⟨TA 118 f,[]⟩ [.code (sq 5 (Tryz.f5.body.getD .skip))]) cs) S w:=by
 have hsc:=iR sb (n:=9) (by omega);simp only[sq,Tryz.f5,Option.getD_some]at next ⊢
 repeat refine rN ?_
 refine rK Tryz.func16 (iS sb 9 (by omega) (by omega) hs1 hs2) ?_;rintro _ S4 w4 _ ⟨rfl,eS,eW⟩;subst S4 w4;repeat refine rN ?_
 refine rK Tryz.func21 (oN t e (hKv.cell (fun h=>h) hg0) (Nat.le_trans hg hKv.size) v.heap.size gd' cd' 0 turn T' T lb Gf E (hM _) htu (by omega) b4 b15 n14 n18 hO hTx' hKv.size p2 na2 cap2 A2 (hA2.kp (dM _ v) hKv) hna2 (bB sb 9) (by omega)) ?_;rintro _ S5 w10 _ ⟨hKm,gA,sA,LA,tA,rfl,hTA,hMA,hBA,hEA⟩;replace hKv:=hKv.trans hKm;replace hTx':cC w10 gd' nd T':=fun j hj=>hKm.cell (fun h=>h) (hTx' j hj)
 clear hKm;repeat refine rN ?_
 refine rK Tryz.func16 (iS sb 9 (by omega) (by omega) hs1 hs2) ?_;rintro _ S4 w4 _ ⟨rfl,eS,eW⟩;subst S4 w4;repeat refine rN ?_
 refine rK Tryz.func21 (oN t e (hKv.cell (fun h=>h) hg0) (Nat.le_trans hg hKv.size) v.heap.size gd' cd' k turn T' T lb Gf E (hM _) htu (by omega) b4 b15 n14 n18 hO hTx' hKv.size p2 na2 cap2 A2 (hA2.kp (dM _ v) hKv) hna2 (bB sb 9) (by omega)) ?_;rintro _ S5 w11 _ ⟨hKm,gB,sB,LB,tB,rfl,hTB,hMB,hBB,hEB⟩;replace hKv:=hKv.trans hKm;replace hTx':cC w11 gd' nd T':=fun j hj=>hKm.cell (fun h=>h) (hTx' j hj)
 replace hTA:cC w11 gA nd (fun d=>bG nb (sA.a d)):=fun j hj=>hKm.cell (fun h=>h) (hTA j hj)
 clear hKm;repeat refine rN ?_
 refine rK Tryz.func16 (iS sb 9 (by omega) (by omega) hs1 hs2) ?_;rintro _ S4 w4 _ ⟨rfl,eS,eW⟩;subst S4 w4;repeat refine rN ?_
 refine rK Tryz.func21 (oN t e (hKv.cell (fun h=>h) hg0) (Nat.le_trans hg hKv.size) v.heap.size gd' cd' (k+1) turn T' T lb Gf E (hM _) htu (by omega) b4 b15 n14 n18 hO hTx' hKv.size p2 na2 cap2 A2 (hA2.kp (dM _ v) hKv) hna2 (bB sb 9) (by omega)) ?_;rintro _ S5 w12 _ ⟨hKm,gC,sC,LC,tC,rfl,hTC,hMC,hBC,hEC⟩;replace hKv:=hKv.trans hKm;replace hTx':cC w12 gd' nd T':=fun j hj=>hKm.cell (fun h=>h) (hTx' j hj)
 replace hTA:cC w12 gA nd (fun d=>bG nb (sA.a d)):=fun j hj=>hKm.cell (fun h=>h) (hTA j hj)
 replace hTB:cC w12 gB nd (fun d=>bG nb (sB.a d)):=fun j hj=>hKm.cell (fun h=>h) (hTB j hj)
 clear hKm;repeat refine rN ?_
 refine rK Tryz.func16 (iS sb 9 (by omega) (by omega) hs1 hs2) ?_;rintro _ S4 w4 _ ⟨rfl,eS,eW⟩;subst S4 w4;repeat refine rN ?_
 refine rK Tryz.func21 (oN t e (hKv.cell (fun h=>h) hg0) (Nat.le_trans hg hKv.size) v.heap.size gd' cd' 1099511627776 turn T' T lb Gf E (hM _) htu (by omega) b4 b15 n14 n18 hO hTx' hKv.size p2 na2 cap2 A2 (hA2.kp (dM _ v) hKv) hna2 (bB sb 9) (by omega)) ?_;rintro _ S5 w13 _ ⟨hKm,gD,sD,LD,tD,rfl,hTD,hMD,hBD,hED⟩;replace hKv:=hKv.trans hKm;replace hTx':cC w13 gd' nd T':=fun j hj=>hKm.cell (fun h=>h) (hTx' j hj)
 replace hTA:cC w13 gA nd (fun d=>bG nb (sA.a d)):=fun j hj=>hKm.cell (fun h=>h) (hTA j hj)
 replace hTB:cC w13 gB nd (fun d=>bG nb (sB.a d)):=fun j hj=>hKm.cell (fun h=>h) (hTB j hj)
 replace hTC:cC w13 gC nd (fun d=>bG nb (sC.a d)):=fun j hj=>hKm.cell (fun h=>h) (hTC j hj)
 clear hKm;repeat refine rN ?_
 refine rK Tryz.func16 (iS sb 9 (by omega) (by omega) hs1 hs2) ?_;rintro _ S4 w4 _ ⟨rfl,eS,eW⟩;subst S4 w4;repeat refine rN ?_
 refine rK Tryz.func21 (oN t e (hKv.cell (fun h=>h) hg0) (Nat.le_trans hg hKv.size) v.heap.size gd' cd' 1099511627776 turn T' T lb Gf E (hM _) htu (by omega) b4 b15 n14 n18 hO hTx' hKv.size p2 na2 cap2 A2 (hA2.kp (dM _ v) hKv) hna2 (bB sb 9) (by omega)) ?_;rintro _ S5 w14 _ ⟨hKm,gF,sF,LF,tF,rfl,hTF,hMF,hBF,hEF⟩;replace hKv:=hKv.trans hKm;replace hTx':cC w14 gd' nd T':=fun j hj=>hKm.cell (fun h=>h) (hTx' j hj)
 replace hTA:cC w14 gA nd (fun d=>bG nb (sA.a d)):=fun j hj=>hKm.cell (fun h=>h) (hTA j hj)
 replace hTB:cC w14 gB nd (fun d=>bG nb (sB.a d)):=fun j hj=>hKm.cell (fun h=>h) (hTB j hj)
 replace hTC:cC w14 gC nd (fun d=>bG nb (sC.a d)):=fun j hj=>hKm.cell (fun h=>h) (hTC j hj)
 replace hTD:cC w14 gD nd (fun d=>bG nb (sD.a d)):=fun j hj=>hKm.cell (fun h=>h) (hTD j hj)
 clear hKm;refine rY aB ?_;refine rE ?_;exact next _ _ w14 gA gB gC gD gF sA sB sC sD sF hKv hTx' ⟨hTA,⟨LA,tA,hMA⟩,hBA,hEA⟩ ⟨hTB,⟨LB,tB,hMB⟩,hBB,hEB⟩ ⟨hTC,⟨LC,tC,hMC⟩,hBC,hEC⟩ ⟨hTD,⟨LD,tD,hMD⟩,hBD,hED⟩ ⟨hTF,⟨LF,tF,hMF⟩,hBF,hEF⟩ (by simp[g4]) (by simp[g5]) (by simp[g17]) (by simp[g18]) (by simp) (by simp) (by simp) (by simp) (by simp)
theorem Gu(nd nb:Nat)(T':Nat->ByteArray)(s1 s2:Dsk)(w1 w2:Nat)(V:List Wt)(h1:s1=(aH T' w1).wrs V)(h2:s2=(aH T' w2).wrs V)(a1:s1.a=s1.c)(a2:s2.a=s2.c)(b1:∀ d p i,s1.a d p i<256)(b2:∀ d p i,s2.a d p i<256):dO nd nb (aH (fun d=>bG nb (s1.a d)) 0).c (aH (fun d=>bG nb (s2.a d)) 0).c=0:=by
 rw[qS b2,Fr b1,a1,a2,h1,h2,jB,jB];exact qL nd nb _
theorem Ta{f:Nat->Value}{Stop:Goroutine->(Nat->Prop)->World->Prop}{cs:List Frame}(t:TypeId)(e:Value)(hg0:v.cell? ⟨0,0,none⟩=some (.iface t e))(hg:Tryz.prog.globals.size<=v.heap.size)(sb:Int)(hs1:-9223372036854775808<=sb)(hs2:sb<=9223372036854775807)(p2:Option Addr)(na2 cap2:Nat)(A2:Nat->Ac)(hA2:iK v.heap.size v p2 na2 A2)(hna2:na2<=1048576)(nd nb turn gd' cd' k:Nat)(T':Nat->ByteArray)(T:List It)(lb:Nat->Lb)(Gf:Nat->Nat->Bool)(E:Nat->Bool)(n14:14<=nd)(n18:nd<=18)(b4:4<=nb)(b15:nb<=15)(htu:turn<=2097152)(hM:∀ wr,MidW nb turn (aH T' wr).c T lb Gf E)(hO:TextsOk nd nb T')(hk:k<120)(hKv:Kp v (fun _=>False) w)(hTx':cC w gd' nd T')(gA gB gC gD gF:Nat)(sA sB sC sD sF:Dsk)(hA:jF nb nd T' lb Gf A2 na2 (bB sb 9) 0 w gA sA)(hB:jF nb nd T' lb Gf A2 na2 (bB sb 9) k w gB sB)(hC:jF nb nd T' lb Gf A2 na2 (bB sb 9) (k+1) w gC sC)(hD:jF nb nd T' lb Gf A2 na2 (bB sb 9) 1099511627776 w gD sD)(hF:jF nb nd T' lb Gf A2 na2 (bB sb 9) 1099511627776 w gF sF)
  (g4:f 4=.slice p2 na2 cap2) (g5:f 5=.int .i64 sb) (g17:f 17=.slice (some ⟨gd',0,none⟩) nd cd') (g18:f 18=.int .i64 (k:Nat)) (g19:f 19=.slice (some ⟨gA,0,none⟩) nd nd) (g20:f 20=.slice (some ⟨gB,0,none⟩) nd nd) (g21:f 21=.slice (some ⟨gC,0,none⟩) nd nd) (g22:f 22=.slice (some ⟨gD,0,none⟩) nd nd) (g23:f 23=.slice (some ⟨gF,0,none⟩) nd nd)
  (next:∀ f' S' w' ub uc,Kp v (fun _=>False) w'->cC w' gd' nd T'->jF nb nd T' lb Gf A2 na2 (bB sb 9) 1099511627776 w' gD sD->ub<=1->uc<=k->f' 4=.slice p2 na2 cap2->f' 5=.int .i64 sb->f' 17=.slice (some ⟨gd',0,none⟩) nd cd'->f' 18=.int .i64 (k:Nat)->f' 22=.slice (some ⟨gD,0,none⟩) nd nd->f' 24=.int .i64 0->f' 25=.int .i64 (ub:Nat)->f' 26=.int .i64 (uc:Nat)->f' 27=.int .i64 0->Vw.Reach Tryz.prog Stop (G ((base 5).at ⟨TA 118 f',[]⟩ [.code (sq 14 (Tryz.f5.body.getD .skip))]) cs) S' w') :
  Vw.Reach Tryz.prog Stop (G ((base 5).at ⟨TA 118 f,[]⟩ [.code (sq 10 (Tryz.f5.body.getD .skip))]) cs) S w:=by
 have hsc:=iR sb (n:=9) (by omega);obtain⟨hTA,⟨LA,tA,hMA⟩,hBA,hEA⟩:=hA;obtain⟨hTB,⟨LB,tB,hMB⟩,hBB,hEB⟩:=hB;obtain⟨hTC,⟨LC,tC,hMC⟩,hBC,hEC⟩:=hC;obtain⟨hTD,⟨LD,tD,hMD⟩,hBD,hED⟩:=hD;obtain⟨hTF,⟨LF,tF,hMF⟩,hBF,hEF⟩:=hF;simp only[sq,Tryz.f5,Option.getD_some]at next ⊢
 obtain⟨_,_,WA,eA,eA'⟩:=hMA.twin hMA;obtain⟨_,_,W,eB,eC⟩:=hMB.twin hMC;obtain⟨_,_,WD,eD,eF⟩:=hMD.twin hMF;have uA:dO nd nb (aH T' 0).c (aH (fun d=>bG nb (sA.a d)) 0).c=0:=by
  rw[qS hBA,eA,jB];show dO nd nb (aH T' 0).c (app (aH T' 0).c (WA.take 0))=0;rw[List.take_zero];exact qL nd nb _
 have uB:dO nd nb (aH (fun d=>bG nb (sB.a d)) 0).c (aH (fun d=>bG nb (sC.a d)) 0).c<=1:=by
  rw[qS hBC,Fr hBB,eB,eC,jB,jB];exact Tv nd nb _ W k
 have uC:dO nd nb (aH T' 0).c (aH (fun d=>bG nb (sB.a d)) 0).c<=k:=by
  rw[qS hBB,eB,jB];have:=zH nd nb (aH T' 0).c (W.take k) (aH T' 0).c;rw[qL,List.length_take]at this;show dO nd nb (aH T' 0).c (app (aH T' 0).c (W.take k))<=k;omega
 have uE:=Gu nd nb T' sD sF _ _ WD eD eF (hED (by omega)) (hEF (by omega)) hBD hBF;have zT:∀ a:Nat->Nat->Nat->Nat,∀ d,d<nd->(bG nb (a d)).size=nb*96:=fun a d _=>mP _ _
 clear eA eA' eB eC eD eF hMA hMB hMC hMF hEA hEB hEC hEF WA W WD;repeat refine rN ?_
 refine rK Tryz.func20 (qO gd' gA nd nb cd' nd T' (fun d=>bG nb (sA.a d)) n18 (by omega) b4 hTx' hTA hO.len (zT _)) ?_;rintro _ S6 w20 _ ⟨rfl,eS,hE⟩;subst S6;replace hKv:=hKv.ext hE;replace hTx':=hTx'.ext hE;replace hTB:=hTB.ext hE;replace hTC:=hTC.ext hE;replace hTD:=hTD.ext hE;replace hTF:=hTF.ext hE;clear hE;rw[uA];repeat refine rN ?_
 refine rK Tryz.func20 (qO gB gC nd nb nd nd (fun d=>bG nb (sB.a d)) (fun d=>bG nb (sC.a d)) n18 (by omega) b4 hTB hTC (fun d _=>.inr (mP _ _)) (zT _)) ?_;rintro _ S6 w21 _ ⟨rfl,eS,hE⟩;subst S6;replace hKv:=hKv.ext hE;replace hTx':=hTx'.ext hE;replace hTB:=hTB.ext hE;replace hTD:=hTD.ext hE;replace hTF:=hTF.ext hE;clear hE;generalize dO nd nb (aH (fun d=>bG nb (sB.a d)) 0).c (aH (fun d=>bG nb (sC.a d)) 0).c=ub at uB;repeat refine rN ?_
 refine rK Tryz.func20 (qO gd' gB nd nb cd' nd T' (fun d=>bG nb (sB.a d)) n18 (by omega) b4 hTx' hTB hO.len (zT _)) ?_;rintro _ S6 w22 _ ⟨rfl,eS,hE⟩;subst S6;replace hKv:=hKv.ext hE;replace hTx':=hTx'.ext hE;replace hTD:=hTD.ext hE;replace hTF:=hTF.ext hE;clear hE;generalize dO nd nb (aH T' 0).c (aH (fun d=>bG nb (sB.a d)) 0).c=uc at uC;repeat refine rN ?_
 refine rK Tryz.func20 (qO gD gF nd nb nd nd (fun d=>bG nb (sD.a d)) (fun d=>bG nb (sF.a d)) n18 (by omega) b4 hTD hTF (fun d _=>.inr (mP _ _)) (zT _)) ?_;rintro _ S6 w23 _ ⟨rfl,eS,hE⟩;subst S6;replace hKv:=hKv.ext hE;replace hTx':=hTx'.ext hE;replace hTD:=hTD.ext hE;clear hE;rw[uE];refine rY aB ?_;refine rE ?_;exact next _ _ w23 ub uc hKv hTx' ⟨hTD,⟨LD,tD,hMD⟩,hBD,hED⟩ uB uC (by simp[g4]) (by simp[g5]) (by simp[g17]) (by simp[g18]) (by simp[g22]) (by simp) (by simp) (by simp) (by simp)
theorem Sz{f:Nat->Value}{Stop:Goroutine->(Nat->Prop)->World->Prop}{cs:List Frame}(t:TypeId)(e:Value)(hg0:v.cell? ⟨0,0,none⟩=some (.iface t e))(hg:Tryz.prog.globals.size<=v.heap.size)(sb:Int)(hs1:-9223372036854775808<=sb)(hs2:sb<=9223372036854775807)(p2:Option Addr)(na2 cap2:Nat)(A2:Nat->Ac)(hA2:iK v.heap.size v p2 na2 A2)(hna2:na2<=1048576)(nd nb turn gd' cd' k:Nat)(T':Nat->ByteArray)(T:List It)(lb:Nat->Lb)(Gf:Nat->Nat->Bool)(E:Nat->Bool)(n14:14<=nd)(n18:nd<=18)(b4:4<=nb)(b15:nb<=15)(htu:turn<=2097152)(hM:∀ wr,MidW nb turn (aH T' wr).c T lb Gf E)(hO:TextsOk nd nb T')(hk:k<120)(hKv:Kp v (fun _=>False) w)(hTx':cC w gd' nd T')(gD:Nat)(sD:Dsk)(hD:jF nb nd T' lb Gf A2 na2 (bB sb 9) 1099511627776 w gD sD)(ub uc:Nat)
  (g4:f 4=.slice p2 na2 cap2) (g5:f 5=.int .i64 sb) (g17:f 17=.slice (some ⟨gd',0,none⟩) nd cd') (g18:f 18=.int .i64 (k:Nat)) (g22:f 22=.slice (some ⟨gD,0,none⟩) nd nd) (g24:f 24=.int .i64 0) (g25:f 25=.int .i64 (ub:Nat)) (g26:f 26=.int .i64 (uc:Nat)) (g27:f 27=.int .i64 0)
  (next:∀ f' S' w',Kp v (fun _=>False) w'->f' 18=.int .i64 (k:Nat)->f' 24=.int .i64 0->f' 25=.int .i64 (ub:Nat)->f' 26=.int .i64 (uc:Nat)->f' 27=.int .i64 0->f' 28=.int .i64 0->Vw.Reach Tryz.prog Stop (G ((base 5).at ⟨TA 118 f',[]⟩ [.code (sq 15 (Tryz.f5.body.getD .skip))]) cs) S' w') :
  Vw.Reach Tryz.prog Stop (G ((base 5).at ⟨TA 118 f,[]⟩ [.code (sq 14 (Tryz.f5.body.getD .skip))]) cs) S w:=by
 have hsc:=iR sb (n:=9) (by omega);obtain⟨hTD,⟨LD,tD,hMD⟩,hBD,hED⟩:=hD;simp only[sq,Tryz.f5,Option.getD_some]at next ⊢
 repeat refine rN ?_
 refine rK Tryz.func16 (iS sb 9 (by omega) (by omega) hs1 hs2) ?_;rintro _ S4 w4 _ ⟨rfl,eS,eW⟩;subst S4 w4;repeat refine rN ?_
 refine rK Tryz.func21 (oN t e (hKv.cell (fun h=>h) hg0) (Nat.le_trans hg hKv.size) v.heap.size gd' cd' 549755813888 turn T' T lb Gf E (hM _) htu (by omega) b4 b15 n14 n18 hO hTx' hKv.size p2 na2 cap2 A2 (hA2.kp (dM _ v) hKv) hna2 (bB sb 9) (by omega)) ?_;rintro _ S5 w24 _ ⟨hKm,gH,sH,LH,tH,rfl,hTH,hMH,hBH,hEH⟩;replace hKv:=hKv.trans hKm;replace hTx':cC w24 gd' nd T':=fun j hj=>hKm.cell (fun h=>h) (hTx' j hj)
 replace hTD:cC w24 gD nd (fun d=>bG nb (sD.a d)):=fun j hj=>hKm.cell (fun h=>h) (hTD j hj)
 clear hKm;obtain⟨_,_,WD,eD,eH⟩:=hMD.twin hMH;have uH:=Gu nd nb T' sD sH _ _ WD eD eH (hED (by omega)) (hEH (by omega)) hBD hBH;repeat refine rN ?_
 refine rK Tryz.func20 (qO gD gH nd nb nd nd (fun d=>bG nb (sD.a d)) (fun d=>bG nb (sH.a d)) n18 (by omega) b4 hTD hTH (fun d _=>.inr (mP _ _)) (fun d _=>mP _ _)) ?_;rintro _ S6 w25 _ ⟨rfl,eS,hE⟩;subst S6;replace hKv:=hKv.ext hE;clear hE;rw[uH];refine rY aB ?_;refine rE ?_;exact next _ _ w25 hKv (by simp[g18]) (by simp[g24]) (by simp[g25]) (by simp[g26]) (by simp[g27]) (by simp)
theorem Sy{f:Nat->Value}{Stop:Goroutine->(Nat->Prop)->World->Prop}{cs:List Frame}(k ub uc:Nat)(uB:ub<=1)(uC:uc<=k)(hk:k<120)(hKv:Kp v (fun _=>False) w)(g18:f 18=.int .i64 (k:Nat))(g24:f 24=.int .i64 0)(g25:f 25=.int .i64 (ub:Nat))(g26:f 26=.int .i64 (uc:Nat))(g27:f 27=.int .i64 0)(g28:f 28=.int .i64 0)
  (ret:∀ f' todo S' v',f' 14=.bool true->Kp v (fun _=>False) v'->Vw.Reach Tryz.prog Stop (G {(base 5).at ⟨TA 118 f',[]⟩ todo with mode:=.returning} cs) S' v') :
  Vw.Reach Tryz.prog Stop (G ((base 5).at ⟨TA 118 f,[]⟩ [.code (sq 15 (Tryz.f5.body.getD .skip))]) cs) S w:=by
 simp only[sq,Tryz.f5,Option.getD_some];have hcI:(uc:Int)<=(k:Int):=by omega
 have hc0:(0:Int)<=(uc:Int):=by omega
 rcases(by omega:ub=0∨ub=1) with rfl|rfl
 .skip;repeat refine rN ?_
  refine aP fun todo=>?_
  exact ret _ _ _ w (by simp) hKv
 .skip;repeat refine rN ?_
  refine aP fun todo=>?_
  exact ret _ _ _ w (by simp) hKv
theorem La(t:TypeId)(e:Value)(hg0:v.cell? ⟨0,0,none⟩=some (.iface t e))(hg:Tryz.prog.globals.size<=v.heap.size)(n b sb wt:Int)(hn1:-9223372036854775808<=n)(hn2:n<=9223372036854775807)(hb1:-9223372036854775808<=b)(hb2:b<=9223372036854775807)(hs1:-9223372036854775808<=sb)(hs2:sb<=9223372036854775807)(hw1:-9223372036854775808<=wt)(hw2:wt<=9223372036854775807)(p:Option Addr)(na cap:Nat)(A:Nat->Ac)(hA:iK v.heap.size v p na A)(hna:na<=1048576)(q:Option Addr)(nl capq:Nat)(Q:Nat->Dm)(hQ:mB v.heap.size v q nl Q)(hnl:nl<2 ^ 62)(p2:Option Addr)(na2 cap2:Nat)(A2:Nat->Ac)(hA2:iK v.heap.size v p2 na2 A2)(hna2:na2<=1048576) :
  ∀ (Stop:Goroutine->(Nat->Prop)->World->Prop) (cs:List Frame),(∀ f' todo S' v',f' 14=.bool true->Kp v (fun _=>False) v'->Vw.Reach Tryz.prog Stop (G {(base 5).at ⟨TA 118 f',[]⟩ todo with mode:=.returning} cs) S' v')->
   Vw.Reach Tryz.prog Stop (G ((base 5).at ⟨TA 118 (cV #[.int .i64 n,.int .i64 b,.slice p na cap,.slice q nl capq,.slice p2 na2 cap2,.int .i64 sb,.int .i64 wt]),[]⟩ [.code (Tryz.f5.body.getD .skip)]) cs) S v:=by
 intro Stop cs ret;simp only[Tryz.f5,Option.getD_some];have g0:cV #[.int .i64 n,.int .i64 b,.slice p na cap,.slice q nl capq,.slice p2 na2 cap2,.int .i64 sb,.int .i64 wt] 0=.int .i64 n:=rfl;have g1:cV #[.int .i64 n,.int .i64 b,.slice p na cap,.slice q nl capq,.slice p2 na2 cap2,.int .i64 sb,.int .i64 wt] 1=.int .i64 b:=rfl;have g2:cV #[.int .i64 n,.int .i64 b,.slice p na cap,.slice q nl capq,.slice p2 na2 cap2,.int .i64 sb,.int .i64 wt] 2=.slice p na cap:=rfl;have g3:cV #[.int .i64 n,.int .i64 b,.slice p na cap,.slice q nl capq,.slice p2 na2 cap2,.int .i64 sb,.int .i64 wt] 3=.slice q nl capq:=rfl;have g4:cV #[.int .i64 n,.int .i64 b,.slice p na cap,.slice q nl capq,.slice p2 na2 cap2,.int .i64 sb,.int .i64 wt] 4=.slice p2 na2 cap2:=rfl;have g5:cV #[.int .i64 n,.int .i64 b,.slice p na cap,.slice q nl capq,.slice p2 na2 cap2,.int .i64 sb,.int .i64 wt] 5=.int .i64 sb:=rfl;have g6:cV #[.int .i64 n,.int .i64 b,.slice p na cap,.slice q nl capq,.slice p2 na2 cap2,.int .i64 sb,.int .i64 wt] 6=.int .i64 wt:=rfl;generalize cV #[.int .i64 n,.int .i64 b,.slice p na cap,.slice q nl capq,.slice p2 na2 cap2,.int .i64 sb,.int .i64 wt]=f at g0 g1 g2 g3 g4 g5 g6;repeat refine rN ?_
 refine rK Tryz.func7 (Wm t e hg0 hg n b hn1 hn2 hb1 hb2 p na cap A hA hna) ?_;rintro _ S1 w1 _ ⟨hK1,X,D,DB,DA,M,RB,RA,turn,s,L,T,sv,rfl,hH,hSo,hI,hTL⟩;have hp5:=iR n (n:=5) (by omega);have hp12:=iR b (n:=12) (by omega);obtain⟨nd,hnd⟩:∃ nd,nd=14+bB n 5:=⟨_,rfl⟩;obtain⟨nb,hnb⟩:∃ nb,nb=4+bB b 12:=⟨_,rfl⟩;rw[<-hnd,<-hnb]at hH;have n14:14<=nd:=by omega
 have n18:nd<=18:=by omega
 have b4:4<=nb:=by omega
 have b15:nb<=15:=by omega
 clear hnd hnb hp5 hp12 g0 g1 g2 hTL hI;have htu:=hH.turn;repeat refine rN ?_
 refine rZ (by simp[Act.eval]) ?_;repeat refine rN ?_
 refine rK Tryz.func10 (Hd b4 n14 n18 (by omega) hH.st) ?_;rintro _ S2 w2 _ ⟨e1,hE2,gd,rfl,hgd,hTx⟩;subst S2;have hK2:=hK1.ext hE2;repeat refine rN ?_
 refine rK Tryz.func9 (Tp v.heap.size nd nb gd nd (fun d=>bG nb (s.a d)) n14 n18 b4 (by omega) hTx (fun d _=>mP _ _) q nl capq Q hnl (hQ.kp (dM _ v) hK2)) ?_;rintro _ S2 w3 _ ⟨e1,hE3,gd',cd',T',HH,rfl,hTx',hHarm⟩;subst S2;have hK3:=hK2.ext hE3;have hM0:=hH.harmed (wr:=0) hSo (by omega) n14 hHarm;have hO:=hHarm.texts n14 fun d _=>mP _ _
 have hM:∀ wr,MidW nb turn (aH T' wr).c T (jH L) (gZ L (aH T' 0).c) (cD L):=fun _=>hM0
 generalize jH L=lb at hM;generalize gZ L (aH T' 0).c=Gf at hM;generalize cD L=E at hM;clear hM0 hHarm hTx hE2 hE3 hK1 hK2 hH hSo;have hk:=iR wt (n:=120) (by omega);repeat refine rN ?_
 refine rK Tryz.func16 (iS wt 120 (by omega) (by omega) hw1 hw2) ?_;rintro _ S4 w4 _ ⟨rfl,eS,eW⟩;subst S4 w4;generalize bB wt 120=k at hk;refine rY aB ?_;refine rE ?_;refine Tb t e hg0 hg sb hs1 hs2 p2 na2 cap2 A2 hA2 hna2 nd nb turn gd' cd' k T' T lb Gf E n14 n18 b4 b15 htu hM hO hk hK3 hTx' (by simp[g4]) (by simp[g5]) (by simp) (by simp) fun f2 S5 w5 gA gB gC gD gF sA sB sC sD sF hK5 hT5 hA hB hC hD hF q4 q5 q17 q18 q19 q20 q21 q22 q23=>?_
 refine Ta t e hg0 hg sb hs1 hs2 p2 na2 cap2 A2 hA2 hna2 nd nb turn gd' cd' k T' T lb Gf E n14 n18 b4 b15 htu hM hO hk hK5 hT5 gA gB gC gD gF sA sB sC sD sF hA hB hC hD hF q4 q5 q17 q18 q19 q20 q21 q22 q23 fun f3 S6 w6 ub uc hK6 hT6 hD6 uB uC r4 r5 kL r18 r22 r24 r25 r26 r27=>?_
 refine Sz t e hg0 hg sb hs1 hs2 p2 na2 cap2 A2 hA2 hna2 nd nb turn gd' cd' k T' T lb Gf E n14 n18 b4 b15 htu hM hO hk hK6 hT6 gD sD hD6 ub uc r4 r5 kL r18 r22 r24 r25 r26 r27 fun f4 S7 w7 hK7 u18 u24 u25 u26 u27 u28=>?_
 exact Sy k ub uc uB uC hk hK7 u18 u24 u25 u26 u27 u28 ret
end
