import Derived.Test.YtpiefebngnlfoabGreatDoorNu
import Derived.Test.YtpiefebngnlfoabGreatDoorNv
import Derived.Test.YtpiefebngnlfoabGreatDoorNw
import Derived.Test.YtpiefebngnlfoabGreatDoorNx
import Derived.Test.YtpiefebngnlfoabGreatDoorNy
import Derived.Test.YtpiefebngnlfoabGreatDoorNz
import Derived.Test.YtpiefebngnlfoabGreatDoorOa
set_option maxRecDepth 99999
set_option maxHeartbeats 0
set_option linter.unusedVariables false
set_option linter.unusedSimpArgs false
namespace Go.Proofs.YtpiefebngnlfoabGreatDoor
open Go.RowKit Go.Conc Go.Vw
section
variable {w w' v:World}{S:Nat->Prop}
theorem Ya{f:Nat->Value}{Stop:Goroutine->(Nat->Prop)->World->Prop}{cs:List Frame}(t:TypeId)(e:Value)(hg0:v.cell? ⟨0,0,none⟩=some (.iface t e))(hg:Tryz.prog.globals.size<=v.heap.size)(n b wt ag:Int)(hn1:-9223372036854775808<=n)(hn2:n<=9223372036854775807)(hb1:-9223372036854775808<=b)(hb2:b<=9223372036854775807)(hw1:-9223372036854775808<=wt)(hw2:wt<=9223372036854775807)(p:Option Addr)(na cap:Nat)(A:Nat->Ac)(hA:iY v.heap.size v p na A)(hna:na<=1048576)(p2:Option Addr)(na2 cap2:Nat)(hna2:na2<=1048576)(q:Option Addr)(nl capq:Nat)
  (g0:f 0=.int .i64 n) (g1:f 1=.int .i64 b) (g2:f 2=.slice p na cap) (g3:f 3=.slice p2 na2 cap2) (g4:f 4=.int .i64 wt) (g5:f 5=.int .i64 ag) (g6:f 6=.slice q nl capq)
  (next:∀ f' S' w' nd nb wr gd Tx w2 X D DB DA M X' D' DB' DA' M' RB RA RB' RA' turn s t1 L L' T sv,14<=nd->nd<=18->4<=nb->nb<=15->wr<200->Kp v (fun _=>False) w2->Kp w2 (fun _=>False) w'->eH w2 gd nd Tx->(∀ d,d<nd->(Tx d).size=nb*96)->Duo w2.heap.size nd nb (549755813888+42*na2) 2097152 wr (aH Tx wr).c X D DB DA M X' D' DB' DA' M' RB RA RB' RA' turn s t1 L L' T w'->(∀ b:Bool,(b=true↔∀ d,d<nd->bS nb (s.a d)=bS nb (t1.a d))->14<=nd->cX (!b) nb 2097152 t1 [T] T)->aV v.heap.size v.heap.size w' sv T->(∀ x∈T,x.size<=400)->T.length<=6->f' 3=.slice p2 na2 cap2->f' 5=.int .i64 ag->f' 6=.slice q nl capq->f' 15=.pointer (some ⟨X,0,none⟩)->f' 16=sv->f' 17=.slice (some ⟨gd,0,none⟩) nd nd->f' 18=.int .i64 (wr:Nat)->f' 19=.pointer (some ⟨X',0,none⟩)->LR Stop cs 8 f' S' w') :
  LR Stop cs 0 f S v:=by
 unfold LR at next ⊢
 have e0:sq 0 (LB Tryz.f4)=.seq _ (.seq _ (.seq _ (.seq _ (.seq _ (.seq _ (.seq _ (.seq _ (sq 8 (LB Tryz.f4))))))))):=rfl;generalize sq 8 (LB Tryz.f4)=rst at e0 next
 rw[e0];clear e0;repeat (first|refine rQ rfl ?_|refine cY aB ?_|refine cZ ?_)
 refine fW Tryz.func7 (We t e hg0 hg n b hn1 hn2 hb1 hb2 p na cap A hA hna) ?_;rintro _ S1 w1 _ ⟨hK1,X0,D0,DB0,DA0,M0,RB0,RA0,turn0,s0,L0,T,sv,rfl,hH,hSo,hI,hTL⟩;have hp5:=jP n (n:=5) (by omega);have hp12:=jP b (n:=12) (by omega);obtain⟨nd,hnd⟩:∃ nd,nd=14+cR n 5:=⟨_,rfl⟩;obtain⟨nb,hnb⟩:∃ nb,nb=4+cR b 12:=⟨_,rfl⟩;rw[<-hnd,<-hnb]at hH;have n14:14<=nd:=by omega
 have n18:nd<=18:=by omega
 have b4:4<=nb:=by omega
 have b15:nb<=15:=by omega
 clear hnd hnb hp5 hp12 g0 g1 g2 hTL;have htu:=hH.turn;have hz:=hH.rep.size hH.st.ent;have hT6:=hH.rep.len6 hH.few;repeat (first|refine rQ rfl ?_|refine cY aB ?_|refine cZ ?_)
 refine rZ (by simp[Act.eval]) ?_;repeat (first|refine rQ rfl ?_|refine cY aB ?_|refine cZ ?_)
 refine fW Tryz.func10 (kB b4 n14 n18 (by omega) hH.st) ?_;rintro _ S2 w2 _ ⟨e1,hE2,gd,rfl,hgd,hTx⟩;subst S2;have hK2:=hK1.ext hE2;have hI2:=hI.kp0 (aX hE2);have hwk:=jP wt (n:=200) (by omega);have hMid:eC nb 2097152 s0.a T:=by
  rw[show s0.a=s0.c from hH.kept.1];exact eC.le ⟨_,_,_,(hH.hw.mid (by omega)).1⟩ htu
 obtain⟨lb,G,E,hW⟩:=hMid.texts (wr:=cR wt 200);have hO:TextsOk nd nb fun d=>bS nb (s0.a d):=⟨fun j _=>.inr (lN _ _),0,by omega,lN _ _⟩
 have hTz:∀ d,d<nd->((fun d=>bS nb (s0.a d)) d).size=nb*96:=fun d _=>lN _ _
 generalize (fun d=>bS nb (s0.a d))=Tx at hTx hW hO hTz;clear hMid hH hSo hI hE2 hK1;repeat (first|refine rQ rfl ?_|refine cY aB ?_|refine cZ ?_)
 refine fW Tryz.func16 (lR wt 200 (by omega) (by omega) hw1 hw2) ?_;rintro _ S4 w4 _ ⟨rfl,eS,eW⟩;subst S4 w4;generalize cR wt 200=wr at hwk hW;repeat (first|refine rQ rfl ?_|refine cY aB ?_|refine cZ ?_)
 refine fW Tryz.func8 (qH t e (hK2.cell (fun h=>h) hg0) (Nat.le_trans hg hK2.size) gd nd 1099511627776 Tx lb G (Nat.le_refl _) b4 n14 n18 (by omega) hO hTx hW.slot) ?_;rintro _ S5 w5 _ ⟨hK5,X,D,DB,DA,M,RB,RA,L,turn,rfl,hSv,hX,hown⟩;have hKv5:=hK2.trans hK5;have hTx5:eH w5 gd nd Tx:=fun j hj=>hK5.cell (fun h=>h) (hTx j hj)
 repeat (first|refine rQ rfl ?_|refine cY aB ?_|refine cZ ?_)
 refine fW Tryz.func8 (qH t e (hKv5.cell (fun h=>h) hg0) (Nat.le_trans hg hKv5.size) gd nd wr Tx lb G (by omega) b4 n14 n18 (by omega) hO hTx5 hW.slot) ?_;rintro _ S6 w6 _ ⟨hK6,X',D',DB',DA',M',RB',RA',L',turn',rfl,hSv',hX',hown'⟩;obtain⟨hD,hfl⟩:=hW.duo (n:=549755813888+42*na2) hSv hX hown hSv' hX' hown' hK5.size hK6 (by omega);generalize cD (aH Tx 1099511627776) (aU L) nb=s at hD hfl;generalize cD (aH Tx wr) (aU L') nb=t1 at hD hfl;have hKw6:Kp w2 (fun _=>False) w6:=hK5.trans hK6;have hI6:=hI2.kp0 hKw6;clear hSv hX hSv' hX' hown hown' hTx5 hK5 hK6 hKv5 hW hO;repeat (first|refine rQ rfl ?_|refine cY aB ?_|refine cZ ?_)
 refine rZ (by simp[Act.eval]) ?_;repeat (first|refine rQ rfl ?_|refine cY aB ?_|refine cZ ?_)
 exact next _ _ w6 nd nb wr gd Tx w2 X D DB DA M X' D' DB' DA' M' RB RA RB' RA' turn s t1 L L' T sv n14 n18 b4 b15 hwk hK2 hKw6 hTx hTz hD hfl hI6 hz hT6 (by simp[g3]) (by simp[g5]) (by simp[g6]) (by simp) (by simp) (by simp) (by simp) (by simp)
theorem Xz{f:Nat->Value}{Stop:Goroutine->(Nat->Prop)->World->Prop}{cs:List Frame}{X D DB DA M X' D' DB' DA' M':Nat}{RB RA RB' RA':Nat->Nat}{nd nb turn wr gd:Nat}{s t1:Dsk}{L L':List Ent}{Tx:Nat->ByteArray}{w2:World}(hg:Tryz.prog.globals.size<=v.heap.size)(ag:Int)(T:List It)(sv:Value)(p2:Option Addr)(na2 cap2:Nat)(A2:Nat->Ac)(hA2:iY v.heap.size v p2 na2 A2)(hna2:na2<=1048576)(q:Option Addr)(nl capq:Nat)(n14:14<=nd)(n18:nd<=18)(b4:4<=nb)(b15:nb<=15)(hK2:Kp v (fun _=>False) w2)(hKw6:Kp w2 (fun _=>False) w)(hD:Duo w2.heap.size nd nb (549755813888+42*na2) 2097152 wr (aH Tx wr).c X D DB DA M X' D' DB' DA' M' RB RA RB' RA' turn s t1 L L' T w)(hfl:∀ b:Bool,(b=true↔∀ d,d<nd->bS nb (s.a d)=bS nb (t1.a d))->14<=nd->cX (!b) nb 2097152 t1 [T] T)(hI6:aV v.heap.size v.heap.size w sv T)(hz:∀ x∈T,x.size<=400)(hT6:T.length<=6)
  (g3:f 3=.slice p2 na2 cap2) (g5:f 5=.int .i64 ag) (g6:f 6=.slice q nl capq) (g15:f 15=.pointer (some ⟨X,0,none⟩)) (g16:f 16=sv) (g17:f 17=.slice (some ⟨gd,0,none⟩) nd nd) (g18:f 18=.int .i64 (wr:Nat)) (g19:f 19=.pointer (some ⟨X',0,none⟩))
  (next:∀ f' S' w' turn s t L L' T lost Ts sv mv,Kp w2 (fun _=>False) w'->Duo w2.heap.size nd nb 549755813888 4194304 wr (aH Tx wr).c X D DB DA M X' D' DB' DA' M' RB RA RB' RA' turn s t L L' T w'->cX lost nb 4194304 t Ts T->dB v.heap.size w2.heap.size w' mv Ts->aV v.heap.size v.heap.size w' sv T->f' 5=.int .i64 ag->f' 6=.slice q nl capq->f' 15=.pointer (some ⟨X,0,none⟩)->f' 16=sv->f' 17=.slice (some ⟨gd,0,none⟩) nd nd->f' 18=.int .i64 (wr:Nat)->f' 19=.pointer (some ⟨X',0,none⟩)->f' 20=mv->LR Stop cs 11 f' S' w') :
  LR Stop cs 8 f S w:=by
 unfold LR at next ⊢
 have e0:sq 8 (LB Tryz.f4)=.seq _ (.seq _ (.seq (.seq _ (.block 0 (pA 0 (LB Tryz.f4)))) (sq 11 (LB Tryz.f4)))):=rfl;generalize hB:pA 0 (LB Tryz.f4)=lp at e0;generalize sq 11 (LB Tryz.f4)=rst at e0 next
 rw[e0];clear e0;repeat (first|refine rQ rfl ?_|refine cY aB ?_|refine cZ ?_)
 obtain⟨is,zz,is1,is2,is3,is4,is5⟩:=Ht;refine bO (Q:=fun x w7=>x=.slice (some ⟨w.heap.size,0,none⟩) 1 1∧Ext w w7∧w7.heap[w.heap.size]?=some (.cells #[sv] 25)) aB rfl rfl (by kernel_rfl) (fun u hu=>⟨_,_,.inl (tQ (x:=.tmp 62) (y:=sv) rfl Tryz.underlying44 is1 is2 is3 is5 (by simp) (hI6.one) u),by rw[hu.heap],(Ext.twin hu).trans _ _ _ (Ext.alloc _ _),by rw[<-hu.heap];exact cI _ _⟩) ?_
 rintro _ w7 ⟨rfl,hE7,hr7⟩;simp only[stO_some];have hI7:=hI6.kp0 (aX hE7);have hM7:dB v.heap.size w2.heap.size w7 (.slice (some ⟨w.heap.size,0,none⟩) 1 1) [T]:=dB.one hr7 hKw6.size hI7 hz hT6;have hD7:=hD.kp0 (aX hE7);have hKw7:=hKw6.ext hE7;clear hD hI6 hKw6 hr7 hE7;repeat (first|refine rQ rfl ?_|refine cY aB ?_|refine cZ ?_)
 refine fW Tryz.func10 (kB b4 n14 n18 (by omega) hD7.hs.st) ?_;rintro _ S8 w8 _ ⟨e1,hE8,gs,rfl,hgs,hTs⟩;subst S8;have hD8:=hD7.kp0 (aX hE8);repeat (first|refine rQ rfl ?_|refine cY aB ?_|refine cZ ?_)
 refine fW Tryz.func10 (kB b4 n14 n18 (by omega) hD8.ht.st) ?_;rintro _ S9 w9 _ ⟨e1,hE9,gt,rfl,hgt,hTt⟩;subst S9;repeat (first|refine rQ rfl ?_|refine cY aB ?_|refine cZ ?_)
 refine fW Tryz.func17 (Gq gs gt nd nd nd (fun d=>bS nb (s.a d)) (fun d=>bS nb (t1.a d)) n18 (hTs.ext hE9) hTt) ?_;rintro _ S10 w10 _ ⟨e1,e2,bb,rfl,hbb⟩;subst S10 w10;have hSn:=hfl bb hbb n14;have hE89:=hE8.trans _ _ _ hE9;have hD9:=hD8.kp0 (aX hE9);have hM9:=hM7.kp0 (aX hE89);have hI9:=hI7.kp0 (aX hE89);have hKw9:=hKw7.ext hE89;clear hfl hbb hTs hTt hD7 hD8 hM7 hI7 hE8 hE9 hE89 hKw7;repeat (first|refine rQ rfl ?_|refine cY aB ?_|refine cZ ?_)
 subst hB;exact Sm (v:=w2) T sv _ (.int .i64 ag) (.slice q nl capq) (.slice (some ⟨gd,0,none⟩) nd nd) (.int .i64 (wr:Nat)) v.heap.size hK2.size (Nat.le_trans hg hK2.size) n14 n18 b4 b15 hKw9 p2 na2 cap2 A2 (hA2.kp (eM _ v) hK2) hna2 (Nat.le_refl _) hD9 hSn hM9 hI9 (by simp[g3]) (by simp[g5]) (by simp[g6]) (by simp[g15]) (by simp[g16]) (by simp[g17]) (by simp[g18]) (by simp[g19]) (by simp) (by simp) (by simp) next
theorem Pe(t:TypeId)(e:Value)(hg0:v.cell? ⟨0,0,none⟩=some (.iface t e))(hg:Tryz.prog.globals.size<=v.heap.size)(n b wt ag:Int)(hn1:-9223372036854775808<=n)(hn2:n<=9223372036854775807)(hb1:-9223372036854775808<=b)(hb2:b<=9223372036854775807)(hw1:-9223372036854775808<=wt)(hw2:wt<=9223372036854775807)(ha1:-9223372036854775808<=ag)(ha2:ag<=9223372036854775807)(p:Option Addr)(na cap:Nat)(A:Nat->Ac)(hA:iY v.heap.size v p na A)(hna:na<=1048576)(p2:Option Addr)(na2 cap2:Nat)(A2:Nat->Ac)(hA2:iY v.heap.size v p2 na2 A2)(hna2:na2<=1048576)(q:Option Addr)(nl capq:Nat)(Q:Nat->Dm)(hQ:lA v.heap.size v q nl Q)(hnl:nl<2 ^ 62) :
  ∀ (Stop:Goroutine->(Nat->Prop)->World->Prop) (cs:List Frame),(∀ f' todo S' v',f' 14=.bool true->Kp v (fun _=>False) v'->Vw.Reach Tryz.prog Stop (G {(base 4).at ⟨TA 241 f',[]⟩ todo with mode:=.returning} cs) S' v')->
   Vw.Reach Tryz.prog Stop (G ((base 4).at ⟨TA 241 (dD #[.int .i64 n,.int .i64 b,.slice p na cap,.slice p2 na2 cap2,.int .i64 wt,.int .i64 ag,.slice q nl capq]),[]⟩ [.code (Tryz.f4.body.getD .skip)]) cs) S v:=by
 intro Stop cs ret;have g0:dD #[.int .i64 n,.int .i64 b,.slice p na cap,.slice p2 na2 cap2,.int .i64 wt,.int .i64 ag,.slice q nl capq] 0=.int .i64 n:=rfl;have g1:dD #[.int .i64 n,.int .i64 b,.slice p na cap,.slice p2 na2 cap2,.int .i64 wt,.int .i64 ag,.slice q nl capq] 1=.int .i64 b:=rfl;have g2:dD #[.int .i64 n,.int .i64 b,.slice p na cap,.slice p2 na2 cap2,.int .i64 wt,.int .i64 ag,.slice q nl capq] 2=.slice p na cap:=rfl;have g3:dD #[.int .i64 n,.int .i64 b,.slice p na cap,.slice p2 na2 cap2,.int .i64 wt,.int .i64 ag,.slice q nl capq] 3=.slice p2 na2 cap2:=rfl;have g4:dD #[.int .i64 n,.int .i64 b,.slice p na cap,.slice p2 na2 cap2,.int .i64 wt,.int .i64 ag,.slice q nl capq] 4=.int .i64 wt:=rfl;have g5:dD #[.int .i64 n,.int .i64 b,.slice p na cap,.slice p2 na2 cap2,.int .i64 wt,.int .i64 ag,.slice q nl capq] 5=.int .i64 ag:=rfl;have g6:dD #[.int .i64 n,.int .i64 b,.slice p na cap,.slice p2 na2 cap2,.int .i64 wt,.int .i64 ag,.slice q nl capq] 6=.slice q nl capq:=rfl;generalize dD #[.int .i64 n,.int .i64 b,.slice p na cap,.slice p2 na2 cap2,.int .i64 wt,.int .i64 ag,.slice q nl capq]=f at g0 g1 g2 g3 g4 g5 g6;show LR Stop cs 0 f S v;refine Ya t e hg0 hg n b wt ag hn1 hn2 hb1 hb2 hw1 hw2 p na cap A hA hna p2 na2 cap2 hna2 q nl capq g0 g1 g2 g3 g4 g5 g6 fun f0 S0 w0 nd nb wr gd Tx w2 X D DB DA M X' D' DB' DA' M' RB RA RB' RA' turn0 s0 t0 L0 L0' T00 sv00 n14 n18 b4 b15 hwk hK2 hKw hTx hTz hD0 hfl hI0 hz0 hl0 c3 c5 c6 c15 c16 c17 c18 c19=>?_
 refine Xz hg ag T00 sv00 p2 na2 cap2 A2 hA2 hna2 q nl capq n14 n18 b4 b15 hK2 hKw hD0 hfl hI0 hz0 hl0 c3 c5 c6 c15 c16 c17 c18 c19 fun f1 S11 w11 turn s t1 L L' T lost Ts sv mv hK11 hD11 hS11 hM11 hI11 q5 q6 q15 q16 q17 q18 q19 q20=>?_
 have hKv11:=hK2.trans hK11;have hDv:=hD11.lower hK2.size;obtain⟨⟨T0,hT0,hMid⟩,hlen⟩:=hS11.mid hDv (by omega);have hab:∀ d p i,t1.a d p i<256:=by
  obtain⟨_,_,_,q⟩:=hMid;exact q.byte
 refine Yh T sv mv (.slice q nl capq) ag hg n14 n18 b4 b15 hKv11 (by omega) hab hDv (hM11.lower hK2.size) hI11 (fun j hj=>hK11.cell (fun h=>h) (hTx j hj)) hTz q5 q6 q15 q16 q17 q18 q19 q20 fun f2 S12 w12 hK12 hD12 hM12 hI12 r5 r6 pP nX r19 r20=>?_
 refine Yg t e hg0 T T0 sv mv (.slice q nl capq) ag ha1 ha2 hg n14 n18 b4 b15 hK12 hMid hD12 hM12 hI12 r5 r6 pP nX r19 r20 fun f3 S13 w13 svc Xu Du DBu DAu Mu RBu RAu turnu su Lu hK13 hHs13 hHu13 hMu13 hM13 hI13 hIc13 hz13 hl13 u6 u15 u16 u20 u25 u26 u29=>?_
 refine Yf T0 mv svc _ _ _ _ _ hT0 hlen hM13 hIc13 hz13 hl13 u6 u15 u16 u20 u25 u26 u29 fun f4 x30 x6 x15 x16 x25 x26 x29=>?_
 refine Ye t e hg0 T T0 sv svc (.slice q nl capq) hg n14 n18 b4 b15 hK13 hHs13 hHu13 hMu13 hI13 hIc13 x6 x15 x16 x25 x26 x29 x30 fun f5 S14 w14 X1 D1 DB1 DA1 M1 RB1 RA1 L1 turn1 s1 hK14 hHs14 hH14 hI14 hIc14 hap14 y6 y15 y16 y25 y31=>?_
 refine Yd T T0 sv svc (.slice q nl capq) hg n14 n18 b4 b15 hK14 hHs14 hH14 hI14 hIc14 y6 y15 y16 y25 y31 fun f6 S15 w15 hK15 hHs15 hH15 hI15 hIc15 hz15 hl15 z6 z15 z16 z25 z31 z33 z27=>?_
 refine Vt T T0 sv svc (.slice q nl capq) hg n14 n18 b4 b15 hK15 hHs15 hH15 hI15 hIc15 hap14 z6 z15 z16 z25 z31 z33 z27 fun f6 S15 w15 s8 L8 hK15 hHs15 hH15 hSo15 hI15 hIc15 z6 z15 z16 z25 z31=>?_
 refine Yc t e hg0 T T0 sv svc hg n14 n18 b4 b15 hK15 q nl capq Q hQ hnl hHs15 hH15 hSo15 hI15 hIc15 z6 z15 z16 z25 z31 fun f7 S16 w16 X2 D2 DB2 DA2 M2 RB2 RA2 L2 turn2 s2 X3 D3 DB3 DA3 M3 RB3 RA3 L3 turn3 s3 hK16 hH16 hHv16 hI16 hIc16 k15 k16 k25 k31=>?_
 refine Yb T T0 sv svc hg n14 n18 b4 b15 hK16 hH16 hHv16 hI16 hIc16 hz15 hl15 k15 k16 k25 k31 fun f8 S17 w17 hK17 hH17 hI17 m15 m16 m33 m27=>?_
 refine Vs T sv hg n14 n18 b4 b15 hK17 hH17 hI17 m15 m16 m33 m27 fun f9 S18 w18 hK18 m33 m27 m36 m37=>?_
 exact Vr hK18 m33 m27 m36 m37 ret
end
