import Derived.Test.YtpiefebngnlfoabGreatDoorNv
set_option maxRecDepth 99999
set_option maxHeartbeats 0
set_option linter.unusedVariables false
set_option linter.unusedSimpArgs false
namespace Go.Proofs.YtpiefebngnlfoabGreatDoor
open Go.RowKit Go.Conc Go.Vw
section
variable {w w' v:World}{S:Nat->Prop}
theorem Ox{f:Nat->Value}{Stop:Goroutine->(Nat->Prop)->World->Prop}{cs:List Frame}{k0:List Item}{nd nb:Nat}(t:TypeId)(e:Value)(hg0:v.cell? ⟨0,0,none⟩=some (.iface t e))(hg:Tryz.prog.globals.size<=v.heap.size)(n14:14<=nd)(n18:nd<=18)(b4:4<=nb)(b15:nb<=15)(hK:Kp v (fun _=>False) w)(p:Option Addr)(nr cap gd cd:Nat)(R:Nat->Rnd)(a:Nat->Nat->Nat->Nat)(T:List It)(sv x4:Value)(hR:nM v.heap.size v p nr R)(hnr:nr<=1048576)(hTx:dS w gd nd fun d=>cC nb (a d))(hMid:dQ nb 2097152 a T)(hI:bO v.heap.size v.heap.size w sv T)
  (g3:f 3=.slice p nr cap) (g4:f 4=x4) (g12:f 12=sv) (g13:f 13=.slice (some ⟨gd,0,none⟩) nd cd) (g14:f 14=.int .i64 0)
  (next:∀ f' S' w' gd cd sv a T,Kp v (fun _=>False) w'->dS w' gd nd (fun d=>cC nb (a d))->dQ nb 2199023255552 a T->bO v.heap.size v.heap.size w' sv T->f' 4=x4->f' 12=sv->f' 13=.slice (some ⟨gd,0,none⟩) nd cd->Vw.Reach Tryz.prog Stop (G ((base 6).at ⟨TA 131 f',[]⟩ k0) cs) S' w') :
  Vw.Reach Tryz.prog Stop (G ((base 6).at ⟨TA 131 f,[]⟩ (.code (oY 0 (Tryz.f6.body.getD .skip)) :: .inBlock 0 :: k0)) cs) S w:=by
 have e:oY 0 (Tryz.f6.body.getD .skip)=.loop _:=rfl;rw[e];clear e;refine bR (fun d f' S' w'=>∃ j gd cd a T sv,d=nr - j∧j<=nr∧Kp v (fun _=>False) w'∧dS w' gd nd (fun d=>cC nb (a d))∧dQ nb (2097152+j*1048576) a T∧bO v.heap.size v.heap.size w' sv T∧f' 3=.slice p nr cap∧f' 4=x4∧f' 12=sv∧f' 13=.slice (some ⟨gd,0,none⟩) nd cd∧f' 14=.int .i64 (j:Nat)) nr ⟨0,gd,cd,a,T,sv,by omega,by omega,hK,hTx,hMid,hI,g3,g4,g12,g13,by simp[g14]⟩ ?_;clear g3 g4 g12 g13 g14 f hI hMid hTx hK gd cd a T sv;rintro d f S' w ⟨j,gd,cd,a,T,sv,rfl,hj,hK,hTx,hMid,hI,g3,g4,g12,g13,g14⟩ nxt;repeat refine rN ?_
 by_cases hlt:j<nr
 .have hjI:(j:Int)<(nr:Int):=by omega
  have hjm:j*1048576+1048576<=1048576*1048576:=by
   have:(j+1)*1048576<=1048576*1048576:=Nat.mul_le_mul_right _ (by omega);omega
  obtain⟨⟨B,off,rfl,hBN,hcell⟩,hr⟩:=(hR.kp (eF _ v) hK) j hlt;refine rX (by simp[Act.eval,g14,g3,hjI,hlt]) ?_;refine rQ rfl ?_;refine rQ rfl ?_;refine rQ rfl ?_;refine Xq t _ hg0 hg n14 n18 b4 b15 hK B off nr cap j gd cd (2097152+j*1048576) R a T sv x4 hlt hcell hr hTx hMid hI (by omega) (by simp[g3]) (by simp[g4]) (by simp[g12]) (by simp[g13]) (by simp[g14]) fun f1 S1 w1 g mv svc a' Ts T0 hK1 hT1 hMid1 hT0 hlen hM1 hIc hz hl q3 q4 q13 q14 q16 q19 q20=>?_
  refine Xp T0 mv svc _ _ _ _ hT0 hlen hM1 hIc hz hl q3 q4 q13 q14 q16 q19 q20 fun f2 sv' hI2 r3 r4 pO pN sW=>?_
  repeat refine rN ?_
  exact nxt _ _ _ (nr - (j+1)) (by omega) ⟨j+1,g,nd,a',T0,sv',rfl,by omega,hK1,hT1,hMid1.le (by rw[Nat.add_mul];omega),hI2,by simp[r3],by simp[r4],by simp[pO],by simp[pN],by simp⟩
 .obtain rfl:j=nr:=by omega
  have hjm:j*1048576<=1048576*1048576:=Nat.mul_le_mul_right _ hnr;refine rZ (by simp[Act.eval,g14,g3]) ?_;refine bB rfl ?_;exact next _ _ _ gd cd sv a T hK hTx (hMid.le (by omega)) hI (by simp[g4]) (by simp[g12]) (by simp[g13])
theorem Xo{f:Nat->Value}{Stop:Goroutine->(Nat->Prop)->World->Prop}{cs:List Frame}{nd nb:Nat}(t:TypeId)(e:Value)(hg0:v.cell? ⟨0,0,none⟩=some (.iface t e))(hg:Tryz.prog.globals.size<=v.heap.size)(n14:14<=nd)(n18:nd<=18)(b4:4<=nb)(b15:nb<=15)(hKv:Kp v (fun _=>False) w)(gd cd:Nat)(a:Nat->Nat->Nat->Nat)(T:List It)(sv:Value)(q:Option Addr)(nl capq:Nat)(Q:Nat->Dm)(hQ:kV v.heap.size v q nl Q)(hnl:nl<2 ^ 62)(hTx:dS w gd nd fun d=>cC nb (a d))(hMid:dQ nb 2199023255552 a T)(hI:bO v.heap.size v.heap.size w sv T)
  (g4:f 4=.slice q nl capq) (g12:f 12=sv) (g13:f 13=.slice (some ⟨gd,0,none⟩) nd cd)
  (ret:∀ f' todo S' v',f' 10=.bool true->Kp v (fun _=>False) v'->Vw.Reach Tryz.prog Stop (G {(base 6).at ⟨TA 131 f',[]⟩ todo with mode:=.returning} cs) S' v') :
  Vw.Reach Tryz.prog Stop (G ((base 6).at ⟨TA 131 f,[]⟩ [.code (sq 5 (Tryz.f6.body.getD .skip))]) cs) S w:=by
 simp only[sq,Tryz.f6,Option.getD_some];repeat (first|refine rQ rfl ?_|refine cS aB ?_|refine cZ ?_)
 refine iC Tryz.func8 (Df t e (hKv.cell (fun h=>h) hg0) (Nat.le_trans hg hKv.size) v.heap.size gd cd 1099511627776 2199023255552 a T hKv.size hMid (Nat.le_refl _) b4 n14 n18 (by omega) hTx) ?_;rintro _ S2 w2 _ ⟨hK2,X,D,DB,DA,M,RB,RA,L,turn,s,rfl,hHw,_,hKe,_⟩;have hH6:=hHw.hv (hKe 549755813888 (by omega));have hKv6:=hKv.trans hK2;have hI6:=hI.kp0 hK2;have htu:=hH6.turn;have hl6:=hH6.few6;clear hHw hKe hK2 hKv hI hTx hMid;repeat (first|refine rQ rfl ?_|refine cS aB ?_|refine cZ ?_)
 refine rZ (by simp[Act.eval]) ?_;repeat (first|refine rQ rfl ?_|refine cS aB ?_|refine cZ ?_)
 refine iC Tryz.func13 (Uj 1000 (by omega) (by omega) (by omega) (Nat.le_trans hg hKv6.size) (by omega) n14 n18 (by omega) hH6.st) ?_;rintro _ S8 w8 _ ⟨k2,h2,hT2,hk2,rfl,hK8,hX8⟩;have hsm:bG h2 k2<=k2*14:=uW k2 fun i hi=>hT2.bad14 hi
 have hmin:min (1000:Int).toNat (bG h2 k2)=bG h2 k2:=by
  show min 1000 (bG h2 k2)=_;omega
 rw[hmin]at hX8;rw[hmin,Nat.sub_self];have hH8:=(hH6.le (n':=549755813000+bG h2 k2) (by omega) (Nat.le_refl _)).scrub (h:=h2) (k:=k2) (j:=bG h2 k2) hT2 (Nat.le_refl _) hX8;have hSc:=Ah (nb:=nb) (x0:=⟨h2,s,L⟩) hH6.st.ids hH6.st.slots hT2 (bG h2 k2) (Nat.le_refl _)
 have hSo8:gD (scrubN k2 (bG h2 k2) ⟨h2,s,L⟩).L:=hSc.tells.sound (by
  have h1:=hSc.sum;have h2':bG (Scb.mk h2 s L).h k2=bG h2 k2:=rfl
  omega)
 have hI8:=hI6.kp hH6.off hK8;have hKv8:Kp v (fun _=>False) w8:=lK ((hKv6.mono fun _ h=>h.elim).trans hK8) hH6.own
 generalize (scrubN k2 (bG h2 k2) ⟨h2,s,L⟩).L=L8 at hH8 hSo8;generalize (scrubN k2 (bG h2 k2) ⟨h2,s,L⟩).s=s8 at hH8;clear hSc hX8 hmin hsm hT2 hk2 hH6 hI6 hK8 hKv6 h2 k2;repeat (first|refine rQ rfl ?_|refine cS aB ?_|refine cZ ?_)
 refine iC Tryz.func10 (mN b4 n14 n18 (by omega) hH8.st) ?_;rintro _ S9 w9 _ ⟨e1,hE9,ge,rfl,hgd,hTx⟩;subst S9;have hK9:=hKv8.ext hE9;repeat (first|refine rQ rfl ?_|refine cS aB ?_|refine cZ ?_)
 refine iC Tryz.func9 (Sw v.heap.size nd nb ge nd (fun d=>cC nb (s8.a d)) n14 n18 b4 (by omega) hTx (fun d _=>oR _ _) q nl capq Q hnl (hQ.kp (eF _ v) hK9)) ?_;rintro _ S10 w10 _ ⟨e1,hE10,gd',cd',T',HH,rfl,hTx',hHarm⟩;subst S10;have hK10:=hK9.ext hE10;obtain⟨hSl,hten⟩:=hH8.slots (wr:=1099511627776) hSo8 (by omega) n14 hHarm;repeat (first|refine rQ rfl ?_|refine cS aB ?_|refine cZ ?_)
 refine iC Tryz.func8 (qF t e (hK10.cell (fun h=>h) hg0) (Nat.le_trans hg hK10.size) gd' cd' 1099511627776 T' (fI L8) (eU L8 (aR T' 1099511627776).c) (Nat.le_refl _) b4 n14 n18 (by omega) (hHarm.texts n14 fun d _=>oR _ _) hTx' hSl) ?_
 rintro _ S11 w11 _ ⟨hK11,X',D',DB',DA',M',RB',RA',L',turn',rfl,hSv,hX',hown'⟩;obtain⟨hH11,_⟩:=hH8.remount (n':=549755813888) (N':=v.heap.size) hSo8 (by omega) n14 hHarm hSv hX' (fun b hb=>Nat.le_trans hK10.size (hown' b hb)) (by omega);have hI11:=(hI8.kp0 (bF (hE9.trans _ _ _ hE10))).kp0 hK11;have hKv11:=hK10.trans hK11;have htu11:=hH11.turn;have hl11:=hH11.few6;generalize cD (aR T' 1099511627776) (aS L') nb=s11 at hH11;clear hX' hSv hSl hten hHarm hTx' hTx hE9 hE10 hK11 hI8 hH8 hSo8 hown' hKv8 hK9 hK10;repeat (first|refine rQ rfl ?_|refine cS aB ?_|refine cZ ?_)
 refine rZ (by simp[Act.eval]) ?_;repeat (first|refine rQ rfl ?_|refine cS aB ?_|refine cZ ?_)
 refine iC Tryz.func14 (xN v.heap.size hKv11.size (by omega) (Nat.le_trans hg hKv11.size) (by omega) n14 n18 (by omega) hH11.st) ?_;rintro _ S14 w14 _ ⟨hK14,sv14,T14,rfl,hR14,hl14,hI14⟩;obtain rfl:=hR14.uniq hH11.rep;have hz:=hR14.size hH11.st.ent;have hT6:=hR14.len6 hH11.few;have hal:iW T14 T14=true:=mO.2 (.refl _);repeat (first|refine rQ rfl ?_|refine cS aB ?_|refine cZ ?_)
 refine iC Tryz.func15 (rS v.heap.size v.heap.size w11.heap.size v.heap.size sv14 sv T14 T14 hI14 (hI11.kp0 hK14) hz hz (by omega) (by omega)) ?_;rintro _ S15 w15 _ ⟨rfl,eS,eW⟩;subst S15 w15;rw[hal];repeat (first|refine rQ rfl ?_|refine cS aB ?_|refine cZ ?_)
 refine aO fun todo=>?_
 exact ret _ _ _ w14 (by simp) (hKv11.trans hK14)
theorem Mv(t:TypeId)(e:Value)(hg0:v.cell? ⟨0,0,none⟩=some (.iface t e))(hg:Tryz.prog.globals.size<=v.heap.size)(n b:Int)(hn1:-9223372036854775808<=n)(hn2:n<=9223372036854775807)(hb1:-9223372036854775808<=b)(hb2:b<=9223372036854775807)(p:Option Addr)(na cap:Nat)(A:Nat->Ac)(hA:kD v.heap.size v p na A)(hna:na<=1048576)(p2:Option Addr)(nr cap2:Nat)(R:Nat->Rnd)(hR:nM v.heap.size v p2 nr R)(hnr:nr<=1048576)(q:Option Addr)(nl capq:Nat)(Q:Nat->Dm)(hQ:kV v.heap.size v q nl Q)(hnl:nl<2 ^ 62) :
  ∀ (Stop:Goroutine->(Nat->Prop)->World->Prop) (cs:List Frame),(∀ f' todo S' v',f' 10=.bool true->Kp v (fun _=>False) v'->Vw.Reach Tryz.prog Stop (G {(base 6).at ⟨TA 131 f',[]⟩ todo with mode:=.returning} cs) S' v')->
   Vw.Reach Tryz.prog Stop (G ((base 6).at ⟨TA 131 (dD #[.int .i64 n,.int .i64 b,.slice p na cap,.slice p2 nr cap2,.slice q nl capq]),[]⟩ [.code (Tryz.f6.body.getD .skip)]) cs) S v:=by
 intro Stop cs ret;have g0:dD #[.int .i64 n,.int .i64 b,.slice p na cap,.slice p2 nr cap2,.slice q nl capq] 0=.int .i64 n:=rfl;have g1:dD #[.int .i64 n,.int .i64 b,.slice p na cap,.slice p2 nr cap2,.slice q nl capq] 1=.int .i64 b:=rfl;have g2:dD #[.int .i64 n,.int .i64 b,.slice p na cap,.slice p2 nr cap2,.slice q nl capq] 2=.slice p na cap:=rfl;have g3:dD #[.int .i64 n,.int .i64 b,.slice p na cap,.slice p2 nr cap2,.slice q nl capq] 3=.slice p2 nr cap2:=rfl;have g4:dD #[.int .i64 n,.int .i64 b,.slice p na cap,.slice p2 nr cap2,.slice q nl capq] 4=.slice q nl capq:=rfl;generalize dD #[.int .i64 n,.int .i64 b,.slice p na cap,.slice p2 nr cap2,.slice q nl capq]=f at g0 g1 g2 g3 g4;have e0:(Tryz.f6.body.getD .skip)=.seq _ (.seq _ (.seq _ (.seq _ (.seq (.seq _ (.block 0 (oY 0 (Tryz.f6.body.getD .skip)))) (sq 5 (Tryz.f6.body.getD .skip)))))):=rfl;generalize hB:oY 0 (Tryz.f6.body.getD .skip)=lp at e0;generalize hR5:sq 5 (Tryz.f6.body.getD .skip)=rst at e0;rw[e0];clear e0;repeat (first|refine rQ rfl ?_|refine cS aB ?_|refine cZ ?_)
 refine iC Tryz.func7 (Vv t e hg0 hg n b hn1 hn2 hb1 hb2 p na cap A hA hna) ?_;rintro _ S1 w1 _ ⟨hK1,X,D,DB,DA,M,RB,RA,turn,s,L,T,sv,rfl,hH,hSo,hI,hTL⟩;have hp5:=jW n (n:=5) (by omega);have hp12:=jW b (n:=12) (by omega);obtain⟨nd,hnd⟩:∃ nd,nd=14+cX n 5:=⟨_,rfl⟩;obtain⟨nb,hnb⟩:∃ nb,nb=4+cX b 12:=⟨_,rfl⟩;rw[<-hnd,<-hnb]at hH;have n14:14<=nd:=by omega
 have n18:nd<=18:=by omega
 have b4:4<=nb:=by omega
 have b15:nb<=15:=by omega
 clear hnd hnb hp5 hp12 g0 g1 g2 hTL;have htu:=hH.turn;repeat (first|refine rQ rfl ?_|refine cS aB ?_|refine cZ ?_)
 refine rZ (by simp[Act.eval]) ?_;repeat (first|refine rQ rfl ?_|refine cS aB ?_|refine cZ ?_)
 refine iC Tryz.func10 (mN b4 n14 n18 (by omega) hH.st) ?_;rintro _ S2 w2 _ ⟨e1,hE2,gd,rfl,hgd,hTx⟩;subst S2;have hMid:dQ nb 2097152 s.a T:=by
  rw[show s.a=s.c from hH.kept.1];exact dQ.le ⟨_,_,_,(hH.hw.mid (by omega)).1⟩ htu
 repeat (first|refine rQ rfl ?_|refine cS aB ?_|refine cZ ?_)
 subst hB;refine Ox t e hg0 hg n14 n18 b4 b15 (hK1.ext hE2) p2 nr cap2 gd nd R s.a T sv (.slice q nl capq) hR hnr hTx hMid (hI.kp0 (bF hE2)) (by simp[g3]) (by simp[g4]) (by simp) (by simp) (by simp) fun f5 S5 w5 gd cd sv a T hK5 hT5 hMid5 hI5 q4 q12 q13=>?_
 subst hR5;exact Xo t e hg0 hg n14 n18 b4 b15 hK5 gd cd a T sv q nl capq Q hQ hnl hT5 hMid5 hI5 q4 q12 q13 ret
end
