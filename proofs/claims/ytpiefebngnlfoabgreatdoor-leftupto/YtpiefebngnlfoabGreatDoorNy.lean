import Derived.Test.YtpiefebngnlfoabGreatDoorNt
import Derived.Test.YtpiefebngnlfoabGreatDoorNq
set_option maxRecDepth 99999
set_option maxHeartbeats 0
set_option linter.unusedVariables false
set_option linter.unusedSimpArgs false
namespace Go.Proofs.YtpiefebngnlfoabGreatDoor
open Go.RowKit Go.Conc Go.Vw
section
variable {w w' v:World}{S:Nat->Prop}
theorem Yc{f:Nat->Value}{Stop:Goroutine->(Nat->Prop)->World->Prop}{cs:List Frame}{X D DB DA M X1 D1 DB1 DA1 M1:Nat}{RB RA RB1 RA1:Nat->Nat}{nd nb turn turn1:Nat}{s s8:Dsk}{L L8:List Ent}(ty:TypeId)(e:Value)(hg0:v.cell? ⟨0,0,none⟩=some (.iface ty e))(T T0:List It)(sv svc:Value)(hg:Tryz.prog.globals.size<=v.heap.size)(n14:14<=nd)(n18:nd<=18)(b4:4<=nb)(b15:nb<=15)(hKv:Kp v (fun _=>False) w)(q:Option Addr)(nl capq:Nat)(Q:Nat->Dm)(hQ:lA v.heap.size v q nl Q)(hnl:nl<2 ^ 62)
  (hHs8:Hv v.heap.size nd nb 549755813888 4194304 X D DB DA M RB RA turn s L T w) (hH8:Hv v.heap.size nd nb 549755813000 4194304 X1 D1 DB1 DA1 M1 RB1 RA1 turn1 s8 L8 T0 w) (hSo8:fJ L8) (hI8:aV v.heap.size v.heap.size w sv T) (hIc8:aV v.heap.size v.heap.size w svc T0)
  (g6:f 6=.slice q nl capq) (g15:f 15=.pointer (some ⟨X,0,none⟩)) (g16:f 16=sv) (g25:f 25=svc) (g31:f 31=.pointer (some ⟨X1,0,none⟩))
  (next:∀ f' S' w' X2 D2 DB2 DA2 M2 RB2 RA2 L2 turn2 s2 X3 D3 DB3 DA3 M3 RB3 RA3 L3 turn3 s3,Kp v (fun _=>False) w'->Hw v.heap.size nd nb 4194304 X2 D2 DB2 DA2 M2 RB2 RA2 turn2 s2 L2 T w'->Hv v.heap.size nd nb 549755813888 4194304 X3 D3 DB3 DA3 M3 RB3 RA3 turn3 s3 L3 T0 w'->aV v.heap.size v.heap.size w' sv T->aV v.heap.size v.heap.size w' svc T0->f' 15=.pointer (some ⟨X2,0,none⟩)->f' 16=sv->f' 25=svc->f' 31=.pointer (some ⟨X3,0,none⟩)->LR Stop cs 28 f' S' w') :
  LR Stop cs 25 f S w:=by
 unfold LR at next ⊢
 have htu:=hH8.turn;have htus:=hHs8.turn;have hKv8:=hKv;clear hKv;have e0:sq 25 (LB Tryz.f4)=.seq _ (.seq _ (.seq _ (sq 28 (LB Tryz.f4)))):=rfl;rw[e0];clear e0;generalize sq 28 (LB Tryz.f4)=rst at next ⊢
 repeat refine rN ?_
 refine rK Tryz.func10 (kB b4 n14 n18 (by omega) hH8.st) ?_;rintro _ S9 w9 _ ⟨e1,hE9,gd,rfl,hgd,hTx⟩;subst S9;have hK9:=hKv8.ext hE9;repeat refine rN ?_
 refine rK Tryz.func9 (Tc v.heap.size nd nb gd nd (fun d=>bS nb (s8.a d)) n14 n18 b4 (by omega) hTx (fun d _=>lN _ _) q nl capq Q hnl (hQ.kp (eM _ v) hK9)) ?_;rintro _ S10 w10 _ ⟨e1,hE10,gd',cd',T',HH,rfl,hTx',hHarm⟩;subst S10;have hK10:=hK9.ext hE10;obtain⟨hSl,hten⟩:=hH8.slots (wr:=1099511627776) hSo8 (by omega) n14 hHarm;repeat refine rN ?_
 refine rK Tryz.func8 (qH ty e (hK10.cell (fun h=>h) hg0) (Nat.le_trans hg hK10.size) gd' cd' 1099511627776 T' (fK L8) (eY L8 (aH T' 1099511627776).c) (Nat.le_refl _) b4 n14 n18 (by omega) (hHarm.texts n14 fun d _=>lN _ _) hTx' hSl) ?_
 rintro _ S11 w11 _ ⟨hK11,X',D',DB',DA',M',RB',RA',L',turn',rfl,hSv,hX',hown'⟩;obtain⟨hH11,_⟩:=hH8.remount (n':=549755813888) (N':=v.heap.size) hSo8 (by omega) n14 hHarm hSv hX' (fun b hb=>Nat.le_trans hK10.size (hown' b hb)) (by omega);have hE910:=hE9.trans _ _ _ hE10;have hI11:=(hI8.kp0 (aX hE910)).kp0 hK11;have hIc11:=(hIc8.kp0 (aX hE910)).kp0 hK11;have hHs11:=(hHs8.kp0 (aX hE910)).kp0 hK11;have hKv11:=hK10.trans hK11;generalize cD (aH T' 1099511627776) (aU L') nb=s11 at hH11;clear hX' hSv hSl hten hHarm hTx' hTx hE9 hE10 hE910 hK11 hI8 hIc8 hH8 hHs8 hSo8 hown' hKv8 hK9 hK10;repeat refine rN ?_
 refine rK Tryz.func10 (kB b4 n14 n18 (by omega) hHs11.st) ?_;rintro _ S12 w12 _ ⟨e1,hE12,gt,rfl,hgt,hTt⟩;subst S12;have hKv12:=hKv11.ext hE12;have hMs:eC nb 4194304 s.a T:=by
  rw[show s.a=s.c from hHs11.kept.1];exact eC.le ⟨_,_,_,(hHs11.hw.mid (by omega)).1⟩ htus
 repeat refine rN ?_
 refine rK Tryz.func8 (xN ty e (hKv12.cell (fun h=>h) hg0) (Nat.le_trans hg hKv12.size) v.heap.size gt nd 1099511627776 4194304 s.a T hKv12.size hMs (by omega) b4 n14 n18 (by omega) hTt) ?_;rintro _ S13 w13 _ ⟨hK13,X2,D2,DB2,DA2,M2,RB2,RA2,L2,turn2,s2,rfl,hH13,_,_,_⟩;have hI13:=(hI11.kp0 (aX hE12)).kp0 hK13;have hIc13:=(hIc11.kp0 (aX hE12)).kp0 hK13;have hHv13:=(hH11.kp0 (aX hE12)).kp0 hK13;have hKv13:=hKv12.trans hK13;have htu13:=hHv13.turn;have hl13:=hHv13.few6;have htu2:=hH13.turn;have hl2:=hH13.few6;clear hI11 hIc11 hH11 hHs11 hKv11 hKv12 hE12 hK13 hTt hMs;repeat refine rN ?_
 refine rZ (by simp[Act.eval]) ?_;repeat refine rN ?_
 exact next _ _ w13 X2 D2 DB2 DA2 M2 RB2 RA2 L2 turn2 s2 X' D' DB' DA' M' RB' RA' L' turn' s11 hKv13 hH13 hHv13 hI13 hIc13 (by simp) (by simp[g16]) (by simp[g25]) (by simp)
end
section
variable {w w' v:World}{S:Nat->Prop}
theorem Yb{f:Nat->Value}{Stop:Goroutine->(Nat->Prop)->World->Prop}{cs:List Frame}{X2 D2 DB2 DA2 M2 X3 D3 DB3 DA3 M3:Nat}{RB2 RA2 RB3 RA3:Nat->Nat}{nd nb turn2 turn3:Nat}{s2 s3:Dsk}{L2 L3:List Ent}(T T0:List It)(sv svc:Value)(hg:Tryz.prog.globals.size<=v.heap.size)(n14:14<=nd)(n18:nd<=18)(b4:4<=nb)(b15:nb<=15)(hKv:Kp v (fun _=>False) w)
  (hH13:Hw v.heap.size nd nb 4194304 X2 D2 DB2 DA2 M2 RB2 RA2 turn2 s2 L2 T w) (hHv13:Hv v.heap.size nd nb 549755813888 4194304 X3 D3 DB3 DA3 M3 RB3 RA3 turn3 s3 L3 T0 w) (hI13:aV v.heap.size v.heap.size w sv T) (hIc13:aV v.heap.size v.heap.size w svc T0) (hz:∀ x∈T0,x.size<=400) (hT6:T0.length<=6)
  (g15:f 15=.pointer (some ⟨X2,0,none⟩)) (g16:f 16=sv) (g25:f 25=svc) (g31:f 31=.pointer (some ⟨X3,0,none⟩))
  (next:∀ f' S' w',Kp v (fun _=>False) w'->Hw v.heap.size nd nb 4194304 X2 D2 DB2 DA2 M2 RB2 RA2 turn2 s2 L2 T w'->aV v.heap.size v.heap.size w' sv T->f' 15=.pointer (some ⟨X2,0,none⟩)->f' 16=sv->f' 33=.bool true->f' 27=.bool true->LR Stop cs 30 f' S' w') :
  LR Stop cs 28 f S w:=by
 unfold LR at next ⊢
 have hKv13:=hKv;clear hKv;have htu13:=hHv13.turn;have hl13:=hHv13.few6;have hal:iZ T0 T0=true:=kC.2 (.refl _);have e0:sq 28 (LB Tryz.f4)=.seq _ (.seq _ (sq 30 (LB Tryz.f4))):=rfl;rw[e0];clear e0;generalize sq 30 (LB Tryz.f4)=rst at next ⊢
 repeat (first|refine rQ rfl ?_|refine cY aB ?_|refine cZ ?_)
 refine fW Tryz.func14 (oK v.heap.size hKv13.size (by omega) (Nat.le_trans hg hKv13.size) (by omega) n14 n18 (by omega) hHv13.st) ?_;rintro _ S14 w14 _ ⟨hK14,sv14,T14,rfl,hR14,hl14,hI14⟩;obtain rfl:=hR14.uniq hHv13.rep;have hIc14:=hIc13.kp0 hK14;repeat (first|refine rQ rfl ?_|refine cY aB ?_|refine cZ ?_)
 refine fW Tryz.func15 (mX v.heap.size v.heap.size v.heap.size w.heap.size svc sv14 T14 T14 hIc14 hI14 hz hz (by omega) (by omega)) ?_;rintro _ S15 w15 _ ⟨rfl,eS,eW⟩;subst S15 w15;rw[hal];have hH14:=hH13.put (hH13.st.kp hK14);have hI14':=hI13.kp0 hK14;have hKv14:=hKv13.trans hK14;clear hIc14 hI14 hK14 hKv13 hI13 hIc13 hHv13 hH13;repeat (first|refine rQ rfl ?_|refine cY aB ?_|refine cZ ?_)
 exact next _ _ w14 hKv14 hH14 hI14' (by simp[g15]) (by simp[g16]) (by simp) (by simp)
end
