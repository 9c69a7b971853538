import Derived.Test.YtpiefebngnlfoabGreatDoorNt
import Derived.Test.YtpiefebngnlfoabGreatDoorNq
set_option maxRecDepth 99999
set_option maxHeartbeats 0
set_option linter.unusedVariables false
set_option linter.unusedSimpArgs false
namespace Go.Proofs.YtpiefebngnlfoabGreatDoor
open Go.RowKit Go.Conc Go.Vw
section
variable {w w' v:World}{S:Nat->Prop}
theorem Yh{f:Nat->Value}{Stop:Goroutine->(Nat->Prop)->World->Prop}{cs:List Frame}{X D DB DA M X' D' DB' DA' M':Nat}{RB RA RB' RA':Nat->Nat}{nd nb turn wr:Nat}{s t:Dsk}{L L':List Ent}{Tx:Nat->ByteArray}{gd:Nat}{Ts:List (List It)}(T:List It)(sv mv x6:Value)(again:Int)(hg:Tryz.prog.globals.size<=v.heap.size)(n14:14<=nd)(n18:nd<=18)(b4:4<=nb)(b15:nb<=15)(hKv:Kp v (fun _=>False) w)(hwr:wr<=200)(hab:∀ d p i,t.a d p i<256)
  (hD:Duo v.heap.size nd nb 549755813888 4194304 wr (aH Tx wr).c X D DB DA M X' D' DB' DA' M' RB RA RB' RA' turn s t L L' T w) (hM:dB v.heap.size v.heap.size w mv Ts) (hI:aV v.heap.size v.heap.size w sv T) (hTx:eH w gd nd Tx) (hTz:∀ d,d<nd->(Tx d).size=nb*96)
  (g5:f 5=.int .i64 again) (g6:f 6=x6) (g15:f 15=.pointer (some ⟨X,0,none⟩)) (g16:f 16=sv) (g17:f 17=.slice (some ⟨gd,0,none⟩) nd nd) (g18:f 18=.int .i64 (wr:Nat)) (g19:f 19=.pointer (some ⟨X',0,none⟩)) (g20:f 20=mv)
  (next:∀ f' S' w',Kp v (fun _=>False) w'->Duo v.heap.size nd nb 549755813888 4194304 wr (aH Tx wr).c X D DB DA M X' D' DB' DA' M' RB RA RB' RA' turn s t L L' T w'->dB v.heap.size v.heap.size w' mv Ts->aV v.heap.size v.heap.size w' sv T->f' 5=.int .i64 again->f' 6=x6->f' 15=.pointer (some ⟨X,0,none⟩)->f' 16=sv->f' 19=.pointer (some ⟨X',0,none⟩)->f' 20=mv->LR Stop cs 15 f' S' w') :
  LR Stop cs 11 f S w:=by
 unfold LR at next ⊢
 have htu:=hD.ht.turn;have hl6:=hD.ht.few6;have hcnt:=hD.few;have e0:sq 11 (LB Tryz.f4)=.seq _ (.seq _ (.seq _ (.seq _ (sq 15 (LB Tryz.f4))))):=rfl;rw[e0];clear e0;generalize sq 15 (LB Tryz.f4)=rst at next ⊢
 repeat refine rN ?_
 refine rK Tryz.func14 (oK v.heap.size hKv.size (by omega) (Nat.le_trans hg hKv.size) (by omega) n14 n18 (by omega) hD.ht.st) ?_;rintro _ S6 w6 _ ⟨hK6,sv6,T6,rfl,hR6,hl66,hI6⟩;obtain rfl:=hR6.uniq hD.ht.rep;have hz:=hR6.size hD.ht.st.ent;have hT6:=hR6.len6 hD.ht.few;have hI6':=hI.kp0 hK6;have hM6:=hM.kp0 hK6;have hD6:=hD.kp0 hK6;have hTx6:eH w6 gd nd Tx:=fun j hj=>hK6.cell (fun h=>h) (hTx j hj)
 have hKv6:=hKv.trans hK6;have hal:iZ T6 T6=true:=kC.2 (.refl _);clear hD hM hTx hI;repeat refine rN ?_
 refine rK Tryz.func15 (mX v.heap.size v.heap.size w.heap.size v.heap.size sv6 sv T6 T6 hI6 hI6' hz hz (by omega) (by omega)) ?_;rintro _ S7 w7 _ ⟨rfl,eS,eW⟩;subst S7 w7;rw[hal];clear hI6 hK6 hKv;repeat refine rN ?_
 refine rK Tryz.func10 (kB b4 n14 n18 (by omega) hD6.ht.st) ?_;rintro _ S8 w8 _ ⟨e1,hE8,gt,rfl,hgt,hTt⟩;subst S8;repeat refine rN ?_
 refine rK Tryz.func20 (Uf gd gt nd nb nd nd Tx (fun d=>bS nb (t.a d)) n18 (by omega) b4 (hTx6.ext hE8) hTt (fun d hd=>.inr (hTz d hd)) fun d _=>lN _ _) ?_
 rintro _ S9 w9 _ ⟨rfl,e1,hE9⟩;subst S9;have hu:gT nd nb (aH Tx 0).c (aH (fun d=>bS nb (t.a d)) 0).c<=wr:=by
  rw[Wo hab];exact hcnt
 generalize gT nd nb (aH Tx 0).c (aH (fun d=>bS nb (t.a d)) 0).c=cu at hu;have hE89:=hE8.trans _ _ _ hE9;have hD9:=hD6.kp0 (aX hE89);have hM9:=hM6.kp0 (aX hE89);have hI9:=hI6'.kp0 (aX hE89);have hKv9:=hKv6.ext hE89;clear hD6 hM6 hI6' hKv6 hE8 hE9 hE89 hTx6 hTt hcnt hTz;have huI:¬(wr:Int)<(cu:Int):=by omega
 have hu0:¬(cu:Int)<0:=by omega
 repeat refine rN ?_
 refine rZ (by simp[Act.eval]) ?_;repeat refine rN ?_
 exact next _ _ w9 hKv9 hD9 hM9 hI9 (by simp[g5]) (by simp[g6]) (by simp[g15]) (by simp[g16]) (by simp[g19]) (by simp[g20])
theorem Yg{f:Nat->Value}{Stop:Goroutine->(Nat->Prop)->World->Prop}{cs:List Frame}{X D DB DA M X' D' DB' DA' M':Nat}{RB RA RB' RA':Nat->Nat}{nd nb turn wr:Nat}{s t:Dsk}{L L':List Ent}{Tx:Nat->ByteArray}{Ts:List (List It)}(ty:TypeId)(e:Value)(hg0:v.cell? ⟨0,0,none⟩=some (.iface ty e))(T T0:List It)(sv mv x6:Value)(again:Int)(ha1:-9223372036854775808<=again)(ha2:again<=9223372036854775807)(hg:Tryz.prog.globals.size<=v.heap.size)(n14:14<=nd)(n18:nd<=18)(b4:4<=nb)(b15:nb<=15)(hKv:Kp v (fun _=>False) w)(hMid:eC nb 4194304 t.a T0)
  (hD9:Duo v.heap.size nd nb 549755813888 4194304 wr (aH Tx wr).c X D DB DA M X' D' DB' DA' M' RB RA RB' RA' turn s t L L' T w) (hM9:dB v.heap.size v.heap.size w mv Ts) (hI9:aV v.heap.size v.heap.size w sv T)
  (g5:f 5=.int .i64 again) (g6:f 6=x6) (g15:f 15=.pointer (some ⟨X,0,none⟩)) (g16:f 16=sv) (g19:f 19=.pointer (some ⟨X',0,none⟩)) (g20:f 20=mv)
  (next:∀ f' S' w' svc Xu Du DBu DAu Mu RBu RAu turnu su Lu,Kp v (fun _=>False) w'->Hv v.heap.size nd nb 549755813888 4194304 X D DB DA M RB RA turn s L T w'->Hw v.heap.size nd nb 4194304 Xu Du DBu DAu Mu RBu RAu turnu su Lu T0 w'->eC nb 4194304 su.a T0->dB v.heap.size v.heap.size w' mv Ts->aV v.heap.size v.heap.size w' sv T->aV v.heap.size v.heap.size w' svc T0->(∀ x∈T0,x.size<=400)->T0.length<=6->f' 6=x6->f' 15=.pointer (some ⟨X,0,none⟩)->f' 16=sv->f' 20=mv->f' 25=svc->f' 26=.bool true->f' 29=.pointer (some ⟨Xu,0,none⟩)->LR Stop cs 18 f' S' w') :
  LR Stop cs 15 f S w:=by
 unfold LR at next ⊢
 have hKv9:=hKv;clear hKv;have hpk:=jP again (n:=60) (by omega);have e0:sq 15 (LB Tryz.f4)=.seq _ (.seq _ (.seq _ (sq 18 (LB Tryz.f4)))):=rfl;rw[e0];clear e0;generalize sq 18 (LB Tryz.f4)=rst at next ⊢
 repeat refine rN ?_
 refine rK Tryz.func10 (kB b4 n14 n18 (by omega) hD9.ht.st) ?_;rintro _ S10 w10 _ ⟨e1,hE10,gt,rfl,hgt,hTt⟩;subst S10;have hKv10:=hKv9.ext hE10;repeat refine rN ?_
 refine rK Tryz.func16 (lR again 60 (by omega) (by omega) ha1 ha2) ?_;rintro _ S11 w11 _ ⟨rfl,eS,eW⟩;subst S11 w11;repeat refine rN ?_
 refine rK Tryz.func8 (xN ty e (hKv10.cell (fun h=>h) hg0) (Nat.le_trans hg hKv10.size) v.heap.size gt nd (cR again 60) 4194304 t.a T0 hKv10.size hMid (by omega) b4 n14 n18 (by omega) hTt) ?_;rintro _ S12 w12 _ ⟨hK12,Xu,Du,DBu,DAu,Mu,RBu,RAu,Lu,turnu,su,rfl,hHu,hMidu,_,_⟩;have hD12:=(hD9.kp0 (aX hE10)).kp0 hK12;have hM12:=(hM9.kp0 (aX hE10)).kp0 hK12;have hI12:=(hI9.kp0 (aX hE10)).kp0 hK12;have hKv12:=hKv10.trans hK12;have hlu:=hHu.few6;have htuu:=hHu.turn;clear hD9 hM9 hI9 hKv9 hKv10 hE10 hK12 hTt hMid;repeat refine rN ?_
 refine rZ (by simp[Act.eval]) ?_;repeat refine rN ?_
 refine rK Tryz.func14 (oK v.heap.size hKv12.size (by omega) (Nat.le_trans hg hKv12.size) (by omega) n14 n18 (by omega) hHu.st) ?_;rintro _ S13 w13 _ ⟨hK13,sv13,T13,rfl,hR13,hl13,hI13⟩;obtain rfl:=hR13.uniq hHu.rep;have hz13:=hR13.size hHu.st.ent;have hT13:=hR13.len6 hHu.few;have hal13:iZ T13 T13=true:=kC.2 (.refl _);have hD13:=hD12.kp0 hK13;have hM13:=hM12.kp0 hK13;have hI13':=hI12.kp0 hK13;have hHu13:=hHu.put (hHu.st.kp hK13);have hKv13:=hKv12.trans hK13;have hIc:=hI13.lower (hKv12.size);repeat refine rN ?_
 exact next _ _ w13 sv13 Xu Du DBu DAu Mu RBu RAu turnu su Lu hKv13 hD13.hs hHu13 hMidu hM13 hI13' hIc hz13 hT13 (by simp[g6]) (by simp[g15]) (by simp[g16]) (by simp[g20]) (by simp) (by simp) (by simp)
end
