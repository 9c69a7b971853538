import Derived.Test.YtpiefebngnlfoabGreatDoorNt
import Derived.Test.YtpiefebngnlfoabGreatDoorNq
set_option maxRecDepth 99999
set_option maxHeartbeats 0
set_option linter.unusedVariables false
set_option linter.unusedSimpArgs false
namespace Go.Proofs.YtpiefebngnlfoabGreatDoor
open Go.RowKit Go.Conc Go.Vw
section
variable {w w' v:World}{S:Nat->Prop}
theorem Ye{f:Nat->Value}{Stop:Goroutine->(Nat->Prop)->World->Prop}{cs:List Frame}{X D DB DA M Xu Du DBu DAu Mu:Nat}{RB RA RBu RAu:Nat->Nat}{nd nb turn turnu:Nat}{s su:Dsk}{L Lu:List Ent}(ty:TypeId)(e:Value)(hg0:v.cell? ⟨0,0,none⟩=some (.iface ty e))(T T0:List It)(sv svc x6:Value)(hg:Tryz.prog.globals.size<=v.heap.size)(n14:14<=nd)(n18:nd<=18)(b4:4<=nb)(b15:nb<=15)(hKv:Kp v (fun _=>False) w)(hHs:Hv v.heap.size nd nb 549755813888 4194304 X D DB DA M RB RA turn s L T w)(hHu:Hw v.heap.size nd nb 4194304 Xu Du DBu DAu Mu RBu RAu turnu su Lu T0 w)(hMidu:eC nb 4194304 su.a T0)(hI:aV v.heap.size v.heap.size w sv T)(hIc:aV v.heap.size v.heap.size w svc T0)
  (h6:f 6=x6) (h15:f 15=.pointer (some ⟨X,0,none⟩)) (h16:f 16=sv) (h25:f 25=svc) (h26:f 26=.bool true) (h29:f 29=.pointer (some ⟨Xu,0,none⟩)) (h30:f 30=.bool true)
  (next:∀ f' S' w' X1 D1 DB1 DA1 M1 RB1 RA1 L1 turn1 s1,Kp v (fun _=>False) w'->Hv v.heap.size nd nb 549755813888 4194304 X D DB DA M RB RA turn s L T w'->Hv v.heap.size nd nb 549755813888 4194304 X1 D1 DB1 DA1 M1 RB1 RA1 turn1 s1 L1 T0 w'->aV v.heap.size v.heap.size w' sv T->aV v.heap.size v.heap.size w' svc T0->(∀ b,bN X D M RB RA nd b->¬bN X1 D1 M1 RB1 RA1 nd b)->f' 6=x6->f' 15=.pointer (some ⟨X,0,none⟩)->f' 16=sv->f' 25=svc->f' 31=.pointer (some ⟨X1,0,none⟩)->LR Stop cs 21 f' S' w') :
  LR Stop cs 19 f S w:=by
 unfold LR at next ⊢
 have e0:sq 19 (LB Tryz.f4)=.seq _ (.seq _ (sq 21 (LB Tryz.f4))):=rfl;rw[e0];clear e0;generalize sq 21 (LB Tryz.f4)=rst at next ⊢
 repeat (first|refine rQ rfl ?_|refine cY aB ?_|refine cZ ?_)
 refine fW Tryz.func10 (kB b4 n14 n18 (by omega) hHu.st) ?_;rintro _ S14 w14 _ ⟨e1,hE14,gt,rfl,hgt,hTt⟩;subst S14;have hKv14:=hKv.ext hE14;repeat (first|refine rQ rfl ?_|refine cY aB ?_|refine cZ ?_)
 refine fW Tryz.func8 (xN ty e (hKv14.cell (fun h=>h) hg0) (Nat.le_trans hg hKv14.size) v.heap.size gt nd 1099511627776 4194304 su.a T0 hKv14.size hMidu (by omega) b4 n14 n18 (by omega) hTt) ?_;rintro _ S15 w15 _ ⟨hK15,X1,D1,DB1,DA1,M1,RB1,RA1,L1,turn1,s1,rfl,hH1,_,hKe,hown1⟩;repeat (first|refine rQ rfl ?_|refine cY aB ?_|refine cZ ?_)
 refine rZ (by simp[Act.eval,h26,h30]) ?_;repeat (first|refine rQ rfl ?_|refine cY aB ?_|refine cZ ?_)
 refine next _ _ w15 X1 D1 DB1 DA1 M1 RB1 RA1 L1 turn1 s1 (hKv14.trans hK15) ((hHs.kp0 (aX hE14)).kp0 hK15) (hH1.hv (hKe _ (by omega))) ((hI.kp0 (aX hE14)).kp0 hK15) ((hIc.kp0 (aX hE14)).kp0 hK15) (fun b hb hb'=>?_) (by simp[h6]) (by simp[h15]) (by simp[h16]) (by simp[h25]) (by simp)
 have h1:=hHs.st.lt b hb;have h2:=hown1 b hb';have:=hE14.size;omega
theorem Yd{f:Nat->Value}{Stop:Goroutine->(Nat->Prop)->World->Prop}{cs:List Frame}{X D DB DA M X1 D1 DB1 DA1 M1:Nat}{RB RA RB1 RA1:Nat->Nat}{nd nb turn turn1:Nat}{s s1:Dsk}{L L1:List Ent}(T T0:List It)(sv svc x6:Value)(hg:Tryz.prog.globals.size<=v.heap.size)(n14:14<=nd)(n18:nd<=18)(b4:4<=nb)(b15:nb<=15)(hKv:Kp v (fun _=>False) w)
  (hHs:Hv v.heap.size nd nb 549755813888 4194304 X D DB DA M RB RA turn s L T w) (hH1:Hv v.heap.size nd nb 549755813888 4194304 X1 D1 DB1 DA1 M1 RB1 RA1 turn1 s1 L1 T0 w) (hI:aV v.heap.size v.heap.size w sv T) (hIc:aV v.heap.size v.heap.size w svc T0)
  (g6:f 6=x6) (g15:f 15=.pointer (some ⟨X,0,none⟩)) (g16:f 16=sv) (g25:f 25=svc) (g31:f 31=.pointer (some ⟨X1,0,none⟩))
  (next:∀ f' S' w',Kp v (fun _=>False) w'->Hv v.heap.size nd nb 549755813888 4194304 X D DB DA M RB RA turn s L T w'->Hv v.heap.size nd nb 549755813888 4194304 X1 D1 DB1 DA1 M1 RB1 RA1 turn1 s1 L1 T0 w'->aV v.heap.size v.heap.size w' sv T->aV v.heap.size v.heap.size w' svc T0->(∀ x∈T0,x.size<=400)->T0.length<=6->f' 6=x6->f' 15=.pointer (some ⟨X,0,none⟩)->f' 16=sv->f' 25=svc->f' 31=.pointer (some ⟨X1,0,none⟩)->f' 33=.bool true->f' 27=.bool true->LR Stop cs 23 f' S' w') :
  LR Stop cs 21 f S w:=by
 unfold LR at next ⊢
 have htu:=hH1.turn;have hl6:=hH1.few6;have e0:sq 21 (LB Tryz.f4)=.seq _ (.seq _ (sq 23 (LB Tryz.f4))):=rfl;rw[e0];clear e0;generalize sq 23 (LB Tryz.f4)=rst at next ⊢
 repeat (first|refine rQ rfl ?_|refine cY aB ?_|refine cZ ?_)
 refine fW Tryz.func14 (oK v.heap.size hKv.size (by omega) (Nat.le_trans hg hKv.size) (by omega) n14 n18 (by omega) hH1.st) ?_;rintro _ S6 w6 _ ⟨hK6,sv6,T6,rfl,hR6,hl66,hI6⟩;obtain rfl:=hR6.uniq hH1.rep;have hz:=hR6.size hH1.st.ent;have hT6:=hR6.len6 hH1.few;have hIc6:=hIc.kp0 hK6;have hal:iZ T6 T6=true:=kC.2 (.refl _);repeat (first|refine rQ rfl ?_|refine cY aB ?_|refine cZ ?_)
 refine fW Tryz.func15 (mX v.heap.size v.heap.size v.heap.size w.heap.size svc sv6 T6 T6 hIc6 hI6 hz hz (by omega) (by omega)) ?_;rintro _ S7 w7 _ ⟨rfl,eS,eW⟩;subst S7 w7;rw[hal];have hH6:=hH1.kp0 hK6;have hHs6:=hHs.kp0 hK6;have hI6':=hI.kp0 hK6;have hKv6:=hKv.trans hK6;clear hH1 hHs hI hIc hK6 hKv hI6;repeat (first|refine rQ rfl ?_|refine cY aB ?_|refine cZ ?_)
 exact next _ _ w6 hKv6 hHs6 hH6 hI6' hIc6 hz hT6 (by simp[g6]) (by simp[g15]) (by simp[g16]) (by simp[g25]) (by simp[g31]) (by simp) (by simp)
end
