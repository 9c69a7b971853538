import Derived.Test.YtpiefebngnlfoabGreatDoorNt
import Derived.Test.YtpiefebngnlfoabGreatDoorNq
set_option maxRecDepth 99999
set_option maxHeartbeats 0
set_option linter.unusedVariables false
set_option linter.unusedSimpArgs false
namespace Go.Proofs.YtpiefebngnlfoabGreatDoor
open Go.RowKit Go.Conc Go.Vw
section
variable {w w' v:World}{S:Nat->Prop}
theorem Vs{f:Nat->Value}{Stop:Goroutine->(Nat->Prop)->World->Prop}{cs:List Frame}{X2 D2 DB2 DA2 M2:Nat}{RB2 RA2:Nat->Nat}{nd nb turn2:Nat}{s2:Dsk}{L2:List Ent}(T:List It)(sv:Value)(hg:Tryz.prog.globals.size<=v.heap.size)(n14:14<=nd)(n18:nd<=18)(b4:4<=nb)(b15:nb<=15)(hKv:Kp v (fun _=>False) w)
  (hH14:Hw v.heap.size nd nb 4194304 X2 D2 DB2 DA2 M2 RB2 RA2 turn2 s2 L2 T w) (hI14':aV v.heap.size v.heap.size w sv T)
  (g15:f 15=.pointer (some ⟨X2,0,none⟩)) (g16:f 16=sv) (g33:f 33=.bool true) (g27:f 27=.bool true)
  (next:∀ f' S' w',Kp v (fun _=>False) w'->f' 33=.bool true->f' 27=.bool true->f' 36=.bool true->f' 37=.bool true->LR Stop cs 32 f' S' w') :
  LR Stop cs 30 f S w:=by
 unfold LR at next ⊢
 have hKv14:=hKv;clear hKv;have htu2:=hH14.turn;have hl2:=hH14.few6;have e0:sq 30 (LB Tryz.f4)=.seq _ (.seq _ (sq 32 (LB Tryz.f4))):=rfl;rw[e0];clear e0;generalize sq 32 (LB Tryz.f4)=rst at next ⊢
 repeat (first|refine rQ rfl ?_|refine cY aB ?_|refine cZ ?_)
 refine fW Tryz.func14 (oK v.heap.size hKv14.size (by omega) (Nat.le_trans hg hKv14.size) (by omega) n14 n18 (by omega) hH14.st) ?_;rintro _ S16 w16 _ ⟨hK16,sv16,T16,rfl,hR16,hl16,hI16⟩;obtain rfl:=hR16.uniq hH14.rep;have hz16:=hR16.size hH14.st.ent;have hT16:=hR16.len6 hH14.few;have hal16:iZ T16 T16=true:=kC.2 (.refl _);repeat (first|refine rQ rfl ?_|refine cY aB ?_|refine cZ ?_)
 refine fW Tryz.func15 (mX v.heap.size v.heap.size w.heap.size v.heap.size sv16 sv T16 T16 hI16 (hI14'.kp0 hK16) hz16 hz16 (by omega) (by omega)) ?_;rintro _ S17 w17 _ ⟨rfl,eS,eW⟩;subst S17 w17;rw[hal16];repeat (first|refine rQ rfl ?_|refine cY aB ?_|refine cZ ?_)
 exact next _ _ w16 (hKv14.trans hK16) (by simp[g33]) (by simp[g27]) (by simp) (by simp)
theorem Vr{f:Nat->Value}{Stop:Goroutine->(Nat->Prop)->World->Prop}{cs:List Frame}(hKv:Kp v (fun _=>False) w)(g33:f 33=.bool true)(g27:f 27=.bool true)(g36:f 36=.bool true)(g37:f 37=.bool true)
  (ret:∀ f' todo S' v',f' 14=.bool true->Kp v (fun _=>False) v'->Vw.Reach Tryz.prog Stop (G {(base 4).at ⟨TA 241 f',[]⟩ todo with mode:=.returning} cs) S' v') :
  LR Stop cs 32 f S w:=by
 unfold LR;simp only[sq,LB,Tryz.f4,Option.getD_some];repeat (first|refine rQ rfl ?_|refine cY aB ?_|refine cZ ?_)
 refine aP fun todo=>?_
 exact ret _ _ _ w (by simp) hKv
end
