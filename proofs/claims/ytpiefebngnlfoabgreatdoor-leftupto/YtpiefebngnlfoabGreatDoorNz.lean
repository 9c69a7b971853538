import Derived.Test.YtpiefebngnlfoabGreatDoorNt
import Derived.Test.YtpiefebngnlfoabGreatDoorNq
set_option maxRecDepth 99999
set_option maxHeartbeats 0
set_option linter.unusedVariables false
set_option linter.unusedSimpArgs false
namespace Go.Proofs.YtpiefebngnlfoabGreatDoor
open Go.RowKit Go.Conc Go.Vw
section
variable {w w' v:World}{S:Nat->Prop}
theorem Vt{f:Nat->Value}{Stop:Goroutine->(Nat->Prop)->World->Prop}{cs:List Frame}{X D DB DA M X1 D1 DB1 DA1 M1:Nat}{RB RA RB1 RA1:Nat->Nat}{nd nb turn turn1:Nat}{s s1:Dsk}{L L1:List Ent}(T T0:List It)(sv svc x6:Value)(hg:Tryz.prog.globals.size<=v.heap.size)(n14:14<=nd)(n18:nd<=18)(b4:4<=nb)(b15:nb<=15)(hKv:Kp v (fun _=>False) w)
  (hHs6:Hv v.heap.size nd nb 549755813888 4194304 X D DB DA M RB RA turn s L T w) (hH6:Hv v.heap.size nd nb 549755813888 4194304 X1 D1 DB1 DA1 M1 RB1 RA1 turn1 s1 L1 T0 w) (hI6':aV v.heap.size v.heap.size w sv T) (hIc6:aV v.heap.size v.heap.size w svc T0) (hap:∀ b,bN X D M RB RA nd b->¬bN X1 D1 M1 RB1 RA1 nd b)
  (g6:f 6=x6) (g15:f 15=.pointer (some ⟨X,0,none⟩)) (g16:f 16=sv) (g25:f 25=svc) (g31:f 31=.pointer (some ⟨X1,0,none⟩)) (g33:f 33=.bool true) (g27:f 27=.bool true)
  (next:∀ f' S' w' s8 L8,Kp v (fun _=>False) w'->Hv v.heap.size nd nb 549755813888 4194304 X D DB DA M RB RA turn s L T w'->Hv v.heap.size nd nb 549755813000 4194304 X1 D1 DB1 DA1 M1 RB1 RA1 turn1 s8 L8 T0 w'->fJ L8->aV v.heap.size v.heap.size w' sv T->aV v.heap.size v.heap.size w' svc T0->f' 6=x6->f' 15=.pointer (some ⟨X,0,none⟩)->f' 16=sv->f' 25=svc->f' 31=.pointer (some ⟨X1,0,none⟩)->LR Stop cs 25 f' S' w') :
  LR Stop cs 23 f S w:=by
 unfold LR at next ⊢
 have htu:=hH6.turn;have hl6:=hH6.few6;have hKv6:=hKv;clear hKv;have e0:sq 23 (LB Tryz.f4)=.seq _ (.seq _ (sq 25 (LB Tryz.f4))):=rfl;rw[e0];clear e0;generalize sq 25 (LB Tryz.f4)=rst at next ⊢
 repeat (first|refine rQ rfl ?_|refine cY aB ?_|refine cZ ?_)
 refine fW Tryz.func13 (Up 1000 (by omega) (by omega) (by omega) (Nat.le_trans hg hKv6.size) (by omega) n14 n18 (by omega) hH6.st) ?_;rintro _ S8 w8 _ ⟨k2,h2,hT2,hk2,rfl,hK8,hX8⟩;have hsm:bI h2 k2<=k2*14:=uV k2 fun i hi=>hT2.bad14 hi
 have hmin:min (1000:Int).toNat (bI h2 k2)=bI h2 k2:=by
  show min 1000 (bI h2 k2)=_;omega
 rw[hmin]at hX8;rw[hmin,Nat.sub_self];have hH8:=(hH6.le (n':=549755813000+bI h2 k2) (by omega) (Nat.le_refl _)).scrub (h:=h2) (k:=k2) (j:=bI h2 k2) hT2 (Nat.le_refl _) hX8;have hSc:=An (nb:=nb) (x0:=⟨h2,s1,L1⟩) hH6.st.ids hH6.st.slots hT2 (bI h2 k2) (Nat.le_refl _)
 have hSo8:fJ (scrubN k2 (bI h2 k2) ⟨h2,s1,L1⟩).L:=hSc.tells.sound (by
  have h1:=hSc.sum;have h2':bI (Scb.mk h2 s1 L1).h k2=bI h2 k2:=rfl
  omega)
 have hI8:=hI6'.kp hH6.off hK8;have hIc8:=hIc6.kp hH6.off hK8;have hXs8:=hHs6.st.two hH6.st hap hK8;have hHs8:Hv v.heap.size nd nb 549755813888 4194304 X D DB DA M RB RA turn s L T w8:=⟨hXs8,hHs6.own,hHs6.neat,hHs6.few,hHs6.len,hHs6.kept,hHs6.turn,hHs6.rep⟩;have hKv8:Kp v (fun _=>False) w8:=lT ((hKv6.mono fun _ h=>h.elim).trans hK8) hH6.own
 generalize (scrubN k2 (bI h2 k2) ⟨h2,s1,L1⟩).L=L8 at hH8 hSo8;generalize (scrubN k2 (bI h2 k2) ⟨h2,s1,L1⟩).s=s8 at hH8;clear hSc hX8 hmin hsm hT2 hk2 hH6 hI6' hIc6 hHs6 hXs8 hK8 hKv6 h2 k2 hap;repeat (first|refine rQ rfl ?_|refine cY aB ?_|refine cZ ?_)
 refine rZ (by simp[Act.eval,g33,g27]) ?_;repeat (first|refine rQ rfl ?_|refine cY aB ?_|refine cZ ?_)
 exact next _ _ w8 s8 L8 hKv8 hHs8 hH8 hSo8 hI8 hIc8 (by simp[g6]) (by simp[g15]) (by simp[g16]) (by simp[g25]) (by simp[g31])
end
