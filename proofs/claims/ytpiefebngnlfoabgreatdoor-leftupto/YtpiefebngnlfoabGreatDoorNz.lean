import Derived.Test.YtpiefebngnlfoabGreatDoorNt
import Derived.Test.YtpiefebngnlfoabGreatDoorNq
set_option maxRecDepth 100000
set_option maxHeartbeats 16000000
set_option linter.unusedVariables false
set_option linter.unusedSimpArgs false
namespace Go.Proofs.YtpiefebngnlfoabGreatDoor
open Go.RowKit Go.Conc Go.Vw
section
variable {w w' v:World}{S:Nat->Prop}
theorem Tv{f:Nat->Value}{Stop:Goroutine->(Nat->Prop)->World->Prop}{cs:List Frame}{X D DB DA M X1 D1 DB1 DA1 M1:Nat}{RB RA RB1 RA1:Nat->Nat}{nd nb turn turn1:Nat}{s s1:Dsk}{L L1:List Ent}(T T0:List It)(sv svc x6:Value)(hg:Tryz.prog.globals.size<=v.heap.size)(n14:14<=nd)(n18:nd<=18)(b4:4<=nb)(b15:nb<=15)(hKv:Kp v (fun _=>False) w)
  (hHs6:Hv v.heap.size nd nb 549755813888 4194304 X D DB DA M RB RA turn s L T w) (hH6:Hv v.heap.size nd nb 549755813888 4194304 X1 D1 DB1 DA1 M1 RB1 RA1 turn1 s1 L1 T0 w) (hI6':Its v.heap.size v.heap.size w sv T) (hIc6:Its v.heap.size v.heap.size w svc T0) (hap:∀ b,bG X D M RB RA nd b->¬bG X1 D1 M1 RB1 RA1 nd b)
  (g6:f 6=x6) (g15:f 15=.pointer (some ⟨X,0,none⟩)) (g16:f 16=sv) (g25:f 25=svc) (g31:f 31=.pointer (some ⟨X1,0,none⟩)) (g33:f 33=.bool true) (g27:f 27=.bool true)
  (next:∀ f' S' w' s8 L8,Kp v (fun _=>False) w'->Hv v.heap.size nd nb 549755813888 4194304 X D DB DA M RB RA turn s L T w'->Hv v.heap.size nd nb 549755813000 4194304 X1 D1 DB1 DA1 M1 RB1 RA1 turn1 s8 L8 T0 w'->eL L8->Its v.heap.size v.heap.size w' sv T->Its v.heap.size v.heap.size w' svc T0->f' 6=x6->f' 15=.pointer (some ⟨X,0,none⟩)->f' 16=sv->f' 25=svc->f' 31=.pointer (some ⟨X1,0,none⟩)->LR Stop cs 25 f' S' w') :
  LR Stop cs 23 f S w:=by
 unfold LR at next ⊢
 have htu:=hH6.turn;have hl6:=hH6.few6;have hKv6:=hKv;clear hKv;have e0:sq 23 LB=.seq _ (.seq _ (sq 25 LB)):=rfl;rw[e0];clear e0;generalize sq 25 LB=rst at next ⊢
 repeat (first|refine rQ rfl ?_|refine rY2 aA ?_|refine rW2 ?_)
 refine rK3 Tryz.func13 (So 1000 (by omega) (by omega) (by omega) (Nat.le_trans hg hKv6.size) (by omega) n14 n18 (by omega) hH6.st) ?_;rintro _ S8 w8 _ ⟨k2,h2,hT2,hk2,rfl,hK8,hX8⟩;have hsm:bB h2 k2<=k2*14:=sZ k2 fun i hi=>hT2.bad14 hi
 have hmin:min (1000:Int).toNat (bB h2 k2)=bB h2 k2:=by
  show min 1000 (bB h2 k2)=_;omega
 rw[hmin]at hX8;rw[hmin,Nat.sub_self];have hH8:=(hH6.le (n':=549755813000+bB h2 k2) (by omega) (Nat.le_refl _)).scrub (h:=h2) (k:=k2) (j:=bB h2 k2) hT2 (Nat.le_refl _) hX8;have hSc:=yQ (nb:=nb) (x0:=⟨h2,s1,L1⟩) hH6.st.ids hH6.st.slots hT2 (bB h2 k2) (Nat.le_refl _)
 have hSo8:eL (scrubN k2 (bB h2 k2) ⟨h2,s1,L1⟩).L:=hSc.tells.sound (by
  have h1:=hSc.sum;have h2':bB (Scb.mk h2 s1 L1).h k2=bB h2 k2:=rfl
  omega)
 have hI8:=hI6'.kp hH6.off hK8;have hIc8:=hIc6.kp hH6.off hK8;have hXs8:=hHs6.st.two hH6.st hap hK8;have hHs8:Hv v.heap.size nd nb 549755813888 4194304 X D DB DA M RB RA turn s L T w8:=⟨hXs8,hHs6.own,hHs6.neat,hHs6.few,hHs6.len,hHs6.kept,hHs6.turn,hHs6.rep⟩;have hKv8:Kp v (fun _=>False) w8:=kI ((hKv6.mono fun _ h=>h.elim).trans hK8) hH6.own
 generalize (scrubN k2 (bB h2 k2) ⟨h2,s1,L1⟩).L=L8 at hH8 hSo8;generalize (scrubN k2 (bB h2 k2) ⟨h2,s1,L1⟩).s=s8 at hH8;clear hSc hX8 hmin hsm hT2 hk2 hH6 hI6' hIc6 hHs6 hXs8 hK8 hKv6 h2 k2 hap;repeat (first|refine rQ rfl ?_|refine rY2 aA ?_|refine rW2 ?_)
 refine rZ (by simp[Act.eval,g33,g27]) ?_;repeat (first|refine rQ rfl ?_|refine rY2 aA ?_|refine rW2 ?_)
 exact next _ _ w8 s8 L8 hKv8 hHs8 hH8 hSo8 hI8 hIc8 (by simp[g6]) (by simp[g15]) (by simp[g16]) (by simp[g25]) (by simp[g31])
end
