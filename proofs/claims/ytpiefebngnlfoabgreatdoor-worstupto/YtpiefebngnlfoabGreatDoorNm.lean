import Derived.Test.YtpiefebngnlfoabGreatDoorNl
set_option maxRecDepth 100000
set_option maxHeartbeats 16000000
set_option linter.unusedVariables false
set_option linter.unusedSimpArgs false
namespace Go.Proofs.YtpiefebngnlfoabGreatDoor
open Go.RowKit Go.Conc Go.Vw
section
variable {w w' v:World}{S:Nat→Prop}
theorem yaE{f:Nat→Value}{Stop:Goroutine→(Nat→Prop)→World→Prop}{cs:List Frame}{k0:List Item}{X D DB DA M:Nat}{RB RA:Nat→Nat}{nd nb turn:Nat}{s:Dsk}{L:List Ent}(T:List It)(sv:Value)(k g:Nat)(h:Nat→Hl)(hg:Tryz.prog.globals.size≤v.heap.size)(n14:14≤nd)(n18:nd≤18)(b4:4≤nb)(b15:nb≤15)(hKv:Kp v (fun _=>False) w)
  (hH:Hv v.heap.size nd nb (549755813888+sumB h k) 2097152 X D DB DA M RB RA turn s L T w) (hI:Its v.heap.size v.heap.size w sv T) (hTl:Tells L k h) (hk6:k≤6) (hr:w.heap[g]?=some (.cells (hA k h) 38))
  (g9:f 9=.pointer (some ⟨X,0,none⟩)) (g10:f 10=sv) (g11:f 11=.slice (some ⟨g,0,none⟩) k k) (g12:f 12=.int .i64 (sumB h k:Nat)) (g13:f 13=.int .i64 (mxB h k:Nat))
  (next:∀ f' S' w' s' L',Kp v (fun _=>False) w'→Hv v.heap.size nd nb 549755813888 2097152 X D DB DA M RB RA turn s' L' T w'→Its v.heap.size v.heap.size w' sv T→f' 9=.pointer (some ⟨X,0,none⟩)→f' 10=sv→Vw.Reach Tryz.prog Stop (G ((base 3).at ⟨TA 158 f',[]⟩ k0) cs) S' w') :
  Vw.Reach Tryz.prog Stop (G ((base 3).at ⟨TA 158 f,[]⟩ (.code (zxB 0 (Tryz.f3.body.getD .skip)) :: .inBlock 0 :: k0)) cs) S w:=by
 have e:zxB 0 (Tryz.f3.body.getD .skip)=.loop _:=rfl;rw[e];clear e;refine zaI (fun d f' S' w'=>∃ s L g h bd mx,d=bd∧Hid (bd=sumB h k)∧Hid (mx=mxB h k)∧Kp v (fun _=>False) w'∧Hv v.heap.size nd nb (549755813888+bd) 2097152 X D DB DA M RB RA turn s L T w'∧Its v.heap.size v.heap.size w' sv T∧Tells L k h∧w'.heap[g]?=some (.cells (hA k h) 38)∧f' 9=.pointer (some ⟨X,0,none⟩)∧f' 10=sv∧f' 11=.slice (some ⟨g,0,none⟩) k k∧f' 12=.int .i64 (bd:Nat)∧f' 13=.int .i64 (mx:Nat)) (sumB h k) ⟨s,L,g,h,sumB h k,mxB h k,rfl,hide rfl,hide rfl,hKv,hH,hI,hTl,hr,g9,g10,g11,g12,g13⟩ ?_;clear g9 g10 g11 g12 g13 f hr hTl hI hH hKv s L g h;rintro d f S' w ⟨s,L,g,h,bd,mx,rfl,HB,HM,hKv,hH,hI,hTl,hr,g9,g10,g11,g12,g13⟩ nxt;have hL6:=hH.few6;have htu:=hH.turn;have hbd84:d≤k*14:=by rw[HB.out];exact zmG k fun i hi=>hTl.bad14 hi
 have hd84:d≤84:=by omega
 clear hbd84;by_cases hpos:0<d
 ·have hposI:(0:Int)<(d:Int):=by omega
  repeat (first|refine rQ rfl ?_|refine rY zaA ?_|refine rW ?_)
  (refine zaB (t:=true) (by simp[Act.eval,hposI,hpos]) ?_;simp only[if_true,if_false,reduceIte,Bool.false_eq_true]);repeat (first|refine rQ rfl ?_|refine rY zaA ?_|refine rW ?_)
  (refine zaC rfl (by first|rfl|simp[Region.wanted,yielded,zaG, *]) rfl Tryz.func13 (by kernel_rfl) rfl (by simp[Act.eval, *];try rfl) (zqC 1 (by omega) (by omega) (by omega) (Nat.le_trans hg hKv.size) (by omega) n14 n18 (by omega) hH.st) ?_)
  rintro _ S1 w1 _ ⟨k2,h2,hT2,hk2,rfl,hK1,hX1⟩;obtain⟨rfl,e2⟩:=hTl.uniq hT2;have hs2:sumB h2 k=d:=by rw[←zdP e2,HB.out]
  have hm1:min (1:Int).toNat d=1:=by
   show min 1 d=1;omega
  rw[hs2,hm1]at hX1;rw[hs2,hm1];simp only[stO_some];have hSc:=scrd (nb:=nb) (x0:=⟨h2,s,L⟩) hH.st.ids hH.st.slots hT2 1 (by rw[hs2];exact hpos);obtain⟨d',hd'⟩:∃ d',d=d'+1:=⟨d - 1,by omega⟩;have hH':Hv v.heap.size nd nb (549755813888+d'+1) 2097152 X D DB DA M RB RA turn s L T w:=⟨hH.st,hH.own,hH.neat,hH.few,hH.len,hH.kept.le (by omega),hH.turn,hH.rep⟩;have hH1:=hH'.scrub (h:=h2) (k:=k) (j:=1) hT2 (by rw[hs2];exact hpos) hX1;have hsum1:sumB (scrubN k 1 ⟨h2,s,L⟩).h k=d':=by
   have:=hSc.sum;rw[show sumB (Scb.mk h2 s L).h k=d from hs2]at this;omega
  have hT1:=hSc.tells;have hr1:=hK1.cells _ _ _ _ (hH.st.gnew hr) hr;have hI1:=hI.kp hH.off hK1;have hKv1:Kp v (fun _=>False) w1:=ziZ ((hKv.mono fun _ h=>h.elim).trans hK1) hH.own
  have hp2:0<sumB h k:=by rw[←HB.out];exact hpos
  have hL61:=hH1.few6;have hids:=hH.st.ids;clear hH hH' hX1 hI hK1 hr hKv hk2;have hd1:d - 1=d':=by omega
  have hd2:(d:Int) - 1=(d':Int):=by omega
  rw[hd1];repeat (first|refine rQ rfl ?_|refine rY zaA ?_|refine rW ?_)
  (refine zaC rfl (by first|rfl|simp[Region.wanted,yielded,zaG, *]) rfl Tryz.func11 (by kernel_rfl) rfl (by simp[Act.eval, *];try rfl) (zqQ (by omega) hH1.st) ?_)
  rintro _ S2 w2 _ ⟨e1,k3,g3,h3,rfl,hl⟩;subst S2;simp only[stO_some];have hT3:=hl.tells hH1.st.ids;obtain⟨_,rfl,_,mi,hStp⟩:=ylH hids hTl hT2 hp2 hT3;have hs3:sumB h3 k3=d':=by
   obtain⟨_,q⟩:=hT3.uniq hT1;rw[zdP q,hsum1]
  have hr2:=hl.kp.cells _ _ _ _ (fun x=>x) hr1;have hr3:=hl.row;have hH2:=hH1.kp0 hl.kp;have hI2:=hI1.kp0 hl.kp;have hKv2:=hKv1.trans hl.kp;have hb14:∀ i,i<k3→(h i).bad≤14:=fun i hi=>hTl.bad14 hi
  have hb143:∀ i,i<k3→(h3 i).bad≤14:=fun i hi=>hT3.bad14 hi
  clear hl hr1 hH1 hI1 hKv1 hT1 hsum1 hSc hs2 hm1;repeat (first|refine rQ rfl ?_|refine rY zaA ?_|refine rW ?_)
  (refine zaB (t:=false) (by simp[Act.eval]) ?_;simp only[if_true,if_false,reduceIte,Bool.false_eq_true]);repeat (first|refine rQ rfl ?_|refine rY zaA ?_|refine rW ?_)
  refine yeZ k3 g k3 g3 k3 mi mx h h3 (by omega) HM.out hStp hb14 hr2 hr3 (.pointer (some ⟨X,0,none⟩)) sv (by simp[g9]) (by simp[g10]) (by simp[g11]) (by simp[g13]) (by simp) (by simp) (by simp) fun f2 q16 q9 q10 q15=>?_
  clear g9 g10 g11 g12 g13 f;repeat (first|refine rQ rfl ?_|refine rY zaA ?_|refine rW ?_)
  (refine zaB (t:=false) (by simp[Act.eval]) ?_;simp only[if_true,if_false,reduceIte,Bool.false_eq_true]);repeat (first|refine rQ rfl ?_|refine rY zaA ?_|refine rW ?_)
  (refine zaC rfl (by first|rfl|simp[Region.wanted,yielded,zaG, *]) rfl Tryz.func12 (by kernel_rfl) rfl (by simp[Act.eval, *];try rfl) (ylG g3 k3 k3 h3 (by omega) hb143 hr3) ?_)
  rintro _ S3 w3 _ ⟨rfl,e1,e2⟩;subst S3 w3;simp only[stO_some];rw[hs3];repeat (first|refine rQ rfl ?_|refine rY zaA ?_|refine rW ?_)
  refine nxt _ _ _ d' (by omega) ⟨_,_,g3,h3,d',mxB h3 k3,rfl,hide hs3.symm,hide rfl,hKv2,hH2,hI2,hT3,hr3,by simp[q9],by simp[q10],by simp,by simp,by simp⟩
 ·obtain rfl:d=0:=by omega
  repeat (first|refine rQ rfl ?_|refine rY zaA ?_|refine rW ?_)
  (refine zaB (t:=false) (by simp[Act.eval]) ?_;simp only[if_true,if_false,reduceIte,Bool.false_eq_true]);refine zaK rfl ?_;exact next _ _ _ s L hKv hH hI (by simp[g9]) (by simp[g10])
end
end Go.Proofs.YtpiefebngnlfoabGreatDoor
