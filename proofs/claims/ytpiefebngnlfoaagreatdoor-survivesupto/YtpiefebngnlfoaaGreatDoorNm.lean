import Derived.Test.YtpiefebngnlfoaaGreatDoorNk
import Derived.Test.YtpiefebngnlfoaaGreatDoorNo
import Derived.Test.YtpiefebngnlfoaaGreatDoorNl
set_option maxRecDepth 100000
set_option maxHeartbeats 16000000
set_option linter.unusedVariables false
set_option linter.unusedSimpArgs false
namespace Go.Proofs.YtpiefebngnlfoaaGreatDoor
open Go.RowKit Go.Conc Go.Vw
def ynB(X nd nb:Nat)(a:Nat→Nat→Nat→Nat)(R:Dms)(B off nr cap j0:Nat)(j:Nat)(x:Value)(w:World):Prop:=
 match j with
 |0=>x=.pointer (some ⟨X,0,none⟩)
 |1=>∃ gd,x=.slice (some ⟨gd,0,none⟩) nd nd∧zfU w gd nd fun d=>txt nb (a d)
 |2=>x=.slice (some ⟨B,off,none⟩) nr cap
 |3=>x=.int .i64 (j0:Nat)
 |4=>x=.pointer (some ⟨B,off+j0,none⟩)
 |5=>x=.slice R.p R.n R.cap
 |_=>∃ gd cd T' H,x=.slice (some ⟨gd,0,none⟩) nd cd∧zfU w gd nd T'∧Harm nd nb (fun d=>txt nb (a d)) T' H
theorem ynE(X nd nb:Nat)(a:Nat→Nat→Nat→Nat)(R:Dms)(B off nr cap j0:Nat):∀ j x w w',ynB X nd nb a R B off nr cap j0 j x w→Ext w w'→ynB X nd nb a R B off nr cap j0 j x w':=by
 intro j x w w' h hE;unfold ynB at h ⊢;split at h<;>first|exact h|skip
 ·obtain⟨g,e,hg⟩:=h;exact⟨g,e,hg.ext hE⟩
 ·obtain⟨g,c,T',H,e,hg,hH⟩:=h;exact⟨g,c,T',H,e,hg.ext hE,hH⟩
section
variable {w w' v:World}{S:Nat→Prop}
theorem ynH{f:Nat→Value}{Stop:Goroutine→(Nat→Prop)→World→Prop}{cs:List Frame}{k0:List Item}{X D DB DA M:Nat}{RB RA:Nat→Nat}{nd nb turn:Nat}{s:Dsk}{L:List Ent}(N B off nr cap j:Nat)(R:Nat→Dms)(hlt:j<nr)(n14:14≤nd)(n18:nd≤18)(b4:4≤nb)(b15:nb≤15)(hX:StE X D DB DA M RB RA nd nb turn s L w)(hc:w.cell? ⟨B,off+j,none⟩=some (.slice (R j).p (R j).n (R j).cap))(hR:ztN N w (R j).p (R j).n (R j).A)(hn:(R j).n≤1048576)
  (g3:f 3=.slice (some ⟨B,off,none⟩) nr cap) (g9:f 9=.pointer (some ⟨X,0,none⟩)) (g11:f 11=.int .i64 (j:Nat))
  (next:∀ (f':Nat→Value) w' gd cd T' H,Ext w w'→zfU w' gd nd T'→Harm nd nb (fun d=>txt nb (s.a d)) T' H→f' 12=.slice (some ⟨gd,0,none⟩) nd cd→f' 3=f 3→f' 10=f 10→f' 11=f 11→Vw.Reach Tryz.prog Stop (G ((base 4).at ⟨TA 97 f',[]⟩ (.inRegion ((zcR 7 (Tryz.f4.body.getD .skip)).getD #[]) [] :: k0)) cs) S w') :
  Vw.Reach Tryz.prog Stop (G ((base 4).at ⟨TA 97 f,[]⟩ (.code (.region 7 ((zcR 7 (Tryz.f4.body.getD .skip)).getD #[]) true) :: k0)) cs) S w:=by
 have e0:zcR 7 (Tryz.f4.body.getD .skip)=some _:=rfl;rw[e0]at next ⊢
 simp only[Option.getD_some]at next ⊢
 clear e0;have hjI:(j:Int)<(nr:Int):=by omega
 refine ziW (by kernel_rfl) (by kernel_rfl) (by kernel_rfl) (ynB X nd nb s.a (R j) B off nr cap j) (ynE _ _ _ _ _ _ _ _ _ _) ?_ ?_ ?_
 ·intro i hi he x u h;have hi':i<8:=hi;rcases(by omega:i=0∨i=1∨i=2∨i=3∨i=4∨i=5∨i=6∨i=7) with rfl|rfl|rfl|rfl|rfl|rfl|rfl|rfl<;>cases he
 ·intro i f1 u rest hi hE hf hd nxt;have q3:f1 3=.slice (some ⟨B,off,none⟩) nr cap:=(hf 3 (zaR (by kernel_rfl))).trans g3;have q9:f1 9=.pointer (some ⟨X,0,none⟩):=(hf 9 (zaR (by kernel_rfl))).trans g9;have q11:f1 11=.int .i64 (j:Nat):=(hf 11 (zaR (by kernel_rfl))).trans g11;clear hf;have hi':i<8:=hi;rcases(by omega:i=0∨i=1∨i=2∨i=3∨i=4∨i=5∨i=6∨i=7) with rfl|rfl|rfl|rfl|rfl|rfl|rfl|rfl
  ·clear hd;refine rY zaA ?_;exact nxt _ u (.refl u) (by simp[ynB,q9])
  ·have d0:f1 34=.pointer (some ⟨X,0,none⟩):=hd 0 (zaD (by kernel_rfl));clear hd;(refine zaC rfl (by first|rfl|simp[Region.wanted,yielded,zaG, *]) rfl Tryz.func16 (by kernel_rfl) rfl (by simp[Act.eval, *];try rfl) (zxN b4 n14 n18 (by omega) (hX.ext hE)) ?_)
   rintro _ S1 w1 _ ⟨e1,hE2,gd,rfl,hgd,hTx⟩;subst S1;exact nxt _ w1 hE2 ⟨gd,rfl,hTx⟩
  ·clear hd;refine rY zaA ?_;exact nxt _ u (.refl u) (by simp[ynB,q3])
  ·clear hd;refine rY zaA ?_;exact nxt _ u (.refl u) (by simp[ynB,q11])
  ·have d2:f1 36=.slice (some ⟨B,off,none⟩) nr cap:=hd 2 (zaD (by kernel_rfl));have d3:f1 37=.int .i64 (j:Nat):=hd 3 (zaD (by kernel_rfl));clear hd;refine rY zaA ?_;exact nxt _ u (.refl u) (by simp[ynB])
  ·have d4:f1 38=.pointer (some ⟨B,off+j,none⟩):=hd 4 (zaD (by kernel_rfl));clear hd;(refine rO zaA rfl ?_;intro _ hu_ K_ hK_;(have hcc:=(Ext.twin hu_).cell (hE.cell hc));go_simp;(try rw[wI _]);(try rw[wU _]);refine hK_ _ ?_;clear hK_ K_ hu_;simp only[sS,sN]);exact nxt _ u (.refl u) (by simp[ynB])
  ·obtain⟨gd,d1,hTx⟩:∃ gd,f1 35=.slice (some ⟨gd,0,none⟩) nd nd∧zfU u gd nd fun d=>txt nb (s.a d):=hd 1 (zaD (by kernel_rfl))
   have d5:f1 39=.slice (R j).p (R j).n (R j).cap:=hd 5 (zaD (by kernel_rfl));clear hd;(refine zaC rfl (by first|rfl|simp[Region.wanted,yielded,zaG, *]) rfl Tryz.func15 (by kernel_rfl) rfl (by simp[Act.eval, *];try rfl) (yeA N nd nb gd nd (fun d=>txt nb (s.a d)) n14 n18 b4 (by omega) hTx (fun d _=>zpV _ _) (R j).p (R j).n (R j).cap (R j).A (by omega) (hR.kp (zbW _ w) (zcA hE))) ?_)
   rintro _ S1 w1 _ ⟨e1,hE3,gd',cd',T',HH,rfl,hTx',hHarm⟩;subst S1;exact nxt _ w1 hE3 ⟨gd',cd',T',HH,rfl,hTx',hHarm⟩
  ·obtain⟨gd',cd',T',HH,d6,hTx',hHarm⟩:∃ gd cd T' H,f1 40=.slice (some ⟨gd,0,none⟩) nd cd∧zfU u gd nd T'∧Harm nd nb (fun d=>txt nb (s.a d)) T' H:=hd 6 (zaD (by kernel_rfl));clear hd;refine rY zaA ?_;exact nxt _ u (.refl u) ⟨gd',cd',T',HH,by simp[d6],hTx',hHarm⟩
 ·intro f1 u hE hf hd;obtain⟨gd',cd',T',HH,d7,hTx',hHarm⟩:∃ gd cd T' H,f1 12=.slice (some ⟨gd,0,none⟩) nd cd∧zfU u gd nd T'∧Harm nd nb (fun d=>txt nb (s.a d)) T' H:=hd 7 (by show 7<8;omega);exact next f1 u gd' cd' T' HH hE hTx' hHarm d7 (hf 3 (zaR (by kernel_rfl))) (hf 10 (zaR (by kernel_rfl))) (hf 11 (zaR (by kernel_rfl)))
end
section
variable {w w' v:World}{S:Nat→Prop}
theorem ynG{f:Nat→Value}{Stop:Goroutine→(Nat→Prop)→World→Prop}{cs:List Frame}{k0:List Item}{X D DB DA M:Nat}{RB RA:Nat→Nat}{nd nb turn:Nat}{s:Dsk}{L:List Ent}(t:TypeId)(e:Value)(hg0:v.cell? ⟨0,0,none⟩=some (.iface t e))(T:List It)(sv:Value)(hg:Tryz.prog.globals.size≤v.heap.size)(n14:14≤nd)(n18:nd≤18)(b4:4≤nb)(b15:nb≤15)(hKv:Kp v (fun _=>False) w)(p:Option Addr)(nr cap:Nat)(R:Nat→Dms)(hR:ynC v.heap.size v p nr R)(hnr:nr≤1048576)
  (hH:Hv v.heap.size nd nb 549755813888 2097152 X D DB DA M RB RA turn s L T w) (hSo:zgM L) (hI:Its v.heap.size v.heap.size w sv T)
  (g3:f 3=.slice p nr cap) (g9:f 9=.pointer (some ⟨X,0,none⟩)) (g10:f 10=sv) (g11:f 11=.int .i64 0)
  (next:∀ f' S' w',Kp v (fun _=>False) w'→Vw.Reach Tryz.prog Stop (G ((base 4).at ⟨TA 97 f',[]⟩ k0) cs) S' w') :
  Vw.Reach Tryz.prog Stop (G ((base 4).at ⟨TA 97 f,[]⟩ (.code (yiN 0 (Tryz.f4.body.getD .skip)) :: .inBlock 0 :: k0)) cs) S w:=by
 have e:yiN 0 (Tryz.f4.body.getD .skip)=.loop _:=rfl;rw[e];clear e;refine zaI (fun d f' S' w'=>∃ j X D DB DA M RB RA turn s L,d=nr - j∧j≤nr∧Kp v (fun _=>False) w'∧Hv v.heap.size nd nb 549755813888 2097152 X D DB DA M RB RA turn s L T w'∧zgM L∧Its v.heap.size v.heap.size w' sv T∧f' 3=.slice p nr cap∧f' 9=.pointer (some ⟨X,0,none⟩)∧f' 10=sv∧f' 11=.int .i64 (j:Nat)) nr ⟨0,X,D,DB,DA,M,RB,RA,turn,s,L,by omega,by omega,hKv,hH,hSo,hI,g3,g9,g10,by simp[g11]⟩ ?_;clear g3 g9 g10 g11 f hI hH hKv s L turn hSo X D DB DA M RB RA;rintro d f S' w ⟨j,X,D,DB,DA,M,RB,RA,turn,s,L,rfl,hj,hK,hH,hSo,hI,g3,g9,g10,g11⟩ nxt;repeat (first|refine rQ rfl ?_|refine rY zaA ?_|refine rW ?_)
 by_cases hlt:j<nr
 ·have hjI:(j:Int)<(nr:Int):=by omega
  obtain⟨⟨B,off,rfl,hBN,hcell⟩,hRj,hRn⟩:=(hR.kp (zbW _ v) hK) j hlt;have htu:=hH.turn;(refine zaB (t:=true) (by simp[Act.eval,g11,g3,hjI,hlt]) ?_;simp only[if_true,if_false,reduceIte,Bool.false_eq_true]);repeat (first|refine ynH v.heap.size B off nr cap j R hlt n14 n18 b4 b15 hH.st hcell hRj hRn (by simp[g3]) (by simp[g9]) (by simp[g11]) fun f2 w3 gd' cd' T' HH hE3 hTx' hHarm q12 q3 q10 q11=>?_|refine rQ rfl ?_)
  replace q3:=q3.trans (by simp[g3]:_=Value.slice (some ⟨B,off,none⟩) nr cap);replace q10:=q10.trans (by simp[g10]:_=sv);replace q11:=q11.trans (by simp[g11]:_=Value.int .i64 (j:Nat));clear g3 g9 g10 g11;have hK3:=hK.ext hE3;obtain⟨hSl,hten⟩:=hH.slots (wr:=1099511627776) hSo (by omega) n14 hHarm;repeat (first|refine rQ rfl ?_|refine rY zaA ?_|refine rW ?_)
  (refine zaC rfl (by first|rfl|simp[Region.wanted,yielded,zaG, *]) rfl Tryz.func17 (by kernel_rfl) rfl (by simp[Act.eval, *];try rfl) (zkT t _ (hK3.cell (fun h=>h) hg0) (Nat.le_trans hg hK3.size) gd' cd' 1099511627776 T' (lbAt L) (gdAt L (zdF T' 1099511627776).c) (Nat.le_refl _) b4 n14 n18 (by omega) (hHarm.texts n14 fun d _=>zpV _ _) hTx' hSl) ?_)
  rintro _ S2 w4 _ ⟨hK4,X',D',DB',DA',M',RB',RA',L',turn',rfl,hSv,hX',hown'⟩;simp only[stO_some];obtain⟨hH4,hLL⟩:=hH.remount (n':=549755813888) (N':=v.heap.size) hSo (by omega) n14 hHarm hSv hX' (fun b hb=>Nat.le_trans hK3.size (hown' b hb)) (by omega);have hI4:Its v.heap.size v.heap.size w4 sv T:=(hI.kp0 (zcA hE3)).kp0 hK4;have hKv5:=hK3.trans hK4;generalize zdP (zdF T' 1099511627776) (takB L') nb=s5 at hH4;clear hX' hSv hSl hten hHarm hTx' hE3 hK4 hI hH hSo hown' hK3 hLL hK hRj hRn hcell;have hl6:=hH4.few6;have htu5:=hH4.turn;repeat (first|refine rQ rfl ?_|refine rY zaA ?_|refine rW ?_)
  (refine zaB (t:=false) (by simp[Act.eval]) ?_;simp only[if_true,if_false,reduceIte,Bool.false_eq_true]);repeat (first|refine rQ rfl ?_|refine rY zaA ?_|refine rW ?_)
  (refine zaC rfl (by first|rfl|simp[Region.wanted,yielded,zaG, *]) rfl Tryz.func18 (by kernel_rfl) rfl (by simp[Act.eval, *];try rfl) (zlA v.heap.size hKv5.size (by omega) (Nat.le_trans hg hKv5.size) (by omega) n14 n18 (by omega) hH4.st) ?_)
  rintro _ S6 w6 _ ⟨hK6,sv6,T6,rfl,hR6,hl66,hI6⟩;simp only[stO_some];obtain rfl:=hR6.uniq hH4.rep;have hz:=hR6.size hH4.st.ent;have hT6:=hR6.len6 hH4.few;have hI5':=hI4.kp0 hK6;have hal:alkB T6 T6=true:=zlY.2 (.refl _);repeat (first|refine rQ rfl ?_|refine rY zaA ?_|refine rW ?_)
  (refine zaC rfl (by first|rfl|simp[Region.wanted,yielded,zaG, *]) rfl Tryz.func19 (by kernel_rfl) rfl (by simp[Act.eval, *];try rfl) (zwH v.heap.size v.heap.size w4.heap.size v.heap.size sv6 sv T6 T6 hI6 hI5' hz hz (by omega) (by omega)) ?_)
  rintro _ S7 w7 _ ⟨rfl,eS,eW⟩;subst S7 w7;rw[hal];simp only[stO_some];have hH6:=hH4.kp0 hK6;have hKv6:=hKv5.trans hK6;clear hH4 hI4 hI6 hK6 hKv5;repeat (first|refine rQ rfl ?_|refine rY zaA ?_|refine rW ?_)
  (refine zaC rfl (by first|rfl|simp[Region.wanted,yielded,zaG, *]) rfl Tryz.func20 (by kernel_rfl) rfl (by simp[Act.eval, *];try rfl) (yfS 1000 (by omega) (by omega) (by omega) (Nat.le_trans hg hKv6.size) (by omega) n14 n18 (by omega) hH6.st) ?_)
  rintro _ S8 w8 _ ⟨k2,h2,hT2,hk2,rfl,hK8,hX8⟩;have hsm:sumB h2 k2≤k2*14:=zpX k2 fun i hi=>hT2.bad14 hi
  have hmin:min (1000:Int).toNat (sumB h2 k2)=sumB h2 k2:=by
   show min 1000 (sumB h2 k2)=_;omega
  rw[hmin]at hX8;rw[hmin,Nat.sub_self];simp only[stO_some];have hH8:=(hH6.le (n':=549755813000+sumB h2 k2) (by omega) (Nat.le_refl _)).scrub (h:=h2) (k:=k2) (j:=sumB h2 k2) hT2 (Nat.le_refl _) hX8;have hSc:=scrd (nb:=nb) (x0:=⟨h2,s5,L'⟩) hH6.st.ids hH6.st.slots hT2 (sumB h2 k2) (Nat.le_refl _)
  have hSo8:zgM (scrubN k2 (sumB h2 k2) ⟨h2,s5,L'⟩).L:=hSc.tells.sound (by
   have h1:=hSc.sum;have h2':sumB (Scb.mk h2 s5 L').h k2=sumB h2 k2:=rfl
   omega)
  have hI8:=hI5'.kp hH6.off hK8;have hKv8:Kp v (fun _=>False) w8:=zkU ((hKv6.mono fun _ h=>h.elim).trans hK8) hH6.own
  generalize (scrubN k2 (sumB h2 k2) ⟨h2,s5,L'⟩).L=L8 at hH8 hSo8;generalize (scrubN k2 (sumB h2 k2) ⟨h2,s5,L'⟩).s=s8 at hH8;clear hSc hX8 hmin hsm hT2 hk2 hH6 hI5' hK8 hKv6 h2 k2;have hl8:=hH8.few6;repeat (first|refine rQ rfl ?_|refine rY zaA ?_|refine rW ?_)
  (refine zaC rfl (by first|rfl|simp[Region.wanted,yielded,zaG, *]) rfl Tryz.func21 (by kernel_rfl) rfl (by simp[Act.eval, *];try rfl) (yjH (by omega) hSo8 hH8.st) ?_)
  rintro _ S13 w13 _ ⟨rfl,eS,hK13⟩;subst S13;simp only[stO_some];have hH13:=hH8.kp0 hK13;have hI13:=hI8.kp0 hK13;have hKv13:=hKv8.trans hK13;clear hH8 hI8 hKv8 hK13;repeat (first|refine rQ rfl ?_|refine rY zaA ?_|refine rW ?_)
  (refine zaB (t:=false) (by simp[Act.eval]) ?_;simp only[if_true,if_false,reduceIte,Bool.false_eq_true]);repeat (first|refine rQ rfl ?_|refine rY zaA ?_|refine rW ?_)
  (refine zaC rfl (by first|rfl|simp[Region.wanted,yielded,zaG, *]) rfl Tryz.func16 (by kernel_rfl) rfl (by simp[Act.eval, *];try rfl) (zxN b4 n14 n18 (by omega) hH13.st) ?_)
  rintro _ S9 w9 _ ⟨e1,hE9,gd9,rfl,hgd9,hTx9⟩;subst S9;simp only[stO_some];have hK9:=hKv13.ext hE9;have hHn:=ydM (nd:=nd) (nb:=nb) fun d=>txt nb (s8.a d)
  obtain⟨hSl9,_⟩:=hH13.slots (wr:=1099511627776) hSo8 (by omega) n14 hHn;repeat (first|refine rQ rfl ?_|refine rY zaA ?_|refine rW ?_)
  (refine zaC rfl (by first|rfl|simp[Region.wanted,yielded,zaG, *]) rfl Tryz.func17 (by kernel_rfl) rfl (by simp[Act.eval, *];try rfl) (zkT t _ (hK9.cell (fun h=>h) hg0) (Nat.le_trans hg hK9.size) gd9 nd 1099511627776 (fun d=>txt nb (s8.a d)) (lbAt L8) (gdAt L8 (zdF (fun d=>txt nb (s8.a d)) 1099511627776).c) (Nat.le_refl _) b4 n14 n18 (by omega) (hHn.texts n14 fun d _=>zpV _ _) hTx9 hSl9) ?_)
  rintro _ S10 w10 _ ⟨hK10,X9,D9,DB9,DA9,M9,RB9,RA9,L9,turn9,rfl,hSv9,hX9,hown9⟩;simp only[stO_some];obtain⟨hH10,hLL9⟩:=hH13.remount (n':=549755813888) (N':=v.heap.size) hSo8 (by omega) n14 hHn hSv9 hX9 (fun b hb=>Nat.le_trans hK9.size (hown9 b hb)) (by omega);have hSo9:=hH13.resound hSo8 (by omega) n14 hHn hSv9 fun _ _=>rfl
  have hI10:Its v.heap.size v.heap.size w10 sv T6:=(hI13.kp0 (zcA hE9)).kp0 hK10;have hKv10:=hK9.trans hK10;generalize zdP (zdF (fun d=>txt nb (s8.a d)) 1099511627776) (takB L9) nb=s9 at hH10;have htu10:=hH10.turn;have hl10:=hH10.few6;clear hX9 hSv9 hSl9 hHn hTx9 hE9 hK10 hI13 hH13 hSo8 hown9 hKv13 hK9 hLL9;repeat (first|refine rQ rfl ?_|refine rY zaA ?_|refine rW ?_)
  (refine zaB (t:=false) (by simp[Act.eval]) ?_;simp only[if_true,if_false,reduceIte,Bool.false_eq_true]);repeat (first|refine rQ rfl ?_|refine rY zaA ?_|refine rW ?_)
  (refine zaC rfl (by first|rfl|simp[Region.wanted,yielded,zaG, *]) rfl Tryz.func18 (by kernel_rfl) rfl (by simp[Act.eval, *];try rfl) (zlA v.heap.size hKv10.size (by omega) (Nat.le_trans hg hKv10.size) (by omega) n14 n18 (by omega) hH10.st) ?_)
  rintro _ S11 w11 _ ⟨hK11,sv11,T11,rfl,hR11,hl11,hI11⟩;simp only[stO_some];obtain rfl:=hR11.uniq hH10.rep;have hz':=hR11.size hH10.st.ent;have hT11:=hR11.len6 hH10.few;have hI10':=hI10.kp0 hK11;repeat (first|refine rQ rfl ?_|refine rY zaA ?_|refine rW ?_)
  (refine zaC rfl (by first|rfl|simp[Region.wanted,yielded,zaG, *]) rfl Tryz.func19 (by kernel_rfl) rfl (by simp[Act.eval, *];try rfl) (zwH v.heap.size v.heap.size w10.heap.size v.heap.size sv11 sv T11 T11 hI11 hI10' hz' hz' (by omega) (by omega)) ?_)
  rintro _ S12 w12 _ ⟨rfl,eS,eW⟩;subst S12 w12;rw[hal];simp only[stO_some];have hH11:=hH10.kp0 hK11;repeat (first|refine rQ rfl ?_|refine rY zaA ?_|refine rW ?_)
  (refine zaC rfl (by first|rfl|simp[Region.wanted,yielded,zaG, *]) rfl Tryz.func21 (by kernel_rfl) rfl (by simp[Act.eval, *];try rfl) (yjH (by omega) hSo9 hH11.st) ?_)
  rintro _ S13 w13' _ ⟨rfl,eS,hK13⟩;subst S13;simp only[stO_some];repeat (first|refine rQ rfl ?_|refine rY zaA ?_|refine rW ?_)
  (refine zaB (t:=false) (by simp[Act.eval]) ?_;simp only[if_true,if_false,reduceIte,Bool.false_eq_true]);repeat (first|refine rQ rfl ?_|refine rY zaA ?_|refine rW ?_)
  exact nxt _ _ _ (nr - (j+1)) (by omega) ⟨j+1,X9,D9,DB9,DA9,M9,RB9,RA9,turn9,s9,L9,rfl,by omega,(hKv10.trans hK11).trans hK13,hH11.kp0 hK13,hSo9,hI10'.kp0 hK13,by simp[q3],by simp,by simp[q10],by simp[q11]⟩
 ·obtain rfl:j=nr:=by omega
  (refine zaB (t:=false) (by simp[Act.eval,g11,g3]) ?_;simp only[if_true,if_false,reduceIte,Bool.false_eq_true]);refine zaK rfl ?_;exact next _ _ _ hK
theorem ynD(t:TypeId)(e:Value)(hg0:v.cell? ⟨0,0,none⟩=some (.iface t e))(hg:Tryz.prog.globals.size≤v.heap.size)(n b:Int)(hn1:-9223372036854775808≤n)(hn2:n≤9223372036854775807)(hb1:-9223372036854775808≤b)(hb2:b≤9223372036854775807)(p:Option Addr)(na cap:Nat)(A:Nat→Ac)(hA:znY v.heap.size v p na A)(hna:na≤1048576)(q:Option Addr)(nr capq:Nat)(R:Nat→Dms)(hR:ynC v.heap.size v q nr R)(hnr:nr≤1048576) :
  ∀ (Stop:Goroutine→(Nat→Prop)→World→Prop) (cs:List Frame),(∀ f' todo S' v',f' 8=.bool true→Kp v (fun _=>False) v'→Vw.Reach Tryz.prog Stop (G {(base 4).at ⟨TA 97 f',[]⟩ todo with mode:=.returning} cs) S' v')→
   Vw.Reach Tryz.prog Stop (G ((base 4).at ⟨TA 97 (argF #[.int .i64 n,.int .i64 b,.slice p na cap,.slice q nr capq]),[]⟩ [.code (Tryz.f4.body.getD .skip)]) cs) S v:=by
 intro Stop cs ret;simp only[Tryz.f4,Option.getD_some];have g0:argF #[.int .i64 n,.int .i64 b,.slice p na cap,.slice q nr capq] 0=.int .i64 n:=rfl;have g1:argF #[.int .i64 n,.int .i64 b,.slice p na cap,.slice q nr capq] 1=.int .i64 b:=rfl;have g2:argF #[.int .i64 n,.int .i64 b,.slice p na cap,.slice q nr capq] 2=.slice p na cap:=rfl;have g3:argF #[.int .i64 n,.int .i64 b,.slice p na cap,.slice q nr capq] 3=.slice q nr capq:=rfl;generalize argF #[.int .i64 n,.int .i64 b,.slice p na cap,.slice q nr capq]=f at g0 g1 g2 g3;repeat (first|refine rQ rfl ?_|refine rY zaA ?_|refine rW ?_)
 (refine zaC rfl (by first|rfl|simp[Region.wanted,yielded,zaG, *]) rfl Tryz.func14 (by kernel_rfl) rfl (by simp[Act.eval, *];try rfl) (yhG t e hg0 hg n b hn1 hn2 hb1 hb2 p na cap A hA hna) ?_)
 rintro _ S1 w1 _ ⟨hK1,X,D,DB,DA,M,RB,RA,turn,s,L,T,sv,rfl,hH,hSo,hI,hTL⟩;simp only[stO_some];have hp5:=zeW n (n:=5) (by omega);have hp12:=zeW b (n:=12) (by omega);obtain⟨nd,hnd⟩:∃ nd,nd=14+zdJ n 5:=⟨_,rfl⟩;obtain⟨nb,hnb⟩:∃ nb,nb=4+zdJ b 12:=⟨_,rfl⟩;rw[←hnd,←hnb]at hH;have n14:14≤nd:=by omega
 have n18:nd≤18:=by omega
 have b4:4≤nb:=by omega
 have b15:nb≤15:=by omega
 clear hnd hnb hp5 hp12 g0 g1 g2 hTL;repeat (first|refine rQ rfl ?_|refine rY zaA ?_|refine rW ?_)
 (refine zaB (t:=false) (by simp[Act.eval]) ?_;simp only[if_true,if_false,reduceIte,Bool.false_eq_true]);repeat (first|refine rQ rfl ?_|refine rY zaA ?_|refine rW ?_)
 refine ynG t e hg0 T sv hg n14 n18 b4 b15 hK1 q nr capq R hR hnr hH hSo hI (by simp[g3]) (by simp) (by simp) (by simp) fun f5 S5 w5 hKv5=>?_
 repeat (first|refine rQ rfl ?_|refine rY zaA ?_|refine rW ?_)
 refine zaH fun todo=>?_
 exact ret _ _ _ w5 (by simp) hKv5
end
end Go.Proofs.YtpiefebngnlfoaaGreatDoor
