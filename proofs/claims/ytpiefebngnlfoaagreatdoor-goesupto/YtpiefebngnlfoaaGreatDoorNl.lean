import Derived.Test.YtpiefebngnlfoaaGreatDoorLi
import Derived.Test.YtpiefebngnlfoaaGreatDoorNk
set_option maxRecDepth 100000
set_option maxHeartbeats 16000000
set_option linter.unusedVariables false
set_option linter.unusedSimpArgs false
namespace Go.Proofs.YtpiefebngnlfoaaGreatDoor
def zvO:Code→List Code
 |.seq a b=>zvO a++zvO b
 |.cond _ a b=>zvO a++zvO b
 |.block _ c=>zvO c
 |.loop c=>.loop c :: zvO c
 |_=>[]
def yiN(n:Nat)(c:Code):Code:=(zvO c).getD n .skip
open Go.RowKit Go.Conc Go.Vw
section
variable {w w' v:World}{S:Nat→Prop}
theorem ykG{f:Nat→Value}{Stop:Goroutine→(Nat→Prop)→World→Prop}{cs:List Frame}{k0:List Item}(gone:Bool)(err X B off na cap j:Nat)(y:Value)(hlt:j<na)(cg:w.cell? ⟨B,off+j*3+1,none⟩=some (.bool gone))(h1:gone=true→err=0∨err=4)(h2:gone=false→err=0∨err=5)
  (g4:f 4=.slice (some ⟨B,off,none⟩) na cap) (g11:f 11=.pointer (some ⟨X,0,none⟩)) (g12:f 12=y) (g13:f 13=.int .i64 (j:Nat)) (g14:f 14=.int .i64 (err:Nat))
  (next:∀ f':Nat→Value,f' 84=.bool false→f' 4=.slice (some ⟨B,off,none⟩) na cap→f' 11=.pointer (some ⟨X,0,none⟩)→f' 12=y→f' 13=.int .i64 (j:Nat)→Vw.Reach Tryz.prog Stop (G ((base 5).at ⟨TA 129 f',[]⟩ (.inRegion ((zcR 12 (Tryz.f5.body.getD .skip)).getD #[]) [] :: k0)) cs) S w) :
  Vw.Reach Tryz.prog Stop (G ((base 5).at ⟨TA 129 f,[]⟩ (.code (.region 12 ((zcR 12 (Tryz.f5.body.getD .skip)).getD #[]) false) :: k0)) cs) S w:=by
 have e0:zcR 12 (Tryz.f5.body.getD .skip)=some _:=rfl;rw[e0]at next ⊢
 simp only[Option.getD_some]at next ⊢
 clear e0;have hjI:(j:Int)<(na:Int):=by omega
 refine rR ?_;simp only[tO,Nat.reduceAdd];cases gone with
 |true=>
  rcases h1 rfl with rfl|rfl
  ·skip;repeat (first|refine rY zaA ?_|refine rW ?_|(refine rO zaA rfl ?_;intro _ hu_ K_ hK_;(have hc:=(Ext.twin hu_).cell cg);go_simp;refine hK_ _ ?_;clear hK_ K_ hu_;simp only[sS,sN]))
   exact next _ (by simp) (by simp[g4]) (by simp[g11]) (by simp[g12]) (by simp[g13])
  ·skip;repeat (first|refine rY zaA ?_|refine rW ?_|(refine rO zaA rfl ?_;intro _ hu_ K_ hK_;(have hc:=(Ext.twin hu_).cell cg);go_simp;refine hK_ _ ?_;clear hK_ K_ hu_;simp only[sS,sN]))
   exact next _ (by simp) (by simp[g4]) (by simp[g11]) (by simp[g12]) (by simp[g13])
 |false=>
  rcases h2 rfl with rfl|rfl
  ·skip;repeat (first|refine rY zaA ?_|refine rW ?_|(refine rO zaA rfl ?_;intro _ hu_ K_ hK_;(have hc:=(Ext.twin hu_).cell cg);go_simp;refine hK_ _ ?_;clear hK_ K_ hu_;simp only[sS,sN]))
   exact next _ (by simp) (by simp[g4]) (by simp[g11]) (by simp[g12]) (by simp[g13])
  ·skip;repeat (first|refine rY zaA ?_|refine rW ?_|(refine rO zaA rfl ?_;intro _ hu_ K_ hK_;(have hc:=(Ext.twin hu_).cell cg);go_simp;refine hK_ _ ?_;clear hK_ K_ hu_;simp only[sS,sN]))
   exact next _ (by simp) (by simp[g4]) (by simp[g11]) (by simp[g12]) (by simp[g13])
theorem ydP{f:Nat→Value}{Stop:Goroutine→(Nat→Prop)→World→Prop}{cs:List Frame}{k0:List Item}{X D DB DA M:Nat}{RB RA:Nat→Nat}{nd nb turn:Nat}{s:Dsk}{L:List Ent}(T:List It)(sv:Value)(hg:Tryz.prog.globals.size≤v.heap.size)(n14:14≤nd)(n18:nd≤18)(b4:4≤nb)(b15:nb≤15)(hKv:Kp v (fun _=>False) w)(p:Option Addr)(na cap:Nat)(A:Nat→Ac)(hA:znY v.heap.size v p na A)(hna:na≤1048576)
  (hH:Hv v.heap.size nd nb (549755813888+42*na) 2097152 X D DB DA M RB RA turn s L T w) (hI:Its v.heap.size v.heap.size w sv T)
  (g4:f 4=.slice p na cap) (g11:f 11=.pointer (some ⟨X,0,none⟩)) (g12:f 12=sv) (g13:f 13=.int .i64 0)
  (next:∀ f' S' w' turn' s' L' T' sv',Kp v (fun _=>False) w'→Hv v.heap.size nd nb 549755813888 4194304 X D DB DA M RB RA turn' s' L' T' w'→Its v.heap.size v.heap.size w' sv' T'→f' 11=.pointer (some ⟨X,0,none⟩)→f' 12=sv'→Vw.Reach Tryz.prog Stop (G ((base 5).at ⟨TA 129 f',[]⟩ k0) cs) S' w') :
  Vw.Reach Tryz.prog Stop (G ((base 5).at ⟨TA 129 f,[]⟩ (.code (yiN 0 (Tryz.f5.body.getD .skip)) :: .inBlock 0 :: k0)) cs) S w:=by
 have e:yiN 0 (Tryz.f5.body.getD .skip)=.loop _:=rfl;rw[e];clear e;refine zaI (fun d f' S' w'=>∃ j turn s L T sv,d=na - j∧j≤na∧Kp v (fun _=>False) w'∧Hv v.heap.size nd nb (549755813888+42*(na - j)) (2097152+j) X D DB DA M RB RA turn s L T w'∧Its v.heap.size v.heap.size w' sv T∧f' 4=.slice p na cap∧f' 11=.pointer (some ⟨X,0,none⟩)∧f' 12=sv∧f' 13=.int .i64 (j:Nat)) na ⟨0,turn,s,L,T,sv,by omega,by omega,hKv,hH,hI,g4,g11,g12,by simp[g13]⟩ ?_;clear g4 g11 g12 g13 f hI hH hKv s L T sv turn;rintro d f S' w ⟨j,turn,s,L,T,sv,rfl,hj,hK,hH,hI,g4,g11,g12,g13⟩ nxt;repeat (first|refine rQ rfl ?_|refine rY zaA ?_|refine rW ?_)
 by_cases hlt:j<na
 ·have hjI:(j:Int)<(na:Int):=by omega
  obtain⟨⟨B,off,rfl,hBN,hcell⟩,haOk⟩:=(hA.kp (zbW _ v) hK) j hlt;have htu:=hH.turn;(refine zaB (t:=true) (by simp[Act.eval,g13,g4,hjI,hlt]) ?_;simp only[if_true,if_false,reduceIte,Bool.false_eq_true]);repeat (first|refine rQ rfl ?_|refine rY zaA ?_|refine rW ?_)
  refine zaO zaA rfl rfl (by kernel_rfl) (fun u hu=>zjK (b:=B) (off:=off+j*3) (x:=.tmp 46) (c:=A j) rfl (by simp) fun k y hy=>(Ext.twin hu).cell (hcell k y hy)) ?_
  simp only[stO_some];(refine zaC rfl (by first|rfl|simp[Region.wanted,yielded,zaG, *]) rfl Tryz.func22 (by kernel_rfl) rfl (by simp[Act.eval, *];try rfl) (yiU v.heap.size (A j) haOk (Nat.le_trans hg hK.size) (by omega) b4 n14 n18 (by omega) hH.len hH.st) ?_)
  rintro _ S2 w2 _ ⟨err,s',L',turn',rfl,hd,hK2,hX2⟩;simp only[stO_some];obtain⟨k',hk'⟩:∃ k',k'=549755813888+42*(na - (j+1)):=⟨_,rfl⟩;have hH':Hv v.heap.size nd nb (k'+42) (2097152+j) X D DB DA M RB RA turn s L T w:=hH.le (by omega) (Nat.le_refl _);have hH2:=hH'.did hd hX2;obtain⟨he5,hE1,hE2⟩:=Did.err hd;have hI2:=hI.kp hH.off hK2;have ha2:=haOk.kp hH.off hK2;have hc2:∀ k y,(A j).agg[k]?=some y→w2.cell? ⟨B,off+j*3+k,none⟩=some y:=fun k y hy=>hK2.cell (fun hb=>by have:=hH.own B hb;omega) (hcell k y hy)
  have hK2':Kp v (fun _=>False) w2:=zkU ((hK.mono fun _ h=>h.elim).trans hK2) hH.own
  have hT6:=hH.rep.len6 hH.few;have HK:=hide hk';clear hk' hd hX2 hH';repeat (first|refine rQ rfl ?_|refine rY zaA ?_|refine rW ?_)
  refine zaO zaA rfl rfl (by kernel_rfl) (fun u hu=>zjK (b:=B) (off:=off+j*3) (x:=.tmp 52) (c:=A j) rfl (by simp) fun k y hy=>(Ext.twin hu).cell (hc2 k y hy)) ?_
  simp only[stO_some];repeat (first|refine rQ rfl ?_|refine rY zaA ?_|refine rW ?_)
  (refine zaC rfl (by first|rfl|simp[Region.wanted,yielded,zaG, *]) rfl Tryz.func23 (by kernel_rfl) rfl (by simp[Act.eval, *];try rfl) (yeT v.heap.size hK2'.size T sv (A j) err (by omega) hI2 ha2 (by omega)) ?_)
  rintro y S3 w3 _ ⟨eS,hE3,hI3⟩;subst S3;simp only[stO_some];have hH3:=hH2.kp0 (zcA hE3);have cg:w3.cell? ⟨B,off+j*3+1,none⟩=some (.bool (A j).gone):=hE3.cell (hc2 1 _ rfl);have hH4:Hv v.heap.size nd nb (549755813888+42*(na - (j+1))) (2097152+(j+1)) X D DB DA M RB RA turn' s' L' (if err=0 then aftR (A j).it (A j).gone T else T) w3:=by
   rw[←HK.out];exact hH3
  have hKn:=hK2'.ext hE3;have fin:∀ f':Nat→Value,f' 4=.slice (some ⟨B,off,none⟩) na cap→f' 11=.pointer (some ⟨X,0,none⟩)→f' 12=y→f' 13=.int .i64 ((j+1:Nat):Int)→∃ j' turn s L T sv,na - (j+1)=na - j'∧j'≤na∧Kp v (fun _=>False) w3∧Hv v.heap.size nd nb (549755813888+42*(na - j')) (2097152+j') X D DB DA M RB RA turn s L T w3∧Its v.heap.size v.heap.size w3 sv T∧f' 4=.slice (some ⟨B,off,none⟩) na cap∧f' 11=.pointer (some ⟨X,0,none⟩)∧f' 12=sv∧f' 13=.int .i64 (j':Nat):=fun f' q4 q11 q12 q13=>⟨j+1,turn',s',L',_,y,rfl,by omega,hKn,hH4,hI3,q4,q11,q12,q13⟩
  clear hH2 hH3 hH4 hI3 hI2 ha2 hc2 hK2 hK2' HK;refine rY zaA ?_;repeat (first|refine ykG (A j).gone err X B off na cap j y hlt cg hE1 hE2 (by simp[g4]) (by simp[g11]) (by simp) (by simp[g13]) (by simp) fun f2 q84 q4 q11 q12 q13=>?_|refine rQ rfl ?_)
  (refine zaB (t:=false) (by simp[Act.eval,q84]) ?_;simp only[if_true,if_false,reduceIte,Bool.false_eq_true]);repeat (first|refine rQ rfl ?_|refine rY zaA ?_|refine rW ?_)
  exact nxt _ _ _ (na - (j+1)) (by omega) (fin _ (by simp[q4]) (by simp[q11]) (by simp[q12]) (by simp))
 ·obtain rfl:j=na:=by omega
  (refine zaB (t:=false) (by simp[Act.eval,g13,g4]) ?_;simp only[if_true,if_false,reduceIte,Bool.false_eq_true]);refine zaK rfl ?_;exact next _ _ _ turn s L T sv hK (hH.le (by omega) (by omega)) hI (by simp[g11]) (by simp[g12])
end
end Go.Proofs.YtpiefebngnlfoaaGreatDoor
