import Derived.Test.YtpiefebngnlfoaaGreatDoorNf
set_option maxRecDepth 100000
set_option maxHeartbeats 16000000
set_option linter.unusedVariables false
set_option linter.unusedSimpArgs false
namespace Go.Proofs.YtpiefebngnlfoaaGreatDoor
open Go.RowKit Go.Conc Go.Vw
theorem Rep.len6{L:List Ent}{T:List It}(h:Rep L T)(hf:Few L):T.length≤6:=by
 have hn:(T.map (·.id)).Nodup:=by
  unfold List.Nodup;rw[List.pairwise_map];exact h.srt.imp fun {a b} q=>by
   show a.id≠b.id;omega
 have:=zhR (m:=[1,301,1201,2701,4801,7501]) hn fun x hx=>by
  obtain⟨t,ht,rfl⟩:=List.mem_map.1 hx;obtain⟨e,he,rfl⟩:=(h.mem t).1 ht;exact hf e he
 simpa using this
theorem Rep.nil:Rep [] []:=⟨List.Pairwise.nil,fun x=>by simp⟩
def fstA(B:Nat):Ac:=⟨0,false,some ⟨B,0,none⟩,5,5,fstV⟩
section
variable {w w' v:World}{S:Nat→Prop}
theorem yhG(t:TypeId)(e:Value)(hg0:v.cell? ⟨0,0,none⟩=some (.iface t e))(hg:Tryz.prog.globals.size≤v.heap.size)(n b:Int)(hn1:-9223372036854775808≤n)(hn2:n≤9223372036854775807)(hb1:-9223372036854775808≤b)(hb2:b≤9223372036854775807)(p:Option Addr)(na cap:Nat)(A:Nat→Ac)(hA:znY v.heap.size v p na A)(hna:na≤1048576) :
  zaP Tryz.prog 14 #[.int .i64 n,.int .i64 b,.slice p na cap] S v fun x S' v'=>Kp v (fun _=>False) v'∧∃ X D DB DA M RB RA turn s L T sv,x=.tuple #[.pointer (some ⟨X,0,none⟩),sv]∧Hv v.heap.size (14+zdJ n 5) (4+zdJ b 12) 549755813888 2097152 X D DB DA M RB RA turn s L T v'∧zgM L∧Its v.heap.size v.heap.size v' sv T∧T.length=L.length:=by
 refine zaF Tryz.func14 rfl Tryz.ntmps14 (by simp) fun Stop cc cs ret=>?_
 have g0:argF #[.int .i64 n,.int .i64 b,.slice p na cap] 0=.int .i64 n:=rfl;have g1:argF #[.int .i64 n,.int .i64 b,.slice p na cap] 1=.int .i64 b:=rfl;have g2:argF #[.int .i64 n,.int .i64 b,.slice p na cap] 2=.slice p na cap:=rfl;generalize argF #[.int .i64 n,.int .i64 b,.slice p na cap]=f at g0 g1 g2;have hp5:=zeW n (n:=5) (by omega);have hp12:=zeW b (n:=12) (by omega);repeat (first|refine rQ rfl ?_|refine rY zaA ?_|refine rW ?_)
 (refine zaC rfl (by first|rfl|simp[Region.wanted,yielded,zaG, *]) rfl Tryz.func42 (by kernel_rfl) rfl (by simp[Act.eval, *];try rfl) (zkR n 5 (by omega) (by omega) hn1 hn2) ?_)
 rintro _ S1 w1 _ ⟨rfl,e1,e2⟩;subst S1 w1;simp only[stO_some];obtain⟨nd,hnd⟩:∃ nd,nd=14+zdJ n 5:=⟨_,rfl⟩;obtain⟨nb,hnb⟩:∃ nb,nb=4+zdJ b 12:=⟨_,rfl⟩;rw[←hnd,←hnb]at ret;have hndI:(14:Int)+((zdJ n 5:Nat):Int)=(nd:Int):=by omega
 have hnbI:(4:Int)+((zdJ b 12:Nat):Int)=(nb:Int):=by omega
 have n14:14≤nd:=by omega
 have n18:nd≤18:=by omega
 have b4:4≤nb:=by omega
 have b15:nb≤15:=by omega
 clear hnd hnb;generalize zdJ n 5=k5 at *
 repeat (first|refine rQ rfl ?_|refine rY zaA ?_|refine rW ?_)
 (refine zaC rfl (by first|rfl|simp[Region.wanted,yielded,zaG, *]) rfl Tryz.func42 (by kernel_rfl) rfl (by simp[Act.eval, *];try rfl) (zkR b 12 (by omega) (by omega) hb1 hb2) ?_)
 rintro _ S1 w1 _ ⟨rfl,e1,e2⟩;subst S1 w1;simp only[stO_some];generalize zdJ b 12=k12 at *
 repeat (first|refine rQ rfl ?_|refine rY zaA ?_|refine rW ?_)
 (refine zaC rfl (by first|rfl|simp[Region.wanted,yielded,zaG, *]) rfl Tryz.func41 (by kernel_rfl) rfl (by simp[Act.eval, *];try rfl) (yhR nd nb n14 n18 b4 b15) ?_)
 rintro _ S1 w1 _ ⟨e1,hE1,g,c,rfl,hz⟩;subst S1;simp only[stO_some];have hT0:zfU w1 g nd fun _=>zs (nb*96):=hz
 have hO0:TextsOk nd nb fun _=>zs (nb*96):=⟨fun j _=>.inr (yaG _),0,by omega,yaG _⟩
 have hSl:∀ q,q<nb→SlotK (zdF (fun _=>zs (nb*96)) 1099511627776).c q ⟨0,0,0,fun _=>0⟩ fun _=>false:=fun q _=>⟨fun k hk h=>(by cases h),fun k hk h=>(by cases h),fun k hk _=>znQ fun i hi=>ylC _ _⟩
 clear hz;repeat (first|refine rQ rfl ?_|refine rY zaA ?_|refine rW ?_)
 (refine zaC rfl (by first|rfl|simp[Region.wanted,yielded,zaG, *]) rfl Tryz.func17 (by kernel_rfl) rfl (by simp[Act.eval, *];try rfl) (zkT t e (hE1.cell hg0) (Nat.le_trans hg hE1.size) g c 1099511627776 (fun _=>zs (nb*96)) (fun _=>⟨0,0,0,fun _=>0⟩) (fun _ _=>false) (Nat.le_refl _) b4 n14 n18 (by omega) hO0 hT0 hSl) ?_)
 rintro _ S1 w2 _ ⟨hK2,X,D,DB,DA,M,RB,RA,L,turn,rfl,hSv,hX,hown⟩;obtain⟨rfl,rfl⟩:=zrM (fun _ _=>rfl) hSv;simp only[stO_some];have hKv2:=(zcA hE1).trans hK2;have hHv:Hv v.heap.size nd nb (549755813888+42*na+42) 0 X D DB DA M RB RA 0 (zdP (zdF (fun _=>zs (nb*96)) 1099511627776) (takB []) nb) [] [] w2:=⟨hX,fun b hb=>Nat.le_trans hE1.size (hown b hb),⟨fun e he=>(by cases he),fun q hq _ k hk j hj=>zjG rfl hk hj nb hq⟩,fun e he=>(by cases he),by simp,Kept.sweep nb ⟨rfl,by show _≤1099511627776;omega⟩,Nat.le_refl _,.nil⟩
 generalize (zdP (zdF (fun _=>zs (nb*96)) 1099511627776) (takB []) nb)=s0 at hHv;clear hX hSv hown;have hKs:Kp v (fun _=>False) w2:=hKv2;clear hK2 hKv2 hT0 hO0 hSl hE1;repeat (first|refine rQ rfl ?_|refine rY zaA ?_|refine rW ?_)
 (refine zaB (t:=false) (by simp[Act.eval]) ?_;simp only[if_true,if_false,reduceIte,Bool.false_eq_true]);repeat (first|refine rQ rfl ?_|refine rY zaA ?_|refine rW ?_)
 refine zaJ (Q:=fun y w=>y=.slice (some ⟨w2.heap.size,0,none⟩) 5 5∧Ext w2 w∧w.heap[w2.heap.size]?=some (.cells (zaE 5 fstV) 5)) zaA rfl rfl (by kernel_rfl) (fun u hu=>⟨_,_,.inl (znO rfl),by rw[hu.heap],(Ext.twin hu).trans _ _ _ (Ext.alloc _ _),by rw[←hu.heap];exact zaX _ _⟩) ?_
 rintro _ w2' ⟨rfl,hE2',hb2'⟩;simp only[stO_some];refine zoV rfl rfl rfl Tryz.underlying43 Tryz.underlying5 (g:=w2.heap.size) (o':=0) (m:=5) (c:=5) (by simp) hb2' fun w3 fr3 hW3=>?_
 simp only[stO_some];have hb3:=hW3.at_;have hE3:Ext w2 w3:=zbD hE2' (Nat.le_refl _) hW3;repeat (first|refine rQ rfl ?_|refine rY zaA ?_|refine rW ?_)
 have hH3:=hHv.kp0 (zcA hE3);have hK3:=hKs.ext hE3;have sl5:∀ {w:World} {B:Nat} {fr:Nat×Nat},w.heap[B]?=some (.cells (zaE 5 fstV) 5 fr)→SlN v.heap.size w (some ⟨B,0,none⟩) 5 5 fstV:=fun {w B fr} hB=>⟨.inl (.inr ⟨B,0,rfl,Nat.le_refl _,fun i hi=>by rw[cell_of_row _ _ _ _ _ _ hB,Nat.zero_add];exact zaZ _ _ _ hi⟩),fun _ a ha=>by cases ha;exact⟨(Array.getElem?_eq_some_iff.1 hB).1,.inr ⟨_,_,hB⟩⟩⟩
 (refine zaC rfl (by first|rfl|simp[Region.wanted,yielded,zaG, *]) rfl Tryz.func29 (by kernel_rfl) rfl (by simp[Act.eval, *];try rfl) (yiJ 1 5 5 (some ⟨w2.heap.size,0,none⟩) fstV (by omega) (by omega) (by omega) ykJ (sl5 hb3).1 (Nat.le_trans hg hK3.size) (by omega) b4 n14 n18 (by omega) hH3.st (by simp)) ?_)
 rintro y S2 w4 _ hpost;rw[if_neg (by simp[zoD,zbF];omega)]at hpost;obtain⟨rfl,hK4,p0,clock,hF,hP,hX4⟩:=hpost;simp only[stO_some];obtain⟨s4,L4,t4,hdid,hX4'⟩:∃ s4 L4 t4,Did nb s0 [] 0 (fstA w2.heap.size) 0 s4 L4 t4∧StE X D DB DA M RB RA nd nb t4 s4 L4 w4:=by
  refine⟨_,_,_,?_,hX4⟩;unfold Did;rw[if_neg (by simp[fstA]),if_neg (by simp[fstA,zoD,zbF];omega)];exact⟨rfl,rfl,p0,clock,hF,hP,rfl,rfl⟩
 have hH4:=hH3.did hdid hX4';have hSo:=Did.sound (L:=[]) (fun e he=>(by cases he)) hdid
 have hT4:(if 0=0 then aftR (fstA w2.heap.size).it (fstA w2.heap.size).gone [] else [])=[⟨1,5,fstV⟩]:=rfl;rw[hT4]at hH4;clear hdid hX4 hX4' hP hF hT4 hHv;have hK4':Kp v (fun _=>False) w4:=zkU ((hK3.mono fun _ h=>h.elim).trans hK4) hH4.own
 clear hK4 hb3 hW3 hb2' hE2' hE3 hH3 hK3 hKs;repeat (first|refine rQ rfl ?_|refine rY zaA ?_|refine rW ?_)
 refine zaJ (Q:=fun y w=>y=.slice (some ⟨w4.heap.size,0,none⟩) 5 5∧Ext w4 w∧w.heap[w4.heap.size]?=some (.cells (zaE 5 fstV) 5)) zaA rfl rfl (by kernel_rfl) (fun u hu=>⟨_,_,.inl (znO rfl),by rw[hu.heap],(Ext.twin hu).trans _ _ _ (Ext.alloc _ _),by rw[←hu.heap];exact zaX _ _⟩) ?_
 rintro _ w5' ⟨rfl,hE5',hb5'⟩;simp only[stO_some];refine zoV rfl rfl rfl Tryz.underlying43 Tryz.underlying5 (g:=w4.heap.size) (o':=0) (m:=5) (c:=5) (by simp) hb5' fun w5 fr5 hW5=>?_
 simp only[stO_some];have hb5:=hW5.at_;have hE5:Ext w4 w5:=zbD hE5' (Nat.le_refl _) hW5;repeat (first|refine rQ rfl ?_|refine rY zaA ?_|refine rW ?_)
 refine zaJ (Q:=fun x w6=>x=.slice (some ⟨w5.heap.size,0,none⟩) 1 1∧Ext w5 w6∧w6.heap[w5.heap.size]?=some (.cells #[.int .i64 1,.slice (some ⟨w4.heap.size,0,none⟩) 5 5] 102)) zaA rfl rfl (by kernel_rfl) (fun u hu=>⟨_,_,.inl (zfK (x:=.tmp 31) (y:=.int .i64 1) (z:=.slice (some ⟨w4.heap.size,0,none⟩) 5 5) rfl (by simp)),by rw[hu.heap],(Ext.twin hu).trans _ _ _ (Ext.alloc _ _),by rw[←hu.heap];exact zaX _ _⟩) ?_
 rintro _ w6 ⟨rfl,hE6,hr6⟩;simp only[stO_some];have hK6:=(hK4'.ext hE5).ext hE6;have hH6:=(hH4.kp0 (zcA hE5)).kp0 (zcA hE6);have hI6:Its v.heap.size v.heap.size w6 (.slice (some ⟨w5.heap.size,0,none⟩) 1 1) [⟨1,5,fstV⟩]:=by
  refine⟨[⟨⟨1,5,fstV⟩,some ⟨w4.heap.size,0,none⟩,5⟩],rfl,⟨rfl,.inr ⟨_,1,_,rfl,Nat.le_trans hK4'.size hE5.size,hr6,Nat.le_refl _,by decide,rfl,rfl⟩⟩,fun q hq=>?_⟩
  rw[List.mem_singleton.1 hq];exact sl5 (hE6.row hb5)
 have hA6:=hA.kp (zbW _ v) hK6;clear hb5 hW5 hE5 hE5' hb5' hH4 hK4' hr6 hE6 sl5;repeat (first|refine rQ rfl ?_|refine rY zaA ?_|refine rW ?_)
 (refine zaB (t:=false) (by simp[Act.eval]) ?_;simp only[if_true,if_false,reduceIte,Bool.false_eq_true]);repeat (first|refine rQ rfl ?_|refine rY zaA ?_|refine rW ?_)
 refine zaI (fun d f' S' w=>∃ j turn s L T sv,d=na - j∧j≤na∧Kp v (fun _=>False) w∧Hv v.heap.size nd nb (549755813888+42*(na - j)) (1+j) X D DB DA M RB RA turn s L T w∧zgM L∧Its v.heap.size v.heap.size w sv T∧f' 2=.slice p na cap∧f' 8=.pointer (some ⟨X,0,none⟩)∧f' 10=sv∧f' 11=.int .i64 (j:Nat)) na ⟨0,t4,s4,L4,_,_,by omega,by omega,hK6,hH6,hSo,hI6,by simp[g2],by simp,by simp,by simp⟩ ?_;clear g0 g1 g2 f hK6 hH6 hSo hI6 hA6;rintro d f S' w ⟨j,turn,s,L,T,sv,rfl,hj,hK,hH,hSo,hI,g2,g8,g10,g11⟩ nxt;repeat (first|refine rQ rfl ?_|refine rY zaA ?_|refine rW ?_)
 by_cases hlt:j<na
 ·have hjI:(j:Int)<(na:Int):=by omega
  have hAw:=hA.kp (zbW _ v) hK;obtain⟨⟨B,off,rfl,hBN,hcell⟩,haOk⟩:=hAw j hlt;have htu:=hH.turn;(refine zaB (t:=true) (by simp[Act.eval,g11,g2,hjI,hlt]) ?_;simp only[if_true,if_false,reduceIte,Bool.false_eq_true]);repeat (first|refine rQ rfl ?_|refine rY zaA ?_|refine rW ?_)
  refine zaO zaA rfl rfl (by kernel_rfl) (fun u hu=>zjK (b:=B) (off:=off+j*3) (x:=.tmp 44) (c:=A j) rfl (by simp) fun k y hy=>(Ext.twin hu).cell (hcell k y hy)) ?_
  simp only[stO_some];(refine zaC rfl (by first|rfl|simp[Region.wanted,yielded,zaG, *]) rfl Tryz.func22 (by kernel_rfl) rfl (by simp[Act.eval, *];try rfl) (yiU v.heap.size (A j) haOk (Nat.le_trans hg hK.size) (by omega) b4 n14 n18 (by omega) hH.len hH.st) ?_)
  rintro _ S2 w2 _ ⟨err,s',L',turn',rfl,hd,hK2,hX2⟩;simp only[stO_some];obtain⟨k',hk'⟩:∃ k',k'=549755813888+42*(na - (j+1)):=⟨_,rfl⟩;have hH':Hv v.heap.size nd nb (k'+42) (1+j) X D DB DA M RB RA turn s L T w:=⟨hH.st,hH.own,hH.neat,hH.few,hH.len,hH.kept.le (by omega),hH.turn,hH.rep⟩;have hH2:=hH'.did hd hX2;have hSo2:=Did.sound hSo hd;obtain⟨he5,_,_⟩:=Did.err hd;have hI2:=hI.kp hH.off hK2;have ha2:=haOk.kp hH.off hK2;have hc2:∀ k y,(A j).agg[k]?=some y→w2.cell? ⟨B,off+j*3+k,none⟩=some y:=fun k y hy=>hK2.cell (fun hb=>by have:=hH.own B hb;omega) (hcell k y hy)
  have hK2':Kp v (fun _=>False) w2:=zkU ((hK.mono fun _ h=>h.elim).trans hK2) hH.own
  have hT6:=hH.rep.len6 hH.few;have HK:=hide hk';clear hk' hd hX2 hH';repeat (first|refine rQ rfl ?_|refine rY zaA ?_|refine rW ?_)
  refine zaO zaA rfl rfl (by kernel_rfl) (fun u hu=>zjK (b:=B) (off:=off+j*3) (x:=.tmp 50) (c:=A j) rfl (by simp) fun k y hy=>(Ext.twin hu).cell (hc2 k y hy)) ?_
  simp only[stO_some];repeat (first|refine rQ rfl ?_|refine rY zaA ?_|refine rW ?_)
  (refine zaC rfl (by first|rfl|simp[Region.wanted,yielded,zaG, *]) rfl Tryz.func23 (by kernel_rfl) rfl (by simp[Act.eval, *];try rfl) (yeT v.heap.size hK2'.size T sv (A j) err (by omega) hI2 ha2 (by omega)) ?_)
  rintro y S3 w3 _ ⟨eS,hE3,hI3⟩;subst S3;simp only[stO_some];have hH3:=hH2.kp0 (zcA hE3);repeat (first|refine rQ rfl ?_|refine rY zaA ?_|refine rW ?_)
  refine nxt _ _ _ (na - (j+1)) (by omega) ⟨j+1,turn',s',L',_,y,rfl,by omega,hK2'.ext hE3,?_,hSo2,hI3,by simp[g2],by simp[g8],by simp,by simp⟩;rw[←HK.out];exact hH3
 ·obtain rfl:j=na:=by omega
  have htu:=hH.turn;(refine zaB (t:=false) (by simp[Act.eval,g11,g2]) ?_;simp only[if_true,if_false,reduceIte,Bool.false_eq_true]);refine zaK rfl ?_;repeat (first|refine rQ rfl ?_|refine rY zaA ?_|refine rW ?_)
  (refine zaC rfl (by first|rfl|simp[Region.wanted,yielded,zaG, *]) rfl Tryz.func18 (by kernel_rfl) rfl (by simp[Act.eval, *];try rfl) (zlA v.heap.size hK.size (by have:=hH.few6;omega) (Nat.le_trans hg hK.size) (by omega) n14 n18 (by omega) hH.st) ?_)
  rintro _ S2 w2 _ ⟨hK2,sv2,T2,rfl,hR2,hl2,hI2⟩;simp only[stO_some];obtain rfl:=hR2.uniq hH.rep;have hz:=hR2.size hH.st.ent;have hT6:=hR2.len6 hH.few;have hI':=hI.kp0 hK2;have hal:alkB T2 T2=true:=zlY.2 (.refl _);repeat (first|refine rQ rfl ?_|refine rY zaA ?_|refine rW ?_)
  (refine zaC rfl (by first|rfl|simp[Region.wanted,yielded,zaG, *]) rfl Tryz.func19 (by kernel_rfl) rfl (by simp[Act.eval, *];try rfl) (zwH v.heap.size v.heap.size w.heap.size v.heap.size sv2 sv T2 T2 hI2 hI' hz hz (by omega) (by omega)) ?_)
  rintro _ S3 w3 _ ⟨rfl,eS,eW⟩;subst S3 w3;rw[hal];simp only[stO_some];repeat (first|refine rQ rfl ?_|refine rY zaA ?_|refine rW ?_)
  (refine zaB (t:=false) (by simp[Act.eval]) ?_;simp only[if_true,if_false,reduceIte,Bool.false_eq_true]);repeat (first|refine rQ rfl ?_|refine rY zaA ?_|refine rW ?_)
  refine zaH fun todo=>?_
  refine ret _ _ _ w2 (.tuple #[.pointer (some ⟨X,0,none⟩),sv]) ?_ ⟨hK.trans hK2,X,D,DB,DA,M,RB,RA,turn,s,L,T2,sv,rfl,?_,hSo,hI',hl2⟩
  ·simp[results,Tryz.results14,g8,g10]
  ·exact⟨hH.st.kp hK2,hH.own,hH.neat,hH.few,hH.len,hH.kept.le (by omega),by omega,hH.rep⟩
end
end Go.Proofs.YtpiefebngnlfoaaGreatDoor
