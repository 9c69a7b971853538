import Derived.Test.YtpiefebngnlfoaaGreatDoorMh
set_option maxRecDepth 100000
set_option maxHeartbeats 16000000
set_option linter.unusedVariables false
set_option linter.unusedSimpArgs false
namespace Go.Proofs.YtpiefebngnlfoaaGreatDoor
open Go.RowKit Go.Conc Go.Vw
section
variable {w w' v:World}{S:Nat→Prop}
theorem yhB{f:Nat→Value}{Stop:Goroutine→(Nat→Prop)→World→Prop}{cs:List Frame}{k0:List Item}(g n cap N j:Nat)(h:Nat→Hl)(hj:0<j)(hjn:j<n)(hnc:n≤cap)(hn:n≤12)(hnN:n≤N)(hg:w.heap[g]?=some (.cells (hA N h) 94))
  (g0:f 0=.slice (some ⟨g,0,none⟩) n cap) (g9:f 9=.int .i64 (j:Nat))
  (next:∀ w1 w2 f',Wr w g (.cells (hA N (updH h j (h (j - 1)))) 94) w1→Wr w1 g (.cells (hA N (swH h j)) 94) w2→(∀ s,s<18→f' s=f s)→Vw.Reach Tryz.prog Stop (G ((base 92).at ⟨TA 53 f',[]⟩ (.inRegion ((zcR 6 (Tryz.f92.body.getD .skip)).getD #[]) [] :: k0)) cs) S w2) :
  Vw.Reach Tryz.prog Stop (G ((base 92).at ⟨TA 53 f,[]⟩ (.code (.region 6 ((zcR 6 (Tryz.f92.body.getD .skip)).getD #[]) true) :: k0)) cs) S w:=by
 have e:zcR 6 (Tryz.f92.body.getD .skip)=some _:=rfl;rw[e]at next ⊢
 simp only[Option.getD_some]at next ⊢
 clear e;obtain⟨i,rfl⟩:∃ i,j=i+1:=⟨j - 1,by omega⟩;have hjI:((i+1:Nat):Int)<(n:Int):=by omega
 have hiI:((i:Nat):Int)<(n:Int):=by omega
 have hcast:((i+1:Nat):Int) - 1=((i:Nat):Int):=by omega
 rw[Nat.add_sub_cancel]at next
 unfold swH at next
 rw[Nat.add_sub_cancel]at next
 generalize hj1:i+1=j at *
 refine zuP (fun i=>decide (i<15)) zaA (by first|kernel_rfl|rfl) ?_
 simp only[List.size_toArray,List.length_cons,List.length_nil,Nat.reduceAdd,Nat.zero_add];co_applyP zcL (i:=0) rfl (by first|kernel_rfl|decide +kernel) (by first|kernel_rfl|decide +kernel) (by first|kernel_rfl|decide +kernel) (by first|rfl|(simp[Region.wanted,yielded,zaG, *];done)) (by kernel_rfl) (fun _=>run_eq_of ?run1_0) ?rest1_0
 case run1_0=>
  intro K_ hK_;(skip);go_simp;(try rw[ziJ _ (by omega) (by omega)]);exact hK_
 simp only[stO_some,stO_none];co_applyP zcL (i:=1) rfl (by first|kernel_rfl|decide +kernel) (by first|kernel_rfl|decide +kernel) (by first|kernel_rfl|decide +kernel) (by first|rfl|(simp[Region.wanted,yielded,zaG, *];done)) (by kernel_rfl) (fun _=>run_eq_of ?run1_1) ?rest1_1
 case run1_1=>
  intro K_ hK_;(skip);go_simp;(try rw[ziJ _ (by omega) (by omega)]);exact hK_
 simp only[stO_some,stO_none];co_applyP zcL (i:=2) rfl (by first|kernel_rfl|decide +kernel) (by first|kernel_rfl|decide +kernel) (by first|kernel_rfl|decide +kernel) (by first|rfl|(simp[Region.wanted,yielded,zaG, *];done)) (by kernel_rfl) (fun _=>run_eq_of ?run1_2) ?rest1_2
 case run1_2=>
  intro K_ hK_;(skip);go_simp;(try rw[ziJ _ (by omega) (by omega)]);exact hK_
 simp only[stO_some,stO_none];co_applyP zcL (i:=3) rfl (by first|kernel_rfl|decide +kernel) (by first|kernel_rfl|decide +kernel) (by first|kernel_rfl|decide +kernel) (by first|rfl|(simp[Region.wanted,yielded,zaG, *];done)) (by kernel_rfl) (fun _=>run_eq_of ?run1_3) ?rest1_3
 case run1_3=>
  intro K_ hK_;(skip);go_simp;(try rw[ziJ _ (by omega) (by omega)]);exact hK_
 simp only[stO_some,stO_none];co_applyP zcL (i:=4) rfl (by first|kernel_rfl|decide +kernel) (by first|kernel_rfl|decide +kernel) (by first|kernel_rfl|decide +kernel) (by first|rfl|(simp[Region.wanted,yielded,zaG, *];done)) (by kernel_rfl) (fun _=>run_eq_of ?run1_4) ?rest1_4
 case run1_4=>
  intro K_ hK_;(skip);go_simp;(try rw[ziJ _ (by omega) (by omega)]);exact hK_
 simp only[stO_some,stO_none];co_applyP zcL (i:=5) rfl (by first|kernel_rfl|decide +kernel) (by first|kernel_rfl|decide +kernel) (by first|kernel_rfl|decide +kernel) (by first|rfl|(simp[Region.wanted,yielded,zaG, *];done)) (by kernel_rfl) (fun _=>run_eq_of ?run2_5) ?rest2_5
 case run2_5=>
  intro K_ hK_;(skip);go_simp;(try rw[ziJ _ (by omega) (by omega)]);exact hK_
 simp only[stO_some,stO_none];co_applyP zcL (i:=6) rfl (by first|kernel_rfl|decide +kernel) (by first|kernel_rfl|decide +kernel) (by first|kernel_rfl|decide +kernel) (by first|rfl|(simp[Region.wanted,yielded,zaG, *];done)) (by kernel_rfl) (fun _=>run_eq_of ?run2_6) ?rest2_6
 case run2_6=>
  intro K_ hK_;(skip);go_simp;(try rw[ziJ _ (by omega) (by omega)]);exact hK_
 simp only[stO_some,stO_none];co_applyP zcL (i:=7) rfl (by first|kernel_rfl|decide +kernel) (by first|kernel_rfl|decide +kernel) (by first|kernel_rfl|decide +kernel) (by first|rfl|(simp[Region.wanted,yielded,zaG, *];done)) (by kernel_rfl) (fun _=>run_eq_of ?run2_7) ?rest2_7
 case run2_7=>
  intro K_ hK_;(skip);go_simp;(try rw[ziJ _ (by omega) (by omega)]);exact hK_
 simp only[stO_some,stO_none];co_applyP zcL (i:=8) rfl (by first|kernel_rfl|decide +kernel) (by first|kernel_rfl|decide +kernel) (by first|kernel_rfl|decide +kernel) (by first|rfl|(simp[Region.wanted,yielded,zaG, *];done)) (by kernel_rfl) (fun _=>run_eq_of ?run3_8) ?rest3_8
 case run3_8=>
  intro K_ hK_;(skip);go_simp;(try rw[ziJ _ (by omega) (by omega)]);exact hK_
 simp only[stO_some,stO_none];co_applyP zpN (i:=9) rfl (by first|kernel_rfl|decide +kernel) (by first|kernel_rfl|decide +kernel) (by first|kernel_rfl|decide +kernel) (by first|kernel_rfl|decide +kernel) rfl (by kernel_rfl) (fun u hu=>zhL (x:=.tmp 45) (b:=g) (n:=N) (j:=i) rfl (by simp) ((Ext.twin hu).row hg) (by omega)) ?_
 simp only[stO_some];co_applyP zcL (i:=10) rfl (by first|kernel_rfl|decide +kernel) (by first|kernel_rfl|decide +kernel) (by first|kernel_rfl|decide +kernel) (by first|rfl|(simp[Region.wanted,yielded,zaG, *];done)) (by kernel_rfl) (fun _=>run_eq_of ?run4_10) ?rest4_10
 case run4_10=>
  intro K_ hK_;(skip);go_simp;(try rw[ziJ _ (by omega) (by omega)]);exact hK_
 simp only[stO_some,stO_none];co_applyP zcL (i:=11) rfl (by first|kernel_rfl|decide +kernel) (by first|kernel_rfl|decide +kernel) (by first|kernel_rfl|decide +kernel) (by first|rfl|(simp[Region.wanted,yielded,zaG, *];done)) (by kernel_rfl) (fun _=>run_eq_of ?run4_11) ?rest4_11
 case run4_11=>
  intro K_ hK_;(skip);go_simp;(try rw[ziJ _ (by omega) (by omega)]);exact hK_
 simp only[stO_some,stO_none];co_applyP zcL (i:=12) rfl (by first|kernel_rfl|decide +kernel) (by first|kernel_rfl|decide +kernel) (by first|kernel_rfl|decide +kernel) (by first|rfl|(simp[Region.wanted,yielded,zaG, *];done)) (by kernel_rfl) (fun _=>run_eq_of ?run4_12) ?rest4_12
 case run4_12=>
  intro K_ hK_;(skip);go_simp;(try rw[ziJ _ (by omega) (by omega)]);exact hK_
 simp only[stO_some,stO_none];co_applyP zpN (i:=13) rfl (by first|kernel_rfl|decide +kernel) (by first|kernel_rfl|decide +kernel) (by first|kernel_rfl|decide +kernel) (by first|kernel_rfl|decide +kernel) rfl (by kernel_rfl) (fun u hu=>zhL (x:=.tmp 49) (b:=g) (n:=N) (j:=j) rfl (by simp) ((Ext.twin hu).row hg) (by omega)) ?_
 simp only[stO_some];co_applyP zcL (i:=14) rfl (by first|kernel_rfl|decide +kernel) (by first|kernel_rfl|decide +kernel) (by first|kernel_rfl|decide +kernel) (by first|rfl|(simp[Region.wanted,yielded,zaG, *];done)) (by kernel_rfl) (fun _=>run_eq_of ?run5_14) ?rest5_14
 case run5_14=>
  intro K_ hK_;(skip);go_simp;(try rw[ziJ _ (by omega) (by omega)]);exact hK_
 simp only[stO_some,stO_none];refine ztK (i:=15) (Q:=fun x w1=>Wr w g (.cells (hA N (updH h j (h i))) 94) w1) rfl (by first|kernel_rfl|decide +kernel) rfl (by kernel_rfl) (fun u hu=>zmI (x:=.tmp 51) (y:=.tmp 46) (j:=j) (z:=h i) hu hg (by omega) rfl (by simp) (by simp)) ?_ (by rfl)
 rintro x1 w1 hW1;simp only[stO_none];co_applyP zcL (i:=16) rfl (by first|kernel_rfl|decide +kernel) (by first|kernel_rfl|decide +kernel) (by first|kernel_rfl|decide +kernel) (by first|rfl|(simp[Region.wanted,yielded,zaG, *];done)) (by kernel_rfl) (fun _=>run_eq_of ?run6_16) ?rest6_16
 case run6_16=>
  intro K_ hK_;(skip);go_simp;(try rw[ziJ _ (by omega) (by omega)]);exact hK_
 simp only[stO_some,stO_none];refine ztK (i:=17) (Q:=fun x w2=>Wr w1 g (.cells (hA N (updH (updH h j (h i)) i (h j))) 94) w2) rfl (by first|kernel_rfl|decide +kernel) rfl (by kernel_rfl) (fun u hu=>zmI (x:=.tmp 52) (y:=.tmp 50) (j:=i) (z:=h j) hu hW1.at_ (by omega) rfl (by simp) (by simp)) ?_ (by rfl)
 rintro x2 w2 hW2;simp only[stO_none];refine yeO (by first|kernel_rfl|decide +kernel) ?_ _
 refine next w1 w2 _ hW1 hW2 fun s hs=>?_
 simp only[st];repeat rw[if_neg (by omega)]
structure SortI(n N g:Nat)(v:World)(h0 h:Nat→Hl)(i:Nat)(w:World):Prop where
 kp:Kp v (fun b=>b=g) w
 row:w.heap[g]?=some (.cells (hA N h) 94)
 perm:zvF n h0 h
theorem SortI.ext{n N g i:Nat}{h0 h:Nat→Hl}(H:SortI n N g v h0 h i w)(hE:Ext w w'):SortI n N g v h0 h i w':=⟨H.kp.ext hE,hE.row H.row,H.perm⟩
theorem zvS(g n cap N:Nat)(h0:Nat→Hl)(hnc:n≤cap)(hn:n≤12)(hnN:n≤N)(hg:v.heap[g]?=some (.cells (hA N h0) 94)) :
  zaP Tryz.prog 92 #[.slice (some ⟨g,0,none⟩) n cap,.int .i64 0,.int .i64 (n:Nat),.func (.func 66) #[] #[]] S v fun x S' v'=>x=.tuple #[]∧S'=S∧∃ h,SortI n N g v h0 h 0 v'∧∀ a b,a<b→b<n→(h a).id≤(h b).id:=by
 refine zaF Tryz.func92 rfl Tryz.ntmps92 (by simp) fun Stop cc cs ret=>?_
 have g0:argF #[.slice (some ⟨g,0,none⟩) n cap,.int .i64 0,.int .i64 (n:Nat),.func (.func 66) #[] #[]] 0=.slice (some ⟨g,0,none⟩) n cap:=rfl;have g1:argF #[.slice (some ⟨g,0,none⟩) n cap,.int .i64 0,.int .i64 (n:Nat),.func (.func 66) #[] #[]] 1=.int .i64 0:=rfl;have g2:argF #[.slice (some ⟨g,0,none⟩) n cap,.int .i64 0,.int .i64 (n:Nat),.func (.func 66) #[] #[]] 2=.int .i64 (n:Nat):=rfl;have g3:argF #[.slice (some ⟨g,0,none⟩) n cap,.int .i64 0,.int .i64 (n:Nat),.func (.func 66) #[] #[]] 3=.func (.func 66) #[] #[]:=rfl;generalize argF #[.slice (some ⟨g,0,none⟩) n cap,.int .i64 0,.int .i64 (n:Nat),.func (.func 66) #[] #[]]=f at g0 g1 g2 g3;repeat (first|refine rQ rfl ?_|refine rY zaA ?_|refine rW ?_)
 refine zaI (fun d f' S' w=>∃ i h,d=n - i∧1≤i∧(i≤n∨i=1)∧S'=S∧SortI n N g v h0 h i w∧(∀ a b,a<b→b<i→(h a).id≤(h b).id)∧f' 0=.slice (some ⟨g,0,none⟩) n cap∧f' 1=.int .i64 0∧f' 2=.int .i64 (n:Nat)∧f' 3=.func (.func 66) #[] #[]∧f' 8=.int .i64 (i:Nat)) (n - 1) ⟨1,h0,rfl,by omega,.inr rfl,rfl,⟨.refl _ _,hg,List.Perm.refl _⟩,fun a b h1 h2=>by omega,by simp[g0],by simp[g1],by simp[g2],by simp[g3],by simp⟩ ?_
 clear g0 g1 g2 g3 f;rintro d f S' w ⟨i,h,rfl,hi1,hi2,eS,hI,hso,g0,g1,g2,g3,g8⟩ nxt;subst S';repeat (first|refine rQ rfl ?_|refine rY zaA ?_|refine rW ?_)
 by_cases hlt:i<n
 ·have hltI:(i:Int)<(n:Int):=by omega
  (refine zaB (t:=true) (by simp[Act.eval,hlt]) ?_;simp only[if_true,if_false,reduceIte,Bool.false_eq_true]);repeat (first|refine rQ rfl ?_|refine rY zaA ?_|refine rW ?_)
  refine zaI (fun d f' S' w=>∃ j h,d=j∧j≤i∧S'=S∧SortI n N g v h0 h i w∧InsI i j h∧f' 0=.slice (some ⟨g,0,none⟩) n cap∧f' 1=.int .i64 0∧f' 2=.int .i64 (n:Nat)∧f' 3=.func (.func 66) #[] #[]∧f' 8=.int .i64 (i:Nat)∧f' 9=.int .i64 (j:Nat)) i ⟨i,h,rfl,by omega,rfl,hI,.start hso,by simp[g0],by simp[g1],by simp[g2],by simp[g3],by simp[g8],by simp⟩ ?_;clear g0 g1 g2 g3 g8 f hI hso h w;rintro d f S' w ⟨j,h,ed,hj,eS,hI,hN,g0,g1,g2,g3,g8,g9⟩ nxt2;subst S';have out:∀ f w,SortI n N g v h0 h i w→(j=0∨(h (j - 1)).id≤(h j).id)→f 0=.slice (some ⟨g,0,none⟩) n cap→f 1=.int .i64 0→f 2=.int .i64 (n:Nat)→f 3=.func (.func 66) #[] #[]→f 8=.int .i64 (i:Nat)→∃ i' h',n - (i+1)=n - i'∧1≤i'∧(i'≤n∨i'=1)∧S=S∧SortI n N g v h0 h' i' w∧(∀ a b,a<b→b<i'→(h' a).id≤(h' b).id)∧(st (st (st f 15 (.int .i64 (i:Nat))) 16 (.int .i64 ((i:Nat)+1))) 8 (.int .i64 ((i:Nat)+1))) 0=.slice (some ⟨g,0,none⟩) n cap∧(st (st (st f 15 (.int .i64 (i:Nat))) 16 (.int .i64 ((i:Nat)+1))) 8 (.int .i64 ((i:Nat)+1))) 1=.int .i64 0∧(st (st (st f 15 (.int .i64 (i:Nat))) 16 (.int .i64 ((i:Nat)+1))) 8 (.int .i64 ((i:Nat)+1))) 2=.int .i64 (n:Nat)∧(st (st (st f 15 (.int .i64 (i:Nat))) 16 (.int .i64 ((i:Nat)+1))) 8 (.int .i64 ((i:Nat)+1))) 3=.func (.func 66) #[] #[]∧(st (st (st f 15 (.int .i64 (i:Nat))) 16 (.int .i64 ((i:Nat)+1))) 8 (.int .i64 ((i:Nat)+1))) 8=.int .i64 (i':Nat):=fun f w hI' ho q0 q1 q2 q3 q8=>⟨i+1,h,rfl,by omega,.inl (by omega),rfl,⟨hI'.kp,hI'.row,hI'.perm⟩,hN.done ho hj,by simp[q0],by simp[q1],by simp[q2],by simp[q3],by simp⟩
  by_cases hj0:j=0
  ·subst j;repeat (first|refine rQ rfl ?_|refine rY zaA ?_|refine rW ?_)
   refine zgC zaA (by first|kernel_rfl|rfl) ?_
   simp only[List.size_toArray,List.length_cons,List.length_nil,Nat.reduceAdd,Nat.zero_add];refine rU 0 ?_;refine rU 1 ?_;refine rU 2 ?_;refine rU 3 ?_;co_applyP zcS (i:=4) (x:=undef) rfl (by first|kernel_rfl|decide +kernel) (by first|kernel_rfl|decide +kernel) (by first|kernel_rfl|decide +kernel) (.inr ⟨(by simp[Region.wanted,yielded,zaG, *]),rfl⟩) ?rest8
   simp only[stO_some,stO_none];co_applyP zcS (i:=5) (x:=undef) rfl (by first|kernel_rfl|decide +kernel) (by first|kernel_rfl|decide +kernel) (by first|kernel_rfl|decide +kernel) (.inr ⟨(by simp[Region.wanted,yielded,zaG, *]),rfl⟩) ?rest9
   simp only[stO_some,stO_none];co_applyP zcS (i:=6) (x:=undef) rfl (by first|kernel_rfl|decide +kernel) (by first|kernel_rfl|decide +kernel) (by first|kernel_rfl|decide +kernel) (.inr ⟨(by simp[Region.wanted,yielded,zaG, *]),rfl⟩) ?rest10
   simp only[stO_some,stO_none];co_applyP zcS (i:=7) (x:=undef) rfl (by first|kernel_rfl|decide +kernel) (by first|kernel_rfl|decide +kernel) (by first|kernel_rfl|decide +kernel) (.inr ⟨(by simp[Region.wanted,yielded,zaG, *]),rfl⟩) ?rest11
   simp only[stO_some,stO_none];co_applyP zcS (i:=8) (x:=undef) rfl (by first|kernel_rfl|decide +kernel) (by first|kernel_rfl|decide +kernel) (by first|kernel_rfl|decide +kernel) (.inr ⟨(by simp[Region.wanted,yielded,zaG, *]),rfl⟩) ?rest12
   simp only[stO_some,stO_none];co_applyP zcS (i:=9) (x:=undef) rfl (by first|kernel_rfl|decide +kernel) (by first|kernel_rfl|decide +kernel) (by first|kernel_rfl|decide +kernel) (.inr ⟨(by simp[Region.wanted,yielded,zaG, *]),rfl⟩) ?rest13
   simp only[stO_some,stO_none];co_applyP zcS (i:=10) (x:=undef) rfl (by first|kernel_rfl|decide +kernel) (by first|kernel_rfl|decide +kernel) (by first|kernel_rfl|decide +kernel) (.inr ⟨(by simp[Region.wanted,yielded,zaG, *]),rfl⟩) ?rest14
   simp only[stO_some,stO_none];co_applyP zcS (i:=11) (x:=undef) rfl (by first|kernel_rfl|decide +kernel) (by first|kernel_rfl|decide +kernel) (by first|kernel_rfl|decide +kernel) (.inr ⟨(by simp[Region.wanted,yielded,zaG, *]),rfl⟩) ?rest15
   simp only[stO_some,stO_none];co_applyP zcS (i:=12) (x:=undef) rfl (by first|kernel_rfl|decide +kernel) (by first|kernel_rfl|decide +kernel) (by first|kernel_rfl|decide +kernel) (.inr ⟨(by simp[Region.wanted,yielded,zaG, *]),rfl⟩) ?rest16
   simp only[stO_some,stO_none];co_applyP zcS (i:=13) (x:=undef) rfl (by first|kernel_rfl|decide +kernel) (by first|kernel_rfl|decide +kernel) (by first|kernel_rfl|decide +kernel) (.inr ⟨(by simp[Region.wanted,yielded,zaG, *]),rfl⟩) ?rest17
   simp only[stO_some,stO_none];co_applyP zcS (i:=14) (x:=undef) rfl (by first|kernel_rfl|decide +kernel) (by first|kernel_rfl|decide +kernel) (by first|kernel_rfl|decide +kernel) (.inr ⟨(by simp[Region.wanted,yielded,zaG, *]),rfl⟩) ?rest18
   simp only[stO_some,stO_none];co_applyP zcS (i:=15) (x:=undef) rfl (by first|kernel_rfl|decide +kernel) (by first|kernel_rfl|decide +kernel) (by first|kernel_rfl|decide +kernel) (.inr ⟨(by simp[Region.wanted,yielded,zaG, *]),rfl⟩) ?rest19
   simp only[stO_some,stO_none];refine rU 16 ?_;refine zhW (by first|kernel_rfl|decide +kernel) ?_ _
   repeat (first|refine rQ rfl ?_|refine rY zaA ?_|refine rW ?_)
   (refine zaB (t:=false) (by simp[Act.eval]) ?_;simp only[if_true,if_false,reduceIte,Bool.false_eq_true]);refine zaK rfl ?_;repeat (first|refine rQ rfl ?_|refine rY zaA ?_|refine rW ?_)
   exact nxt _ _ _ _ (by omega) (out _ w hI (.inl hj0) (by simp[g0]) (by simp[g1]) (by simp[g2]) (by simp[g3]) (by simp[g8]))
  ·have hjp:0<j:=by omega
   repeat (first|refine rQ rfl ?_|refine rY zaA ?_|refine rW ?_)
   refine yhA g n cap N j h hjp (by omega) hnc hn hnN hI.row g0 g1 g3 g9 fun w1 f1 hE1 g34 hf1=>?_
   have hI1:=hI.ext hE1;have k0:f1 0=.slice (some ⟨g,0,none⟩) n cap:=(hf1 0 (by omega)).trans g0;have k1:f1 1=.int .i64 0:=(hf1 1 (by omega)).trans g1;have k2:f1 2=.int .i64 (n:Nat):=(hf1 2 (by omega)).trans g2;have k3:f1 3=.func (.func 66) #[] #[]:=(hf1 3 (by omega)).trans g3;have k8:f1 8=.int .i64 (i:Nat):=(hf1 8 (by omega)).trans g8;have k9:f1 9=.int .i64 (j:Nat):=(hf1 9 (by omega)).trans g9;clear g0 g1 g2 g3 g8 g9 hf1;by_cases hless:(h j).id<(h (j - 1)).id
   ·rw[decide_eq_true hless]at g34;repeat (first|refine rQ rfl ?_|refine rY zaA ?_|refine rW ?_)
    (refine zaB (t:=true) (by simp[Act.eval,g34]) ?_;simp only[if_true,if_false,reduceIte,Bool.false_eq_true]);repeat (first|refine rQ rfl ?_|refine rY zaA ?_|refine rW ?_)
    refine yhB g n cap N j h hjp (by omega) hnc hn hnN hI1.row k0 k9 fun w2 w3 f3 hW2 hW3 hf3=>?_
    have l0:f3 0=.slice (some ⟨g,0,none⟩) n cap:=(hf3 0 (by omega)).trans (by simp[k0]);have l1:f3 1=.int .i64 0:=(hf3 1 (by omega)).trans (by simp[k1]);have l2:f3 2=.int .i64 (n:Nat):=(hf3 2 (by omega)).trans (by simp[k2]);have l3:f3 3=.func (.func 66) #[] #[]:=(hf3 3 (by omega)).trans (by simp[k3]);have l8:f3 8=.int .i64 (i:Nat):=(hf3 8 (by omega)).trans (by simp[k8]);have l9:f3 9=.int .i64 (j:Nat):=(hf3 9 (by omega)).trans (by simp[k9]);clear k0 k1 k2 k3 k8 k9 hf3 g34;have hcast:(j:Int) - 1=((j - 1:Nat):Int):=by omega
    repeat (first|refine rQ rfl ?_|refine rY zaA ?_|refine rW ?_)
    refine nxt2 _ _ _ (j - 1) (by omega) ⟨j - 1,swH h j,rfl,by omega,rfl,⟨(hI1.kp.wr (.inl rfl) hW2).wr (.inl rfl) hW3,hW3.at_,hI1.perm.trans (yfM h hjp (by omega))⟩,hN.swap hjp hj hless,by simp[l0],by simp[l1],by simp[l2],by simp[l3],by simp[l8],by simp⟩
   ·rw[decide_eq_false hless]at g34;repeat (first|refine rQ rfl ?_|refine rY zaA ?_|refine rW ?_)
    (refine zaB (t:=false) (by simp[Act.eval,g34]) ?_;simp only[if_true,if_false,reduceIte,Bool.false_eq_true]);refine zaK rfl ?_;repeat (first|refine rQ rfl ?_|refine rY zaA ?_|refine rW ?_)
    exact nxt _ _ _ _ (by omega) (out _ w1 hI1 (.inr (by omega)) (by simp[k0]) (by simp[k1]) (by simp[k2]) (by simp[k3]) (by simp[k8]))
 ·have hge:n≤i:=by omega
  (refine zaB (t:=false) (by simp[Act.eval,hge]) ?_;simp only[if_true,if_false,reduceIte,Bool.false_eq_true]);refine zaK rfl ?_;repeat (first|refine rQ rfl ?_|refine rY zaA ?_|refine rW ?_)
  refine zcQ ?_;refine ret _ _ S w (.tuple #[]) ?_ ⟨rfl,rfl,h,⟨hI.kp,hI.row,hI.perm⟩,fun a b h1 h2=>hso a b h1 (by omega)⟩
  simp[results,Tryz.results92]
end
section
variable {w w' v:World}{S:Nat→Prop}
theorem ygV(n:Nat)(hn:n≤12):zaP Tryz.prog 101 #[.int .u64 (n:Nat)] S v fun x S' v'=>∃ y,x=.int .i64 y∧S'=S∧v'=v:=by
 refine zaF Tryz.func101 rfl Tryz.ntmps101 (by simp) fun Stop cc cs ret=>?_
 have g0:argF #[.int .u64 (n:Nat)] 0=.int .u64 (n:Nat):=rfl;generalize argF #[.int .u64 (n:Nat)]=f at g0;have key:∀ (f':Nat→Value) (todo:List Item),(∃ y,f' 2=.int .i64 y)→Vw.Reach Tryz.prog Stop (G {(base 101).at ⟨TA 25 f',[]⟩ todo with mode:=.returning} (cc :: cs)) S v:=fun f' todo ⟨y,h⟩=>ret f' todo S v (.int .i64 y) (by simp[results,Tryz.results101,h]) ⟨y,rfl,rfl,rfl⟩
 clear ret;rcases(by omega:n=0∨n=1∨n=2∨n=3∨n=4∨n=5∨n=6∨n=7∨n=8∨n=9∨n=10∨n=11∨n=12) with rfl|rfl|rfl|rfl|rfl|rfl|rfl|rfl|rfl|rfl|rfl|rfl|rfl;all_goals
  repeat (first|refine rQ rfl ?_|refine rY zaA ?_|refine rW ?_)
  (refine zaB (t:=false) (by simp[Act.eval]) ?_;simp only[if_true,if_false,reduceIte,Bool.false_eq_true]);repeat (first|refine rQ rfl ?_|refine rY zaA ?_|refine rW ?_)
  (refine zaB (t:=false) (by simp[Act.eval]) ?_;simp only[if_true,if_false,reduceIte,Bool.false_eq_true]);repeat (first|refine rQ rfl ?_|refine rY zaA ?_|refine rW ?_)
  (refine zaB (t:=false) (by simp[Act.eval]) ?_;simp only[if_true,if_false,reduceIte,Bool.false_eq_true]);repeat (first|refine rQ rfl ?_|refine rY zaA ?_|refine rW ?_)
  refine zaH fun todo=>?_
  exact key _ _ ⟨_,rfl⟩
theorem ykU(n:Nat)(hn:n≤12):zaP Tryz.prog 79 #[.int .u64 (n:Nat)] S v fun x S' v'=>∃ y,x=.int .i64 y∧S'=S∧v'=v:=by
 refine zaF Tryz.func79 rfl Tryz.ntmps79 (by simp) fun Stop cc cs ret=>?_
 have g0:argF #[.int .u64 (n:Nat)] 0=.int .u64 (n:Nat):=rfl;generalize argF #[.int .u64 (n:Nat)]=f at g0;repeat (first|refine rQ rfl ?_|refine rY zaA ?_|refine rW ?_)
 (refine zaB (t:=false) (by simp[Act.eval]) ?_;simp only[if_true,if_false,reduceIte,Bool.false_eq_true]);repeat (first|refine rQ rfl ?_|refine rY zaA ?_|refine rW ?_)
 (refine zaC rfl (by first|rfl|simp[Region.wanted,yielded,zaG, *]) rfl Tryz.func101 (by kernel_rfl) rfl (by simp[Act.eval, *];try rfl) (ygV n hn) ?_)
 rintro _ S1 w1 _ ⟨y,rfl,e1,e2⟩;subst S1 w1;simp only[stO_some];repeat (first|refine rQ rfl ?_|refine rY zaA ?_|refine rW ?_)
 refine zaH fun todo=>?_
 refine ret _ _ S v (.int .i64 y) ?_ ⟨y,rfl,rfl,rfl⟩;simp[results,Tryz.results79]
def ymY(n N g:Nat)(h0:Nat→Hl)(S:Nat→Prop)(v:World)(x:Value)(S':Nat→Prop)(v':World):Prop:=x=.tuple #[]∧S'=S∧∃ h,SortI n N g v h0 h 0 v'∧∀ a b,a<b→b<n→(h a).id≤(h b).id
theorem ylQ(l:Value)(g n cap N:Nat)(h0:Nat→Hl)(hnc:n≤cap)(hn:n≤12)(hnN:n≤N)(hg:v.heap[g]?=some (.cells (hA N h0) 94)) :
  zaP Tryz.prog 78 #[.slice (some ⟨g,0,none⟩) n cap,.int .i64 0,.int .i64 (n:Nat),l,.func (.func 66) #[] #[]] S v (ymY n N g h0 S v):=by
 refine zaF Tryz.func78 rfl Tryz.ntmps78 (by simp) fun Stop cc cs ret=>?_
 have g0:argF #[.slice (some ⟨g,0,none⟩) n cap,.int .i64 0,.int .i64 (n:Nat),l,.func (.func 66) #[] #[]] 0=.slice (some ⟨g,0,none⟩) n cap:=rfl;have g1:argF #[.slice (some ⟨g,0,none⟩) n cap,.int .i64 0,.int .i64 (n:Nat),l,.func (.func 66) #[] #[]] 1=.int .i64 0:=rfl;have g2:argF #[.slice (some ⟨g,0,none⟩) n cap,.int .i64 0,.int .i64 (n:Nat),l,.func (.func 66) #[] #[]] 2=.int .i64 (n:Nat):=rfl;have g4:argF #[.slice (some ⟨g,0,none⟩) n cap,.int .i64 0,.int .i64 (n:Nat),l,.func (.func 66) #[] #[]] 4=.func (.func 66) #[] #[]:=rfl;generalize argF #[.slice (some ⟨g,0,none⟩) n cap,.int .i64 0,.int .i64 (n:Nat),l,.func (.func 66) #[] #[]]=f at g0 g1 g2 g4;repeat (first|refine rQ rfl ?_|refine rY zaA ?_|refine rW ?_)
 refine zaI (fun d f' S' w=>S'=S∧w=v∧f' 0=.slice (some ⟨g,0,none⟩) n cap∧f' 1=.int .i64 0∧f' 2=.int .i64 (n:Nat)∧f' 4=.func (.func 66) #[] #[]) 0 ⟨rfl,rfl,by simp[g0],by simp[g1],by simp[g2],by simp[g4]⟩ ?_;clear g0 g1 g2 g4 f;rintro d f S' w ⟨eS,eW,g0,g1,g2,g4⟩ nxt;subst S' w;have hnI:(n:Int)≤12:=by omega
 repeat (first|refine rQ rfl ?_|refine rY zaA ?_|refine rW ?_)
 (refine zaB (t:=true) (by simp[Act.eval,hnI]) ?_;simp only[if_true,if_false,reduceIte,Bool.false_eq_true]);repeat (first|refine rQ rfl ?_|refine rY zaA ?_|refine rW ?_)
 (refine zaC rfl (by first|rfl|simp[Region.wanted,yielded,zaG, *]) rfl Tryz.func92 (by kernel_rfl) rfl (by simp[Act.eval, *];try rfl) (zvS g n cap N h0 hnc hn hnN hg) ?_)
 rintro _ S1 w1 _ ⟨rfl,e1,hh⟩;subst S1;simp only[stO_some];repeat (first|refine rQ rfl ?_|refine rY zaA ?_|refine rW ?_)
 refine zaH fun todo=>?_
 refine ret _ _ S w1 (.tuple #[]) ?_ ⟨rfl,rfl,hh⟩;simp[results,Tryz.results78]
theorem yjQ(g n cap N:Nat)(h0:Nat→Hl)(hnc:n≤cap)(hn:n≤12)(hnN:n≤N)(hg:v.heap[g]?=some (.cells (hA N h0) 94)) :
  zaP Tryz.prog 65 #[.slice (some ⟨g,0,none⟩) n cap,.func (.func 66) #[] #[]] S v (ymY n N g h0 S v):=by
 refine zaF Tryz.func65 rfl Tryz.ntmps65 (by simp) fun Stop cc cs ret=>?_
 have g0:argF #[.slice (some ⟨g,0,none⟩) n cap,.func (.func 66) #[] #[]] 0=.slice (some ⟨g,0,none⟩) n cap:=rfl;have g1:argF #[.slice (some ⟨g,0,none⟩) n cap,.func (.func 66) #[] #[]] 1=.func (.func 66) #[] #[]:=rfl;generalize argF #[.slice (some ⟨g,0,none⟩) n cap,.func (.func 66) #[] #[]]=f at g0 g1;have hw1:IntKind.u64.wrap (n:Int)=(n:Int):=by rw[IntKind.wrap_u64];omega
 repeat (first|refine rQ rfl ?_|refine rY zaA ?_|refine rW ?_)
 (refine zaC rfl (by first|rfl|simp[Region.wanted,yielded,zaG, *]) rfl Tryz.func79 (by kernel_rfl) rfl (by simp[Act.eval, *];try rfl) (ykU n hn) ?_)
 rintro _ S1 w1 _ ⟨y,rfl,e1,e2⟩;subst S1 w1;simp only[stO_some];repeat (first|refine rQ rfl ?_|refine rY zaA ?_|refine rW ?_)
 (refine zaC rfl (by first|rfl|simp[Region.wanted,yielded,zaG, *]) rfl Tryz.func78 (by kernel_rfl) rfl (by simp[Act.eval, *];try rfl) (ylQ (.int .i64 y) g n cap N h0 hnc hn hnN hg) ?_)
 rintro _ S1 w1 _ ⟨rfl,e1,hh⟩;subst S1;simp only[stO_some];repeat (first|refine rQ rfl ?_|refine rY zaA ?_|refine rW ?_)
 refine zcQ ?_;refine ret _ _ S w1 (.tuple #[]) ?_ ⟨rfl,rfl,hh⟩;simp[results,Tryz.results65]
theorem yeE(g:Nat→Bool)(n:Nat):cntG g (n+1)=cntG g n+if g n=true then 1 else 0:=by
 unfold cntG;rw[List.range_succ,List.filter_append,List.length_append];cases hg:g n<;>simp[hg]
theorem zvX(g:Nat→Bool)(n:Nat):cntG g n≤n:=by
 unfold cntG;exact Nat.le_trans (List.length_filter_le _ _) (by simp)
theorem zlL(e:Ent):zaP Tryz.prog 54 #[.agg (zbT e)] S v fun x S' v'=>x=.int .i64 (cntG e.good 14:Nat)∧S'=S∧Ext v v':=by
 refine zaF Tryz.func54 rfl Tryz.ntmps54 (by simp) fun Stop cc cs ret=>?_
 have g0:argF #[.agg (zbT e)] 0=.agg (zbT e):=rfl;generalize argF #[.agg (zbT e)]=f at g0;repeat (first|refine rQ rfl ?_|refine rY zaA ?_|refine rW ?_)
 refine zaJ (Q:=fun y w=>y=.pointer (some ⟨v.heap.size,0,none⟩)∧Ext v w∧w.heap[v.heap.size]?=some (.cells (zbT e) 123)) zaA rfl rfl (by kernel_rfl) (fun u hu=>⟨_,_,.inl (zdI (x:=.tmp 0) (y:=.agg (zbT e)) rfl (by simp[g0]) u),by rw[hu.heap],(Ext.twin hu).trans _ _ _ (Ext.alloc _ _),by rw[←hu.heap];exact zaX _ _⟩) ?_
 rintro _ w1 ⟨rfl,hE1,hb1⟩;simp only[stO_some];repeat (first|refine rQ rfl ?_|refine rY zaA ?_|refine rW ?_)
 refine zaO zaA rfl rfl (by kernel_rfl) (fun u hu=>ziF (b:=v.heap.size) ((Ext.twin hu).row hb1) (x:=.tmp 6) rfl (by simp)) ?_;simp only[stO_some];repeat (first|refine rQ rfl ?_|refine rY zaA ?_|refine rW ?_)
 refine zaI (fun d f' S' w=>∃ k,d=14 - k∧k≤14∧S'=S∧w=w1∧f' 3=.int .i64 (cntG e.good k:Nat)∧f' 7=.agg (ziZ e.good)∧f' 8=.int .i64 (k:Nat)) 14 ⟨0,by omega,by omega,rfl,rfl,by simp[cntG],by simp,by simp⟩ ?_;clear g0 f;rintro d f S' w ⟨k,rfl,hk,eS,eW,g3,g7,g8⟩ nxt;subst S' w;repeat (first|refine rQ rfl ?_|refine rY zaA ?_|refine rW ?_)
 by_cases hlt:k<14
 ·have hkI:(k:Int)<14:=by omega
  (refine zaB (t:=true) (by simp[Act.eval,hkI]) ?_;simp only[if_true,if_false,reduceIte,Bool.false_eq_true]);repeat (first|refine rQ rfl ?_|refine rY zaA ?_|refine rW ?_)
  refine zaO zaA rfl rfl (by kernel_rfl) (fun u hu=>zoN (g:=e.good) hlt (x:=.tmp 7) (y:=.tmp 8) rfl (by simp[g7]) (by simp[g8])) ?_;simp only[stO_some];have hcs:cntG e.good (k+1)=cntG e.good k+if e.good k=true then 1 else 0:=yeE _ _
  have hcl:cntG e.good k≤k:=zvX _ _;obtain⟨gk,hgk⟩:∃ gk,e.good k=gk:=⟨_,rfl⟩;rw[hgk]at hcs ⊢;have HC:=hide hcs;clear hcs hgk;cases gk with
  |false=>
   repeat (first|refine rQ rfl ?_|refine rY zaA ?_|refine rW ?_)
   (refine zaB (t:=false) (by simp[Act.eval]) ?_;simp only[if_true,if_false,reduceIte,Bool.false_eq_true]);repeat (first|refine rQ rfl ?_|refine rY zaA ?_|refine rW ?_)
   refine nxt _ _ _ (14 - (k+1)) (by omega) ⟨k+1,rfl,by omega,rfl,rfl,by simp[g3,HC.out],by simp[g7],by simp⟩
  |true=>
   repeat (first|refine rQ rfl ?_|refine rY zaA ?_|refine rW ?_)
   (refine zaB (t:=true) (by simp[Act.eval]) ?_;simp only[if_true,if_false,reduceIte,Bool.false_eq_true]);repeat (first|refine rQ rfl ?_|refine rY zaA ?_|refine rW ?_)
   refine nxt _ _ _ (14 - (k+1)) (by omega) ⟨k+1,rfl,by omega,rfl,rfl,by simp[HC.out],by simp[g7],by simp⟩
 ·obtain rfl:k=14:=by omega
  (refine zaB (t:=false) (by simp[Act.eval]) ?_;simp only[if_true,if_false,reduceIte,Bool.false_eq_true]);refine zaK rfl ?_;repeat (first|refine rQ rfl ?_|refine rY zaA ?_|refine rW ?_)
  refine zaH fun todo=>?_
  refine ret _ _ S w1 (.int .i64 (cntG e.good 14:Nat)) ?_ ⟨rfl,rfl,hE1⟩;simp[results,Tryz.results54]
end
end Go.Proofs.YtpiefebngnlfoaaGreatDoor
