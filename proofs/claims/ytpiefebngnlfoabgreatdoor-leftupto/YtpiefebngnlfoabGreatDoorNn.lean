import Derived.Test.YtpiefebngnlfoabGreatDoorNl
set_option maxRecDepth 99999
set_option maxHeartbeats 0
set_option linter.unusedVariables false
set_option linter.unusedSimpArgs false
namespace Go.Proofs.YtpiefebngnlfoabGreatDoor
open Go.RowKit Go.Conc Go.Vw
theorem Ij{a b:ByteArray}(h:¬a=b):¬a.toList=b.toList:=fun e=>h (by
 rw[ByteArray.toList_eq,ByteArray.toList_eq]at e
 exact ByteArray.ext (Array.ext' e))
section
variable {w w' v:World}{S:Nat->Prop}
theorem Gq(B1 B2 n c1 c2:Nat)(T1 T2:Nat->ByteArray)(hn:n<=18)(h1:eH v B1 n T1)(h2:eH v B2 n T2) :
  aK Tryz.prog 17 #[.slice (some ⟨B1,0,none⟩) n c1,.slice (some ⟨B2,0,none⟩) n c2] S v fun x S' v'=>S'=S∧v'=v∧∃ b,x=.bool b∧(b=true↔∀ d,d<n->T1 d=T2 d):=by
 refine dL Tryz.func17 rfl Tryz.ntmps17 fun Stop cc cs ret f g0 g1=>?_
 repeat refine rN ?_
 refine rZ (by simp[Act.eval]) ?_;repeat refine rN ?_
 refine bT (fun d f' S' v'=>∃ j,d=n - j∧j<=n∧S'=S∧v'=v∧Hid (∀ i,i<j->T1 i=T2 i)∧f' 0=.slice (some ⟨B1,0,none⟩) n c1∧f' 1=.slice (some ⟨B2,0,none⟩) n c2∧f' 5=.int .i64 (j:Nat)) n ⟨0,by omega,by omega,rfl,rfl,aE fun i hi=>(by omega),by simp[g0],by simp[g1],by simp⟩ ?_
 clear g0 g1 f;rintro d f S' v' ⟨j,rfl,hj,eS,eV,HE,q0,q1,q5⟩ next
 subst S' v';repeat refine rN ?_
 by_cases hlt:j<n
 .have hjI:(j:Int)<(n:Int):=by omega
  have e1:=h1 j hlt;have e2:=h2 j hlt;refine rX (by simp[Act.eval,hlt]) ?_;by_cases hv:T1 j=T2 j
  .have HN:Hid (∀ i,i<j+1->T1 i=T2 i):=aE fun i hi=>by
    by_cases q:i=j
    .rw[q];exact hv
    .exact HE.out i (by omega)
   rw[hv]at e1;clear hv;repeat refine rN ?_
   refine lJ aB (by first|kernel_rfl|rfl) ?_
   simp only[List.size_toArray,List.length_cons,List.length_nil,Nat.reduceAdd,Nat.zero_add];refine rU 0 ?_;refine rU 1 ?_;refine rU 2 ?_;co_applyP rT (i:=3) rfl (fun _ hu_=>run_eq_of ?u2) ?v2
   case u2=>intro K_ hK_;(have hc:=(Ext.twin hu_).cell e1);go_simp;(try rw[wI _]);(try rw[wU _]);exact hK_
   simp only[sS,sN];refine rU 4 ?_;refine rU 5 ?_;refine rU 6 ?_;co_applyP rT (i:=7) rfl (fun _ hu_=>run_eq_of ?u4) ?v4
   case u4=>intro K_ hK_;(have hc:=(Ext.twin hu_).cell e2);go_simp;(try rw[wI _]);(try rw[wU _]);exact hK_
   simp only[sS,sN];refine rU 8 ?_;refine lM (by first|kernel_rfl|decide +kernel) ?_ _
   repeat refine rN ?_
   refine rZ (by simp[Act.eval]) ?_;repeat refine rN ?_
   refine next _ _ _ (n - (j+1)) (by omega) ⟨j+1,rfl,by omega,rfl,rfl,HN,by simp[q0],by simp[q1],by simp⟩
  .skip;repeat refine rN ?_
   refine lJ aB (by first|kernel_rfl|rfl) ?_
   simp only[List.size_toArray,List.length_cons,List.length_nil,Nat.reduceAdd,Nat.zero_add];refine rU 0 ?_;refine rU 1 ?_;refine rU 2 ?_;co_applyP rT (i:=3) rfl (fun _ hu_=>run_eq_of ?u7) ?v7
   case u7=>intro K_ hK_;(have hc:=(Ext.twin hu_).cell e1);go_simp;(try rw[wI _]);(try rw[wU _]);exact hK_
   simp only[sS,sN];refine rU 4 ?_;refine rU 5 ?_;refine rU 6 ?_;co_applyP rT (i:=7) rfl (fun _ hu_=>run_eq_of ?u9) ?v9
   case u9=>intro K_ hK_;(have hc:=(Ext.twin hu_).cell e2);go_simp;(try rw[wI _]);(try rw[wU _]);exact hK_
   simp only[sS,sN];refine rU 8 ?_;refine lM (by first|kernel_rfl|decide +kernel) ?_ _
   repeat refine rN ?_
   refine rX (by simp[Act.eval,(Ij hv)]) ?_;repeat refine rN ?_
   refine aP fun todo=>?_
   refine ret _ _ S v (.bool false) ?_ ⟨rfl,rfl,false,rfl,fun q=>(by cases q),fun q=>absurd (q j hlt) hv⟩
   simp[results,Tryz.results17]
 .obtain rfl:j=n:=by omega
  refine rZ (by simp[Act.eval,q5,q0]) ?_;refine bD rfl ?_;repeat refine rN ?_
  refine aP fun todo=>?_
  refine ret _ _ S v (.bool true) ?_ ⟨rfl,rfl,true,rfl,fun _=>HE.out,fun _=>rfl⟩
  simp[results,Tryz.results17]
theorem vC{s:ByteArray}{a b i:Nat}(hb:b<=s.size)(hi:i<b - a):aS (s.extract a b) i=aS s (a+i):=by
 unfold aS;rw[ByteArray.data_extract,Array.getElem?_extract];have hb':b<=s.data.size:=hb;rw[if_pos (by omega)]
theorem zaN{x y:ByteArray}{nb p:Nat}(hx:x.size=nb*96)(hy:y.size=nb*96)(hp:p<nb):x.extract (p*96) (p*96+96)=y.extract (p*96) (p*96+96)↔cC (fun i=>aS x (p*96+i)) (fun i=>aS y (p*96+i)) 0 96=true:=by
 have hle:p*96+96<=nb*96:=by
  have:(p+1)*96<=nb*96:=Nat.mul_le_mul_right _ hp;omega
 rw[iC];constructor
 .intro h j _ hj;have h1:=vC (s:=x) (a:=p*96) (b:=p*96+96) (i:=j) (by omega) (by omega);have h2:=vC (s:=y) (a:=p*96) (b:=p*96+96) (i:=j) (by omega) (by omega);show aS x (p*96+j)=aS y (p*96+j);rw[<-h1,<-h2,h]
 .intro h;have s1:(x.extract (p*96) (p*96+96)).size=96:=by rw[ByteArray.size_extract];omega
  have s2:(y.extract (p*96) (p*96+96)).size=96:=by rw[ByteArray.size_extract];omega
  refine Yw (by rw[s1,s2]) fun i hi=>?_
  rw[vC (by omega) (by omega),vC (by omega) (by omega)];exact h i (by omega) (by omega)
theorem Qd{f:Nat->Value}{Stop:Goroutine->(Nat->Prop)->World->Prop}{cs:List Frame}{k0:List Item}(j n c1 c2 B1 B2 nb a:Nat)(T1 T2:Nat->ByteArray)(x:ByteArray)(hx:x.size=nb*96)(hy:(T2 j).size=nb*96)(hxe:∀ i,aS x i=aS (T1 j) i)(hn:n<=18)(hnb:nb<=64)(ha:a<=2000)(hj:j<n)(e2:v.cell? ⟨B2,j,none⟩=some (.string (T2 j)))
  (g0:f 0=.slice (some ⟨B1,0,none⟩) n c1) (g1:f 1=.slice (some ⟨B2,0,none⟩) n c2) (g5:f 5=.int .i64 (a:Nat)) (g6:f 6=.int .i64 (j:Nat)) (g7:f 7=.string x) (g8:f 8=.int .i64 0)
  (next:∀ f':Nat->Value,f' 0=.slice (some ⟨B1,0,none⟩) n c1->f' 1=.slice (some ⟨B2,0,none⟩) n c2->f' 5=.int .i64 (a+eP (eJ (aH T1 0).c (aH T2 0).c j) nb:Nat)->f' 6=.int .i64 (j:Nat)->Vw.Reach Tryz.prog Stop (G ((base 20).at ⟨TA 65 f',[]⟩ k0) cs) S v) :
  Vw.Reach Tryz.prog Stop (G ((base 20).at ⟨TA 65 f,[]⟩ (.code (pA 1 (Tryz.f20.body.getD .skip)) :: .inBlock 2 :: k0)) cs) S v:=by
 have e:pA 1 (Tryz.f20.body.getD .skip)=.loop _:=rfl;rw[e];clear e;refine bT (fun d f' S' v'=>∃ p s,d=nb - p∧p<=nb∧S'=S∧v'=v∧Hid (s=a+eP (eJ (aH T1 0).c (aH T2 0).c j) p)∧s<=2000+p∧f' 0=.slice (some ⟨B1,0,none⟩) n c1∧f' 1=.slice (some ⟨B2,0,none⟩) n c2∧f' 5=.int .i64 (s:Nat)∧f' 6=.int .i64 (j:Nat)∧f' 7=.string x∧f' 8=.int .i64 ((p*96:Nat):Int)) nb ⟨0,a,by omega,by omega,rfl,rfl,aE rfl,by omega,g0,g1,g5,g6,g7,by simp[g8]⟩ ?_;clear g0 g1 g5 g6 g7 g8 f;rintro d f S' v' ⟨p,s,rfl,hp,eS,eV,HS,hs,g0,g1,g5,g6,g7,g8⟩ nxt;subst S' v';have hxI:((x.size:Nat):Int)=((nb*96:Nat):Int):=by rw[hx]
 have HX:=aE hx;have HY:=aE hy;clear hx hy;repeat refine rN ?_
 by_cases hlt:p<nb
 .have hle:(p+1)*96<=nb*96:=Nat.mul_le_mul_right _ hlt;have hleI:((p*96:Nat):Int)+96<=((nb*96:Nat):Int):=by omega
  have hjI:(j:Int)<(n:Int):=by omega
  have hle2:(p:Int)*96+96<=(nb:Int)*96:=by omega
  have ks:∀ (y:ByteArray),y.size=nb*96->∀ u:World,(Instr.slice 9 (.string y) (some (.int .i64 ((p:Int)*96))) (some (.int .i64 ((p:Int)*96+96))) none).run Tryz.prog u=.ok (.string (y.extract (p*96) (p*96+96))) u:=fun y hy u=>by
   have h:=run_slice_string (P:=Tryz.prog) (w:=u) 9 y .i64 .i64 ((p:Int)*96) ((p:Int)*96+96) Tryz.underlying9 (by omega) (by omega) (by omega);rw[show((p:Int)*96).toNat=p*96 by omega,show((p:Int)*96+96).toNat=p*96+96 by omega]at h;exact h
  have k1:=ks x HX.out;have k2:=ks (T2 j) HY.out;clear ks;refine rX (by simp[Act.eval,g8,g7,hle2]) ?_;repeat refine rN ?_
  refine lJ aB (by first|kernel_rfl|rfl) ?_
  simp only[List.size_toArray,List.length_cons,List.length_nil,Nat.reduceAdd,Nat.zero_add];refine rU 0 ?_;refine rU 1 ?_;refine rU 2 ?_;refine rU 3 ?_;refine rU 4 ?_;refine rU 5 ?_;refine rU 6 ?_;refine rU 7 ?_;co_applyP rT (i:=8) rfl (fun _ hu_=>run_eq_of ?u14) ?v14
  case u14=>intro K_ hK_;(have hc:=(Ext.twin hu_).cell e2);go_simp;(try rw[wI _]);(try rw[wU _]);exact hK_
  simp only[sS,sN];refine rU 9 ?_;refine rU 10 ?_;refine rU 11 ?_;refine rU 12 ?_;refine rU 13 ?_;refine lM (by first|kernel_rfl|decide +kernel) ?_ _
  have hd:=zaN HX.out HY.out hlt;by_cases hv:x.extract (p*96) (p*96+96)=(T2 j).extract (p*96) (p*96+96)
  .have h1:eJ (aH T1 0).c (aH T2 0).c j p=0:=by
    unfold eJ;rw[if_pos];have h2:=hd.1 hv;rw[show(fun i=>aS x (p*96+i))=(aH T1 0).c j p from funext fun i=>hxe _]at h2
    exact h2
   have HN:Hid (s=a+eP (eJ (aH T1 0).c (aH T2 0).c j) (p+1)):=aE (by
    show s=a+(eP (eJ (aH T1 0).c (aH T2 0).c j) p+eJ (aH T1 0).c (aH T2 0).c j p);rw[h1]
    exact HS.out)
   clear h1 hd;repeat refine rN ?_
   refine rZ (by simp[Act.eval,hv]) ?_;repeat refine rN ?_
   exact nxt _ _ _ (nb - (p+1)) (by omega) ⟨p+1,s,rfl,by omega,rfl,rfl,HN,by omega,by simp[g0],by simp[g1],by simp[g5],by simp[g6],by simp[g7],by simp;omega⟩
  .have h1:eJ (aH T1 0).c (aH T2 0).c j p=1:=by
    unfold eJ;rw[if_neg];intro h2;rw[show(aH T1 0).c j p=fun i=>aS x (p*96+i) from funext fun i=>(hxe _).symm]at h2
    exact hv (hd.2 h2)
   have HN:Hid (s+1=a+eP (eJ (aH T1 0).c (aH T2 0).c j) (p+1)):=aE (by
    show s+1=a+(eP (eJ (aH T1 0).c (aH T2 0).c j) p+eJ (aH T1 0).c (aH T2 0).c j p);rw[h1];have:=HS.out
    omega)
   clear h1 hd;repeat refine rN ?_
   refine rX (by simp[Act.eval,(Ij hv)]) ?_;repeat refine rN ?_
   exact nxt _ _ _ (nb - (p+1)) (by omega) ⟨p+1,s+1,rfl,by omega,rfl,rfl,HN,by omega,by simp[g0],by simp[g1],by simp,by simp[g6],by simp[g7],by simp;omega⟩
 .obtain rfl:p=nb:=by omega
  have hle2:(p:Int)*96<(p:Int)*96+96:=by omega
  refine rZ (by simp[Act.eval,g8,g7,hle2]) ?_;refine bD rfl ?_;rw[HS.out]at g5;exact next _ (by simp[g0]) (by simp[g1]) (by simp[g5]) (by simp[g6])
theorem Hh{f:Nat->Nat} : ∀ n,(∀ i,f i<=1)->eP f n<=n
 |0,_=>Nat.le_refl _
 |n+1,h=>by
  have:=Hh n h;have:=h n;unfold eP;omega
theorem Uf(B1 B2 n nb c1 c2:Nat)(T1 T2:Nat->ByteArray)(hn:n<=18)(hnb:nb<=64)(b4:4<=nb)(h1:eH v B1 n T1)(h2:eH v B2 n T2)(z1:∀ d,d<n->(T1 d).size=0∨(T1 d).size=nb*96)(z2:∀ d,d<n->(T2 d).size=nb*96) :
  aK Tryz.prog 20 #[.slice (some ⟨B1,0,none⟩) n c1,.slice (some ⟨B2,0,none⟩) n c2] S v fun x S' v'=>x=.int .i64 (gT n nb (aH T1 0).c (aH T2 0).c:Nat)∧S'=S∧Ext v v':=by
 refine dL Tryz.func20 rfl Tryz.ntmps20 fun Stop cc cs ret f g0 g1=>?_
 repeat refine rN ?_
 refine rZ (by simp[Act.eval]) ?_;repeat refine rN ?_
 refine bT (fun d f' S' w=>∃ j s,d=n - j∧j<=n∧S'=S∧Ext v w∧Hid (s=eP (fun d=>eP (eJ (aH T1 0).c (aH T2 0).c d) nb) j)∧s<=64*j∧f' 0=.slice (some ⟨B1,0,none⟩) n c1∧f' 1=.slice (some ⟨B2,0,none⟩) n c2∧f' 5=.int .i64 (s:Nat)∧f' 6=.int .i64 (j:Nat)) n ⟨0,0,by omega,by omega,rfl,.refl _,aE rfl,by omega,by simp[g0],by simp[g1],by simp,by simp⟩ ?_;clear g0 g1 f;rintro d f S' w ⟨j,s,rfl,hj,eS,hE,HS,hs,g0,g1,g5,g6⟩ nxt;subst S';repeat refine rN ?_
 by_cases hlt:j<n
 .have hjI:(j:Int)<(n:Int):=by omega
  have e1:=hE.cell (h1 j hlt);have e2:=hE.cell (h2 j hlt);have HY:=aE (z2 j hlt);have hyI:((T2 j).size:Int)=((nb*96:Nat):Int):=by rw[HY.out]
  refine rX (by simp[Act.eval,hlt]) ?_;refine rQ rfl ?_;refine rQ rfl ?_;refine rQ rfl ?_;refine rQ rfl ?_;refine rQ rfl ?_;refine rY aB ?_;refine rY aB ?_;refine rY aB ?_;(refine rO aB rfl ?_;intro _ hu_ K_ hK_;(have hc:=(Ext.twin hu_).cell e1);go_simp;(try rw[wI _]);(try rw[wU _]);refine hK_ _ ?_;clear hK_ K_ hu_;simp only[sS,sN]);refine rY aB ?_;refine rE ?_;refine rQ rfl ?_;refine wB (fun f' S' w'=>∃ x,S'=S∧Ext v w'∧Hid (x.size=nb*96)∧Hid (∀ i,aS x i=aS (T1 j) i)∧f' 0=.slice (some ⟨B1,0,none⟩) n c1∧f' 1=.slice (some ⟨B2,0,none⟩) n c2∧f' 5=.int .i64 (s:Nat)∧f' 6=.int .i64 (j:Nat)∧f' 7=.string x) ?_ ?_
  .intro nx2;rcases z1 j hlt with h0|h0
   .have hz:T1 j=⟨#[]⟩:=He h0;have HZ:=aE hz;rw[hz];clear hz h0;repeat refine rN ?_
    refine rX (by simp[Act.eval]) ?_;repeat refine rM e2 ?_
    refine mI aB rfl rfl (by kernel_rfl) rfl (m:=nb*96) (by simp[hyI]) (by simp[hyI]) (by omega) (by kernel_rfl) Tryz.underlying48 fun w1 hE1 hr1 hs1=>?_
    simp only[stO_some];have hz1:∀ i,i<nb*96->w1.cell? ⟨w.heap.size,i,none⟩=some (.int .u8 0):=fun i hi=>by
     rw[cell_of_row _ _ _ _ _ _ hr1];simp[hi]
    (refine rO aB rfl ?_;intro _ hu_ K_ hK_;(have kc:=Gc (c:=nb*96) fun i hi=>(Ext.twin hu_).cell (hz1 i hi));go_simp;(try rw[wI _]);(try rw[wU _]);refine hK_ _ ?_;clear hK_ K_ hu_;simp only[sS,sN])
    refine rY aB ?_;refine rE ?_;exact nx2 _ _ _ ⟨zs (nb*96),rfl,hE.trans _ _ _ hE1,aE (zG _),aE fun i=>by rw[HZ.out,Id];rfl,by simp[g0],by simp[g1],by simp[g5],by simp[g6],by simp⟩
   .have hne:¬(T1 j).toList=[]:=fun q=>by
     rw[ByteArray.toList_eq]at q;have h3:(T1 j).data.size=0:=by rw[<-Array.length_toList,q];rfl
     have:(T1 j).size=0:=h3;omega
    have H0:=aE h0;clear h0;repeat refine rN ?_
    refine rZ (by simp[Act.eval,hne]) ?_;refine rB ?_;exact nx2 _ _ _ ⟨T1 j,rfl,hE,H0,aE fun _=>rfl,by simp[g0],by simp[g1],by simp[g5],by simp[g6],by simp⟩
  .rintro f S1 w ⟨x,eS,hE,HX,HB,g0,g1,g5,g6,g7⟩;subst S1;have e2:=hE.cell (h2 j hlt);have hxI:(x.size:Int)=((nb*96:Nat):Int):=by rw[HX.out]
   repeat refine rM e2 ?_
   refine rZ (by simp[Act.eval,hxI,hyI]) ?_;repeat refine rN ?_
   refine Qd j n c1 c2 B1 B2 nb s T1 T2 x HX.out HY.out HB.out hn hnb (by omega) hlt e2 (by simp[g0]) (by simp[g1]) (by simp[g5]) (by simp[g6]) (by simp[g7]) (by simp) fun f2 q0 q1 q5 q6=>?_
   repeat refine rN ?_
   refine nxt _ _ _ (n - (j+1)) (by omega) ⟨j+1,_,rfl,by omega,rfl,hE,aE ?_,?_,by simp[q0],by simp[q1],by simp[q5];rfl,by simp[q6]⟩
   .rw[HS.out];rfl
   .have:=Hh (f:=eJ (aH T1 0).c (aH T2 0).c j) nb fun i=>by unfold eJ;split<;>omega
    omega
 .obtain rfl:j=n:=by omega
  refine rZ (by simp[Act.eval,g6,g0]) ?_;refine bD rfl ?_;repeat refine rN ?_
  refine aP fun todo=>?_
  refine ret _ _ S w (.int .i64 (s:Nat)) ?_ ⟨?_,rfl,hE⟩
  .simp[results,Tryz.results20,g5]
  .rw[HS.out];rfl
end
