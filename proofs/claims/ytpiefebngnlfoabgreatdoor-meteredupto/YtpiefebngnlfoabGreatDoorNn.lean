import Derived.Test.YtpiefebngnlfoabGreatDoorNl
set_option maxRecDepth 99999
set_option maxHeartbeats 0
set_option linter.unusedVariables false
set_option linter.unusedSimpArgs false
namespace Go.Proofs.YtpiefebngnlfoabGreatDoor
open Go.RowKit Go.Conc Go.Vw
theorem Zg{a b:ByteArray}(h:¬a=b):¬a.toList=b.toList:=fun e=>h (by
 rw[ByteArray.toList_eq,ByteArray.toList_eq]at e
 exact ByteArray.ext (Array.ext' e))
section
variable {w w' v:World}{S:Nat->Prop}
theorem vJ{s:ByteArray}{a b i:Nat}(hb:b<=s.size)(hi:i<b - a):aR (s.extract a b) i=aR s (a+i):=by
 unfold aR;rw[ByteArray.data_extract,Array.getElem?_extract];have hb':b<=s.data.size:=hb;rw[if_pos (by omega)]
theorem zaJ{x y:ByteArray}{nb p:Nat}(hx:x.size=nb*96)(hy:y.size=nb*96)(hp:p<nb):x.extract (p*96) (p*96+96)=y.extract (p*96) (p*96+96)↔bT (fun i=>aR x (p*96+i)) (fun i=>aR y (p*96+i)) 0 96=true:=by
 have hle:p*96+96<=nb*96:=by
  have:(p+1)*96<=nb*96:=Nat.mul_le_mul_right _ hp;omega
 rw[fL];constructor
 .intro h j _ hj;have h1:=vJ (s:=x) (a:=p*96) (b:=p*96+96) (i:=j) (by omega) (by omega);have h2:=vJ (s:=y) (a:=p*96) (b:=p*96+96) (i:=j) (by omega) (by omega);show aR x (p*96+j)=aR y (p*96+j);rw[<-h1,<-h2,h]
 .intro h;have s1:(x.extract (p*96) (p*96+96)).size=96:=by rw[ByteArray.size_extract];omega
  have s2:(y.extract (p*96) (p*96+96)).size=96:=by rw[ByteArray.size_extract];omega
  refine Ys (by rw[s1,s2]) fun i hi=>?_
  rw[vJ (by omega) (by omega),vJ (by omega) (by omega)];exact h i (by omega) (by omega)
theorem Qp{f:Nat->Value}{Stop:Goroutine->(Nat->Prop)->World->Prop}{cs:List Frame}{k0:List Item}(j n c1 c2 B1 B2 nb a:Nat)(T1 T2:Nat->ByteArray)(x:ByteArray)(hx:x.size=nb*96)(hy:(T2 j).size=nb*96)(hxe:∀ i,aR x i=aR (T1 j) i)(hn:n<=18)(hnb:nb<=64)(ha:a<=2000)(hj:j<n)(e2:v.cell? ⟨B2,j,none⟩=some (.string (T2 j)))
  (g0:f 0=.slice (some ⟨B1,0,none⟩) n c1) (g1:f 1=.slice (some ⟨B2,0,none⟩) n c2) (g5:f 5=.int .i64 (a:Nat)) (g6:f 6=.int .i64 (j:Nat)) (g7:f 7=.string x) (g8:f 8=.int .i64 0)
  (next:∀ f':Nat->Value,f' 0=.slice (some ⟨B1,0,none⟩) n c1->f' 1=.slice (some ⟨B2,0,none⟩) n c2->f' 5=.int .i64 (a+eO (dN (aH T1 0).c (aH T2 0).c j) nb:Nat)->f' 6=.int .i64 (j:Nat)->Vw.Reach Tryz.prog Stop (G ((base 20).at ⟨TA 65 f',[]⟩ k0) cs) S v) :
  Vw.Reach Tryz.prog Stop (G ((base 20).at ⟨TA 65 f,[]⟩ (.code (Iz 1 (Tryz.f20.body.getD .skip)) :: .inBlock 2 :: k0)) cs) S v:=by
 have e:Iz 1 (Tryz.f20.body.getD .skip)=.loop _:=rfl;rw[e];clear e;refine bP (fun d f' S' v'=>∃ p s,d=nb - p∧p<=nb∧S'=S∧v'=v∧Hid (s=a+eO (dN (aH T1 0).c (aH T2 0).c j) p)∧s<=2000+p∧f' 0=.slice (some ⟨B1,0,none⟩) n c1∧f' 1=.slice (some ⟨B2,0,none⟩) n c2∧f' 5=.int .i64 (s:Nat)∧f' 6=.int .i64 (j:Nat)∧f' 7=.string x∧f' 8=.int .i64 ((p*96:Nat):Int)) nb ⟨0,a,by omega,by omega,rfl,rfl,aG rfl,by omega,g0,g1,g5,g6,g7,by simp[g8]⟩ ?_;clear g0 g1 g5 g6 g7 g8 f;rintro d f S' v' ⟨p,s,rfl,hp,eS,eV,HS,hs,g0,g1,g5,g6,g7,g8⟩ nxt;subst S' v';have hxI:((x.size:Nat):Int)=((nb*96:Nat):Int):=by rw[hx]
 have HX:=aG hx;have HY:=aG hy;clear hx hy;repeat refine rN ?_
 by_cases hlt:p<nb
 .have hle:(p+1)*96<=nb*96:=Nat.mul_le_mul_right _ hlt;have hleI:((p*96:Nat):Int)+96<=((nb*96:Nat):Int):=by omega
  have hjI:(j:Int)<(n:Int):=by omega
  have hle2:(p:Int)*96+96<=(nb:Int)*96:=by omega
  have ks:∀ (y:ByteArray),y.size=nb*96->∀ u:World,(Instr.slice 9 (.string y) (some (.int .i64 ((p:Int)*96))) (some (.int .i64 ((p:Int)*96+96))) none).run Tryz.prog u=.ok (.string (y.extract (p*96) (p*96+96))) u:=fun y hy u=>by
   have h:=run_slice_string (P:=Tryz.prog) (w:=u) 9 y .i64 .i64 ((p:Int)*96) ((p:Int)*96+96) Tryz.underlying9 (by omega) (by omega) (by omega);rw[show((p:Int)*96).toNat=p*96 by omega,show((p:Int)*96+96).toNat=p*96+96 by omega]at h;exact h
  have k1:=ks x HX.out;have k2:=ks (T2 j) HY.out;clear ks;refine rX (by simp[Act.eval,g8,g7,hle2]) ?_;repeat refine rN ?_
  refine oH aB (by first|kernel_rfl|rfl) ?_
  simp only[List.size_toArray,List.length_cons,List.length_nil,Nat.reduceAdd,Nat.zero_add];refine rU 0 ?_;refine rU 1 ?_;refine rU 2 ?_;refine rU 3 ?_;refine rU 4 ?_;refine rU 5 ?_;refine rU 6 ?_;refine rU 7 ?_;co_applyP rT (i:=8) rfl (fun _ hu_=>run_eq_of ?u14) ?v14
  case u14=>intro K_ hK_;(have hc:=(Ext.twin hu_).cell e2);go_simp;(try rw[wI _]);(try rw[wU _]);exact hK_
  simp only[sS,sN];refine rU 9 ?_;refine rU 10 ?_;refine rU 11 ?_;refine rU 12 ?_;refine rU 13 ?_;refine oT (by first|kernel_rfl|decide +kernel) ?_ _
  have hd:=zaJ HX.out HY.out hlt;by_cases hv:x.extract (p*96) (p*96+96)=(T2 j).extract (p*96) (p*96+96)
  .have h1:dN (aH T1 0).c (aH T2 0).c j p=0:=by
    unfold dN;rw[if_pos];have h2:=hd.1 hv;rw[show(fun i=>aR x (p*96+i))=(aH T1 0).c j p from funext fun i=>hxe _]at h2
    exact h2
   have HN:Hid (s=a+eO (dN (aH T1 0).c (aH T2 0).c j) (p+1)):=aG (by
    show s=a+(eO (dN (aH T1 0).c (aH T2 0).c j) p+dN (aH T1 0).c (aH T2 0).c j p);rw[h1]
    exact HS.out)
   clear h1 hd;repeat refine rN ?_
   refine rZ (by simp[Act.eval,hv]) ?_;repeat refine rN ?_
   exact nxt _ _ _ (nb - (p+1)) (by omega) ⟨p+1,s,rfl,by omega,rfl,rfl,HN,by omega,by simp[g0],by simp[g1],by simp[g5],by simp[g6],by simp[g7],by simp;omega⟩
  .have h1:dN (aH T1 0).c (aH T2 0).c j p=1:=by
    unfold dN;rw[if_neg];intro h2;rw[show(aH T1 0).c j p=fun i=>aR x (p*96+i) from funext fun i=>(hxe _).symm]at h2
    exact hv (hd.2 h2)
   have HN:Hid (s+1=a+eO (dN (aH T1 0).c (aH T2 0).c j) (p+1)):=aG (by
    show s+1=a+(eO (dN (aH T1 0).c (aH T2 0).c j) p+dN (aH T1 0).c (aH T2 0).c j p);rw[h1];have:=HS.out
    omega)
   clear h1 hd;repeat refine rN ?_
   refine rX (by simp[Act.eval,(Zg hv)]) ?_;repeat refine rN ?_
   exact nxt _ _ _ (nb - (p+1)) (by omega) ⟨p+1,s+1,rfl,by omega,rfl,rfl,HN,by omega,by simp[g0],by simp[g1],by simp,by simp[g6],by simp[g7],by simp;omega⟩
 .obtain rfl:p=nb:=by omega
  have hle2:(p:Int)*96<(p:Int)*96+96:=by omega
  refine rZ (by simp[Act.eval,g8,g7,hle2]) ?_;refine bH rfl ?_;rw[HS.out]at g5;exact next _ (by simp[g0]) (by simp[g1]) (by simp[g5]) (by simp[g6])
theorem Hs{f:Nat->Nat} : ∀ n,(∀ i,f i<=1)->eO f n<=n
 |0,_=>Nat.le_refl _
 |n+1,h=>by
  have:=Hs n h;have:=h n;unfold eO;omega
theorem qO(B1 B2 n nb c1 c2:Nat)(T1 T2:Nat->ByteArray)(hn:n<=18)(hnb:nb<=64)(b4:4<=nb)(h1:cC v B1 n T1)(h2:cC v B2 n T2)(z1:∀ d,d<n->(T1 d).size=0∨(T1 d).size=nb*96)(z2:∀ d,d<n->(T2 d).size=nb*96) :
  aJ Tryz.prog 20 #[.slice (some ⟨B1,0,none⟩) n c1,.slice (some ⟨B2,0,none⟩) n c2] S v fun x S' v'=>x=.int .i64 (dO n nb (aH T1 0).c (aH T2 0).c:Nat)∧S'=S∧Ext v v':=by
 refine dH Tryz.func20 rfl Tryz.ntmps20 fun Stop cc cs ret f g0 g1=>?_
 repeat refine rN ?_
 refine rZ (by simp[Act.eval]) ?_;repeat refine rN ?_
 refine bP (fun d f' S' w=>∃ j s,d=n - j∧j<=n∧S'=S∧Ext v w∧Hid (s=eO (fun d=>eO (dN (aH T1 0).c (aH T2 0).c d) nb) j)∧s<=64*j∧f' 0=.slice (some ⟨B1,0,none⟩) n c1∧f' 1=.slice (some ⟨B2,0,none⟩) n c2∧f' 5=.int .i64 (s:Nat)∧f' 6=.int .i64 (j:Nat)) n ⟨0,0,by omega,by omega,rfl,.refl _,aG rfl,by omega,by simp[g0],by simp[g1],by simp,by simp⟩ ?_;clear g0 g1 f;rintro d f S' w ⟨j,s,rfl,hj,eS,hE,HS,hs,g0,g1,g5,g6⟩ nxt;subst S';repeat refine rN ?_
 by_cases hlt:j<n
 .have hjI:(j:Int)<(n:Int):=by omega
  have e1:=hE.cell (h1 j hlt);have e2:=hE.cell (h2 j hlt);have HY:=aG (z2 j hlt);have hyI:((T2 j).size:Int)=((nb*96:Nat):Int):=by rw[HY.out]
  refine rX (by simp[Act.eval,hlt]) ?_;refine rQ rfl ?_;refine rQ rfl ?_;refine rQ rfl ?_;refine rQ rfl ?_;refine rQ rfl ?_;refine rY aB ?_;refine rY aB ?_;refine rY aB ?_;(refine rO aB rfl ?_;intro _ hu_ K_ hK_;(have hc:=(Ext.twin hu_).cell e1);go_simp;(try rw[wI _]);(try rw[wU _]);refine hK_ _ ?_;clear hK_ K_ hu_;simp only[sS,sN]);refine rY aB ?_;refine rE ?_;refine rQ rfl ?_;refine sL (fun f' S' w'=>∃ x,S'=S∧Ext v w'∧Hid (x.size=nb*96)∧Hid (∀ i,aR x i=aR (T1 j) i)∧f' 0=.slice (some ⟨B1,0,none⟩) n c1∧f' 1=.slice (some ⟨B2,0,none⟩) n c2∧f' 5=.int .i64 (s:Nat)∧f' 6=.int .i64 (j:Nat)∧f' 7=.string x) ?_ ?_
  .intro nx2;rcases z1 j hlt with h0|h0
   .have hz:T1 j=⟨#[]⟩:=Hm h0;have HZ:=aG hz;rw[hz];clear hz h0;repeat refine rN ?_
    refine rX (by simp[Act.eval]) ?_;repeat refine rM e2 ?_
    refine mG aB rfl rfl (by kernel_rfl) rfl (m:=nb*96) (by simp[hyI]) (by simp[hyI]) (by omega) (by kernel_rfl) Tryz.underlying48 fun w1 hE1 hr1 hs1=>?_
    simp only[stO_some];have hz1:∀ i,i<nb*96->w1.cell? ⟨w.heap.size,i,none⟩=some (.int .u8 0):=fun i hi=>by
     rw[cell_of_row _ _ _ _ _ _ hr1];simp[hi]
    (refine rO aB rfl ?_;intro _ hu_ K_ hK_;(have kc:=Gk (c:=nb*96) fun i hi=>(Ext.twin hu_).cell (hz1 i hi));go_simp;(try rw[wI _]);(try rw[wU _]);refine hK_ _ ?_;clear hK_ K_ hu_;simp only[sS,sN])
    refine rY aB ?_;refine rE ?_;exact nx2 _ _ _ ⟨zs (nb*96),rfl,hE.trans _ _ _ hE1,aG (zS _),aG fun i=>by rw[HZ.out,Im];rfl,by simp[g0],by simp[g1],by simp[g5],by simp[g6],by simp⟩
   .have hne:¬(T1 j).toList=[]:=fun q=>by
     rw[ByteArray.toList_eq]at q;have h3:(T1 j).data.size=0:=by rw[<-Array.length_toList,q];rfl
     have:(T1 j).size=0:=h3;omega
    have H0:=aG h0;clear h0;repeat refine rN ?_
    refine rZ (by simp[Act.eval,hne]) ?_;refine rB ?_;exact nx2 _ _ _ ⟨T1 j,rfl,hE,H0,aG fun _=>rfl,by simp[g0],by simp[g1],by simp[g5],by simp[g6],by simp⟩
  .rintro f S1 w ⟨x,eS,hE,HX,HB,g0,g1,g5,g6,g7⟩;subst S1;have e2:=hE.cell (h2 j hlt);have hxI:(x.size:Int)=((nb*96:Nat):Int):=by rw[HX.out]
   repeat refine rM e2 ?_
   refine rZ (by simp[Act.eval,hxI,hyI]) ?_;repeat refine rN ?_
   refine Qp j n c1 c2 B1 B2 nb s T1 T2 x HX.out HY.out HB.out hn hnb (by omega) hlt e2 (by simp[g0]) (by simp[g1]) (by simp[g5]) (by simp[g6]) (by simp[g7]) (by simp) fun f2 q0 q1 q5 q6=>?_
   repeat refine rN ?_
   refine nxt _ _ _ (n - (j+1)) (by omega) ⟨j+1,_,rfl,by omega,rfl,hE,aG ?_,?_,by simp[q0],by simp[q1],by simp[q5];rfl,by simp[q6]⟩
   .rw[HS.out];rfl
   .have:=Hs (f:=dN (aH T1 0).c (aH T2 0).c j) nb fun i=>by unfold dN;split<;>omega
    omega
 .obtain rfl:j=n:=by omega
  refine rZ (by simp[Act.eval,g6,g0]) ?_;refine bH rfl ?_;repeat refine rN ?_
  refine aP fun todo=>?_
  refine ret _ _ S w (.int .i64 (s:Nat)) ?_ ⟨?_,rfl,hE⟩
  .simp[results,Tryz.results20,g5]
  .rw[HS.out];rfl
end
