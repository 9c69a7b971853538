import Derived.Test.YtpiefebngnlfoabGreatDoorMq
set_option maxRecDepth 99999
set_option maxHeartbeats 0
set_option linter.unusedVariables false
set_option linter.unusedSimpArgs false
namespace Go.Proofs.YtpiefebngnlfoabGreatDoor
open Go.RowKit Go.Conc Go.Vw
def cR(c:Int)(n:Nat):Nat:=((if c<0 then -(c+1) else c) % (n:Int)).toNat
theorem jP(c:Int){n:Nat}(hn:0<n):cR c n<n:=by
 have hl:=Int.emod_lt_of_pos (if c<0 then -(c+1) else c) (show(0:Int)<(n:Int) by omega);have hp:=Int.emod_nonneg (if c<0 then -(c+1) else c) (show(n:Int)≠0 by omega);unfold cR;omega
section
variable {v:World}{S:Nat->Prop}
theorem lR(c:Int)(n:Nat)(hn:0<n)(hn2:n<=1000000)(h1:-9223372036854775808<=c)(h2:c<=9223372036854775807) :
  aK Tryz.prog 16 #[.int .i64 c,.int .i64 (n:Nat)] S v fun x S' v'=>x=.int .i64 (cR c n:Nat)∧S'=S∧v'=v:=by
 refine dL Tryz.func16 rfl Tryz.ntmps16 fun Stop cc cs ret f g0 g1=>?_
 have hnz:¬(n:Int)=0:=by omega
 have hnz':¬n=0:=by omega
 unfold cR at ret;by_cases hneg:c<0
 .rw[if_pos hneg]at ret;have hp:=Int.emod_nonneg (-(c+1)) hnz;have hl:=Int.emod_lt_of_pos (-(c+1)) (show(0:Int)<(n:Int) by omega);have e:(((-(c+1)) % (n:Int)).toNat:Int)=(-(c+1)).tmod n:=by
   rw[Int.tmod_eq_emod_of_nonneg (by omega)];omega
  have HE:=aE e;have hr:-9223372036854775808<=(-(c+1)).tmod n∧(-(c+1)).tmod n<=9223372036854775807:=by omega
  clear e;repeat refine rN ?_
  refine rX (by simp[Act.eval,hneg]) ?_;repeat refine rN ?_
  refine aP fun todo=>?_
  refine ret _ _ S v (.int .i64 (((-(c+1)) % (n:Int)).toNat:Nat)) ?_ ⟨rfl,rfl,rfl⟩;simp[results,Tryz.results16,HE.out]
 .rw[if_neg hneg]at ret;have hp:=Int.emod_nonneg c hnz;have hl:=Int.emod_lt_of_pos c (show(0:Int)<(n:Int) by omega);have e:((c % (n:Int)).toNat:Int)=c.tmod n:=by
   rw[Int.tmod_eq_emod_of_nonneg (by omega)];omega
  have HE:=aE e;have hr:-9223372036854775808<=c.tmod n∧c.tmod n<=9223372036854775807:=by omega
  clear e;repeat refine rN ?_
  refine rZ (by simp[Act.eval,hneg]) ?_;repeat refine rN ?_
  refine aP fun todo=>?_
  refine ret _ _ S v (.int .i64 ((c % (n:Int)).toNat:Nat)) ?_ ⟨rfl,rfl,rfl⟩;simp[results,Tryz.results16,HE.out]
def lE(x y:Nat->Nat):Nat->Bool
 |0=>true
 |n+1=>lE x y n&&decide (x n=y n)
theorem oY{x y:Nat->Nat} : ∀ {n:Nat},lE x y n=true↔∀ i,i<n->x i=y i
 |0=>⟨fun _ i hi=>absurd hi (Nat.not_lt_zero _),fun _=>rfl⟩
 |n+1=>by
  unfold lE;rw[Bool.and_eq_true,oY,decide_eq_true_iff];constructor
  .rintro⟨h1,h2⟩ i hi;by_cases e:i=n
   .rw[e];exact h2
   .exact h1 i (by omega)
  .intro h;exact⟨fun i hi=>h i (by omega),h n (by omega)⟩
theorem Sx{x y:Nat->Nat}{i n:Nat}(hi:i<n)(h:x i≠y i):lE x y n=false:=by
 cases h':lE x y n with
 |false=>rfl
 |true=>exact absurd (oY.1 h' i hi) h
theorem Xo(p1 p2:Option Addr)(L1 L2 c1 c2:Nat)(x1 x2:Nat->Nat)(hL1:L1<2 ^ 62)(hL2:L2<2 ^ 62)(h1:gO v p1 L1 c1 x1)(h2:gO v p2 L2 c2 x2) :
  aK Tryz.prog 35 #[.slice p1 L1 c1,.slice p2 L2 c2] S v fun x S' v'=>x=.bool (decide (L1=L2)&&lE x1 x2 L1)∧S'=S∧v'=v:=by
 refine dL Tryz.func35 rfl Tryz.ntmps35 fun Stop cc cs ret f g0 g1=>?_
 by_cases hne:L1=L2
 .subst hne;repeat refine rN ?_
  refine rZ (by simp[Act.eval]) ?_;repeat refine rN ?_
  refine bT (fun d f' S' v'=>∃ j,d=L1 - j∧j<=L1∧S'=S∧v'=v∧Hid (∀ i,i<j->x1 i=x2 i)∧f' 0=.slice p1 L1 c1∧f' 1=.slice p2 L1 c2∧f' 5=.int .i64 (j:Nat)) L1 ⟨0,by omega,by omega,rfl,rfl,aE fun i hi=>(by omega),by simp[g0],by simp[g1],by simp⟩ ?_
  clear g0 g1 f;rintro d f S' v' ⟨j,rfl,hj,eS,eV,HE,q0,q1,q5⟩ next
  subst S' v';repeat refine rN ?_
  by_cases hlt:j<L1
  .have hjI:(j:Int)<(L1:Int):=by omega
   obtain⟨B1,o1,hp1,k1,b1⟩:∃ B off,p1=some ⟨B,off,none⟩∧L1<=c1∧eA v B off L1 x1:=by
    rcases h1.of (by omega) with⟨_,h,_⟩|h
    .omega
    .exact h
   obtain⟨B2,o2,hp2,k2,b2⟩:∃ B off,p2=some ⟨B,off,none⟩∧L1<=c2∧eA v B off L1 x2:=by
    rcases h2.of (by omega) with⟨_,h,_⟩|h
    .omega
    .exact h
   subst hp1 hp2;have e1:=b1 j hlt;have e2:=b2 j hlt;refine rX (by simp[Act.eval,hlt]) ?_;by_cases hv:x1 j=x2 j
   .have HN:Hid (∀ i,i<j+1->x1 i=x2 i):=aE fun i hi=>by
     by_cases q:i=j
     .rw[q];exact hv
     .exact HE.out i (by omega)
    rw[hv]at e1;clear hv;repeat refine rN ?_
    refine lJ aB (by first|kernel_rfl|rfl) ?_
    simp only[List.size_toArray,List.length_cons,List.length_nil,Nat.reduceAdd,Nat.zero_add];refine rU 0 ?_;refine rU 1 ?_;refine rU 2 ?_;co_applyP rT (i:=3) rfl (fun _ hu_=>run_eq_of ?u2) ?v2
    case u2=>intro K_ hK_;(have hc:=(Ext.twin hu_).cell e1);go_simp;(try rw[wI _]);(try rw[wU _]);exact hK_
    simp only[sS,sN];refine rU 4 ?_;refine rU 5 ?_;refine rU 6 ?_;co_applyP rT (i:=7) rfl (fun _ hu_=>run_eq_of ?u4) ?v4
    case u4=>intro K_ hK_;(have hc:=(Ext.twin hu_).cell e2);go_simp;(try rw[wI _]);(try rw[wU _]);exact hK_
    simp only[sS,sN];refine rU 8 ?_;refine lM (by first|kernel_rfl|decide +kernel) ?_ _
    repeat refine rN ?_
    refine rZ (by simp[Act.eval]) ?_;repeat refine rN ?_
    refine next _ _ _ (L1 - (j+1)) (by omega) ⟨j+1,rfl,by omega,rfl,rfl,HN,by simp[q0],by simp[q1],by simp⟩
   .have hvI:¬((x1 j:Nat):Int)=((x2 j:Nat):Int):=by omega
    repeat refine rN ?_
    refine lJ aB (by first|kernel_rfl|rfl) ?_
    simp only[List.size_toArray,List.length_cons,List.length_nil,Nat.reduceAdd,Nat.zero_add];refine rU 0 ?_;refine rU 1 ?_;refine rU 2 ?_;co_applyP rT (i:=3) rfl (fun _ hu_=>run_eq_of ?u7) ?v7
    case u7=>intro K_ hK_;(have hc:=(Ext.twin hu_).cell e1);go_simp;(try rw[wI _]);(try rw[wU _]);exact hK_
    simp only[sS,sN];refine rU 4 ?_;refine rU 5 ?_;refine rU 6 ?_;co_applyP rT (i:=7) rfl (fun _ hu_=>run_eq_of ?u9) ?v9
    case u9=>intro K_ hK_;(have hc:=(Ext.twin hu_).cell e2);go_simp;(try rw[wI _]);(try rw[wU _]);exact hK_
    simp only[sS,sN];refine rU 8 ?_;refine lM (by first|kernel_rfl|decide +kernel) ?_ _
    repeat refine rN ?_
    refine rX (by simp[Act.eval,hv,hvI]) ?_;repeat refine rN ?_
    refine aP fun todo=>?_
    refine ret _ _ S v (.bool false) ?_ ⟨by rw[Sx hlt hv,Bool.and_false],rfl,rfl⟩;simp[results,Tryz.results35]
  .obtain rfl:j=L1:=by omega
   refine rZ (by simp[Act.eval]) ?_;refine bD rfl ?_;repeat refine rN ?_
   refine aP fun todo=>?_
   refine ret _ _ _ _ (.bool true) ?_ ⟨by rw[oY.2 HE.out];simp,rfl,rfl⟩;simp[results,Tryz.results35]
 .have hneI:¬(L1:Int)=(L2:Int):=by omega
  repeat refine rN ?_
  refine rX (by simp[Act.eval,hne,hneI]) ?_;repeat refine rN ?_
  refine aP fun todo=>?_
  refine ret _ _ S v (.bool false) ?_ ⟨by simp[hne],rfl,rfl⟩;simp[results,Tryz.results35]
theorem gO.head{p:Option Addr}{l l' c:Nat}{x:Nat->Nat}(h:gO v p l c x)(hl:l'<=l):gO v p l' c x:=by
 rcases h with(⟨h1,h2,h3⟩|⟨B,off,h1,h2,h3⟩)|⟨h1,h2,h3⟩
 .exact .inl (.inl ⟨h1,by omega,h3⟩)
 .exact .inl (.inr ⟨B,off,h1,by omega,fun j hj=>h3 j (by omega)⟩)
 .exact .inr ⟨h1,by omega,h3⟩
theorem yN(len cap:Nat)(p:Option Addr)(x:Nat->Nat)(hs:gO v p len cap x)(hl:len<2 ^ 62) :
  aK Tryz.prog 38 #[.slice p len cap] S v fun y S' v'=>y=.slice p (min len 400) cap∧S'=S∧v'=v:=by
 refine dU Tryz.func38 rfl Tryz.ntmps38 fun Stop cc cs ret f g0=>?_
 by_cases hb:400<len
 .have hbI:(400:Int)<(len:Int):=by omega
  obtain⟨B,off,rfl,hc,_⟩:∃ B off,p=some ⟨B,off,none⟩∧len<=cap∧eA v B off len x:=by
   rcases hs.of (by omega) with⟨_,h,_⟩|h
   .omega
   .exact h
  have hcI:(400:Int)<=(cap:Int):=by omega
  have hcN:400<=cap:=by omega
  repeat refine rN ?_
  refine rX (by simp[Act.eval,hb,hbI]) ?_;repeat refine rN ?_
  refine aP fun todo=>?_
  refine ret _ _ S v (.slice (some ⟨B,off,none⟩) 400 cap) ?_ ⟨by rw[Nat.min_eq_right (by omega)],rfl,rfl⟩;simp[results,Tryz.results38]
 .have hbI:¬(400:Int)<(len:Int):=by omega
  repeat refine rN ?_
  refine rZ (by simp[Act.eval,hb,hbI]) ?_;repeat refine rN ?_
  refine aP fun todo=>?_
  refine ret _ _ S v (.slice p len cap) ?_ ⟨by rw[Nat.min_eq_left (by omega)],rfl,rfl⟩;simp[results,Tryz.results38,g0]
def aR(c:Int):Nat:=1+cR c 6*cR c 6*300
theorem vJ(c:Int):1<=aR c∧aR c<=7501:=by
 have h:=jP c (n:=6) (by omega);unfold aR;have:cR c 6*cR c 6<=5*5:=Nat.mul_le_mul (by omega) (by omega);omega
theorem mE(c:Int)(h1:-9223372036854775808<=c)(h2:c<=9223372036854775807) :
  aK Tryz.prog 37 #[.int .i64 c] S v fun x S' v'=>x=.int .i64 (aR c:Nat)∧S'=S∧v'=v:=by
 refine dU Tryz.func37 rfl Tryz.ntmps37 fun Stop cc cs ret f g0=>?_
 repeat refine rN ?_
 refine rK Tryz.func16 (lR c 6 (by omega) (by omega) h1 h2) ?_;rintro _ S1 w1 _ ⟨rfl,e1,e2⟩;subst S1 w1;repeat refine rN ?_
 refine rK Tryz.func16 (lR c 6 (by omega) (by omega) h1 h2) ?_;rintro _ S1 w1 _ ⟨rfl,e1,e2⟩;subst S1 w1;have hp:=jP c (n:=6) (by omega);have hq:cR c 6*cR c 6<=5*5:=Nat.mul_le_mul (by omega) (by omega);have eq:((cR c 6*cR c 6:Nat):Int)=(cR c 6:Int)*(cR c 6:Int):=Int.natCast_mul _ _;have hid:(1:Int)+(cR c 6:Int)*(cR c 6:Int)*300=((aR c:Nat):Int):=by
  unfold aR;omega
 have HID:=aE hid;have b0:(0:Int)<=(cR c 6:Int)*(cR c 6:Int):=by omega
 have b1:(cR c 6:Int)*(cR c 6:Int)<=25:=by omega
 clear hid eq hq;repeat refine rN ?_
 refine aP fun todo=>?_
 refine ret _ _ S v (.int .i64 (aR c:Nat)) ?_ ⟨rfl,rfl,rfl⟩;simp[results,Tryz.results37,HID.out]
theorem Wu(nd nb:Nat)(h1:14<=nd)(h2:nd<=18)(hb1:4<=nb)(hb2:nb<=15) :
  aK Tryz.prog 23 #[.int .i64 (nd:Nat),.int .i64 (nb:Nat)] S v fun x S' v'=>S'=S∧Ext v v'∧∃ g c,x=.slice (some ⟨g,0,none⟩) nd c∧∀ j,j<nd->v'.cell? ⟨g,j,none⟩=some (.string (zs (nb*96))):=by
 obtain⟨is,zz,is1,is2,is3,is4,is5⟩:=zN;refine dL Tryz.func23 rfl Tryz.ntmps23 fun Stop cc cs ret f g0 g1=>?_
 have hmul:(nb:Int)*96=((nb*96:Nat):Int):=by omega
 have hbb:nb*96<=1440:=by omega
 generalize hm:nb*96=m at *
 repeat refine rN ?_
 refine mI aB rfl rfl (by kernel_rfl) rfl (m:=m) (by simp) (by simp) (by omega) (by kernel_rfl) Tryz.underlying48 fun w1 hE1 hr1 hs1=>?_
 simp only[stO_some];have hz1:∀ w,Ext w1 w->∀ i,i<m->w.cell? ⟨v.heap.size,i,none⟩=some (.int .u8 0):=fun w hE i hi=>by
  rw[cell_of_row _ _ _ _ _ _ (hE.row hr1)];simp[hi]
 repeat refine rN ?_
 refine bT (fun d f' S' w=>∃ j ov,d=nd - j∧j<=nd∧S'=S∧(Ext w1 w∧w.ownsRow w1.heap.size 9 1 ov j (pJ (fun _=>m) j))∧f' 0=.int .i64 (nd:Nat)∧f' 5=.slice (some ⟨v.heap.size,0,none⟩) m m∧f' 6=ov∧f' 7=.int .i64 (j:Nat)) nd ⟨0,.slice none 0 0,by omega,by omega,rfl,⟨.refl _,World.ownsRow_nil _ _ _ _⟩,by simp[g0],by simp,by simp,by simp⟩ ?_;clear g0 g1 f;rintro d f S' w ⟨j,ov,rfl,hj,eS,⟨hEw,how⟩,g0,g5,g6,g7⟩ nxt;subst S';repeat refine rN ?_
 by_cases hlt:j<nd
 .have hjI:(j:Int)<(nd:Int):=by omega
  have hz:=hz1 w hEw;refine rX (by simp[Act.eval,hlt]) ?_;repeat (first|refine rQ rfl ?_|(refine rO aB rfl ?_;intro _ hu_ K_ hK_;(have kc:=Gc (c:=m) fun i hi=>(Ext.twin hu_).cell (hz i hi));go_simp;(try rw[wI _]);(try rw[wU _]);refine hK_ _ ?_;clear hK_ K_ hu_;simp only[sS,sN])|refine rW ?_)
  refine bO (Q:=fun x w2=>x=.slice (some ⟨w.heap.size,0,none⟩) 1 1∧Ext w w2∧w2.heap[w.heap.size]?=some (.cells #[.string (zs m)] 9)) aB rfl rfl (by kernel_rfl) (fun u hu=>⟨_,_,.inl (tQ (x:=.tmp 18) (y:=.string (zs m)) rfl Tryz.underlying29 is1 is2 is3 is5 (by simp) rfl u),by rw[hu.heap],(Ext.twin hu).trans _ _ _ (Ext.alloc _ _),by rw[<-hu.heap];exact cI _ _⟩) ?_
  rintro _ w2 ⟨rfl,hE2,hr2⟩;simp only[stO_some];have gw:Gr w w2 none:=⟨hE2.os,hE2.output,hE2.size,fun b hb _=>hE2.block b hb⟩
  have how2:=Io how gw (by simp);refine bO aB rfl rfl (by kernel_rfl) (fun u hu=>qC (s:=.tmp 16) (x:=.tmp 19) (ad:=⟨w.heap.size,0,none⟩) (m:=1) (c:=1) (news:=[.string (zs m)]) hu w1.heap.size Tryz.underlying29 is1 is2 is3 is4 (by rw[is5];rfl) how2 rfl (Et hr2) (fun y hy=>by rw[List.mem_singleton]at hy;subst hy;rfl) (by omega) (by omega) (Nat.le_trans hEw.size hE2.size) rfl (by simp[g6]) (by simp)) ?_;rintro ov' w3 ⟨ho3,hg3,_⟩;simp only[stO_some];have ho4:w3.ownsRow w1.heap.size 9 1 ov' (j+1) (pJ (fun _=>m) (j+1)):=by
   rw[<-Qe];exact ho3
  have hE3:Ext w1 w3:=Gr.over (hEw.trans _ _ _ hE2) hg3 fun b hb=>Gj how2 hb
  repeat refine rN ?_
  refine nxt _ _ _ (nd - (j+1)) (by omega) ⟨j+1,ov',rfl,by omega,rfl,⟨hE3,ho4⟩,by simp[g0],by simp[g5],by simp,by simp⟩
 .obtain rfl:j=nd:=by omega
  obtain⟨g,c,cur,q1,q2,q3,q4,q5,q6⟩:=lO how (.inl (by omega));subst q1;refine rZ (by simp[Act.eval,g7]) ?_;refine bD rfl ?_;repeat refine rN ?_
  refine aP fun todo=>?_
  refine ret _ _ S w (.slice (some ⟨g,0,none⟩) j c) ?_ ⟨rfl,hE1.trans _ _ _ hEw,g,c,rfl,?_⟩
  .simp[results,Tryz.results23]
  .intro i hi;rw[cell_of_row _ _ _ _ _ _ q3,q6 i hi];simp[pJ,hi]
end
