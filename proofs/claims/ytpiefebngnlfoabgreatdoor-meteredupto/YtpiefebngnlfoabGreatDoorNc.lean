import Derived.Test.YtpiefebngnlfoabGreatDoorNb
set_option maxRecDepth 99999
set_option maxHeartbeats 0
set_option linter.unusedVariables false
set_option linter.unusedSimpArgs false
namespace Go.Proofs.YtpiefebngnlfoabGreatDoor
open Go.RowKit Go.Conc Go.Vw
def sX(A B:List It):Prop:=A.length=B.length∧∀ (i:Nat) (a b:It),A[i]?=some a->B[i]?=some b->(a.size=b.size∧∀ k,k<a.size->a.val k=b.val k)∧a.id=b.id
theorem sX.refl(A:List It):sX A A:=⟨rfl,fun i a b h1 h2=>by
 rw[h1]at h2;cases h2
 exact⟨⟨rfl,fun _ _=>rfl⟩,rfl⟩⟩
def pO(A B:List It):Bool:=decide (A.length=B.length)&&(List.range A.length).all fun i=>match A[i]?,B[i]? with|some a,some b=>(decide (a.size=b.size)&&lI a.val b.val a.size)&&decide (a.id=b.id)|_,_=>true
theorem zQ{A B:List It} : pO A B=true↔sX A B:=by
 unfold pO sX;rw[Bool.and_eq_true,decide_eq_true_iff,List.all_eq_true];constructor
 .rintro⟨h1,h2⟩;refine⟨h1,fun i a b ha hb=>?_⟩
  have:=h2 i (List.mem_range.2 (List.getElem?_eq_some_iff.1 ha).1);rw[ha,hb]at this;simp only[Bool.and_eq_true,decide_eq_true_iff,pA]at this;exact this
 .rintro⟨h1,h2⟩;refine⟨h1,fun i hi=>?_⟩
  have hi:=List.mem_range.1 hi;have ha:A[i]?=some A[i]:=List.getElem?_eq_getElem hi;have hb:B[i]?=some (B[i]'(by omega)):=List.getElem?_eq_getElem (by omega);have:=h2 i _ _ ha hb;rw[ha,hb];simp only[Bool.and_eq_true,decide_eq_true_iff,pA];exact this
theorem yE{A B:List It}(h:¬sX A B):pO A B=false:=by
 cases hb:pO A B with
 |false=>rfl
 |true=>exact absurd (zQ.1 hb) h
section
variable {w w' v:World}{S:Nat->Prop}
theorem Yy(N1 N2 b1 b2:Nat)(s1 s2:Value)(A B:List It)(hA:fC N1 b1 v s1 A)(hB:fC N2 b2 v s2 B)(z1:∀ t∈A,t.size<=400)(z2:∀ t∈B,t.size<=400)(n1:A.length<=1000)(n2:B.length<=1000) :
  aJ Tryz.prog 15 #[s1,s2] S v fun x S' v'=>x=.bool (pO A B)∧S'=S∧v'=v:=by
 refine dH Tryz.func15 rfl Tryz.ntmps15 fun Stop cc cs ret f g0 g1=>?_
 obtain⟨Q,hQA,hQ⟩:=hA;obtain⟨R,hRB,hR⟩:=hB;obtain⟨p1,c1,e1⟩:=hQ.form;obtain⟨p2,c2,e2⟩:=hR.form;have l1:Q.length=A.length:=by rw[<-hQA,List.length_map]
 have l2:R.length=B.length:=by rw[<-hRB,List.length_map]
 rw[e1]at g0;rw[e2]at g1;by_cases hne:Q.length=R.length
 .have HL:=aG hne;have hneI:((Q.length:Nat):Int)=((R.length:Nat):Int):=by omega
  have hA0:Hid (A.length=B.length):=aG (by omega);have n1':Q.length<=1000:=by omega
  clear l1 l2;generalize hn:Q.length=n at *
  rw[<-hne]at g1;clear hne hneI;repeat refine rN ?_
  refine rZ (by simp[Act.eval]) ?_;repeat refine rN ?_
  refine bP (fun d f' S' v'=>∃ j,d=n - j∧j<=n∧S'=S∧v'=v∧Hid (∀ (i:Nat) (a b:It),i<j->A[i]?=some a->B[i]?=some b->(a.size=b.size∧∀ k,k<a.size->a.val k=b.val k)∧a.id=b.id)∧f' 0=.slice p1 n c1∧f' 1=.slice p2 n c2∧f' 5=.int .i64 (j:Nat)) n ⟨0,by omega,by omega,rfl,rfl,aG fun i a b hi=>(by omega),by simp[g0],by simp[g1],by simp⟩ ?_
  clear g0 g1 f;rintro d f S' v' ⟨j,rfl,hj,eS,eV,HE,g0,g1,g5⟩ nxt;subst S' v';repeat refine rN ?_
  by_cases hlt:j<n
  .have hjI:(j:Int)<(n:Int):=by omega
   obtain⟨q,hq⟩:∃ q,Q[j]?=some q:=⟨_,List.getElem?_eq_getElem (by omega)⟩;obtain⟨r,hr⟩:∃ r,R[j]?=some r:=⟨_,List.getElem?_eq_getElem (by have:=HL.out;omega)⟩;have hqA:A[j]?=some q.it:=by rw[<-hQA,List.getElem?_map,hq];rfl
   have hrB:B[j]?=some r.it:=by rw[<-hRB,List.getElem?_map,hr];rfl
   have hqs:=hQ.sl q (List.mem_of_getElem? hq);have hrs:=hR.sl r (List.mem_of_getElem? hr);obtain⟨ga,ca,ea,la,ca0,ca1⟩:=hQ.get hq;obtain⟨gb,cb,eb,lb,cb0,cb1⟩:=hR.get hr;rw[e1]at ea;rw[e2]at eb;cases ea
   cases eb
   have z1':=z1 _ (List.mem_of_getElem? hqA);have z2':=z2 _ (List.mem_of_getElem? hrB);have HA:=aG hqA;have HB:=aG hrB;clear hqA hrB hq hr la lb e1 e2;refine rX (by simp[Act.eval,g5,g0,hjI,hlt]) ?_;repeat refine rN ?_
   refine kP aB (by first|kernel_rfl|rfl) ?_
   simp only[List.size_toArray,List.length_cons,List.length_nil,Nat.reduceAdd,Nat.zero_add];refine hU 0 ?_;refine hU 1 ?_;refine hU 2 ?_;refine hU 3 ?_;co_applyP hT (i:=4) rfl (fun _ hu_=>run_eq_of ?u3_4) ?v3_4
   case u3_4=>intro K_ hK_;(have hc:=(Ext.twin hu_).cell ca1);go_simp;(try rw[wI _]);(try rw[wU _]);exact hK_
   simp only[sS,sN];refine hU 5 ?_;refine hU 6 ?_;refine hU 7 ?_;refine hU 8 ?_;co_applyP hT (i:=9) rfl (fun _ hu_=>run_eq_of ?u5_9) ?v5_9
   case u5_9=>intro K_ hK_;(have hc:=(Ext.twin hu_).cell cb1);go_simp;(try rw[wI _]);(try rw[wU _]);exact hK_
   simp only[sS,sN];refine hC (i:=10) rfl Tryz.func35 rfl (vs:=#[.slice q.p q.it.size q.cap,.slice r.p r.it.size r.cap]) (by simp[Act.eval]) (Xu q.p r.p q.it.size r.it.size q.cap r.cap q.it.val r.it.val (by omega) (by omega) hqs.1 hrs.1) ?_;simp only[sS,sN];refine hU 11 ?_;refine hD ?_;have HS:Hid ((decide (q.it.size=r.it.size)&&lI q.it.val r.it.val q.it.size)=true↔(q.it.size=r.it.size∧∀ k,k<q.it.size->q.it.val k=r.it.val k)):=aG (by rw[Bool.and_eq_true,decide_eq_true_iff,pA]);generalize (decide (q.it.size=r.it.size)&&lI q.it.val r.it.val q.it.size)=sb at HS ⊢;cases sb with
   |true=>
    by_cases hid:q.it.id=r.it.id
    .have HI:=aG hid;rw[hid]at ca0;clear hid;repeat refine rN ?_
     refine kP aB (by first|kernel_rfl|rfl) ?_
     simp only[List.size_toArray,List.length_cons,List.length_nil,Nat.reduceAdd,Nat.zero_add];refine hU 0 ?_;refine hU 1 ?_;refine hU 2 ?_;refine hU 3 ?_;refine hU 4 ?_;refine hU 5 ?_;refine hU 6 ?_;co_applyP hT (i:=7) rfl (fun _ hu_=>run_eq_of ?u9_7) ?v9_7
     case u9_7=>intro K_ hK_;(have hc:=(Ext.twin hu_).cell ca0);go_simp;(try rw[wI _]);(try rw[wU _]);exact hK_
     simp only[sS,sN];refine hU 8 ?_;refine hU 9 ?_;refine hU 10 ?_;refine hU 11 ?_;co_applyP hT (i:=12) rfl (fun _ hu_=>run_eq_of ?u11_12) ?v11_12
     case u11_12=>intro K_ hK_;(have hc:=(Ext.twin hu_).cell cb0);go_simp;(try rw[wI _]);(try rw[wU _]);exact hK_
     simp only[sS,sN];refine hU 13 ?_;refine hU 14 ?_;refine hD ?_;repeat refine rN ?_
     refine rZ (by simp[Act.eval]) ?_;repeat refine rN ?_
     refine nxt _ _ _ (Q.length - (j+1)) (by omega) ⟨j+1,rfl,by omega,rfl,rfl,aG ?_,by simp[g0],by simp[g1],by simp⟩;intro i a b hi h1 h2;by_cases e:i=j
     .subst e;rw[HA.out]at h1;rw[HB.out]at h2;cases h1
      cases h2
      exact⟨HS.out.1 rfl,HI.out⟩
     .exact HE.out i a b (by omega) h1 h2
    .have hidI:¬((q.it.id:Nat):Int)=((r.it.id:Nat):Int):=by omega
     repeat refine rN ?_
     refine kP aB (by first|kernel_rfl|rfl) ?_
     simp only[List.size_toArray,List.length_cons,List.length_nil,Nat.reduceAdd,Nat.zero_add];refine hU 0 ?_;refine hU 1 ?_;refine hU 2 ?_;refine hU 3 ?_;refine hU 4 ?_;refine hU 5 ?_;refine hU 6 ?_;co_applyP hT (i:=7) rfl (fun _ hu_=>run_eq_of ?u15_7) ?v15_7
     case u15_7=>intro K_ hK_;(have hc:=(Ext.twin hu_).cell ca0);go_simp;(try rw[wI _]);(try rw[wU _]);exact hK_
     simp only[sS,sN];refine hU 8 ?_;refine hU 9 ?_;refine hU 10 ?_;refine hU 11 ?_;co_applyP hT (i:=12) rfl (fun _ hu_=>run_eq_of ?u17_12) ?v17_12
     case u17_12=>intro K_ hK_;(have hc:=(Ext.twin hu_).cell cb0);go_simp;(try rw[wI _]);(try rw[wU _]);exact hK_
     simp only[sS,sN];refine hU 13 ?_;refine hU 14 ?_;refine hD ?_;repeat refine rN ?_
     refine rX (by simp[Act.eval,hidI,hid]) ?_;repeat refine rN ?_
     refine aP fun todo=>?_
     refine ret _ _ _ _ (.bool false) ?_ ⟨?_,rfl,rfl⟩
     .simp[results,Tryz.results15]
     .rw[yE fun h=>hid (h.2 j _ _ HA.out HB.out).2]
   |false=>
    repeat refine rN ?_
    refine kP aB (by first|kernel_rfl|rfl) ?_
    simp only[List.size_toArray,List.length_cons,List.length_nil,Nat.reduceAdd,Nat.zero_add];refine hU 0 ?_;refine hU 1 ?_;refine hU 2 ?_;refine hV 3 ?_;refine hV 4 ?_;refine hV 5 ?_;refine hV 6 ?_;refine hV 7 ?_;refine hV 8 ?_;refine hV 9 ?_;refine hV 10 ?_;refine hV 11 ?_;refine hV 12 ?_;refine hV 13 ?_;refine hU 14 ?_;refine hD ?_;repeat refine rN ?_
    refine rX (by simp[Act.eval]) ?_;repeat refine rN ?_
    refine aP fun todo=>?_
    refine ret _ _ _ _ (.bool false) ?_ ⟨?_,rfl,rfl⟩
    .simp[results,Tryz.results15]
    .rw[yE fun h=>by have:=HS.out.2 (h.2 j _ _ HA.out HB.out).1;cases this]
  .obtain rfl:j=n:=by omega
   refine rZ (by simp[Act.eval,g5,g0]) ?_;refine bH rfl ?_;repeat refine rN ?_
   refine aP fun todo=>?_
   refine ret _ _ _ _ (.bool true) ?_ ⟨?_,rfl,rfl⟩
   .simp[results,Tryz.results15]
   .rw[zQ.2];refine⟨hA0.out,fun i a b ha hb=>HE.out i a b ?_ ha hb⟩
    have:=(List.getElem?_eq_some_iff.1 ha).1;rw[<-hQA,List.length_map]at this;omega
 .have hneI:¬((Q.length:Nat):Int)=((R.length:Nat):Int):=by omega
  have HF:Hid (¬A.length=B.length):=aG (by omega);clear l1 l2;repeat refine rN ?_
  refine rX (by simp[Act.eval,hneI,hne]) ?_;repeat refine rN ?_
  refine aP fun todo=>?_
  refine ret _ _ S v (.bool false) ?_ ⟨?_,rfl,rfl⟩
  .simp[results,Tryz.results15]
  .rw[yE fun h=>HF.out h.1]
end
structure Ac where
 c:Int
 gone:Bool
 p:Option Addr
 len:Nat
 cap:Nat
 val:Nat->Nat
def Ac.agg(a:Ac):Array Value:=#[.int .i64 a.c,.bool a.gone,.slice a.p a.len a.cap]
def Ac.it(a:Ac):It:=⟨aX a.c,min a.len 400,a.val⟩
structure Ac.Ok(N:Nat)(w:World)(a:Ac):Prop where
 lo:-9223372036854775808<=a.c
 hi:a.c<=9223372036854775807
 len:a.len<2 ^ 62
 val:∀ i,a.val i<256
 sl:iM N w a.p a.len a.cap a.val
theorem Ac.Ok.kp{N:Nat}{w w':World}{Y:Nat->Prop}{a:Ac}(h:a.Ok N w)(hY:kN N w Y)(hK:Kp w Y w'):a.Ok N w':=⟨h.lo,h.hi,h.len,h.val,h.sl.kp hY hK⟩
def dK(nb:Nat)(s:Dsk)(L:List Ent)(turn:Nat)(a:Ac)(err:Nat)(s':Dsk)(L':List Ent)(turn':Nat):Prop:=
 if a.gone=true then
  match aL (aX a.c) L 0 with
  |none=>err=4∧s'=s∧L'=L∧turn'=turn
  |some q=>err=0∧s'=fU s q.2.slot q.2.good∧L'=eY L (aX a.c)∧turn'=turn
 else if gQ L nb (aX a.c)=true then err=5∧s'=s∧L'=L∧turn'=turn
 else err=0∧turn'=turn+1∧∃ p clock,mA L nb p∧PutOk L ⟨aX a.c,min a.len 400,turn+1,p,a.val,fun _=>true,0⟩ clock∧s'=jG s L p (aX a.c) (min a.len 400) (turn+1) a.val∧L'=bO L ⟨aX a.c,min a.len 400,turn+1,p,a.val,fun _=>true,0⟩ clock
section
variable {X D DB DA M:Nat}{RB RA:Nat->Nat}{nd nb turn:Nat}{s:Dsk}{L:List Ent}{w w' v:World}{S:Nat->Prop}
theorem Le(id:Nat)(hq:aL id L 0=none)(hid1:1<=id)(hid:id<=9999)(hX:StE X D DB DA M RB RA nd nb turn s L v) :
  aJ Tryz.prog 36 #[.pointer (some ⟨X,0,none⟩),.int .i64 (id:Nat)] S v fun x S' v'=>x=.int .i64 4∧S'=S∧Ext v v':=by
 refine dH Tryz.func36 rfl Tryz.ntmps36 fun Stop cc cs ret f g0 g1=>?_
 obtain⟨clock,hm,hbn⟩:=hX.map;have c1:=hX.c1;repeat refine rN ?_
 refine rK Tryz.func40 (vQ id hid1 hid) ?_;rintro _ S2 w2 _ ⟨rfl,e1,e2⟩;subst S2 w2;repeat refine rN ?_
 refine rZ (by simp[Act.eval]) ?_;repeat refine rM c1 ?_
 refine oC rfl rfl rfl (x:=.tmp 14) (y:=.tmp 15) (id:=id) (by simp) (by simp[g1]) hm ?_;rw[hq];simp only[stO_some,fO];repeat refine rN ?_
 refine cM aB rfl rfl (by kernel_rfl) (.agg (aK 0 0 0 0 fun _=>false)) rfl (by kernel_rfl) fun w3 hE3 hb3 hs3=>?_
 simp only[stO_some];refine cZ aB rfl rfl (by kernel_rfl) (x:=.tmp 5) (y:=.tmp 17) (g:=v.heap.size) (c:=aK 0 0 0 0 fun _=>false) rfl (by simp) (by simp) hb3 (by kernel_rfl) rfl (by simp[aK,Value.oneCell']) fun w4 hW4=>?_
 simp only[stO_none];have hE4:Ext v w4:=bJ hE3 (Nat.le_refl _) hW4;repeat refine rN ?_
 refine rX (by simp[Act.eval]) ?_;repeat refine rN ?_
 refine aP fun todo=>?_
 refine ret _ _ S w4 (.int .i64 4) ?_ ⟨rfl,rfl,hE4⟩;simp[results,Tryz.results36]
theorem Jg(N:Nat)(a:Ac)(ha:a.Ok N v)(hg:Tryz.prog.globals.size<=v.heap.size)(ht:turn<9223372036854775808)(hb4:4<=nb)(hn1:14<=nd)(hnd:nd<=18)(hnb:nb<=64)(hLn:L.length<=nb - 2)(hX:StE X D DB DA M RB RA nd nb turn s L v) :
  aJ Tryz.prog 18 #[.pointer (some ⟨X,0,none⟩),.agg a.agg] S v fun x S' v'=>∃ err s' L' turn',x=.int .i64 (err:Nat)∧dK nb s L turn a err s' L' turn'∧Kp v (dG X D M RB RA nd) v'∧StE X D DB DA M RB RA nd nb turn' s' L' v':=by
 refine dH Tryz.func18 rfl Tryz.ntmps18 fun Stop cc cs ret f g0 g1=>?_
 obtain⟨hi1,hi2⟩:=vS a.c;repeat refine rN ?_
 refine bS (Q:=fun y w=>y=.pointer (some ⟨v.heap.size,0,none⟩)∧Ext v w∧w.heap[v.heap.size]?=some (.cells a.agg 50)) aB rfl rfl (by kernel_rfl) (fun u hu=>⟨_,_,.inl (gK (x:=.tmp 1) (y:=.agg a.agg) rfl (by simp[g1]) u),by rw[hu.heap],(Ext.twin hu).trans _ _ _ (Ext.alloc _ _),by rw[<-hu.heap];exact cN _ _⟩) ?_
 rintro _ w1 ⟨rfl,hE1,hb1⟩;simp only[stO_some];have hX1:=hX.ext hE1;have ha1:=ha.kp (dM N v) (dB hE1);have c0:w1.cell? ⟨v.heap.size,0,none⟩=some (.int .i64 a.c):=(cell_of_row _ _ _ _ _ _ hb1).trans rfl;have c1:w1.cell? ⟨v.heap.size,1,none⟩=some (.bool a.gone):=(cell_of_row _ _ _ _ _ _ hb1).trans rfl;have c2:w1.cell? ⟨v.heap.size,2,none⟩=some (.slice a.p a.len a.cap):=(cell_of_row _ _ _ _ _ _ hb1).trans rfl;have hg1:=Nat.le_trans hg hE1.size;generalize hbx:v.heap.size=bx at c0 c1 c2;repeat refine rM c1 ?_
 unfold dK at ret;cases hgo:a.gone with
 |true=>
  rw[hgo]at c1;simp only[hgo,if_true]at ret;refine rX (by simp[Act.eval]) ?_;repeat refine rM c0 ?_
  refine rK Tryz.func37 (mD a.c ha.lo ha.hi) ?_;rintro _ S2 w2 _ ⟨rfl,e1,e2⟩;subst S2 w2;cases hq:aL (aX a.c) L 0 with
  |none=>
   rw[hq]at ret;refine rK Tryz.func36 (Le (aX a.c) hq hi1 (by omega) hX1) ?_;rintro _ S2 w2 _ ⟨rfl,e1,hE2⟩;subst S2;repeat refine rN ?_
   refine aP fun todo=>?_
   refine ret _ _ S w2 (.int .i64 4) ?_ ⟨4,s,L,turn,rfl,⟨rfl,rfl,rfl,rfl⟩,((Kp.refl v _).ext hE1).ext hE2,hX1.ext hE2⟩;simp[results,Tryz.results18]
  |some q=>
   obtain⟨n,e⟩:=q;rw[hq]at ret;refine rK Tryz.func36 (To (aX a.c) n e hq hi1 (by omega) hn1 hnd hnb hX1) ?_;rintro _ S2 w2 _ ⟨rfl,e1,hK2,hX2⟩;subst S2;repeat refine rN ?_
   refine aP fun todo=>?_
   refine ret _ _ S w2 (.int .i64 0) ?_ ⟨0,_,_,_,rfl,⟨rfl,rfl,rfl,rfl⟩,((Kp.refl v _).ext hE1).trans hK2,hX2⟩;simp[results,Tryz.results18]
 |false=>
  rw[hgo]at c1;simp only[hgo,Bool.false_eq_true,if_false]at ret;refine rZ (by simp[Act.eval]) ?_;repeat refine rN ?_
  refine kP aB (by first|kernel_rfl|rfl) ?_
  simp only[List.size_toArray,List.length_cons,List.length_nil,Nat.reduceAdd,Nat.zero_add];refine hU 0 ?_;refine hU 1 ?_;co_applyP hT (i:=2) rfl (fun _ hu_=>run_eq_of ?u3_2) ?v3_2
  case u3_2=>intro K_ hK_;(have hc:=(Ext.twin hu_).cell c0);go_simp;(try rw[wI _]);(try rw[wU _]);exact hK_
  simp only[sS,sN];refine hC (i:=3) rfl Tryz.func37 rfl (vs:=#[.int .i64 a.c]) (by simp[Act.eval]) (mD a.c ha.lo ha.hi) ?_;simp only[sS,sN];refine hU 4 ?_;co_applyP hT (i:=5) rfl (fun _ hu_=>run_eq_of ?u5_5) ?v5_5
  case u5_5=>intro K_ hK_;(have hc:=(Ext.twin hu_).cell c2);go_simp;(try rw[wI _]);(try rw[wU _]);exact hK_
  simp only[sS,sN];refine hC (i:=6) rfl Tryz.func38 rfl (vs:=#[.slice a.p a.len a.cap]) (by simp[Act.eval]) (yX a.len a.cap a.p a.val ha1.sl.1 ha.len) ?_;simp only[sS,sN];refine hL 7 [8] ?_;refine cY Tryz.func24 (Iv (aX a.c) (min a.len 400) a.cap a.p a.val hi1 (by omega) (Nat.min_le_right _ _) ha.val (ha1.sl.1.head (Nat.min_le_left _ _)) hg1 ht hb4 hn1 hnd hnb hX1 hLn) ?_;rintro y S2 w2 _ hpost;cases hfl:gQ L nb (aX a.c) with
  |true=>
   simp only[hfl,if_true]at hpost ret;obtain⟨rfl,hK2⟩:=hpost;simp only[stO_some];repeat refine rN ?_
   refine aP fun todo=>?_
   refine ret _ _ S2 w2 (.int .i64 5) ?_ ⟨5,s,L,turn,rfl,⟨rfl,rfl,rfl,rfl⟩,((Kp.refl v _).ext hE1).trans (hK2.mono fun _ h=>h.elim),hX1.kp hK2⟩
   simp[results,Tryz.results18]
  |false=>
   simp only[hfl,Bool.false_eq_true,if_false]at hpost ret;obtain⟨rfl,hK2,p,clock,hF,hP,hX2⟩:=hpost;simp only[stO_some];repeat refine rN ?_
   refine aP fun todo=>?_
   refine ret _ _ S2 w2 (.int .i64 0) ?_ ⟨0,_,_,_,rfl,⟨rfl,rfl,p,clock,hF,hP,rfl,rfl⟩,((Kp.refl v _).ext hE1).trans hK2,hX2⟩;simp[results,Tryz.results18]
end
