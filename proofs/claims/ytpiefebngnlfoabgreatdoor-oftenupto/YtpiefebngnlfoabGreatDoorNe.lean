import Derived.Test.YtpiefebngnlfoabGreatDoorNd
set_option maxRecDepth 99999
set_option maxHeartbeats 0
set_option linter.unusedVariables false
set_option linter.unusedSimpArgs false
namespace Go.Vw
open Go.Conc
theorem Al{P:Program}{Stop:Goroutine->(Nat->Prop)->World->Prop}{fn:FuncId}{cs:List Frame}{k:List Item}{n:Nat}{c:Item}{f:Nat->Value}{S:Nat->Prop}{w:World}(Post:(Nat->Value)->(Nat->Prop)->World->Prop)
  (h1:(∀ f' S' w',Post f' S' w'->Reach P Stop (G ((base fn).at ⟨TA n f',[]⟩ k) cs) S' w')->Reach P Stop (G ((base fn).at ⟨TA n f,[]⟩ (c :: k)) cs) S w)
  (h2:∀ f' S' w',Post f' S' w'->Reach P Stop (G ((base fn).at ⟨TA n f',[]⟩ k) cs) S' w'):Reach P Stop (G ((base fn).at ⟨TA n f,[]⟩ (c :: k)) cs) S w:=h1 h2
end Go.Vw
namespace Go.Proofs.YtpiefebngnlfoabGreatDoor
open Go.RowKit Go.Conc Go.Vw
theorem Qw{o:Oper}{a:Act}{x:Operand}{b off:Nat}{y z:Value}{u:World}(hop:o.op=.load 65 x)(hx:a.eval x=.pointer (some ⟨b,off,none⟩))(h0:u.cell? ⟨b,off,none⟩=some y)(h1:u.cell? ⟨b,off+1,none⟩=some z):(execOp a.eval o).run Tryz.prog u=.ok (.value (.agg #[y,z])) u:=by
 have hl:=run_loadAt_mid (P:=Tryz.prog) u b off 65 [y,z] _ (fun i r hy=>by
  match i,hy with
  |0,hy=>cases hy;exact h0
  |1,hy=>cases hy;exact h1) Tryz.underlying65 rfl (by kernel_rfl)
 unfold execOp;simp only[hop,hx,Sem.run_bind,hl,Result.andThen_ok,Sem.run_pure]
def sP(x:It)(i:Bool)(t:It)(R:List It):List It:=if t.id=x.id then bH x i R else t :: bH x i R
theorem Tq(x t:It)(i:Bool)(R:List It):bH x i (t :: R)=if x.id<=t.id∧i=false then x :: sP x true t R else sP x i t R:=rfl
section
variable {w w' v:World}{S:Nat->Prop}
theorem Ht(N:Nat)(hN:N<=v.heap.size)(T:List It)(sv:Value)(a:Ac)(err:Nat)(herr:err<=100)(hI:bO N N v sv T)(ha:a.Ok N v)(hTl:T.length<=100) :
  aI Tryz.prog 19 #[sv,.agg a.agg,.int .i64 (err:Nat)] S v fun x S' v'=>S'=S∧Ext v v'∧bO N N v' x (if err=0 then bH a.it a.gone T else T):=by
 refine jV Tryz.func19 rfl Tryz.ntmps19 fun Stop cc cs ret f g0 g1 g2=>?_
 obtain⟨hi1,hi2⟩:=vH a.c;repeat refine rN ?_
 refine bJ (Q:=fun y w=>y=.pointer (some ⟨v.heap.size,0,none⟩)∧Ext v w∧w.heap[v.heap.size]?=some (.cells a.agg 50)) aB rfl rfl (by kernel_rfl) (fun u hu=>⟨_,_,.inl (fW (x:=.tmp 1) (y:=.agg a.agg) rfl (by simp[g1]) u),by rw[hu.heap],(Ext.twin hu).trans _ _ _ (Ext.alloc _ _),by rw[<-hu.heap];exact cF _ _⟩) ?_
 rintro _ w1 ⟨rfl,hE1,hb1⟩;simp only[stO_some];obtain⟨Q,hQT,hQ⟩:=hI;obtain⟨pv,cv,hsv⟩:=hQ.form;subst hsv;by_cases he:err=0
 .subst he;rw[if_pos rfl]at ret;have HLn:Hid (Q.length=T.length):=aJ (by rw[<-hQT,List.length_map]);have hQ100:Q.length<=100:=by rw[HLn.out];exact hTl
  have cA:∀ {w':World},Ext w1 w'->w'.cell? ⟨v.heap.size,0,none⟩=some (.int .i64 a.c)∧w'.cell? ⟨v.heap.size,1,none⟩=some (.bool a.gone)∧w'.cell? ⟨v.heap.size,2,none⟩=some (.slice a.p a.len a.cap):=fun hE'=>⟨(cell_of_row _ _ _ _ _ _ (hE'.row hb1)).trans rfl,(cell_of_row _ _ _ _ _ _ (hE'.row hb1)).trans rfl,(cell_of_row _ _ _ _ _ _ (hE'.row hb1)).trans rfl⟩
  have c1:=(cA (.refl _)).2.1;have hbx1:v.heap.size<w1.heap.size:=(Array.getElem?_eq_some_iff.1 hb1).1;generalize hbx:v.heap.size=bx at *
  repeat refine rN ?_
  refine rZ (by simp[Act.eval]) ?_;repeat refine rM c1 ?_
  refine bR (fun d f' S' w=>∃ j ov Qo dA,d=Q.length - j∧j<=Q.length∧S'=S∧Ext w1 w∧ItsQ N w1.heap.size w ov Qo∧Qo.length<=2*j∧Hid (Qo.map (·.it)++bH a.it dA (T.drop j)=bH a.it a.gone T)∧f' 0=.slice pv Q.length cv∧f' 4=.pointer (some ⟨bx,0,none⟩)∧f' 7=ov∧f' 8=.bool dA∧f' 9=.int .i64 (j:Nat)) Q.length ⟨0,.slice none 0 0,[],a.gone,by omega,by omega,rfl,.refl _,⟨World.ownsRow_nil _ _ _ _,fun q hq=>(by cases hq)⟩,by simp,aJ (by simp),by simp[g0],by simp,by simp,by simp,by simp⟩ ?_
  clear g0 g1 g2 f c1;rintro d f S' w ⟨j,ov,Qo,dA,rfl,hj,eS,hEw,hQo,hQl,HR,g0,g4,g7,g8,g9⟩ nxt;subst S';have hNb:N<=w1.heap.size:=by omega
  repeat refine rN ?_
  by_cases hlt:j<Q.length
  .have hjI:(j:Int)<(Q.length:Int):=by omega
   obtain⟨q,hq⟩:∃ q,Q[j]?=some q:=⟨_,List.getElem?_eq_getElem hlt⟩;have hqT:T[j]?=some q.it:=by rw[<-hQT,List.getElem?_map,hq];rfl
   have hdrop:T.drop j=q.it :: T.drop (j+1):=by
    obtain⟨h1,h2⟩:=List.getElem?_eq_some_iff.1 hqT;rw[List.drop_eq_getElem_cons h1,h2]
   have hR:=HR.out;rw[hdrop,Tq]at hR;clear HR;have HR:=aJ hR;clear hR hdrop hqT;obtain⟨ga,ca,ea,la,ca0,ca1⟩:=(hQ.kp (eF N v) (bF (hE1.trans _ _ _ hEw))).get hq;have hqs:=(hQ.sl q (List.mem_of_getElem? hq)).kp (eF N v) (bF (hE1.trans _ _ _ hEw));cases ea
   obtain⟨cA0,cA1,cA2⟩:=cA hEw;refine rX (by simp[Act.eval,g9,g0,hjI,hlt]) ?_;repeat refine rN ?_
   refine Al (fun f' S' w'=>S'=S∧w'=w∧f' 33=.bool (decide (aQ a.c<=q.it.id)&&!dA)∧f' 0=.slice (some ⟨ga,0,none⟩) Q.length cv∧f' 4=.pointer (some ⟨bx,0,none⟩)∧f' 7=ov∧f' 8=.bool dA∧f' 9=.int .i64 (j:Nat)) ?_ ?_
   .intro next
    by_cases hge:aQ a.c<=q.it.id
    .have hgeI:((aQ a.c:Nat):Int)<=((q.it.id:Nat):Int):=by omega
     refine kI aB (by first|kernel_rfl|rfl) ?_
     simp only[List.size_toArray,List.length_cons,List.length_nil,Nat.reduceAdd,Nat.zero_add];refine hU 0 ?_;refine hU 1 ?_;refine hU 2 ?_;refine hU 3 ?_;co_applyP hT (i:=4) rfl (fun _ hu_=>run_eq_of ?u3_4) ?v3_4
     case u3_4=>intro K_ hK_;(have hc:=(Ext.twin hu_).cell ca0);go_simp;(try rw[wI _]);(try rw[wU _]);exact hK_
     simp only[sS,sN];refine hU 5 ?_;co_applyP hT (i:=6) rfl (fun _ hu_=>run_eq_of ?u5_6) ?v5_6
     case u5_6=>intro K_ hK_;(have hc:=(Ext.twin hu_).cell cA0);go_simp;(try rw[wI _]);(try rw[wU _]);exact hK_
     simp only[sS,sN];refine hC (i:=7) rfl Tryz.func37 rfl (vs:=#[.int .i64 a.c]) (by simp[Act.eval]) (lV a.c ha.lo ha.hi) ?_;simp only[sS,sN];refine hU 8 ?_;refine hU 9 ?_;refine hU 10 ?_;refine hU 11 ?_;refine hU 12 ?_;refine hD ?_;repeat refine rN ?_
     refine next _ _ _ ⟨rfl,rfl,?_,by simp[g0],by simp[g4],by simp[g7],by simp[g8],by simp[g9]⟩
     simp[hge]
    .have hgeI:¬((aQ a.c:Nat):Int)<=((q.it.id:Nat):Int):=by omega
     refine kI aB (by first|kernel_rfl|rfl) ?_
     simp only[List.size_toArray,List.length_cons,List.length_nil,Nat.reduceAdd,Nat.zero_add];refine hU 0 ?_;refine hU 1 ?_;refine hU 2 ?_;refine hU 3 ?_;co_applyP hT (i:=4) rfl (fun _ hu_=>run_eq_of ?u9_4) ?v9_4
     case u9_4=>intro K_ hK_;(have hc:=(Ext.twin hu_).cell ca0);go_simp;(try rw[wI _]);(try rw[wU _]);exact hK_
     simp only[sS,sN];refine hU 5 ?_;co_applyP hT (i:=6) rfl (fun _ hu_=>run_eq_of ?u11_6) ?v11_6
     case u11_6=>intro K_ hK_;(have hc:=(Ext.twin hu_).cell cA0);go_simp;(try rw[wI _]);(try rw[wU _]);exact hK_
     simp only[sS,sN];refine hC (i:=7) rfl Tryz.func37 rfl (vs:=#[.int .i64 a.c]) (by simp[Act.eval]) (lV a.c ha.lo ha.hi) ?_;simp only[sS,sN];refine hU 8 ?_;refine hU 9 ?_;refine hV 10 ?_;refine hV 11 ?_;refine hU 12 ?_;refine hD ?_;repeat refine rN ?_
     refine next _ _ _ ⟨rfl,rfl,?_,by simp[g0],by simp[g4],by simp[g7],by simp[g8],by simp[g9]⟩
     simp[hge]
   .clear g0 g4 g7 g8 g9 f;rintro f S' w' ⟨eS,eW,g33,g0,g4,g7,g8,g9⟩;subst S' w';have HQT:Hid (aQ a.c=a.it.id):=aJ rfl;repeat refine rN ?_
    refine Al (fun f' S' w'=>∃ ov' Qo' inn',S'=S∧Ext w1 w'∧ItsQ N w1.heap.size w' ov' Qo'∧Qo'.length<=2*j+1∧Hid (Qo'.map (·.it)++sP a.it inn' q.it (T.drop (j+1))=bH a.it a.gone T)∧f' 0=.slice (some ⟨ga,0,none⟩) Q.length cv∧f' 4=.pointer (some ⟨bx,0,none⟩)∧f' 7=ov'∧f' 8=.bool inn'∧f' 9=.int .i64 (j:Nat)) ?_ ?_
    .intro next
     cases hnew:(decide (aQ a.c<=q.it.id)&&!dA) with
     |false=>
      rw[hnew]at g33;refine rZ (by simp[Act.eval,g33]) ?_;refine Cz ?_;refine next _ _ _ ⟨ov,Qo,dA,rfl,hEw,hQo,by omega,aJ ?_,g0,g4,g7,g8,g9⟩
      rw[<-HR.out,if_neg];rintro⟨h1,rfl⟩;have:decide (aQ a.c<=q.it.id)=true:=decide_eq_true (by rw[HQT.out];exact h1);rw[this]at hnew;cases hnew
     |true=>
      rw[hnew]at g33;rw[Bool.and_eq_true,decide_eq_true_iff]at hnew;refine rX (by simp[Act.eval,g33]) ?_;repeat refine rN ?_
      refine Wm N w1.heap.size bx a ov Qo hNb hEw.size (ha.kp (eF N v) (bF (hE1.trans _ _ _ hEw))) (hEw.row hb1) hQo (by omega) (by simp[g4]) (by simp[g7]) fun w2 f' y hG2 hQ2 q7 hq=>?_
      have q0:=hq 0 (by omega);have q4:=hq 4 (by omega);have q9:=hq 9 (by omega);rw[g0]at q0;rw[g4]at q4;rw[g9]at q9;have hE2:Ext w1 w2:=Gr.over hEw hG2 fun b hb=>(kM hQo.own hb).1
      clear hq;refine rE ?_;refine rR ?_;simp only[tO,Nat.reduceAdd];refine rY aB ?_;refine rE ?_;refine next _ _ _ ⟨y,_,true,rfl,hE2,hQ2,by rw[List.length_append];simp;omega,aJ ?_,by simp[q0],by simp[q4],by simp[q7],by simp,by simp[q9]⟩
      obtain⟨h1,h2⟩:=hnew;have h2':dA=false:=by cases dA with|true=>cases h2|false=>rfl
      rw[<-HR.out,if_pos ⟨by rw[<-HQT.out];exact h1,h2'⟩,List.map_append,List.append_assoc];rfl
    .clear g0 g4 g7 g8 g9 g33 f HR hQo hQl ca0 ca1 cA0 cA1 cA2 hqs hEw;rintro f S' w' ⟨ov,Qo,dA,eS,hEw,hQo,hQl,HR,g0,g4,g7,g8,g9⟩;subst S';have hqs:=(hQ.sl q (List.mem_of_getElem? hq)).kp (eF N v) (bF (hE1.trans _ _ _ hEw));obtain⟨ga',ca',ea,la,ca0,ca1⟩:=(hQ.kp (eF N v) (bF (hE1.trans _ _ _ hEw))).get hq;cases ea
     obtain⟨cA0,cA1,cA2⟩:=cA hEw;repeat refine rN ?_
     by_cases hne:q.it.id=aQ a.c
     .have HR2:Hid (Qo.map (·.it)++bH a.it dA (T.drop (j+1))=bH a.it a.gone T):=aJ (by
       rw[<-HR.out];unfold sP
       rw[if_pos (hne.trans HQT.out)])
      rw[hne]at ca0;clear hne HR HQT;refine kI aB (by first|kernel_rfl|rfl) ?_
      simp only[List.size_toArray,List.length_cons,List.length_nil,Nat.reduceAdd,Nat.zero_add];refine hU 0 ?_;refine hU 1 ?_;refine hU 2 ?_;refine hU 3 ?_;co_applyP hT (i:=4) rfl (fun _ hu_=>run_eq_of ?u17_4) ?v17_4
      case u17_4=>intro K_ hK_;(have hc:=(Ext.twin hu_).cell ca0);go_simp;(try rw[wI _]);(try rw[wU _]);exact hK_
      simp only[sS,sN];refine hU 5 ?_;co_applyP hT (i:=6) rfl (fun _ hu_=>run_eq_of ?u19_6) ?v19_6
      case u19_6=>intro K_ hK_;(have hc:=(Ext.twin hu_).cell cA0);go_simp;(try rw[wI _]);(try rw[wU _]);exact hK_
      simp only[sS,sN];refine hC (i:=7) rfl Tryz.func37 rfl (vs:=#[.int .i64 a.c]) (by simp[Act.eval]) (lV a.c ha.lo ha.hi) ?_;simp only[sS,sN];refine hU 8 ?_;refine hD ?_;repeat refine rN ?_
      refine rZ (by simp[Act.eval]) ?_;repeat refine rN ?_
      refine nxt _ _ _ (Q.length - (j+1)) (by omega) ⟨j+1,ov,Qo,dA,rfl,by omega,rfl,hEw,hQo,by omega,HR2,by simp[g0],by simp[g4],by simp[g7],by simp[g8],by simp⟩
     .have HR2:Hid ((Qo++[q]).map (·.it)++bH a.it dA (T.drop (j+1))=bH a.it a.gone T):=aJ (by
       rw[<-HR.out];unfold sP;rw[if_neg (fun e=>hne (e.trans HQT.out.symm)),List.map_append,List.append_assoc]
       rfl)
      have hneI:¬((q.it.id:Nat):Int)=((aQ a.c:Nat):Int):=by omega
      clear HR HQT;refine kI aB (by first|kernel_rfl|rfl) ?_
      simp only[List.size_toArray,List.length_cons,List.length_nil,Nat.reduceAdd,Nat.zero_add];refine hU 0 ?_;refine hU 1 ?_;refine hU 2 ?_;refine hU 3 ?_;co_applyP hT (i:=4) rfl (fun _ hu_=>run_eq_of ?u23_4) ?v23_4
      case u23_4=>intro K_ hK_;(have hc:=(Ext.twin hu_).cell ca0);go_simp;(try rw[wI _]);(try rw[wU _]);exact hK_
      simp only[sS,sN];refine hU 5 ?_;co_applyP hT (i:=6) rfl (fun _ hu_=>run_eq_of ?u25_6) ?v25_6
      case u25_6=>intro K_ hK_;(have hc:=(Ext.twin hu_).cell cA0);go_simp;(try rw[wI _]);(try rw[wU _]);exact hK_
      simp only[sS,sN];refine hC (i:=7) rfl Tryz.func37 rfl (vs:=#[.int .i64 a.c]) (by simp[Act.eval]) (lV a.c ha.lo ha.hi) ?_;simp only[sS,sN];refine hU 8 ?_;refine hD ?_;repeat refine rN ?_
      refine rX (by simp[Act.eval,hneI,hne]) ?_;repeat refine rN ?_
      refine bV aB rfl rfl (by kernel_rfl) (fun u hu=>Qw (b:=ga) (off:=j*2) (x:=.tmp 56) rfl (by simp) ((Ext.twin hu).cell ca0) ((Ext.twin hu).cell ca1)) ?_;simp only[stO_some];refine bJ (Q:=fun x w3=>x=.slice (some ⟨w'.heap.size,0,none⟩) 1 1∧Ext w' w3∧w3.heap[w'.heap.size]?=some (.cells #[.int .i64 (q.it.id:Nat),.slice q.p q.it.size q.cap] 65)) aB rfl rfl (by kernel_rfl) (fun u hu=>⟨_,_,.inl (qA (x:=.tmp 57) (y:=.int .i64 (q.it.id:Nat)) (z:=.slice q.p q.it.size q.cap) rfl (by simp)),by rw[hu.heap],(Ext.twin hu).trans _ _ _ (Ext.alloc _ _),by rw[<-hu.heap];exact cF _ _⟩) ?_
      rintro _ w3 ⟨rfl,hE3,hr3⟩;simp only[stO_some];have hQ3:=hQo.kp (eF N w') (bF hE3);refine bJ aB rfl rfl (by kernel_rfl) (fun u hu=>tG (s:=.tmp 53) (x:=.tmp 58) (ad:=⟨w'.heap.size,0,none⟩) (m:=1) (c:=1) (news:=[.int .i64 (q.it.id:Nat),.slice q.p q.it.size q.cap]) hu w1.heap.size hQ3.own rfl (uG hr3) (fun y hy=>by rcases List.mem_cons.1 hy with rfl|hy;rfl;rw[List.mem_singleton.1 hy];rfl) (by omega) (Nat.le_trans hEw.size hE3.size) rfl (by simp[g7]) (by simp)) ?_;rintro ov' w4 ⟨ho4,hg4,_⟩;simp only[stO_some];have hQ4:ItsQ N w1.heap.size w4 ov' (Qo++[q]):=hQo.push hNb hqs hE3 ho4 hg4;have hE4:Ext w1 w4:=Gr.over (hEw.trans _ _ _ hE3) hg4 fun b hb=>(kM hQ3.own hb).1
      repeat refine rN ?_
      refine nxt _ _ _ (Q.length - (j+1)) (by omega) ⟨j+1,ov',Qo++[q],dA,rfl,by omega,rfl,hE4,hQ4,by rw[List.length_append];simp;omega,HR2,by simp[g0],by simp[g4],by simp,by simp[g8],by simp⟩
  .obtain rfl:j=Q.length:=by omega
   refine rZ (by simp[Act.eval,g9,g0]) ?_;refine bB rfl ?_;have hR:=HR.out;rw[List.drop_eq_nil_of_le (by rw[HLn.out];exact Nat.le_refl _)]at hR;cases hinn:dA with
   |true=>
    rw[hinn]at g8 hR;repeat refine rN ?_
    refine rZ (by simp[Act.eval]) ?_;repeat refine rN ?_
    refine aO fun todo=>?_
    refine ret _ _ S w ov ?_ ⟨rfl,hE1.trans _ _ _ hEw,bO.lower ⟨Qo,?_,hQo⟩ hNb⟩
    .simp[results,Tryz.results19,g7]
    .rw[<-hR];simp[bH]
   |false=>
    rw[hinn]at g8 hR;repeat refine rN ?_
    refine rX (by simp[Act.eval]) ?_;repeat refine rN ?_
    refine Tp N w1.heap.size bx a ov Qo hNb hEw.size (ha.kp (eF N v) (bF (hE1.trans _ _ _ hEw))) (hEw.row hb1) hQo (by omega) (by simp[g4]) (by simp[g7]) fun w2 f' y hG2 hQ2 q7 hq=>?_
    have hE2:Ext w1 w2:=Gr.over hEw hG2 fun b hb=>(kM hQo.own hb).1
    clear hq;repeat refine rN ?_
    refine aO fun todo=>?_
    refine ret _ _ S w2 y ?_ ⟨rfl,hE1.trans _ _ _ hE2,bO.lower ⟨_,?_,hQ2⟩ hNb⟩
    .simp[results,Tryz.results19,q7]
    .rw[<-hR,List.map_append];simp[bH]
 .rw[if_neg he]at ret;have heI:¬(err:Int)=0:=by omega
  repeat refine rN ?_
  refine rX (by simp[Act.eval,heI,he]) ?_;repeat refine rN ?_
  refine aO fun todo=>?_
  refine ret _ _ S w1 (.slice pv Q.length cv) ?_ ⟨rfl,hE1,bO.kp0 ⟨Q,hQT,hQ⟩ (bF hE1)⟩;simp[results,Tryz.results19,g0]
end
