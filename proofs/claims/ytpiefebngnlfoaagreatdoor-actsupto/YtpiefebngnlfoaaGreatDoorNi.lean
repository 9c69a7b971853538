import Derived.Test.YtpiefebngnlfoaaGreatDoorNh
set_option maxRecDepth 99999
set_option maxHeartbeats 0
set_option linter.unusedVariables false
set_option linter.unusedSimpArgs false
namespace Go.Proofs.YtpiefebngnlfoaaGreatDoor
open Go.RowKit Go.Conc Go.Vw
theorem Fb{α : Type}(key:α->Nat):∀{A B:List α},A.Pairwise (λa b=>key a<key b)->B.Pairwise (λa b=>key a<key b)->(∀x,x∈A↔x∈B)->A=B
 |[],[],_,_,_=>rfl
 |[],y::B,_,_,h=>absurd ((h y).2 (bw ..)) (by simp)
 |x::A,[],_,_,h=>absurd ((h x).1 (bw ..)) (by simp)
 |x::A,y::B,hA,hB,h=>by
  have h1:=List.pairwise_cons.1 hA;have h2:=List.pairwise_cons.1 hB;have e:x=y:=by
   rcases List.mem_cons.1 ((h x).1 (bw ..)) with q|q
   .exact q
   .rcases List.mem_cons.1 ((h y).2 (bw ..)) with q'|q'
    .exact q'.symm
    .have:=h2.1 x q;have:=h1.1 y q';omega
  subst e;rw[Fb key h1.2 h2.2 λz=>⟨λhz=>?_,λhz=>?_⟩]
  .rcases List.mem_cons.1 ((h z).1 (List.mem_cons_of_mem _ hz)) with q|q
   .subst q;exact absurd (h1.1 z hz) (by omega)
   .exact q
  .rcases List.mem_cons.1 ((h z).2 (List.mem_cons_of_mem _ hz)) with q|q
   .subst q;exact absurd (h2.1 z hz) (by omega)
   .exact q
theorem Tells.list{L:List Ent}{n:Nat}{h:Nat->Hl}(H:Tells L n h):((List.range n).map h).Pairwise (λa b=>a.id<b.id)∧∀x,x∈(List.range n).map h↔∃e∈L,cM e=x:=by
 refine⟨?_,λx=>⟨λhx=>?_,?_⟩⟩
 .rw[List.pairwise_map];refine List.Pairwise.imp_of_mem ?_ (List.pairwise_lt_range (n:=n));intro a b ha hb dp;exact H.sort a b dp (List.mem_range.1 hb)
 .obtain⟨i,hi,rfl⟩:=List.mem_map.1 hx;obtain⟨e,he,q⟩:=H.yes i (List.mem_range.1 hi);exact⟨e,he,q.symm⟩
 .rintro⟨e,he,rfl⟩;obtain⟨i,hi,q⟩:=H.all e he;exact List.mem_map.2 ⟨i,List.mem_range.2 hi,q⟩
theorem yC{g:Nat->Bool} : ∀{n:Nat},(∀k,k<n->g k=true)->aT g n=n
 |0,_=>rfl
 |n+1,h=>by rw[En,yC λk hk=>h k (by omega),ai (h n (by omega))]
theorem Ho.tells{N n m k:Nat}{x:Sx}{T:List It}{w:World}{h:Nat->Hl}(H:Ho N n m x T w)(hT:Tells x.L k h):k=T.length∧∀i t,T[i]?=some t->h i=⟨t.id,t.size,0⟩:=by
 obtain⟨a1,a2⟩:=hT.list;have hb:∀e∈x.L,cM e=⟨e.id,e.size,0⟩:=λe he=>by unfold cM;rw[yC (H.sound e he)]
 have b1:(T.map λt=>(⟨t.id,t.size,0⟩:Hl)).Pairwise (λa b=>a.id<b.id):=by rw[List.pairwise_map];exact H.rep.srt
 have e:=Fb (λx:Hl=>x.id) a1 b1 λz=>(a2 z).trans ⟨?_,?_⟩
 .have hl:k=T.length:=by
   have:=congrArg List.length e;simpa using this
  refine⟨hl,λi t ht=>?_⟩;have hi:i<k:=by rw[hl];exact(List.getElem?_eq_some_iff.1 ht).1
  have:=congrArg (λl=>l[i]?) e;simpa [hi,ht] using this
 .rintro⟨e,he,rfl⟩;rw[hb e he];exact List.mem_map.2 ⟨fR e,(H.rep.mem _).2 ⟨e,he,rfl⟩,rfl⟩
 .intro hz;obtain⟨t,ht,rfl⟩:=List.mem_map.1 hz;obtain⟨e,he,rfl⟩:=(H.rep.mem t).1 ht;exact⟨e,he,hb e he⟩
theorem Xp{S:Nat->Prop}{v:World}{f:Nat->Value}{Stop:Goroutine->(Nat->Prop)->World->Prop}{cs:List Frame}{k0:List Item}(W bl cl ga ca gl n k i:Nat)(h:Nat->Hl)(p:Option Addr)(cp:Nat)(hk:k<2)(hi:i<n)(hn:n<=21)(ml:2<=cl)(f0:f 0=.pointer (some ⟨W,0,none⟩))(f1:f 1=.int .i64 (k:Nat))(f5:f 5=.slice (some ⟨gl,0,none⟩) n n)(f6:f 6=.int .i64 (i:Nat))
  (du:v.heap[gl]?=some (.cells (hA n h) 94)) (lc:v.cell? ⟨W,2,none⟩=some (.slice (some ⟨bl,0,none⟩) 2 cl)) (lk:v.cell? ⟨bl,k,none⟩=some (.slice (some ⟨ga,0,none⟩) n ca)) (c0:v.cell? ⟨ga,i*2,none⟩=some (.int .i64 ((h i).id:Nat))) (c1:v.cell? ⟨ga,i*2+1,none⟩=some (.slice p (h i).size cp)) (hb:(h i).bad=0)
  (next:∀f':Nat->Value,f' 0=f 0->f' 1=f 1->f' 5=f 5->f' 6=f 6->f' 60=.bool false->Vw.Reach Tryz.prog Stop (G ((base 13).at ⟨TA 66 f',[]⟩ (.inRegion ((bM 7 (Tryz.f13.body.getD .skip)).getD #[]) []::k0)) cs) S v) :
  Vw.Reach Tryz.prog Stop (G ((base 13).at ⟨TA 66 f,[]⟩ (.code (.region 7 ((bM 7 (Tryz.f13.body.getD .skip)).getD #[]) true)::k0)) cs) S v:=by
 have ll:(k:Int)<2:=by omega
 have pd:(i:Int)<(n:Int):=by omega
 have e:bM 7 (Tryz.f13.body.getD .skip)=some _:=rfl;rw[e]at next⊢
 simp only[ao]at next⊢
 clear e;refine oA aB (by first|kernel_rfl|rfl) ?_
 simp only[bh,av,cf,Nat.reduceAdd,an];refine rU 0 ?_;refine rU 1 ?_;refine rU 2 ?_
 refine rT (i:=3) (x:=.agg #[.int .i64 ((h i).id:Nat),.int .i64 ((h i).size:Nat),.int .i64 0]) rfl (λu hu=>by
  rw[show(#[.int .i64 ((h i).id:Nat),.int .i64 ((h i).size:Nat),.int .i64 0]:Array Value)=bR (h i) by simp[bR,hb]]
  exact Dp (j:=i) (x:=.tmp 34) rfl (by simp) ((Ext.twin hu).row du) hi) ?_
 simp only[sS,sN];refine rU 4 ?_;refine rU 5 ?_;refine rU 6 ?_;co_applyP rT (i:=7) rfl (λ_ dt=>run_eq_of ?u3) ?v3
 case u3=>intro K_ dr;(have hc:=(Ext.twin dt).cell lc);go_simp;(try rw[wI _]);(try rw[wU _]);exact dr
 simp only[sS,sN];refine rU 8 ?_;refine rU 9 ?_;co_applyP rT (i:=10) rfl (λ_ dt=>run_eq_of ?u5) ?v5
 case u5=>intro K_ dr;(have hc:=(Ext.twin dt).cell lk);go_simp;(try rw[wI _]);(try rw[wU _]);exact dr
 simp only[sS,sN];refine rU 11 ?_;refine rU 12 ?_;refine rU 13 ?_;co_applyP rT (i:=14) rfl (λ_ dt=>run_eq_of ?u7) ?v7
 case u7=>intro K_ dr;(have hc:=(Ext.twin dt).cell c0);go_simp;(try rw[wI _]);(try rw[wU _]);exact dr
 simp only[sS,sN];refine rU 15 ?_;refine rU 16 ?_;refine rU 17 ?_;co_applyP rT (i:=18) rfl (λ_ dt=>run_eq_of ?u9) ?v9
 case u9=>intro K_ dr;(have hc:=(Ext.twin dt).cell lc);go_simp;(try rw[wI _]);(try rw[wU _]);exact dr
 simp only[sS,sN];refine rU 19 ?_;refine rU 20 ?_;co_applyP rT (i:=21) rfl (λ_ dt=>run_eq_of ?u11) ?v11
 case u11=>intro K_ dr;(have hc:=(Ext.twin dt).cell lk);go_simp;(try rw[wI _]);(try rw[wU _]);exact dr
 simp only[sS,sN];refine rU 22 ?_;refine rU 23 ?_;refine rU 24 ?_;co_applyP rT (i:=25) rfl (λ_ dt=>run_eq_of ?u13) ?v13
 case u13=>intro K_ dr;(have hc:=(Ext.twin dt).cell c1);go_simp;(try rw[wI _]);(try rw[wU _]);exact dr
 simp only[sS,sN];refine rU 26 ?_;refine rU 27 ?_;refine rU 28 ?_;refine oH (by first|kernel_rfl|decide +kernel) ?_ _
 exact next _ (by simp) (by simp) (by simp) (by simp) (by simp)
section
variable {N W n m q k:Nat}{x:Nat->Sx}{T:Nat->List It}{g:Wv}{v w w':World}{S:Nat->Prop}
theorem Gv(h:Wd N W n m q x T g v)(hk:k<2)(hq:q<1099511627776):aJ Tryz.prog 13 #[.pointer (some ⟨W,0,none⟩),.int .i64 (k:Nat)] S v λy S' v'=>y=.bool true∧∃g',Wd N W n m (q+1) x T g' v'∧Fr N v v':=by
 refine cX Tryz.func13 rfl Tryz.ntmps13 λStop cc cs ret f g0 g1=>?_;have hH:=h.st k hk;have FM:=hH.tl;obtain⟨bs,AO,es,ns,sc,sk⟩:=h.mem.sC;have sk:=sk k hk;obtain⟨bl,cl,_,el,ml,lc,_,_,lk⟩:=h.mem.lC;have lk:=lk k hk;have ll:(k:Int)<2:=by omega
 repeat refine rM sc ?_
 repeat refine rM sk ?_
 refine rK Tryz.func39 (Gw (by have:=hH.tlen;omega) hH.st) ?_;rintro _ S1 w1 _ ⟨e1,n',gl,hh,rfl,zj⟩;subst S1;obtain⟨zv,XQ⟩:=hH.tells (zj.tells hH.st.ids);have qn:=zj.kp;have nh:=h.mem.kp0 qn;have AP:=qn.cell (λh=>h) lc;have wz:=qn.cell (λh=>h) lk;obtain⟨Q,qq,hQ⟩:=nh.k k hk;obtain⟨pv,cv,tg⟩:=hQ.form;have yj:Q.length=n':=by rw[zv,<-qq,bz]
 rw[yj]at tg;rw[tg]at wz;have du:=zj.row;have sd:=zj.new;have YX:n'<=21:=by omega
 have HT:=aP XQ;have HQ:=aP qq;have HL:=aP yj;have HN:=aP zv;have HS:=aP tg;clear XQ qq yj zv tg zj;repeat refine rM AP ?_
 repeat refine rM wz ?_
 refine rZ (by simp[Act.eval]) ?_;repeat refine rN ?_
 refine bF (λd f' S' w=>∃j,d=n'-j∧j<=n'∧S'=S∧w=w1∧f' 0=.pointer (some ⟨W,0,none⟩)∧f' 1=.int .i64 (k:Nat)∧f' 5=.slice (some ⟨gl,0,none⟩) n' n'∧f' 6=.int .i64 (j:Nat)) n' ⟨0,by omega,by omega,rfl,rfl,by simp[g0],by simp[g1],by simp,by simp⟩ ?_;clear g0 g1 f;rintro d f S' w ⟨j,rfl,hj,eS,eW,g0,g1,g5,g6⟩ dj;subst S' w;repeat refine rN ?_
 by_cases dp:j<n'
 .have ja:(j:Int)<(n':Int):=by omega
  obtain⟨q0,CS⟩:∃q0,Q[j]?=some q0:=⟨_,List.getElem?_eq_getElem (by rw[HL.out];exact dp)⟩;obtain⟨ga,ca,ea,la,zk,EO⟩:=hQ.get CS;have VB:=HT.out j q0.it (by rw[<-HQ.out,bu,CS];rfl);have e1:(hh j).id=q0.it.id:=by rw[VB]
  have e2:(hh j).size=q0.it.size:=by rw[VB]
  have e3:(hh j).bad=0:=by rw[VB]
  rw[<-e1]at zk;rw[<-e2]at EO;have tg:=HS.out;rw[ea]at tg;simp only[Value.slice.injEq]at tg;obtain⟨rfl,_,rfl⟩:=tg;refine rX (by simp[Act.eval,ja,dp]) ?_;repeat refine rN ?_
  refine Xp W bl cl ga ca gl n' k j hh q0.p q0.cap hk dp YX ml (by simp[g0]) (by simp[g1]) (by simp[g5]) (by simp[g6]) du AP wz zk EO e3 λf' a0 a1 a5 a6 a60=>?_;have q6:f' 6=.int .i64 (j:Nat):=by rw[a6];simp[g6]
  clear VB e1 e2 e3;repeat refine rN ?_
  refine rZ (by simp[Act.eval,a60]) ?_;repeat refine rN ?_
  refine dj _ _ _ (n'-(j+1)) (by omega) ⟨j+1,rfl,by omega,rfl,rfl,by simp[a0,g0],by simp[a1,g1],by simp[a5,g5],by simp⟩
 .obtain rfl:j=n':=by omega
  refine rZ (by simp[Act.eval,g6,g5]) ?_;refine bC rfl ?_;repeat refine rN ?_
  refine dV Tryz.func40 (Ol N W j g (some ⟨gl,0,none⟩) h.mem qn (by omega) (by have:=h.cnt.2.1;omega) (.inr ⟨gl,_,rfl,sd,du,fT _ _⟩)) ?_;rintro _ S2 w2 _ ⟨rfl,e1,v1,vv,iu⟩;subst S2;obtain⟨hd,pw⟩:=h.noted vv iu (by have:=h.cnt;simp;omega);try simp only[stO_some]
  repeat refine rN ?_
  refine aM λtodo=>?_;refine ret _ _ S w2 (.bool true) ?_ ⟨rfl,_,hd,pw⟩;simp[results,Tryz.results13]
end
