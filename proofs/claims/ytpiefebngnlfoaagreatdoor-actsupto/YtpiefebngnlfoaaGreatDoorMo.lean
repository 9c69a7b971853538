import Derived.Test.YtpiefebngnlfoaaGreatDoorMm
set_option maxRecDepth 99999
set_option maxHeartbeats 0
set_option linter.unusedVariables false
set_option linter.unusedSimpArgs false
namespace Go.Proofs.YtpiefebngnlfoaaGreatDoor
open Go.RowKit Go.Conc Go.Vw
def cJ(s:ByteArray)(i:Nat):Nat:=(s.data[i]?.getD 0).toNat
theorem Ie(s:ByteArray)(i:Nat):cJ s i<256:=(s.data[i]?.getD 0).toNat_lt
theorem yT{s:ByteArray}{i:Nat}(h:s.size<=i):cJ s i=0:=by unfold cJ;rw[af (show s.data.size<=i from h)];rfl
theorem Mq{s:ByteArray}{a i:Nat}(ha:a<=s.size):cJ (s.extract a s.size) i=cJ s (a+i):=by
 unfold cJ;rw[ByteArray.data_extract,Array.getElem?_extract];have e:s.data.size=s.size:=rfl;by_cases h:i<s.size-a
 .rw[ai (by omega)]
 .rw[ah (by omega),af (by omega)]
def jF(w:World)(B n:Nat)(T:Nat->ByteArray):Prop:=∀j,j<n->w.cell? ⟨B,j,none⟩=some (.string (T j))
theorem jF.ext{w w':World}{B n:Nat}{T:Nat->ByteArray}(h:jF w B n T)(hE:Ext w w'):jF w' B n T:=λj hj=>hE.cell (h j hj)
structure TextsOk(n nb:Nat)(T:Nat->ByteArray):Prop where
 len:∀j,j<n->(T j).size=0∨(T j).size=nb*96
 some:∃j,j<n∧(T j).size=nb*96
theorem yR{z:Nat->Nat}{N:Nat} : ∀n,(∀j,j<n->z j=0∨z j=N)->okZ z n=true∧(eT z n=0∨eT z n=N)∧((∃j,j<n∧z j=N)->eT z n=N)
 |0,_=>⟨rfl,.inl rfl,λ⟨j,hj,_⟩=>absurd hj (by omega)⟩
 |n+1,h=>by
  obtain⟨h1,h2,h3⟩:=yR n λj hj=>h j (by omega)
  have hn:=h n (by omega);rw[xI];unfold okZ;refine⟨?_,?_,?_⟩
  .rw[h1];simp;omega
  .split<;>omega
  .rintro⟨j,hj,hz⟩;by_cases e:j=n
   .subst e;split<;>omega
   .have:=h3 ⟨j,by omega,hz⟩;split<;>omega
theorem Wh{s:ByteArray}(h:s.size=0):s=ByteArray.mk #[]:=by
 cases s with
 |mk d=>have:d.size=0:=h;rw[Array.eq_empty_of_size_eq_zero this]
theorem Rj{S:Nat->Prop}{v:World}(B n c nb:Nat)(T:Nat->ByteArray)(hn:n<2^62)(eu:nb<=64)(hO:TextsOk n nb T)(hT:jF v B n T):aJ Tryz.prog 51 #[.slice (some ⟨B,0,none⟩) n c] S v λx S' v'=>x=.tuple #[.int .i64 ((nb*96:Nat):Int),.bool true]∧S'=S∧v'=v:=by
 obtain⟨z,hz⟩:∃z:Nat->Nat,z=λj=>(T j).size:=⟨_,rfl⟩;have UU:∀j,z j=(T j).size:=λj=>by rw[hz]
 have fa:=yR (z:=z) (N:=nb*96) n λj hj=>by rw[UU];exact hO.len j hj
 have ij:eT z n=nb*96:=fa.2.2 (let ⟨j,h1,h2⟩:=hO.some;⟨j,h1,by rw[UU];exact h2⟩);have HF:=aP ij;clear fa ij hz;refine dX Tryz.func51 rfl Tryz.ntmps51 λStop cc cs ret f g0=>?_
 repeat refine rN ?_
 refine bF (λd f' S' w=>∃j,d=n-j∧j<=n∧S'=S∧w=v∧f' 7=.slice (some ⟨B,0,none⟩) n c∧f' 8=.int .i64 (n:Nat)∧f' 9=.int .i64 (j:Nat)∧f' 4=.int .i64 ((eT z j:Nat):Int)) n ⟨0,by omega,by omega,rfl,rfl,by simp[g0],by simp[g0],by simp,by simp[eT]⟩ ?_;clear g0 f;rintro d f S' w ⟨j,rfl,hj,eS,eW,g7,g8,g9,g4⟩ dj;subst S' w;repeat refine rN ?_
 by_cases dp:j<n
 .have ja:(j:Int)<(n:Int):=by omega
  have hs:=hT j dp;have hlen:=hO.len j dp;have hf:=(yR (z:=z) (N:=nb*96) j λi hi=>by rw[UU];exact hO.len i (by omega)).2.1;have AQ:=UU j;generalize KB:T j=s at hs hlen AQ;clear KB;refine rX (by simp[Act.eval,g9,g8,ja,dp]) ?_;by_cases XB:s.size=0
  .have xr:=Wh XB;subst xr;repeat refine rM hs ?_
   refine rX (by simp[Act.eval]) ?_;refine bC rfl ?_;repeat refine rN ?_
   have n2:eT z (j+1)=eT z j:=by
    rw[xI];split
    .rfl
    .omega
   refine dj _ _ _ (n-(j+1)) (by omega) ⟨j+1,rfl,by omega,rfl,rfl,by simp[g7],by simp[g8],by simp,by simp[g4,n2]⟩
  .have xr:¬s.toList=[]:=Pi (by omega);have n2:eT z (j+1)=s.size:=by
    rw[xI];split<;>omega
   have M_:=aP n2;have HZ:=aP AQ;by_cases VM:eT z j=0
   .rw[VM]at g4;clear n2 AQ hf hlen XB;repeat refine rM hs ?_
    refine rZ (by simp[Act.eval,xr]) ?_;repeat refine rN ?_
    refine rZ (by simp[Act.eval]) ?_;repeat refine rN ?_
    refine dj _ _ _ (n-(j+1)) (by omega) ⟨j+1,rfl,by omega,rfl,rfl,by simp[g7],by simp[g8],by simp,by simp[M_.out]⟩
   .have hfI:¬((eT z j:Nat):Int)=0:=by omega
    have heI:((s.size:Nat):Int)=((eT z j:Nat):Int):=by omega
    have H7:s.size=eT z j:=by omega
    clear n2 AQ hf hlen XB;repeat refine rM hs ?_
    refine rZ (by simp[Act.eval,xr]) ?_;repeat refine rN ?_
    refine rZ (by simp[Act.eval,hfI,VM,heI,H7]) ?_;repeat refine rN ?_
    refine dj _ _ _ (n-(j+1)) (by omega) ⟨j+1,rfl,by omega,rfl,rfl,by simp[g7],by simp[g8],by simp,by simp[M_.out,H7]⟩
 .obtain rfl:j=n:=by omega
  refine rZ (by simp[Act.eval,g9,g8]) ?_;refine bC rfl ?_;repeat refine rN ?_
  refine aM λtodo=>?_;refine ret _ _ _ _ (.tuple #[.int .i64 ((eT z j:Nat):Int),.bool true]) ?_ ⟨by rw[HF.out],rfl,rfl⟩;simp[results,Tryz.results51]
def oU(y:Nat->Nat)(off k:Nat)(x:ByteArray)(i:Nat):Nat:=if off<=i∧i<off+k then cJ x (i-off) else y i
theorem Mx{x:ByteArray}{k:Nat}(hk:k<=x.size):(x.data.toList.take k).map (λb=>Value.int .u8 (b.toNat:Int))=(List.range k).map λj=>Value.int .u8 ((cJ x j:Nat):Int):=by
 apply List.ext_getElem?;intro i;have e:x.data.size=x.size:=rfl;rw[bu,bu,List.getElem?_take];by_cases h:i<k
 .rw[ai h,List.getElem?_range h,bd];have hx:=bf (xs:=x.data) (i:=i) (by omega);rw[hx];simp only[bt,cJ];rw[hx];rfl
 .rw[ah h,List.getElem?_eq_none (by simp;omega)];rfl
theorem Ly{S:Nat->Prop}{v:World}{Stop:Goroutine->(Nat->Prop)->World->Prop}{fn:FuncId}{cs:List Frame}{k:List Item}{n:Nat}{f:Nat->Value}{ops:Array Oper}{i:Nat}{rest:List Nat}{dst:Option Tmp}{op:Op}{ty:TypeId}{pos:String}{dw:Array Edge}{dv:Option (Nat×Bool)}
  (ho:ops[i]?=some ⟨dst,op,ty,pos,dw,dv⟩) (hw:Region.wanted ⟨dst,op,ty,pos,dw,dv⟩ (yielded ops (TA n f))=true) (dx:bW Tryz.prog FG ⟨dst,op,ty,pos,dw,dv⟩=true) {d s:Operand} {g off cp N:Nat} {y:Nat->Nat} {x:ByteArray}
  (dm:op=Op.call {callee:=Callee.builtin Builtin.copy,args:=#[d,s],argTypes:=#[43,9]}) (hd:(⟨TA n f,[]⟩:Act).eval d=.slice (some ⟨g,off,none⟩) 96 cp) (hs:(⟨TA n f,[]⟩:Act).eval s=.string x) (du:v.heap[g]?=some (.cells (aE N y) 137)) (DU:off+96<=N)
  (hn:∀v',Wr v g (.cells (aE N (oU y off (min x.size 96) x)) 137) v'->Vw.Reach Tryz.prog Stop (G ((base fn).at ⟨TA n (aG f dst (goInt ((min x.size 96:Nat):Int))),[]⟩ (.inRegion ops rest::k)) cs) S v') :
  Vw.Reach Tryz.prog Stop (G ((base fn).at ⟨TA n f,[]⟩ (.inRegion ops (i::rest)::k)) cs) S v:=by
 obtain⟨q,hq⟩:∃q,q=min x.size 96:=⟨_,rfl⟩;rw[<-hq]at hn;have OD:((aE N y).toList.take off++(List.range q).map (λj=>Value.int .u8 ((cJ x j:Nat):Int))++(aE N y).toList.drop (off+q)).toArray=aE N (oU y off q x):=nS N off q (cJ x) y (by omega);refine kE aB ho hw dx (x:=goInt ((q:Nat):Int)) (λu hu=>⟨_,lZ hu g (aE N (oU y off q x)),.inl ?_⟩) (hn _ (jP du));obtain⟨ib,zb,qd,qu,rr,xa,va⟩:=oR
 have ei:=run_storeCells_at (P:=Tryz.prog) g off 137 ((List.range q).map λj=>Value.int .u8 ((cJ x j:Nat):Int)) 0 (aE N y) u ((Ext.twin hu).row du) (by rw[bz,List.length_range,eB];omega) (by
  intro z hz;obtain⟨j,_,rfl⟩:=List.mem_map.1 hz
  rfl)
 rw[bz,List.length_range,Nat.add_zero,OD]at ei;have dq:(Builtin.copy_ #[43,9] ty #[.slice (some ⟨g,off,none⟩) 96 cp,.string x]).run Tryz.prog u=.ok (goInt ((q:Nat):Int)) (u.setRow g (aE N (oU y off q x))):=by have F_:Nat.min x.size 96=q:=hq.symm;have ZA:min x.size 96=q:=hq.symm;have ml:=Mx (x:=x) (k:=q) (by omega);simp[Builtin.copy_,cw Tryz.underlying43,Builtin.lenOf,sizeOf,typeInfo,qd,rr,Builtin.firstCells,F_,ZA];rw[<-ml]at ei;simp only[List.map_take]at ei;rw[ei];rfl
 generalize (Act.eval ⟨TA n f,[]⟩)=ρ at hd hs⊢;unfold execOp;simp[dm,hd,hs,resolve,invoke,builtin,dq]
structure AllG(v:World)(DB n j nb:Nat)(RB:Nat->Nat)(T:Nat->ByteArray)(w:World):Prop where
 ext:Ext v w
 new:v.heap.size<=DB
 row:w.heap[DB]?=some (.cells (gV n j nb RB) 116)
 blk:∀i,i<j->DB<RB i∧w.heap[RB i]?=some (.cells (aE (nb*96) (cJ (T i))) 137)
 inj:∀i i',i<j->i'<j->RB i=RB i'->i=i'
theorem AllG.step{v w w1 w2 w3:World}{DB n j nb:Nat}{RB:Nat->Nat}{T:Nat->ByteArray}(h:AllG v DB n j nb RB T w)(hj:j<n)(hE:Ext w w1)(hW:Wr w1 DB (.cells ((gV n j nb RB).setIfInBounds j (.slice (some ⟨w.heap.size,0,none⟩) nb nb)) 116) w2)(ep:Ext v w2->Ext v w3)(h3:∀b,b≠w.heap.size->w3.heap[b]?=w2.heap[b]?)(hg:w3.heap[w.heap.size]?=some (.cells (aE (nb*96) (cJ (T j))) 137)):AllG v DB n (j+1) nb (λi=>if i=j then w.heap.size else RB i) T w3:=by
 have dp:DB<w.heap.size:=(Array.getElem?_eq_some_iff.1 h.row).1;rw[xD hj]at hW;have DG:∀i,i<j->RB i<w.heap.size:=λi hi=>(Array.getElem?_eq_some_iff.1 (h.blk i hi).2).1;refine⟨ep (mL (h.ext.trans _ _ _ hE) h.new hW),h.new,(h3 _ (by omega)).trans hW.at_,λi hi=>?_,λi i' hi ft e=>?_⟩
 rotate_left
 .by_cases e1:i=j
  .by_cases e2:i'=j
   .rw[e1,e2]
   .simp only[e1,e2,if_true,if_false]at e;have:=DG i' (by omega);omega
  .by_cases e2:i'=j
   .simp only[e1,e2,if_true,if_false]at e;have:=DG i (by omega);omega
   .simp only[e1,e2,if_false]at e;exact h.inj i i' (by omega) (by omega) e
 by_cases e:i=j
 .subst e;simp only[if_true];exact⟨dp,hg⟩
 .simp only[e,if_false];obtain⟨h1,h2⟩:=h.blk i (by omega);have h4:=DG i (by omega);exact⟨h1,(h3 _ (by omega)).trans ((hW.other _ (by omega)).trans (hE.row h2))⟩
def lQ(s:ByteArray)(q i:Nat):Nat:=if i<q then cJ s i else 0
theorem Sr{s:ByteArray}{N:Nat}(h:s.size<=N):lQ s N=cJ s:=by
 funext i;unfold lQ;split
 .rfl
 .exact(yT (by omega)).symm
theorem Sq{s:ByteArray}{p q:Nat}(hs:s.size=0∨(p+1)*96<=s.size)(hq:q=min (p*96) s.size):oU (lQ s (p*96)) (p*96) (min (s.extract q s.size).size 96) (s.extract q s.size)=lQ s ((p+1)*96):=by
 have fo:(s.extract q s.size).size=s.size-q:=by rw[ByteArray.size_extract];omega
 funext i;unfold oU lQ;rw[fo];rcases hs with hs|hs
 .have h0:∀i,cJ s i=0:=λi=>yT (by omega);rw[ah (by omega)];simp only[h0];simp
 .obtain rfl:q=p*96:=by omega
  rw[Mq (by omega)];by_cases h1:p*96<=i∧i<p*96+min (s.size-p*96) 96
  .rw[ai h1,ai (by omega),show p*96+(i-p*96)=i by omega]
  .rw[ah h1];by_cases h2:i<p*96
   .rw[ai h2,ai (by omega)]
   .rw[ah h2,ah (by omega)]
theorem Av{S:Nat->Prop}{v:World}(B n c nb:Nat)(T:Nat->ByteArray)(hn:n<=18)(EZ:n≠0)(eu:nb<=64)(kl:4<=nb)(hO:TextsOk n nb T)(hT:jF v B n T):aJ Tryz.prog 52 #[.slice (some ⟨B,0,none⟩) n c,.int .i64 (nb:Nat)] S v λx S' v'=>S'=S∧∃DB RB,x=.slice (some ⟨DB,0,none⟩) n n∧AllG v DB n n nb RB T v':=by
 refine cX Tryz.func52 rfl Tryz.ntmps52 λStop cc cs ret f g0 g1=>?_
 repeat refine rN ?_
 refine nU aB rfl rfl (by kernel_rfl) rfl (m:=n) (wd:=24) (z:=.slice none 0 0) (by simp[g0]) (by simp[g0]) (by omega) (by omega) EZ Tryz.underlying112 (by kernel_rfl) rfl λw1 eh sb jg=>?_;simp only[stO_some];have NM:AllG v v.heap.size n 0 nb (λ_=>0) T w1:=⟨eh,ae _,by rw[sb];congr 2,λi hi=>by omega,λi i' hi=>by omega⟩
 repeat refine rN ?_
 refine bF (λd f' S' w=>∃j RB,d=n-j∧j<=n∧S'=S∧AllG v v.heap.size n j nb RB T w∧f' 1=.int .i64 (nb:Nat)∧f' 5=.slice (some ⟨v.heap.size,0,none⟩) n n∧f' 13=.slice (some ⟨B,0,none⟩) n c∧f' 14=.int .i64 (n:Nat)∧f' 15=.int .i64 (j:Nat)) n ⟨0,_,by omega,by omega,rfl,NM,by simp[g1],by simp,by simp[g0],by simp[g0],by simp⟩ ?_;clear g0 g1 f NM;rintro d f S' w ⟨j,RB,rfl,hj,eS,hA,g1,g5,g13,g14,g15⟩ dj;subst S';repeat refine rN ?_
 by_cases dp:j<n
 .have ja:(j:Int)<(n:Int):=by omega
  have hs:=hT.ext hA.ext j dp;have hlen:=hO.len j dp;obtain⟨s,KB⟩:∃s,s=T j:=⟨_,rfl⟩;rw[<-KB]at hs hlen;have HTs:=aP KB;clear KB;refine rX (by simp[Act.eval,g15,g14,ja,dp]) ?_;repeat refine rM hs ?_
  refine aN (Q:=λy w1=>y=.slice (some ⟨w.heap.size,0,none⟩) nb nb∧Ext w w1∧w1.heap[w.heap.size]?=some (.cells (eF (nb*96)) 137)) aB rfl rfl (by kernel_rfl) (λu hu=>⟨_,_,.inl (Pw (l:=.tmp 22) (c:=.tmp 22) nb eu (by omega) rfl (by simp) (by simp) u),by rw[hu.heap],(Ext.twin hu).trans _ _ _ (Ext.alloc _ _),by rw[<-hu.heap];exact bI _ _⟩) ?_;rintro _ w2 ⟨rfl,ep,xy⟩;simp only[stO_some];repeat refine rN ?_
  refine dQ aB rfl rfl (by kernel_rfl) (x:=.tmp 24) (y:=.tmp 23) (g:=v.heap.size) (j:=j) (z:=.slice (some ⟨w.heap.size,0,none⟩) nb nb) rfl (by simp) (by simp) rfl rfl (ep.row hA.row) (by rw[Ns];omega) (by kernel_rfl) λw3 hW=>?_;simp only[stO_none];have X5:v.heap.size<w.heap.size:=(Array.getElem?_eq_some_iff.1 hA.row).1;have AA:w3.cell? ⟨v.heap.size,j,none⟩=some (.slice (some ⟨w.heap.size,0,none⟩) nb nb):=by rw[ab _ _ _ _ _ _ hW.at_,xD dp,oE dp];simp
  have xc:w3.heap[w.heap.size]?=some (.cells (aE (nb*96) (lQ s (0*96))) 137):=by rw[hW.other _ (by omega),xy,vL];rfl
  repeat refine rM AA ?_
  refine bF (λd f' S' w'=>∃p,d=nb-p∧p<=nb∧S'=S∧(Ext v w3->Ext v w')∧(∀b,b≠w.heap.size->w'.heap[b]?=w3.heap[b]?)∧w'.heap[w.heap.size]?=some (.cells (aE (nb*96) (lQ s (p*96))) 137)∧f' 1=.int .i64 (nb:Nat)∧f' 5=.slice (some ⟨v.heap.size,0,none⟩) n n∧f' 13=.slice (some ⟨B,0,none⟩) n c∧f' 14=.int .i64 (n:Nat)∧f' 15=.int .i64 (j:Nat)∧f' 6=.int .i64 (j:Nat)∧f' 7=.string s∧f' 29=.int .i64 (nb:Nat)∧f' 30=.int .i64 (p:Nat)) nb ⟨0,by omega,by omega,rfl,λh=>h,λ_ _=>rfl,xc,by simp[g1],by simp[g5],by simp[g13],by simp[g14],by simp[g15],by simp,by simp,by simp,by simp⟩ ?_;clear g1 g5 g13 g14 g15 f;rintro d f S' w' ⟨p,rfl,hp,eS,AR,qa,ks,g1,g5,g13,g14,g15,g6,g7,UK,BH⟩ gj;subst S';repeat refine rN ?_
  by_cases ZD:p<nb
  .have LM:(p:Int)<(nb:Int):=by omega
   have b9:w'.cell? ⟨v.heap.size,j,none⟩=some (.slice (some ⟨w.heap.size,0,none⟩) nb nb):=by rw[ab _ _ _ _ _ _ ((qa _ (by omega)).trans hW.at_),xD dp,oE dp];simp
   have E5:s.size<=6144:=by omega
   have RR:((min (p*96) s.size:Nat):Int)<=((s.size:Nat):Int):=by omega
   have ej:=Sq (s:=s) (p:=p) (by omega) rfl;have M8:=aP ej;clear ej;refine rX (by simp[Act.eval,BH,UK,LM,ZD]) ?_;repeat refine rN ?_
   have RO:(if ((s.size:Nat):Int)<(p:Int)*96 then((s.size:Nat):Int) else(p:Int)*96)=((min (p*96) s.size:Nat):Int):=by split<;>omega
   first|rw[RO]|rw[show min ((p:Int)*96) ((s.size:Nat):Int)=((min (p*96) s.size:Nat):Int) by omega]
   have Z3:min (p*96) s.size<=s.size:=Nat.min_le_right _ _;generalize min (p*96) s.size=q at RR Z3 M8⊢;clear RO;refine iZ aB (by first|kernel_rfl|rfl) ?_
   simp only[bh,av,cf,Nat.reduceAdd,an];refine cU 0 ?_;refine cU 1 ?_;refine cU 2 ?_;co_applyP cT (i:=3) rfl (λ_ dt=>run_eq_of ?u3_3) ?v3_3
   case u3_3=>intro K_ dr;(have hc:=(Ext.twin dt).cell b9);go_simp;(try rw[wI _]);(try rw[wU _]);exact dr
   simp only[sS,sN];refine cU 4 ?_;refine cU 5 ?_;refine cU 6 ?_;refine cU 7 ?_;refine cU 8 ?_;refine cU 9 ?_;refine cL 10 ?_;refine Ly rfl rfl (by kernel_rfl) (d:=.tmp 44) (s:=.tmp 47) (g:=w.heap.size) (off:=p*96) (cp:=96) (N:=nb*96) (y:=lQ s (p*96)) (x:=s.extract q s.size) rfl (by simp) (by simp) ks (by omega) λw4 jd=>?_;simp only[stO_some];rw[M8.out]at jd;repeat refine rN ?_
   refine gj _ _ _ (nb-(p+1)) (by omega) ⟨p+1,rfl,by omega,rfl,λh=>mL (AR h) (by omega) jd,λb hb=>(jd.other b hb).trans (qa b hb),jd.at_,by simp[g1],by simp[g5],by simp[g13],by simp[g14],by simp[g15],by simp[g6],by simp[g7],by simp[UK],by simp⟩
  .obtain rfl:p=nb:=by omega
   refine rZ (by simp[Act.eval,BH,UK]) ?_;refine bC rfl ?_;repeat refine rN ?_
   refine dj _ _ _ (n-(j+1)) (by omega) ⟨j+1,_,rfl,by omega,rfl,hA.step dp ep hW AR qa ?_,by simp[g1],by simp[g5],by simp[g13],by simp[g14],by simp[g15]⟩;rw[ks,Sr (by omega),HTs.out]
 .obtain rfl:j=n:=by omega
  refine rZ (by simp[Act.eval,g15,g14]) ?_;refine bC rfl ?_;repeat refine rN ?_
  refine aM λtodo=>?_;refine ret _ _ S w (.slice (some ⟨v.heap.size,0,none⟩) j j) ?_ ⟨rfl,_,RB,rfl,hA⟩;simp[results,Tryz.results52]
def dA(T:Nat->ByteArray)(left:Nat):Dsk:=⟨λd p i=>cJ (T d) (p*96+i),λd p i=>cJ (T d) (p*96+i),left⟩
theorem Fs(s:ByteArray):dJ (λp i=>cJ s (p*96+i))=cJ s:=by funext i;show cJ s (i/96*96+i%96)=cJ s i;rw[show i/96*96+i%96=i by omega]
theorem Zo{S:Nat->Prop}{v:World}(B n c nb wr:Nat)(T:Nat->ByteArray)(hw:wr<=1099511627776)(jb:14<=n)(hn:n<=18)(kl:4<=nb)(eu:nb<=64)(hO:TextsOk n nb T)(hT:jF v B n T):aJ Tryz.prog 24 #[.slice (some ⟨B,0,none⟩) n c,.int .i64 (wr:Nat)] S v λx S' v'=>S'=S∧Ext v v'∧∃D DB DA RB RA,x=.tuple #[.pointer (some ⟨D,0,none⟩),.bool true]∧DiskG D DB DA RB RA n nb (dA T wr) v'∧v.heap.size<=D∧v.heap.size<=DB∧v.heap.size<=DA∧∀d,d<n->v.heap.size<=RB d∧v.heap.size<=RA d:=by
 refine cX Tryz.func24 rfl Tryz.ntmps24 λStop cc cs ret f g0 g1=>?_
 repeat refine rN ?_
 refine rK Tryz.func51 (Rj B n c nb T (by omega) eu hO hT) ?_;rintro _ S1 w1 _ ⟨rfl,e1,e2⟩;subst S1 w1;obtain⟨L,hL⟩:∃L,L=nb*96:=⟨_,rfl⟩;rw[<-hL];have hI:¬(n:Int)<14:=by omega
 have hJ:¬(18:Int)<(n:Int):=by omega
 have hK:(L:Int).tmod 96=0:=by rw[Int.tmod_eq_emod_of_nonneg (by omega)];omega
 have hM:¬(L:Int)/96<4:=by omega
 have J9:¬(64:Int)<(L:Int)/96:=by omega
 have hQ:(L:Int)/96=((nb:Nat):Int):=by omega
 have HQ:=aP hQ;clear hL hQ;repeat refine rN ?_
 refine rZ (by simp[Act.eval,hI,hJ]) ?_;repeat refine rN ?_
 refine rZ (by simp[Act.eval,hK,hM,J9]) ?_;simp only[HQ.out];clear hI hJ hK hM J9 HQ;repeat refine rN ?_
 refine rK Tryz.func52 (Av B n c nb T hn (by omega) eu kl hO hT) ?_;rintro _ S1 w1 _ ⟨e1,DB,RB,rfl,hA⟩;subst S1;repeat refine rN ?_
 refine rK Tryz.func52 (Av B n c nb T hn (by omega) eu kl hO (hT.ext hA.ext)) ?_;rintro _ S1 w2 _ ⟨e1,IJ,KP,rfl,FU⟩;subst S1;repeat refine rN ?_
 refine aN (Q:=λy w=>y=.pointer (some ⟨w2.heap.size,0,none⟩)∧Ext w2 w∧w.heap[w2.heap.size]?=some (.cells #[.slice (some ⟨DB,0,none⟩) n n,.slice (some ⟨IJ,0,none⟩) n n,.int .i64 (wr:Nat)] 115)) aB rfl rfl (by kernel_rfl) (λu hu=>⟨_,_,.inl (gR (x:=.tmp 48) (y:=.agg #[.slice (some ⟨DB,0,none⟩) n n,.slice (some ⟨IJ,0,none⟩) n n,.int .i64 (wr:Nat)]) rfl (by simp) u),by rw[hu.heap],(Ext.twin hu).trans _ _ _ (Ext.alloc _ _),by rw[<-hu.heap];exact bI _ _⟩) ?_;rintro _ w3 ⟨rfl,ef,km⟩;simp only[stO_some];repeat refine rN ?_
 have jg:=hA.ext.size;have pj:=FU.ext.size;have zv:=FU.new;have EZ:=hA.new;refine aM λtodo=>?_;refine ret _ _ S w3 (.tuple #[.pointer (some ⟨w2.heap.size,0,none⟩),.bool true]) ?_ ⟨rfl,hA.ext.trans _ _ _ (FU.ext.trans _ _ _ ef),_,DB,IJ,RB,KP,rfl,⟨km,hw,ef.row (FU.ext.row hA.row),ef.row FU.row,λd hd=>?_,λd hd=>?_,hA.inj,FU.inj,λd d' hd ji e=>?_,λd p i=>Ie _ _⟩,by omega,by omega,by omega,λd hd=>⟨?_,?_⟩⟩
 .simp[results,Tryz.results24]
 .rw[ef.row (FU.ext.row (hA.blk d hd).2)];show _=some (Obj.cells (aE (nb*96) (dJ λp i=>cJ (T d) (p*96+i))) _ _);rw[Fs]
 .rw[ef.row (FU.blk d hd).2];show _=some (Obj.cells (aE (nb*96) (dJ λp i=>cJ (T d) (p*96+i))) _ _);rw[Fs]
 .have h1:=(Array.getElem?_eq_some_iff.1 (hA.blk d hd).2).1;have h3:=(FU.blk d' ji).1;omega
 .have h2:=(hA.blk d hd).1;omega
 .have h2:=(FU.blk d hd).1;omega
theorem Gy{v w:World}{Y:Nat->Prop}(hK:Kp v Y w)(h:∀b,Y b->v.heap.size<=b):Kp v (λ_=>False) w:=
 ⟨hK.size,hK.os,hK.output,λb o hb hc ht=>hK.objs b o (λhy=>by
  have h1:=h b hy;have h2:=(Array.getElem?_eq_some_iff.1 hc).1
  omega) hc ht⟩
def kA(lf:Nat->Lb)(Gf:Nat->Nat->Bool):Nat->List Ent->Nat->Prop
 |0,L,t=>L=[]∧t=0
 |p+1,L',t'=>∃L t,kA lf Gf p L t∧Sv L t p (lf p) (Gf p) L' t'
theorem Up{L:List Ent}{e x:Ent}{clock:Nat}(h:x∈bS L e clock):x∈L∨∃b,x={e with born:=b}:=by
 unfold bS at h;cases hf:aQ e.id L 0 with
 |none=>
  rw[hf]at h;rcases List.mem_append.1 h with h|h
  .exact .inl h
  .exact .inr ⟨_,List.mem_singleton.1 h⟩
 |some q=>
  rw[hf]at h;rcases List.mem_or_eq_of_mem_set h with h|h
  .exact .inl h
  .exact .inr ⟨_,h⟩
theorem Sv.slot{L L':List Ent}{t t' p:Nat}{l:Lb}{G:Nat->Bool}(h:Sv L t p l G L' t'){e:Ent}(he:e∈L'):e∈L∨e.slot=p:=by
 unfold Sv at h;split at h
 .obtain⟨_,h⟩:=h;split at h
  .obtain⟨clock,_,rfl⟩:=h;rcases Up he with h|⟨b,rfl⟩
   .exact .inl h
   .exact .inr rfl
  .subst h;exact .inl he
 .rw[h.2]at he;exact .inl he
theorem kA.slot{lf:Nat->Lb}{Gf:Nat->Nat->Bool} : ∀{p:Nat}{L:List Ent}{t:Nat},kA lf Gf p L t->∀e∈L,e.slot<p
 |0,L,t,h,e,he=>by rw[h.1]at he;cases he
 |p+1,L',t',⟨L,t,h1,h2⟩,e,he=>by
  rcases h2.slot he with h|h
  .have:=h1.slot e h;omega
  .omega
section
variable {nd nb:Nat}{w w' v:World}{S:Nat->Prop}
theorem Fj(t:TypeId)(e:Value)(rv:v.cell? ⟨0,0,none⟩=some (.iface t e))(hg:Tryz.prog.globals.size<=v.heap.size)(B c wr:Nat)(T:Nat->ByteArray)(lf:Nat->Lb)(Gf:Nat->Nat->Bool)(hw:wr<=1099511627776)(kl:4<=nb)(jb:14<=nd)(gh:nd<=18)(eu:nb<=64)(hO:TextsOk nd nb T)(hT:jF v B nd T)(hS:∀p,p<nb->SlotK (dA T wr).c p (lf p) (Gf p)):aJ Tryz.prog 7 #[.slice (some ⟨B,0,none⟩) nd c,.int .i64 (wr:Nat)] S v λx S' v'=>Kp v (λ_=>False) v'∧∃X D DB DA M RB RA L turn,x=.tuple #[.pointer (some ⟨X,0,none⟩),.int .i64 0]∧kA lf Gf nb L turn∧StE X D DB DA M RB RA nd nb turn (eY (dA T wr) (fG L) nb) L v'∧∀b,dG X D M RB RA nd b->v.heap.size<=b:=by
 have h0:0<v.heap.size:=by
  cases h:v.heap[0]? with
  |none=>unfold World.cell? at rv;rw[show(⟨0,0,none⟩:Addr).block=0 from rfl,h]at rv;cases rv
  |some o=>exact(Array.getElem?_eq_some_iff.1 h).1
 refine cX Tryz.func7 rfl Tryz.ntmps7 λStop cc cs ret f g0 g1=>?_
 repeat refine rN ?_
 refine rK Tryz.func24 (Zo B nd c nb wr T hw jb gh kl eu hO hT) ?_;rintro _ S1 w1 _ ⟨e1,eh,D,DB,DA,RB,RA,rfl,hD,hDn,hDBn,hDAn,J5⟩;subst S1;repeat refine rN ?_
 refine rZ (by simp[Act.eval]) ?_;repeat refine rN ?_
 refine Bd rfl rfl rfl λw2 ep vv=>?_;simp only[stO_some];repeat refine rN ?_
 refine aN (Q:=λy w=>y=.pointer (some ⟨w2.heap.size,0,none⟩)∧Ext w2 w∧w.heap[w2.heap.size]?=some (.cells #[.pointer (some ⟨D,0,none⟩),.map (some w1.heap.size),.int .u64 0] 80)) aB rfl rfl (by kernel_rfl) (λu hu=>⟨_,_,.inl (gR (x:=.tmp 20) (y:=.agg #[.pointer (some ⟨D,0,none⟩),.map (some w1.heap.size),.int .u64 0]) rfl (by simp) u),by rw[hu.heap],(Ext.twin hu).trans _ _ _ (Ext.alloc _ _),by rw[<-hu.heap];exact bI _ _⟩) ?_;rintro _ w3 ⟨rfl,ef,km⟩;simp only[stO_some];have hX:StE w2.heap.size D DB DA w1.heap.size RB RA nd nb 0 (dA T wr) [] w3:=⟨km,⟨0,ef.row vv,λe he=>(by cases he)⟩,hD.ext (ep.trans _ _ _ ef),λe he=>(by cases he),by simp,by simp,by simp⟩;have o8:=eh.trans _ _ _ (ep.trans _ _ _ ef);have g_:v.heap.size<=w2.heap.size:=ak eh.size ep.size;have l6:v.heap.size<=w1.heap.size:=eh.size;generalize w2.heap.size=X at hX g_;generalize w1.heap.size=M at hX l6;clear km vv;have gm:∀b,dG X D M RB RA nd b->v.heap.size<=b:=by
  rintro b (rfl|rfl|rfl|⟨d,hd,rfl|rfl⟩)
  .exact g_
  .exact l6
  .exact hDn
  .exact(J5 d hd).1
  .exact(J5 d hd).2
 have KH:Kp v (λ_=>False) w3:=aS o8;have HS:kA lf Gf 0 [] 0:=⟨rfl,rfl⟩;repeat refine rN ?_
 refine rK Tryz.func25 (tD (by omega) hX.dk.old) ?_;rintro _ S1 w4 _ ⟨rfl,e1,e2⟩;subst S1 w4;repeat refine rN ?_
 refine bF (λd f' S' w=>∃j L turn,d=nb-j∧j<=nb∧Kp v (λ_=>False) w∧kA lf Gf j L turn∧StE X D DB DA M RB RA nd nb turn (dA T wr) L w∧f' 8=.pointer (some ⟨X,0,none⟩)∧f' 23=.int .i64 (nb:Nat)∧f' 24=.int .i64 (j:Nat)) nb ⟨0,[],0,by omega,by omega,KH,HS,hX,by simp,by simp,by simp⟩ ?_;clear g0 g1 f HS hX;rintro d f S' w ⟨j,L,turn,rfl,hj,hK,HS,hX,g8,g23,g24⟩ dj;repeat refine rN ?_
 by_cases dp:j<nb
 .have ja:(j:Int)<(nb:Int):=by omega
  have hk0:=hK.cell (λh=>h) rv;have ZH:Tryz.prog.globals.size<=w.heap.size:=ak hg hK.size;refine rX (by simp[Act.eval,g24,g23,ja,dp]) ?_;repeat refine rN ?_
  refine rK Tryz.func26 (Pm t e j (lf j) (Gf j) hk0 ZH dp jb gh eu (hS j dp) hX (λe he h=>by have:=HS.slot e he;omega)) ?_;rintro _ S1 w5 _ ⟨rfl,lz,L',ia,FN,AH⟩;repeat refine rN ?_
  refine dj _ _ _ (nb-(j+1)) (by omega) ⟨j+1,L',ia,rfl,by omega,?_,⟨L,turn,HS,FN⟩,AH,by simp[g8],by simp[g23],by simp⟩;refine Gy (Y:=uQ X M) ((hK.mono λ_ h=>h.elim).trans lz) ?_;rintro b (rfl|rfl)
  .exact g_
  .exact l6
 .obtain rfl:j=nb:=by omega
  refine rZ (by simp[Act.eval,g24,g23]) ?_;refine bC rfl ?_;repeat refine rN ?_
  refine rK Tryz.func27 (Tm kl jb gh eu hX) ?_;rintro _ S1 w5 _ ⟨rfl,e1,lz,AH⟩;repeat refine rN ?_
  refine aM λtodo=>?_;refine ret _ _ S1 w5 (.tuple #[.pointer (some ⟨X,0,none⟩),.int .i64 0]) ?_ ⟨Gy (Y:=dG X D M RB RA nd) ((hK.mono λ_ h=>h.elim).trans (lz.mono λb h=>.inr (.inr h))) gm,X,D,DB,DA,M,RB,RA,L,turn,rfl,HS,AH,gm⟩;simp[results,Tryz.results7]
end
def eD(nb:Nat)(x:Nat->Nat->Nat):ByteArray:=strOfNums ((List.range (nb*96)).map λi=>((dJ x i:Nat):Int))
theorem xR(nb:Nat)(x:Nat->Nat->Nat):(eD nb x).size=nb*96:=by
 have h:(eD nb x).data.toList.length=nb*96:=by unfold eD;rw[strOfNums_data];simp
 rw[Array.length_toList]at h;exact h
theorem Wy{nb:Nat}{x:Nat->Nat->Nat}(hx:∀p i,x p i<256){i:Nat}(hi:i<nb*96):cJ (eD nb x) i=dJ x i:=by unfold cJ eD;rw[<-bd,strOfNums_data];rw[List.map_map,bu,List.getElem?_range hi];have:=hx (i/96) (i%96);simp[dJ];omega
def iV(n:Nat)(x:Nat->Nat):List Value:=(List.range n).map λi=>.int .u8 ((x i:Nat):Int)
theorem mI(n:Nat)(x:Nat->Nat):(iV n x).length=n:=by simp[iV]
theorem oL{n i:Nat}{x:Nat->Nat}(h:i<n):(iV n x)[i]?=some (.int .u8 (x i:Nat)):=by simp[iV,h]
theorem Yl(p:Nat)(x:Nat->Nat->Nat):iV (p*96) (dJ x)++iV 96 (x p)=iV ((p+1)*96) (dJ x):=by
 apply List.ext_getElem?;intro i;by_cases h:i<p*96
 .rw[List.getElem?_append_left (by rw[mI];exact h),oL h,oL (by omega)]
 .rw[List.getElem?_append_right (by rw[mI];omega),mI];by_cases h2:i<(p+1)*96
  .rw[oL (by omega),oL h2];unfold dJ;rw[show i/96=p by omega,show i%96=i-p*96 by omega]
  .rw[List.getElem?_eq_none (by rw[mI];omega),List.getElem?_eq_none (by rw[mI];omega)]
theorem Ed:∃i,Tryz.prog.info? 5=some i∧i.zero=some (.int .u8 0)∧i.size=1∧i.bytes=1:=⟨_,rfl,rfl,rfl,rfl⟩
theorem Nj{o:Oper}{a:Act}{l c:Operand}{n:Nat}(hn:n<=10000)(EZ:n≠0)(dm:o.op=.makeSlice 43 l c)(hl:a.eval l=.int .i64 0)(hc:a.eval c=.int .i64 (n:Nat))(u:World):(execOp a.eval o).run Tryz.prog u=.ok (.value (.slice (some ⟨u.heap.size,0,none⟩) 0 n)) (u.alloc (.cells (eF n) 5)):=by
 obtain⟨inf,hq,h3,h1,h2⟩:=Ed;have w0:IntKind.i64.wrap 0=0:=rfl;have wl:IntKind.i64.wrap (n:Int)=(n:Int):=by rw[IntKind.wrap_i64];omega
 have n1:¬((n:Int)<0):=by omega
 have n2:¬((281474976710656:Int)<(n:Int)):=by omega
 have n3:¬(n > roomBytes):=by simp only[roomBytes];omega
 have hz:(Array.range n).map (λi=>(#[Value.int .u8 0])[i%1]!)=eF n:=by unfold eF;apply Array.map_congr_left;intro i _;rw[Nat.mod_one];rfl
 unfold execOp;simp[dm,hl,hc,Instr.makeSlice,cw Tryz.underlying43,asInt,asIntOf,typeInfo,hq,h1,h2,sizeOf,askRoom,newRow,w0,wl,n1,n2,n3,zeroValue,h3,Value.cells,EZ];have xl:(Array.range n).map (λx=>[Value.int IntKind.u8 0][x%1]?.getD default)=eF n:=by rw[<-hz];apply Array.map_congr_left;intro i _;rw[Nat.mod_one];rfl
 rw[xl]
section
variable {X D DB DA M:Nat}{RB RA:Nat->Nat}{nd nb turn:Nat}{s:Dsk}{L:List Ent}{w w' v:World}{S:Nat->Prop}
theorem Xa(kl:4<=nb)(jb:14<=nd)(gh:nd<=18)(eu:nb<=64)(hD:DiskG D DB DA RB RA nd nb s v):aJ Tryz.prog 44 #[.pointer (some ⟨D,0,none⟩)] S v λx S' v'=>S'=S∧Ext v v'∧∃g,x=.slice (some ⟨g,0,none⟩) nd nd∧v.heap.size<=g∧jF v' g nd (λd=>eD nb (s.a d))∧∃cur,v'.heap[g]?=some (.cells cur 9)∧cur.size=nd:=by
 obtain⟨ib,zb,qd,qu,rr,xa,va⟩:=oR;refine dX Tryz.func44 rfl Tryz.ntmps44 λStop cc cs ret f g0=>?_;have c1:=hD.actc;repeat refine rM c1 ?_
 refine nU aB rfl rfl (by kernel_rfl) rfl (m:=nd) (wd:=16) (z:=.string (ByteArray.mk #[])) (by simp) (by simp) (by omega) (by omega) (by omega) Tryz.underlying40 (by kernel_rfl) rfl λw1 eh sb jg=>?_;simp only[stO_some];have UN:=(hD.ext eh).actc;generalize H5:v.heap.size=g at *
 obtain⟨cur,ns,GH⟩:∃cur:Array Value,cur.size=nd∧w1.heap[g]?=some (.cells cur 9):=⟨_,by simp,sb⟩;clear sb;repeat refine rM UN ?_
 refine bF (λd f' S' w=>∃j cur,d=nd-j∧j<=nd∧S'=S∧Ext v w∧g<w.heap.size∧cur.size=nd∧w.heap[g]?=some (.cells cur 9)∧(∀i,i<j->cur[i]?=some (.string (eD nb (s.a i))))∧f' 3=.slice (some ⟨g,0,none⟩) nd nd∧f' 18=.slice (some ⟨DA,0,none⟩) nd nd∧f' 19=.int .i64 (nd:Nat)∧f' 20=.int .i64 (j:Nat)) nd ⟨0,cur,by omega,by omega,rfl,eh,by omega,ns,GH,λi hi=>(by omega),by simp,by simp,by simp,by simp⟩ ?_;clear g0 f ns GH cur;rintro d f S' w ⟨j,cur,rfl,hj,eS,fj,FD,ns,XZ,JP,g3,g18,g19,g20⟩ dj;subst S';repeat refine rN ?_
 by_cases dp:j<nd
 .have ja:(j:Int)<(nd:Int):=by omega
  have OW:=hD.ext fj;have cA:=OW.allA dp;refine rX (by simp[Act.eval,g20,g19,ja,dp]) ?_;repeat refine rM cA ?_
  have LS:(nb:Int)*96=((nb*96:Nat):Int):=by omega
  have hN:nb*96<=10000:=by omega
  have K2:nb*96≠0:=by omega
  generalize hNN:nb*96=N at LS hN K2;refine aN (Q:=λy w2=>y=.slice (some ⟨w.heap.size,0,none⟩) 0 N∧Ext w w2∧w2.heap[w.heap.size]?=some (.cells (eF N) 5)) aB rfl rfl (by kernel_rfl) (λu hu=>⟨_,_,.inl (Nj (l:=.const (.int .i64 0)) (c:=.tmp 27) (n:=N) hN K2 rfl rfl (by simp[LS]) u),by rw[hu.heap],(Ext.twin hu).trans _ _ _ (Ext.alloc _ _),by rw[<-hu.heap];exact bI _ _⟩) ?_;rintro _ w2 ⟨rfl,ep,pz⟩;simp only[stO_some];have CV:w2.ownsRow g 5 1 (.slice (some ⟨w.heap.size,0,none⟩) 0 N) (0*96) (iV (0*96) (dJ (s.a j))):=⟨rfl,.inr ⟨_,_,_,rfl,by omega,pz,by omega,by unfold maxLen;omega,by rw[rP];omega,by simp[iV]⟩⟩;repeat refine rN ?_
  refine bF (λd f' S' w'=>∃p sv,d=nb-p∧p<=nb∧S'=S∧Ext v w'∧g<w'.heap.size∧w'.heap[g]?=some (.cells cur 9)∧w'.ownsRow g 5 1 sv (p*96) (iV (p*96) (dJ (s.a j)))∧f' 6=sv∧f' 3=.slice (some ⟨g,0,none⟩) nd nd∧f' 18=.slice (some ⟨DA,0,none⟩) nd nd∧f' 19=.int .i64 (nd:Nat)∧f' 20=.int .i64 (j:Nat)∧f' 4=.int .i64 (j:Nat)∧f' 29=.slice (some ⟨RA j,0,none⟩) nb nb∧f' 30=.int .i64 (nb:Nat)∧f' 31=.int .i64 (p:Nat)) nb ⟨0,_,by omega,by omega,rfl,fj.trans _ _ _ ep,bg FD ep.size,ep.row XZ,CV,by simp,by simp[g3],by simp[g18],by simp[g19],by simp[g20],by simp,by simp,by simp,by simp⟩ ?_;clear g3 g18 g19 g20 f CV pz;rintro d f S' w3 ⟨p,sv,rfl,hp,eS,ef,xc,QR,CV,g6,g3,g18,g19,g20,g4,UK,BH,L9⟩ gj;subst S';repeat refine rN ?_
  by_cases ZD:p<nb
  .have LM:(p:Int)<(nb:Int):=by omega
   have YB:=(hD.ext ef).ra j dp;have hz:∀i,i<96->w3.cell? ⟨RA j,p*96+i,none⟩=some (.int .u8 (s.a j p i:Nat)):=λi hi=>by rw[ab _ _ _ _ _ _ YB,eE _ _ _ (by omega)];unfold dJ;rw[show(p*96+i)/96=p by omega,show(p*96+i)%96=i by omega]
   refine rX (by simp[Act.eval,L9,BH,LM,ZD]) ?_;repeat refine rN ?_
   refine bV aB rfl rfl (by kernel_rfl) (λu hu=>lX (x:=.tmp 33) (b:=RA j) (off:=p*96) (y:=s.a j p) rfl (by simp) λi hi=>(Ext.twin hu).cell (hz i hi)) ?_;simp only[stO_some];repeat refine rN ?_
   refine cD aB rfl rfl (by kernel_rfl) (.agg Tryz.zeroCells137) rfl (by kernel_rfl) λw4 gn AD AT=>?_;simp only[stO_some];rw[oZ]at AD;repeat refine rN ?_
   refine cS aB rfl rfl (by kernel_rfl) (x:=.tmp 8) (y:=.tmp 34) (g:=w3.heap.size) (c:=aE 96 (s.a j p)) rfl (by simp) (by simp) AD (by kernel_rfl) (by rw[eB];exact rP 96) wT λw5 jc=>?_;simp only[stO_none];have lh:Ext w3 w5:=mL gn (ae _) jc;have FK:=jc.at_;have gw:Gr w3 w5 none:=⟨lh.os,lh.output,lh.size,λk hk _=>lh.block k hk⟩;have LN:=mN CV gw (by simp);have QQ:=lh.row QR;have lg:∀i y,(iV 96 (s.a j p))[i]?=some y->w5.cell? ((⟨w3.heap.size,0,none⟩:Addr).add i)=some y:=λi y hy=>by
    have hi:i<96:=by have:=(List.getElem?_eq_some_iff.1 hy).1;rwa [mI]at this
    rw[oL hi]at hy;cases hy;rw[Addr.add_lit,ab _ _ _ _ _ _ FK,an];exact eE _ _ _ hi
   repeat refine rN ?_
   refine aN aB rfl rfl (by kernel_rfl) (λu hu=>mB (s:=.tmp 35) (x:=.tmp 36) (ad:=⟨w3.heap.size,0,none⟩) (m:=96) (c:=96) (news:=iV 96 (s.a j p)) hu g Tryz.underlying43 qd qu rr xa va LN (mI _ _) lg (λy hy=>by obtain⟨i,_,rfl⟩:=List.mem_map.1 hy;rfl) (by omega) (by omega) (by have:=lh.size;omega) rfl (by simp[g6]) (by simp)) ?_;rintro y w6 ⟨RE,n9,_⟩;simp only[stO_some];rw[Yl,show p*96+96=(p+1)*96 by omega]at RE;have ew:Ext v w6:=Gr.over (ef.trans _ _ _ lh) n9 λb hb=>by have:=jB LN hb;omega
   have XY:w6.heap[g]?=some (.cells cur 9):=n9.row QQ λe=>by obtain⟨c',ek⟩:=dL LN e.symm;rw[QQ]at ek;simp at ek
   repeat refine rN ?_
   refine gj _ _ _ (nb-(p+1)) (by omega) ⟨p+1,y,rfl,by omega,rfl,ew,by have:=lh.size;have:=n9.size;omega,XY,RE,by simp,by simp[g3],by simp[g18],by simp[g19],by simp[g20],by simp[g4],by simp[UK],by simp[BH],by simp⟩
  .obtain rfl:p=nb:=by omega
   refine rZ (by simp[Act.eval,L9,BH]) ?_;refine bC rfl ?_;repeat refine rN ?_
   obtain⟨gB,cap,cu,rfl,q2,q3,q4,q5,q6⟩:=lD CV (.inl (by omega))
   have kc:=λ(u:World)(hu:Vw.Twin w3 u)=>run_convert_bytes_arg (P:=Tryz.prog) u 43 5 Tryz.underlying43 Tryz.underlying5 gB 0 (p*96) cap ((List.range (p*96)).map λi=>((dJ (s.a j) i:Nat):Int)) (by simp) (λi hi=>(by
    rw[(Ext.twin hu).cell (x:=.int .u8 ((dJ (s.a j) i:Nat):Int)) (by rw[ab _ _ _ _ _ _ q3,an,q6 i hi,oL hi])]
    simp[List.getD,hi])) 9 Tryz.underlying9
   refine bV aB rfl rfl (by kernel_rfl) (x:=.string (eD p (s.a j))) (λu hu=>?_) ?_
   .unfold execOp;simp only[df];simp[g6,kc u hu,Act.eval];rfl
   simp only[stO_some];repeat refine rN ?_
   refine dQ aB rfl rfl (by kernel_rfl) (x:=.tmp 43) (y:=.tmp 42) (g:=g) (j:=j) (z:=.string (eD p (s.a j))) rfl (by simp) (by simp) rfl rfl QR (by omega) (by kernel_rfl) λw4 hW=>?_;simp only[stO_none];repeat refine rN ?_
   refine dj _ _ _ (nd-(j+1)) (by omega) ⟨j+1,_,rfl,by omega,rfl,mL ef (by omega) hW,by rw[hW.size];exact xc,by simp[ns],hW.at_,λi hi=>?_,by simp[g3],by simp[g18],by simp[g19],by simp[g20]⟩;rw[aj];by_cases e:j=i
   .subst e;rw[ai rfl,ai (by omega)]
   .rw[ah e];exact JP i (by omega)
 .obtain rfl:j=nd:=by omega
  refine rZ (by simp[Act.eval,g20,g19]) ?_;refine bC rfl ?_;repeat refine rN ?_
  refine aM λtodo=>?_;refine ret _ _ S w (.slice (some ⟨g,0,none⟩) j j) ?_ ⟨rfl,fj,g,rfl,by omega,λi hi=>?_,_,XZ,ns⟩
  .simp[results,Tryz.results44]
  .rw[ab _ _ _ _ _ _ XZ];exact JP i hi
theorem Vs(kl:4<=nb)(jb:14<=nd)(gh:nd<=18)(eu:nb<=64)(hX:StE X D DB DA M RB RA nd nb turn s L v):aJ Tryz.prog 16 #[.pointer (some ⟨X,0,none⟩)] S v λx S' v'=>S'=S∧Ext v v'∧∃g,x=.slice (some ⟨g,0,none⟩) nd nd∧v.heap.size<=g∧jF v' g nd (λd=>eD nb (s.a d))∧∃cur,v'.heap[g]?=some (.cells cur 9)∧cur.size=nd:=by
 refine dX Tryz.func16 rfl Tryz.ntmps16 λStop cc cs ret f g0=>?_;have c0:=hX.c0;repeat refine rM c0 ?_
 refine rK Tryz.func44 (Xa kl jb gh eu hX.dk) ?_;rintro _ S1 w1 _ ⟨e1,eh,g,rfl,hg,hT⟩;subst S1;repeat refine rN ?_
 refine aM λtodo=>?_;refine ret _ _ S w1 (.slice (some ⟨g,0,none⟩) nd nd) ?_ ⟨rfl,eh,g,rfl,hg,hT⟩;simp[results,Tryz.results16]
end
