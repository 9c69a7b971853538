import Derived.Test.YtpiefebngnlfoaaGreatDoorLq
set_option maxRecDepth 99999
set_option maxHeartbeats 0
set_option linter.unusedVariables false
set_option linter.unusedSimpArgs false
namespace Go.Proofs.YtpiefebngnlfoaaGreatDoor
open Go.RowKit Go.Conc Go.Vw
theorem vR{S:Nat->Prop}{v:World}(m:Nat)(hm:m<=400):aJ Tryz.prog 75 #[.int .i64 (m:Nat)] S v λx S' v'=>x=.int .i64 (((m+9)/10:Nat):Int)∧S'=S∧v'=v:=by
 refine dX Tryz.func75 rfl Tryz.ntmps75 λStop cc cs ret f h0=>?_
 repeat refine rN ?_
 refine aM λtodo=>?_;refine ret _ _ _ _ (.int .i64 (((m+9)/10:Nat):Int)) ?_ ⟨rfl,rfl,rfl⟩;simp[results,Tryz.results75];rw[Int.tdiv_eq_ediv_of_nonneg (by omega),Ij _ (by omega) (by omega)];omega
def dN(val:Nat->Nat)(len m k i:Nat):Nat:=if k*m+i<len then val (k*m+i) else 0
theorem Cz{n:Nat}{x:Nat->Nat} : ∀y∈(aE n x).toList,y.oneCell'=true:=by intro y hy;simp[aE]at hy;obtain⟨j,_,rfl⟩:=hy;rfl
theorem nS(n o m:Nat)(x y:Nat->Nat)(h:o+m<=n):((aE n y).toList.take o++(List.range m).map (λj=>Value.int .u8 ((x j:Nat):Int))++(aE n y).toList.drop (o+m)).toArray=aE n λi=>if o<=i∧i<o+m then x (i-o) else y i:=by
 apply au;intro c;simp only[List.getElem?_toArray,List.append_assoc];by_cases h1:c<o
 .rw[List.getElem?_append_left (by simp[aE];omega)];have hc:c<n:=by omega
  simp[aE,h1,hc,show ¬o<=c by omega]
 .rw[List.getElem?_append_right (by simp[aE];omega)];have e:((aE n y).toList.take o).length=o:=by simp[aE];omega
  rw[e];by_cases h2:c<o+m
  .rw[List.getElem?_append_left (by simp;omega)];have hc:c<n:=by omega
   have h3:c-o<m:=by omega
   simp[aE,hc,h3,show o<=c by omega,h2]
  .rw[List.getElem?_append_right (by simp;omega)];simp only[bz,List.length_range,List.getElem?_drop];rw[show o+m+(c-o-m)=c by omega];by_cases hc:c<n
   .simp[aE,hc,h2]
   .simp[aE,hc]
structure Rowed(v:World)(m:Nat)(x:Nat->Nat)(v':World):Prop where
 ext:Ext v v'
 row:v'.heap[v.heap.size]?=some (.cells (aE m x) 5)
 size:v'.heap.size=v.heap.size+1
theorem Yw{v v1 v2:World}{o:Obj}(hE:Ext v v1)(hs:v1.heap.size=v.heap.size+1)(hW:Wr v1 v.heap.size o v2):Ext v v2∧v2.heap[v.heap.size]?=some o∧v2.heap.size=v.heap.size+1:=
 ⟨⟨by have:=hW.size;omega,λb hb=>(hW.other b (by omega)).trans (hE.block b hb),hW.os.trans hE.os,hW.output.trans hE.output⟩,hW.at_,hW.size.trans hs⟩
theorem P2{S:Nat->Prop}{v:World}(m k len cap B off:Nat)(val:Nat->Nat)(hk:k<10)(hm:m<=400)(hl:len<=400)(hc:len<=cap)(hB:dD v B off len val):aJ Tryz.prog 76 #[.slice (some ⟨B,off,none⟩) len cap,.int .i64 (k:Nat),.int .i64 (m:Nat)] S v λx S' v'=>x=sl v.heap.size m∧S'=S∧Rowed v m (dN val len m k) v':=by
 refine jR Tryz.func76 rfl Tryz.ntmps76 λStop cc cs ret f h0 h1 h2=>?_;have PD:((k*m:Nat):Int)=(k:Int)*(m:Int):=Int.natCast_mul k m;have OM:(k:Int)*(m:Int)<=4000:=by have h:k*m<=10*400:=Nat.mul_le_mul (by omega) hm;omega
 have SA:(0:Int)<=(k:Int)*(m:Int):=by omega
 obtain⟨a,ha⟩:∃a:Nat,a=min (k*m) len:=⟨_,rfl⟩;obtain⟨b,hb⟩:∃b:Nat,b=min (a+m) len:=⟨_,rfl⟩;have e1:(if (len:Int)<(k:Int)*(m:Int) then(len:Int) else(k:Int)*(m:Int))=(a:Int):=by split<;>omega
 have e2:(if (len:Int)<(a:Int)+(m:Int) then(len:Int) else(a:Int)+(m:Int))=(b:Int):=by split<;>omega
 have HE:Hid (((k*m:Nat):Int)=(k:Int)*(m:Int)):=PD;have yg:(a:Int)<=(b:Int):=by omega
 have I6:(b:Int)<=(cap:Int):=by omega
 have hbm:b-a<=m:=by omega
 have du:∀i,i<m->(if 0<=i∧i<0+(b-a) then val (a+(i-0)) else 0)=dN val len m k i:=by
  intro i hi;unfold dN;by_cases h:i<b-a
  .have e:a=k*m:=by omega
   rw[ai ⟨by omega,by omega⟩,ai (by omega),e,Nat.sub_zero]
  .rw[ah (by omega),ah (by omega)]
 have LA:∀j,j<b-a->v.cell? ⟨B,off+a+j,none⟩=some (.int .u8 (val (a+j):Nat)):=λj hj=>by have:=hB (a+j) (by omega);rwa [<-Nat.add_assoc]at this
 clear PD ha hb;repeat refine rN ?_
 refine nO aB rfl rfl (by kernel_rfl) rfl (m:=m) (by simp[h2]) (by simp[h2]) (by omega) (by kernel_rfl) Tryz.underlying43 λv1 hE hr hs=>?_;simp only[stO_some];repeat refine rN ?_
 obtain⟨o2,EY,pj⟩:∃o2,(if cap=a then some (⟨B,off,none⟩:Addr) else some ⟨B,off+a,none⟩)=some ⟨B,o2,none⟩∧∀j,j<b - a->v.cell? ⟨B,o2+j,none⟩=some (.int .u8 (val (a+j):Nat)):=by
  by_cases e:cap=a
  .exact⟨off,by rw[ai e],λj hj=>by omega⟩
  .exact⟨off+a,by rw[ah e],LA⟩
 rw[EY];rw[nV]at hr;refine sJ aB rfl rfl (by kernel_rfl) rfl (d:=.tmp 24) (s:=.tmp 28) (g:=v.heap.size) (o':=0) (dLen:=m) (dCap:=m) (b:=B) (off:=o2) (sLen:=b-a) (sCap:=cap-a) (cells:=(List.range (b-a)).map λj=>Value.int .u8 ((val (a+j):Nat):Int)) (by simp) (by simp) Tryz.underlying43 (by kernel_rfl) hr (by simp[Nat.min_eq_left hbm]) (λj y hy=>?_) (by rw[eB];simp;omega) kX λv2 hW=>?_
 .obtain⟨hj,rfl⟩:=oC hy;exact hE.cell (pj j hj)
 .simp only[bz,List.length_range,stO_some]at hW⊢;rw[nS m 0 (b-a) (λj=>val (a+j)) (λ_=>0) (by omega),gP du]at hW;obtain⟨q1,q2,q3⟩:=Yw hE hs hW;repeat refine rN ?_
  refine aM λtodo=>?_;refine ret _ _ _ _ _ ?_ ⟨rfl,rfl,q1,q2,q3⟩;simp[results,Tryz.results76,h0]
theorem Ug{S:Nat->Prop}{v:World}(m k:Nat)(val:Nat->Nat)(hk:k<10)(hm:m<=400):aJ Tryz.prog 76 #[.slice none 0 0,.int .i64 (k:Nat),.int .i64 (m:Nat)] S v λx S' v'=>x=sl v.heap.size m∧S'=S∧Rowed v m (dN val 0 m k) v':=by
 refine jR Tryz.func76 rfl Tryz.ntmps76 λStop cc cs ret f h0 h1 h2=>?_;have PD:((k*m:Nat):Int)=(k:Int)*(m:Int):=Int.natCast_mul k m;have OM:(k:Int)*(m:Int)<=4000:=by have h:k*m<=10*400:=Nat.mul_le_mul (by omega) hm;omega
 have SA:(0:Int)<=(k:Int)*(m:Int):=by omega
 have e1:(if (0:Int)<(k:Int)*(m:Int) then(0:Int) else(k:Int)*(m:Int))=0:=by split<;>omega
 have e2:(if 0<m then(0:Int) else(m:Int))=0:=by split<;>omega
 clear PD;repeat refine rN ?_
 refine nO aB rfl rfl (by kernel_rfl) rfl (m:=m) (by simp[h2]) (by simp[h2]) (by omega) (by kernel_rfl) Tryz.underlying43 λv1 hE hr hs=>?_;simp only[stO_some];repeat refine rN ?_
 refine aM λtodo=>?_;refine ret _ _ _ _ _ ?_ ⟨rfl,rfl,hE,?_,hs⟩
 .simp[results,Tryz.results76,h0]
 .rw[hr,nV,gP (g:=dN val 0 m k) λi hi=>by simp[dN]]
end Go.Proofs.YtpiefebngnlfoaaGreatDoor
namespace Go.Vw
open Go.Conc
theorem Kp.cell{v v':World}{X:Nat->Prop}(h:Kp v X v'){b o:Nat}{y:Value}(hb:¬X b)(hc:v.cell? ⟨b,o,none⟩=some y):v'.cell? ⟨b,o,none⟩=some y:=by
 unfold World.cell? at hc;split at hc
 .rename_i c t fr hr;have:=h.cells b c t fr hb hr;simp only[World.cell?,this];exact hc
 .cases hc
end Go.Vw
namespace Go.Proofs.YtpiefebngnlfoaaGreatDoor
open Go.RowKit Go.Conc Go.Vw
def kM(v:World)(p:Option Addr)(len cap:Nat)(x:Nat->Nat):Prop:=(p=none∧len=0∧cap=0)∨∃B off,p=some ⟨B,off,none⟩∧len<=cap∧dD v B off len x
theorem kM.ext{v u:World}{p:Option Addr}{len cap:Nat}{x:Nat->Nat}(h:kM v p len cap x)(e:Ext v u):kM u p len cap x:=
 h.imp id λ⟨B,off,h1,h2,h3⟩=>⟨B,off,h1,h2,h3.ext e⟩
def fV(v:World)(p:Option Addr)(len cap:Nat)(x:Nat->Nat):Prop:=kM v p len cap x∨((∃a,p=some a)∧len=0∧cap=0)
theorem fV.of{v:World}{p:Option Addr}{len cap:Nat}{x:Nat->Nat}(h:fV v p len cap x)(h0:0<len):kM v p len cap x:=by
 rcases h with h|⟨_,h,_⟩
 .exact h
 .omega
theorem fV.parts{v:World}{p:Option Addr}{len cap:Nat}{x:Nat->Nat}(h:fV v p len cap x):(p=none∧len=0∧cap=0)∨∃a,p=some a∧len<=cap∧(len=0∨∃B off,a=⟨B,off,none⟩∧dD v B off len x):=by
 rcases h with(h|⟨B,off,e,h1,h2⟩)|⟨⟨a,e⟩,h1,h2⟩
 .exact .inl h
 .exact .inr ⟨_,e,h1,.inr ⟨B,off,rfl,h2⟩⟩
 .exact .inr ⟨a,e,by omega,.inl h1⟩
theorem Uh{S:Nat->Prop}{v:World}(m k len cap:Nat)(p:Option Addr)(val:Nat->Nat)(hk:k<10)(hm:m<=400)(hl:len<=400)(hs:kM v p len cap val):aJ Tryz.prog 76 #[.slice p len cap,.int .i64 (k:Nat),.int .i64 (m:Nat)] S v λx S' v'=>x=sl v.heap.size m∧S'=S∧Rowed v m (dN val len m k) v':=by
 rcases hs with⟨rfl,rfl,rfl⟩|⟨B,off,rfl,hc,hB⟩
 .exact Ug m k val hk hm
 .exact P2 m k len cap B off val hk hm hl hc hB
structure Pieces(v:World)(BA:Nat)(PB:Nat->Nat)(m:Nat)(p:Nat->Nat->Nat)(v':World):Prop where
 kp:Kp v (λ_=>False) v'
 ba:v'.heap[BA]?=some (.cells (allA λk=>sl (PB k) m) 43)
 pb:∀k,k<14->v'.heap[PB k]?=some (.cells (aE m (p k)) 5)
 newA:v.heap.size<=BA
 newP:∀k,k<14->v.heap.size<=PB k
 apart:∀k,k<14->PB k≠BA
 inj:∀k k',k<14->k'<14->PB k=PB k'->k=k'
def oK(known:Nat->Nat)(x:Nat->Nat->Nat)(k i:Nat):Nat:=Fld.comb (Fld.wgt known k) x 10 i
def bJ(val:Nat->Nat)(len k i:Nat):Nat:=if k<10 then dN val len ((len+9)/10) k i else oK id (dN val len ((len+9)/10)) k i
def fQ(j:Nat):Array Value:=(Array.range 10).map λi=>.int .i64 ((if i<j then i else 0:Nat):Int)
theorem Tk:fQ 10=ten id:=by apply au;intro c;by_cases h:c<10<;>simp[fQ,ten,h]
theorem Tl(j:Nat):(fQ j).setIfInBounds j (.int .i64 (j:Nat))=fQ (j+1):=by
 apply au;intro c;rw[aj];by_cases e:j=c
 .subst e;by_cases hi:j<10<;>simp[fQ,hi]
 .rw[ah e];by_cases hi:c<10<;>simp[fQ,hi,show c<j+1↔c<j by omega]
theorem sW:fQ 0=#[.int .i64 0,.int .i64 0,.int .i64 0,.int .i64 0,.int .i64 0,.int .i64 0,.int .i64 0,.int .i64 0,.int .i64 0,.int .i64 0]:=by
 apply au;intro c;by_cases hi:c<10
 .have:c=0∨c=1∨c=2∨c=3∨c=4∨c=5∨c=6∨c=7∨c=8∨c=9:=by omega
  rcases this with rfl|rfl|rfl|rfl|rfl|rfl|rfl|rfl|rfl|rfl<;>simp[fQ]
 .rw[af (by simp[fQ];omega),af (by simp;omega)]
def mY(N m j k:Nat):Value:=if k<j then sl (N+2+k) m else .slice none 0 0
structure CI(v0:World)(val:Nat->Nat)(len m j:Nat)(v:World):Prop where
 ext:Ext v0 v
 ba:v.heap[v0.heap.size]?=some (.cells (allA (mY v0.heap.size m j)) 43)
 bk:v.heap[v0.heap.size+1]?=some (.cells (fQ j) 149)
 rows:∀k,k<j->v.heap[v0.heap.size+2+k]?=some (.cells (aE m (dN val len m k)) 5)
 size:v.heap.size=v0.heap.size+2+j
theorem lF{k:Nat} : cI id k=true↔10<=k:=by
 rw[xG];constructor
 .intro h;exact Nat.le_of_not_lt λhk=>h k hk rfl
 .intro h j hj e;simp at e;omega
theorem Sj{S:Nat->Prop}{v:World}(len cap:Nat)(p:Option Addr)(hl:400<len)(G4:len<2^62):aJ Tryz.prog 58 #[.slice p len cap] S v λy S' v'=>y=.tuple #[.slice none 0 0,.int .i64 1]∧S'=S∧v'=v:=by
 refine dX Tryz.func58 rfl Tryz.ntmps58 λStop cc cs ret f h0=>?_;have OL:(400:Int)<(len:Int):=by omega
 repeat refine rN ?_
 refine rX (by simp[Act.eval,h0,OL]) ?_;repeat refine rN ?_
 refine aM λtodo=>?_;refine ret _ _ _ _ _ ?_ ⟨rfl,rfl,rfl⟩;simp[results,Tryz.results58]
structure PL(v:World)(BL ol:Nat)(q:Nat->Option Addr)(ln cp:Nat->Nat)(y:Nat->Nat->Nat):Prop where
 at_:∀k,k<14->v.cell? ⟨BL,ol+k,none⟩=some (.slice (q k) (ln k) (cp k))
 sl:∀k,k<14->kM v (q k) (ln k) (cp k) (y k)
theorem PL.ext{v u:World}{BL ol:Nat}{q:Nat->Option Addr}{ln cp:Nat->Nat}{y:Nat->Nat->Nat}(h:PL v BL ol q ln cp y)(e:Ext v u):PL u BL ol q ln cp y:=⟨λk hk=>e.cell (h.at_ k hk),λk hk=>(h.sl k hk).ext e⟩
def fX(q:Nat->Option Addr)(i:Nat):Bool:=(List.range i).any λk=>(q k).isSome
theorem Et(q:Nat->Option Addr)(i:Nat):fX q (i+1)=(fX q i||(q i).isSome):=by simp[fX,List.range_succ]
theorem Mj{S:Nat->Prop}{v:World}(BL ol cl m:Nat)(q:Nat->Option Addr)(ln cp:Nat->Nat)(y:Nat->Nat->Nat)(hP:PL v BL ol q ln cp y)(hm:∀k,k<14->(q k).isSome=true->ln k=m):aJ Tryz.prog 81 #[.slice (some ⟨BL,ol,none⟩) 14 cl] S v λx S' v'=>x=.tuple #[.int .i64 ((if fX q 14 then m else 0:Nat):Int),.bool true]∧S'=S∧v'=v:=by
 refine dX Tryz.func81 rfl Tryz.ntmps81 λStop cc cs ret f h0=>?_
 repeat refine rN ?_
 refine bF (λd f' S' v'=>∃j,d=14-j∧j<=14∧S'=S∧v'=v∧f' 8=.slice (some ⟨BL,ol,none⟩) 14 cl∧f' 9=.int .i64 14∧f' 10=.int .i64 (j:Nat)∧f' 4=.int .i64 ((if fX q j then m else 0:Nat):Int)∧f' 5=.bool (fX q j)) 14 ⟨0,by omega,by omega,rfl,rfl,by simp[h0],by simp,by simp,by simp[fX],by simp[fX]⟩ ?_;rintro d f' S' v' ⟨j,rfl,hj,eS,eV,g8,g9,g10,g4,g5⟩ next
 subst S' v';repeat refine rN ?_
 by_cases dp:j<14
 .have ja:(j:Int)<14:=by omega
  refine rX (by simp[Act.eval,g10,g9,ja]) ?_;have nt:=hP.at_ j dp;cases hq:q j with
  |none=>
   rw[hq]at nt;have ha:fX q (j+1)=fX q j:=by rw[Et,hq];simp
   have HA:Hid (fX q (j+1)=fX q j):=ha;clear ha hq;repeat refine rM nt ?_
   refine rX (by simp[Act.eval]) ?_;refine bC rfl ?_;repeat refine rN ?_
   refine next _ _ _ (14-(j+1)) (by omega) ⟨j+1,rfl,by omega,rfl,rfl,?_,?_,?_,?_,?_⟩
   .simp[g8]
   .simp[g9]
   .simp
   .simp[g4,HA.out]
   .simp[g5,HA.out]
  |some a=>
   rw[hq]at nt;have G2:ln j=m:=hm j dp (by rw[hq];rfl);rw[G2]at nt;have ha:fX q (j+1)=true:=by rw[Et,hq];simp
   have HA:Hid (fX q (j+1)=true):=ha;clear ha hq G2;repeat refine rM nt ?_
   refine rZ (by simp[Act.eval]) ?_;cases hb:fX q j with
   |false=>
    rw[hb]at g5;simp only[hb,ay,if_false]at g4;repeat refine rN ?_
    refine rZ (by simp[Act.eval]) ?_;repeat refine rN ?_
    refine next _ _ _ (14-(j+1)) (by omega) ⟨j+1,rfl,by omega,rfl,rfl,?_,?_,?_,?_,?_⟩
    .simp[g8]
    .simp[g9]
    .simp
    .simp[HA.out]
    .simp[HA.out]
   |true=>
    rw[hb]at g5;simp only[hb,if_true]at g4;repeat refine rN ?_
    refine rZ (by simp[Act.eval]) ?_;repeat refine rN ?_
    refine next _ _ _ (14-(j+1)) (by omega) ⟨j+1,rfl,by omega,rfl,rfl,?_,?_,?_,?_,?_⟩
    .simp[g8]
    .simp[g9]
    .simp
    .simp[HA.out]
    .simp[HA.out]
 .obtain rfl:j=14:=by omega
  refine rZ (by simp[Act.eval,g10,g9]) ?_;refine bC rfl ?_;repeat refine rN ?_
  refine aM λtodo=>?_;refine ret _ _ _ _ _ ?_ ⟨rfl,rfl,rfl⟩;simp[results,Tryz.results81,g4]
def bD(q:Nat->Option Addr):Nat->Nat×(Nat->Nat)
 |0=>(0,λ_=>0)
 |i+1=>if (q i).isSome=true∧(bD q i).1<10 then((bD q i).1+1,λj=>if j=(bD q i).1 then i else(bD q i).2 j) else bD q i
theorem T2(q:Nat->Option Addr)(i:Nat):(bD q i).1<=10:=by
 induction i with
 |zero=>exact Nat.zero_le _
 |succ i ih=>
  unfold bD;split
  .simp only;omega
  .exact ih
theorem Hz(q:Nat->Option Addr)(i:Nat):∀j,j<(bD q i).1->(bD q i).2 j<i∧(q ((bD q i).2 j)).isSome=true∧∀j',j'<j->(bD q i).2 j'<(bD q i).2 j:=by
 induction i with
 |zero=>intro j hj;exact absurd hj (Nat.not_lt_zero _)
 |succ i ih=>
  intro j hj;unfold bD at hj⊢;split at hj
  .rename_i h;rw[ai h];simp only at hj⊢;by_cases e:j=(bD q i).1
   .rw[ai e];refine⟨by omega,h.1,λj' jo=>?_⟩;rw[ah (by omega)];exact(ih j' (by omega)).1
   .rw[ah e];obtain⟨h1,h2,h3⟩:=ih j (by omega);refine⟨by omega,h2,λj' jo=>?_⟩;rw[ah (by omega)];exact h3 j' jo
  .rename_i h;rw[ah h];obtain⟨h1,h2,h3⟩:=ih j hj;exact⟨by omega,h2,h3⟩
theorem Xb(kn:Nat->Nat)(c i:Nat):(ten kn).setIfInBounds c (.int .i64 (i:Nat))=ten λj=>if j=c then i else kn j:=by
 apply au;intro e;rw[aj];by_cases h:c=e
 .subst h;by_cases hi:c<10<;>simp[ten,hi]
 .rw[ah h];by_cases hi:e<10<;>simp[ten,hi,show ¬e=c from λx=>h x.symm]
theorem Gj(kn:Nat->Nat):(ten kn).all (·.oneCell')=true:=by rw[Array.all_eq_true_iff_forall_mem];intro y hy;simp[ten]at hy;obtain⟨j,_,rfl⟩:=hy;rfl
theorem Ex:fQ 0=ten λ_=>0:=by apply au;intro c;by_cases h:c<10<;>simp[fQ,ten,h]
structure FT(v0:World)(q:Nat->Option Addr)(j:Nat)(v:World):Prop where
 ext:Ext v0 v
 r:v.heap[v0.heap.size]?=some (.cells (ten λ_=>0) 149)
 k:v.heap[v0.heap.size+1]?=some (.cells (ten (bD q j).2) 149)
 size:v.heap.size=v0.heap.size+2
theorem Oo{S:Nat->Prop}{v:World}(BL ol cl:Nat)(q:Nat->Option Addr)(ln cp:Nat->Nat)(y:Nat->Nat->Nat)(hP:PL v BL ol q ln cp y):aJ Tryz.prog 82 #[.slice (some ⟨BL,ol,none⟩) 14 cl] S v λx S' v'=>x=.tuple #[.agg (ten (bD q 14).2),.bool (decide ((bD q 14).1=10))]∧S'=S∧Ext v v':=by
 refine dX Tryz.func82 rfl Tryz.ntmps82 λStop cc cs ret f h0=>?_
 repeat refine rN ?_
 refine cD aB rfl rfl (by kernel_rfl) (.agg (fQ 0)) rfl (by rw[sW];kernel_rfl) λv1 eh sb jg=>?_;simp only[stO_some];repeat refine rN ?_
 refine cD aB rfl rfl (by kernel_rfl) (.agg (fQ 0)) rfl (by rw[sW];kernel_rfl) λv2 ep pz pj=>?_;simp only[stO_some];repeat refine rN ?_
 rw[jg]at pz⊢;have hT:FT v q 0 v2:=⟨eh.trans _ _ _ ep,by rw[<-Ex];exact ep.row sb,by rw[show(bD q 0).2=λ_=>0 from rfl,<-Ex];exact pz,by omega⟩;refine bF (λd f' S' v'=>∃j,d=14-j∧j<=14∧S'=S∧FT v q j v'∧f' 2=ptr v.heap.size∧f' 4=ptr (v.heap.size+1)∧f' 5=.int .i64 ((bD q j).1:Nat)∧f' 8=.slice (some ⟨BL,ol,none⟩) 14 cl∧f' 9=.int .i64 14∧f' 10=.int .i64 (j:Nat)) 14 ⟨0,by omega,by omega,rfl,hT,by simp,by simp,by simp[bD],by simp[h0],by simp,by simp⟩ ?_;rintro d f' S' v' ⟨j,rfl,hj,eS,hT,g2,g4,g5,g8,g9,g10⟩ next
 subst S';repeat refine rN ?_
 have hle:=T2 q j;by_cases dp:j<14
 .have ja:(j:Int)<14:=by omega
  refine rX (by simp[Act.eval,g10,g9,ja]) ?_;have nt:=hT.ext.cell (hP.at_ j dp);cases hq:q j with
  |none=>
   rw[hq]at nt;have hf:bD q (j+1)=bD q j:=by rw[bD,ah];rw[hq];simp
   have HF:Hid (bD q (j+1)=bD q j):=hf;clear hf hq;repeat refine rM nt ?_
   refine rZ (by simp[Act.eval]) ?_;repeat refine rN ?_
   refine next _ _ _ (14-(j+1)) (by omega) ⟨j+1,rfl,by omega,rfl,⟨hT.ext,hT.r,by rw[HF.out];exact hT.k,hT.size⟩,?_,?_,?_,?_,?_,?_⟩
   .simp[g2]
   .simp[g4]
   .simp[g5,HF.out]
   .simp[g8]
   .simp[g9]
   .simp
  |some a=>
   rw[hq]at nt;by_cases uq:(bD q j).1<10
   .have hf:bD q (j+1)=((bD q j).1+1,λe=>if e=(bD q j).1 then j else(bD q j).2 e):=by
     rw[bD,ai];rw[hq];exact⟨rfl,uq⟩
    have HF:Hid (bD q (j+1)=((bD q j).1+1,λe=>if e=(bD q j).1 then j else(bD q j).2 e)):=hf;have FE:((bD q j).1:Int)<10:=by omega
    clear hf hq;repeat refine rM nt ?_
    refine rX (by simp[Act.eval,FE]) ?_;repeat refine rN ?_
    refine dQ aB rfl rfl (by kernel_rfl) (x:=.tmp 23) (y:=.tmp 22) (g:=v.heap.size+1) (j:=(bD q j).1) (z:=.int .i64 (j:Nat)) rfl (by simp) (by simp) rfl rfl hT.k (by rw[gC];exact uq) (by kernel_rfl) λv3 hW=>?_;simp only[stO_none];rw[Xb]at hW;repeat refine rN ?_
    refine next _ _ _ (14-(j+1)) (by omega) ⟨j+1,rfl,by omega,rfl,⟨⟨by have:=hW.size;have:=hT.size;omega,λb hb=>(hW.other b (by omega)).trans (hT.ext.block b hb),hW.os.trans hT.ext.os,hW.output.trans hT.ext.output⟩,(hW.other _ (by omega)).trans hT.r,by rw[HF.out];exact hW.at_,hW.size.trans hT.size⟩,?_,?_,?_,?_,?_,?_⟩
    .simp[g2]
    .simp[g4]
    .simp[HF.out]
    .simp[g8]
    .simp[g9]
    .simp
   .have hf:bD q (j+1)=bD q j:=by
     rw[bD,ah];exact λh=>uq h.2
    have HF:Hid (bD q (j+1)=bD q j):=hf;have FE:¬((bD q j).1:Int)<10:=by omega
    clear hf hq;repeat refine rM nt ?_
    refine rZ (by simp[Act.eval,FE]) ?_;repeat refine rN ?_
    refine next _ _ _ (14-(j+1)) (by omega) ⟨j+1,rfl,by omega,rfl,⟨hT.ext,hT.r,by rw[HF.out];exact hT.k,hT.size⟩,?_,?_,?_,?_,?_,?_⟩
    .simp[g2]
    .simp[g4]
    .simp[g5,HF.out]
    .simp[g8]
    .simp[g9]
    .simp
 .obtain rfl:j=14:=by omega
  refine rZ (by simp[Act.eval,g10,g9]) ?_;refine bC rfl ?_;repeat refine rN ?_
  refine gO aB rfl rfl (by kernel_rfl) (x:=.tmp 4) (b:=v.heap.size+1) rfl (by simp[g4]) hT.k (by kernel_rfl) (by rw[gC];kernel_rfl) ?_;simp only[stO_some];repeat refine rN ?_
  refine cS aB rfl rfl (by kernel_rfl) (x:=.tmp 2) (y:=.tmp 27) (g:=v.heap.size) (c:=ten (bD q 14).2) rfl (by simp[g2]) (by simp) hT.r (by rw[gC];kernel_rfl) (by rw[gC,gC]) (Gj _) λv3 hW=>?_;simp only[stO_none];repeat refine rN ?_
  refine aM λtodo=>?_;refine ret _ _ _ _ _ ?_ ⟨rfl,rfl,⟨by have:=hW.size;have:=hT.size;omega,λb hb=>(hW.other b (by omega)).trans (hT.ext.block b hb),hW.os.trans hT.ext.os,hW.output.trans hT.ext.output⟩⟩;have lx:(loadVar 149 ⟨v.heap.size,0,none⟩).run Tryz.prog v3=.ok (.agg (ten (bD q 14).2)) v3:=run_loadVar_row v3 v.heap.size 149 149 _ _ _ hW.at_ Tryz.underlying149 (by simp) (by rw[gC];kernel_rfl);simp[results,Tryz.results82,g2,asAddr,lx];rw[Bool.eq_iff_iff];simp;omega
def MA(kn:Nat->Nat)(N m:Nat):Nat->Nat->Value
 |0,_=>.slice none 0 0
 |j+1,k=>if k=kn j then sl (N+2+j) m else MA kn N m j k
theorem yK{kn:Nat->Nat}{N m:Nat}(lp:∀j j',j<10->j'<j->kn j'<kn j):∀(c j:Nat),c<=10->j<c->MA kn N m c (kn j)=sl (N+2+j) m
 |0,j,_,h=>absurd h (Nat.not_lt_zero _)
 |c+1,j,hc,h=>by
  unfold MA;by_cases e:j=c
  .subst e;rw[ai rfl]
  .have:=lp c j (by omega) (by omega);rw[ah (by omega)];exact yK lp c j (by omega) (by omega)
theorem Hi{kn:Nat->Nat}{N m k:Nat}(h:cI kn k=true):∀c,c<=10->MA kn N m c k=.slice none 0 0
 |0,_=>rfl
 |c+1,hc=>by
  unfold MA;rw[ah λe=>xG.1 h c (by omega) e.symm]
  exact Hi h c (by omega)
def lK(kn:Nat->Nat)(k:Nat):Nat:=((List.range 10).find? λj=>kn j==k).getD 0
theorem oB{kn:Nat->Nat}{k:Nat}(h:cI kn k=false):lK kn k<10∧kn (lK kn k)=k:=by
 obtain⟨j,hj,e⟩:=Fl h;unfold lK;cases hf:(List.range 10).find? λj=>kn j==k with
 |none=>have:=List.find?_eq_none.1 hf j (by simp[hj]);simp[e]at this
 |some i=>have h1:=List.find?_some hf;have h2:=List.mem_of_find?_eq_some hf;simp at h1 h2;exact⟨h2,h1⟩
def mO(kn:Nat->Nat)(y:Nat->Nat->Nat)(k i:Nat):Nat:=if cI kn k=true then oK kn (λj=>y (kn j)) k i else y k i
structure MI(v0:World)(kn:Nat->Nat)(y:Nat->Nat->Nat)(m j:Nat)(v:World):Prop where
 ext:Ext v0 v
 bk:v.heap[v0.heap.size]?=some (.cells (ten kn) 149)
 ba:v.heap[v0.heap.size+1]?=some (.cells (allA (MA kn v0.heap.size m j)) 43)
 rows:∀i,i<j->v.heap[v0.heap.size+2+i]?=some (.cells (aE m (y (kn i))) 5)
 size:v.heap.size=v0.heap.size+2+j
theorem Zr{S:Nat->Prop}{v:World}(BL ol cl m:Nat)(q:Nat->Option Addr)(ln cp:Nat->Nat)(y:Nat->Nat->Nat)(hP:PL v BL ol q ln cp y)(hm:∀k,k<14->(q k).isSome=true->ln k=m)(DF:m<=400)(oa:(bD q 14).1=10)(hy:∀k i,y k i<256)(hg:Tryz.prog.globals.size<=v.heap.size):aJ Tryz.prog 68 #[.slice (some ⟨BL,ol,none⟩) 14 cl] S v λx S' v'=>∃BA PB,x=.tuple #[sl BA 14,.int .i64 0]∧Pieces v BA PB m (mO (bD q 14).2 y) v':=by
 have qg:=Hz q 14;rw[oa]at qg;have qk:fX q 14=true:=by have h:=qg 0 (by omega);simp only[fX,List.any_eq_true];exact⟨_,by simpa using h.1,h.2.1⟩
 refine dX Tryz.func68 rfl Tryz.ntmps68 λStop cc cs ret f h0=>?_;have GN:=Mj (S:=S) BL ol cl m q ln cp y hP hm;rw[ai qk]at GN;have xz:=Oo (S:=S) BL ol cl q ln cp y hP;rw[oa,decide_eq_true rfl]at xz;have HM:=aP hm;have HK:=aP qg;generalize (bD q 14).2=kn at xz HK ret;clear qk oa hm qg;repeat refine rN ?_
 refine rZ (by simp[Act.eval]) ?_;repeat refine rN ?_
 refine rK Tryz.func81 (GN) ?_;rintro _ S1 w1 UX ⟨rfl,e1,e2⟩;subst S1 w1;have RR:¬((400:Int)<(m:Int)):=by omega
 repeat refine rN ?_
 refine rZ (by simp[Act.eval,RR]) ?_;repeat refine rN ?_
 refine rK Tryz.func82 (xz) ?_;rintro _ S1 v1 UX ⟨rfl,e1,eh⟩;subst S1;repeat refine rN ?_
 refine cD aB rfl rfl (by kernel_rfl) (.agg (fQ 0)) rfl (by rw[sW];kernel_rfl) λv2 ep pz pj=>?_;simp only[stO_some];repeat refine rN ?_
 refine cS aB rfl rfl (by kernel_rfl) (x:=.tmp 6) (y:=.tmp 29) (g:=v1.heap.size) (c:=ten kn) rfl (by simp) (by simp) pz (by rw[gC];kernel_rfl) (by rw[gC];simp[Value.cells,fQ]) (Gj _) λv3 fz=>?_;simp only[stO_none];repeat refine rN ?_
 refine rZ (by simp[Act.eval]) ?_;repeat refine rN ?_
 refine nU aB rfl rfl (by kernel_rfl) rfl (m:=14) (wd:=24) (z:=.slice none 0 0) rfl rfl (by omega) (by omega) (by omega) Tryz.underlying89 (by kernel_rfl) rfl λv4 gn JC AT=>?_;simp only[stO_some];have ma:v3.heap.size=v1.heap.size+1:=fz.size.trans pj;have TG:v4.heap[v1.heap.size]?=some (.cells (ten kn) 149):=gn.row fz.at_;repeat refine rN ?_
 refine gO aB rfl rfl (by kernel_rfl) (x:=.tmp 6) (b:=v1.heap.size) rfl (by simp) TG (by kernel_rfl) (by rw[gC];kernel_rfl) ?_;simp only[stO_some];repeat refine rN ?_
 rw[ma]at JC⊢;have OV:=hP.ext eh;have hM:MI v1 kn y m 0 v4:=by
  refine⟨⟨by omega,λb hb=>?_,?_,?_⟩,TG,?_,λi hi=>by omega,by omega⟩
  .rw[gn.block b (by omega),fz.other b (by omega)];exact ep.block b hb
  .rw[gn.os,fz.os];exact ep.os
  .rw[gn.output,fz.output];exact ep.output
  .rw[JC];congr 2
 refine bF (λd f' S' v'=>∃j,d=10-j∧j<=10∧S'=S∧MI v1 kn y m j v'∧f' 0=.slice (some ⟨BL,ol,none⟩) 14 cl∧f' 4=.int .i64 (m:Nat)∧f' 6=ptr v1.heap.size∧f' 8=sl (v1.heap.size+1) 14∧f' 34=.agg (ten kn)∧f' 35=.int .i64 (j:Nat)) 10 ⟨0,by omega,by omega,rfl,hM,by simp[h0],by simp,by simp,by simp,by simp,by simp⟩ ?_;rintro d f' S' v' ⟨j,rfl,hj,eS,hI,g0,g4,g6,g8,WE,NP⟩ next
 subst S';repeat refine rN ?_
 by_cases dp:j<10
 .have ja:(j:Int)<10:=by omega
  refine rX (by simp[Act.eval,NP,ja]) ?_;repeat refine rN ?_
  refine Lw aB rfl rfl (by kernel_rfl) rfl (m:=j) (L:=10) (by simp[WE]) (by simp[NP]) (by kernel_rfl) dp (qC kn j dp) ?_;simp only[stO_some];repeat refine rN ?_
  refine nO aB rfl rfl (by kernel_rfl) rfl (m:=m) (by simp[g4]) (by simp[g4]) (by omega) (by kernel_rfl) Tryz.underlying43 λv5 lh QX CQ=>?_;simp only[stO_some];obtain⟨k1,k2,_⟩:=HK.out j dp;have ll:(kn j:Int)<14:=by omega
  have nt:=lh.cell (hI.ext.cell (OV.at_ (kn j) k1));have qo:=((OV.sl (kn j) k1).ext hI.ext).ext lh;rw[HM.out (kn j) k1 k2]at nt qo;obtain⟨B,off,hq,yb,hB⟩:∃B off,q (kn j)=some ⟨B,off,none⟩∧m<=cp (kn j)∧dD v5 B off m (y (kn j)):=by
   rcases qo with⟨h1,_⟩|h
   .rw[h1]at k2;cases k2
   .exact h
  rw[hq]at nt;have HQ:=aP hq;clear hq;repeat refine rM nt ?_
  have Y4:v5.heap.size=v1.heap.size+2+j+1:=by rw[CQ,hI.size]
  have YE:v5.heap[v1.heap.size+2+j]?=some (.cells (aE m λ_=>0) 5):=by rw[<-hI.size,<-nV];exact QX
  rw[hI.size];refine sJ aB rfl rfl (by kernel_rfl) rfl (d:=.tmp 40) (s:=.tmp 44) (g:=v1.heap.size+2+j) (o':=0) (dLen:=m) (dCap:=m) (b:=B) (off:=off) (sLen:=m) (sCap:=cp (kn j)) (cells:=(List.range m).map λi=>Value.int .u8 ((y (kn j) i:Nat):Int)) (by simp) (by simp) Tryz.underlying43 (by kernel_rfl) YE (by simp[Nat.min_self]) (λi z hz=>?_) (by rw[eB];simp) kX λv6 ku=>?_
  .obtain⟨hi,rfl⟩:=oC hz;exact hB i hi
  simp only[bz,List.length_range,stO_some]at ku⊢;rw[nS m 0 m (y (kn j)) (λ_=>0) (by omega),gP (g:=y (kn j)) λi hi=>by simp[hi]]at ku;have c_:v6.heap[v1.heap.size+1]?=some (.cells (allA (MA kn v1.heap.size m j)) 43):=(ku.other _ (by omega)).trans (lh.row hI.ba);repeat refine rN ?_
  refine dQ aB rfl rfl (by kernel_rfl) (x:=.tmp 49) (y:=.tmp 48) (g:=v1.heap.size+1) (j:=kn j) (z:=sl (v1.heap.size+2+j) m) rfl (by simp) (by simp) rfl rfl c_ (by rw[oI];exact k1) (by kernel_rfl) λv7 nz=>?_;simp only[stO_none];rw[tI]at nz;repeat refine rN ?_
  have hI7:MI v1 kn y m (j+1) v7:=by
   have Y3:=ku.size;have IY:=nz.size;refine⟨⟨by omega,λb hb=>?_,?_,?_⟩,?_,nz.at_,λi hi=>?_,by omega⟩
   .rw[nz.other b (by omega),ku.other b (by omega),lh.block b (by have:=hI.size;omega)];exact hI.ext.block b hb
   .rw[nz.os,ku.os,lh.os];exact hI.ext.os
   .rw[nz.output,ku.output,lh.output];exact hI.ext.output
   .rw[nz.other _ (by omega),ku.other _ (by omega)];exact lh.row hI.bk
   .by_cases e:i=j
    .subst e;rw[nz.other _ (by omega)];exact ku.at_
    .rw[nz.other _ (by omega),ku.other _ (by omega)];exact lh.row (hI.rows i (by omega))
  refine next _ _ _ (10-(j+1)) (by omega) ⟨j+1,rfl,by omega,rfl,hI7,?_,?_,?_,?_,?_,?_⟩
  .simp[g0]
  .simp[g4]
  .simp[g6]
  .simp[g8]
  .simp[WE]
  .simp
 .obtain rfl:j=10:=by omega
  refine rZ (by simp[Act.eval,NP]) ?_;refine bC rfl ?_;repeat refine rN ?_
  refine gO aB rfl rfl (by kernel_rfl) (x:=.tmp 6) (b:=v1.heap.size) rfl (by simp[g6]) hI.bk (by kernel_rfl) (by rw[gC];kernel_rfl) ?_;simp only[stO_some];repeat refine rN ?_
  have lp:∀j j',j<10->j'<j->kn j'<kn j:=λj j' hj jo=>(HK.out j hj).2.2 j' jo;have jg:=eh.size;have vz:aJ Tryz.prog 77 #[sl (v1.heap.size+1) 14,.agg (ten kn),.int .i64 (m:Nat)] S v' λz S' w=>z=.tuple #[]∧∃PB,Filled v' kn m (λj=>y (kn j)) (MA kn v1.heap.size m 10) (v1.heap.size+1) 43 PB w:=by intro wv c' AO hr;refine Cu (RB:=λk=>v1.heap.size+2+k) (λj hj=>(HK.out j hj).1) DF (λj i=>hy _ _) (λj hj=>yK lp 10 j (ae _) hj) (λk hk GQ=>Hi GQ 10 (ae _)) (by have:=hI.size;omega) (by omega) (λj hj=>by omega) hI.ba hI.rows λS' w PB hw hf=>hr _ S' w hw ⟨rfl,PB,hf⟩
  refine rK Tryz.func77 (vz) ?_;rintro _ S5 v5 X6 ⟨rfl,PB,hF⟩;repeat refine rN ?_
  refine aM λtodo=>?_;refine ret _ _ S5 v5 (.tuple #[sl (v1.heap.size+1) 14,.int .i64 0]) ?_ ⟨v1.heap.size+1,λk=>if cI kn k=true then PB k else v1.heap.size+2+lK kn k,rfl,?_⟩
  .simp[results,Tryz.results68,g8]
  .have XW:=hI.size;have fe:∀k,¬cI kn k=true->cI kn k=false:=λk h=>by simpa using h
   refine⟨⟨by have:=hF.kp.size;omega,?_,?_,λb o _ hc ht=>?_⟩,?_,λk hk=>?_,by omega,λk hk=>?_,λk hk=>?_,λk k' hk rf e=>?_⟩
   .rw[hF.kp.os,hI.ext.os];exact eh.os
   .rw[hF.kp.output,hI.ext.output];exact eh.output
   .have:=(Array.getElem?_eq_some_iff.1 hc).1;exact hF.kp.objs b o (by omega) (hI.ext.row (eh.row hc)) ht
   .rw[hF.ba];congr 2;refine mE λc hc=>?_;simp only[AK];by_cases e:cI kn c=true
    .simp[e,hc]
    .obtain⟨i1,i2⟩:=oB (fe c e);simp only[e,false_and,if_false];have:=yK (m:=m) (N:=v1.heap.size) lp 10 (lK kn c) (ae _) i1;rw[i2]at this;exact this
   .by_cases e:cI kn k=true
    .rw[ai e,show mO kn y k=oK kn (λj=>y (kn j)) k from funext λi=>by simp only[mO,ai e]];exact(hF.pb k hk e).2
    .obtain⟨i1,i2⟩:=oB (fe k e);rw[ah e,show mO kn y k=y k from funext λi=>by simp only[mO,ah e]];have:=hF.kp.cells _ _ _ _ (by omega) (hI.rows (lK kn k) i1);rw[i2]at this;exact this
   .by_cases e:cI kn k=true
    .simp only[ai e];have:=(hF.pb k hk e).1;omega
    .simp only[ah e];omega
   .by_cases e:cI kn k=true
    .simp only[ai e];have:=(hF.pb k hk e).1;omega
    .simp only[ah e];omega
   .by_cases h1:cI kn k=true
    .by_cases h2:cI kn k'=true
     .simp only[ai h1,ai h2]at e;rcases Nat.lt_trichotomy k k' with h|h|h
      .have:=hF.mono k k' h rf h1 h2;omega
      .exact h
      .have:=hF.mono k' k h hk h2 h1;omega
     .simp only[ai h1,ah h2]at e;have:=(hF.pb k hk h1).1;have:=(oB (fe k' h2)).1;omega
    .by_cases h2:cI kn k'=true
     .simp only[ah h1,ai h2]at e;have:=(hF.pb k' rf h2).1;have:=(oB (fe k h1)).1;omega
     .simp only[ah h1,ah h2]at e;have e1:=(oB (fe k h1)).2;have e2:=(oB (fe k' h2)).2;rw[<-e1,<-e2,show lK kn k=lK kn k' by omega]
def jV(p:Nat->Nat->Nat)(m e i:Nat):Nat:=if i<e then p (i/m) (i%m) else 0
theorem Rr(p:Nat->Nat->Nat)(m n j:Nat):let fl:=min (j*m) n;let o:=if n=fl then 0 else fl;let c:=min m (n-fl)
  aE n (λi=>if o<=i∧i<o+c then p j (i-o) else jV p m fl i)=aE n (jV p m (min ((j+1)*m) n))∧o+c<=n∧fl+c=min ((j+1)*m) n∧fl<=n:=by
 intro fl o c;have e1:(j+1)*m=j*m+m:=Nat.succ_mul j m;have SP:fl=min (j*m) n:=rfl;have ho:o=if n=fl then 0 else fl:=rfl
 have hc:c=min m (n-fl):=rfl;refine⟨gP λi hi=>?_,?_,by omega,by omega⟩
 .by_cases e:n=fl
  .rw[ai e]at ho;rw[ah (by omega)];simp only[jV];rw[ai (by omega),ai (by omega)]
  .rw[ah e]at ho;have ZI:fl=j*m:=by omega
   by_cases h:o<=i∧i<o+c
   .rw[ai h];have hd:i/m=j:=Nat.div_eq_of_lt_le (by omega) (by omega);have DC:i%m=i-o:=by
     have h1:=Nat.div_add_mod i m;rw[hd,Nat.mul_comm m j]at h1;omega
    simp only[jV,hd,DC];rw[ai (by omega)]
   .rw[ah h];simp only[jV];by_cases h2:i<fl
    .rw[ai h2,ai (by omega)]
    .rw[ah h2,ah (by omega)]
 .by_cases e:n=fl
  .rw[ai e]at ho;omega
  .rw[ah e]at ho;omega
structure JI(v0:World)(BV n:Nat)(z:Nat->Nat)(v:World):Prop where
 kp:Kp v0 (λ_=>False) v
 bv:v.heap[BV]?=some (.cells (aE n z) 5)
theorem Zy{S:Nat->Prop}{v:World}(s:Value)(m n:Nat)(p:Nat->Nat->Nat)(hm:m<=400)(hn:n<=10*m)(RP:aJ Tryz.prog 68 #[s] S v λx S' v'=>∃BA PB,x=.tuple #[sl BA 14,.int .i64 0]∧Pieces v BA PB m p v'):aJ Tryz.prog 63 #[s,.int .i64 (n:Nat)] S v λx S' v'=>∃BV,x=.tuple #[sl BV n,.int .i64 0]∧v.heap.size<=BV∧JI v BV n (λi=>p (i/m) (i%m)) v':=by
 refine cX Tryz.func63 rfl Tryz.ntmps63 λStop cc cs ret f h0 h1=>?_
 repeat refine rN ?_
 refine rK Tryz.func68 (RP) ?_;rintro _ S1 v1 UX ⟨BA,PB,rfl,hp⟩;have YV:¬((n:Int)<0):=by omega
 have hnI2:¬((10:Int)*(m:Int)<(n:Int)):=by omega
 have mq:v1.cell? ⟨BA,0,none⟩=some (sl (PB 0) m):=(ab _ BA 0 _ _ _ hp.ba).trans (jC _ 0 (by omega));repeat refine rM mq ?_
 refine rZ (by simp[Act.eval]) ?_;repeat refine rM mq ?_
 refine rZ (by simp[Act.eval]) ?_;repeat refine rN ?_
 refine nO aB rfl rfl (by kernel_rfl) rfl (m:=n) (by simp[h1]) (by simp[h1]) (by omega) (by kernel_rfl) Tryz.underlying43 λv2 ep pz pj=>?_;simp only[stO_some];repeat refine rN ?_
 have hJ:JI v1 v1.heap.size n (jV p m (min (0*m) n)) v2:=⟨(Kp.refl v1 _).ext ep,by rw[pz,nV,gP (g:=jV p m (min (0*m) n)) λi hi=>by simp[jV]]⟩;have RD:∀k,k<14->v1.heap[PB k]?=some (.cells (aE m (p k)) 5):=hp.pb;refine bF (λd f' S' v'=>∃j,d=10-j∧j<=10∧S'=S1∧JI v1 v1.heap.size n (jV p m (min (j*m) n)) v'∧f' 8=sl v1.heap.size n∧f' 9=.int .i64 ((min (j*m) n:Nat):Int)∧f' 34=.slice (some ⟨BA,0,none⟩) 10 14∧f' 35=.int .i64 10∧f' 36=.int .i64 (j:Nat)) 10 ⟨0,by omega,by omega,rfl,hJ,by simp,by simp,by simp,by simp,by simp⟩ ?_;rintro d f' S' v' ⟨j,rfl,hj,eS,hI,g8,g9,WE,NP,L8⟩ next
 subst S';repeat refine rN ?_
 by_cases dp:j<10
 .have ja:(j:Int)<10:=by omega
  refine rX (by simp[Act.eval,L8,NP,ja]) ?_;have AA:v'.cell? ⟨BA,j,none⟩=some (sl (PB j) m):=hI.kp.cell (λx=>x) ((ab _ BA j _ _ _ hp.ba).trans (jC _ j (by omega)));obtain⟨jg,LD,ma,AT⟩:=Rr p m n j;obtain⟨fl,SP⟩:∃fl,fl=min (j*m) n:=⟨_,rfl⟩;rw[<-SP]at jg LD ma AT g9 hI;have H1:=aP jg;have H2:=aP ma;clear jg ma SP;have hflI:(fl:Int)<=(n:Int):=by omega
  repeat refine rM AA ?_
  obtain⟨o,ho⟩:∃o,o=if n=fl then 0 else fl:=⟨_,rfl⟩;rw[<-ho]at H1 LD;have eo:(if n=fl then some (⟨v1.heap.size,0,none⟩:Addr) else some ⟨v1.heap.size,fl,none⟩)=some ⟨v1.heap.size,o,none⟩:=by rw[ho];split<;>rfl
  rw[eo];have hPj:v'.heap[PB j]?=some (.cells (aE m (p j)) 5):=hI.kp.cells _ _ _ _ (λx=>x) (RD j (by omega));refine sJ aB rfl rfl (by kernel_rfl) rfl (d:=.tmp 43) (s:=.tmp 44) (g:=v1.heap.size) (o':=o) (dLen:=n-fl) (dCap:=n-fl) (b:=PB j) (off:=0) (sLen:=m) (sCap:=m) (cells:=(List.range (min m (n-fl))).map λi=>Value.int .u8 ((p j i:Nat):Int)) (by simp) (by simp) Tryz.underlying43 (by kernel_rfl) hI.bv (by simp) (λi z hz=>?_) (by rw[eB];simp;omega) kX λv6 ku=>?_
  .obtain⟨hi,rfl⟩:=oC hz;rw[an];exact(ab _ (PB j) i _ _ _ hPj).trans (eE m _ i (by omega))
  simp only[bz,List.length_range,stO_some]at ku⊢;rw[nS n o (min m (n-fl)) (p j) _ LD,H1.out]at ku;have hgo:goInt ((min m (n-fl):Nat):Int)=.int .i64 ((min m (n-fl):Nat):Int):=rfl;rw[hgo];have b8:min m (n-fl)<=400:=by omega
  have HC:=aP (show fl+min m (n-fl)=min ((j+1)*m) n from H2.out);generalize min m (n-fl)=WK at HC b8⊢;clear H1 H2;repeat refine rN ?_
  refine next _ _ _ (10-(j+1)) (by omega) ⟨j+1,rfl,by omega,rfl,⟨⟨?_,?_,?_,λb o _ hc ht=>?_⟩,ku.at_⟩,?_,?_,?_,?_,?_⟩
  .rw[ku.size];exact hI.kp.size
  .rw[ku.os];exact hI.kp.os
  .rw[ku.output];exact hI.kp.output
  .have:=(Array.getElem?_eq_some_iff.1 hc).1;rw[ku.other b (by omega)];exact hI.kp.objs b o (λx=>x) hc ht
  .simp[g8]
  .simp;have:=HC.out;omega
  .simp[WE]
  .simp[NP]
  .simp
 .obtain rfl:j=10:=by omega
  refine rZ (by simp[Act.eval,L8,NP]) ?_;refine bC rfl ?_;repeat refine rN ?_
  refine aM λtodo=>?_;refine ret _ _ S1 v' (.tuple #[sl v1.heap.size n,.int .i64 0]) ?_ ⟨v1.heap.size,rfl,hp.kp.size,⟨hp.kp.trans hI.kp,?_⟩⟩
  .simp[results,Tryz.results63,g8]
  .rw[hI.bv,gP (g:=λi=>p (i/m) (i%m)) λi hi=>by simp only[jV];rw[ai (by omega)]]
