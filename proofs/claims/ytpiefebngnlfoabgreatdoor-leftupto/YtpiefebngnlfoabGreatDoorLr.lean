import Derived.Test.YtpiefebngnlfoabGreatDoorLq
set_option maxRecDepth 99999
set_option maxHeartbeats 0
set_option linter.unusedVariables false
set_option linter.unusedSimpArgs false
namespace Go.Proofs.YtpiefebngnlfoabGreatDoor
open Go.RowKit Go.Conc Go.Vw
theorem wZ{S:Nat->Prop}{v:World}(m:Nat)(hm:m<=400):aK Tryz.prog 56 #[.int .i64 (m:Nat)] S v fun x S' v'=>x=.int .i64 (((m+9) / 10:Nat):Int)∧S'=S∧v'=v:=by
 refine dU Tryz.func56 rfl Tryz.ntmps56 fun Stop cc cs ret f h0=>?_
 repeat refine rN ?_
 refine aP fun todo=>?_
 refine ret _ _ _ _ (.int .i64 (((m+9) / 10:Nat):Int)) ?_ ⟨rfl,rfl,rfl⟩;simp[results,Tryz.results56];rw[Int.tdiv_eq_ediv_of_nonneg (by omega),gP _ (by omega) (by omega)];omega
def dO(val:Nat->Nat)(len m k i:Nat):Nat:=if k*m+i<len then val (k*m+i) else 0
theorem Dv{n:Nat}{x:Nat->Nat} : ∀ y∈(aC n x).toList,y.oneCell'=true:=by
 intro y hy;simp[aC]at hy;obtain⟨j,_,rfl⟩:=hy;rfl
theorem oC(n o m:Nat)(x y:Nat->Nat)(h:o+m<=n):((aC n y).toList.take o++(List.range m).map (fun j=>Value.int .u8 ((x j:Nat):Int))++(aC n y).toList.drop (o+m)).toArray=aC n fun i=>if o<=i∧i<o+m then x (i - o) else y i:=by
 apply Array.ext_getElem?;intro c;simp only[List.getElem?_toArray,List.append_assoc];by_cases h1:c<o
 .rw[List.getElem?_append_left (by simp[aC];omega)];have hc:c<n:=by omega
  simp[aC,h1,hc,show ¬o<=c by omega]
 .rw[List.getElem?_append_right (by simp[aC];omega)];have e:((aC n y).toList.take o).length=o:=by simp[aC];omega
  rw[e];by_cases h2:c<o+m
  .rw[List.getElem?_append_left (by simp;omega)];have hc:c<n:=by omega
   have h3:c - o<m:=by omega
   simp[aC,hc,h3,show o<=c by omega,h2]
  .rw[List.getElem?_append_right (by simp;omega)];simp only[List.length_map,List.length_range,List.getElem?_drop];rw[show o+m+(c - o - m)=c by omega];by_cases hc:c<n
   .simp[aC,hc,h2]
   .simp[aC,hc]
structure Rowed(v:World)(m:Nat)(x:Nat->Nat)(v':World):Prop where
 ext:Ext v v'
 row:v'.heap[v.heap.size]?=some (.cells (aC m x) 5)
 size:v'.heap.size=v.heap.size+1
theorem Zg{v v1 v2:World}{o:Obj}(hE:Ext v v1)(hs:v1.heap.size=v.heap.size+1)(hW:Wr v1 v.heap.size o v2):Ext v v2∧v2.heap[v.heap.size]?=some o∧v2.heap.size=v.heap.size+1:=
 ⟨⟨by have:=hW.size;omega,fun b hb=>(hW.other b (by omega)).trans (hE.block b hb),hW.os.trans hE.os,hW.output.trans hE.output⟩,hW.at_,hW.size.trans hs⟩
theorem zbN{S:Nat->Prop}{v:World}(m k len cap B off:Nat)(val:Nat->Nat)(hk:k<10)(hm:m<=400)(hl:len<=400)(hc:len<=cap)(hB:eA v B off len val) :
  aK Tryz.prog 57 #[.slice (some ⟨B,off,none⟩) len cap,.int .i64 (k:Nat),.int .i64 (m:Nat)] S v fun x S' v'=>x=sl v.heap.size m∧S'=S∧Rowed v m (dO val len m k) v':=by
 refine kS Tryz.func57 rfl Tryz.ntmps57 fun Stop cc cs ret f h0 h1 h2=>?_
 have ekm:((k*m:Nat):Int)=(k:Int)*(m:Int):=Int.natCast_mul k m;have hkm:(k:Int)*(m:Int)<=4000:=by
  have h:k*m<=10*400:=Nat.mul_le_mul (by omega) hm;omega
 have hkm0:(0:Int)<=(k:Int)*(m:Int):=by omega
 obtain⟨a,ha⟩:∃ a:Nat,a=min (k*m) len:=⟨_,rfl⟩;obtain⟨b,hb⟩:∃ b:Nat,b=min (a+m) len:=⟨_,rfl⟩;have e1:(if (len:Int)<(k:Int)*(m:Int) then(len:Int) else(k:Int)*(m:Int))=(a:Int):=by split<;>omega
 have e2:(if (len:Int)<(a:Int)+(m:Int) then(len:Int) else(a:Int)+(m:Int))=(b:Int):=by split<;>omega
 have HE:Hid (((k*m:Nat):Int)=(k:Int)*(m:Int)):=ekm;have hab:(a:Int)<=(b:Int):=by omega
 have hbc:(b:Int)<=(cap:Int):=by omega
 have hbm:b - a<=m:=by omega
 have hrow:∀ i,i<m->(if 0<=i∧i<0+(b - a) then val (a+(i - 0)) else 0)=dO val len m k i:=by
  intro i hi;unfold dO;by_cases h:i<b - a
  .have e:a=k*m:=by omega
   rw[if_pos ⟨by omega,by omega⟩,if_pos (by omega),e,Nat.sub_zero]
  .rw[if_neg (by omega),if_neg (by omega)]
 have hsrc:∀ j,j<b - a->v.cell? ⟨B,off+a+j,none⟩=some (.int .u8 (val (a+j):Nat)):=fun j hj=>by
  have:=hB (a+j) (by omega);rwa [<-Nat.add_assoc]at this
 clear ekm ha hb;repeat refine rN ?_
 refine mI aB rfl rfl (by kernel_rfl) rfl (m:=m) (by simp[h2]) (by simp[h2]) (by omega) (by kernel_rfl) Tryz.underlying48 fun v1 hE hr hs=>?_
 simp only[stO_some];repeat refine rN ?_
 obtain⟨o2,ho2,hs2⟩:∃ o2,(if cap=a then some (⟨B,off,none⟩:Addr) else some ⟨B,off+a,none⟩)=some ⟨B,o2,none⟩∧∀ j,j<b - a->v.cell? ⟨B,o2+j,none⟩=some (.int .u8 (val (a+j):Nat)):=by
  by_cases e:cap=a
  .exact⟨off,by rw[if_pos e],fun j hj=>by omega⟩
  .exact⟨off+a,by rw[if_neg e],hsrc⟩
 rw[ho2];rw[oH]at hr;refine tT aB rfl rfl (by kernel_rfl) rfl (d:=.tmp 24) (s:=.tmp 28) (g:=v.heap.size) (o':=0) (dLen:=m) (dCap:=m) (b:=B) (off:=o2) (sLen:=b - a) (sCap:=cap - a) (cells:=(List.range (b - a)).map fun j=>Value.int .u8 ((val (a+j):Nat):Int)) (by simp) (by simp) Tryz.underlying48 (by kernel_rfl) hr (by simp[Nat.min_eq_left hbm]) (fun j y hy=>?_) (by rw[dY];simp;omega) oL fun v2 hW=>?_
 .obtain⟨hj,rfl⟩:=oM hy;exact hE.cell (hs2 j hj)
 .simp only[List.length_map,List.length_range,stO_some]at hW ⊢;rw[oC m 0 (b - a) (fun j=>val (a+j)) (fun _=>0) (by omega),iG hrow]at hW;obtain⟨q1,q2,q3⟩:=Zg hE hs hW;repeat refine rN ?_
  refine aP fun todo=>?_
  refine ret _ _ _ _ _ ?_ ⟨rfl,rfl,q1,q2,q3⟩;simp[results,Tryz.results57,h0]
theorem Ux{S:Nat->Prop}{v:World}(m k:Nat)(val:Nat->Nat)(hk:k<10)(hm:m<=400) :
  aK Tryz.prog 57 #[.slice none 0 0,.int .i64 (k:Nat),.int .i64 (m:Nat)] S v fun x S' v'=>x=sl v.heap.size m∧S'=S∧Rowed v m (dO val 0 m k) v':=by
 refine kS Tryz.func57 rfl Tryz.ntmps57 fun Stop cc cs ret f h0 h1 h2=>?_
 have ekm:((k*m:Nat):Int)=(k:Int)*(m:Int):=Int.natCast_mul k m;have hkm:(k:Int)*(m:Int)<=4000:=by
  have h:k*m<=10*400:=Nat.mul_le_mul (by omega) hm;omega
 have hkm0:(0:Int)<=(k:Int)*(m:Int):=by omega
 have e1:(if (0:Int)<(k:Int)*(m:Int) then(0:Int) else(k:Int)*(m:Int))=0:=by split<;>omega
 have e2:(if 0<m then(0:Int) else(m:Int))=0:=by split<;>omega
 clear ekm;repeat refine rN ?_
 refine mI aB rfl rfl (by kernel_rfl) rfl (m:=m) (by simp[h2]) (by simp[h2]) (by omega) (by kernel_rfl) Tryz.underlying48 fun v1 hE hr hs=>?_
 simp only[stO_some];repeat refine rN ?_
 refine aP fun todo=>?_
 refine ret _ _ _ _ _ ?_ ⟨rfl,rfl,hE,?_,hs⟩
 .simp[results,Tryz.results57,h0]
 .rw[hr,oH,iG (g:=dO val 0 m k) fun i hi=>by simp[dO]]
end Go.Proofs.YtpiefebngnlfoabGreatDoor
namespace Go.Vw
open Go.Conc
theorem Kp.cell{v v':World}{X:Nat->Prop}(h:Kp v X v'){b o:Nat}{y:Value}(hb:¬X b)(hc:v.cell? ⟨b,o,none⟩=some y):v'.cell? ⟨b,o,none⟩=some y:=by
 unfold World.cell? at hc;split at hc
 .rename_i c t fr hr;have:=h.cells b c t fr hb hr;simp only[World.cell?,this];exact hc
 .cases hc
end Go.Vw
namespace Go.Proofs.YtpiefebngnlfoabGreatDoor
open Go.RowKit Go.Conc Go.Vw
def nF(v:World)(p:Option Addr)(len cap:Nat)(x:Nat->Nat):Prop:=(p=none∧len=0∧cap=0)∨∃ B off,p=some ⟨B,off,none⟩∧len<=cap∧eA v B off len x
theorem nF.ext{v u:World}{p:Option Addr}{len cap:Nat}{x:Nat->Nat}(h:nF v p len cap x)(e:Ext v u):nF u p len cap x:=
 h.imp id fun⟨B,off,h1,h2,h3⟩=>⟨B,off,h1,h2,h3.ext e⟩
def gO(v:World)(p:Option Addr)(len cap:Nat)(x:Nat->Nat):Prop:=nF v p len cap x∨((∃ a,p=some a)∧len=0∧cap=0)
theorem gO.ext{v u:World}{p:Option Addr}{len cap:Nat}{x:Nat->Nat}(h:gO v p len cap x)(e:Ext v u):gO u p len cap x:=h.imp (fun q=>q.ext e) id
theorem gO.of{v:World}{p:Option Addr}{len cap:Nat}{x:Nat->Nat}(h:gO v p len cap x)(h0:0<len):nF v p len cap x:=by
 rcases h with h|⟨_,h,_⟩
 .exact h
 .omega
theorem Uy{S:Nat->Prop}{v:World}(m k len cap:Nat)(p:Option Addr)(val:Nat->Nat)(hk:k<10)(hm:m<=400)(hl:len<=400)(hs:nF v p len cap val) :
  aK Tryz.prog 57 #[.slice p len cap,.int .i64 (k:Nat),.int .i64 (m:Nat)] S v fun x S' v'=>x=sl v.heap.size m∧S'=S∧Rowed v m (dO val len m k) v':=by
 rcases hs with⟨rfl,rfl,rfl⟩|⟨B,off,rfl,hc,hB⟩
 .exact Ux m k val hk hm
 .exact zbN m k len cap B off val hk hm hl hc hB
structure Pieces(v:World)(BA:Nat)(PB:Nat->Nat)(m:Nat)(p:Nat->Nat->Nat)(v':World):Prop where
 kp:Kp v (fun _=>False) v'
 ba:v'.heap[BA]?=some (.cells (allA fun k=>sl (PB k) m) 48)
 pb:∀ k,k<14->v'.heap[PB k]?=some (.cells (aC m (p k)) 5)
 newA:v.heap.size<=BA
 newP:∀ k,k<14->v.heap.size<=PB k
 apart:∀ k,k<14->PB k≠BA
 inj:∀ k k',k<14->k'<14->PB k=PB k'->k=k'
def oX(known:Nat->Nat)(x:Nat->Nat->Nat)(k i:Nat):Nat:=Fld.comb (Fld.wgt known k) x 10 i
def bG(val:Nat->Nat)(len k i:Nat):Nat:=if k<10 then dO val len ((len+9) / 10) k i else oX id (dO val len ((len+9) / 10)) k i
def fV(j:Nat):Array Value:=(Array.range 10).map fun i=>.int .i64 ((if i<j then i else 0:Nat):Int)
theorem Uj:fV 10=ten id:=by
 apply Array.ext_getElem?;intro c;by_cases h:c<10<;>simp[fV,ten,h]
theorem Uk(j:Nat):(fV j).setIfInBounds j (.int .i64 (j:Nat))=fV (j+1):=by
 apply Array.ext_getElem?;intro c;rw[Array.getElem?_setIfInBounds];by_cases e:j=c
 .subst e;by_cases hi:j<10<;>simp[fV,hi]
 .rw[if_neg e];by_cases hi:c<10<;>simp[fV,hi,show c<j+1↔c<j by omega]
theorem uC:fV 0=#[.int .i64 0,.int .i64 0,.int .i64 0,.int .i64 0,.int .i64 0,.int .i64 0,.int .i64 0,.int .i64 0,.int .i64 0,.int .i64 0]:=by
 apply Array.ext_getElem?;intro c;by_cases hi:c<10
 .have:c=0∨c=1∨c=2∨c=3∨c=4∨c=5∨c=6∨c=7∨c=8∨c=9:=by omega
  rcases this with rfl|rfl|rfl|rfl|rfl|rfl|rfl|rfl|rfl|rfl<;>simp[fV]
 .rw[Array.getElem?_eq_none (by simp[fV];omega),Array.getElem?_eq_none (by simp;omega)]
def nL(N m j k:Nat):Value:=if k<j then sl (N+2+k) m else .slice none 0 0
structure CI(v0:World)(val:Nat->Nat)(len m j:Nat)(v:World):Prop where
 ext:Ext v0 v
 ba:v.heap[v0.heap.size]?=some (.cells (allA (nL v0.heap.size m j)) 48)
 bk:v.heap[v0.heap.size+1]?=some (.cells (fV j) 117)
 rows:∀ k,k<j->v.heap[v0.heap.size+2+k]?=some (.cells (aC m (dO val len m k)) 5)
 size:v.heap.size=v0.heap.size+2+j
theorem lS{k:Nat} : cS id k=true↔10<=k:=by
 rw[yD];constructor
 .intro h;exact Nat.le_of_not_lt fun hk=>h k hk rfl
 .intro h j hj e;simp at e;omega
structure PL(v:World)(BL ol:Nat)(q:Nat->Option Addr)(ln cp:Nat->Nat)(y:Nat->Nat->Nat):Prop where
 at_:∀ k,k<14->v.cell? ⟨BL,ol+k,none⟩=some (.slice (q k) (ln k) (cp k))
 sl:∀ k,k<14->nF v (q k) (ln k) (cp k) (y k)
theorem PL.ext{v u:World}{BL ol:Nat}{q:Nat->Option Addr}{ln cp:Nat->Nat}{y:Nat->Nat->Nat}(h:PL v BL ol q ln cp y)(e:Ext v u):PL u BL ol q ln cp y:=⟨fun k hk=>e.cell (h.at_ k hk),fun k hk=>(h.sl k hk).ext e⟩
def gF(q:Nat->Option Addr)(i:Nat):Bool:=(List.range i).any fun k=>(q k).isSome
theorem Fn(q:Nat->Option Addr)(i:Nat):gF q (i+1)=(gF q i||(q i).isSome):=by simp[gF,List.range_succ]
theorem Nb{S:Nat->Prop}{v:World}(BL ol cl m:Nat)(q:Nat->Option Addr)(ln cp:Nat->Nat)(y:Nat->Nat->Nat)(hP:PL v BL ol q ln cp y)(hm:∀ k,k<14->(q k).isSome=true->ln k=m) :
  aK Tryz.prog 76 #[.slice (some ⟨BL,ol,none⟩) 14 cl] S v fun x S' v'=>x=.tuple #[.int .i64 ((if gF q 14 then m else 0:Nat):Int),.bool true]∧S'=S∧v'=v:=by
 refine dU Tryz.func76 rfl Tryz.ntmps76 fun Stop cc cs ret f h0=>?_
 repeat refine rN ?_
 refine bT (fun d f' S' v'=>∃ j,d=14 - j∧j<=14∧S'=S∧v'=v∧f' 8=.slice (some ⟨BL,ol,none⟩) 14 cl∧f' 9=.int .i64 14∧f' 10=.int .i64 (j:Nat)∧f' 4=.int .i64 ((if gF q j then m else 0:Nat):Int)∧f' 5=.bool (gF q j)) 14 ⟨0,by omega,by omega,rfl,rfl,by simp[h0],by simp,by simp,by simp[gF],by simp[gF]⟩ ?_;rintro d f' S' v' ⟨j,rfl,hj,eS,eV,g8,g9,g10,g4,g5⟩ next
 subst S' v';repeat refine rN ?_
 by_cases hlt:j<14
 .have hjI:(j:Int)<14:=by omega
  refine rX (by simp[Act.eval,g10,g9,hjI]) ?_;have hat:=hP.at_ j hlt;cases hq:q j with
  |none=>
   rw[hq]at hat;have ha:gF q (j+1)=gF q j:=by rw[Fn,hq];simp
   have HA:Hid (gF q (j+1)=gF q j):=ha;clear ha hq;repeat refine rM hat ?_
   refine rX (by simp[Act.eval]) ?_;refine bD rfl ?_;repeat refine rN ?_
   refine next _ _ _ (14 - (j+1)) (by omega) ⟨j+1,rfl,by omega,rfl,rfl,?_,?_,?_,?_,?_⟩
   .simp[g8]
   .simp[g9]
   .simp
   .simp[g4,HA.out]
   .simp[g5,HA.out]
  |some a=>
   rw[hq]at hat;have hlm:ln j=m:=hm j hlt (by rw[hq];rfl);rw[hlm]at hat;have ha:gF q (j+1)=true:=by rw[Fn,hq];simp
   have HA:Hid (gF q (j+1)=true):=ha;clear ha hq hlm;repeat refine rM hat ?_
   refine rZ (by simp[Act.eval]) ?_;cases hb:gF q j with
   |false=>
    rw[hb]at g5;simp only[hb,Bool.false_eq_true,if_false]at g4;repeat refine rN ?_
    refine rZ (by simp[Act.eval]) ?_;repeat refine rN ?_
    refine next _ _ _ (14 - (j+1)) (by omega) ⟨j+1,rfl,by omega,rfl,rfl,?_,?_,?_,?_,?_⟩
    .simp[g8]
    .simp[g9]
    .simp
    .simp[HA.out]
    .simp[HA.out]
   |true=>
    rw[hb]at g5;simp only[hb,if_true]at g4;repeat refine rN ?_
    refine rZ (by simp[Act.eval]) ?_;repeat refine rN ?_
    refine next _ _ _ (14 - (j+1)) (by omega) ⟨j+1,rfl,by omega,rfl,rfl,?_,?_,?_,?_,?_⟩
    .simp[g8]
    .simp[g9]
    .simp
    .simp[HA.out]
    .simp[HA.out]
 .obtain rfl:j=14:=by omega
  refine rZ (by simp[Act.eval,g10,g9]) ?_;refine bD rfl ?_;repeat refine rN ?_
  refine aP fun todo=>?_
  refine ret _ _ _ _ _ ?_ ⟨rfl,rfl,rfl⟩;simp[results,Tryz.results76,g4]
def bB(q:Nat->Option Addr):Nat->Nat×(Nat->Nat)
 |0=>(0,fun _=>0)
 |i+1=>if (q i).isSome=true∧(bB q i).1<10 then((bB q i).1+1,fun j=>if j=(bB q i).1 then i else(bB q i).2 j) else bB q i
theorem zaJ(q:Nat->Option Addr)(i:Nat):(bB q i).1<=10:=by
 induction i with
 |zero=>exact Nat.zero_le _
 |succ i ih=>
  unfold bB;split
  .simp only;omega
  .exact ih
theorem Is(q:Nat->Option Addr)(i:Nat):∀ j,j<(bB q i).1->(bB q i).2 j<i∧(q ((bB q i).2 j)).isSome=true∧∀ j',j'<j->(bB q i).2 j'<(bB q i).2 j:=by
 induction i with
 |zero=>intro j hj;exact absurd hj (Nat.not_lt_zero _)
 |succ i ih=>
  intro j hj;unfold bB at hj ⊢;split at hj
  .rename_i h;rw[if_pos h];simp only at hj ⊢;by_cases e:j=(bB q i).1
   .rw[if_pos e];refine⟨by omega,h.1,fun j' hj'=>?_⟩
    rw[if_neg (by omega)];exact(ih j' (by omega)).1
   .rw[if_neg e];obtain⟨h1,h2,h3⟩:=ih j (by omega);refine⟨by omega,h2,fun j' hj'=>?_⟩
    rw[if_neg (by omega)];exact h3 j' hj'
  .rename_i h;rw[if_neg h];obtain⟨h1,h2,h3⟩:=ih j hj;exact⟨by omega,h2,h3⟩
theorem Xm(kn:Nat->Nat)(c i:Nat):(ten kn).setIfInBounds c (.int .i64 (i:Nat))=ten fun j=>if j=c then i else kn j:=by
 apply Array.ext_getElem?;intro e;rw[Array.getElem?_setIfInBounds];by_cases h:c=e
 .subst h;by_cases hi:c<10<;>simp[ten,hi]
 .rw[if_neg h];by_cases hi:e<10<;>simp[ten,hi,show ¬e=c from fun x=>h x.symm]
theorem Hg(kn:Nat->Nat):(ten kn).all (·.oneCell')=true:=by
 rw[Array.all_eq_true_iff_forall_mem];intro y hy;simp[ten]at hy;obtain⟨j,_,rfl⟩:=hy;rfl
theorem Fq:fV 0=ten fun _=>0:=by
 apply Array.ext_getElem?;intro c;by_cases h:c<10<;>simp[fV,ten,h]
structure FT(v0:World)(q:Nat->Option Addr)(j:Nat)(v:World):Prop where
 ext:Ext v0 v
 r:v.heap[v0.heap.size]?=some (.cells (ten fun _=>0) 117)
 k:v.heap[v0.heap.size+1]?=some (.cells (ten (bB q j).2) 117)
 size:v.heap.size=v0.heap.size+2
theorem Pi{S:Nat->Prop}{v:World}(BL ol cl:Nat)(q:Nat->Option Addr)(ln cp:Nat->Nat)(y:Nat->Nat->Nat)(hP:PL v BL ol q ln cp y) :
  aK Tryz.prog 77 #[.slice (some ⟨BL,ol,none⟩) 14 cl] S v fun x S' v'=>x=.tuple #[.agg (ten (bB q 14).2),.bool (decide ((bB q 14).1=10))]∧S'=S∧Ext v v':=by
 refine dU Tryz.func77 rfl Tryz.ntmps77 fun Stop cc cs ret f h0=>?_
 repeat refine rN ?_
 refine cQ aB rfl rfl (by kernel_rfl) (.agg (fV 0)) rfl (by rw[uC];kernel_rfl) fun v1 hE1 hr1 hs1=>?_
 simp only[stO_some];repeat refine rN ?_
 refine cQ aB rfl rfl (by kernel_rfl) (.agg (fV 0)) rfl (by rw[uC];kernel_rfl) fun v2 hE2 hr2 hs2=>?_
 simp only[stO_some];repeat refine rN ?_
 rw[hs1]at hr2 ⊢;have hT:FT v q 0 v2:=⟨hE1.trans _ _ _ hE2,by rw[<-Fq];exact hE2.row hr1,by rw[show(bB q 0).2=fun _=>0 from rfl,<-Fq];exact hr2,by omega⟩
 refine bT (fun d f' S' v'=>∃ j,d=14 - j∧j<=14∧S'=S∧FT v q j v'∧f' 2=ptr v.heap.size∧f' 4=ptr (v.heap.size+1)∧f' 5=.int .i64 ((bB q j).1:Nat)∧f' 8=.slice (some ⟨BL,ol,none⟩) 14 cl∧f' 9=.int .i64 14∧f' 10=.int .i64 (j:Nat)) 14 ⟨0,by omega,by omega,rfl,hT,by simp,by simp,by simp[bB],by simp[h0],by simp,by simp⟩ ?_;rintro d f' S' v' ⟨j,rfl,hj,eS,hT,g2,g4,g5,g8,g9,g10⟩ next
 subst S';repeat refine rN ?_
 have hle:=zaJ q j;by_cases hlt:j<14
 .have hjI:(j:Int)<14:=by omega
  refine rX (by simp[Act.eval,g10,g9,hjI]) ?_;have hat:=hT.ext.cell (hP.at_ j hlt);cases hq:q j with
  |none=>
   rw[hq]at hat;have hf:bB q (j+1)=bB q j:=by
    rw[bB,if_neg];rw[hq];simp
   have HF:Hid (bB q (j+1)=bB q j):=hf;clear hf hq;repeat refine rM hat ?_
   refine rZ (by simp[Act.eval]) ?_;repeat refine rN ?_
   refine next _ _ _ (14 - (j+1)) (by omega) ⟨j+1,rfl,by omega,rfl,⟨hT.ext,hT.r,by rw[HF.out];exact hT.k,hT.size⟩,?_,?_,?_,?_,?_,?_⟩
   .simp[g2]
   .simp[g4]
   .simp[g5,HF.out]
   .simp[g8]
   .simp[g9]
   .simp
  |some a=>
   rw[hq]at hat;by_cases hc10:(bB q j).1<10
   .have hf:bB q (j+1)=((bB q j).1+1,fun e=>if e=(bB q j).1 then j else(bB q j).2 e):=by
     rw[bB,if_pos];rw[hq];exact⟨rfl,hc10⟩
    have HF:Hid (bB q (j+1)=((bB q j).1+1,fun e=>if e=(bB q j).1 then j else(bB q j).2 e)):=hf
    have hcI:((bB q j).1:Int)<10:=by omega
    clear hf hq;repeat refine rM hat ?_
    refine rX (by simp[Act.eval,hcI]) ?_;repeat refine rN ?_
    refine eT aB rfl rfl (by kernel_rfl) (x:=.tmp 23) (y:=.tmp 22) (g:=v.heap.size+1) (j:=(bB q j).1) (z:=.int .i64 (j:Nat)) rfl (by simp) (by simp) rfl rfl hT.k (by rw[gK];exact hc10) (by kernel_rfl) fun v3 hW=>?_
    simp only[stO_none];rw[Xm]at hW;repeat refine rN ?_
    refine next _ _ _ (14 - (j+1)) (by omega) ⟨j+1,rfl,by omega,rfl,⟨⟨by have:=hW.size;have:=hT.size;omega,fun b hb=>(hW.other b (by omega)).trans (hT.ext.block b hb),hW.os.trans hT.ext.os,hW.output.trans hT.ext.output⟩,(hW.other _ (by omega)).trans hT.r,by rw[HF.out];exact hW.at_,hW.size.trans hT.size⟩,?_,?_,?_,?_,?_,?_⟩
    .simp[g2]
    .simp[g4]
    .simp[HF.out]
    .simp[g8]
    .simp[g9]
    .simp
   .have hf:bB q (j+1)=bB q j:=by
     rw[bB,if_neg];exact fun h=>hc10 h.2
    have HF:Hid (bB q (j+1)=bB q j):=hf;have hcI:¬((bB q j).1:Int)<10:=by omega
    clear hf hq;repeat refine rM hat ?_
    refine rZ (by simp[Act.eval,hcI]) ?_;repeat refine rN ?_
    refine next _ _ _ (14 - (j+1)) (by omega) ⟨j+1,rfl,by omega,rfl,⟨hT.ext,hT.r,by rw[HF.out];exact hT.k,hT.size⟩,?_,?_,?_,?_,?_,?_⟩
    .simp[g2]
    .simp[g4]
    .simp[g5,HF.out]
    .simp[g8]
    .simp[g9]
    .simp
 .obtain rfl:j=14:=by omega
  refine rZ (by simp[Act.eval,g10,g9]) ?_;refine bD rfl ?_;repeat refine rN ?_
  refine iF aB rfl rfl (by kernel_rfl) (x:=.tmp 4) (b:=v.heap.size+1) rfl (by simp[g4]) hT.k (by kernel_rfl) (by rw[gK];kernel_rfl) ?_;simp only[stO_some];repeat refine rN ?_
  refine dF aB rfl rfl (by kernel_rfl) (x:=.tmp 2) (y:=.tmp 27) (g:=v.heap.size) (c:=ten (bB q 14).2) rfl (by simp[g2]) (by simp) hT.r (by rw[gK];kernel_rfl) (by rw[gK,gK]) (Hg _) fun v3 hW=>?_
  simp only[stO_none];repeat refine rN ?_
  refine aP fun todo=>?_
  refine ret _ _ _ _ _ ?_ ⟨rfl,rfl,⟨by have:=hW.size;have:=hT.size;omega,fun b hb=>(hW.other b (by omega)).trans (hT.ext.block b hb),hW.os.trans hT.ext.os,hW.output.trans hT.ext.output⟩⟩
  have hload:(loadVar 117 ⟨v.heap.size,0,none⟩).run Tryz.prog v3=.ok (.agg (ten (bB q 14).2)) v3:=run_loadVar_row v3 v.heap.size 117 117 _ _ _ hW.at_ Tryz.underlying117 (by simp) (by rw[gK];kernel_rfl);simp[results,Tryz.results77,g2,asAddr,hload];rw[Bool.eq_iff_iff];simp;omega
def MA(kn:Nat->Nat)(N m:Nat):Nat->Nat->Value
 |0,_=>.slice none 0 0
 |j+1,k=>if k=kn j then sl (N+2+j) m else MA kn N m j k
theorem zF{kn:Nat->Nat}{N m:Nat}(hinj:∀ j j',j<10->j'<j->kn j'<kn j):∀ (c j:Nat),c<=10->j<c->MA kn N m c (kn j)=sl (N+2+j) m
 |0,j,_,h=>absurd h (Nat.not_lt_zero _)
 |c+1,j,hc,h=>by
  unfold MA;by_cases e:j=c
  .subst e;rw[if_pos rfl]
  .have:=hinj c j (by omega) (by omega);rw[if_neg (by omega)];exact zF hinj c j (by omega) (by omega)
theorem Ic{kn:Nat->Nat}{N m k:Nat}(h:cS kn k=true):∀ c,c<=10->MA kn N m c k=.slice none 0 0
 |0,_=>rfl
 |c+1,hc=>by
  unfold MA;rw[if_neg fun e=>yD.1 h c (by omega) e.symm]
  exact Ic h c (by omega)
def mA(kn:Nat->Nat)(k:Nat):Nat:=((List.range 10).find? fun j=>kn j == k).getD 0
theorem oJ{kn:Nat->Nat}{k:Nat}(h:cS kn k=false):mA kn k<10∧kn (mA kn k)=k:=by
 obtain⟨j,hj,e⟩:=Gp h;unfold mA;cases hf:(List.range 10).find? fun j=>kn j == k with
 |none=>
  have:=List.find?_eq_none.1 hf j (by simp[hj]);simp[e]at this
 |some i=>
  have h1:=List.find?_some hf;have h2:=List.mem_of_find?_eq_some hf;simp at h1 h2;exact⟨h2,h1⟩
def nD(kn:Nat->Nat)(y:Nat->Nat->Nat)(k i:Nat):Nat:=if cS kn k=true then oX kn (fun j=>y (kn j)) k i else y k i
structure MI(v0:World)(kn:Nat->Nat)(y:Nat->Nat->Nat)(m j:Nat)(v:World):Prop where
 ext:Ext v0 v
 bk:v.heap[v0.heap.size]?=some (.cells (ten kn) 117)
 ba:v.heap[v0.heap.size+1]?=some (.cells (allA (MA kn v0.heap.size m j)) 48)
 rows:∀ i,i<j->v.heap[v0.heap.size+2+i]?=some (.cells (aC m (y (kn i))) 5)
 size:v.heap.size=v0.heap.size+2+j
theorem Zz{S:Nat->Prop}{v:World}(BL ol cl m:Nat)(q:Nat->Option Addr)(ln cp:Nat->Nat)(y:Nat->Nat->Nat)(hP:PL v BL ol q ln cp y)(hm:∀ k,k<14->(q k).isSome=true->ln k=m)(hm4:m<=400)(h10:(bB q 14).1=10)(hy:∀ k i,y k i<256)(hg:Tryz.prog.globals.size<=v.heap.size) :
  aK Tryz.prog 51 #[.slice (some ⟨BL,ol,none⟩) 14 cl] S v fun x S' v'=>∃ BA PB,x=.tuple #[sl BA 14,.int .i64 0]∧Pieces v BA PB m (nD (bB q 14).2 y) v':=by
 have hkn:=Is q 14;rw[h10]at hkn;have hany:gF q 14=true:=by
  have h:=hkn 0 (by omega);simp only[gF,List.any_eq_true];exact⟨_,by simpa using h.1,h.2.1⟩
 refine dU Tryz.func51 rfl Tryz.ntmps51 fun Stop cc cs ret f h0=>?_
 have hone:=Nb (S:=S) BL ol cl m q ln cp y hP hm;rw[if_pos hany]at hone;have hfirst:=Pi (S:=S) BL ol cl q ln cp y hP;rw[h10,decide_eq_true rfl]at hfirst;have HM:=aE hm;have HK:=aE hkn;generalize (bB q 14).2=kn at hfirst HK ret;clear hany h10 hm hkn;repeat refine rN ?_
 refine rZ (by simp[Act.eval]) ?_;repeat refine rN ?_
 refine rK Tryz.func76 (hone) ?_;rintro _ S1 w1 hv1 ⟨rfl,e1,e2⟩;subst S1 w1;have hmI:¬((400:Int)<(m:Int)):=by omega
 repeat refine rN ?_
 refine rZ (by simp[Act.eval,hmI]) ?_;repeat refine rN ?_
 refine rK Tryz.func77 (hfirst) ?_;rintro _ S1 v1 hv1 ⟨rfl,e1,hE1⟩;subst S1;repeat refine rN ?_
 refine cQ aB rfl rfl (by kernel_rfl) (.agg (fV 0)) rfl (by rw[uC];kernel_rfl) fun v2 hE2 hr2 hs2=>?_
 simp only[stO_some];repeat refine rN ?_
 refine dF aB rfl rfl (by kernel_rfl) (x:=.tmp 6) (y:=.tmp 29) (g:=v1.heap.size) (c:=ten kn) rfl (by simp) (by simp) hr2 (by rw[gK];kernel_rfl) (by rw[gK];simp[Value.cells,fV]) (Hg _) fun v3 hW3=>?_
 simp only[stO_none];repeat refine rN ?_
 refine rZ (by simp[Act.eval]) ?_;repeat refine rN ?_
 refine mM aB rfl rfl (by kernel_rfl) rfl (m:=14) (wd:=24) (z:=.slice none 0 0) rfl rfl (by omega) (by omega) (by omega) Tryz.underlying93 (by kernel_rfl) rfl fun v4 hE4 hr4 hs4=>?_
 simp only[stO_some];have hs3:v3.heap.size=v1.heap.size+1:=hW3.size.trans hs2;have hbk4:v4.heap[v1.heap.size]?=some (.cells (ten kn) 117):=hE4.row hW3.at_;repeat refine rN ?_
 refine iF aB rfl rfl (by kernel_rfl) (x:=.tmp 6) (b:=v1.heap.size) rfl (by simp) hbk4 (by kernel_rfl) (by rw[gK];kernel_rfl) ?_;simp only[stO_some];repeat refine rN ?_
 rw[hs3]at hr4 ⊢;have hP1:=hP.ext hE1;have hM:MI v1 kn y m 0 v4:=by
  refine⟨⟨by omega,fun b hb=>?_,?_,?_⟩,hbk4,?_,fun i hi=>by omega,by omega⟩
  .rw[hE4.block b (by omega),hW3.other b (by omega)];exact hE2.block b hb
  .rw[hE4.os,hW3.os];exact hE2.os
  .rw[hE4.output,hW3.output];exact hE2.output
  .rw[hr4];congr 2
 refine bT (fun d f' S' v'=>∃ j,d=10 - j∧j<=10∧S'=S∧MI v1 kn y m j v'∧f' 0=.slice (some ⟨BL,ol,none⟩) 14 cl∧f' 4=.int .i64 (m:Nat)∧f' 6=ptr v1.heap.size∧f' 8=sl (v1.heap.size+1) 14∧f' 34=.agg (ten kn)∧f' 35=.int .i64 (j:Nat)) 10 ⟨0,by omega,by omega,rfl,hM,by simp[h0],by simp,by simp,by simp,by simp,by simp⟩ ?_;rintro d f' S' v' ⟨j,rfl,hj,eS,hI,g0,g4,g6,g8,g34,g35⟩ next
 subst S';repeat refine rN ?_
 by_cases hlt:j<10
 .have hjI:(j:Int)<10:=by omega
  refine rX (by simp[Act.eval,g35,hjI]) ?_;repeat refine rN ?_
  refine Mi aB rfl rfl (by kernel_rfl) rfl (m:=j) (L:=10) (by simp[g34]) (by simp[g35]) (by kernel_rfl) hlt (rI kn j hlt) ?_;simp only[stO_some];repeat refine rN ?_
  refine mI aB rfl rfl (by kernel_rfl) rfl (m:=m) (by simp[g4]) (by simp[g4]) (by omega) (by kernel_rfl) Tryz.underlying48 fun v5 hE5 hr5 hs5=>?_
  simp only[stO_some];obtain⟨k1,k2,_⟩:=HK.out j hlt;have hkI:(kn j:Int)<14:=by omega
  have hat:=hE5.cell (hI.ext.cell (hP1.at_ (kn j) k1));have hsl:=((hP1.sl (kn j) k1).ext hI.ext).ext hE5;rw[HM.out (kn j) k1 k2]at hat hsl;obtain⟨B,off,hq,hcp,hB⟩:∃ B off,q (kn j)=some ⟨B,off,none⟩∧m<=cp (kn j)∧eA v5 B off m (y (kn j)):=by
   rcases hsl with⟨h1,_⟩|h
   .rw[h1]at k2;cases k2
   .exact h
  rw[hq]at hat;have HQ:=aE hq;clear hq;repeat refine rM hat ?_
  have hs5':v5.heap.size=v1.heap.size+2+j+1:=by rw[hs5,hI.size]
  have hr5':v5.heap[v1.heap.size+2+j]?=some (.cells (aC m fun _=>0) 5):=by rw[<-hI.size,<-oH];exact hr5
  rw[hI.size];refine tT aB rfl rfl (by kernel_rfl) rfl (d:=.tmp 40) (s:=.tmp 44) (g:=v1.heap.size+2+j) (o':=0) (dLen:=m) (dCap:=m) (b:=B) (off:=off) (sLen:=m) (sCap:=cp (kn j)) (cells:=(List.range m).map fun i=>Value.int .u8 ((y (kn j) i:Nat):Int)) (by simp) (by simp) Tryz.underlying48 (by kernel_rfl) hr5' (by simp[Nat.min_self]) (fun i z hz=>?_) (by rw[dY];simp) oL fun v6 hW6=>?_
  .obtain⟨hi,rfl⟩:=oM hz;exact hB i hi
  simp only[List.length_map,List.length_range,stO_some]at hW6 ⊢;rw[oC m 0 m (y (kn j)) (fun _=>0) (by omega),iG (g:=y (kn j)) fun i hi=>by simp[hi]]at hW6
  have hba6:v6.heap[v1.heap.size+1]?=some (.cells (allA (MA kn v1.heap.size m j)) 48):=(hW6.other _ (by omega)).trans (hE5.row hI.ba);repeat refine rN ?_
  refine eT aB rfl rfl (by kernel_rfl) (x:=.tmp 49) (y:=.tmp 48) (g:=v1.heap.size+1) (j:=kn j) (z:=sl (v1.heap.size+2+j) m) rfl (by simp) (by simp) rfl rfl hba6 (by rw[oS];exact k1) (by kernel_rfl) fun v7 hW7=>?_
  simp only[stO_none];rw[uU]at hW7;repeat refine rN ?_
  have hI7:MI v1 kn y m (j+1) v7:=by
   have hs6:=hW6.size;have hs7:=hW7.size;refine⟨⟨by omega,fun b hb=>?_,?_,?_⟩,?_,hW7.at_,fun i hi=>?_,by omega⟩
   .rw[hW7.other b (by omega),hW6.other b (by omega),hE5.block b (by have:=hI.size;omega)];exact hI.ext.block b hb
   .rw[hW7.os,hW6.os,hE5.os];exact hI.ext.os
   .rw[hW7.output,hW6.output,hE5.output];exact hI.ext.output
   .rw[hW7.other _ (by omega),hW6.other _ (by omega)];exact hE5.row hI.bk
   .by_cases e:i=j
    .subst e;rw[hW7.other _ (by omega)];exact hW6.at_
    .rw[hW7.other _ (by omega),hW6.other _ (by omega)];exact hE5.row (hI.rows i (by omega))
  refine next _ _ _ (10 - (j+1)) (by omega) ⟨j+1,rfl,by omega,rfl,hI7,?_,?_,?_,?_,?_,?_⟩
  .simp[g0]
  .simp[g4]
  .simp[g6]
  .simp[g8]
  .simp[g34]
  .simp
 .obtain rfl:j=10:=by omega
  refine rZ (by simp[Act.eval,g35]) ?_;refine bD rfl ?_;repeat refine rN ?_
  refine iF aB rfl rfl (by kernel_rfl) (x:=.tmp 6) (b:=v1.heap.size) rfl (by simp[g6]) hI.bk (by kernel_rfl) (by rw[gK];kernel_rfl) ?_;simp only[stO_some];repeat refine rN ?_
  have hinj:∀ j j',j<10->j'<j->kn j'<kn j:=fun j j' hj hj'=>(HK.out j hj).2.2 j' hj'
  have hs1:=hE1.size;have hfill:aK Tryz.prog 58 #[sl (v1.heap.size+1) 14,.agg (ten kn),.int .i64 (m:Nat)] S v' fun z S' w=>z=.tuple #[]∧∃ PB,Filled v' kn m (fun j=>y (kn j)) (MA kn v1.heap.size m 10) (v1.heap.size+1) 48 PB w:=by
   intro Stop' c' cs' hr;refine Dp (RB:=fun k=>v1.heap.size+2+k) (fun j hj=>(HK.out j hj).1) hm4 (fun j i=>hy _ _) (fun j hj=>zF hinj 10 j (Nat.le_refl _) hj) (fun k hk hl'=>Ic hl' 10 (Nat.le_refl _)) (by have:=hI.size;omega) (by omega) (fun j hj=>by omega) hI.ba hI.rows fun S' w PB hw hf=>hr _ S' w hw ⟨rfl,PB,hf⟩
  refine rK Tryz.func58 (hfill) ?_;rintro _ S5 v5 hv5 ⟨rfl,PB,hF⟩;repeat refine rN ?_
  refine aP fun todo=>?_
  refine ret _ _ S5 v5 (.tuple #[sl (v1.heap.size+1) 14,.int .i64 0]) ?_ ⟨v1.heap.size+1,fun k=>if cS kn k=true then PB k else v1.heap.size+2+mA kn k,rfl,?_⟩
  .simp[results,Tryz.results51,g8]
  .have hsI:=hI.size;have hno:∀ k,¬cS kn k=true->cS kn k=false:=fun k h=>by simpa using h
   refine⟨⟨by have:=hF.kp.size;omega,?_,?_,fun b o _ hc ht=>?_⟩,?_,fun k hk=>?_,by omega,fun k hk=>?_,fun k hk=>?_,fun k k' hk hk' e=>?_⟩
   .rw[hF.kp.os,hI.ext.os];exact hE1.os
   .rw[hF.kp.output,hI.ext.output];exact hE1.output
   .have:=(Array.getElem?_eq_some_iff.1 hc).1;exact hF.kp.objs b o (by omega) (hI.ext.row (hE1.row hc)) ht
   .rw[hF.ba];congr 2;refine mP fun c hc=>?_
    simp only[AK];by_cases e:cS kn c=true
    .simp[e,hc]
    .obtain⟨i1,i2⟩:=oJ (hno c e);simp only[e,false_and,if_false];have:=zF (m:=m) (N:=v1.heap.size) hinj 10 (mA kn c) (Nat.le_refl _) i1;rw[i2]at this;exact this
   .by_cases e:cS kn k=true
    .rw[if_pos e,show nD kn y k=oX kn (fun j=>y (kn j)) k from funext fun i=>by simp only[nD,if_pos e]]
     exact(hF.pb k hk e).2
    .obtain⟨i1,i2⟩:=oJ (hno k e);rw[if_neg e,show nD kn y k=y k from funext fun i=>by simp only[nD,if_neg e]]
     have:=hF.kp.cells _ _ _ _ (by omega) (hI.rows (mA kn k) i1);rw[i2]at this;exact this
   .by_cases e:cS kn k=true
    .simp only[if_pos e];have:=(hF.pb k hk e).1;omega
    .simp only[if_neg e];omega
   .by_cases e:cS kn k=true
    .simp only[if_pos e];have:=(hF.pb k hk e).1;omega
    .simp only[if_neg e];omega
   .by_cases h1:cS kn k=true
    .by_cases h2:cS kn k'=true
     .simp only[if_pos h1,if_pos h2]at e;rcases Nat.lt_trichotomy k k' with h|h|h
      .have:=hF.mono k k' h hk' h1 h2;omega
      .exact h
      .have:=hF.mono k' k h hk h2 h1;omega
     .simp only[if_pos h1,if_neg h2]at e;have:=(hF.pb k hk h1).1;have:=(oJ (hno k' h2)).1;omega
    .by_cases h2:cS kn k'=true
     .simp only[if_neg h1,if_pos h2]at e;have:=(hF.pb k' hk' h2).1;have:=(oJ (hno k h1)).1;omega
     .simp only[if_neg h1,if_neg h2]at e;have e1:=(oJ (hno k h1)).2;have e2:=(oJ (hno k' h2)).2;rw[<-e1,<-e2,show mA kn k=mA kn k' by omega]
def kG(p:Nat->Nat->Nat)(m e i:Nat):Nat:=if i<e then p (i / m) (i % m) else 0
theorem Sn(p:Nat->Nat->Nat)(m n j:Nat):let fl:=min (j*m) n;let o:=if n=fl then 0 else fl;let c:=min m (n - fl)
  aC n (fun i=>if o<=i∧i<o+c then p j (i - o) else kG p m fl i)=aC n (kG p m (min ((j+1)*m) n))∧o+c<=n∧fl+c=min ((j+1)*m) n∧fl<=n:=by
 intro fl o c;have e1:(j+1)*m=j*m+m:=Nat.succ_mul j m;have hfl:fl=min (j*m) n:=rfl;have ho:o=if n=fl then 0 else fl:=rfl
 have hc:c=min m (n - fl):=rfl;refine⟨iG fun i hi=>?_,?_,by omega,by omega⟩
 .by_cases e:n=fl
  .rw[if_pos e]at ho;rw[if_neg (by omega)];simp only[kG];rw[if_pos (by omega),if_pos (by omega)]
  .rw[if_neg e]at ho;have hjm:fl=j*m:=by omega
   by_cases h:o<=i∧i<o+c
   .rw[if_pos h];have hd:i / m=j:=Nat.div_eq_of_lt_le (by omega) (by omega);have hmod:i % m=i - o:=by
     have h1:=Nat.div_add_mod i m;rw[hd,Nat.mul_comm m j]at h1;omega
    simp only[kG,hd,hmod];rw[if_pos (by omega)]
   .rw[if_neg h];simp only[kG];by_cases h2:i<fl
    .rw[if_pos h2,if_pos (by omega)]
    .rw[if_neg h2,if_neg (by omega)]
 .by_cases e:n=fl
  .rw[if_pos e]at ho;omega
  .rw[if_neg e]at ho;omega
structure JI(v0:World)(BV n:Nat)(z:Nat->Nat)(v:World):Prop where
 kp:Kp v0 (fun _=>False) v
 bv:v.heap[BV]?=some (.cells (aC n z) 5)
theorem zaF{S:Nat->Prop}{v:World}(s:Value)(m n:Nat)(p:Nat->Nat->Nat)(hm:m<=400)(hn:n<=10*m)(hmend:aK Tryz.prog 51 #[s] S v fun x S' v'=>∃ BA PB,x=.tuple #[sl BA 14,.int .i64 0]∧Pieces v BA PB m p v') :
  aK Tryz.prog 55 #[s,.int .i64 (n:Nat)] S v fun x S' v'=>∃ BV,x=.tuple #[sl BV n,.int .i64 0]∧v.heap.size<=BV∧JI v BV n (fun i=>p (i / m) (i % m)) v':=by
 refine dL Tryz.func55 rfl Tryz.ntmps55 fun Stop cc cs ret f h0 h1=>?_
 repeat refine rN ?_
 refine rK Tryz.func51 (hmend) ?_;rintro _ S1 v1 hv1 ⟨BA,PB,rfl,hp⟩;have hnI:¬((n:Int)<0):=by omega
 have hnI2:¬((10:Int)*(m:Int)<(n:Int)):=by omega
 have hc0:v1.cell? ⟨BA,0,none⟩=some (sl (PB 0) m):=(cell_of_row _ BA 0 _ _ _ hp.ba).trans (jQ _ 0 (by omega));repeat refine rM hc0 ?_
 refine rZ (by simp[Act.eval]) ?_;repeat refine rM hc0 ?_
 refine rZ (by simp[Act.eval]) ?_;repeat refine rN ?_
 refine mI aB rfl rfl (by kernel_rfl) rfl (m:=n) (by simp[h1]) (by simp[h1]) (by omega) (by kernel_rfl) Tryz.underlying48 fun v2 hE2 hr2 hs2=>?_
 simp only[stO_some];repeat refine rN ?_
 have hJ:JI v1 v1.heap.size n (kG p m (min (0*m) n)) v2:=⟨(Kp.refl v1 _).ext hE2,by rw[hr2,oH,iG (g:=kG p m (min (0*m) n)) fun i hi=>by simp[kG]]⟩
 have hpb:∀ k,k<14->v1.heap[PB k]?=some (.cells (aC m (p k)) 5):=hp.pb;refine bT (fun d f' S' v'=>∃ j,d=10 - j∧j<=10∧S'=S1∧JI v1 v1.heap.size n (kG p m (min (j*m) n)) v'∧f' 8=sl v1.heap.size n∧f' 9=.int .i64 ((min (j*m) n:Nat):Int)∧f' 34=.slice (some ⟨BA,0,none⟩) 10 14∧f' 35=.int .i64 10∧f' 36=.int .i64 (j:Nat)) 10 ⟨0,by omega,by omega,rfl,hJ,by simp,by simp,by simp,by simp,by simp⟩ ?_;rintro d f' S' v' ⟨j,rfl,hj,eS,hI,g8,g9,g34,g35,g36⟩ next
 subst S';repeat refine rN ?_
 by_cases hlt:j<10
 .have hjI:(j:Int)<10:=by omega
  refine rX (by simp[Act.eval,g36,g35,hjI]) ?_;have hcj:v'.cell? ⟨BA,j,none⟩=some (sl (PB j) m):=hI.kp.cell (fun x=>x) ((cell_of_row _ BA j _ _ _ hp.ba).trans (jQ _ j (by omega)));obtain⟨hs1,hs2',hs3,hs4⟩:=Sn p m n j;obtain⟨fl,hfl⟩:∃ fl,fl=min (j*m) n:=⟨_,rfl⟩;rw[<-hfl]at hs1 hs2' hs3 hs4 g9 hI;have H1:=aE hs1;have H2:=aE hs3;clear hs1 hs3 hfl;have hflI:(fl:Int)<=(n:Int):=by omega
  repeat refine rM hcj ?_
  obtain⟨o,ho⟩:∃ o,o=if n=fl then 0 else fl:=⟨_,rfl⟩
  rw[<-ho]at H1 hs2';have eo:(if n=fl then some (⟨v1.heap.size,0,none⟩:Addr) else some ⟨v1.heap.size,fl,none⟩)=some ⟨v1.heap.size,o,none⟩:=by
   rw[ho];split<;>rfl
  rw[eo];have hPj:v'.heap[PB j]?=some (.cells (aC m (p j)) 5):=hI.kp.cells _ _ _ _ (fun x=>x) (hpb j (by omega));refine tT aB rfl rfl (by kernel_rfl) rfl (d:=.tmp 43) (s:=.tmp 44) (g:=v1.heap.size) (o':=o) (dLen:=n - fl) (dCap:=n - fl) (b:=PB j) (off:=0) (sLen:=m) (sCap:=m) (cells:=(List.range (min m (n - fl))).map fun i=>Value.int .u8 ((p j i:Nat):Int)) (by simp) (by simp) Tryz.underlying48 (by kernel_rfl) hI.bv (by simp) (fun i z hz=>?_) (by rw[dY];simp;omega) oL fun v6 hW6=>?_
  .obtain⟨hi,rfl⟩:=oM hz;rw[Nat.zero_add];exact(cell_of_row _ (PB j) i _ _ _ hPj).trans (dZ m _ i (by omega))
  simp only[List.length_map,List.length_range,stO_some]at hW6 ⊢;rw[oC n o (min m (n - fl)) (p j) _ hs2',H1.out]at hW6;have hgo:goInt ((min m (n - fl):Nat):Int)=.int .i64 ((min m (n - fl):Nat):Int):=rfl;rw[hgo];have hcm:min m (n - fl)<=400:=by omega
  have HC:=aE (show fl+min m (n - fl)=min ((j+1)*m) n from H2.out);generalize min m (n - fl)=cc' at HC hcm ⊢;clear H1 H2;repeat refine rN ?_
  refine next _ _ _ (10 - (j+1)) (by omega) ⟨j+1,rfl,by omega,rfl,⟨⟨?_,?_,?_,fun b o _ hc ht=>?_⟩,hW6.at_⟩,?_,?_,?_,?_,?_⟩
  .rw[hW6.size];exact hI.kp.size
  .rw[hW6.os];exact hI.kp.os
  .rw[hW6.output];exact hI.kp.output
  .have:=(Array.getElem?_eq_some_iff.1 hc).1;rw[hW6.other b (by omega)];exact hI.kp.objs b o (fun x=>x) hc ht
  .simp[g8]
  .simp;have:=HC.out;omega
  .simp[g34]
  .simp[g35]
  .simp
 .obtain rfl:j=10:=by omega
  refine rZ (by simp[Act.eval,g36,g35]) ?_;refine bD rfl ?_;repeat refine rN ?_
  refine aP fun todo=>?_
  refine ret _ _ S1 v' (.tuple #[sl v1.heap.size n,.int .i64 0]) ?_ ⟨v1.heap.size,rfl,hp.kp.size,⟨hp.kp.trans hI.kp,?_⟩⟩
  .simp[results,Tryz.results55,g8]
  .rw[hI.bv,iG (g:=fun i=>p (i / m) (i % m)) fun i hi=>by simp only[kG];rw[if_pos (by omega)]]
