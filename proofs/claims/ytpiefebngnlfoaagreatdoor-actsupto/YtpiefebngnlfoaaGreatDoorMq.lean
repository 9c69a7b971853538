import Derived.Test.YtpiefebngnlfoaaGreatDoorMo
set_option maxRecDepth 99999
set_option maxHeartbeats 0
set_option linter.unusedVariables false
set_option linter.unusedSimpArgs false
namespace Go.Proofs.YtpiefebngnlfoaaGreatDoor
open Go.RowKit Go.Conc Go.Vw
section
variable {Stop:Goroutine->(Nat->Prop)->World->Prop}{S:Nat->Prop}{v:World}{fn:FuncId}{cs:List Frame}{k:List Item}{n:Nat}{f:Nat->Value}{ops:Array Oper}{i:Nat}{rest:List Nat}{dst:Option Tmp}{op:Op}{ty:TypeId}{pos:String}{dw:Array Edge}{dv:Option (Nat×Bool)}{M clock:Nat}{L:List Ent}
theorem Lq{id M clock n:Nat}{L:List Ent}{e:Ent}{u:World}(hq:aQ id L 0=some (n,e))(hm:u.heap[M]?=some (bL L clock)):(Instr.lookup 77 (.map (some M)) (.int .i64 (id:Nat)) false).run Tryz.prog u=.ok (.agg (bN e)) u:=by obtain⟨inf,q1,q2⟩:=xZ;unfold Instr.lookup;simp only[df,cw Tryz.underlying77,dc,fK hm trivial,bL,List.toList_toArray,dg,rI,rS,hq];simp
theorem Ju{x y:Operand}{id n':Nat}{e:Ent}(ho:ops[i]?=some ⟨dst,op,ty,pos,dw,dv⟩)(hw:Region.wanted ⟨dst,op,ty,pos,dw,dv⟩ (yielded ops (TA n f))=true)(dm:op=.lookup 77 x y false)(hx:(⟨TA n f,[]⟩:Act).eval x=.map (some M))(hy:(⟨TA n f,[]⟩:Act).eval y=.int .i64 (id:Nat))(hq:aQ id L 0=some (n',e))(hm:v.heap[M]?=some (bL L clock))
  (hn:Vw.Reach Tryz.prog Stop (G ((base fn).at ⟨TA n (aG f dst (.agg (bN e))),[]⟩ (.inRegion ops rest::k)) cs) S v):Vw.Reach Tryz.prog Stop (G ((base fn).at ⟨TA n f,[]⟩ (.inRegion ops (i::rest)::k)) cs) S v:=by
 refine fC (by simp[base]) ho hw ?_ λu hu=>⟨.agg (bN e),u,.inl ?_,?_⟩
 .unfold execOp;simp only[dm,hx,hy];exact aA.bind (aA.lookup lO _ _ _ _ _) λ_=>aA.pure _
 .unfold execOp;simp only[dm,hx,hy,df,Lq hq ((Ext.twin hu).row hm),dc,dg]
 .rw[cC];exact Reach.twin ⟨hu.heap.symm,hu.os.symm,hu.output.symm⟩ hn
end
section
variable {X D DB DA M:Nat}{RB RA:Nat->Nat}{nd nb turn:Nat}{s:Dsk}{L:List Ent}{w w' v:World}{S:Nat->Prop}
theorem Vl(g off n:Nat)(t:Nat->Bool)(p:Nat)(hn:n<=64)(hp:p<n)(QZ:t p=false)(fq:∀j,j<p->t j=true)(hg:∀j,j<n->v.cell? ⟨g,off+j,none⟩=some (.bool (t j))):aJ Tryz.prog 69 #[.slice (some ⟨g,off,none⟩) n n,.bool false] S v λx S' v'=>x=.int .i64 (p:Nat)∧S'=S∧v'=v:=by
 refine cX Tryz.func69 rfl Tryz.ntmps69 λStop cc cs ret f g0 g1=>?_
 repeat refine rN ?_
 refine bF (λd f' S' w=>∃j,d=p-j∧j<=p∧S'=S∧w=v∧f' 0=.slice (some ⟨g,off,none⟩) n n∧f' 1=.bool false∧f' 7=.int .i64 (n:Nat)∧f' 8=.int .i64 (j:Nat)) p ⟨0,by omega,by omega,rfl,rfl,by simp[g0],by simp[g1],by simp[g0],by simp⟩ ?_;clear g0 g1 f;rintro d f S' w ⟨j,rfl,hj,eS,eW,g0,g1,g7,g8⟩ dj;subst S' w;have JL:j<n:=by omega
 have ja:(j:Int)<(n:Int):=by omega
 have cj:=hg j JL;repeat refine rN ?_
 refine rX (by simp[Act.eval,g8,g7,ja,JL]) ?_;by_cases dp:j<p
 .rw[fq j dp]at cj;repeat refine rM cj ?_
  refine rZ (by simp[Act.eval]) ?_;repeat refine rN ?_
  refine dj _ _ _ (p-(j+1)) (by omega) ⟨j+1,rfl,by omega,rfl,rfl,by simp[g0],by simp[g1],by simp[g7],by simp⟩
 .obtain rfl:j=p:=by omega
  rw[QZ]at cj;repeat refine rM cj ?_
  refine rX (by simp[Act.eval]) ?_;repeat refine rN ?_
  refine aM λtodo=>?_;refine ret _ _ _ _ (.int .i64 (j:Nat)) ?_ ⟨rfl,rfl,rfl⟩;simp[results,Tryz.results69]
def dS(b:Nat->Nat):Nat->Nat
 |0=>0
 |n+1=>if b (dS b n)<b n then n else dS b n
theorem xY(b:Nat->Nat):∀n,0<n->dS b n<n
 |1,_=>by unfold dS;split<;>(try unfold dS)<;>omega
 |n+2,_=>by have:=xY b (n+1) (by omega);unfold dS;split<;>omega
theorem Ea(b:Nat->Nat):∀n i,i<n->b i<=b (dS b n)
 |n+1,i,hi=>by
  unfold dS;by_cases e:i=n
  .subst e;split<;>omega
  .have:=Ea b n i (by omega);split<;>omega
theorem Rn(g n c:Nat)(h:Nat->Hl)(EZ:0<n)(hn:n<=64)(hb:∀i,i<n->(h i).bad<=14)(hg:v.heap[g]?=some (.cells (hA n h) 94)):aJ Tryz.prog 46 #[.slice (some ⟨g,0,none⟩) n c] S v λx S' v'=>x=.pointer (some ⟨g,dS (λi=>(h i).bad) n*3,none⟩)∧S'=S∧v'=v:=by
 obtain⟨b,MW⟩:∃b:Nat->Nat,b=λi=>(h i).bad:=⟨_,rfl⟩;rw[<-MW];have cells:∀i,i<n->v.cell? ⟨g,i*3+2,none⟩=some (.int .i64 (b i:Nat)):=λi hi=>by rw[ab _ _ _ _ _ _ hg,fN (by omega),show(i*3+2)/3=i by omega,show(i*3+2)%3=2 by omega,MW];rfl
 have I5:∀i,i<n->b i<=14:=λi hi=>by rw[MW];exact hb i hi
 clear MW;refine dX Tryz.func46 rfl Tryz.ntmps46 λStop cc cs ret f g0=>?_;have WC:(0:Int)<(n:Int):=by omega
 repeat refine rN ?_
 refine bF (λd f' S' w=>∃j q,d=n-j∧j<=n∧S'=S∧w=v∧q<n∧Hid (q=dS b j)∧f' 0=.slice (some ⟨g,0,none⟩) n c∧f' 3=.pointer (some ⟨g,q*3,none⟩)∧f' 8=.int .i64 (n:Nat)∧f' 9=.int .i64 (j:Nat)) n ⟨0,0,by omega,by omega,rfl,rfl,EZ,aP rfl,by simp[g0],by simp[g0,EZ],by simp[g0],by simp⟩ ?_;clear g0 f;rintro d f S' w ⟨j,q,rfl,hj,eS,eW,hq,HQ,g0,g3,g8,g9⟩ dj;subst S' w;repeat refine rN ?_
 by_cases dp:j<n
 .have ja:(j:Int)<(n:Int):=by omega
  have cj:=cells j dp;have cq:=cells q hq;have hbj:=I5 j dp;have hbq:=I5 q hq;refine rX (by simp[Act.eval,g9,g8,ja,dp]) ?_;repeat refine rN ?_
  refine oA aB (by first|kernel_rfl|rfl) ?_
  simp only[bh,av,cf,Nat.reduceAdd,an];refine rU 0 ?_;refine rU 1 ?_;refine rU 2 ?_;refine rU 3 ?_;co_applyP rT (i:=4) rfl (λ_ dt=>run_eq_of ?u2) ?v2
  case u2=>intro K_ dr;(have hc:=(Ext.twin dt).cell cj);go_simp;(try rw[wI _]);(try rw[wU _]);exact dr
  simp only[sS,sN];refine rU 5 ?_;refine rU 6 ?_;refine rU 7 ?_;co_applyP rT (i:=8) rfl (λ_ dt=>run_eq_of ?u4) ?v4
  case u4=>intro K_ dr;(have hc:=(Ext.twin dt).cell cq);go_simp;(try rw[wI _]);(try rw[wU _]);exact dr
  simp only[sS,sN];refine rU 9 ?_;refine oH (by first|kernel_rfl|decide +kernel) ?_ _
  by_cases GZ:b q<b j
  .have e8:((b q:Nat):Int)<((b j:Nat):Int):=by omega
   have HN:Hid (j=dS b (j+1)):=aP (by unfold dS;rw[<-HQ.out,ai GZ]);repeat refine rN ?_
   refine rX (by simp[Act.eval,e8,GZ]) ?_;repeat refine rN ?_
   refine dj _ _ _ (n-(j+1)) (by omega) ⟨j+1,j,rfl,by omega,rfl,rfl,dp,HN,by simp[g0],by simp,by simp[g8],by simp⟩
  .have e8:¬((b q:Nat):Int)<((b j:Nat):Int):=by omega
   have HN:Hid (q=dS b (j+1)):=aP (by unfold dS;rw[<-HQ.out,ah GZ]);repeat refine rN ?_
   refine rZ (by simp[Act.eval,e8,GZ]) ?_;repeat refine rN ?_
   refine dj _ _ _ (n-(j+1)) (by omega) ⟨j+1,q,rfl,by omega,rfl,rfl,hq,HN,by simp[g0],by simp[g3],by simp[g8],by simp⟩
 .obtain rfl:j=n:=by omega
  refine rZ (by simp[Act.eval,g9,g8]) ?_;refine bC rfl ?_;repeat refine rN ?_
  refine aM λtodo=>?_;refine ret _ _ _ _ (.pointer (some ⟨g,q*3,none⟩)) ?_ ⟨by rw[HQ.out],rfl,rfl⟩;simp[results,Tryz.results46]
end
def Ent.mend(e:Ent)(k:Nat):Ent:={e with good:=λj=>if j=k then true else e.good j}
def Ent.blk(e:Ent)(k:Nat):Nat->Nat:=bB e.id e.size e.turn k ((e.size+9)/10) (bJ e.val e.size k)
theorem Sn{g h:Nat->Bool}(H:∀j,g j=true->h j=true)(n:Nat):aT g n<=aT h n:=by
 unfold aT;induction n with
 |zero=>simp
 |succ n ih=>
  rw[List.range_succ,List.filter_append,List.filter_append,cd,cd];have:([n].filter g).length<=([n].filter h).length:=by
   by_cases hg:g n=true
   .simp[hg,H n hg]
   .simp[hg]
  omega
theorem vH{α : Type}{f:Ent->α}{L:List Ent}{n:Nat}{e e':Ent}(hn:L[n]?=some e)(hf:f e'=f e):(L.set n e').map f=L.map f:=by rw[List.map_set,hf];exact xS (by rw[bu,hn];rfl)
section
variable {X D DB DA M:Nat}{RB RA:Nat->Nat}{nd nb turn:Nat}{s:Dsk}{L:List Ent}{w w' v:World}{S:Nat->Prop}
theorem EntOk.mend{e:Ent}{k:Nat}{c:Nat->Nat->Nat->Nat}(h:EntOk nb turn c e)(hk:k<14):EntOk nb turn (dF c k e.slot (e.blk k)) (e.mend k):=by
 refine⟨h.id1,h.id2,h.size,h.turn,h.slot,h.val,ak h.ten (Sn (λj hj=>?_) 14),λj hj hg i hi=>?_⟩
 .show(if j=k then true else e.good j)=true;split
  .rfl
  .exact hj
 .show dF c k e.slot (e.blk k) j e.slot i=_;unfold dF;by_cases e1:j=k
  .subst e1;rw[ai ⟨rfl,rfl⟩];rfl
  .rw[ah (λq=>e1 q.1)];have ks:(if j=k then true else e.good j)=true:=hg;rw[ah e1]at ks;exact h.blk j hj ks i hi
theorem StE.mended{n k clock:Nat}{e:Ent}(h:StE X D DB DA M RB RA nd nb turn s L w)(hL:L[n]?=some e)(hk:k<14)(hx:w'.heap[X]?=some (.cells #[.pointer (some ⟨D,0,none⟩),.map (some M),.int .u64 (turn:Nat)] 80))(hm:w'.heap[M]?=some (bL (L.set n (e.mend k)) clock))(hb:∀x∈L,x.born<clock)(hD:DiskG D DB DA RB RA nd nb (s.wr k e.slot (e.blk k)) w'):StE X D DB DA M RB RA nd nb turn (s.wr k e.slot (e.blk k)) (L.set n (e.mend k)) w':=by
 have he:e∈L:=al hL;refine⟨hx,⟨clock,hm,λx hx=>?_⟩,hD,λx hx=>?_,by rw[vH (f:=λx:Ent=>x.id) (e':=e.mend k) hL rfl];exact h.ids,by rw[vH (f:=λx:Ent=>x.slot) (e':=e.mend k) hL rfl];exact h.slots,by rw[vH (f:=λx:Ent=>x.born) (e':=e.mend k) hL rfl];exact h.borns⟩
 .rcases List.mem_or_eq_of_mem_set hx with hx|rfl
  .exact hb x hx
  .exact hb e he
 .obtain⟨i,hi⟩:=List.getElem?_of_mem hx;rw[List.getElem?_set]at hi;by_cases e1:n=i
  .rw[ai e1]at hi;split at hi
   .cases hi;exact(h.ent e he).mend hk
   .cases hi
  .rw[ah e1]at hi;have AR:x∈L:=al hi;refine(h.ent x AR).more (ae _) λd j=>?_;show dF s.c k e.slot (e.blk k) d x.slot j=_;unfold dF;have dp:i<L.length:=(List.getElem?_eq_some_iff.1 hi).1;rw[ah];rintro⟨_,q⟩;have h1:(L.map (·.slot))[i]?=some x.slot:=by rw[bu,hi];rfl
   have h2:(L.map (·.slot))[n]?=some e.slot:=by rw[bu,hL];rfl
   rw[q]at h1;exact e1 ((List.getElem?_inj (by rw[bz];exact dp) h.slots).1 (h1.trans h2.symm)).symm
theorem Fh{n k clock id:Nat}{e:Ent}(hq:aQ id L 0=some (n,e)):bS L (e.mend k) clock=L.set n (e.mend k)∧iQ L (e.mend k).id clock=clock∧L[n]?=some e:=by
 obtain⟨m,h1,h2,h3⟩:=eJ hq;have hm:n=m:=by omega
 subst hm;subst h3;have qx:aQ (e.mend k).id L 0=some (n,e):=hq;refine⟨?_,?_,h2⟩
 .unfold bS;simp only[qx];rfl
 .unfold iQ;simp only[qx]
theorem Og(id n k:Nat)(e:Ent)(hq:aQ id L 0=some (n,e))(hk:k<14)(hkf:e.good k=false)(fq:∀j,j<k->e.good j=true)(hg:Tryz.prog.globals.size<=v.heap.size)(ht:turn<18446744073709551616)(jb:14<=nd)(gh:nd<=18)(eu:nb<=64)(hX:StE X D DB DA M RB RA nd nb turn s L v):aJ Tryz.prog 47 #[.pointer (some ⟨X,0,none⟩),.int .i64 (id:Nat)] S v λx S' v'=>x=.tuple #[]∧Kp v (dG X D M RB RA nd) v'∧StE X D DB DA M RB RA nd nb turn (s.wr k e.slot (e.blk k)) (L.set n (e.mend k)) v':=by
 obtain⟨clock,hm,qp⟩:=hX.map;obtain⟨_,_,VU⟩:=Fh (k:=k) (clock:=clock) hq;have he:e∈L:=al VU;have dx:=hX.ent e he;refine cX Tryz.func47 rfl Tryz.ntmps47 λStop cc cs ret f g0 g1=>?_;have c1:=hX.c1;repeat refine rM c1 ?_
 refine Ju rfl rfl rfl (x:=.tmp 11) (y:=.tmp 12) (id:=id) (by simp) (by simp) hq hm ?_;simp only[stO_some];repeat refine rN ?_
 refine cD aB rfl rfl (by kernel_rfl) (.agg (aL 0 0 0 0 λ_=>false)) rfl (by kernel_rfl) λw1 eh fg jg=>?_;simp only[stO_some];repeat refine rN ?_
 refine cS aB rfl rfl (by kernel_rfl) (x:=.tmp 4) (y:=.tmp 13) (g:=v.heap.size) (c:=bN e) rfl (by simp) (by simp) fg (by kernel_rfl) rfl (mF e) λw2 vd=>?_;simp only[stO_none];have ep:Ext v w2:=mL eh (ae _) vd;have VR:w2.heap[v.heap.size]?=some (.cells (bN e) 123):=vd.at_;have yh:=hX.ext ep;have HO:¬dG X D M RB RA nd v.heap.size:=by
  rintro(h|h|h|⟨d,hd,h|h⟩)
  .have:=(Array.getElem?_eq_some_iff.1 hX.row).1;omega
  .have:=(Array.getElem?_eq_some_iff.1 hm).1;omega
  .have:=(Array.getElem?_eq_some_iff.1 hX.dk.row).1;omega
  .have:=(Array.getElem?_eq_some_iff.1 (hX.dk.rb d hd)).1;omega
  .have:=(Array.getElem?_eq_some_iff.1 (hX.dk.ra d hd)).1;omega
 have XR:v.heap.size+1<=w2.heap.size:=by rw[vd.size];omega
 generalize hVd:v.heap.size=V at *
 repeat refine rN ?_
 refine bV aB rfl rfl (by kernel_rfl) (λu hu=>jN (x:=.tmp 4) (b:=V) rfl (by simp) ((Ext.twin hu).row VR)) ?_;simp only[stO_some];refine rK Tryz.func64 (vC e dx ht jb gh eu yh) ?_;rintro _ S1 w3 _ ⟨e1,ef,BL,PB,CP,rfl,du,OG⟩;subst S1;have FD:Tryz.prog.globals.size<=w3.heap.size:=by have:=ef.size;omega
 repeat refine rN ?_
 refine rK Tryz.func68 (yP e BL PB CP dx.size dx.val dx.ten FD ⟨du,OG⟩) ?_;rintro _ S1 w4 _ ⟨BA,PA,rfl,hP⟩;have pq:=(yh.ext ef).kp hP.kp;have J1:=hP.kp.cells _ _ _ _ (λx=>x) (ef.row VR);have xd:Kp v (λ_=>False) w4:=(aS (ep.trans _ _ _ ef)).trans hP.kp;have cG:∀j,j<14->w4.cell? ⟨V,4+j,none⟩=some (.bool (e.good j)):=λj hj=>by rw[ab _ _ _ _ _ _ J1];rcases(by omega:j=0∨j=1∨j=2∨j=3∨j=4∨j=5∨j=6∨j=7∨j=8∨j=9∨j=10∨j=11∨j=12∨j=13) with rfl|rfl|rfl|rfl|rfl|rfl|rfl|rfl|rfl|rfl|rfl|rfl|rfl|rfl<;>rfl
 have ll:(k:Int)<14:=by omega
 have cB:w4.cell? ⟨BA,k,none⟩=some (.slice (some ⟨PA k,0,none⟩) ((e.size+9)/10) ((e.size+9)/10)):=by rw[ab _ _ _ _ _ _ hP.ba];exact jC _ _ hk
 have RD:dD w4 (PA k) 0 ((e.size+9)/10) (bJ e.val e.size k):=λj hj=>by rw[ab _ _ _ _ _ _ (hP.pb k hk),an];exact eE _ _ _ hj
 repeat refine rN ?_
 refine rK Tryz.func69 (Vl V 4 14 e.good k (by omega) hk hkf fq cG) ?_;rintro _ S2 w5 _ ⟨rfl,e1,e2⟩;subst S2 w5;repeat refine rM cB ?_
 refine rK Tryz.func70 (Co V e.id e.size e.turn e.slot k ((e.size+9)/10) ((e.size+9)/10) (PA k) 0 e.good (bJ e.val e.size k) dx.id2 dx.size hk (Nat.lt_of_le_of_lt dx.turn ht) (by have:=dx.size;omega) (mR dx.val _ _) RD dx.slot jb gh eu pq.c0 pq.dk J1) ?_;rintro _ S2 w5 _ ⟨rfl,e1,lz,hD5,J0⟩;subst S2;have hXV:¬(X=V∨eH D RB RA nd X):=by
  rintro(h|h)
  .exact HO (.inl h.symm)
  .exact pq.xn h
 have l8:¬(M=V∨eH D RB RA nd M):=by
  rintro(h|h)
  .exact HO (.inr (.inl h.symm))
  .exact pq.mn.1 h
 have NY:=lz.cells _ _ _ _ hXV pq.row;have DF:w4.heap[M]?=some (bL L clock):=xd.objs _ _ (λh=>h) hm trivial;have oy:w5.heap[M]?=some (bL L clock):=lz.objs _ _ l8 DF trivial;have cx:w5.cell? ⟨X,1,none⟩=some (.map (some M)):=(ab _ _ _ _ _ _ NY).trans rfl;have I_:w5.heap[V]?=some (.cells (bN (e.mend k)) 123):=J0;have SH:(e.mend k).id=id:=by obtain⟨_,_,_,h3⟩:=eJ hq;exact h3
 repeat refine rN ?_
 refine iZ aB (by first|kernel_rfl|rfl) ?_
 simp only[bh,av,cf,Nat.reduceAdd,an];refine cU 0 ?_;refine cU 1 ?_;refine cU 2 ?_;co_applyP cT (i:=3) rfl (λ_ dt=>run_eq_of ?u3_3) ?v3_3
 case u3_3=>intro K_ dr;(have hc:=(Ext.twin dt).cell cx);go_simp;(try rw[wI _]);(try rw[wU _]);exact dr
 simp only[sS,sN];refine cU 4 ?_;co_applyP cT (i:=5) rfl (λu dt=>jN (x:=.tmp 4) (b:=V) rfl (by simp) ((Ext.twin dt).row J0)) ?v5;simp only[sS,sN];refine cL 6 ?_;refine vF rfl rfl rfl (x:=.tmp 34) (y:=.tmp 35) (z:=.tmp 36) (e:=e.mend k) (by simp) (by simp[g1,SH]) (by simp[bN,Ent.mend]) oy λw6 ku=>?_;simp only[stO_none];repeat refine rN ?_
 refine gQ ?_;obtain⟨p1,p2,p3⟩:=Fh (k:=k) (clock:=clock) hq;rw[p1,p2]at ku
 have l_:Kp v (dG X D M RB RA nd) w5:=⟨ak xd.size lz.size,lz.os.trans xd.os,lz.output.trans xd.output,λb o hb hc ht=>lz.objs b o (λh=>by
  rcases h with h|h
  .have:=(Array.getElem?_eq_some_iff.1 hc).1;omega
  .exact hb (.inr (.inr h))) (xd.objs b o (λh=>h) hc ht) ht⟩
 refine ret _ _ S1 w6 (.tuple #[]) ?_ ⟨rfl,l_.wr (.inl (.inr (.inl rfl))) ku,?_⟩
 .simp[results,Tryz.results47]
 .exact StE.mended pq p3 hk (aO ku NY (λe=>pq.mn.2.1 e.symm)) ku.at_ qp (hD5.kp ((Kp.refl w5 (λb=>b=M)).wr (.inl rfl) ku) (λe=>pq.mn.1 (.inl e.symm)) (λe=>pq.mn.2.2.1 e.symm) (λe=>pq.mn.2.2.2 e.symm) (λd hd=>⟨λe=>pq.mn.1 (.inr ⟨d,hd,.inl e.symm⟩),λe=>pq.mn.1 (.inr ⟨d,hd,.inr e.symm⟩)⟩))
end
def dP(g:Nat->Bool):Nat:=((List.range 14).find? λj=>!g j).getD 0
theorem Yc{g:Nat->Bool}(h:aT g 14<14):dP g<14∧g (dP g)=false∧∀j,j<dP g->g j=true:=by
 unfold dP;cases hf:(List.range 14).find? λj=>!g j with
 |none=>
  exfalso;rw[List.find?_eq_none]at hf;have:(List.range 14).filter g=List.range 14:=List.filter_eq_self.2 λa ha=>by have:=hf a ha;simpa using this
  unfold aT at h;rw[this,List.length_range]at h;omega
 |some k=>
  have h1:=List.mem_range.1 (List.mem_of_find?_eq_some hf);have h2:=List.find?_some hf;refine⟨h1,by simpa using h2,λj hj=>?_⟩
  obtain⟨_,i,hi,he,fa⟩:=List.find?_eq_some_iff_getElem.1 hf;simp only[List.getElem_range]at he;have:=fa j (by simp only[ao]at hj;omega);simpa using this
structure Scb where
 h:Nat->Hl
 s:Dsk
 L:List Ent
def mM(n:Nat)(x:Scb):Scb:=match aQ (x.h (dS (λj=>(x.h j).bad) n)).id x.L 0 with
 |some (m,e)=>⟨cY x.h (dS (λj=>(x.h j).bad) n) ⟨(x.h (dS (λj=>(x.h j).bad) n)).id,(x.h (dS (λj=>(x.h j).bad) n)).size,(x.h (dS (λj=>(x.h j).bad) n)).bad-1⟩,x.s.wr (dP e.good) e.slot (e.blk (dP e.good)),x.L.set m (e.mend (dP e.good))⟩
 |none=>x
def tV(n:Nat):Nat->Scb->Scb
 |0,x=>x
 |m+1,x=>mM n (tV n m x)
def cQ(h:Nat->Hl):Nat->Nat
 |0=>0
 |n+1=>cQ h n+(h n).bad
structure Tells(L:List Ent)(n:Nat)(h:Nat->Hl):Prop where
 yes:∀i,i<n->∃e∈L,h i=cM e
 all:∀e∈L,∃i,i<n∧h i=cM e
 sort:∀a b,a<b->b<n->(h a).id<(h b).id
theorem Tells.inj{L:List Ent}{n:Nat}{h:Nat->Hl}(H:Tells L n h){a b:Nat}(ha:a<n)(hb:b<n)(e:(h a).id=(h b).id):a=b:=by
 rcases Nat.lt_trichotomy a b with q|q|q
 .have:=H.sort a b q hb;omega
 .exact q
 .have:=H.sort b a q ha;omega
theorem Ft{id:Nat} : ∀{L:List Ent}{e:Ent}{i:Nat},e∈L->e.id=id->∃n e',aQ id L i=some (n,e')
 |x::L,e,i,he,hid=>by
  unfold aQ;by_cases h:x.id=id
  .simp[h]
  .rcases List.mem_cons.1 he with rfl|he
   .exact absurd hid h
   .obtain⟨n,e',q⟩:=Ft (i:=i+1) he hid;exact⟨n,e',by simp[h,q]⟩
theorem Ek{L:List Ent}{e:Ent}(hn:(L.map (·.id)).Nodup)(he:e∈L):∃n,aQ e.id L 0=some (n,e):=by obtain⟨n,e',q⟩:=Ft (i:=0) he rfl;obtain⟨m,h1,h2,h3⟩:=eJ q;have:=iF (f:=λx:Ent=>x.id) hn (al h2) he h3;subst this;exact⟨n,q⟩
theorem Vu{g:Nat->Bool}{k:Nat}(hk:k<14)(hg:g k=false):aT (λj=>if j=k then true else g j) 14=aT g 14+1:=by
 have key:∀n,k<n->aT (λj=>if j=k then true else g j) n=aT g n+1∧True:=by
  intro n;induction n with
  |zero=>intro h;omega
  |succ n ih=>
   intro h;unfold aT at *
   rw[List.range_succ,List.filter_append,List.filter_append,cd,cd];by_cases e:k=n
   .subst e;have h1:(List.range k).filter (λj=>if j=k then true else g j)=(List.range k).filter g:=List.filter_congr λx hx=>by
     have:=List.mem_range.1 hx;rw[ah (by omega)]
    rw[h1];simp[hg]
   .rw[(ih (by omega)).1];have:([n].filter λj=>if j=k then true else g j)=[n].filter g:=by
     have:¬n=k:=λq=>e q.symm;simp[List.filter_cons,this]
    rw[this];exact⟨by omega,trivial⟩
 exact(key 14 hk).1
theorem Ef{e:Ent}{k:Nat}(hk:k<14)(hg:e.good k=false):cM (e.mend k)=⟨e.id,e.size,(cM e).bad-1⟩:=by unfold cM Ent.mend;simp only[Hl.mk.injEq,true_and];rw[Vu hk hg];omega
theorem Pu{n:Nat}{x:Scb}(jr:(x.L.map (·.id)).Nodup)(H:Tells x.L n x.h)(hn:0<n)(hb:0<(x.h (dS (λj=>(x.h j).bad) n)).bad):∃m e,aQ (x.h (dS (λj=>(x.h j).bad) n)).id x.L 0=some (m,e)∧e∈x.L∧x.L[m]?=some e∧x.h (dS (λj=>(x.h j).bad) n)=cM e∧dP e.good<14∧e.good (dP e.good)=false∧(∀j,j<dP e.good->e.good j=true)∧mM n x=⟨cY x.h (dS (λj=>(x.h j).bad) n) (cM (e.mend (dP e.good))),x.s.wr (dP e.good) e.slot (e.blk (dP e.good)),x.L.set m (e.mend (dP e.good))⟩∧Tells (mM n x).L n (mM n x).h:=by
 obtain⟨i,hi⟩:∃i,i=dS (λj=>(x.h j).bad) n:=⟨_,rfl⟩;have qb:i<n:=by rw[hi];exact xY _ n hn
 obtain⟨e,he,hh⟩:=H.yes i qb;obtain⟨m,hm⟩:=Ek jr he;obtain⟨m',h1,h2,h3⟩:=eJ hm;obtain rfl:m=m':=by omega
 rw[<-hi]at hb⊢;have hid:(x.h i).id=e.id:=by rw[hh];rfl
 have b6:aT e.good 14<14:=by rw[hh]at hb;show aT e.good 14<14;have:(cM e).bad=14-aT e.good 14:=rfl;omega
 obtain⟨k1,k2,k3⟩:=Yc b6;have hs:mM n x=⟨cY x.h i (cM (e.mend (dP e.good))),x.s.wr (dP e.good) e.slot (e.blk (dP e.good)),x.L.set m (e.mend (dP e.good))⟩:=by unfold mM;rw[<-hi,hid,hm,Ef k1 k2,<-hh,hh];rfl
 refine⟨m,e,by rw[hid];exact hm,he,h2,hh,k1,k2,k3,hs,?_⟩;rw[hs];have JM:∀a,(cY x.h i (cM (e.mend (dP e.good))) a).id=(x.h a).id:=λa=>by
  unfold cY;by_cases q:a=i
  .rw[ai q,q,hid];rfl
  .rw[ah q]
 refine⟨λa ha=>?_,λy hy=>?_,λa b h1 h2=>by rw[JM,JM];exact H.sort a b h1 h2⟩
 .show ∃e'∈x.L.set m (e.mend (dP e.good)),cY x.h i (cM (e.mend (dP e.good))) a=cM e';unfold cY;by_cases q:a=i
  .rw[ai q];exact⟨_,List.mem_set (List.getElem?_eq_some_iff.1 h2).1 _,rfl⟩
  .rw[ah q];obtain⟨e',sr,H4⟩:=H.yes a ha;obtain⟨p,hp⟩:=List.getElem?_of_mem sr;refine⟨e',al (i:=p) ?_,H4⟩;rw[List.getElem?_set,ah]
   .exact hp
   .rintro rfl;rw[h2]at hp;cases hp;exact q (H.inj ha qb (by rw[H4,hh]))
 .show ∃a,a<n∧cY x.h i (cM (e.mend (dP e.good))) a=cM y;have CJ:y∈x.L.set m (e.mend (dP e.good)):=hy;obtain⟨p,hp⟩:=List.getElem?_of_mem CJ;rw[List.getElem?_set]at hp;by_cases q:m=p
  .rw[ai q]at hp;split at hp
   .cases hp;exact⟨i,qb,by unfold cY;rw[ai rfl]⟩
   .cases hp
  .rw[ah q]at hp;obtain⟨a,ha,H3⟩:=H.all y (al hp);refine⟨a,ha,?_⟩;unfold cY;rw[ah]
   .exact H3
   .rintro rfl;have W8:y.id=e.id:=by
     have:(cM y).id=(cM e).id:=by rw[<-H3,<-hh]
     exact this
    have:=iF (f:=λx:Ent=>x.id) jr (al hp) he W8;subst this;have e1:(x.L.map (·.id))[p]?=(x.L.map (·.id))[m]?:=by rw[bu,bu,hp,h2]
    exact q ((List.getElem?_inj (by rw[bz];exact(List.getElem?_eq_some_iff.1 hp).1) jr).1 e1).symm
theorem Tn(h:Nat->Hl)(i:Nat)(x:Hl):∀n,i<n->cQ (cY h i x) n+(h i).bad=cQ h n+x.bad:=by
 have off:∀n,n<=i->cQ (cY h i x) n=cQ h n:=by
  intro n;induction n with
  |zero=>intro _;rfl
  |succ n ih=>intro hn;unfold cQ;rw[ih (by omega)];unfold cY;rw[ah (by omega)]
 intro n;induction n with
 |zero=>intro h;omega
 |succ n ih=>
  intro hn;unfold cQ;by_cases e:i=n
  .subst e;rw[off i (ae _)];unfold cY;rw[ai rfl];omega
  .have:=ih (by omega);have dy:¬n=i:=by omega
   unfold cY at this⊢;rw[ah dy];omega
theorem To{h:Nat->Hl} : ∀{n:Nat},0<cQ h n->0<n∧0<(h (dS (λj=>(h j).bad) n)).bad:=by
 intro n hp;have key:∀n,0<cQ h n->∃i,i<n∧0<(h i).bad:=by
  intro n;induction n with
  |zero=>intro h;cases h
  |succ n ih=>
   intro hp;unfold cQ at hp;by_cases h0:0<(h n).bad
   .exact⟨n,by omega,h0⟩
   .obtain⟨i,h1,h2⟩:=ih (by omega);exact⟨i,by omega,h2⟩
 obtain⟨i,h1,h2⟩:=key n hp;have:=Ea (λj=>(h j).bad) n i h1;exact⟨by omega,by omega⟩
theorem yL{h:Nat->Hl}{b:Nat} : ∀n,(∀i,i<n->(h i).bad<=b)->cQ h n<=n*b
 |0,H=>by simp[cQ]
 |n+1,H=>by
  have:=yL n λi hi=>H i (by omega)
  have:=H n (by omega);unfold cQ;rw[Nat.add_mul];omega
theorem T7{n i b:Nat}{h:Nat->Hl}(hi:i<n):(hA n h).setIfInBounds (i*3+2) (.int .i64 (b:Nat))=hA n (cY h i ⟨(h i).id,(h i).size,b⟩):=by
 apply au;intro j;rw[aj];by_cases e:i*3+2=j
 .subst e;rw[ai rfl,ai (by rw[fT];omega),fN (by omega),show(i*3+2)/3=i by omega,show(i*3+2)%3=2 by omega];unfold cY;rw[ai rfl];rfl
 .rw[ah e];by_cases hj:j<n*3
  .rw[fN hj,fN hj];unfold cY;by_cases q:j/3=i
   .rw[ai q,<-q];have:j%3=0∨j%3=1:=by omega
    rcases this with z|z<;>rw[z]<;>rfl
   .rw[ah q]
  .rw[af (by rw[fT];omega),af (by rw[fT];omega)]
theorem Lst.tells{L:List Ent}{n g:Nat}{h:Nat->Hl}{v v':World}(H:Lst L n g h v v')(jr:(L.map (·.id)).Nodup):Tells L n h:=by
 have DD:∀i,i<n->h i∈(List.range n).map h:=λi hi=>List.mem_map.2 ⟨i,List.mem_range.2 hi,rfl⟩;have gh:(((List.range n).map h).map (·.id)).Nodup:=by refine(List.Perm.nodup_iff (H.perm.map _)).2 ?_;rw[List.map_map];exact jr
 refine⟨λi hi=>?_,λe he=>?_,λa b yg hb=>?_⟩
 .obtain⟨e,he,hh⟩:=List.mem_map.1 (H.perm.mem_iff.1 (DD i hi));exact⟨e,he,hh.symm⟩
 .obtain⟨i,hi,hh⟩:=List.mem_map.1 (H.perm.mem_iff.2 (List.mem_map.2 ⟨e,he,rfl⟩));exact⟨i,List.mem_range.1 hi,hh⟩
 .have h1:=H.sort a b yg hb;have:(h a).id≠(h b).id:=λe=>by
   have e1:(((List.range n).map h).map (·.id))[a]?=(((List.range n).map h).map (·.id))[b]?:=by rw[bu,bu,bu,bu,List.getElem?_range (by omega),List.getElem?_range hb];simp[e]
   have:=(List.getElem?_inj (by simp;omega) gh).1 e1;omega
  omega
section
variable {X D DB DA M:Nat}{RB RA:Nat->Nat}{nd nb turn:Nat}{s:Dsk}{L:List Ent}{w w' v:World}{S:Nat->Prop}
theorem StE.gnew(h:StE X D DB DA M RB RA nd nb turn s L w){g:Nat}{c:Array Value}(hg:w.heap[g]?=some (.cells c 94)):¬dG X D M RB RA nd g:=by
 rintro(e|e|e|⟨d,hd,e|e⟩)
 .exact bP hg h.row (by decide) e
 .obtain⟨cl,hm,_⟩:=h.map;exact iP hm hg e.symm
 .exact bP hg h.dk.row (by decide) e
 .exact bP hg (h.dk.rb d hd) (by decide) e
 .exact bP hg (h.dk.ra d hd) (by decide) e
theorem StE.wrH(h:StE X D DB DA M RB RA nd nb turn s L w){g:Nat}{c:Array Value}{o:Obj}(hg:w.heap[g]?=some (.cells c 94))(hW:Wr w g o w'):StE X D DB DA M RB RA nd nb turn s L w':=by have hn:=h.gnew hg;refine⟨aO hW h.row (λe=>hn (.inl e.symm)),let ⟨cl,q1,q2⟩:=h.map;⟨cl,aO hW q1 (λe=>hn (.inr (.inl e.symm))),q2⟩,h.dk.kp ((Kp.refl w (λb=>b=g)).wr (.inl rfl) hW) (λe=>hn (.inr (.inr (.inl e.symm)))) (bP h.dk.db hg (by decide)) (bP h.dk.da hg (by decide)) (λd hd=>⟨λe=>hn (.inr (.inr (.inr ⟨d,hd,.inl e.symm⟩))),λe=>hn (.inr (.inr (.inr ⟨d,hd,.inr e.symm⟩)))⟩),h.ent,h.ids,h.slots,h.borns⟩
theorem Tx(num:Int)(sg:-9223372036854775808<=num)(H0:num<9223372036854775808)(hL:L.length<=64)(hg:Tryz.prog.globals.size<=v.heap.size)(ht:turn<18446744073709551616)(jb:14<=nd)(gh:nd<=18)(eu:nb<=64)(hX:StE X D DB DA M RB RA nd nb turn s L v):aJ Tryz.prog 20 #[.pointer (some ⟨X,0,none⟩),.int .i64 num] S v λx S' v'=>∃n h,Tells L n h∧n=L.length∧x=.int .i64 ((cQ h n-min num.toNat (cQ h n):Nat):Int)∧Kp v (dG X D M RB RA nd) v'∧StE X D DB DA M RB RA nd nb turn (tV n (min num.toNat (cQ h n)) ⟨h,s,L⟩).s (tV n (min num.toNat (cQ h n)) ⟨h,s,L⟩).L v':=by
 refine cX Tryz.func20 rfl Tryz.ntmps20 λStop cc cs ret f g0 g1=>?_
 repeat refine rN ?_
 refine rK Tryz.func39 (Gw hL hX) ?_;rintro _ S1 w1 _ ⟨e1,n,g,h,rfl,zj⟩;subst S1;have HT:=zj.tells hX.ids;have YY:n<=64:=by rw[zj.len];exact hL
 have ss:=hX.kp zj.kp;have du:=zj.row;have qn:=zj.kp;have ZQ:=zj.new;have OJ:=aP zj.len;have M7:=aP HT;have HD:∀i,i<n->(h i).bad<=14:=λi hi=>by obtain⟨e,_,he⟩:=HT.yes i hi;rw[he];show 14-aT e.good 14<=14;omega
 clear zj;repeat refine rN ?_
 refine bF (λd f' S' w=>∃j,d=n-j∧j<=n∧S'=S∧Ext w1 w∧f' 0=.pointer (some ⟨X,0,none⟩)∧f' 1=.int .i64 num∧f' 5=.slice (some ⟨g,0,none⟩) n n∧f' 12=.slice (some ⟨g,0,none⟩) n n∧f' 13=.int .i64 (n:Nat)∧f' 14=.int .i64 (j:Nat)∧f' 6=.int .i64 ((cQ h j:Nat):Int)) n ⟨0,by omega,by omega,rfl,.refl _,by simp[g0],by simp[g1],by simp,by simp,by simp,by simp,by simp[cQ]⟩ ?_;clear g0 g1 f;rintro d f S' w ⟨j,rfl,hj,eS,fj,g0,g1,g5,g12,g13,g14,g6⟩ dj;subst S';repeat refine rN ?_
 by_cases dp:j<n
 .have ja:(j:Int)<(n:Int):=by omega
  have hbj:=HD j dp;have E7:cQ h j<=j*14:=yL j λi hi=>HD i (by omega);have xq:((cQ h (j+1):Nat):Int)=((cQ h j:Nat):Int)+(((h j).bad:Nat):Int):=by simp[cQ]
  have HS:=aP xq;clear xq;refine rX (by simp[Act.eval,g14,g13,ja,dp]) ?_;repeat refine rN ?_
  refine bV aB rfl rfl (by kernel_rfl) (λu hu=>Dp (x:=.tmp 16) (b:=g) (n:=n) (j:=j) (h:=h) rfl (by simp) ((Ext.twin hu).row (fj.row du)) dp) ?_;simp only[stO_some];repeat refine rN ?_
  refine cD aB rfl rfl (by kernel_rfl) (.agg (bR ⟨0,0,0⟩)) rfl (by kernel_rfl) λw2 ep ko pj=>?_;simp only[stO_some];repeat refine rN ?_
  refine cS aB rfl rfl (by kernel_rfl) (x:=.tmp 8) (y:=.tmp 17) (g:=w.heap.size) (c:=bR (h j)) rfl (by simp) (by simp) ko (by kernel_rfl) rfl (by simp[bR,Value.oneCell']) λw3 fz=>?_;simp only[stO_none];have c2:w3.cell? ⟨w.heap.size,2,none⟩=some (.int .i64 ((h j).bad:Nat)):=(ab _ _ _ _ _ _ fz.at_).trans rfl;have ef:Ext w w3:=mL ep (ae _) fz;repeat refine rM c2 ?_
  refine dj _ _ _ (n-(j+1)) (by omega) ⟨j+1,rfl,by omega,rfl,fj.trans _ _ _ ef,by simp[g0],by simp[g1],by simp[g5],by simp[g12],by simp[g13],by simp,by simp[HS.out]⟩
 .obtain rfl:j=n:=by omega
  refine rZ (by simp[Act.eval,g14,g13]) ?_;refine bC rfl ?_;repeat refine rN ?_
  have rp:=qn.ext fj;have jq:=ss.ext fj;have LG:=fj.row du;obtain⟨sm,UZ⟩:∃sm,sm=cQ h j:=⟨_,rfl⟩;have E6:sm<=64*14:=by rw[UZ];exact ak (yL j HD) (Nat.mul_le_mul_right _ YY)
  rw[<-UZ]at g6;obtain⟨m,hm⟩:∃m,m=min num.toNat sm:=⟨_,rfl⟩;have HM:=aP hm;have z8:=aP UZ;clear hm UZ;refine bF (λd f' S' w=>∃k x,d=m-k∧k<=m∧Hid (x=tV j k ⟨h,s,L⟩)∧Hid (cQ x.h j=sm-k)∧Tells x.L j x.h∧Kp v (dG X D M RB RA nd) w∧StE X D DB DA M RB RA nd nb turn x.s x.L w∧w.heap[g]?=some (.cells (hA j x.h) 94)∧f' 0=.pointer (some ⟨X,0,none⟩)∧f' 1=.int .i64 (num-(k:Nat))∧f' 5=.slice (some ⟨g,0,none⟩) j j∧f' 6=.int .i64 ((sm-k:Nat):Int)) m ⟨0,_,by omega,by omega,aP rfl,aP z8.out.symm,HT,rp.mono λ_ h=>h.elim,jq,LG,by simp[g0],by simp[g1],by simp[g5],by simp[g6]⟩ ?_;clear g0 g1 g5 g6 g12 g13 g14 f dj rp jq LG HT fj HD;rintro d f S' w ⟨k,x,rfl,hk,HX,HB,HT,rp,jq,LG,g0,g1,g5,g6⟩ dj;by_cases OM:k<m
  .have hm:=HM.out;have YV:(0:Int)<num-(k:Int):=by omega
   have hnJ:(k:Int)<num:=by omega
   have hnK:k<sm:=by omega
   have XW:(0:Int)<((sm-k:Nat):Int):=by omega
   have E8:0<sm-k:=by omega
   have me:0<cQ x.h j:=by rw[HB.out];exact E8
   obtain⟨ZK,lq⟩:=To me;obtain⟨m1,e,q1,q2,q3,q4,q5,q6,q7,q8,q9⟩:=Pu jq.ids HT ZK lq;have VE:=xY (λi=>(x.h i).bad) j ZK;have vb:∀i,i<j->(x.h i).bad<=14:=λi hi=>by obtain⟨e,_,he⟩:=HT.yes i hi;rw[he];show 14-aT e.good 14<=14;omega
   have gx:=vb _ VE;have IW:IntKind.i64.wrap (num-(k:Int)-1)=num-((k+1:Nat):Int):=by rw[IntKind.wrap_i64];omega
   have D_:((sm-k:Nat):Int)-1=((sm-(k+1):Nat):Int):=by omega
   have HW1:=aP IW;have HW2:=aP D_;clear IW D_ hm;have hgx:Tryz.prog.globals.size<=w.heap.size:=ak hg rp.size;repeat refine rN ?_
   refine rX (by simp[Act.eval,YV,hnJ,hnK,XW,E8]) ?_;repeat refine rN ?_
   refine rK Tryz.func46 (Rn g j j x.h ZK (by omega) vb LG) ?_;rintro _ S1 w2 _ ⟨rfl,e1,e2⟩;subst S1 w2;obtain⟨i,hi⟩:∃i,i=dS (λi=>(x.h i).bad) j:=⟨_,rfl⟩;rw[<-hi]at lq q1 q4 q8 VE gx⊢;have HI:=aP hi;have HQ4:=aP q4;clear hi q4;have ci:w.cell? ⟨g,i*3,none⟩=some (.int .i64 ((x.h i).id:Nat)):=by rw[ab _ _ _ _ _ _ LG,fN (by omega),show i*3/3=i by omega,show i*3%3=0 by omega];rfl
   repeat refine rM ci ?_
   refine rK Tryz.func47 (Og (x.h i).id m1 (dP e.good) e q1 q5 q6 q7 hgx ht jb gh eu jq) ?_;rintro _ S1 w2 _ ⟨rfl,iu,yh⟩;have LF:=iu.cells _ _ _ _ (jq.gnew LG) LG;have cb:w2.cell? ⟨g,i*3+2,none⟩=some (.int .i64 ((x.h i).bad:Nat)):=by rw[ab _ _ _ _ _ _ LF,fN (by omega),show(i*3+2)/3=i by omega,show(i*3+2)%3=2 by omega];rfl
   have X3:IntKind.i64.wrap ((((x.h i).bad:Nat):Int)-1)=(((x.h i).bad-1:Nat):Int):=by rw[IntKind.wrap_i64];omega
   repeat refine rM cb ?_
   refine dQ aB rfl rfl (by kernel_rfl) (x:=.tmp 45) (y:=.tmp 43) (g:=g) (j:=i*3+2) (z:=.int .i64 (((x.h i).bad-1:Nat):Int)) rfl (by simp) (by simp[X3]) rfl rfl LF (by rw[fT];omega) (by kernel_rfl) λw3 fz=>?_;simp only[stO_none];rw[T7 VE]at fz;have CK:(⟨(x.h i).id,(x.h i).size,(x.h i).bad-1⟩:Hl)=cM (e.mend (dP e.good)):=by rw[Ef q5 q6,HQ4.out];rfl
   rw[CK]at fz;have XX:=fz.at_;have MX:=yh.wrH LF fz;have KH:Kp v (dG X D M RB RA nd) w3:=(rp.trans iu).wr (.inr ZQ) fz;have xq:cQ (cY x.h i (cM (e.mend (dP e.good)))) j=sm-(k+1):=by have h1:=Tn x.h i (cM (e.mend (dP e.good))) j VE;rw[HB.out,<-CK]at h1;rw[<-CK];have h2:(⟨(x.h i).id,(x.h i).size,(x.h i).bad-1⟩:Hl).bad=(x.h i).bad-1:=rfl;omega
   repeat refine rN ?_
   refine dj _ _ _ (m-(k+1)) (by omega) ⟨k+1,mM j x,rfl,by omega,aP (by rw[HX.out];rfl),aP (by rw[q8];exact xq),q9,KH,by rw[q8];exact MX,by rw[q8];exact XX,by simp[g0],by simp[g1];omega,by simp[g5],by simp[g6,HW2.out]⟩
  .obtain rfl:k=m:=by omega
   have hm:=HM.out;have zw:k=min num.toNat (cQ h j):=by rw[hm,z8.out]
   have hx:=HX.out;have pj:(sm-k:Nat)=cQ h j-min num.toNat (cQ h j):=by rw[z8.out,<-zw]
   rw[hx,zw]at jq;have HP:=aP jq;have M9:=aP pj;by_cases EZ:(k:Int)<num
   .have xr:¬k<sm:=by omega
    have jg:((sm-k:Nat):Int)=0:=by omega
    have ma:sm-k=0:=by omega
    clear hm zw hx jq pj;repeat refine rN ?_
    refine rZ (by simp[Act.eval,EZ,xr,jg,ma]) ?_;refine bC rfl ?_;repeat refine rN ?_
    refine aM λtodo=>?_;refine ret _ _ S' w (.int .i64 ((sm-k:Nat):Int)) ?_ ⟨j,h,M7.out,OJ.out,by rw[M9.out],rp,HP.out⟩;simp[results,Tryz.results20,jg,ma]
   .have YZ:¬(0:Int)<num-(k:Int):=by omega
    clear hm zw hx jq pj;repeat refine rN ?_
    refine rZ (by simp[Act.eval,EZ,YZ]) ?_;refine bC rfl ?_;repeat refine rN ?_
    refine aM λtodo=>?_;refine ret _ _ S' w (.int .i64 ((sm-k:Nat):Int)) ?_ ⟨j,h,M7.out,OJ.out,by rw[M9.out],rp,HP.out⟩;simp[results,Tryz.results20,g6]
end
