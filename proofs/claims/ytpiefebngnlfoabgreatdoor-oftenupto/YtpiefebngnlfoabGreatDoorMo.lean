import Derived.Test.YtpiefebngnlfoabGreatDoorMm
set_option maxRecDepth 99999
set_option maxHeartbeats 0
set_option linter.unusedVariables false
set_option linter.unusedSimpArgs false
namespace Go.Proofs.YtpiefebngnlfoabGreatDoor
open Go.RowKit Go.Conc Go.Vw
def bI(s:ByteArray)(i:Nat):Nat:=(s.data[i]?.getD 0).toNat
theorem sD(s:ByteArray)(i:Nat):bI s i<256:=(s.data[i]?.getD 0).toNat_lt
theorem zL{s:ByteArray}{i:Nat}(h:s.size<=i):bI s i=0:=by
 unfold bI;rw[Array.getElem?_eq_none (show s.data.size<=i from h)];rfl
theorem Nh{s:ByteArray}{a i:Nat}(ha:a<=s.size):bI (s.extract a s.size) i=bI s (a+i):=by
 unfold bI;rw[ByteArray.data_extract,Array.getElem?_extract];have e:s.data.size=s.size:=rfl;by_cases h:i<s.size - a
 .rw[if_pos (by omega)]
 .rw[if_neg (by omega),Array.getElem?_eq_none (by omega)]
def dS(w:World)(B n:Nat)(T:Nat->ByteArray):Prop:=∀ j,j<n->w.cell? ⟨B,j,none⟩=some (.string (T j))
theorem dS.ext{w w':World}{B n:Nat}{T:Nat->ByteArray}(h:dS w B n T)(hE:Ext w w'):dS w' B n T:=fun j hj=>hE.cell (h j hj)
structure TextsOk(n nb:Nat)(T:Nat->ByteArray):Prop where
 len:∀ j,j<n->(T j).size=0∨(T j).size=nb*96
 some:∃ j,j<n∧(T j).size=nb*96
theorem zI{z:Nat->Nat}{N:Nat} : ∀ n,(∀ j,j<n->z j=0∨z j=N)->okZ z n=true∧(eX z n=0∨eX z n=N)∧((∃ j,j<n∧z j=N)->eX z n=N)
 |0,_=>⟨rfl,.inl rfl,fun⟨j,hj,_⟩=>absurd hj (by omega)⟩
 |n+1,h=>by
  obtain⟨h1,h2,h3⟩:=zI n fun j hj=>h j (by omega)
  have hn:=h n (by omega);rw[yB];unfold okZ;refine⟨?_,?_,?_⟩
  .rw[h1];simp;omega
  .split<;>omega
  .rintro⟨j,hj,hz⟩;by_cases e:j=n
   .subst e;split<;>omega
   .have:=h3 ⟨j,by omega,hz⟩;split<;>omega
theorem Wp{s:ByteArray}(h:s.size=0):s=ByteArray.mk #[]:=by
 cases s with
 |mk d=>
  have:d.size=0:=h;rw[Array.eq_empty_of_size_eq_zero this]
theorem Sd{S:Nat->Prop}{v:World}(B n c nb:Nat)(T:Nat->ByteArray)(hn:n<2 ^ 62)(hnb:nb<=64)(hO:TextsOk n nb T)(hT:dS v B n T) :
  aI Tryz.prog 62 #[.slice (some ⟨B,0,none⟩) n c] S v fun x S' v'=>x=.tuple #[.int .i64 ((nb*96:Nat):Int),.bool true]∧S'=S∧v'=v:=by
 obtain⟨z,hz⟩:∃ z:Nat->Nat,z=fun j=>(T j).size:=⟨_,rfl⟩
 have hzj:∀ j,z j=(T j).size:=fun j=>by rw[hz]
 have hall:=zI (z:=z) (N:=nb*96) n fun j hj=>by rw[hzj];exact hO.len j hj
 have hfin:eX z n=nb*96:=hall.2.2 (let ⟨j,h1,h2⟩:=hO.some;⟨j,h1,by rw[hzj];exact h2⟩);have HF:=aJ hfin;clear hall hfin hz;refine dX Tryz.func62 rfl Tryz.ntmps62 fun Stop cc cs ret f g0=>?_
 repeat refine rN ?_
 refine bR (fun d f' S' w=>∃ j,d=n - j∧j<=n∧S'=S∧w=v∧f' 7=.slice (some ⟨B,0,none⟩) n c∧f' 8=.int .i64 (n:Nat)∧f' 9=.int .i64 (j:Nat)∧f' 4=.int .i64 ((eX z j:Nat):Int)) n ⟨0,by omega,by omega,rfl,rfl,by simp[g0],by simp[g0],by simp,by simp[eX]⟩ ?_;clear g0 f;rintro d f S' w ⟨j,rfl,hj,eS,eW,g7,g8,g9,g4⟩ nxt;subst S' w;repeat refine rN ?_
 by_cases hlt:j<n
 .have hjI:(j:Int)<(n:Int):=by omega
  have hs:=hT j hlt;have hlen:=hO.len j hlt;have hf:=(zI (z:=z) (N:=nb*96) j fun i hi=>by rw[hzj];exact hO.len i (by omega)).2.1
  have hzz:=hzj j;generalize hTs:T j=s at hs hlen hzz;clear hTs;refine rX (by simp[Act.eval,g9,g8,hjI,hlt]) ?_;by_cases hz0:s.size=0
  .have hs0:=Wp hz0;subst hs0;repeat refine rM hs ?_
   refine rX (by simp[Act.eval]) ?_;refine bB rfl ?_;repeat refine rN ?_
   have n2:eX z (j+1)=eX z j:=by
    rw[yB];split
    .rfl
    .omega
   refine nxt _ _ _ (n - (j+1)) (by omega) ⟨j+1,rfl,by omega,rfl,rfl,by simp[g7],by simp[g8],by simp,by simp[g4,n2]⟩
  .have hs0:¬s.toList=[]:=Qb (by omega);have n2:eX z (j+1)=s.size:=by
    rw[yB];split<;>omega
   have HN2:=aJ n2;have HZ:=aJ hzz;by_cases hf0:eX z j=0
   .rw[hf0]at g4;clear n2 hzz hf hlen hz0;repeat refine rM hs ?_
    refine rZ (by simp[Act.eval,hs0]) ?_;repeat refine rN ?_
    refine rZ (by simp[Act.eval]) ?_;repeat refine rN ?_
    refine nxt _ _ _ (n - (j+1)) (by omega) ⟨j+1,rfl,by omega,rfl,rfl,by simp[g7],by simp[g8],by simp,by simp[HN2.out]⟩
   .have hfI:¬((eX z j:Nat):Int)=0:=by omega
    have heI:((s.size:Nat):Int)=((eX z j:Nat):Int):=by omega
    have heN:s.size=eX z j:=by omega
    clear n2 hzz hf hlen hz0;repeat refine rM hs ?_
    refine rZ (by simp[Act.eval,hs0]) ?_;repeat refine rN ?_
    refine rZ (by simp[Act.eval,hfI,hf0,heI,heN]) ?_;repeat refine rN ?_
    refine nxt _ _ _ (n - (j+1)) (by omega) ⟨j+1,rfl,by omega,rfl,rfl,by simp[g7],by simp[g8],by simp,by simp[HN2.out,heN]⟩
 .obtain rfl:j=n:=by omega
  refine rZ (by simp[Act.eval,g9,g8]) ?_;refine bB rfl ?_;repeat refine rN ?_
  refine aO fun todo=>?_
  refine ret _ _ _ _ (.tuple #[.int .i64 ((eX z j:Nat):Int),.bool true]) ?_ ⟨by rw[HF.out],rfl,rfl⟩;simp[results,Tryz.results62]
def pJ(y:Nat->Nat)(off k:Nat)(x:ByteArray)(i:Nat):Nat:=if off<=i∧i<off+k then bI x (i - off) else y i
theorem Nn{x:ByteArray}{k:Nat}(hk:k<=x.size):(x.data.toList.take k).map (fun b=>Value.int .u8 (b.toNat:Int))=(List.range k).map fun j=>Value.int .u8 ((bI x j:Nat):Int):=by
 apply List.ext_getElem?;intro i;have e:x.data.size=x.size:=rfl;rw[List.getElem?_map,List.getElem?_map,List.getElem?_take];by_cases h:i<k
 .rw[if_pos h,List.getElem?_range h,Array.getElem?_toList];have hx:=Array.getElem?_eq_getElem (xs:=x.data) (i:=i) (by omega);rw[hx];simp only[Option.map_some,bI];rw[hx];rfl
 .rw[if_neg h,List.getElem?_eq_none (by simp;omega)];rfl
theorem Me{S:Nat->Prop}{v:World}{Stop:Goroutine->(Nat->Prop)->World->Prop}{fn:FuncId}{cs:List Frame}{k:List Item}{n:Nat}{f:Nat->Value}{ops:Array Oper}{i:Nat}{rest:List Nat}{dst:Option Tmp}{op:Op}{ty:TypeId}{pos:String}{aft:Array Edge}{grd:Option (Nat×Bool)}
  (ho:ops[i]?=some ⟨dst,op,ty,pos,aft,grd⟩) (hw:Region.wanted ⟨dst,op,ty,pos,aft,grd⟩ (yielded ops (TA n f))=true) (hok:bW Tryz.prog FG ⟨dst,op,ty,pos,aft,grd⟩=true) {d s:Operand} {g off cp N:Nat} {y:Nat->Nat} {x:ByteArray}
  (hop:op=Op.call {callee:=Callee.builtin Builtin.copy,args:=#[d,s],argTypes:=#[48,9]}) (hd:(⟨TA n f,[]⟩:Act).eval d=.slice (some ⟨g,off,none⟩) 96 cp) (hs:(⟨TA n f,[]⟩:Act).eval s=.string x) (hrow:v.heap[g]?=some (.cells (aC N y) 107)) (hfit:off+96<=N)
  (hn:∀ v',Wr v g (.cells (aC N (pJ y off (min x.size 96) x)) 107) v'->Vw.Reach Tryz.prog Stop (G ((base fn).at ⟨TA n (aF f dst (goInt ((min x.size 96:Nat):Int))),[]⟩ (.inRegion ops rest :: k)) cs) S v') :
  Vw.Reach Tryz.prog Stop (G ((base fn).at ⟨TA n f,[]⟩ (.inRegion ops (i :: rest) :: k)) cs) S v:=by
 obtain⟨q,hq⟩:∃ q,q=min x.size 96:=⟨_,rfl⟩;rw[<-hq]at hn;have hsp:((aC N y).toList.take off++(List.range q).map (fun j=>Value.int .u8 ((bI x j:Nat):Int))++(aC N y).toList.drop (off+q)).toArray=aC N (pJ y off q x):=nY N off q (bI x) y (by omega);refine kJ aB ho hw hok (x:=goInt ((q:Nat):Int)) (fun u hu=>⟨_,mA hu g (aC N (pJ y off q x)),.inl ?_⟩) (hn _ (jT hrow));obtain⟨ib,zb,ib1,ib2,ib3,ib4,ib5⟩:=vQ
 have hst:=run_storeCells_at (P:=Tryz.prog) g off 107 ((List.range q).map fun j=>Value.int .u8 ((bI x j:Nat):Int)) 0 (aC N y) u ((Ext.twin hu).row hrow) (by rw[List.length_map,List.length_range,eA];omega) (by
  intro z hz;obtain⟨j,_,rfl⟩:=List.mem_map.1 hz
  rfl)
 rw[List.length_map,List.length_range,Nat.add_zero,hsp]at hst;have hrun:(Builtin.copy_ #[48,9] ty #[.slice (some ⟨g,off,none⟩) 96 cp,.string x]).run Tryz.prog u=.ok (goInt ((q:Nat):Int)) (u.setRow g (aC N (pJ y off q x))):=by
  have hmn:Nat.min x.size 96=q:=hq.symm;have hmn2:min x.size 96=q:=hq.symm;have hcl:=Nn (x:=x) (k:=q) (by omega);simp[Builtin.copy_,run_underlying Tryz.underlying48,Builtin.lenOf,sizeOf,typeInfo,ib1,ib3,Builtin.firstCells,hmn,hmn2];rw[<-hcl]at hst;simp only[List.map_take]at hst;rw[hst];rfl
 generalize (Act.eval ⟨TA n f,[]⟩)=ρ at hd hs ⊢;unfold execOp;simp[hop,hd,hs,resolve,invoke,builtin,hrun]
structure AllG(v:World)(DB n j nb:Nat)(RB:Nat->Nat)(T:Nat->ByteArray)(w:World):Prop where
 ext:Ext v w
 new:v.heap.size<=DB
 row:w.heap[DB]?=some (.cells (iI n j nb RB) 105)
 blk:∀ i,i<j->DB<RB i∧w.heap[RB i]?=some (.cells (aC (nb*96) (bI (T i))) 107)
 inj:∀ i i',i<j->i'<j->RB i=RB i'->i=i'
theorem AllG.step{v w w1 w2 w3:World}{DB n j nb:Nat}{RB:Nat->Nat}{T:Nat->ByteArray}(h:AllG v DB n j nb RB T w)(hj:j<n)(hE:Ext w w1)(hW:Wr w1 DB (.cells ((iI n j nb RB).setIfInBounds j (.slice (some ⟨w.heap.size,0,none⟩) nb nb)) 105) w2)(hE2:Ext v w2->Ext v w3)(h3:∀ b,b≠w.heap.size->w3.heap[b]?=w2.heap[b]?)(hg:w3.heap[w.heap.size]?=some (.cells (aC (nb*96) (bI (T j))) 107)) :
  AllG v DB n (j+1) nb (fun i=>if i=j then w.heap.size else RB i) T w3:=by
 have hlt:DB<w.heap.size:=(Array.getElem?_eq_some_iff.1 h.row).1;rw[xY hj]at hW;have hlt':∀ i,i<j->RB i<w.heap.size:=fun i hi=>(Array.getElem?_eq_some_iff.1 (h.blk i hi).2).1
 refine⟨hE2 (mU (h.ext.trans _ _ _ hE) h.new hW),h.new,(h3 _ (by omega)).trans hW.at_,fun i hi=>?_,fun i i' hi hi' e=>?_⟩
 rotate_left
 .by_cases e1:i=j
  .by_cases e2:i'=j
   .rw[e1,e2]
   .simp only[e1,e2,if_true,if_false]at e;have:=hlt' i' (by omega);omega
  .by_cases e2:i'=j
   .simp only[e1,e2,if_true,if_false]at e;have:=hlt' i (by omega);omega
   .simp only[e1,e2,if_false]at e;exact h.inj i i' (by omega) (by omega) e
 by_cases e:i=j
 .subst e;simp only[if_true];exact⟨hlt,hg⟩
 .simp only[e,if_false];obtain⟨h1,h2⟩:=h.blk i (by omega);have h4:=hlt' i (by omega);exact⟨h1,(h3 _ (by omega)).trans ((hW.other _ (by omega)).trans (hE.row h2))⟩
def lW(s:ByteArray)(q i:Nat):Nat:=if i<q then bI s i else 0
theorem Tg{s:ByteArray}{N:Nat}(h:s.size<=N):lW s N=bI s:=by
 funext i;unfold lW;split
 .rfl
 .exact(zL (by omega)).symm
theorem Tf{s:ByteArray}{p q:Nat}(hs:s.size=0∨(p+1)*96<=s.size)(hq:q=min (p*96) s.size):pJ (lW s (p*96)) (p*96) (min (s.extract q s.size).size 96) (s.extract q s.size)=lW s ((p+1)*96):=by
 have hsz:(s.extract q s.size).size=s.size - q:=by rw[ByteArray.size_extract];omega
 funext i;unfold pJ lW;rw[hsz];rcases hs with hs|hs
 .have h0:∀ i,bI s i=0:=fun i=>zL (by omega)
  rw[if_neg (by omega)];simp only[h0];simp
 .obtain rfl:q=p*96:=by omega
  rw[Nh (by omega)];by_cases h1:p*96<=i∧i<p*96+min (s.size - p*96) 96
  .rw[if_pos h1,if_pos (by omega),show p*96+(i - p*96)=i by omega]
  .rw[if_neg h1];by_cases h2:i<p*96
   .rw[if_pos h2,if_pos (by omega)]
   .rw[if_neg h2,if_neg (by omega)]
theorem Bq{S:Nat->Prop}{v:World}(B n c nb:Nat)(T:Nat->ByteArray)(hn:n<=18)(hn0:n≠0)(hnb:nb<=64)(hb4:4<=nb)(hO:TextsOk n nb T)(hT:dS v B n T) :
  aI Tryz.prog 63 #[.slice (some ⟨B,0,none⟩) n c,.int .i64 (nb:Nat)] S v fun x S' v'=>S'=S∧∃ DB RB,x=.slice (some ⟨DB,0,none⟩) n n∧AllG v DB n n nb RB T v':=by
 refine dM Tryz.func63 rfl Tryz.ntmps63 fun Stop cc cs ret f g0 g1=>?_
 repeat refine rN ?_
 refine mC aB rfl rfl (by kernel_rfl) rfl (m:=n) (wd:=24) (z:=.slice none 0 0) (by simp[g0]) (by simp[g0]) (by omega) (by omega) hn0 Tryz.underlying102 (by kernel_rfl) rfl fun w1 hE1 hr1 hs1=>?_
 simp only[stO_some];have hA0:AllG v v.heap.size n 0 nb (fun _=>0) T w1:=⟨hE1,Nat.le_refl _,by rw[hr1];congr 2,fun i hi=>by omega,fun i i' hi=>by omega⟩
 repeat refine rN ?_
 refine bR (fun d f' S' w=>∃ j RB,d=n - j∧j<=n∧S'=S∧AllG v v.heap.size n j nb RB T w∧f' 1=.int .i64 (nb:Nat)∧f' 5=.slice (some ⟨v.heap.size,0,none⟩) n n∧f' 13=.slice (some ⟨B,0,none⟩) n c∧f' 14=.int .i64 (n:Nat)∧f' 15=.int .i64 (j:Nat)) n ⟨0,_,by omega,by omega,rfl,hA0,by simp[g1],by simp,by simp[g0],by simp[g0],by simp⟩ ?_;clear g0 g1 f hA0;rintro d f S' w ⟨j,RB,rfl,hj,eS,hA,g1,g5,g13,g14,g15⟩ nxt;subst S';repeat refine rN ?_
 by_cases hlt:j<n
 .have hjI:(j:Int)<(n:Int):=by omega
  have hs:=hT.ext hA.ext j hlt;have hlen:=hO.len j hlt;obtain⟨s,hTs⟩:∃ s,s=T j:=⟨_,rfl⟩;rw[<-hTs]at hs hlen;have HTs:=aJ hTs;clear hTs;refine rX (by simp[Act.eval,g15,g14,hjI,hlt]) ?_;repeat refine rM hs ?_
  refine bJ (Q:=fun y w1=>y=.slice (some ⟨w.heap.size,0,none⟩) nb nb∧Ext w w1∧w1.heap[w.heap.size]?=some (.cells (eG (nb*96)) 107)) aB rfl rfl (by kernel_rfl) (fun u hu=>⟨_,_,.inl (Qq (l:=.tmp 22) (c:=.tmp 22) nb hnb (by omega) rfl (by simp) (by simp) u),by rw[hu.heap],(Ext.twin hu).trans _ _ _ (Ext.alloc _ _),by rw[<-hu.heap];exact cF _ _⟩) ?_
  rintro _ w2 ⟨rfl,hE2,hg2⟩;simp only[stO_some];repeat refine rN ?_
  refine eQ aB rfl rfl (by kernel_rfl) (x:=.tmp 24) (y:=.tmp 23) (g:=v.heap.size) (j:=j) (z:=.slice (some ⟨w.heap.size,0,none⟩) nb nb) rfl (by simp) (by simp) rfl rfl (hE2.row hA.row) (by rw[Oi];omega) (by kernel_rfl) fun w3 hW=>?_
  simp only[stO_none];have hvw:v.heap.size<w.heap.size:=(Array.getElem?_eq_some_iff.1 hA.row).1;have hcj:w3.cell? ⟨v.heap.size,j,none⟩=some (.slice (some ⟨w.heap.size,0,none⟩) nb nb):=by
   rw[cell_of_row _ _ _ _ _ _ hW.at_,xY hlt,oK hlt];simp
  have hg3:w3.heap[w.heap.size]?=some (.cells (aC (nb*96) (lW s (0*96))) 107):=by
   rw[hW.other _ (by omega),hg2,wQ];rfl
  repeat refine rM hcj ?_
  refine bR (fun d f' S' w'=>∃ p,d=nb - p∧p<=nb∧S'=S∧(Ext v w3->Ext v w')∧(∀ b,b≠w.heap.size->w'.heap[b]?=w3.heap[b]?)∧w'.heap[w.heap.size]?=some (.cells (aC (nb*96) (lW s (p*96))) 107)∧f' 1=.int .i64 (nb:Nat)∧f' 5=.slice (some ⟨v.heap.size,0,none⟩) n n∧f' 13=.slice (some ⟨B,0,none⟩) n c∧f' 14=.int .i64 (n:Nat)∧f' 15=.int .i64 (j:Nat)∧f' 6=.int .i64 (j:Nat)∧f' 7=.string s∧f' 29=.int .i64 (nb:Nat)∧f' 30=.int .i64 (p:Nat)) nb ⟨0,by omega,by omega,rfl,fun h=>h,fun _ _=>rfl,hg3,by simp[g1],by simp[g5],by simp[g13],by simp[g14],by simp[g15],by simp,by simp,by simp,by simp⟩ ?_
  clear g1 g5 g13 g14 g15 f;rintro d f S' w' ⟨p,rfl,hp,eS,hx',ho',hg',g1,g5,g13,g14,g15,g6,g7,g29,g30⟩ nxt2;subst S';repeat refine rN ?_
  by_cases hlp:p<nb
  .have hpI:(p:Int)<(nb:Int):=by omega
   have hcj':w'.cell? ⟨v.heap.size,j,none⟩=some (.slice (some ⟨w.heap.size,0,none⟩) nb nb):=by
    rw[cell_of_row _ _ _ _ _ _ ((ho' _ (by omega)).trans hW.at_),xY hlt,oK hlt];simp
   have hsz64:s.size<=6144:=by omega
   have hmI:((min (p*96) s.size:Nat):Int)<=((s.size:Nat):Int):=by omega
   have hstep:=Tf (s:=s) (p:=p) (by omega) rfl;have HST:=aJ hstep;clear hstep;refine rX (by simp[Act.eval,g30,g29,hpI,hlp]) ?_;repeat refine rN ?_
   have hmin:(if ((s.size:Nat):Int)<(p:Int)*96 then((s.size:Nat):Int) else(p:Int)*96)=((min (p*96) s.size:Nat):Int):=by
    split<;>omega
   rw[hmin];have hq1:min (p*96) s.size<=s.size:=Nat.min_le_right _ _;generalize min (p*96) s.size=q at hmI hq1 HST ⊢;clear hmin;refine iZ aB (by first|kernel_rfl|rfl) ?_
   simp only[List.size_toArray,List.length_cons,List.length_nil,Nat.reduceAdd,Nat.zero_add];refine cU 0 ?_;refine cU 1 ?_;refine cU 2 ?_;co_applyP cT (i:=3) rfl (fun _ hu_=>run_eq_of ?u3_3) ?v3_3
   case u3_3=>intro K_ hK_;(have hc:=(Ext.twin hu_).cell hcj');go_simp;(try rw[wI _]);(try rw[wU _]);exact hK_
   simp only[sS,sN];refine cU 4 ?_;refine cU 5 ?_;refine cU 6 ?_;refine cU 7 ?_;refine cU 8 ?_;refine cU 9 ?_;refine cL 10 ?_;refine Me rfl rfl (by kernel_rfl) (d:=.tmp 44) (s:=.tmp 47) (g:=w.heap.size) (off:=p*96) (cp:=96) (N:=nb*96) (y:=lW s (p*96)) (x:=s.extract q s.size) rfl (by simp) (by simp) hg' (by omega) fun w4 hW4=>?_
   simp only[stO_some];rw[HST.out]at hW4;repeat refine rN ?_
   refine nxt2 _ _ _ (nb - (p+1)) (by omega) ⟨p+1,rfl,by omega,rfl,fun h=>mU (hx' h) (by omega) hW4,fun b hb=>(hW4.other b hb).trans (ho' b hb),hW4.at_,by simp[g1],by simp[g5],by simp[g13],by simp[g14],by simp[g15],by simp[g6],by simp[g7],by simp[g29],by simp⟩
  .obtain rfl:p=nb:=by omega
   refine rZ (by simp[Act.eval,g30,g29]) ?_;refine bB rfl ?_;repeat refine rN ?_
   refine nxt _ _ _ (n - (j+1)) (by omega) ⟨j+1,_,rfl,by omega,rfl,hA.step hlt hE2 hW hx' ho' ?_,by simp[g1],by simp[g5],by simp[g13],by simp[g14],by simp[g15]⟩;rw[hg',Tg (by omega),HTs.out]
 .obtain rfl:j=n:=by omega
  refine rZ (by simp[Act.eval,g15,g14]) ?_;refine bB rfl ?_;repeat refine rN ?_
  refine aO fun todo=>?_
  refine ret _ _ S w (.slice (some ⟨v.heap.size,0,none⟩) j j) ?_ ⟨rfl,_,RB,rfl,hA⟩;simp[results,Tryz.results63]
def aR(T:Nat->ByteArray)(left:Nat):Dsk:=⟨fun d p i=>bI (T d) (p*96+i),fun d p i=>bI (T d) (p*96+i),left⟩
theorem Gp(s:ByteArray):dG (fun p i=>bI s (p*96+i))=bI s:=by
 funext i;show bI s (i / 96*96+i % 96)=bI s i;rw[show i / 96*96+i % 96=i by omega]
theorem Zl{S:Nat->Prop}{v:World}(B n c nb wr:Nat)(T:Nat->ByteArray)(hw:wr<=1099511627776)(hn1:14<=n)(hn:n<=18)(hb4:4<=nb)(hnb:nb<=64)(hO:TextsOk n nb T)(hT:dS v B n T) :
  aI Tryz.prog 44 #[.slice (some ⟨B,0,none⟩) n c,.int .i64 (wr:Nat)] S v fun x S' v'=>S'=S∧Ext v v'∧∃ D DB DA RB RA,x=.tuple #[.pointer (some ⟨D,0,none⟩),.bool true]∧DiskG D DB DA RB RA n nb (aR T wr) v'∧v.heap.size<=D∧v.heap.size<=DB∧v.heap.size<=DA∧∀ d,d<n->v.heap.size<=RB d∧v.heap.size<=RA d:=by
 refine dM Tryz.func44 rfl Tryz.ntmps44 fun Stop cc cs ret f g0 g1=>?_
 repeat refine rN ?_
 refine rK Tryz.func62 (Sd B n c nb T (by omega) hnb hO hT) ?_;rintro _ S1 w1 _ ⟨rfl,e1,e2⟩;subst S1 w1;obtain⟨L,hL⟩:∃ L,L=nb*96:=⟨_,rfl⟩;rw[<-hL];have hI:¬(n:Int)<14:=by omega
 have hJ:¬(18:Int)<(n:Int):=by omega
 have hK:(L:Int).tmod 96=0:=by rw[Int.tmod_eq_emod_of_nonneg (by omega)];omega
 have hM:¬(L:Int) / 96<4:=by omega
 have hOO:¬(64:Int)<(L:Int) / 96:=by omega
 have hQ:(L:Int) / 96=((nb:Nat):Int):=by omega
 have HQ:=aJ hQ;clear hL hQ;repeat refine rN ?_
 refine rZ (by simp[Act.eval,hI,hJ]) ?_;repeat refine rN ?_
 refine rZ (by simp[Act.eval,hK,hM,hOO]) ?_;simp only[HQ.out];clear hI hJ hK hM hOO HQ;repeat refine rN ?_
 refine rK Tryz.func63 (Bq B n c nb T hn (by omega) hnb hb4 hO hT) ?_;rintro _ S1 w1 _ ⟨e1,DB,RB,rfl,hA⟩;subst S1;repeat refine rN ?_
 refine rK Tryz.func63 (Bq B n c nb T hn (by omega) hnb hb4 hO (hT.ext hA.ext)) ?_;rintro _ S1 w2 _ ⟨e1,DB',RB',rfl,hA'⟩;subst S1;repeat refine rN ?_
 refine bJ (Q:=fun y w=>y=.pointer (some ⟨w2.heap.size,0,none⟩)∧Ext w2 w∧w.heap[w2.heap.size]?=some (.cells #[.slice (some ⟨DB,0,none⟩) n n,.slice (some ⟨DB',0,none⟩) n n,.int .i64 (wr:Nat)] 104)) aB rfl rfl (by kernel_rfl) (fun u hu=>⟨_,_,.inl (fW (x:=.tmp 48) (y:=.agg #[.slice (some ⟨DB,0,none⟩) n n,.slice (some ⟨DB',0,none⟩) n n,.int .i64 (wr:Nat)]) rfl (by simp) u),by rw[hu.heap],(Ext.twin hu).trans _ _ _ (Ext.alloc _ _),by rw[<-hu.heap];exact cF _ _⟩) ?_
 rintro _ w3 ⟨rfl,hE3,hb3⟩;simp only[stO_some];repeat refine rN ?_
 have hs1:=hA.ext.size;have hs2:=hA'.ext.size;have hn':=hA'.new;have hn0:=hA.new;refine aO fun todo=>?_
 refine ret _ _ S w3 (.tuple #[.pointer (some ⟨w2.heap.size,0,none⟩),.bool true]) ?_ ⟨rfl,hA.ext.trans _ _ _ (hA'.ext.trans _ _ _ hE3),_,DB,DB',RB,RB',rfl,⟨hb3,hw,hE3.row (hA'.ext.row hA.row),hE3.row hA'.row,fun d hd=>?_,fun d hd=>?_,hA.inj,hA'.inj,fun d d' hd hd' e=>?_,fun d p i=>sD _ _⟩,by omega,by omega,by omega,fun d hd=>⟨?_,?_⟩⟩
 .simp[results,Tryz.results44]
 .rw[hE3.row (hA'.ext.row (hA.blk d hd).2)];show _=some (Obj.cells (aC (nb*96) (dG fun p i=>bI (T d) (p*96+i))) _ _)
  rw[Gp]
 .rw[hE3.row (hA'.blk d hd).2];show _=some (Obj.cells (aC (nb*96) (dG fun p i=>bI (T d) (p*96+i))) _ _)
  rw[Gp]
 .have h1:=(Array.getElem?_eq_some_iff.1 (hA.blk d hd).2).1;have h3:=(hA'.blk d' hd').1;omega
 .have h2:=(hA.blk d hd).1;omega
 .have h2:=(hA'.blk d hd).1;omega
theorem lK{v w:World}{Y:Nat->Prop}(hK:Kp v Y w)(h:∀ b,Y b->v.heap.size<=b):Kp v (fun _=>False) w:=
 ⟨hK.size,hK.os,hK.output,fun b o hb hc ht=>hK.objs b o (fun hy=>by
  have h1:=h b hy;have h2:=(Array.getElem?_eq_some_iff.1 hc).1
  omega) hc ht⟩
def eZ(lf:Nat->Lb)(Gf:Nat->Nat->Bool):Nat->List Ent->Nat->Prop
 |0,L,t=>L=[]∧t=0
 |p+1,L',t'=>∃ L t,eZ lf Gf p L t∧Sv L t p (lf p) (Gf p) L' t'
theorem Ux{L:List Ent}{e x:Ent}{clock:Nat}(h:x∈bQ L e clock):x∈L∨∃ b,x={e with born:=b}:=by
 unfold bQ at h;cases hf:aL e.id L 0 with
 |none=>
  rw[hf]at h;rcases List.mem_append.1 h with h|h
  .exact .inl h
  .exact .inr ⟨_,List.mem_singleton.1 h⟩
 |some q=>
  rw[hf]at h;rcases List.mem_or_eq_of_mem_set h with h|h
  .exact .inl h
  .exact .inr ⟨_,h⟩
theorem Sv.slot{L L':List Ent}{t t' p:Nat}{l:Lb}{G:Nat->Bool}(h:Sv L t p l G L' t'){e:Ent}(he:e∈L'):e∈L∨e.slot=p:=by
 unfold Sv at h;split at h
 .obtain⟨_,h⟩:=h;split at h
  .obtain⟨clock,_,rfl⟩:=h;rcases Ux he with h|⟨b,rfl⟩
   .exact .inl h
   .exact .inr rfl
  .subst h;exact .inl he
 .rw[h.2]at he;exact .inl he
theorem eZ.slot{lf:Nat->Lb}{Gf:Nat->Nat->Bool} : ∀ {p:Nat} {L:List Ent} {t:Nat},eZ lf Gf p L t->∀ e∈L,e.slot<p
 |0,L,t,h,e,he=>by rw[h.1]at he;cases he
 |p+1,L',t',⟨L,t,h1,h2⟩,e,he=>by
  rcases h2.slot he with h|h
  .have:=h1.slot e h;omega
  .omega
section
variable {nd nb:Nat}{w w' v:World}{S:Nat->Prop}
theorem Ve(t:TypeId)(e:Value)(hg0:v.cell? ⟨0,0,none⟩=some (.iface t e))(hg:Tryz.prog.globals.size<=v.heap.size)(B c wr:Nat)(T:Nat->ByteArray)(lf:Nat->Lb)(Gf:Nat->Nat->Bool)(hw:wr<=1099511627776)(hb4:4<=nb)(hn1:14<=nd)(hnd:nd<=18)(hnb:nb<=64)(hO:TextsOk nd nb T)(hT:dS v B nd T)(hS:∀ p,p<nb->SlotK (aR T wr).c p (lf p) (Gf p)) :
  aI Tryz.prog 25 #[.slice (some ⟨B,0,none⟩) nd c,.int .i64 (wr:Nat)] S v fun x S' v'=>Kp v (fun _=>False) v'∧∃ X D DB DA M RB RA L turn,x=.tuple #[.pointer (some ⟨X,0,none⟩),.int .i64 0]∧eZ lf Gf nb L turn∧StE X D DB DA M RB RA nd nb turn (cD (aR T wr) (aS L) nb) L v'∧∀ b,bU X D M RB RA nd b->v.heap.size<=b:=by
 have h0:0<v.heap.size:=by
  cases h:v.heap[0]? with
  |none=>
   unfold World.cell? at hg0;rw[show(⟨0,0,none⟩:Addr).block=0 from rfl,h]at hg0;cases hg0
  |some o=>exact(Array.getElem?_eq_some_iff.1 h).1
 refine dM Tryz.func25 rfl Tryz.ntmps25 fun Stop cc cs ret f g0 g1=>?_
 repeat refine rN ?_
 refine rK Tryz.func44 (Zl B nd c nb wr T hw hn1 hnd hb4 hnb hO hT) ?_;rintro _ S1 w1 _ ⟨e1,hE1,D,DB,DA,RB,RA,rfl,hD,hDn,hDBn,hDAn,hRn⟩;subst S1;repeat refine rN ?_
 refine rZ (by simp[Act.eval]) ?_;repeat refine rN ?_
 refine By rfl rfl rfl fun w2 hE2 hm2=>?_
 simp only[stO_some];repeat refine rN ?_
 refine bJ (Q:=fun y w=>y=.pointer (some ⟨w2.heap.size,0,none⟩)∧Ext w2 w∧w.heap[w2.heap.size]?=some (.cells #[.pointer (some ⟨D,0,none⟩),.map (some w1.heap.size),.int .u64 0] 76)) aB rfl rfl (by kernel_rfl) (fun u hu=>⟨_,_,.inl (fW (x:=.tmp 20) (y:=.agg #[.pointer (some ⟨D,0,none⟩),.map (some w1.heap.size),.int .u64 0]) rfl (by simp) u),by rw[hu.heap],(Ext.twin hu).trans _ _ _ (Ext.alloc _ _),by rw[<-hu.heap];exact cF _ _⟩) ?_
 rintro _ w3 ⟨rfl,hE3,hb3⟩;simp only[stO_some];have hX:StE w2.heap.size D DB DA w1.heap.size RB RA nd nb 0 (aR T wr) [] w3:=⟨hb3,⟨0,hE3.row hm2,fun e he=>(by cases he)⟩,hD.ext (hE2.trans _ _ _ hE3),fun e he=>(by cases he),by simp,by simp,by simp⟩
 have hE13:=hE1.trans _ _ _ (hE2.trans _ _ _ hE3);have hXn:v.heap.size<=w2.heap.size:=Nat.le_trans hE1.size hE2.size;have hMn:v.heap.size<=w1.heap.size:=hE1.size;generalize w2.heap.size=X at hX hXn;generalize w1.heap.size=M at hX hMn;clear hb3 hm2;have hown:∀ b,bU X D M RB RA nd b->v.heap.size<=b:=by
  rintro b (rfl|rfl|rfl|⟨d,hd,rfl|rfl⟩)
  .exact hXn
  .exact hMn
  .exact hDn
  .exact(hRn d hd).1
  .exact(hRn d hd).2
 have hK3:Kp v (fun _=>False) w3:=bF hE13;have HS:eZ lf Gf 0 [] 0:=⟨rfl,rfl⟩;repeat refine rN ?_
 refine rK Tryz.func45 (uM (by omega) hX.dk.old) ?_;rintro _ S1 w4 _ ⟨rfl,e1,e2⟩;subst S1 w4;repeat refine rN ?_
 refine bR (fun d f' S' w=>∃ j L turn,d=nb - j∧j<=nb∧Kp v (fun _=>False) w∧eZ lf Gf j L turn∧StE X D DB DA M RB RA nd nb turn (aR T wr) L w∧f' 8=.pointer (some ⟨X,0,none⟩)∧f' 23=.int .i64 (nb:Nat)∧f' 24=.int .i64 (j:Nat)) nb ⟨0,[],0,by omega,by omega,hK3,HS,hX,by simp,by simp,by simp⟩ ?_;clear g0 g1 f HS hX;rintro d f S' w ⟨j,L,turn,rfl,hj,hK,HS,hX,g8,g23,g24⟩ nxt;repeat refine rN ?_
 by_cases hlt:j<nb
 .have hjI:(j:Int)<(nb:Int):=by omega
  have hk0:=hK.cell (fun h=>h) hg0;have hk1:Tryz.prog.globals.size<=w.heap.size:=Nat.le_trans hg hK.size;refine rX (by simp[Act.eval,g24,g23,hjI,hlt]) ?_;repeat refine rN ?_
  refine rK Tryz.func46 (Qe t e j (lf j) (Gf j) hk0 hk1 hlt hn1 hnd hnb (hS j hlt) hX (fun e he h=>by have:=HS.slot e he;omega)) ?_;rintro _ S1 w5 _ ⟨rfl,hK5,L',turn',hSv,hX5⟩;repeat refine rN ?_
  refine nxt _ _ _ (nb - (j+1)) (by omega) ⟨j+1,L',turn',rfl,by omega,?_,⟨L,turn,HS,hSv⟩,hX5,by simp[g8],by simp[g23],by simp⟩;refine lK (Y:=wA X M) ((hK.mono fun _ h=>h.elim).trans hK5) ?_
  rintro b (rfl|rfl)
  .exact hXn
  .exact hMn
 .obtain rfl:j=nb:=by omega
  refine rZ (by simp[Act.eval,g24,g23]) ?_;refine bB rfl ?_;repeat refine rN ?_
  refine rK Tryz.func47 (Uf hb4 hn1 hnd hnb hX) ?_;rintro _ S1 w5 _ ⟨rfl,e1,hK5,hX5⟩;repeat refine rN ?_
  refine aO fun todo=>?_
  refine ret _ _ S1 w5 (.tuple #[.pointer (some ⟨X,0,none⟩),.int .i64 0]) ?_ ⟨lK (Y:=bU X D M RB RA nd) ((hK.mono fun _ h=>h.elim).trans (hK5.mono fun b h=>.inr (.inr h))) hown,X,D,DB,DA,M,RB,RA,L,turn,rfl,HS,hX5,hown⟩
  simp[results,Tryz.results25]
end
def cC(nb:Nat)(x:Nat->Nat->Nat):ByteArray:=strOfNums ((List.range (nb*96)).map fun i=>((dG x i:Nat):Int))
theorem oR(nb:Nat)(x:Nat->Nat->Nat):(cC nb x).size=nb*96:=by
 have h:(cC nb x).data.toList.length=nb*96:=by
  unfold cC;rw[strOfNums_data];simp
 rw[Array.length_toList]at h;exact h
theorem uV{nb:Nat}{x:Nat->Nat->Nat}(hx:∀ p i,x p i<256){i:Nat}(hi:i<nb*96):bI (cC nb x) i=dG x i:=by
 unfold bI cC;rw[<-Array.getElem?_toList,strOfNums_data];rw[List.map_map,List.getElem?_map,List.getElem?_range hi];have:=hx (i / 96) (i % 96);simp[dG];omega
def jI(n:Nat)(x:Nat->Nat):List Value:=(List.range n).map fun i=>.int .u8 ((x i:Nat):Int)
theorem mR(n:Nat)(x:Nat->Nat):(jI n x).length=n:=by simp[jI]
theorem oX{n i:Nat}{x:Nat->Nat}(h:i<n):(jI n x)[i]?=some (.int .u8 (x i:Nat)):=by simp[jI,h]
theorem Yk(p:Nat)(x:Nat->Nat->Nat):jI (p*96) (dG x)++jI 96 (x p)=jI ((p+1)*96) (dG x):=by
 apply List.ext_getElem?;intro i;by_cases h:i<p*96
 .rw[List.getElem?_append_left (by rw[mR];exact h),oX h,oX (by omega)]
 .rw[List.getElem?_append_right (by rw[mR];omega),mR];by_cases h2:i<(p+1)*96
  .rw[oX (by omega),oX h2];unfold dG;rw[show i / 96=p by omega,show i % 96=i - p*96 by omega]
  .rw[List.getElem?_eq_none (by rw[mR];omega),List.getElem?_eq_none (by rw[mR];omega)]
theorem Ex:∃ i,Tryz.prog.info? 5=some i∧i.zero=some (.int .u8 0)∧i.size=1∧i.bytes=1:=⟨_,rfl,rfl,rfl,rfl⟩
theorem Ob{o:Oper}{a:Act}{l c:Operand}{n:Nat}(hn:n<=10000)(hn0:n≠0)(hop:o.op=.makeSlice 48 l c)(hl:a.eval l=.int .i64 0)(hc:a.eval c=.int .i64 (n:Nat))(u:World):(execOp a.eval o).run Tryz.prog u=.ok (.value (.slice (some ⟨u.heap.size,0,none⟩) 0 n)) (u.alloc (.cells (eG n) 5)):=by
 obtain⟨inf,hq,h3,h1,h2⟩:=Ex;have w0:IntKind.i64.wrap 0=0:=rfl;have wl:IntKind.i64.wrap (n:Int)=(n:Int):=by rw[IntKind.wrap_i64];omega
 have n1:¬((n:Int)<0):=by omega
 have n2:¬((281474976710656:Int)<(n:Int)):=by omega
 have n3:¬(n > roomBytes):=by simp only[roomBytes];omega
 have hz:(Array.range n).map (fun i=>(#[Value.int .u8 0])[i % 1]!)=eG n:=by
  unfold eG;apply Array.map_congr_left;intro i _;rw[Nat.mod_one];rfl
 unfold execOp;simp[hop,hl,hc,Instr.makeSlice,run_underlying Tryz.underlying48,asInt,asIntOf,typeInfo,hq,h1,h2,sizeOf,askRoom,newRow,w0,wl,n1,n2,n3,zeroValue,h3,Value.cells,hn0];have hz':(Array.range n).map (fun x=>[Value.int IntKind.u8 0][x % 1]?.getD default)=eG n:=by
  rw[<-hz];apply Array.map_congr_left;intro i _;rw[Nat.mod_one];rfl
 rw[hz']
section
variable {X D DB DA M:Nat}{RB RA:Nat->Nat}{nd nb turn:Nat}{s:Dsk}{L:List Ent}{w w' v:World}{S:Nat->Prop}
theorem Xc(hb4:4<=nb)(hn1:14<=nd)(hnd:nd<=18)(hnb:nb<=64)(hD:DiskG D DB DA RB RA nd nb s v) :
  aI Tryz.prog 27 #[.pointer (some ⟨D,0,none⟩)] S v fun x S' v'=>S'=S∧Ext v v'∧∃ g,x=.slice (some ⟨g,0,none⟩) nd nd∧v.heap.size<=g∧dS v' g nd fun d=>cC nb (s.a d):=by
 obtain⟨ib,zb,ib1,ib2,ib3,ib4,ib5⟩:=vQ;refine dX Tryz.func27 rfl Tryz.ntmps27 fun Stop cc cs ret f g0=>?_
 have c1:=hD.actc;repeat refine rM c1 ?_
 refine mC aB rfl rfl (by kernel_rfl) rfl (m:=nd) (wd:=16) (z:=.string (ByteArray.mk #[])) (by simp) (by simp) (by omega) (by omega) (by omega) Tryz.underlying29 (by kernel_rfl) rfl fun w1 hE1 hr1 hs1=>?_
 simp only[stO_some];have c1':=(hD.ext hE1).actc;generalize hgv:v.heap.size=g at *
 obtain⟨cur,hcs,hr1'⟩:∃ cur:Array Value,cur.size=nd∧w1.heap[g]?=some (.cells cur 9):=⟨_,by simp,hr1⟩;clear hr1;repeat refine rM c1' ?_
 refine bR (fun d f' S' w=>∃ j cur,d=nd - j∧j<=nd∧S'=S∧Ext v w∧g<w.heap.size∧cur.size=nd∧w.heap[g]?=some (.cells cur 9)∧(∀ i,i<j->cur[i]?=some (.string (cC nb (s.a i))))∧f' 3=.slice (some ⟨g,0,none⟩) nd nd∧f' 18=.slice (some ⟨DA,0,none⟩) nd nd∧f' 19=.int .i64 (nd:Nat)∧f' 20=.int .i64 (j:Nat)) nd ⟨0,cur,by omega,by omega,rfl,hE1,by omega,hcs,hr1',fun i hi=>(by omega),by simp,by simp,by simp,by simp⟩ ?_
 clear g0 f hcs hr1' cur;rintro d f S' w ⟨j,cur,rfl,hj,eS,hEw,hgw,hcs,hrg,hdone,g3,g18,g19,g20⟩ nxt;subst S';repeat refine rN ?_
 by_cases hlt:j<nd
 .have hjI:(j:Int)<(nd:Int):=by omega
  have hDw:=hD.ext hEw;have cA:=hDw.allA hlt;refine rX (by simp[Act.eval,g20,g19,hjI,hlt]) ?_;repeat refine rM cA ?_
  have hnbI:(nb:Int)*96=((nb*96:Nat):Int):=by omega
  have hN:nb*96<=10000:=by omega
  have hN0:nb*96≠0:=by omega
  generalize hNN:nb*96=N at hnbI hN hN0;refine bJ (Q:=fun y w2=>y=.slice (some ⟨w.heap.size,0,none⟩) 0 N∧Ext w w2∧w2.heap[w.heap.size]?=some (.cells (eG N) 5)) aB rfl rfl (by kernel_rfl) (fun u hu=>⟨_,_,.inl (Ob (l:=.const (.int .i64 0)) (c:=.tmp 27) (n:=N) hN hN0 rfl rfl (by simp[hnbI]) u),by rw[hu.heap],(Ext.twin hu).trans _ _ _ (Ext.alloc _ _),by rw[<-hu.heap];exact cF _ _⟩) ?_
  rintro _ w2 ⟨rfl,hE2,hr2⟩;simp only[stO_some];have how:w2.ownsRow g 5 1 (.slice (some ⟨w.heap.size,0,none⟩) 0 N) (0*96) (jI (0*96) (dG (s.a j))):=⟨rfl,.inr ⟨_,_,_,rfl,by omega,hr2,by omega,by unfold maxLen;omega,by rw[tH];omega,by simp[jI]⟩⟩;repeat refine rN ?_
  refine bR (fun d f' S' w'=>∃ p sv,d=nb - p∧p<=nb∧S'=S∧Ext v w'∧g<w'.heap.size∧w'.heap[g]?=some (.cells cur 9)∧w'.ownsRow g 5 1 sv (p*96) (jI (p*96) (dG (s.a j)))∧f' 6=sv∧f' 3=.slice (some ⟨g,0,none⟩) nd nd∧f' 18=.slice (some ⟨DA,0,none⟩) nd nd∧f' 19=.int .i64 (nd:Nat)∧f' 20=.int .i64 (j:Nat)∧f' 4=.int .i64 (j:Nat)∧f' 29=.slice (some ⟨RA j,0,none⟩) nb nb∧f' 30=.int .i64 (nb:Nat)∧f' 31=.int .i64 (p:Nat)) nb ⟨0,_,by omega,by omega,rfl,hEw.trans _ _ _ hE2,Nat.lt_of_lt_of_le hgw hE2.size,hE2.row hrg,how,by simp,by simp[g3],by simp[g18],by simp[g19],by simp[g20],by simp,by simp,by simp,by simp⟩ ?_;clear g3 g18 g19 g20 f how hr2;rintro d f S' w3 ⟨p,sv,rfl,hp,eS,hE3,hg3,hrg3,how,g6,g3,g18,g19,g20,g4,g29,g30,g31⟩ nxt2;subst S';repeat refine rN ?_
  by_cases hlp:p<nb
  .have hpI:(p:Int)<(nb:Int):=by omega
   have hra:=(hD.ext hE3).ra j hlt;have hz:∀ i,i<96->w3.cell? ⟨RA j,p*96+i,none⟩=some (.int .u8 (s.a j p i:Nat)):=fun i hi=>by
    rw[cell_of_row _ _ _ _ _ _ hra,eB _ _ _ (by omega)];unfold dG;rw[show(p*96+i) / 96=p by omega,show(p*96+i) % 96=i by omega]
   refine rX (by simp[Act.eval,g31,g30,hpI,hlp]) ?_;repeat refine rN ?_
   refine bV aB rfl rfl (by kernel_rfl) (fun u hu=>lZ (x:=.tmp 33) (b:=RA j) (off:=p*96) (y:=s.a j p) rfl (by simp) fun i hi=>(Ext.twin hu).cell (hz i hi)) ?_
   simp only[stO_some];repeat refine rN ?_
   refine cQ aB rfl rfl (by kernel_rfl) (.agg Tryz.zeroCells107) rfl (by kernel_rfl) fun w4 hE4 hb4' hs4=>?_
   simp only[stO_some];rw[pM]at hb4';repeat refine rN ?_
   refine dB aB rfl rfl (by kernel_rfl) (x:=.tmp 8) (y:=.tmp 34) (g:=w3.heap.size) (c:=aC 96 (s.a j p)) rfl (by simp) (by simp) hb4' (by kernel_rfl) (by rw[eA];exact tH 96) xP fun w5 hW5=>?_
   simp only[stO_none];have hE5:Ext w3 w5:=mU hE4 (Nat.le_refl _) hW5;have hb5:=hW5.at_;have gw:Gr w3 w5 none:=⟨hE5.os,hE5.output,hE5.size,fun k hk _=>hE5.block k hk⟩
   have how5:=Ih how gw (by simp);have hrg5:=hE5.row hrg3;have hcell:∀ i y,(jI 96 (s.a j p))[i]?=some y->w5.cell? ((⟨w3.heap.size,0,none⟩:Addr).add i)=some y:=fun i y hy=>by
    have hi:i<96:=by have:=(List.getElem?_eq_some_iff.1 hy).1;rwa [mR]at this
    rw[oX hi]at hy;cases hy
    rw[Addr.add_lit,cell_of_row _ _ _ _ _ _ hb5,Nat.zero_add];exact eB _ _ _ hi
   repeat refine rN ?_
   refine bJ aB rfl rfl (by kernel_rfl) (fun u hu=>qB (s:=.tmp 35) (x:=.tmp 36) (ad:=⟨w3.heap.size,0,none⟩) (m:=96) (c:=96) (news:=jI 96 (s.a j p)) hu g Tryz.underlying48 ib1 ib2 ib3 ib4 ib5 how5 (mR _ _) hcell (fun y hy=>by obtain⟨i,_,rfl⟩:=List.mem_map.1 hy;rfl) (by omega) (by omega) (by have:=hE5.size;omega) rfl (by simp[g6]) (by simp)) ?_;rintro y w6 ⟨how6,hG6,_⟩;simp only[stO_some];rw[Yk,show p*96+96=(p+1)*96 by omega]at how6;have hE6:Ext v w6:=Gr.over (hE3.trans _ _ _ hE5) hG6 fun b hb=>by
    have:=Gc how5 hb;omega
   have hrg6:w6.heap[g]?=some (.cells cur 9):=hG6.row hrg5 fun e=>by
    obtain⟨c',hc'⟩:=Uz how5 e.symm;rw[hrg5]at hc';simp at hc'
   repeat refine rN ?_
   refine nxt2 _ _ _ (nb - (p+1)) (by omega) ⟨p+1,y,rfl,by omega,rfl,hE6,by have:=hE5.size;have:=hG6.size;omega,hrg6,how6,by simp,by simp[g3],by simp[g18],by simp[g19],by simp[g20],by simp[g4],by simp[g29],by simp[g30],by simp⟩
  .obtain rfl:p=nb:=by omega
   refine rZ (by simp[Act.eval,g31,g30]) ?_;refine bB rfl ?_;repeat refine rN ?_
   obtain⟨gB,cap,cu,rfl,q2,q3,q4,q5,q6⟩:=lG how (.inl (by omega))
   have kc:=fun(u:World) (hu:Vw.Twin w3 u)=>run_convert_bytes_arg (P:=Tryz.prog) u 48 5 Tryz.underlying48 Tryz.underlying5 gB 0 (p*96) cap ((List.range (p*96)).map fun i=>((dG (s.a j) i:Nat):Int)) (by simp) (fun i hi=>(by
    rw[(Ext.twin hu).cell (x:=.int .u8 ((dG (s.a j) i:Nat):Int)) (by rw[cell_of_row _ _ _ _ _ _ q3,Nat.zero_add,q6 i hi,oX hi])]
    simp[List.getD,hi])) 9 Tryz.underlying9
   refine bV aB rfl rfl (by kernel_rfl) (x:=.string (cC p (s.a j))) (fun u hu=>?_) ?_
   .unfold execOp;simp only[Sem.run_bind];simp[g6,kc u hu,Act.eval];rfl
   simp only[stO_some];repeat refine rN ?_
   refine eQ aB rfl rfl (by kernel_rfl) (x:=.tmp 43) (y:=.tmp 42) (g:=g) (j:=j) (z:=.string (cC p (s.a j))) rfl (by simp) (by simp) rfl rfl hrg3 (by omega) (by kernel_rfl) fun w4 hW=>?_
   simp only[stO_none];repeat refine rN ?_
   refine nxt _ _ _ (nd - (j+1)) (by omega) ⟨j+1,_,rfl,by omega,rfl,mU hE3 (by omega) hW,by rw[hW.size];exact hg3,by simp[hcs],hW.at_,fun i hi=>?_,by simp[g3],by simp[g18],by simp[g19],by simp[g20]⟩
   rw[Array.getElem?_setIfInBounds];by_cases e:j=i
   .subst e;rw[if_pos rfl,if_pos (by omega)]
   .rw[if_neg e];exact hdone i (by omega)
 .obtain rfl:j=nd:=by omega
  refine rZ (by simp[Act.eval,g20,g19]) ?_;refine bB rfl ?_;repeat refine rN ?_
  refine aO fun todo=>?_
  refine ret _ _ S w (.slice (some ⟨g,0,none⟩) j j) ?_ ⟨rfl,hEw,g,rfl,by omega,fun i hi=>?_⟩
  .simp[results,Tryz.results27]
  .rw[cell_of_row _ _ _ _ _ _ hrg];exact hdone i hi
theorem mN(hb4:4<=nb)(hn1:14<=nd)(hnd:nd<=18)(hnb:nb<=64)(hX:StE X D DB DA M RB RA nd nb turn s L v) :
  aI Tryz.prog 10 #[.pointer (some ⟨X,0,none⟩)] S v fun x S' v'=>S'=S∧Ext v v'∧∃ g,x=.slice (some ⟨g,0,none⟩) nd nd∧v.heap.size<=g∧dS v' g nd fun d=>cC nb (s.a d):=by
 refine dX Tryz.func10 rfl Tryz.ntmps10 fun Stop cc cs ret f g0=>?_
 have c0:=hX.c0;repeat refine rM c0 ?_
 refine rK Tryz.func27 (Xc hb4 hn1 hnd hnb hX.dk) ?_;rintro _ S1 w1 _ ⟨e1,hE1,g,rfl,hg,hT⟩;subst S1;repeat refine rN ?_
 refine aO fun todo=>?_
 refine ret _ _ S w1 (.slice (some ⟨g,0,none⟩) nd nd) ?_ ⟨rfl,hE1,g,rfl,hg,hT⟩;simp[results,Tryz.results10]
end
