import Derived.Test.YtpiefebngnlfoaaGreatDoorMn
set_option maxRecDepth 100000
set_option maxHeartbeats 16000000
set_option linter.unusedVariables false
set_option linter.unusedSimpArgs false
namespace Go.Proofs.YtpiefebngnlfoaaGreatDoor
open Go.RowKit Go.Conc Go.Vw
def byt(s:ByteArray)(i:Nat):Nat:=(s.data[i]?.getD 0).toNat
theorem zxQ(s:ByteArray)(i:Nat):byt s i<256:=(s.data[i]?.getD 0).toNat_lt
theorem zwA{s:ByteArray}{i:Nat}(h:s.size≤i):byt s i=0:=by
 unfold byt;rw[Array.getElem?_eq_none (show s.data.size≤i from h)];rfl
theorem zwB{s:ByteArray}{a i:Nat}(ha:a≤s.size):byt (s.extract a s.size) i=byt s (a+i):=by
 unfold byt;rw[ByteArray.data_extract,Array.getElem?_extract];have e:s.data.size=s.size:=rfl;by_cases h:i<s.size - a
 ·rw[if_pos (by omega)]
 ·rw[if_neg (by omega),Array.getElem?_eq_none (by omega)]
def zfU(w:World)(B n:Nat)(T:Nat→ByteArray):Prop:=∀ j,j<n→w.cell? ⟨B,j,none⟩=some (.string (T j))
theorem zfU.ext{w w':World}{B n:Nat}{T:Nat→ByteArray}(h:zfU w B n T)(hE:Ext w w'):zfU w' B n T:=fun j hj=>hE.cell (h j hj)
structure TextsOk(n nb:Nat)(T:Nat→ByteArray):Prop where
 len:∀ j,j<n→(T j).size=0∨(T j).size=nb*96
 some:∃ j,j<n∧(T j).size=nb*96
theorem zvU{z:Nat→Nat}{N:Nat} : ∀ n,(∀ j,j<n→z j=0∨z j=N)→okZ z n=true∧(fstZ z n=0∨fstZ z n=N)∧((∃ j,j<n∧z j=N)→fstZ z n=N)
 |0,_=>⟨rfl,.inl rfl,fun⟨j,hj,_⟩=>absurd hj (by omega)⟩
 |n+1,h=>by
  obtain⟨h1,h2,h3⟩:=zvU n fun j hj=>h j (by omega)
  have hn:=h n (by omega);rw[znI];unfold okZ;refine⟨?_,?_,?_⟩
  ·rw[h1];simp;omega
  ·split<;>omega
  ·rintro⟨j,hj,hz⟩;by_cases e:j=n
   ·subst e;split<;>omega
   ·have:=h3 ⟨j,by omega,hz⟩;split<;>omega
theorem yiY{s:ByteArray}(h:s.size=0):s=ByteArray.mk #[]:=by
 cases s with
 |mk d=>
  have:d.size=0:=h;rw[Array.eq_empty_of_size_eq_zero this]
theorem ycZ{S:Nat→Prop}{v:World}(B n c nb:Nat)(T:Nat→ByteArray)(hn:n<2 ^ 62)(hnb:nb≤64)(hO:TextsOk n nb T)(hT:zfU v B n T) :
  zaP Tryz.prog 51 #[.slice (some ⟨B,0,none⟩) n c] S v fun x S' v'=>x=.tuple #[.int .i64 ((nb*96:Nat):Int),.bool true]∧S'=S∧v'=v:=by
 obtain⟨z,hz⟩:∃ z:Nat→Nat,z=fun j=>(T j).size:=⟨_,rfl⟩
 have hzj:∀ j,z j=(T j).size:=fun j=>by rw[hz]
 have hall:=zvU (z:=z) (N:=nb*96) n fun j hj=>by rw[hzj];exact hO.len j hj
 have hfin:fstZ z n=nb*96:=hall.2.2 (let ⟨j,h1,h2⟩:=hO.some;⟨j,h1,by rw[hzj];exact h2⟩);have HF:=hide hfin;clear hall hfin hz;refine zaF Tryz.func51 rfl Tryz.ntmps51 (by simp) fun Stop cc cs ret=>?_
 have g0:argF #[.slice (some ⟨B,0,none⟩) n c] 0=.slice (some ⟨B,0,none⟩) n c:=rfl;generalize argF #[.slice (some ⟨B,0,none⟩) n c]=f at g0;repeat (first|refine rQ rfl ?_|refine rY zaA ?_|refine rW ?_)
 refine zaI (fun d f' S' w=>∃ j,d=n - j∧j≤n∧S'=S∧w=v∧f' 7=.slice (some ⟨B,0,none⟩) n c∧f' 8=.int .i64 (n:Nat)∧f' 9=.int .i64 (j:Nat)∧f' 4=.int .i64 ((fstZ z j:Nat):Int)) n ⟨0,by omega,by omega,rfl,rfl,by simp[g0],by simp[g0],by simp,by simp[fstZ]⟩ ?_;clear g0 f;rintro d f S' w ⟨j,rfl,hj,eS,eW,g7,g8,g9,g4⟩ nxt;subst S' w;repeat (first|refine rQ rfl ?_|refine rY zaA ?_|refine rW ?_)
 by_cases hlt:j<n
 ·have hjI:(j:Int)<(n:Int):=by omega
  have hs:=hT j hlt;have hlen:=hO.len j hlt;have hf:=(zvU (z:=z) (N:=nb*96) j fun i hi=>by rw[hzj];exact hO.len i (by omega)).2.1
  have hzz:=hzj j;generalize hTs:T j=s at hs hlen hzz;clear hTs;(refine zaB (t:=true) (by simp[Act.eval,g9,g8,hjI,hlt]) ?_;simp only[if_true,if_false,reduceIte,Bool.false_eq_true]);by_cases hz0:s.size=0
  ·have hs0:=yiY hz0;subst hs0;repeat (first|refine rQ rfl ?_|(refine rO zaA rfl ?_;intro _ hu_ K_ hK_;(have hc:=(Ext.twin hu_).cell hs);go_simp;(try rw[wI _]);(try rw[wU _]);refine hK_ _ ?_;clear hK_ K_ hu_;simp only[sS,sN])|refine rW ?_)
   (refine zaB (t:=true) (by simp[Act.eval]) ?_;simp only[if_true,if_false,reduceIte,Bool.false_eq_true]);refine zaK rfl ?_;repeat (first|refine rQ rfl ?_|refine rY zaA ?_|refine rW ?_)
   have n2:fstZ z (j+1)=fstZ z j:=by
    rw[znI];split
    ·rfl
    ·omega
   refine nxt _ _ _ (n - (j+1)) (by omega) ⟨j+1,rfl,by omega,rfl,rfl,by simp[g7],by simp[g8],by simp,by simp[g4,n2]⟩
  ·have hs0:¬s.toList=[]:=yaO (by omega);have n2:fstZ z (j+1)=s.size:=by
    rw[znI];split<;>omega
   have HN2:=hide n2;have HZ:=hide hzz;by_cases hf0:fstZ z j=0
   ·rw[hf0]at g4;clear n2 hzz hf hlen hz0;repeat (first|refine rQ rfl ?_|(refine rO zaA rfl ?_;intro _ hu_ K_ hK_;(have hc:=(Ext.twin hu_).cell hs);go_simp;(try rw[wI _]);(try rw[wU _]);refine hK_ _ ?_;clear hK_ K_ hu_;simp only[sS,sN])|refine rW ?_)
    (refine zaB (t:=false) (by simp[Act.eval,hs0]) ?_;simp only[if_true,if_false,reduceIte,Bool.false_eq_true]);repeat (first|refine rQ rfl ?_|refine rY zaA ?_|refine rW ?_)
    (refine zaB (t:=false) (by simp[Act.eval]) ?_;simp only[if_true,if_false,reduceIte,Bool.false_eq_true]);repeat (first|refine rQ rfl ?_|refine rY zaA ?_|refine rW ?_)
    refine nxt _ _ _ (n - (j+1)) (by omega) ⟨j+1,rfl,by omega,rfl,rfl,by simp[g7],by simp[g8],by simp,by simp[HN2.out]⟩
   ·have hfI:¬((fstZ z j:Nat):Int)=0:=by omega
    have heI:((s.size:Nat):Int)=((fstZ z j:Nat):Int):=by omega
    have heN:s.size=fstZ z j:=by omega
    clear n2 hzz hf hlen hz0;repeat (first|refine rQ rfl ?_|(refine rO zaA rfl ?_;intro _ hu_ K_ hK_;(have hc:=(Ext.twin hu_).cell hs);go_simp;(try rw[wI _]);(try rw[wU _]);refine hK_ _ ?_;clear hK_ K_ hu_;simp only[sS,sN])|refine rW ?_)
    (refine zaB (t:=false) (by simp[Act.eval,hs0]) ?_;simp only[if_true,if_false,reduceIte,Bool.false_eq_true]);repeat (first|refine rQ rfl ?_|refine rY zaA ?_|refine rW ?_)
    (refine zaB (t:=false) (by simp[Act.eval,hfI,hf0,heI,heN]) ?_;simp only[if_true,if_false,reduceIte,Bool.false_eq_true]);repeat (first|refine rQ rfl ?_|refine rY zaA ?_|refine rW ?_)
    refine nxt _ _ _ (n - (j+1)) (by omega) ⟨j+1,rfl,by omega,rfl,rfl,by simp[g7],by simp[g8],by simp,by simp[HN2.out,heN]⟩
 ·obtain rfl:j=n:=by omega
  (refine zaB (t:=false) (by simp[Act.eval,g9,g8]) ?_;simp only[if_true,if_false,reduceIte,Bool.false_eq_true]);refine zaK rfl ?_;repeat (first|refine rQ rfl ?_|refine rY zaA ?_|refine rW ?_)
  refine zaH fun todo=>?_
  refine ret _ _ _ _ (.tuple #[.int .i64 ((fstZ z j:Nat):Int),.bool true]) ?_ ⟨by rw[HF.out],rfl,rfl⟩;simp[results,Tryz.results51]
def putT(y:Nat→Nat)(off k:Nat)(x:ByteArray)(i:Nat):Nat:=if off≤i∧i<off+k then byt x (i - off) else y i
theorem zxX{x:ByteArray}{k:Nat}(hk:k≤x.size):(x.data.toList.take k).map (fun b=>Value.int .u8 (b.toNat:Int))=(List.range k).map fun j=>Value.int .u8 ((byt x j:Nat):Int):=by
 apply List.ext_getElem?;intro i;have e:x.data.size=x.size:=rfl;rw[List.getElem?_map,List.getElem?_map,List.getElem?_take];by_cases h:i<k
 ·rw[if_pos h,List.getElem?_range h,Array.getElem?_toList];have hx:=Array.getElem?_eq_getElem (xs:=x.data) (i:=i) (by omega);rw[hx];simp only[Option.map_some,byt];rw[hx];rfl
 ·rw[if_neg h,List.getElem?_eq_none (by simp;omega)];rfl
theorem zuR{S:Nat→Prop}{v:World}{Stop:Goroutine→(Nat→Prop)→World→Prop}{fn:FuncId}{cs:List Frame}{k:List Item}{n:Nat}{f:Nat→Value}{ops:Array Oper}{i:Nat}{rest:List Nat}{dst:Option Tmp}{op:Op}{ty:TypeId}{pos:String}{aft:Array Edge}{grd:Option (Nat×Bool)}
  (ho:ops[i]?=some ⟨dst,op,ty,pos,aft,grd⟩) (hw:Region.wanted ⟨dst,op,ty,pos,aft,grd⟩ (yielded ops (TA n f))=true) (hok:zbL Tryz.prog FG ⟨dst,op,ty,pos,aft,grd⟩=true) {d s:Operand} {g off cp N:Nat} {y:Nat→Nat} {x:ByteArray}
  (hop:op=Op.call {callee:=Callee.builtin Builtin.copy,args:=#[d,s],argTypes:=#[43,9]}) (hd:(⟨TA n f,[]⟩:Act).eval d=.slice (some ⟨g,off,none⟩) 96 cp) (hs:(⟨TA n f,[]⟩:Act).eval s=.string x) (hrow:v.heap[g]?=some (.cells (zaE N y) 137)) (hfit:off+96≤N)
  (hn:∀ v',Wr v g (.cells (zaE N (putT y off (min x.size 96) x)) 137) v'→Vw.Reach Tryz.prog Stop (G ((base fn).at ⟨TA n (stO f dst (goInt ((min x.size 96:Nat):Int))),[]⟩ (.inRegion ops rest :: k)) cs) S v') :
  Vw.Reach Tryz.prog Stop (G ((base fn).at ⟨TA n f,[]⟩ (.inRegion ops (i :: rest) :: k)) cs) S v:=by
 obtain⟨q,hq⟩:∃ q,q=min x.size 96:=⟨_,rfl⟩;rw[←hq]at hn;have hsp:((zaE N y).toList.take off++(List.range q).map (fun j=>Value.int .u8 ((byt x j:Nat):Int))++(zaE N y).toList.drop (off+q)).toArray=zaE N (putT y off q x):=zdQ N off q (byt x) y (by omega);refine zdD zaA ho hw hok (x:=goInt ((q:Nat):Int)) (fun u hu=>⟨_,zdM hu g (zaE N (putT y off q x)),.inl ?_⟩) (hn _ (zdK hrow));obtain⟨ib,zb,ib1,ib2,ib3,ib4,ib5⟩:=yhD
 have hst:=run_storeCells_at (P:=Tryz.prog) g off 137 ((List.range q).map fun j=>Value.int .u8 ((byt x j:Nat):Int)) 0 (zaE N y) u ((Ext.twin hu).row hrow) (by rw[List.length_map,List.length_range,zaV];omega) (by
  intro z hz;obtain⟨j,_,rfl⟩:=List.mem_map.1 hz
  rfl)
 rw[List.length_map,List.length_range,Nat.add_zero,hsp]at hst;have hrun:(Builtin.copy_ #[43,9] ty #[.slice (some ⟨g,off,none⟩) 96 cp,.string x]).run Tryz.prog u=.ok (goInt ((q:Nat):Int)) (u.setRow g (zaE N (putT y off q x))):=by
  have hmn:Nat.min x.size 96=q:=hq.symm;have hmn2:min x.size 96=q:=hq.symm;have hcl:=zxX (x:=x) (k:=q) (by omega);simp[Builtin.copy_,run_underlying Tryz.underlying43,Builtin.lenOf,sizeOf,typeInfo,ib1,ib3,Builtin.firstCells,hmn,hmn2];rw[←hcl]at hst;simp only[List.map_take]at hst;rw[hst];rfl
 generalize (Act.eval ⟨TA n f,[]⟩)=ρ at hd hs ⊢;unfold execOp;simp[hop,hd,hs,resolve,invoke,builtin,hrun]
structure AllG(v:World)(DB n j nb:Nat)(RB:Nat→Nat)(T:Nat→ByteArray)(w:World):Prop where
 ext:Ext v w
 new:v.heap.size≤DB
 row:w.heap[DB]?=some (.cells (zfR n j nb RB) 116)
 blk:∀ i,i<j→DB<RB i∧w.heap[RB i]?=some (.cells (zaE (nb*96) (byt (T i))) 137)
 inj:∀ i i',i<j→i'<j→RB i=RB i'→i=i'
theorem AllG.step{v w w1 w2 w3:World}{DB n j nb:Nat}{RB:Nat→Nat}{T:Nat→ByteArray}(h:AllG v DB n j nb RB T w)(hj:j<n)(hE:Ext w w1)(hW:Wr w1 DB (.cells ((zfR n j nb RB).setIfInBounds j (.slice (some ⟨w.heap.size,0,none⟩) nb nb)) 116) w2)(hE2:Ext v w2→Ext v w3)(h3:∀ b,b≠w.heap.size→w3.heap[b]?=w2.heap[b]?)(hg:w3.heap[w.heap.size]?=some (.cells (zaE (nb*96) (byt (T j))) 137)) :
  AllG v DB n (j+1) nb (fun i=>if i=j then w.heap.size else RB i) T w3:=by
 have hlt:DB<w.heap.size:=(Array.getElem?_eq_some_iff.1 h.row).1;rw[zmO hj]at hW;have hlt':∀ i,i<j→RB i<w.heap.size:=fun i hi=>(Array.getElem?_eq_some_iff.1 (h.blk i hi).2).1
 refine⟨hE2 (zmB (h.ext.trans _ _ _ hE) h.new hW),h.new,(h3 _ (by omega)).trans hW.at_,fun i hi=>?_,fun i i' hi hi' e=>?_⟩
 rotate_left
 ·by_cases e1:i=j
  ·by_cases e2:i'=j
   ·rw[e1,e2]
   ·simp only[e1,e2,if_true,if_false]at e;have:=hlt' i' (by omega);omega
  ·by_cases e2:i'=j
   ·simp only[e1,e2,if_true,if_false]at e;have:=hlt' i (by omega);omega
   ·simp only[e1,e2,if_false]at e;exact h.inj i i' (by omega) (by omega) e
 by_cases e:i=j
 ·subst e;simp only[if_true];exact⟨hlt,hg⟩
 ·simp only[e,if_false];obtain⟨h1,h2⟩:=h.blk i (by omega);have h4:=hlt' i (by omega);exact⟨h1,(h3 _ (by omega)).trans ((hW.other _ (by omega)).trans (hE.row h2))⟩
def bytU(s:ByteArray)(q i:Nat):Nat:=if i<q then byt s i else 0
theorem yeJ{s:ByteArray}{N:Nat}(h:s.size≤N):bytU s N=byt s:=by
 funext i;unfold bytU;split
 ·rfl
 ·exact(zwA (by omega)).symm
theorem yeI{s:ByteArray}{p q:Nat}(hs:s.size=0∨(p+1)*96≤s.size)(hq:q=min (p*96) s.size):putT (bytU s (p*96)) (p*96) (min (s.extract q s.size).size 96) (s.extract q s.size)=bytU s ((p+1)*96):=by
 have hsz:(s.extract q s.size).size=s.size - q:=by rw[ByteArray.size_extract];omega
 funext i;unfold putT bytU;rw[hsz];rcases hs with hs|hs
 ·have h0:∀ i,byt s i=0:=fun i=>zwA (by omega)
  rw[if_neg (by omega)];simp only[h0];simp
 ·obtain rfl:q=p*96:=by omega
  rw[zwB (by omega)];by_cases h1:p*96≤i∧i<p*96+min (s.size - p*96) 96
  ·rw[if_pos h1,if_pos (by omega),show p*96+(i - p*96)=i by omega]
  ·rw[if_neg h1];by_cases h2:i<p*96
   ·rw[if_pos h2,if_pos (by omega)]
   ·rw[if_neg h2,if_neg (by omega)]
theorem zlP{S:Nat→Prop}{v:World}(B n c nb:Nat)(T:Nat→ByteArray)(hn:n≤18)(hn0:n≠0)(hnb:nb≤64)(hb4:4≤nb)(hO:TextsOk n nb T)(hT:zfU v B n T) :
  zaP Tryz.prog 52 #[.slice (some ⟨B,0,none⟩) n c,.int .i64 (nb:Nat)] S v fun x S' v'=>S'=S∧∃ DB RB,x=.slice (some ⟨DB,0,none⟩) n n∧AllG v DB n n nb RB T v':=by
 refine zaF Tryz.func52 rfl Tryz.ntmps52 (by simp) fun Stop cc cs ret=>?_
 have g0:argF #[.slice (some ⟨B,0,none⟩) n c,.int .i64 (nb:Nat)] 0=.slice (some ⟨B,0,none⟩) n c:=rfl;have g1:argF #[.slice (some ⟨B,0,none⟩) n c,.int .i64 (nb:Nat)] 1=.int .i64 (nb:Nat):=rfl;generalize argF #[.slice (some ⟨B,0,none⟩) n c,.int .i64 (nb:Nat)]=f at g0 g1;repeat (first|refine rQ rfl ?_|refine rY zaA ?_|refine rW ?_)
 refine zdO zaA rfl rfl (by kernel_rfl) rfl (m:=n) (wd:=24) (z:=.slice none 0 0) (by simp[g0]) (by simp[g0]) (by omega) (by omega) hn0 Tryz.underlying112 (by kernel_rfl) rfl fun w1 hE1 hr1 hs1=>?_
 simp only[stO_some];have hA0:AllG v v.heap.size n 0 nb (fun _=>0) T w1:=⟨hE1,Nat.le_refl _,by rw[hr1];congr 2,fun i hi=>by omega,fun i i' hi=>by omega⟩
 repeat (first|refine rQ rfl ?_|refine rY zaA ?_|refine rW ?_)
 refine zaI (fun d f' S' w=>∃ j RB,d=n - j∧j≤n∧S'=S∧AllG v v.heap.size n j nb RB T w∧f' 1=.int .i64 (nb:Nat)∧f' 5=.slice (some ⟨v.heap.size,0,none⟩) n n∧f' 13=.slice (some ⟨B,0,none⟩) n c∧f' 14=.int .i64 (n:Nat)∧f' 15=.int .i64 (j:Nat)) n ⟨0,_,by omega,by omega,rfl,hA0,by simp[g1],by simp,by simp[g0],by simp[g0],by simp⟩ ?_;clear g0 g1 f hA0;rintro d f S' w ⟨j,RB,rfl,hj,eS,hA,g1,g5,g13,g14,g15⟩ nxt;subst S';repeat (first|refine rQ rfl ?_|refine rY zaA ?_|refine rW ?_)
 by_cases hlt:j<n
 ·have hjI:(j:Int)<(n:Int):=by omega
  have hs:=hT.ext hA.ext j hlt;have hlen:=hO.len j hlt;obtain⟨s,hTs⟩:∃ s,s=T j:=⟨_,rfl⟩;rw[←hTs]at hs hlen;have HTs:=hide hTs;clear hTs;(refine zaB (t:=true) (by simp[Act.eval,g15,g14,hjI,hlt]) ?_;simp only[if_true,if_false,reduceIte,Bool.false_eq_true]);repeat (first|refine rQ rfl ?_|(refine rO zaA rfl ?_;intro _ hu_ K_ hK_;(have hc:=(Ext.twin hu_).cell hs);go_simp;(try rw[wI _]);(try rw[wU _]);refine hK_ _ ?_;clear hK_ K_ hu_;simp only[sS,sN])|refine rW ?_)
  refine zaJ (Q:=fun y w1=>y=.slice (some ⟨w.heap.size,0,none⟩) nb nb∧Ext w w1∧w1.heap[w.heap.size]?=some (.cells (zcY (nb*96)) 137)) zaA rfl rfl (by kernel_rfl) (fun u hu=>⟨_,_,.inl (ybJ (l:=.tmp 22) (c:=.tmp 22) nb hnb (by omega) rfl (by simp) (by simp) u),by rw[hu.heap],(Ext.twin hu).trans _ _ _ (Ext.alloc _ _),by rw[←hu.heap];exact zaX _ _⟩) ?_
  rintro _ w2 ⟨rfl,hE2,hg2⟩;simp only[stO_some];repeat (first|refine rQ rfl ?_|refine rY zaA ?_|refine rW ?_)
  refine zaW zaA rfl rfl (by kernel_rfl) (x:=.tmp 24) (y:=.tmp 23) (g:=v.heap.size) (j:=j) (z:=.slice (some ⟨w.heap.size,0,none⟩) nb nb) rfl (by simp) (by simp) rfl rfl (hE2.row hA.row) (by rw[zyU];omega) (by kernel_rfl) fun w3 hW=>?_
  simp only[stO_none];have hvw:v.heap.size<w.heap.size:=(Array.getElem?_eq_some_iff.1 hA.row).1;have hcj:w3.cell? ⟨v.heap.size,j,none⟩=some (.slice (some ⟨w.heap.size,0,none⟩) nb nb):=by
   rw[cell_of_row _ _ _ _ _ _ hW.at_,zmO hlt,zgB hlt];simp
  have hg3:w3.heap[w.heap.size]?=some (.cells (zaE (nb*96) (bytU s (0*96))) 137):=by
   rw[hW.other _ (by omega),hg2,ziP];rfl
  repeat (first|refine rQ rfl ?_|(refine rO zaA rfl ?_;intro _ hu_ K_ hK_;(have hc:=(Ext.twin hu_).cell hcj);go_simp;(try rw[wI _]);(try rw[wU _]);refine hK_ _ ?_;clear hK_ K_ hu_;simp only[sS,sN])|refine rW ?_)
  refine zaI (fun d f' S' w'=>∃ p,d=nb - p∧p≤nb∧S'=S∧(Ext v w3→Ext v w')∧(∀ b,b≠w.heap.size→w'.heap[b]?=w3.heap[b]?)∧w'.heap[w.heap.size]?=some (.cells (zaE (nb*96) (bytU s (p*96))) 137)∧f' 1=.int .i64 (nb:Nat)∧f' 5=.slice (some ⟨v.heap.size,0,none⟩) n n∧f' 13=.slice (some ⟨B,0,none⟩) n c∧f' 14=.int .i64 (n:Nat)∧f' 15=.int .i64 (j:Nat)∧f' 6=.int .i64 (j:Nat)∧f' 7=.string s∧f' 29=.int .i64 (nb:Nat)∧f' 30=.int .i64 (p:Nat)) nb ⟨0,by omega,by omega,rfl,fun h=>h,fun _ _=>rfl,hg3,by simp[g1],by simp[g5],by simp[g13],by simp[g14],by simp[g15],by simp,by simp,by simp,by simp⟩ ?_
  clear g1 g5 g13 g14 g15 f;rintro d f S' w' ⟨p,rfl,hp,eS,hx',ho',hg',g1,g5,g13,g14,g15,g6,g7,g29,g30⟩ nxt2;subst S';repeat (first|refine rQ rfl ?_|refine rY zaA ?_|refine rW ?_)
  by_cases hlp:p<nb
  ·have hpI:(p:Int)<(nb:Int):=by omega
   have hcj':w'.cell? ⟨v.heap.size,j,none⟩=some (.slice (some ⟨w.heap.size,0,none⟩) nb nb):=by
    rw[cell_of_row _ _ _ _ _ _ ((ho' _ (by omega)).trans hW.at_),zmO hlt,zgB hlt];simp
   have hsz64:s.size≤6144:=by omega
   have hmI:((min (p*96) s.size:Nat):Int)≤((s.size:Nat):Int):=by omega
   have hstep:=yeI (s:=s) (p:=p) (by omega) rfl;have HST:=hide hstep;clear hstep;(refine zaB (t:=true) (by simp[Act.eval,g30,g29,hpI,hlp]) ?_;simp only[if_true,if_false,reduceIte,Bool.false_eq_true]);repeat (first|refine rQ rfl ?_|refine rY zaA ?_|refine rW ?_)
   have hmin:(if ((s.size:Nat):Int)<(p:Int)*96 then((s.size:Nat):Int) else(p:Int)*96)=((min (p*96) s.size:Nat):Int):=by
    split<;>omega
   rw[hmin];have hq1:min (p*96) s.size≤s.size:=Nat.min_le_right _ _;generalize min (p*96) s.size=q at hmI hq1 HST ⊢;clear hmin;refine zbX zaA (by first|kernel_rfl|rfl) ?_
   simp only[List.size_toArray,List.length_cons,List.length_nil,Nat.reduceAdd,Nat.zero_add];refine cU 0 ?_;refine cU 1 ?_;refine cU 2 ?_;co_applyP cT (i:=3) rfl (fun _ hu_=>run_eq_of ?u3_3) ?v3_3
   case u3_3=>intro K_ hK_;(have hc:=(Ext.twin hu_).cell hcj');go_simp;(try rw[wI _]);(try rw[wU _]);exact hK_
   simp only[sS,sN];refine cU 4 ?_;refine cU 5 ?_;refine cU 6 ?_;refine cU 7 ?_;refine cU 8 ?_;refine cU 9 ?_;refine cL 10 ?_;refine zuR rfl rfl (by kernel_rfl) (d:=.tmp 44) (s:=.tmp 47) (g:=w.heap.size) (off:=p*96) (cp:=96) (N:=nb*96) (y:=bytU s (p*96)) (x:=s.extract q s.size) rfl (by simp) (by simp) hg' (by omega) fun w4 hW4=>?_
   simp only[stO_some];rw[HST.out]at hW4;repeat (first|refine rQ rfl ?_|refine rY zaA ?_|refine rW ?_)
   refine nxt2 _ _ _ (nb - (p+1)) (by omega) ⟨p+1,rfl,by omega,rfl,fun h=>zmB (hx' h) (by omega) hW4,fun b hb=>(hW4.other b hb).trans (ho' b hb),hW4.at_,by simp[g1],by simp[g5],by simp[g13],by simp[g14],by simp[g15],by simp[g6],by simp[g7],by simp[g29],by simp⟩
  ·obtain rfl:p=nb:=by omega
   (refine zaB (t:=false) (by simp[Act.eval,g30,g29]) ?_;simp only[if_true,if_false,reduceIte,Bool.false_eq_true]);refine zaK rfl ?_;repeat (first|refine rQ rfl ?_|refine rY zaA ?_|refine rW ?_)
   refine nxt _ _ _ (n - (j+1)) (by omega) ⟨j+1,_,rfl,by omega,rfl,hA.step hlt hE2 hW hx' ho' ?_,by simp[g1],by simp[g5],by simp[g13],by simp[g14],by simp[g15]⟩;rw[hg',yeJ (by omega),HTs.out]
 ·obtain rfl:j=n:=by omega
  (refine zaB (t:=false) (by simp[Act.eval,g15,g14]) ?_;simp only[if_true,if_false,reduceIte,Bool.false_eq_true]);refine zaK rfl ?_;repeat (first|refine rQ rfl ?_|refine rY zaA ?_|refine rW ?_)
  refine zaH fun todo=>?_
  refine ret _ _ S w (.slice (some ⟨v.heap.size,0,none⟩) j j) ?_ ⟨rfl,_,RB,rfl,hA⟩;simp[results,Tryz.results52]
def zdF(T:Nat→ByteArray)(left:Nat):Dsk:=⟨fun d p i=>byt (T d) (p*96+i),fun d p i=>byt (T d) (p*96+i),left⟩
theorem zxL(s:ByteArray):flat (fun p i=>byt s (p*96+i))=byt s:=by
 funext i;show byt s (i / 96*96+i % 96)=byt s i;rw[show i / 96*96+i % 96=i by omega]
theorem ylY{S:Nat→Prop}{v:World}(B n c nb wr:Nat)(T:Nat→ByteArray)(hw:wr≤1099511627776)(hn1:14≤n)(hn:n≤18)(hb4:4≤nb)(hnb:nb≤64)(hO:TextsOk n nb T)(hT:zfU v B n T) :
  zaP Tryz.prog 24 #[.slice (some ⟨B,0,none⟩) n c,.int .i64 (wr:Nat)] S v fun x S' v'=>S'=S∧Ext v v'∧∃ D DB DA RB RA,x=.tuple #[.pointer (some ⟨D,0,none⟩),.bool true]∧DiskG D DB DA RB RA n nb (zdF T wr) v'∧v.heap.size≤D∧v.heap.size≤DB∧v.heap.size≤DA∧∀ d,d<n→v.heap.size≤RB d∧v.heap.size≤RA d:=by
 refine zaF Tryz.func24 rfl Tryz.ntmps24 (by simp) fun Stop cc cs ret=>?_
 have g0:argF #[.slice (some ⟨B,0,none⟩) n c,.int .i64 (wr:Nat)] 0=.slice (some ⟨B,0,none⟩) n c:=rfl;have g1:argF #[.slice (some ⟨B,0,none⟩) n c,.int .i64 (wr:Nat)] 1=.int .i64 (wr:Nat):=rfl;generalize argF #[.slice (some ⟨B,0,none⟩) n c,.int .i64 (wr:Nat)]=f at g0 g1;repeat (first|refine rQ rfl ?_|refine rY zaA ?_|refine rW ?_)
 (refine zaC rfl (by first|rfl|simp[Region.wanted,yielded,zaG, *]) rfl Tryz.func51 (by kernel_rfl) rfl (by simp[Act.eval, *];try rfl) (ycZ B n c nb T (by omega) hnb hO hT) ?_)
 rintro _ S1 w1 _ ⟨rfl,e1,e2⟩;subst S1 w1;simp only[stO_some];obtain⟨L,hL⟩:∃ L,L=nb*96:=⟨_,rfl⟩;rw[←hL];have hI:¬(n:Int)<14:=by omega
 have hJ:¬(18:Int)<(n:Int):=by omega
 have hK:(L:Int).tmod 96=0:=by rw[Int.tmod_eq_emod_of_nonneg (by omega)];omega
 have hM:¬(L:Int) / 96<4:=by omega
 have hOO:¬(64:Int)<(L:Int) / 96:=by omega
 have hQ:(L:Int) / 96=((nb:Nat):Int):=by omega
 have HQ:=hide hQ;clear hL hQ;repeat (first|refine rQ rfl ?_|refine rY zaA ?_|refine rW ?_)
 (refine zaB (t:=false) (by simp[Act.eval,hI,hJ]) ?_;simp only[if_true,if_false,reduceIte,Bool.false_eq_true]);repeat (first|refine rQ rfl ?_|refine rY zaA ?_|refine rW ?_)
 (refine zaB (t:=false) (by simp[Act.eval,hK,hM,hOO]) ?_;simp only[if_true,if_false,reduceIte,Bool.false_eq_true]);simp only[HQ.out];clear hI hJ hK hM hOO HQ;repeat (first|refine rQ rfl ?_|refine rY zaA ?_|refine rW ?_)
 (refine zaC rfl (by first|rfl|simp[Region.wanted,yielded,zaG, *]) rfl Tryz.func52 (by kernel_rfl) rfl (by simp[Act.eval, *];try rfl) (zlP B n c nb T hn (by omega) hnb hb4 hO hT) ?_)
 rintro _ S1 w1 _ ⟨e1,DB,RB,rfl,hA⟩;subst S1;simp only[stO_some];repeat (first|refine rQ rfl ?_|refine rY zaA ?_|refine rW ?_)
 (refine zaC rfl (by first|rfl|simp[Region.wanted,yielded,zaG, *]) rfl Tryz.func52 (by kernel_rfl) rfl (by simp[Act.eval, *];try rfl) (zlP B n c nb T hn (by omega) hnb hb4 hO (hT.ext hA.ext)) ?_)
 rintro _ S1 w2 _ ⟨e1,DB',RB',rfl,hA'⟩;subst S1;simp only[stO_some];repeat (first|refine rQ rfl ?_|refine rY zaA ?_|refine rW ?_)
 refine zaJ (Q:=fun y w=>y=.pointer (some ⟨w2.heap.size,0,none⟩)∧Ext w2 w∧w.heap[w2.heap.size]?=some (.cells #[.slice (some ⟨DB,0,none⟩) n n,.slice (some ⟨DB',0,none⟩) n n,.int .i64 (wr:Nat)] 115)) zaA rfl rfl (by kernel_rfl) (fun u hu=>⟨_,_,.inl (zdI (x:=.tmp 48) (y:=.agg #[.slice (some ⟨DB,0,none⟩) n n,.slice (some ⟨DB',0,none⟩) n n,.int .i64 (wr:Nat)]) rfl (by simp) u),by rw[hu.heap],(Ext.twin hu).trans _ _ _ (Ext.alloc _ _),by rw[←hu.heap];exact zaX _ _⟩) ?_
 rintro _ w3 ⟨rfl,hE3,hb3⟩;simp only[stO_some];repeat (first|refine rQ rfl ?_|refine rY zaA ?_|refine rW ?_)
 have hs1:=hA.ext.size;have hs2:=hA'.ext.size;have hn':=hA'.new;have hn0:=hA.new;refine zaH fun todo=>?_
 refine ret _ _ S w3 (.tuple #[.pointer (some ⟨w2.heap.size,0,none⟩),.bool true]) ?_ ⟨rfl,hA.ext.trans _ _ _ (hA'.ext.trans _ _ _ hE3),_,DB,DB',RB,RB',rfl,⟨hb3,hw,hE3.row (hA'.ext.row hA.row),hE3.row hA'.row,fun d hd=>?_,fun d hd=>?_,hA.inj,hA'.inj,fun d d' hd hd' e=>?_,fun d p i=>zxQ _ _⟩,by omega,by omega,by omega,fun d hd=>⟨?_,?_⟩⟩
 ·simp[results,Tryz.results24]
 ·rw[hE3.row (hA'.ext.row (hA.blk d hd).2)];show _=some (Obj.cells (zaE (nb*96) (flat fun p i=>byt (T d) (p*96+i))) _ _)
  rw[zxL]
 ·rw[hE3.row (hA'.blk d hd).2];show _=some (Obj.cells (zaE (nb*96) (flat fun p i=>byt (T d) (p*96+i))) _ _)
  rw[zxL]
 ·have h1:=(Array.getElem?_eq_some_iff.1 (hA.blk d hd).2).1;have h3:=(hA'.blk d' hd').1;omega
 ·have h2:=(hA.blk d hd).1;omega
 ·have h2:=(hA'.blk d hd).1;omega
end Go.Proofs.YtpiefebngnlfoaaGreatDoor
