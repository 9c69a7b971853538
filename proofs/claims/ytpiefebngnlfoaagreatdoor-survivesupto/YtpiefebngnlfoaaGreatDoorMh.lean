import Derived.Test.YtpiefebngnlfoaaGreatDoorMg
set_option maxRecDepth 100000
set_option maxHeartbeats 16000000
set_option linter.unusedVariables false
set_option linter.unusedSimpArgs false
namespace Go.Vw
open Go.Conc
section
variable {P:Program}{a:Act}{w:World}
theorem ybQ{o:Oper}{f:FuncId}{fn:Func}{x:Operand}{args:Array Operand}{ats:Array TypeId}(hop:o.op=.call {callee:=.value x,args,argTypes:=ats})(hx:a.eval x=.func (.func f) #[] #[])
  (hf:P.funcs[f]?=some fn) (hname:(fn.name == "runtime.NumGoroutine")=false) (hb:fn.body.isNone=false):(execOp a.eval o).run P w=.ok (.enter f (args.map a.eval)) w:=by
 have h1:¬fn.name = "runtime.NumGoroutine":=by simpa using hname
 have h2:¬fn.body=none:=by cases hx:fn.body<;>simp_all
 unfold execOp;simp[hop,resolve,hx,Deferred.ofValue,invoke,callFunc,hf,h1,h2]
theorem ztD{o:Oper}{f:FuncId}{fn:Func}{x:Operand}{args:Array Operand}{ats:Array TypeId}(hop:o.op=.call {callee:=.value x,args,argTypes:=ats})(hx:a.eval x=.func (.func f) #[] #[])
  (hf:P.funcs[f]?=some fn) (hname:(fn.name == "runtime.NumGoroutine")=false) (hb:fn.body.isNone=false) (es:Array Event):(execOp a.eval o).events P w es=es:=by
 have h1:¬fn.name = "runtime.NumGoroutine":=by simpa using hname
 have h2:¬fn.body=none:=by cases hx:fn.body<;>simp_all
 unfold execOp;simp[hop,resolve,hx,Deferred.ofValue,invoke,callFunc,hf,h1,h2]
theorem ztU{P:Program}{main:Bool}{b:Frame}{a:Act}{k:List Item}{cs:List Frame}{w:World}{ops:Array Oper}{i:Nat}{rest:List Nat}{o:Oper}{f:FuncId}{fn:Func}{c:Code}{x:Operand}{args:Array Operand}{ats:Array TypeId}{vs:Array Value}
  (ho:ops[i]?=some o) (hw:Region.wanted o (yielded ops a.tmps)=true) (hk:b.kind≠.early) (hop:o.op=.call {callee:=.value x,args,argTypes:=ats}) (hx:a.eval x=.func (.func f) #[] #[])
  (hf:P.funcs[f]?=some fn) (hname:(fn.name == "runtime.NumGoroutine")=false) (hb:fn.body=some c) (hvs:args.map a.eval=vs) :
  stepG P main (G (b.at a (.inRegion ops (i :: rest) :: k)) cs) w=.go (G (Frame.enter P f vs .normal) (b.at a (.inRegion ops (i :: rest) :: k) :: cs)) w #[]:=by
 have hb':fn.body.isNone=false:=by rw[hb];rfl
 subst hvs;rw[stepG_enter ho hw hk (ybQ hop hx hf hname hb')];have:listed P b.fn a o w=#[]:=by unfold listed;rw[ztD hop hx hf hname hb'];exact seen_none P _
 rw[this]
end
section
variable {P:Program}{Stop:Goroutine→(Nat→Prop)→World→Prop}{S:Nat→Prop}{v:World}{fn:FuncId}{cs:List Frame}{k:List Item}{n:Nat}{f:Nat→Value}{ops:Array Oper}{i:Nat}{rest:List Nat}{o:Oper}
theorem zuS{g:FuncId}{gf:Func}{c:Code}{x:Operand}{args:Array Operand}{ats:Array TypeId}{vs:Array Value}{Post:Value→(Nat→Prop)→World→Prop}(ho:ops[i]?=some o)(hw:Region.wanted o (yielded ops (TA n f))=true)(hop:o.op=.call {callee:=.value x,args,argTypes:=ats})(hx:(⟨TA n f,[]⟩:Act).eval x=.func (.func g) #[] #[])
  (hf:P.funcs[g]?=some gf) (hname:(gf.name == "runtime.NumGoroutine")=false) (hb:gf.body=some c) (hvs:args.map (⟨TA n f,[]⟩:Act).eval=vs) (hc:zaP P g vs S v Post)
  (hn:∀ x S' v',View P S' v'→Post x S' v'→Reach P Stop (G ((base fn).at ⟨TA n (stO f o.dst x),[]⟩ (.inRegion ops rest :: k)) cs) S' v') :
  Reach P Stop (G ((base fn).at ⟨TA n f,[]⟩ (.inRegion ops (i :: rest) :: k)) cs) S v:=
 zaS rfl (fun w=>ztU ho hw (by simp[base]) hop hx hf hname hb hvs) (hc Stop _ cs fun x S' v' hv q=>by
  rw[Frame.finish_at,ho];show Reach P Stop (G ((base fn).at (Act.put ⟨TA n f,[]⟩ o.dst x) (.inRegion ops rest :: k)) cs) S' v';rw[zbH]
  exact hn x S' v' hv q)
end
end Go.Vw
namespace Go.Proofs.YtpiefebngnlfoaaGreatDoor
open Go.RowKit Go.Conc Go.Vw
structure Hl where
 id:Nat
 size:Nat
 bad:Nat
def ztG(x:Hl)(k:Nat):Value:=.int .i64 ((if k=0 then x.id else if k=1 then x.size else x.bad:Nat):Int)
def hAgg(x:Hl):Array Value:=#[.int .i64 (x.id:Nat),.int .i64 (x.size:Nat),.int .i64 (x.bad:Nat)]
def hA(n:Nat)(h:Nat→Hl):Array Value:=(Array.range (n*3)).map fun i=>ztG (h (i / 3)) (i % 3)
def updH(h:Nat→Hl)(j:Nat)(x:Hl):Nat→Hl:=fun i=>if i=j then x else h i
theorem zfX(n:Nat)(h:Nat→Hl):(hA n h).size=n*3:=by simp[hA]
theorem zeQ{n i:Nat}{h:Nat→Hl}(hi:i<n*3):(hA n h)[i]?=some (ztG (h (i / 3)) (i % 3)):=by simp[hA,hi]
theorem zxJ{x:Hl}{k:Nat}(hk:k<3):(hAgg x)[k]?=some (ztG x k):=by
 match k,hk with
 |0,_=>rfl
 |1,_=>rfl
 |2,_=>rfl
theorem ztA{n j:Nat}{h:Nat→Hl}(hj:j<n)(x:Hl):((hA n h).toList.take (j*3)++(hAgg x).toList++(hA n h).toList.drop (j*3+3)).toArray=hA n (updH h j x):=by
 apply Array.ext_getElem?;intro i;rw[List.getElem?_toArray,List.append_assoc,List.getElem?_append];have hl:((hA n h).toList.take (j*3)).length=j*3:=by
  rw[List.length_take,Array.length_toList,zfX];omega
 rw[hl];by_cases h1:i<j*3
 ·rw[if_pos h1,List.getElem?_take,if_pos h1,Array.getElem?_toList,zeQ (by omega),zeQ (by omega)];unfold updH;rw[if_neg (by omega)]
 ·rw[if_neg h1,List.getElem?_append];have hl2:(hAgg x).toList.length=3:=rfl;rw[hl2];by_cases h2:i - j*3<3
  ·rw[if_pos h2,Array.getElem?_toList,zxJ h2,zeQ (by omega)];unfold updH;rw[if_pos (by omega),show i % 3=i - j*3 by omega]
  ·rw[if_neg h2,List.getElem?_drop,Array.getElem?_toList,show j*3+3+(i - j*3 - 3)=i by omega];by_cases h3:i<n*3
   ·rw[zeQ h3,zeQ h3];unfold updH;rw[if_neg (by omega)]
   ·rw[Array.getElem?_eq_none (by rw[zfX];omega),Array.getElem?_eq_none (by rw[zfX];omega)]
theorem zxI(x:Hl):∀ y∈(hAgg x).toList,y.oneCell'=true:=by simp[hAgg,Value.oneCell']
theorem zxF:∃ i,Tryz.prog.info? 94=some i∧i.size=3∧i.zero=some (.agg (hAgg ⟨0,0,0⟩)):=⟨_,rfl,rfl,rfl⟩
section
variable {w w' v:World}{S:Nat→Prop}
theorem zhL{o:Oper}{a:Act}{x:Operand}{b n j:Nat}{h:Nat→Hl}{u:World}(hop:o.op=.load 94 x)(hx:a.eval x=.pointer (some ⟨b,j*3,none⟩))(hb:u.heap[b]?=some (.cells (hA n h) 94))(hj:j<n):(execOp a.eval o).run Tryz.prog u=.ok (.value (.agg (hAgg (h j)))) u:=by
 have hl:=run_loadAt_mid (P:=Tryz.prog) u b (j*3) 94 (hAgg (h j)).toList _ (fun i z hy=>by
  have hi:i<3:=(List.getElem?_eq_some_iff.1 hy).1;rw[Array.getElem?_toList,zxJ hi]at hy
  rw[cell_of_row _ _ _ _ _ _ hb,zeQ (by omega),←hy,show(j*3+i) / 3=j by omega,show(j*3+i) % 3=i by omega]) Tryz.underlying94 rfl (by kernel_rfl)
 unfold execOp;simp only[hop,hx,Sem.run_bind,hl,Result.andThen_ok,Sem.run_pure]
theorem zmI{u:World}{o:Oper}{a:Act}{x y:Operand}{g n j:Nat}{h:Nat→Hl}{z:Hl}(hu:Vw.Twin w u)(hrow:w.heap[g]?=some (.cells (hA n h) 94))(hj:j<n)(hop:o.op=.store 94 x y)(hx:a.eval x=.pointer (some ⟨g,j*3,none⟩))(hy:a.eval y=.agg (hAgg z)) :
  ∃ x w',((execOp a.eval o).run Tryz.prog u=.ok (.value x) w'∨((execOp a.eval o).run Tryz.prog u=.ok .skip w'∧x=undef))∧Wr w g (.cells (hA n (updH h j z)) 94) w':=by
 have hr:=(Ext.twin hu).row hrow;have hst:=run_storeCells_at Tryz.prog g (j*3) 94 (hAgg z).toList 0 (hA n h) u hr (by rw[zfX];show j*3+0+3≤n*3;omega) (zxI z);have e3:(hAgg z).toList.length=3:=rfl;rw[Nat.add_zero,e3,ztA hj]at hst;obtain⟨i,i1,i2,i3⟩:=zxF;have hW:=zdK (c:=hA n (updH h j z)) hr;refine⟨undef,_,.inr ⟨?_,rfl⟩,hW.at_,fun b hb=>(hW.other b hb).trans (by rw[hu.heap]),by rw[hW.size,hu.heap],hW.os.trans hu.os,hW.output.trans hu.output⟩
 unfold execOp;simp only[hop,hx,hy];simp[Instr.storeAt,Instr.sureAddr,storeVar,sizeOf,typeInfo,i1,i2,Value.cells,hAgg]at hst ⊢;rw[hst];rfl
def cmpV(a b:Nat):Value:=.int .i64 (if a<b then -1 else if b<a then 1 else 0)
theorem ydI(a:Nat):zaP Tryz.prog 80 #[.int .i64 (a:Nat)] S v fun x S' v'=>x=.bool false∧S'=S∧v'=v:=by
 refine zaF Tryz.func80 rfl Tryz.ntmps80 (by simp) fun Stop cc cs ret=>?_
 have g0:argF #[.int .i64 (a:Nat)] 0=.int .i64 (a:Nat):=rfl;generalize argF #[.int .i64 (a:Nat)]=f at g0;repeat (first|refine rQ rfl ?_|refine rY zaA ?_|refine rW ?_)
 refine zaH fun todo=>?_
 refine ret _ _ S v (.bool false) ?_ ⟨rfl,rfl,rfl⟩;simp[results,Tryz.results80]
theorem yeC(a b:Nat):zaP Tryz.prog 67 #[.int .i64 (a:Nat),.int .i64 (b:Nat)] S v fun x S' v'=>x=cmpV a b∧S'=S∧v'=v:=by
 refine zaF Tryz.func67 rfl Tryz.ntmps67 (by simp) fun Stop cc cs ret=>?_
 have g0:argF #[.int .i64 (a:Nat),.int .i64 (b:Nat)] 0=.int .i64 (a:Nat):=rfl;have g1:argF #[.int .i64 (a:Nat),.int .i64 (b:Nat)] 1=.int .i64 (b:Nat):=rfl;generalize argF #[.int .i64 (a:Nat),.int .i64 (b:Nat)]=f at g0 g1;repeat (first|refine rQ rfl ?_|refine rY zaA ?_|refine rW ?_)
 (refine zaC rfl (by first|rfl|simp[Region.wanted,yielded,zaG, *]) rfl Tryz.func80 (by kernel_rfl) rfl (by simp[Act.eval, *];try rfl) (ydI a) ?_)
 rintro _ S1 w1 _ ⟨rfl,e1,e2⟩;subst S1 w1;simp only[stO_some];repeat (first|refine rQ rfl ?_|refine rY zaA ?_|refine rW ?_)
 (refine zaC rfl (by first|rfl|simp[Region.wanted,yielded,zaG, *]) rfl Tryz.func80 (by kernel_rfl) rfl (by simp[Act.eval, *];try rfl) (ydI b) ?_)
 rintro _ S1 w1 _ ⟨rfl,e1,e2⟩;subst S1 w1;simp only[stO_some];repeat (first|refine rQ rfl ?_|refine rY zaA ?_|refine rW ?_)
 (refine zaB (t:=false) (by simp[Act.eval]) ?_;simp only[if_true,if_false,reduceIte,Bool.false_eq_true]);repeat (first|refine rQ rfl ?_|refine rY zaA ?_|refine rW ?_)
 (refine zaB (t:=false) (by simp[Act.eval]) ?_;simp only[if_true,if_false,reduceIte,Bool.false_eq_true]);repeat (first|refine rQ rfl ?_|refine rY zaA ?_|refine rW ?_)
 by_cases h1:a<b
 ·skip;(refine zaB (t:=true) (by simp[Act.eval,h1]) ?_;simp only[if_true,if_false,reduceIte,Bool.false_eq_true]);repeat (first|refine rQ rfl ?_|refine rY zaA ?_|refine rW ?_)
  refine zaH fun todo=>?_
  refine ret _ _ S v (cmpV a b) ?_ ⟨rfl,rfl,rfl⟩;simp[results,Tryz.results67,cmpV,h1]
 ·have h1':b≤a:=by omega
  (refine zaB (t:=false) (by simp[Act.eval,h1']) ?_;simp only[if_true,if_false,reduceIte,Bool.false_eq_true]);repeat (first|refine rQ rfl ?_|refine rY zaA ?_|refine rW ?_)
  by_cases h2:b<a
  ·skip;(refine zaB (t:=true) (by simp[Act.eval,h2]) ?_;simp only[if_true,if_false,reduceIte,Bool.false_eq_true]);repeat (first|refine rQ rfl ?_|refine rY zaA ?_|refine rW ?_)
   refine zaH fun todo=>?_
   refine ret _ _ S v (cmpV a b) ?_ ⟨rfl,rfl,rfl⟩;simp[results,Tryz.results67,cmpV,h1,h2]
  ·have h2':a≤b:=by omega
   (refine zaB (t:=false) (by simp[Act.eval,h2']) ?_;simp only[if_true,if_false,reduceIte,Bool.false_eq_true]);repeat (first|refine rQ rfl ?_|refine rY zaA ?_|refine rW ?_)
   refine zaH fun todo=>?_
   refine ret _ _ S v (cmpV a b) ?_ ⟨rfl,rfl,rfl⟩;simp[results,Tryz.results67,cmpV,h1,h2]
theorem ymD(a b:Hl):zaP Tryz.prog 66 #[.agg (hAgg a),.agg (hAgg b)] S v fun x S' v'=>x=cmpV a.id b.id∧S'=S∧Ext v v':=by
 refine zaF Tryz.func66 rfl Tryz.ntmps66 (by simp) fun Stop cc cs ret=>?_
 have g0:argF #[.agg (hAgg a),.agg (hAgg b)] 0=.agg (hAgg a):=rfl;have g1:argF #[.agg (hAgg a),.agg (hAgg b)] 1=.agg (hAgg b):=rfl;generalize argF #[.agg (hAgg a),.agg (hAgg b)]=f at g0 g1;repeat (first|refine rQ rfl ?_|refine rY zaA ?_|refine rW ?_)
 refine zaJ (Q:=fun y w=>y=.pointer (some ⟨v.heap.size,0,none⟩)∧Ext v w∧w.heap[v.heap.size]?=some (.cells (hAgg a) 94)) zaA rfl rfl (by kernel_rfl) (fun u hu=>⟨_,_,.inl (zdI (x:=.tmp 0) (y:=.agg (hAgg a)) rfl (by simp[g0]) u),by rw[hu.heap],(Ext.twin hu).trans _ _ _ (Ext.alloc _ _),by rw[←hu.heap];exact zaX _ _⟩) ?_
 rintro _ w1 ⟨rfl,hE1,hb1⟩;simp only[stO_some];repeat (first|refine rQ rfl ?_|refine rY zaA ?_|refine rW ?_)
 refine zaJ (Q:=fun y w=>y=.pointer (some ⟨w1.heap.size,0,none⟩)∧Ext w1 w∧w.heap[w1.heap.size]?=some (.cells (hAgg b) 94)) zaA rfl rfl (by kernel_rfl) (fun u hu=>⟨_,_,.inl (zdI (x:=.tmp 1) (y:=.agg (hAgg b)) rfl (by simp[g1]) u),by rw[hu.heap],(Ext.twin hu).trans _ _ _ (Ext.alloc _ _),by rw[←hu.heap];exact zaX _ _⟩) ?_
 rintro _ w2 ⟨rfl,hE2,hb2⟩;simp only[stO_some];have c1:w2.cell? ⟨v.heap.size,0,none⟩=some (.int .i64 (a.id:Nat)):=(cell_of_row _ _ _ _ _ _ (hE2.row hb1)).trans rfl;have c2:w2.cell? ⟨w1.heap.size,0,none⟩=some (.int .i64 (b.id:Nat)):=(cell_of_row _ _ _ _ _ _ hb2).trans rfl;repeat (first|refine rQ rfl ?_|(refine rO zaA rfl ?_;intro _ hu_ K_ hK_;(have hc:=(Ext.twin hu_).cell c1;have hc':=(Ext.twin hu_).cell c2);go_simp;(try rw[wI _]);(try rw[wU _]);refine hK_ _ ?_;clear hK_ K_ hu_;simp only[sS,sN])|refine rW ?_)
 (refine zaC rfl (by first|rfl|simp[Region.wanted,yielded,zaG, *]) rfl Tryz.func67 (by kernel_rfl) rfl (by simp[Act.eval, *];try rfl) (yeC a.id b.id) ?_)
 rintro _ S1 w3 _ ⟨rfl,e1,e2⟩;subst S1 w3;simp only[stO_some];repeat (first|refine rQ rfl ?_|refine rY zaA ?_|refine rW ?_)
 refine zaH fun todo=>?_
 refine ret _ _ S w2 (cmpV a.id b.id) ?_ ⟨rfl,rfl,hE1.trans _ _ _ hE2⟩;simp[results,Tryz.results66]
end
def zcR(id:Nat):Code→Option (Array Oper)
 |.region i ops _=>bif Nat.beq i id then some ops else none
 |.seq a b=>match zcR id a with
  |some x=>some x
  |none=>zcR id b
 |.cond _ a b=>match zcR id a with
  |some x=>some x
  |none=>zcR id b
 |.block _ c=>zcR id c
 |.loop c=>zcR id c
 |_=>none
theorem znJ{ops:Array Oper}{m:Nat}(h:(List.range m).all (yhF ops)=true){s:Nat}(hs:s<m):∀ j,j<ops.size→dstO ops j≠some s:=zaR (List.all_eq_true.1 h s (List.mem_range.2 hs))
def zvF(n:Nat)(h h':Nat→Hl):Prop:=((List.range n).map h').Perm ((List.range n).map h)
theorem zvF.trans{n:Nat}{a b c:Nat→Hl}(h:zvF n a b)(h':zvF n b c):zvF n a c:=List.Perm.trans h' h
def swH(h:Nat→Hl)(j:Nat):Nat→Hl:=updH (updH h j (h (j - 1))) (j - 1) (h j)
theorem yfM{n j:Nat}(h:Nat→Hl)(hj:0<j)(hn:j<n):zvF n h (swH h j):=by
 obtain⟨i,rfl⟩:∃ i,j=i+1:=⟨j - 1,by omega⟩;obtain⟨r,rfl⟩:∃ r,n=i+(2+r):=⟨n - i - 2,by omega⟩;unfold zvF;have e:List.range (i+(2+r))=List.range i++(i :: (i+1) :: (List.range r).map fun k=>i+(2+k)):=by
  rw[List.range_add,List.range_add];simp[List.range_succ,Function.comp_def]
 rw[e,List.map_append,List.map_append];have h1:(List.range i).map (swH h (i+1))=(List.range i).map h:=List.map_congr_left fun k hk=>by
  have:=List.mem_range.1 hk;unfold swH updH;rw[if_neg (by omega),if_neg (by omega)]
 have h2:((List.range r).map fun k=>i+(2+k)).map (swH h (i+1))=((List.range r).map fun k=>i+(2+k)).map h:=List.map_congr_left fun k hk=>by
  obtain⟨k',_,rfl⟩:=List.mem_map.1 hk;unfold swH updH;rw[if_neg (by omega),if_neg (by omega)]
 rw[List.map_cons,List.map_cons,List.map_cons,List.map_cons,h1,h2];have h3:swH h (i+1) i=h (i+1):=by
  unfold swH updH;rw[if_pos (by omega)]
 have h4:swH h (i+1) (i+1)=h i:=by
  unfold swH updH;rw[if_neg (by omega),if_pos rfl,Nat.add_sub_cancel]
 rw[h3,h4];exact(List.Perm.refl _).append (.swap _ _ _)
structure InsI(i j:Nat)(h:Nat→Hl):Prop where
 low:∀ a b,a<b→b≤i→a≠j→b≠j→(h a).id≤(h b).id
 up:∀ b,j<b→b≤i→(h j).id≤(h b).id
theorem InsI.start{i:Nat}{h:Nat→Hl}(hs:∀ a b,a<b→b<i→(h a).id≤(h b).id):InsI i i h:=⟨fun a b h1 h2 h3 h4=>hs a b h1 (by omega),fun b h1 h2=>by omega⟩
theorem InsI.done{i j:Nat}{h:Nat→Hl}(H:InsI i j h)(hj:j=0∨(h (j - 1)).id≤(h j).id)(hji:j≤i):∀ a b,a<b→b<i+1→(h a).id≤(h b).id:=by
 intro a b h1 h2;by_cases ea:a=j
 ·rw[ea];exact H.up b (by omega) (by omega)
 ·by_cases eb:b=j
  ·rcases hj with rfl|hj
   ·omega
   ·by_cases e:a=j - 1
    ·rw[e,eb];exact hj
    ·have:=H.low a (j - 1) (by omega) (by omega) ea (by omega);rw[eb];omega
  ·exact H.low a b h1 (by omega) ea eb
theorem InsI.swap{i j:Nat}{h:Nat→Hl}(H:InsI i j h)(hj:0<j)(hji:j≤i)(hlt:(h j).id<(h (j - 1)).id):InsI i (j - 1) (swH h j):=by
 have s1:swH h j (j - 1)=h j:=by unfold swH updH;rw[if_pos rfl]
 have s2:swH h j j=h (j - 1):=by unfold swH updH;rw[if_neg (by omega),if_pos rfl]
 have s3:∀ k,k≠j→k≠j - 1→swH h j k=h k:=fun k h1 h2=>by unfold swH updH;rw[if_neg h2,if_neg h1]
 refine⟨fun a b h1 h2 h3 h4=>?_,fun b h1 h2=>?_⟩
 ·by_cases ea:a=j
  ·rw[ea,s2,s3 b (by omega) h4];exact H.low (j - 1) b (by omega) h2 (by omega) (by omega)
  ·rw[s3 a ea h3];by_cases eb:b=j
   ·rw[eb,s2];exact H.low a (j - 1) (by omega) (by omega) ea (by omega)
   ·rw[s3 b eb h4];exact H.low a b h1 h2 ea eb
 ·rw[s1];by_cases eb:b=j
  ·rw[eb,s2];omega
  ·rw[s3 b eb (by omega)];exact H.up b (by omega) h2
def zrO(F:Value)(g n cap j:Nat)(h:Nat→Hl)(i:Nat)(x:Value)(w:World):Prop:=
 match i with
 |0=>x=.int .i64 (j:Nat)
 |1=>x=.int .i64 0
 |2=>x=.bool true
 |3=>x=.bool true
 |4=>x=F
 |5=>x=.slice (some ⟨g,0,none⟩) n cap
 |6=>x=.int .i64 (j:Nat)
 |7=>x=.pointer (some ⟨g,j*3,none⟩)
 |8=>x=.agg (hAgg (h j))
 |9=>x=.slice (some ⟨g,0,none⟩) n cap
 |10=>x=.int .i64 (j:Nat)
 |11=>x=.int .i64 ((j - 1:Nat):Int)
 |12=>x=.pointer (some ⟨g,(j - 1)*3,none⟩)
 |13=>x=.agg (hAgg (h (j - 1)))
 |14=>x=cmpV (h j).id (h (j - 1)).id
 |15=>x=.bool (decide ((h j).id<(h (j - 1)).id))
 |16=>x=.bool (decide ((h j).id<(h (j - 1)).id))
 |_=>True
section
variable {w w' v:World}{S:Nat→Prop}
theorem yhA{f:Nat→Value}{Stop:Goroutine→(Nat→Prop)→World→Prop}{cs:List Frame}{k0:List Item}(g n cap N j:Nat)(h:Nat→Hl)(hj:0<j)(hjn:j<n)(hnc:n≤cap)(hn:n≤12)(hnN:n≤N)(hg:w.heap[g]?=some (.cells (hA N h) 94))
  (g0:f 0=.slice (some ⟨g,0,none⟩) n cap) (g1:f 1=.int .i64 0) (g3:f 3=.func (.func 66) #[] #[]) (g9:f 9=.int .i64 (j:Nat))
  (next:∀ w' f',Ext w w'→f' 34=.bool (decide ((h j).id<(h (j - 1)).id))→(∀ s,s<18→f' s=f s)→Vw.Reach Tryz.prog Stop (G ((base 92).at ⟨TA 53 f',[]⟩ (.inRegion ((zcR 4 (Tryz.f92.body.getD .skip)).getD #[]) [] :: k0)) cs) S w') :
  Vw.Reach Tryz.prog Stop (G ((base 92).at ⟨TA 53 f,[]⟩ (.code (.region 4 ((zcR 4 (Tryz.f92.body.getD .skip)).getD #[]) true) :: k0)) cs) S w:=by
 have e:zcR 4 (Tryz.f92.body.getD .skip)=some _:=rfl;rw[e]at next ⊢
 simp only[Option.getD_some]at next ⊢
 clear e;have hj1:j - 1<n:=by omega
 have hjI:(j:Int)<(n:Int):=by omega
 have hj1I:((j - 1:Nat):Int)<(n:Int):=by omega
 have hj0:(0:Int)<(j:Int):=by omega
 have hcast:(j:Int) - 1=((j - 1:Nat):Int):=by omega
 refine ziW (by kernel_rfl) (by kernel_rfl) (by kernel_rfl) (zrO (.func (.func 66) #[] #[]) g n cap j h) (fun j x w w' q _=>q) ?_ ?_ ?_
 ·intro j hj he x w h;have hj':j<17:=hj;rcases(by omega:j=0∨j=1∨j=2∨j=3∨j=4∨j=5∨j=6∨j=7∨j=8∨j=9∨j=10∨j=11∨j=12∨j=13∨j=14∨j=15∨j=16) with rfl|rfl|rfl|rfl|rfl|rfl|rfl|rfl|rfl|rfl|rfl|rfl|rfl|rfl|rfl|rfl|rfl<;>cases he
 ·intro i f' w3 rest hi hE hf hd nxt;have g0':f' 0=.slice (some ⟨g,0,none⟩) n cap:=(hf 0 (zaR (by kernel_rfl))).trans g0;have g1':f' 1=.int .i64 0:=(hf 1 (zaR (by kernel_rfl))).trans g1;have g3':f' 3=.func (.func 66) #[] #[]:=(hf 3 (zaR (by kernel_rfl))).trans g3;have g9':f' 9=.int .i64 (j:Nat):=(hf 9 (zaR (by kernel_rfl))).trans g9;have hi':i<17:=hi;have hg3:=hE.row hg;clear hf g0 g1 g3 g9;rcases(by omega:i=0∨i=1∨i=2∨i=3∨i=4∨i=5∨i=6∨i=7∨i=8∨i=9∨i=10∨i=11∨i=12∨i=13∨i=14∨i=15∨i=16) with rfl|rfl|rfl|rfl|rfl|rfl|rfl|rfl|rfl|rfl|rfl|rfl|rfl|rfl|rfl|rfl|rfl
  ·clear hd;refine rY zaA ?_;exact nxt _ w3 (.refl w3) rfl
  ·clear hd;refine rY zaA ?_;exact nxt _ w3 (.refl w3) rfl
  ·have d0:f' 18=.int .i64 (j:Nat):=hd 0 (zaD (by kernel_rfl));have d1:f' 19=.int .i64 0:=hd 1 (zaD (by kernel_rfl));clear hd;refine rY zaA ?_;exact nxt _ w3 (.refl w3) (by simp[zrO,hj])
  ·have d0:f' 20=.bool true:=hd 2 (zaD (by kernel_rfl));clear hd;refine rY zaA ?_;exact nxt _ w3 (.refl w3) rfl
  ·have d3:f' 21=.bool true:=hd 3 (zaD (by kernel_rfl));clear hd;refine rY zaA ?_;exact nxt _ w3 (.refl w3) rfl
  ·have d3:f' 21=.bool true:=hd 3 (zaD (by kernel_rfl));clear hd;refine rY zaA ?_;exact nxt _ w3 (.refl w3) rfl
  ·have d3:f' 21=.bool true:=hd 3 (zaD (by kernel_rfl));clear hd;refine rY zaA ?_;exact nxt _ w3 (.refl w3) rfl
  ·have d3:f' 21=.bool true:=hd 3 (zaD (by kernel_rfl));have d5:f' 23=.slice (some ⟨g,0,none⟩) n cap:=hd 5 (zaD (by kernel_rfl));have d6:f' 24=.int .i64 (j:Nat):=hd 6 (zaD (by kernel_rfl));clear hd;refine rY zaA ?_;exact nxt _ w3 (.refl w3) (by simp[zrO])
  ·have d3:f' 21=.bool true:=hd 3 (zaD (by kernel_rfl));have d7:f' 25=.pointer (some ⟨g,j*3,none⟩):=hd 7 (zaD (by kernel_rfl));clear hd;refine zaO zaA rfl (by simp[Region.wanted,yielded,zaG, *]) (by kernel_rfl) (fun u hu=>zhL (x:=.tmp 25) (b:=g) (n:=N) (j:=j) rfl (by simp[d7]) ((Ext.twin hu).row hg3) (by omega)) ?_;exact nxt _ w3 (.refl w3) rfl
  ·have d3:f' 21=.bool true:=hd 3 (zaD (by kernel_rfl));clear hd;refine rY zaA ?_;exact nxt _ w3 (.refl w3) rfl
  ·have d3:f' 21=.bool true:=hd 3 (zaD (by kernel_rfl));clear hd;refine rY zaA ?_;exact nxt _ w3 (.refl w3) rfl
  ·have d3:f' 21=.bool true:=hd 3 (zaD (by kernel_rfl));have d10:f' 28=.int .i64 (j:Nat):=hd 10 (zaD (by kernel_rfl));clear hd;refine rY zaA ?_;exact nxt _ w3 (.refl w3) (by simp[zrO,hcast])
  ·have d3:f' 21=.bool true:=hd 3 (zaD (by kernel_rfl));have d9:f' 27=.slice (some ⟨g,0,none⟩) n cap:=hd 9 (zaD (by kernel_rfl));have d11:f' 29=.int .i64 ((j - 1:Nat):Int):=hd 11 (zaD (by kernel_rfl));clear hd;generalize j - 1=j1 at *
   refine rY zaA ?_;exact nxt _ w3 (.refl w3) (by simp[zrO])
  ·have d3:f' 21=.bool true:=hd 3 (zaD (by kernel_rfl));have d12:f' 30=.pointer (some ⟨g,(j - 1)*3,none⟩):=hd 12 (zaD (by kernel_rfl));clear hd;refine zaO zaA rfl (by simp[Region.wanted,yielded,zaG, *]) (by kernel_rfl) (fun u hu=>zhL (x:=.tmp 30) (b:=g) (n:=N) (j:=j - 1) rfl (by simp[d12]) ((Ext.twin hu).row hg3) (by omega)) ?_;exact nxt _ w3 (.refl w3) rfl
  ·have d3:f' 21=.bool true:=hd 3 (zaD (by kernel_rfl));have d4:f' 22=.func (.func 66) #[] #[]:=hd 4 (zaD (by kernel_rfl));have d8:f' 26=.agg (hAgg (h j)):=hd 8 (zaD (by kernel_rfl));have d13:f' 31=.agg (hAgg (h (j - 1))):=hd 13 (zaD (by kernel_rfl));clear hd;refine zuS rfl (by simp[Region.wanted,yielded,zaG, *]) rfl (by simp[d4]) Tryz.func66 (by kernel_rfl) rfl (by simp[d8,d13]) (ymD (h j) (h (j - 1))) ?_;rintro _ S1 w4 _ ⟨rfl,e1,hE4⟩;subst S1;exact nxt _ w4 hE4 rfl
  ·have d3:f' 21=.bool true:=hd 3 (zaD (by kernel_rfl));have d14:f' 32=cmpV (h j).id (h (j - 1)).id:=hd 14 (zaD (by kernel_rfl));clear hd;unfold cmpV at d14;by_cases hlt:(h j).id<(h (j - 1)).id
   ·rw[if_pos hlt]at d14;refine rY zaA ?_;exact nxt _ w3 (.refl w3) (by simp[zrO,hlt])
   ·rw[if_neg hlt]at d14;by_cases hgt:(h (j - 1)).id<(h j).id
    ·rw[if_pos hgt]at d14;refine rY zaA ?_;exact nxt _ w3 (.refl w3) (by simp[zrO];omega)
    ·rw[if_neg hgt]at d14;refine rY zaA ?_;exact nxt _ w3 (.refl w3) (by simp[zrO];omega)
  ·have d3:f' 21=.bool true:=hd 3 (zaD (by kernel_rfl));have d15:f' 33=.bool (decide ((h j).id<(h (j - 1)).id)):=hd 15 (zaD (by kernel_rfl));clear hd;refine rY zaA ?_;exact nxt _ w3 (.refl w3) rfl
 ·intro f' w3 hE hf hd;exact next w3 f' hE (hd 16 (by decide)) fun s hs=>hf s (znJ (by kernel_rfl) hs)
end
end Go.Proofs.YtpiefebngnlfoaaGreatDoor
