import Derived.Test.YtpiefebngnlfoabGreatDoorMg
set_option maxRecDepth 99999
set_option maxHeartbeats 0
set_option linter.unusedVariables false
set_option linter.unusedSimpArgs false
namespace Go.Vw
open Go.Conc
section
variable {P:Program}{a:Act}{w:World}
theorem Ro{o:Oper}{f:FuncId}{fn:Func}{x:Operand}{args:Array Operand}{ats:Array TypeId}(hop:o.op=.call {callee:=.value x,args,argTypes:=ats})(hx:a.eval x=.func (.func f) #[] #[])
  (hf:P.funcs[f]?=some fn) (hname:(fn.name == "runtime.NumGoroutine")=false) (hb:fn.body.isNone=false):(execOp a.eval o).run P w=.ok (.enter f (args.map a.eval)) w:=by
 have h1:¬fn.name = "runtime.NumGoroutine":=by simpa using hname
 have h2:¬fn.body=none:=by cases hx:fn.body<;>simp_all
 unfold execOp;simp[hop,resolve,hx,Deferred.ofValue,invoke,callFunc,hf,h1,h2]
theorem Lz{o:Oper}{f:FuncId}{fn:Func}{x:Operand}{args:Array Operand}{ats:Array TypeId}(hop:o.op=.call {callee:=.value x,args,argTypes:=ats})(hx:a.eval x=.func (.func f) #[] #[])
  (hf:P.funcs[f]?=some fn) (hname:(fn.name == "runtime.NumGoroutine")=false) (hb:fn.body.isNone=false) (es:Array Event):(execOp a.eval o).events P w es=es:=by
 have h1:¬fn.name = "runtime.NumGoroutine":=by simpa using hname
 have h2:¬fn.body=none:=by cases hx:fn.body<;>simp_all
 unfold execOp;simp[hop,resolve,hx,Deferred.ofValue,invoke,callFunc,hf,h1,h2]
theorem Mg{P:Program}{main:Bool}{b:Frame}{a:Act}{k:List Item}{cs:List Frame}{w:World}{ops:Array Oper}{i:Nat}{rest:List Nat}{o:Oper}{f:FuncId}{fn:Func}{c:Code}{x:Operand}{args:Array Operand}{ats:Array TypeId}{vs:Array Value}
  (ho:ops[i]?=some o) (hw:Region.wanted o (yielded ops a.tmps)=true) (hk:b.kind≠.early) (hop:o.op=.call {callee:=.value x,args,argTypes:=ats}) (hx:a.eval x=.func (.func f) #[] #[])
  (hf:P.funcs[f]?=some fn) (hname:(fn.name == "runtime.NumGoroutine")=false) (hb:fn.body=some c) (hvs:args.map a.eval=vs) :
  stepG P main (G (b.at a (.inRegion ops (i :: rest) :: k)) cs) w=.go (G (Frame.enter P f vs .normal) (b.at a (.inRegion ops (i :: rest) :: k) :: cs)) w #[]:=by
 have hb':fn.body.isNone=false:=by rw[hb];rfl
 subst hvs;rw[stepG_enter ho hw hk (Ro hop hx hf hname hb')];have:listed P b.fn a o w=#[]:=by unfold listed;rw[Lz hop hx hf hname hb'];exact seen_none P _
 rw[this]
end
section
variable {P:Program}{Stop:Goroutine->(Nat->Prop)->World->Prop}{S:Nat->Prop}{v:World}{fn:FuncId}{cs:List Frame}{k:List Item}{n:Nat}{f:Nat->Value}{ops:Array Oper}{i:Nat}{rest:List Nat}{o:Oper}
theorem My{g:FuncId}{gf:Func}{c:Code}{x:Operand}{args:Array Operand}{ats:Array TypeId}{vs:Array Value}{Post:Value->(Nat->Prop)->World->Prop}(ho:ops[i]?=some o)(hw:Region.wanted o (yielded ops (TA n f))=true)(hop:o.op=.call {callee:=.value x,args,argTypes:=ats})(hx:(⟨TA n f,[]⟩:Act).eval x=.func (.func g) #[] #[])
  (hf:P.funcs[g]?=some gf) (hname:(gf.name == "runtime.NumGoroutine")=false) (hb:gf.body=some c) (hvs:args.map (⟨TA n f,[]⟩:Act).eval=vs) (hc:aJ P g vs S v Post)
  (hn:∀ x S' v',View P S' v'->Post x S' v'->Reach P Stop (G ((base fn).at ⟨TA n (aE f o.dst x),[]⟩ (.inRegion ops rest :: k)) cs) S' v') :
  Reach P Stop (G ((base fn).at ⟨TA n f,[]⟩ (.inRegion ops (i :: rest) :: k)) cs) S v:=
 cP rfl (fun w=>Mg ho hw (by simp[base]) hop hx hf hname hb hvs) (hc Stop _ cs fun x S' v' hv q=>by
  rw[Frame.finish_at,ho];show Reach P Stop (G ((base fn).at (Act.put ⟨TA n f,[]⟩ o.dst x) (.inRegion ops rest :: k)) cs) S' v';rw[bU]
  exact hn x S' v' hv q)
end
end Go.Vw
namespace Go.Proofs.YtpiefebngnlfoabGreatDoor
open Go.RowKit Go.Conc Go.Vw
structure Hl where
 id:Nat
 size:Nat
 bad:Nat
def lZ(x:Hl)(k:Nat):Value:=.int .i64 ((if k=0 then x.id else if k=1 then x.size else x.bad:Nat):Int)
def bM(x:Hl):Array Value:=#[.int .i64 (x.id:Nat),.int .i64 (x.size:Nat),.int .i64 (x.bad:Nat)]
def hA(n:Nat)(h:Nat->Hl):Array Value:=(Array.range (n*3)).map fun i=>lZ (h (i / 3)) (i % 3)
def bL(h:Nat->Hl)(j:Nat)(x:Hl):Nat->Hl:=fun i=>if i=j then x else h i
theorem kC(n:Nat)(h:Nat->Hl):(hA n h).size=n*3:=by simp[hA]
theorem iG{n i:Nat}{h:Nat->Hl}(hi:i<n*3):(hA n h)[i]?=some (lZ (h (i / 3)) (i % 3)):=by simp[hA,hi]
theorem Ha{x:Hl}{k:Nat}(hk:k<3):(bM x)[k]?=some (lZ x k):=by
 match k,hk with
 |0,_=>rfl
 |1,_=>rfl
 |2,_=>rfl
theorem Fm{n j:Nat}{h:Nat->Hl}(hj:j<n)(x:Hl):((hA n h).toList.take (j*3)++(bM x).toList++(hA n h).toList.drop (j*3+3)).toArray=hA n (bL h j x):=by
 apply Array.ext_getElem?;intro i;rw[List.getElem?_toArray,List.append_assoc,List.getElem?_append];have hl:((hA n h).toList.take (j*3)).length=j*3:=by
  rw[List.length_take,Array.length_toList,kC];omega
 rw[hl];by_cases h1:i<j*3
 .rw[if_pos h1,List.getElem?_take,if_pos h1,Array.getElem?_toList,iG (by omega),iG (by omega)];unfold bL;rw[if_neg (by omega)]
 .rw[if_neg h1,List.getElem?_append];have hl2:(bM x).toList.length=3:=rfl;rw[hl2];by_cases h2:i - j*3<3
  .rw[if_pos h2,Array.getElem?_toList,Ha h2,iG (by omega)];unfold bL;rw[if_pos (by omega),show i % 3=i - j*3 by omega]
  .rw[if_neg h2,List.getElem?_drop,Array.getElem?_toList,show j*3+3+(i - j*3 - 3)=i by omega];by_cases h3:i<n*3
   .rw[iG h3,iG h3];unfold bL;rw[if_neg (by omega)]
   .rw[Array.getElem?_eq_none (by rw[kC];omega),Array.getElem?_eq_none (by rw[kC];omega)]
theorem Gz(x:Hl):∀ y∈(bM x).toList,y.oneCell'=true:=by simp[bM,Value.oneCell']
theorem vR:∃ i,Tryz.prog.info? 38=some i∧i.size=3∧i.zero=some (.agg (bM ⟨0,0,0⟩)):=⟨_,rfl,rfl,rfl⟩
section
variable {w w' v:World}{S:Nat->Prop}
theorem qH{o:Oper}{a:Act}{x:Operand}{b n j:Nat}{h:Nat->Hl}{u:World}(hop:o.op=.load 38 x)(hx:a.eval x=.pointer (some ⟨b,j*3,none⟩))(hb:u.heap[b]?=some (.cells (hA n h) 38))(hj:j<n):(execOp a.eval o).run Tryz.prog u=.ok (.value (.agg (bM (h j)))) u:=by
 have hl:=run_loadAt_mid (P:=Tryz.prog) u b (j*3) 38 (bM (h j)).toList _ (fun i z hy=>by
  have hi:i<3:=(List.getElem?_eq_some_iff.1 hy).1;rw[Array.getElem?_toList,Ha hi]at hy
  rw[cell_of_row _ _ _ _ _ _ hb,iG (by omega),<-hy,show(j*3+i) / 3=j by omega,show(j*3+i) % 3=i by omega]) Tryz.underlying38 rfl (by kernel_rfl)
 unfold execOp;simp only[hop,hx,Sem.run_bind,hl,Result.andThen_ok,Sem.run_pure]
theorem Ce{u:World}{o:Oper}{a:Act}{x y:Operand}{g n j:Nat}{h:Nat->Hl}{z:Hl}(hu:Vw.Twin w u)(hrow:w.heap[g]?=some (.cells (hA n h) 38))(hj:j<n)(hop:o.op=.store 38 x y)(hx:a.eval x=.pointer (some ⟨g,j*3,none⟩))(hy:a.eval y=.agg (bM z)) :
  ∃ x w',((execOp a.eval o).run Tryz.prog u=.ok (.value x) w'∨((execOp a.eval o).run Tryz.prog u=.ok .skip w'∧x=undef))∧Wr w g (.cells (hA n (bL h j z)) 38) w':=by
 have hr:=(Ext.twin hu).row hrow;have hst:=run_storeCells_at Tryz.prog g (j*3) 38 (bM z).toList 0 (hA n h) u hr (by rw[kC];show j*3+0+3<=n*3;omega) (Gz z);have e3:(bM z).toList.length=3:=rfl;rw[Nat.add_zero,e3,Fm hj]at hst;obtain⟨i,i1,i2,i3⟩:=vR;have hW:=kA (c:=hA n (bL h j z)) hr;refine⟨undef,_,.inr ⟨?_,rfl⟩,hW.at_,fun b hb=>(hW.other b hb).trans (by rw[hu.heap]),by rw[hW.size,hu.heap],hW.os.trans hu.os,hW.output.trans hu.output⟩
 unfold execOp;simp only[hop,hx,hy];simp[Instr.storeAt,Instr.sureAddr,storeVar,sizeOf,typeInfo,i1,i2,Value.cells,bM]at hst ⊢;rw[hst];rfl
def jI(a b:Nat):Value:=.int .i64 (if a<b then -1 else if b<a then 1 else 0)
theorem Id(a:Nat):aJ Tryz.prog 50 #[.int .i64 (a:Nat)] S v fun x S' v'=>x=.bool false∧S'=S∧v'=v:=by
 refine dQ Tryz.func50 rfl Tryz.ntmps50 fun Stop cc cs ret f g0=>?_
 repeat refine rN ?_
 refine aP fun todo=>?_
 refine ret _ _ S v (.bool false) ?_ ⟨rfl,rfl,rfl⟩;simp[results,Tryz.results50]
theorem Tr(a b:Nat):aJ Tryz.prog 31 #[.int .i64 (a:Nat),.int .i64 (b:Nat)] S v fun x S' v'=>x=jI a b∧S'=S∧v'=v:=by
 refine dH Tryz.func31 rfl Tryz.ntmps31 fun Stop cc cs ret f g0 g1=>?_
 repeat refine rN ?_
 refine rK Tryz.func50 (Id a) ?_;rintro _ S1 w1 _ ⟨rfl,e1,e2⟩;subst S1 w1;repeat refine rN ?_
 refine rK Tryz.func50 (Id b) ?_;rintro _ S1 w1 _ ⟨rfl,e1,e2⟩;subst S1 w1;repeat refine rN ?_
 refine rZ (by simp[Act.eval]) ?_;repeat refine rN ?_
 refine rZ (by simp[Act.eval]) ?_;repeat refine rN ?_
 by_cases h1:a<b
 .skip;refine rX (by simp[Act.eval,h1]) ?_;repeat refine rN ?_
  refine aP fun todo=>?_
  refine ret _ _ S v (jI a b) ?_ ⟨rfl,rfl,rfl⟩;simp[results,Tryz.results31,jI,h1]
 .have h1':b<=a:=by omega
  refine rZ (by simp[Act.eval,h1']) ?_;repeat refine rN ?_
  by_cases h2:b<a
  .skip;refine rX (by simp[Act.eval,h2]) ?_;repeat refine rN ?_
   refine aP fun todo=>?_
   refine ret _ _ S v (jI a b) ?_ ⟨rfl,rfl,rfl⟩;simp[results,Tryz.results31,jI,h1,h2]
  .have h2':a<=b:=by omega
   refine rZ (by simp[Act.eval,h2']) ?_;repeat refine rN ?_
   refine aP fun todo=>?_
   refine ret _ _ S v (jI a b) ?_ ⟨rfl,rfl,rfl⟩;simp[results,Tryz.results31,jI,h1,h2]
theorem zaA(a b:Hl):aJ Tryz.prog 30 #[.agg (bM a),.agg (bM b)] S v fun x S' v'=>x=jI a.id b.id∧S'=S∧Ext v v':=by
 refine dH Tryz.func30 rfl Tryz.ntmps30 fun Stop cc cs ret f g0 g1=>?_
 repeat refine rN ?_
 refine bS (Q:=fun y w=>y=.pointer (some ⟨v.heap.size,0,none⟩)∧Ext v w∧w.heap[v.heap.size]?=some (.cells (bM a) 38)) aB rfl rfl (by kernel_rfl) (fun u hu=>⟨_,_,.inl (gK (x:=.tmp 0) (y:=.agg (bM a)) rfl (by simp[g0]) u),by rw[hu.heap],(Ext.twin hu).trans _ _ _ (Ext.alloc _ _),by rw[<-hu.heap];exact cN _ _⟩) ?_
 rintro _ w1 ⟨rfl,hE1,hb1⟩;simp only[stO_some];repeat refine rN ?_
 refine bS (Q:=fun y w=>y=.pointer (some ⟨w1.heap.size,0,none⟩)∧Ext w1 w∧w.heap[w1.heap.size]?=some (.cells (bM b) 38)) aB rfl rfl (by kernel_rfl) (fun u hu=>⟨_,_,.inl (gK (x:=.tmp 1) (y:=.agg (bM b)) rfl (by simp[g1]) u),by rw[hu.heap],(Ext.twin hu).trans _ _ _ (Ext.alloc _ _),by rw[<-hu.heap];exact cN _ _⟩) ?_
 rintro _ w2 ⟨rfl,hE2,hb2⟩;simp only[stO_some];have c1:w2.cell? ⟨v.heap.size,0,none⟩=some (.int .i64 (a.id:Nat)):=(cell_of_row _ _ _ _ _ _ (hE2.row hb1)).trans rfl;have c2:w2.cell? ⟨w1.heap.size,0,none⟩=some (.int .i64 (b.id:Nat)):=(cell_of_row _ _ _ _ _ _ hb2).trans rfl;repeat (first|refine rQ rfl ?_|(refine rO aB rfl ?_;intro _ hu_ K_ hK_;(have hc:=(Ext.twin hu_).cell c1;have hc':=(Ext.twin hu_).cell c2);go_simp;(try rw[wI _]);(try rw[wU _]);refine hK_ _ ?_;clear hK_ K_ hu_;simp only[sS,sN])|refine rW ?_)
 refine rK Tryz.func31 (Tr a.id b.id) ?_;rintro _ S1 w3 _ ⟨rfl,e1,e2⟩;subst S1 w3;repeat refine rN ?_
 refine aP fun todo=>?_
 refine ret _ _ S w2 (jI a.id b.id) ?_ ⟨rfl,rfl,hE1.trans _ _ _ hE2⟩;simp[results,Tryz.results30]
end
def cI(id:Nat):Code->Option (Array Oper)
 |.region i ops _=>bif Nat.beq i id then some ops else none
 |.seq a b=>match cI id a with
  |some x=>some x
  |none=>cI id b
 |.cond _ a b=>match cI id a with
  |some x=>some x
  |none=>cI id b
 |.block _ c=>cI id c
 |.loop c=>cI id c
 |_=>none
theorem rF{ops:Array Oper}{m:Nat}(h:(List.range m).all (wA ops)=true){s:Nat}(hs:s<m):∀ j,j<ops.size->aF ops j≠some s:=aS (List.all_eq_true.1 h s (List.mem_range.2 hs))
def nO(n:Nat)(h h':Nat->Hl):Prop:=((List.range n).map h').Perm ((List.range n).map h)
theorem nO.trans{n:Nat}{a b c:Nat->Hl}(h:nO n a b)(h':nO n b c):nO n a c:=List.Perm.trans h' h
def fI(h:Nat->Hl)(j:Nat):Nat->Hl:=bL (bL h j (h (j - 1))) (j - 1) (h j)
theorem Uw{n j:Nat}(h:Nat->Hl)(hj:0<j)(hn:j<n):nO n h (fI h j):=by
 obtain⟨i,rfl⟩:∃ i,j=i+1:=⟨j - 1,by omega⟩;obtain⟨r,rfl⟩:∃ r,n=i+(2+r):=⟨n - i - 2,by omega⟩;unfold nO;have e:List.range (i+(2+r))=List.range i++(i :: (i+1) :: (List.range r).map fun k=>i+(2+k)):=by
  rw[List.range_add,List.range_add];simp[List.range_succ,Function.comp_def]
 rw[e,List.map_append,List.map_append];have h1:(List.range i).map (fI h (i+1))=(List.range i).map h:=List.map_congr_left fun k hk=>by
  have:=List.mem_range.1 hk;unfold fI bL;rw[if_neg (by omega),if_neg (by omega)]
 have h2:((List.range r).map fun k=>i+(2+k)).map (fI h (i+1))=((List.range r).map fun k=>i+(2+k)).map h:=List.map_congr_left fun k hk=>by
  obtain⟨k',_,rfl⟩:=List.mem_map.1 hk;unfold fI bL;rw[if_neg (by omega),if_neg (by omega)]
 rw[List.map_cons,List.map_cons,List.map_cons,List.map_cons,h1,h2];have h3:fI h (i+1) i=h (i+1):=by
  unfold fI bL;rw[if_pos (by omega)]
 have h4:fI h (i+1) (i+1)=h i:=by
  unfold fI bL;rw[if_neg (by omega),if_pos rfl,Nat.add_sub_cancel]
 rw[h3,h4];exact(List.Perm.refl _).append (.swap _ _ _)
structure InsI(i j:Nat)(h:Nat->Hl):Prop where
 low:∀ a b,a<b->b<=i->a≠j->b≠j->(h a).id<=(h b).id
 up:∀ b,j<b->b<=i->(h j).id<=(h b).id
theorem InsI.start{i:Nat}{h:Nat->Hl}(hs:∀ a b,a<b->b<i->(h a).id<=(h b).id):InsI i i h:=⟨fun a b h1 h2 h3 h4=>hs a b h1 (by omega),fun b h1 h2=>by omega⟩
theorem InsI.done{i j:Nat}{h:Nat->Hl}(H:InsI i j h)(hj:j=0∨(h (j - 1)).id<=(h j).id)(hji:j<=i):∀ a b,a<b->b<i+1->(h a).id<=(h b).id:=by
 intro a b h1 h2;by_cases ea:a=j
 .rw[ea];exact H.up b (by omega) (by omega)
 .by_cases eb:b=j
  .rcases hj with rfl|hj
   .omega
   .by_cases e:a=j - 1
    .rw[e,eb];exact hj
    .have:=H.low a (j - 1) (by omega) (by omega) ea (by omega);rw[eb];omega
  .exact H.low a b h1 (by omega) ea eb
theorem InsI.swap{i j:Nat}{h:Nat->Hl}(H:InsI i j h)(hj:0<j)(hji:j<=i)(hlt:(h j).id<(h (j - 1)).id):InsI i (j - 1) (fI h j):=by
 have s1:fI h j (j - 1)=h j:=by unfold fI bL;rw[if_pos rfl]
 have s2:fI h j j=h (j - 1):=by unfold fI bL;rw[if_neg (by omega),if_pos rfl]
 have s3:∀ k,k≠j->k≠j - 1->fI h j k=h k:=fun k h1 h2=>by unfold fI bL;rw[if_neg h2,if_neg h1]
 refine⟨fun a b h1 h2 h3 h4=>?_,fun b h1 h2=>?_⟩
 .by_cases ea:a=j
  .rw[ea,s2,s3 b (by omega) h4];exact H.low (j - 1) b (by omega) h2 (by omega) (by omega)
  .rw[s3 a ea h3];by_cases eb:b=j
   .rw[eb,s2];exact H.low a (j - 1) (by omega) (by omega) ea (by omega)
   .rw[s3 b eb h4];exact H.low a b h1 h2 ea eb
 .rw[s1];by_cases eb:b=j
  .rw[eb,s2];omega
  .rw[s3 b eb (by omega)];exact H.up b (by omega) h2
def lW(F:Value)(g n cap j:Nat)(h:Nat->Hl)(i:Nat)(x:Value)(w:World):Prop:=
 match i with
 |0=>x=.int .i64 (j:Nat)
 |1=>x=.int .i64 0
 |2=>x=.bool true
 |3=>x=.bool true
 |4=>x=F
 |5=>x=.slice (some ⟨g,0,none⟩) n cap
 |6=>x=.int .i64 (j:Nat)
 |7=>x=.pointer (some ⟨g,j*3,none⟩)
 |8=>x=.agg (bM (h j))
 |9=>x=.slice (some ⟨g,0,none⟩) n cap
 |10=>x=.int .i64 (j:Nat)
 |11=>x=.int .i64 ((j - 1:Nat):Int)
 |12=>x=.pointer (some ⟨g,(j - 1)*3,none⟩)
 |13=>x=.agg (bM (h (j - 1)))
 |14=>x=jI (h j).id (h (j - 1)).id
 |15=>x=.bool (decide ((h j).id<(h (j - 1)).id))
 |16=>x=.bool (decide ((h j).id<(h (j - 1)).id))
 |_=>True
section
variable {w w' v:World}{S:Nat->Prop}
theorem Wh{f:Nat->Value}{Stop:Goroutine->(Nat->Prop)->World->Prop}{cs:List Frame}{k0:List Item}(g n cap N j:Nat)(h:Nat->Hl)(hj:0<j)(hjn:j<n)(hnc:n<=cap)(hn:n<=12)(hnN:n<=N)(hg:w.heap[g]?=some (.cells (hA N h) 38))
  (g0:f 0=.slice (some ⟨g,0,none⟩) n cap) (g1:f 1=.int .i64 0) (g3:f 3=.func (.func 30) #[] #[]) (g9:f 9=.int .i64 (j:Nat))
  (next:∀ w' f',Ext w w'->f' 34=.bool (decide ((h j).id<(h (j - 1)).id))->(∀ s,s<18->f' s=f s)->Vw.Reach Tryz.prog Stop (G ((base 66).at ⟨TA 53 f',[]⟩ (.inRegion ((cI 4 (Tryz.f66.body.getD .skip)).getD #[]) [] :: k0)) cs) S w') :
  Vw.Reach Tryz.prog Stop (G ((base 66).at ⟨TA 53 f,[]⟩ (.code (.region 4 ((cI 4 (Tryz.f66.body.getD .skip)).getD #[]) true) :: k0)) cs) S w:=by
 have e:cI 4 (Tryz.f66.body.getD .skip)=some _:=rfl;rw[e]at next ⊢
 simp only[Option.getD_some]at next ⊢
 clear e;have hj1:j - 1<n:=by omega
 have hjI:(j:Int)<(n:Int):=by omega
 have hj1I:((j - 1:Nat):Int)<(n:Int):=by omega
 have hj0:(0:Int)<(j:Int):=by omega
 have hcast:(j:Int) - 1=((j - 1:Nat):Int):=by omega
 refine xJ (by kernel_rfl) (by kernel_rfl) (by kernel_rfl) (lW (.func (.func 30) #[] #[]) g n cap j h) (fun j x w w' q _=>q) ?_ ?_ ?_
 .intro j hj he x w h;have hj':j<17:=hj;rcases(by omega:j=0∨j=1∨j=2∨j=3∨j=4∨j=5∨j=6∨j=7∨j=8∨j=9∨j=10∨j=11∨j=12∨j=13∨j=14∨j=15∨j=16) with rfl|rfl|rfl|rfl|rfl|rfl|rfl|rfl|rfl|rfl|rfl|rfl|rfl|rfl|rfl|rfl|rfl<;>cases he
 .intro i f' w3 rest hi hE hf hd nxt;have g0':f' 0=.slice (some ⟨g,0,none⟩) n cap:=(hf 0 (aS (by kernel_rfl))).trans g0;have g1':f' 1=.int .i64 0:=(hf 1 (aS (by kernel_rfl))).trans g1;have g3':f' 3=.func (.func 30) #[] #[]:=(hf 3 (aS (by kernel_rfl))).trans g3;have g9':f' 9=.int .i64 (j:Nat):=(hf 9 (aS (by kernel_rfl))).trans g9;have hi':i<17:=hi;have hg3:=hE.row hg;clear hf g0 g1 g3 g9;rcases(by omega:i=0∨i=1∨i=2∨i=3∨i=4∨i=5∨i=6∨i=7∨i=8∨i=9∨i=10∨i=11∨i=12∨i=13∨i=14∨i=15∨i=16) with rfl|rfl|rfl|rfl|rfl|rfl|rfl|rfl|rfl|rfl|rfl|rfl|rfl|rfl|rfl|rfl|rfl
  .clear hd;refine rY aB ?_;exact nxt _ w3 (.refl w3) rfl
  .clear hd;refine rY aB ?_;exact nxt _ w3 (.refl w3) rfl
  .have d0:f' 18=.int .i64 (j:Nat):=hd 0 (aD (by kernel_rfl));have d1:f' 19=.int .i64 0:=hd 1 (aD (by kernel_rfl));clear hd;refine rY aB ?_;exact nxt _ w3 (.refl w3) (by simp[lW,hj])
  .have d0:f' 20=.bool true:=hd 2 (aD (by kernel_rfl));clear hd;refine rY aB ?_;exact nxt _ w3 (.refl w3) rfl
  .have d3:f' 21=.bool true:=hd 3 (aD (by kernel_rfl));clear hd;refine rY aB ?_;exact nxt _ w3 (.refl w3) rfl
  .have d3:f' 21=.bool true:=hd 3 (aD (by kernel_rfl));clear hd;refine rY aB ?_;exact nxt _ w3 (.refl w3) rfl
  .have d3:f' 21=.bool true:=hd 3 (aD (by kernel_rfl));clear hd;refine rY aB ?_;exact nxt _ w3 (.refl w3) rfl
  .have d3:f' 21=.bool true:=hd 3 (aD (by kernel_rfl));have d5:f' 23=.slice (some ⟨g,0,none⟩) n cap:=hd 5 (aD (by kernel_rfl));have d6:f' 24=.int .i64 (j:Nat):=hd 6 (aD (by kernel_rfl));clear hd;refine rY aB ?_;exact nxt _ w3 (.refl w3) (by simp[lW])
  .have d3:f' 21=.bool true:=hd 3 (aD (by kernel_rfl));have d7:f' 25=.pointer (some ⟨g,j*3,none⟩):=hd 7 (aD (by kernel_rfl));clear hd;refine cR aB rfl (by simp[Region.wanted,yielded,aZ, *]) (by kernel_rfl) (fun u hu=>qH (x:=.tmp 25) (b:=g) (n:=N) (j:=j) rfl (by simp[d7]) ((Ext.twin hu).row hg3) (by omega)) ?_;exact nxt _ w3 (.refl w3) rfl
  .have d3:f' 21=.bool true:=hd 3 (aD (by kernel_rfl));clear hd;refine rY aB ?_;exact nxt _ w3 (.refl w3) rfl
  .have d3:f' 21=.bool true:=hd 3 (aD (by kernel_rfl));clear hd;refine rY aB ?_;exact nxt _ w3 (.refl w3) rfl
  .have d3:f' 21=.bool true:=hd 3 (aD (by kernel_rfl));have d10:f' 28=.int .i64 (j:Nat):=hd 10 (aD (by kernel_rfl));clear hd;refine rY aB ?_;exact nxt _ w3 (.refl w3) (by simp[lW,hcast])
  .have d3:f' 21=.bool true:=hd 3 (aD (by kernel_rfl));have d9:f' 27=.slice (some ⟨g,0,none⟩) n cap:=hd 9 (aD (by kernel_rfl));have d11:f' 29=.int .i64 ((j - 1:Nat):Int):=hd 11 (aD (by kernel_rfl));clear hd;generalize j - 1=j1 at *
   refine rY aB ?_;exact nxt _ w3 (.refl w3) (by simp[lW])
  .have d3:f' 21=.bool true:=hd 3 (aD (by kernel_rfl));have d12:f' 30=.pointer (some ⟨g,(j - 1)*3,none⟩):=hd 12 (aD (by kernel_rfl));clear hd;refine cR aB rfl (by simp[Region.wanted,yielded,aZ, *]) (by kernel_rfl) (fun u hu=>qH (x:=.tmp 30) (b:=g) (n:=N) (j:=j - 1) rfl (by simp[d12]) ((Ext.twin hu).row hg3) (by omega)) ?_;exact nxt _ w3 (.refl w3) rfl
  .have d3:f' 21=.bool true:=hd 3 (aD (by kernel_rfl));have d4:f' 22=.func (.func 30) #[] #[]:=hd 4 (aD (by kernel_rfl));have d8:f' 26=.agg (bM (h j)):=hd 8 (aD (by kernel_rfl));have d13:f' 31=.agg (bM (h (j - 1))):=hd 13 (aD (by kernel_rfl));clear hd;refine My rfl (by simp[Region.wanted,yielded,aZ, *]) rfl (by simp[d4]) Tryz.func30 (by kernel_rfl) rfl (by simp[d8,d13]) (zaA (h j) (h (j - 1))) ?_;rintro _ S1 w4 _ ⟨rfl,e1,hE4⟩;subst S1;exact nxt _ w4 hE4 rfl
  .have d3:f' 21=.bool true:=hd 3 (aD (by kernel_rfl));have d14:f' 32=jI (h j).id (h (j - 1)).id:=hd 14 (aD (by kernel_rfl));clear hd;unfold jI at d14;by_cases hlt:(h j).id<(h (j - 1)).id
   .rw[if_pos hlt]at d14;refine rY aB ?_;exact nxt _ w3 (.refl w3) (by simp[lW,hlt])
   .rw[if_neg hlt]at d14;by_cases hgt:(h (j - 1)).id<(h j).id
    .rw[if_pos hgt]at d14;refine rY aB ?_;exact nxt _ w3 (.refl w3) (by simp[lW];omega)
    .rw[if_neg hgt]at d14;refine rY aB ?_;exact nxt _ w3 (.refl w3) (by simp[lW];omega)
  .have d3:f' 21=.bool true:=hd 3 (aD (by kernel_rfl));have d15:f' 33=.bool (decide ((h j).id<(h (j - 1)).id)):=hd 15 (aD (by kernel_rfl));clear hd;refine rY aB ?_;exact nxt _ w3 (.refl w3) rfl
 .intro f' w3 hE hf hd;exact next w3 f' hE (hd 16 (by decide)) fun s hs=>hf s (rF (by kernel_rfl) hs)
end
section
variable {w w' v:World}{S:Nat->Prop}
theorem Wi{f:Nat->Value}{Stop:Goroutine->(Nat->Prop)->World->Prop}{cs:List Frame}{k0:List Item}(g n cap N j:Nat)(h:Nat->Hl)(hj:0<j)(hjn:j<n)(hnc:n<=cap)(hn:n<=12)(hnN:n<=N)(hg:w.heap[g]?=some (.cells (hA N h) 38))
  (g0:f 0=.slice (some ⟨g,0,none⟩) n cap) (g9:f 9=.int .i64 (j:Nat))
  (next:∀ w1 w2 f',Wr w g (.cells (hA N (bL h j (h (j - 1)))) 38) w1->Wr w1 g (.cells (hA N (fI h j)) 38) w2->(∀ s,s<18->f' s=f s)->Vw.Reach Tryz.prog Stop (G ((base 66).at ⟨TA 53 f',[]⟩ (.inRegion ((cI 6 (Tryz.f66.body.getD .skip)).getD #[]) [] :: k0)) cs) S w2) :
  Vw.Reach Tryz.prog Stop (G ((base 66).at ⟨TA 53 f,[]⟩ (.code (.region 6 ((cI 6 (Tryz.f66.body.getD .skip)).getD #[]) true) :: k0)) cs) S w:=by
 have e:cI 6 (Tryz.f66.body.getD .skip)=some _:=rfl;rw[e]at next ⊢
 simp only[Option.getD_some]at next ⊢
 clear e;obtain⟨i,rfl⟩:∃ i,j=i+1:=⟨j - 1,by omega⟩;have hjI:((i+1:Nat):Int)<(n:Int):=by omega
 have hiI:((i:Nat):Int)<(n:Int):=by omega
 have hcast:((i+1:Nat):Int) - 1=((i:Nat):Int):=by omega
 rw[Nat.add_sub_cancel]at next
 unfold fI at next
 rw[Nat.add_sub_cancel]at next
 generalize hj1:i+1=j at *
 refine Mv (fun i=>decide (i<15)) aB (by first|kernel_rfl|rfl) ?_
 simp only[List.size_toArray,List.length_cons,List.length_nil,Nat.reduceAdd,Nat.zero_add];co_applyP iE (i:=0) rfl (by first|kernel_rfl|decide +kernel) (by first|kernel_rfl|decide +kernel) (by first|kernel_rfl|decide +kernel) (by first|rfl|(simp[Region.wanted,yielded,aZ, *];done)) (by kernel_rfl) (fun _=>run_eq_of ?run1_0) ?rest1_0
 case run1_0=>
  intro K_ hK_;(skip);go_simp;(try rw[gO _ (by omega) (by omega)]);exact hK_
 simp only[stO_some,stO_none];co_applyP iE (i:=1) rfl (by first|kernel_rfl|decide +kernel) (by first|kernel_rfl|decide +kernel) (by first|kernel_rfl|decide +kernel) (by first|rfl|(simp[Region.wanted,yielded,aZ, *];done)) (by kernel_rfl) (fun _=>run_eq_of ?run1_1) ?rest1_1
 case run1_1=>
  intro K_ hK_;(skip);go_simp;(try rw[gO _ (by omega) (by omega)]);exact hK_
 simp only[stO_some,stO_none];co_applyP iE (i:=2) rfl (by first|kernel_rfl|decide +kernel) (by first|kernel_rfl|decide +kernel) (by first|kernel_rfl|decide +kernel) (by first|rfl|(simp[Region.wanted,yielded,aZ, *];done)) (by kernel_rfl) (fun _=>run_eq_of ?run1_2) ?rest1_2
 case run1_2=>
  intro K_ hK_;(skip);go_simp;(try rw[gO _ (by omega) (by omega)]);exact hK_
 simp only[stO_some,stO_none];co_applyP iE (i:=3) rfl (by first|kernel_rfl|decide +kernel) (by first|kernel_rfl|decide +kernel) (by first|kernel_rfl|decide +kernel) (by first|rfl|(simp[Region.wanted,yielded,aZ, *];done)) (by kernel_rfl) (fun _=>run_eq_of ?run1_3) ?rest1_3
 case run1_3=>
  intro K_ hK_;(skip);go_simp;(try rw[gO _ (by omega) (by omega)]);exact hK_
 simp only[stO_some,stO_none];co_applyP iE (i:=4) rfl (by first|kernel_rfl|decide +kernel) (by first|kernel_rfl|decide +kernel) (by first|kernel_rfl|decide +kernel) (by first|rfl|(simp[Region.wanted,yielded,aZ, *];done)) (by kernel_rfl) (fun _=>run_eq_of ?run1_4) ?rest1_4
 case run1_4=>
  intro K_ hK_;(skip);go_simp;(try rw[gO _ (by omega) (by omega)]);exact hK_
 simp only[stO_some,stO_none];co_applyP iE (i:=5) rfl (by first|kernel_rfl|decide +kernel) (by first|kernel_rfl|decide +kernel) (by first|kernel_rfl|decide +kernel) (by first|rfl|(simp[Region.wanted,yielded,aZ, *];done)) (by kernel_rfl) (fun _=>run_eq_of ?run2_5) ?rest2_5
 case run2_5=>
  intro K_ hK_;(skip);go_simp;(try rw[gO _ (by omega) (by omega)]);exact hK_
 simp only[stO_some,stO_none];co_applyP iE (i:=6) rfl (by first|kernel_rfl|decide +kernel) (by first|kernel_rfl|decide +kernel) (by first|kernel_rfl|decide +kernel) (by first|rfl|(simp[Region.wanted,yielded,aZ, *];done)) (by kernel_rfl) (fun _=>run_eq_of ?run2_6) ?rest2_6
 case run2_6=>
  intro K_ hK_;(skip);go_simp;(try rw[gO _ (by omega) (by omega)]);exact hK_
 simp only[stO_some,stO_none];co_applyP iE (i:=7) rfl (by first|kernel_rfl|decide +kernel) (by first|kernel_rfl|decide +kernel) (by first|kernel_rfl|decide +kernel) (by first|rfl|(simp[Region.wanted,yielded,aZ, *];done)) (by kernel_rfl) (fun _=>run_eq_of ?run2_7) ?rest2_7
 case run2_7=>
  intro K_ hK_;(skip);go_simp;(try rw[gO _ (by omega) (by omega)]);exact hK_
 simp only[stO_some,stO_none];co_applyP iE (i:=8) rfl (by first|kernel_rfl|decide +kernel) (by first|kernel_rfl|decide +kernel) (by first|kernel_rfl|decide +kernel) (by first|rfl|(simp[Region.wanted,yielded,aZ, *];done)) (by kernel_rfl) (fun _=>run_eq_of ?run3_8) ?rest3_8
 case run3_8=>
  intro K_ hK_;(skip);go_simp;(try rw[gO _ (by omega) (by omega)]);exact hK_
 simp only[stO_some,stO_none];co_applyP Ek (i:=9) rfl (by first|kernel_rfl|decide +kernel) (by first|kernel_rfl|decide +kernel) (by first|kernel_rfl|decide +kernel) (by first|kernel_rfl|decide +kernel) rfl (by kernel_rfl) (fun u hu=>qH (x:=.tmp 45) (b:=g) (n:=N) (j:=i) rfl (by simp) ((Ext.twin hu).row hg) (by omega)) ?_
 simp only[stO_some];co_applyP iE (i:=10) rfl (by first|kernel_rfl|decide +kernel) (by first|kernel_rfl|decide +kernel) (by first|kernel_rfl|decide +kernel) (by first|rfl|(simp[Region.wanted,yielded,aZ, *];done)) (by kernel_rfl) (fun _=>run_eq_of ?run4_10) ?rest4_10
 case run4_10=>
  intro K_ hK_;(skip);go_simp;(try rw[gO _ (by omega) (by omega)]);exact hK_
 simp only[stO_some,stO_none];co_applyP iE (i:=11) rfl (by first|kernel_rfl|decide +kernel) (by first|kernel_rfl|decide +kernel) (by first|kernel_rfl|decide +kernel) (by first|rfl|(simp[Region.wanted,yielded,aZ, *];done)) (by kernel_rfl) (fun _=>run_eq_of ?run4_11) ?rest4_11
 case run4_11=>
  intro K_ hK_;(skip);go_simp;(try rw[gO _ (by omega) (by omega)]);exact hK_
 simp only[stO_some,stO_none];co_applyP iE (i:=12) rfl (by first|kernel_rfl|decide +kernel) (by first|kernel_rfl|decide +kernel) (by first|kernel_rfl|decide +kernel) (by first|rfl|(simp[Region.wanted,yielded,aZ, *];done)) (by kernel_rfl) (fun _=>run_eq_of ?run4_12) ?rest4_12
 case run4_12=>
  intro K_ hK_;(skip);go_simp;(try rw[gO _ (by omega) (by omega)]);exact hK_
 simp only[stO_some,stO_none];co_applyP Ek (i:=13) rfl (by first|kernel_rfl|decide +kernel) (by first|kernel_rfl|decide +kernel) (by first|kernel_rfl|decide +kernel) (by first|kernel_rfl|decide +kernel) rfl (by kernel_rfl) (fun u hu=>qH (x:=.tmp 49) (b:=g) (n:=N) (j:=j) rfl (by simp) ((Ext.twin hu).row hg) (by omega)) ?_
 simp only[stO_some];co_applyP iE (i:=14) rfl (by first|kernel_rfl|decide +kernel) (by first|kernel_rfl|decide +kernel) (by first|kernel_rfl|decide +kernel) (by first|rfl|(simp[Region.wanted,yielded,aZ, *];done)) (by kernel_rfl) (fun _=>run_eq_of ?run5_14) ?rest5_14
 case run5_14=>
  intro K_ hK_;(skip);go_simp;(try rw[gO _ (by omega) (by omega)]);exact hK_
 simp only[stO_some,stO_none];refine Fv (i:=15) (Q:=fun x w1=>Wr w g (.cells (hA N (bL h j (h i))) 38) w1) rfl (by first|kernel_rfl|decide +kernel) rfl (by kernel_rfl) (fun u hu=>Ce (x:=.tmp 51) (y:=.tmp 46) (j:=j) (z:=h i) hu hg (by omega) rfl (by simp) (by simp)) ?_ (by rfl)
 rintro x1 w1 hW1;simp only[stO_none];co_applyP iE (i:=16) rfl (by first|kernel_rfl|decide +kernel) (by first|kernel_rfl|decide +kernel) (by first|kernel_rfl|decide +kernel) (by first|rfl|(simp[Region.wanted,yielded,aZ, *];done)) (by kernel_rfl) (fun _=>run_eq_of ?run6_16) ?rest6_16
 case run6_16=>
  intro K_ hK_;(skip);go_simp;(try rw[gO _ (by omega) (by omega)]);exact hK_
 simp only[stO_some,stO_none];refine Fv (i:=17) (Q:=fun x w2=>Wr w1 g (.cells (hA N (bL (bL h j (h i)) i (h j))) 38) w2) rfl (by first|kernel_rfl|decide +kernel) rfl (by kernel_rfl) (fun u hu=>Ce (x:=.tmp 52) (y:=.tmp 50) (j:=i) (z:=h j) hu hW1.at_ (by omega) rfl (by simp) (by simp)) ?_ (by rfl)
 rintro x2 w2 hW2;simp only[stO_none];refine Ud (by first|kernel_rfl|decide +kernel) ?_ _
 refine next w1 w2 _ hW1 hW2 fun s hs=>?_
 simp only[st];repeat rw[if_neg (by omega)]
structure SortI(n N g:Nat)(v:World)(h0 h:Nat->Hl)(i:Nat)(w:World):Prop where
 kp:Kp v (fun b=>b=g) w
 row:w.heap[g]?=some (.cells (hA N h) 38)
 perm:nO n h0 h
theorem SortI.ext{n N g i:Nat}{h0 h:Nat->Hl}(H:SortI n N g v h0 h i w)(hE:Ext w w'):SortI n N g v h0 h i w':=⟨H.kp.ext hE,hE.row H.row,H.perm⟩
theorem Ns(g n cap N:Nat)(h0:Nat->Hl)(hnc:n<=cap)(hn:n<=12)(hnN:n<=N)(hg:v.heap[g]?=some (.cells (hA N h0) 38)) :
  aJ Tryz.prog 66 #[.slice (some ⟨g,0,none⟩) n cap,.int .i64 0,.int .i64 (n:Nat),.func (.func 30) #[] #[]] S v fun x S' v'=>x=.tuple #[]∧S'=S∧∃ h,SortI n N g v h0 h 0 v'∧∀ a b,a<b->b<n->(h a).id<=(h b).id:=by
 refine oR Tryz.func66 rfl Tryz.ntmps66 fun Stop cc cs ret f g0 g1 g2 g3=>?_
 repeat refine rN ?_
 refine bP (fun d f' S' w=>∃ i h,d=n - i∧1<=i∧(i<=n∨i=1)∧S'=S∧SortI n N g v h0 h i w∧(∀ a b,a<b->b<i->(h a).id<=(h b).id)∧f' 0=.slice (some ⟨g,0,none⟩) n cap∧f' 1=.int .i64 0∧f' 2=.int .i64 (n:Nat)∧f' 3=.func (.func 30) #[] #[]∧f' 8=.int .i64 (i:Nat)) (n - 1) ⟨1,h0,rfl,by omega,.inr rfl,rfl,⟨.refl _ _,hg,List.Perm.refl _⟩,fun a b h1 h2=>by omega,by simp[g0],by simp[g1],by simp[g2],by simp[g3],by simp⟩ ?_
 clear g0 g1 g2 g3 f;rintro d f S' w ⟨i,h,rfl,hi1,hi2,eS,hI,hso,g0,g1,g2,g3,g8⟩ nxt;subst S';repeat refine rN ?_
 by_cases hlt:i<n
 .have hltI:(i:Int)<(n:Int):=by omega
  refine rX (by simp[Act.eval,hlt]) ?_;repeat refine rN ?_
  refine bP (fun d f' S' w=>∃ j h,d=j∧j<=i∧S'=S∧SortI n N g v h0 h i w∧InsI i j h∧f' 0=.slice (some ⟨g,0,none⟩) n cap∧f' 1=.int .i64 0∧f' 2=.int .i64 (n:Nat)∧f' 3=.func (.func 30) #[] #[]∧f' 8=.int .i64 (i:Nat)∧f' 9=.int .i64 (j:Nat)) i ⟨i,h,rfl,by omega,rfl,hI,.start hso,by simp[g0],by simp[g1],by simp[g2],by simp[g3],by simp[g8],by simp⟩ ?_;clear g0 g1 g2 g3 g8 f hI hso h w;rintro d f S' w ⟨j,h,ed,hj,eS,hI,hN,g0,g1,g2,g3,g8,g9⟩ nxt2;subst S';have out:∀ f w,SortI n N g v h0 h i w->(j=0∨(h (j - 1)).id<=(h j).id)->f 0=.slice (some ⟨g,0,none⟩) n cap->f 1=.int .i64 0->f 2=.int .i64 (n:Nat)->f 3=.func (.func 30) #[] #[]->f 8=.int .i64 (i:Nat)->∃ i' h',n - (i+1)=n - i'∧1<=i'∧(i'<=n∨i'=1)∧S=S∧SortI n N g v h0 h' i' w∧(∀ a b,a<b->b<i'->(h' a).id<=(h' b).id)∧(st (st (st f 15 (.int .i64 (i:Nat))) 16 (.int .i64 ((i:Nat)+1))) 8 (.int .i64 ((i:Nat)+1))) 0=.slice (some ⟨g,0,none⟩) n cap∧(st (st (st f 15 (.int .i64 (i:Nat))) 16 (.int .i64 ((i:Nat)+1))) 8 (.int .i64 ((i:Nat)+1))) 1=.int .i64 0∧(st (st (st f 15 (.int .i64 (i:Nat))) 16 (.int .i64 ((i:Nat)+1))) 8 (.int .i64 ((i:Nat)+1))) 2=.int .i64 (n:Nat)∧(st (st (st f 15 (.int .i64 (i:Nat))) 16 (.int .i64 ((i:Nat)+1))) 8 (.int .i64 ((i:Nat)+1))) 3=.func (.func 30) #[] #[]∧(st (st (st f 15 (.int .i64 (i:Nat))) 16 (.int .i64 ((i:Nat)+1))) 8 (.int .i64 ((i:Nat)+1))) 8=.int .i64 (i':Nat):=fun f w hI' ho q0 q1 q2 q3 q8=>⟨i+1,h,rfl,by omega,.inl (by omega),rfl,⟨hI'.kp,hI'.row,hI'.perm⟩,hN.done ho hj,by simp[q0],by simp[q1],by simp[q2],by simp[q3],by simp⟩
  by_cases hj0:j=0
  .subst j;repeat refine rN ?_
   refine oH aB (by first|kernel_rfl|rfl) ?_
   simp only[List.size_toArray,List.length_cons,List.length_nil,Nat.reduceAdd,Nat.zero_add];refine rU 0 ?_;refine rU 1 ?_;refine rU 2 ?_;refine rU 3 ?_;co_applyP iQ (i:=4) (x:=undef) rfl (by first|kernel_rfl|decide +kernel) (by first|kernel_rfl|decide +kernel) (by first|kernel_rfl|decide +kernel) (.inr ⟨(by simp[Region.wanted,yielded,aZ, *]),rfl⟩) ?rest8
   simp only[stO_some,stO_none];co_applyP iQ (i:=5) (x:=undef) rfl (by first|kernel_rfl|decide +kernel) (by first|kernel_rfl|decide +kernel) (by first|kernel_rfl|decide +kernel) (.inr ⟨(by simp[Region.wanted,yielded,aZ, *]),rfl⟩) ?rest9
   simp only[stO_some,stO_none];co_applyP iQ (i:=6) (x:=undef) rfl (by first|kernel_rfl|decide +kernel) (by first|kernel_rfl|decide +kernel) (by first|kernel_rfl|decide +kernel) (.inr ⟨(by simp[Region.wanted,yielded,aZ, *]),rfl⟩) ?rest10
   simp only[stO_some,stO_none];co_applyP iQ (i:=7) (x:=undef) rfl (by first|kernel_rfl|decide +kernel) (by first|kernel_rfl|decide +kernel) (by first|kernel_rfl|decide +kernel) (.inr ⟨(by simp[Region.wanted,yielded,aZ, *]),rfl⟩) ?rest11
   simp only[stO_some,stO_none];co_applyP iQ (i:=8) (x:=undef) rfl (by first|kernel_rfl|decide +kernel) (by first|kernel_rfl|decide +kernel) (by first|kernel_rfl|decide +kernel) (.inr ⟨(by simp[Region.wanted,yielded,aZ, *]),rfl⟩) ?rest12
   simp only[stO_some,stO_none];co_applyP iQ (i:=9) (x:=undef) rfl (by first|kernel_rfl|decide +kernel) (by first|kernel_rfl|decide +kernel) (by first|kernel_rfl|decide +kernel) (.inr ⟨(by simp[Region.wanted,yielded,aZ, *]),rfl⟩) ?rest13
   simp only[stO_some,stO_none];co_applyP iQ (i:=10) (x:=undef) rfl (by first|kernel_rfl|decide +kernel) (by first|kernel_rfl|decide +kernel) (by first|kernel_rfl|decide +kernel) (.inr ⟨(by simp[Region.wanted,yielded,aZ, *]),rfl⟩) ?rest14
   simp only[stO_some,stO_none];co_applyP iQ (i:=11) (x:=undef) rfl (by first|kernel_rfl|decide +kernel) (by first|kernel_rfl|decide +kernel) (by first|kernel_rfl|decide +kernel) (.inr ⟨(by simp[Region.wanted,yielded,aZ, *]),rfl⟩) ?rest15
   simp only[stO_some,stO_none];co_applyP iQ (i:=12) (x:=undef) rfl (by first|kernel_rfl|decide +kernel) (by first|kernel_rfl|decide +kernel) (by first|kernel_rfl|decide +kernel) (.inr ⟨(by simp[Region.wanted,yielded,aZ, *]),rfl⟩) ?rest16
   simp only[stO_some,stO_none];co_applyP iQ (i:=13) (x:=undef) rfl (by first|kernel_rfl|decide +kernel) (by first|kernel_rfl|decide +kernel) (by first|kernel_rfl|decide +kernel) (.inr ⟨(by simp[Region.wanted,yielded,aZ, *]),rfl⟩) ?rest17
   simp only[stO_some,stO_none];co_applyP iQ (i:=14) (x:=undef) rfl (by first|kernel_rfl|decide +kernel) (by first|kernel_rfl|decide +kernel) (by first|kernel_rfl|decide +kernel) (.inr ⟨(by simp[Region.wanted,yielded,aZ, *]),rfl⟩) ?rest18
   simp only[stO_some,stO_none];co_applyP iQ (i:=15) (x:=undef) rfl (by first|kernel_rfl|decide +kernel) (by first|kernel_rfl|decide +kernel) (by first|kernel_rfl|decide +kernel) (.inr ⟨(by simp[Region.wanted,yielded,aZ, *]),rfl⟩) ?rest19
   simp only[stO_some,stO_none];refine rU 16 ?_;refine oT (by first|kernel_rfl|decide +kernel) ?_ _
   repeat refine rN ?_
   refine rZ (by simp[Act.eval]) ?_;refine bH rfl ?_;repeat refine rN ?_
   exact nxt _ _ _ _ (by omega) (out _ w hI (.inl hj0) (by simp[g0]) (by simp[g1]) (by simp[g2]) (by simp[g3]) (by simp[g8]))
  .have hjp:0<j:=by omega
   repeat refine rN ?_
   refine Wh g n cap N j h hjp (by omega) hnc hn hnN hI.row g0 g1 g3 g9 fun w1 f1 hE1 g34 hf1=>?_
   have hI1:=hI.ext hE1;have k0:f1 0=.slice (some ⟨g,0,none⟩) n cap:=(hf1 0 (by omega)).trans g0;have k1:f1 1=.int .i64 0:=(hf1 1 (by omega)).trans g1;have k2:f1 2=.int .i64 (n:Nat):=(hf1 2 (by omega)).trans g2;have k3:f1 3=.func (.func 30) #[] #[]:=(hf1 3 (by omega)).trans g3;have k8:f1 8=.int .i64 (i:Nat):=(hf1 8 (by omega)).trans g8;have k9:f1 9=.int .i64 (j:Nat):=(hf1 9 (by omega)).trans g9;clear g0 g1 g2 g3 g8 g9 hf1;by_cases hless:(h j).id<(h (j - 1)).id
   .rw[decide_eq_true hless]at g34;repeat refine rN ?_
    refine rX (by simp[Act.eval,g34]) ?_;repeat refine rN ?_
    refine Wi g n cap N j h hjp (by omega) hnc hn hnN hI1.row k0 k9 fun w2 w3 f3 hW2 hW3 hf3=>?_
    have l0:f3 0=.slice (some ⟨g,0,none⟩) n cap:=(hf3 0 (by omega)).trans (by simp[k0]);have l1:f3 1=.int .i64 0:=(hf3 1 (by omega)).trans (by simp[k1]);have l2:f3 2=.int .i64 (n:Nat):=(hf3 2 (by omega)).trans (by simp[k2]);have l3:f3 3=.func (.func 30) #[] #[]:=(hf3 3 (by omega)).trans (by simp[k3]);have l8:f3 8=.int .i64 (i:Nat):=(hf3 8 (by omega)).trans (by simp[k8]);have l9:f3 9=.int .i64 (j:Nat):=(hf3 9 (by omega)).trans (by simp[k9]);clear k0 k1 k2 k3 k8 k9 hf3 g34;have hcast:(j:Int) - 1=((j - 1:Nat):Int):=by omega
    repeat refine rN ?_
    refine nxt2 _ _ _ (j - 1) (by omega) ⟨j - 1,fI h j,rfl,by omega,rfl,⟨(hI1.kp.wr (.inl rfl) hW2).wr (.inl rfl) hW3,hW3.at_,hI1.perm.trans (Uw h hjp (by omega))⟩,hN.swap hjp hj hless,by simp[l0],by simp[l1],by simp[l2],by simp[l3],by simp[l8],by simp⟩
   .rw[decide_eq_false hless]at g34;repeat refine rN ?_
    refine rZ (by simp[Act.eval,g34]) ?_;refine bH rfl ?_;repeat refine rN ?_
    exact nxt _ _ _ _ (by omega) (out _ w1 hI1 (.inr (by omega)) (by simp[k0]) (by simp[k1]) (by simp[k2]) (by simp[k3]) (by simp[k8]))
 .have hge:n<=i:=by omega
  refine rZ (by simp[Act.eval,hge]) ?_;refine bH rfl ?_;repeat refine rN ?_
  refine iP ?_;refine ret _ _ S w (.tuple #[]) ?_ ⟨rfl,rfl,h,⟨hI.kp,hI.row,hI.perm⟩,fun a b h1 h2=>hso a b h1 (by omega)⟩
  simp[results,Tryz.results66]
end
section
variable {w w' v:World}{S:Nat->Prop}
theorem Wb(n:Nat)(hn:n<=12):aJ Tryz.prog 75 #[.int .u64 (n:Nat)] S v fun x S' v'=>∃ y,x=.int .i64 y∧S'=S∧v'=v:=by
 refine dQ Tryz.func75 rfl Tryz.ntmps75 fun Stop cc cs ret f g0=>?_
 have key:∀ (f':Nat->Value) (todo:List Item),(∃ y,f' 2=.int .i64 y)->Vw.Reach Tryz.prog Stop (G {(base 75).at ⟨TA 25 f',[]⟩ todo with mode:=.returning} (cc :: cs)) S v:=fun f' todo ⟨y,h⟩=>ret f' todo S v (.int .i64 y) (by simp[results,Tryz.results75,h]) ⟨y,rfl,rfl,rfl⟩
 clear ret;rcases(by omega:n=0∨n=1∨n=2∨n=3∨n=4∨n=5∨n=6∨n=7∨n=8∨n=9∨n=10∨n=11∨n=12) with rfl|rfl|rfl|rfl|rfl|rfl|rfl|rfl|rfl|rfl|rfl|rfl|rfl;all_goals
  repeat refine rN ?_
  refine rZ (by simp[Act.eval]) ?_;repeat refine rN ?_
  refine rZ (by simp[Act.eval]) ?_;repeat refine rN ?_
  refine rZ (by simp[Act.eval]) ?_;repeat refine rN ?_
  refine aP fun todo=>?_
  exact key _ _ ⟨_,rfl⟩
theorem Yu(n:Nat)(hn:n<=12):aJ Tryz.prog 49 #[.int .u64 (n:Nat)] S v fun x S' v'=>∃ y,x=.int .i64 y∧S'=S∧v'=v:=by
 refine dQ Tryz.func49 rfl Tryz.ntmps49 fun Stop cc cs ret f g0=>?_
 repeat refine rN ?_
 refine rZ (by simp[Act.eval]) ?_;repeat refine rN ?_
 refine rK Tryz.func75 (Wb n hn) ?_;rintro _ S1 w1 _ ⟨y,rfl,e1,e2⟩;subst S1 w1;repeat refine rN ?_
 refine aP fun todo=>?_
 refine ret _ _ S v (.int .i64 y) ?_ ⟨y,rfl,rfl,rfl⟩;simp[results,Tryz.results49]
def Jt(n N g:Nat)(h0:Nat->Hl)(S:Nat->Prop)(v:World)(x:Value)(S':Nat->Prop)(v':World):Prop:=x=.tuple #[]∧S'=S∧∃ h,SortI n N g v h0 h 0 v'∧∀ a b,a<b->b<n->(h a).id<=(h b).id
theorem Zo(l:Value)(g n cap N:Nat)(h0:Nat->Hl)(hnc:n<=cap)(hn:n<=12)(hnN:n<=N)(hg:v.heap[g]?=some (.cells (hA N h0) 38)) :
  aJ Tryz.prog 48 #[.slice (some ⟨g,0,none⟩) n cap,.int .i64 0,.int .i64 (n:Nat),l,.func (.func 30) #[] #[]] S v (Jt n N g h0 S v):=by
 refine oD Tryz.func48 rfl Tryz.ntmps48 (by simp) fun Stop cc cs ret=>?_
 have g0:cV #[.slice (some ⟨g,0,none⟩) n cap,.int .i64 0,.int .i64 (n:Nat),l,.func (.func 30) #[] #[]] 0=.slice (some ⟨g,0,none⟩) n cap:=rfl;have g1:cV #[.slice (some ⟨g,0,none⟩) n cap,.int .i64 0,.int .i64 (n:Nat),l,.func (.func 30) #[] #[]] 1=.int .i64 0:=rfl;have g2:cV #[.slice (some ⟨g,0,none⟩) n cap,.int .i64 0,.int .i64 (n:Nat),l,.func (.func 30) #[] #[]] 2=.int .i64 (n:Nat):=rfl;have g4:cV #[.slice (some ⟨g,0,none⟩) n cap,.int .i64 0,.int .i64 (n:Nat),l,.func (.func 30) #[] #[]] 4=.func (.func 30) #[] #[]:=rfl;generalize cV #[.slice (some ⟨g,0,none⟩) n cap,.int .i64 0,.int .i64 (n:Nat),l,.func (.func 30) #[] #[]]=f at g0 g1 g2 g4;repeat refine rN ?_
 refine bP (fun d f' S' w=>S'=S∧w=v∧f' 0=.slice (some ⟨g,0,none⟩) n cap∧f' 1=.int .i64 0∧f' 2=.int .i64 (n:Nat)∧f' 4=.func (.func 30) #[] #[]) 0 ⟨rfl,rfl,by simp[g0],by simp[g1],by simp[g2],by simp[g4]⟩ ?_;clear g0 g1 g2 g4 f;rintro d f S' w ⟨eS,eW,g0,g1,g2,g4⟩ nxt;subst S' w;have hnI:(n:Int)<=12:=by omega
 repeat refine rN ?_
 refine rX (by simp[Act.eval,hnI]) ?_;repeat refine rN ?_
 refine rK Tryz.func66 (Ns g n cap N h0 hnc hn hnN hg) ?_;rintro _ S1 w1 _ ⟨rfl,e1,hh⟩;subst S1;repeat refine rN ?_
 refine aP fun todo=>?_
 refine ret _ _ S w1 (.tuple #[]) ?_ ⟨rfl,rfl,hh⟩;simp[results,Tryz.results48]
theorem Xt(g n cap N:Nat)(h0:Nat->Hl)(hnc:n<=cap)(hn:n<=12)(hnN:n<=N)(hg:v.heap[g]?=some (.cells (hA N h0) 38)) :
  aJ Tryz.prog 29 #[.slice (some ⟨g,0,none⟩) n cap,.func (.func 30) #[] #[]] S v (Jt n N g h0 S v):=by
 refine dH Tryz.func29 rfl Tryz.ntmps29 fun Stop cc cs ret f g0 g1=>?_
 have hw1:IntKind.u64.wrap (n:Int)=(n:Int):=by rw[IntKind.wrap_u64];omega
 repeat refine rN ?_
 refine rK Tryz.func49 (Yu n hn) ?_;rintro _ S1 w1 _ ⟨y,rfl,e1,e2⟩;subst S1 w1;repeat refine rN ?_
 refine rK Tryz.func48 (Zo (.int .i64 y) g n cap N h0 hnc hn hnN hg) ?_;rintro _ S1 w1 _ ⟨rfl,e1,hh⟩;subst S1;repeat refine rN ?_
 refine iP ?_;refine ret _ _ S w1 (.tuple #[]) ?_ ⟨rfl,rfl,hh⟩;simp[results,Tryz.results29]
theorem Tt(g:Nat->Bool)(n:Nat):aN g (n+1)=aN g n+if g n=true then 1 else 0:=by
 unfold aN;rw[List.range_succ,List.filter_append,List.length_append];cases hg:g n<;>simp[hg]
theorem Ab(g:Nat->Bool)(n:Nat):aN g n<=n:=by
 unfold aN;exact Nat.le_trans (List.length_filter_le _ _) (by simp)
theorem Bx(e:Ent):aJ Tryz.prog 28 #[.agg (bN e)] S v fun x S' v'=>x=.int .i64 (aN e.good 14:Nat)∧S'=S∧Ext v v':=by
 refine dQ Tryz.func28 rfl Tryz.ntmps28 fun Stop cc cs ret f g0=>?_
 repeat refine rN ?_
 refine bS (Q:=fun y w=>y=.pointer (some ⟨v.heap.size,0,none⟩)∧Ext v w∧w.heap[v.heap.size]?=some (.cells (bN e) 81)) aB rfl rfl (by kernel_rfl) (fun u hu=>⟨_,_,.inl (gK (x:=.tmp 0) (y:=.agg (bN e)) rfl (by simp[g0]) u),by rw[hu.heap],(Ext.twin hu).trans _ _ _ (Ext.alloc _ _),by rw[<-hu.heap];exact cN _ _⟩) ?_
 rintro _ w1 ⟨rfl,hE1,hb1⟩;simp only[stO_some];repeat refine rN ?_
 refine cR aB rfl rfl (by kernel_rfl) (fun u hu=>uD (b:=v.heap.size) ((Ext.twin hu).row hb1) (x:=.tmp 6) rfl (by simp)) ?_;simp only[stO_some];repeat refine rN ?_
 refine bP (fun d f' S' w=>∃ k,d=14 - k∧k<=14∧S'=S∧w=w1∧f' 3=.int .i64 (aN e.good k:Nat)∧f' 7=.agg (kF e.good)∧f' 8=.int .i64 (k:Nat)) 14 ⟨0,by omega,by omega,rfl,rfl,by simp[aN],by simp,by simp⟩ ?_;clear g0 f;rintro d f S' w ⟨k,rfl,hk,eS,eW,g3,g7,g8⟩ nxt;subst S' w;repeat refine rN ?_
 by_cases hlt:k<14
 .have hkI:(k:Int)<14:=by omega
  refine rX (by simp[Act.eval,hkI]) ?_;repeat refine rN ?_
  refine cR aB rfl rfl (by kernel_rfl) (fun u hu=>Dg (g:=e.good) hlt (x:=.tmp 7) (y:=.tmp 8) rfl (by simp[g7]) (by simp[g8])) ?_;simp only[stO_some];have hcs:aN e.good (k+1)=aN e.good k+if e.good k=true then 1 else 0:=Tt _ _
  have hcl:aN e.good k<=k:=Ab _ _;obtain⟨gk,hgk⟩:∃ gk,e.good k=gk:=⟨_,rfl⟩;rw[hgk]at hcs ⊢;have HC:=aG hcs;clear hcs hgk;cases gk with
  |false=>
   repeat refine rN ?_
   refine rZ (by simp[Act.eval]) ?_;repeat refine rN ?_
   refine nxt _ _ _ (14 - (k+1)) (by omega) ⟨k+1,rfl,by omega,rfl,rfl,by simp[g3,HC.out],by simp[g7],by simp⟩
  |true=>
   repeat refine rN ?_
   refine rX (by simp[Act.eval]) ?_;repeat refine rN ?_
   refine nxt _ _ _ (14 - (k+1)) (by omega) ⟨k+1,rfl,by omega,rfl,rfl,by simp[HC.out],by simp[g7],by simp⟩
 .obtain rfl:k=14:=by omega
  refine rZ (by simp[Act.eval]) ?_;refine bH rfl ?_;repeat refine rN ?_
  refine aP fun todo=>?_
  refine ret _ _ S w1 (.int .i64 (aN e.good 14:Nat)) ?_ ⟨rfl,rfl,hE1⟩;simp[results,Tryz.results28]
end
