import Derived.Test.YtpiefebngnlfoabGreatDoorMg
set_option maxRecDepth 99999
set_option maxHeartbeats 0
set_option linter.unusedVariables false
set_option linter.unusedSimpArgs false
namespace Go.Vw
open Go.Conc
section
variable {P:Program}{a:Act}{w:World}
theorem Re{o:Oper}{f:FuncId}{fn:Func}{x:Operand}{args:Array Operand}{ats:Array TypeId}(hop:o.op=.call {callee:=.value x,args,argTypes:=ats})(hx:a.eval x=.func (.func f) #[] #[])
  (hf:P.funcs[f]?=some fn) (hname:(fn.name == "runtime.NumGoroutine")=false) (hb:fn.body.isNone=false):(execOp a.eval o).run P w=.ok (.enter f (args.map a.eval)) w:=by
 have h1:¬fn.name = "runtime.NumGoroutine":=by simpa using hname
 have h2:¬fn.body=none:=by cases hx:fn.body<;>simp_all
 unfold execOp;simp[hop,resolve,hx,Deferred.ofValue,invoke,callFunc,hf,h1,h2]
theorem Lk{o:Oper}{f:FuncId}{fn:Func}{x:Operand}{args:Array Operand}{ats:Array TypeId}(hop:o.op=.call {callee:=.value x,args,argTypes:=ats})(hx:a.eval x=.func (.func f) #[] #[])
  (hf:P.funcs[f]?=some fn) (hname:(fn.name == "runtime.NumGoroutine")=false) (hb:fn.body.isNone=false) (es:Array Event):(execOp a.eval o).events P w es=es:=by
 have h1:¬fn.name = "runtime.NumGoroutine":=by simpa using hname
 have h2:¬fn.body=none:=by cases hx:fn.body<;>simp_all
 unfold execOp;simp[hop,resolve,hx,Deferred.ofValue,invoke,callFunc,hf,h1,h2]
theorem Ls{P:Program}{main:Bool}{b:Frame}{a:Act}{k:List Item}{cs:List Frame}{w:World}{ops:Array Oper}{i:Nat}{rest:List Nat}{o:Oper}{f:FuncId}{fn:Func}{c:Code}{x:Operand}{args:Array Operand}{ats:Array TypeId}{vs:Array Value}
  (ho:ops[i]?=some o) (hw:Region.wanted o (yielded ops a.tmps)=true) (hk:b.kind≠.early) (hop:o.op=.call {callee:=.value x,args,argTypes:=ats}) (hx:a.eval x=.func (.func f) #[] #[])
  (hf:P.funcs[f]?=some fn) (hname:(fn.name == "runtime.NumGoroutine")=false) (hb:fn.body=some c) (hvs:args.map a.eval=vs) :
  stepG P main (G (b.at a (.inRegion ops (i :: rest) :: k)) cs) w=.go (G (Frame.enter P f vs .normal) (b.at a (.inRegion ops (i :: rest) :: k) :: cs)) w #[]:=by
 have hb':fn.body.isNone=false:=by rw[hb];rfl
 subst hvs;rw[stepG_enter ho hw hk (Re hop hx hf hname hb')];have:listed P b.fn a o w=#[]:=by unfold listed;rw[Lk hop hx hf hname hb'];exact seen_none P _
 rw[this]
end
section
variable {P:Program}{Stop:Goroutine->(Nat->Prop)->World->Prop}{S:Nat->Prop}{v:World}{fn:FuncId}{cs:List Frame}{k:List Item}{n:Nat}{f:Nat->Value}{ops:Array Oper}{i:Nat}{rest:List Nat}{o:Oper}
theorem Mm{g:FuncId}{gf:Func}{c:Code}{x:Operand}{args:Array Operand}{ats:Array TypeId}{vs:Array Value}{Post:Value->(Nat->Prop)->World->Prop}(ho:ops[i]?=some o)(hw:Region.wanted o (yielded ops (TA n f))=true)(hop:o.op=.call {callee:=.value x,args,argTypes:=ats})(hx:(⟨TA n f,[]⟩:Act).eval x=.func (.func g) #[] #[])
  (hf:P.funcs[g]?=some gf) (hname:(gf.name == "runtime.NumGoroutine")=false) (hb:gf.body=some c) (hvs:args.map (⟨TA n f,[]⟩:Act).eval=vs) (hc:aK P g vs S v Post)
  (hn:∀ x S' v',View P S' v'->Post x S' v'->Reach P Stop (G ((base fn).at ⟨TA n (aG f o.dst x),[]⟩ (.inRegion ops rest :: k)) cs) S' v') :
  Reach P Stop (G ((base fn).at ⟨TA n f,[]⟩ (.inRegion ops (i :: rest) :: k)) cs) S v:=
 cV rfl (fun w=>Ls ho hw (by simp[base]) hop hx hf hname hb hvs) (hc Stop _ cs fun x S' v' hv q=>by
  rw[Frame.finish_at,ho];show Reach P Stop (G ((base fn).at (Act.put ⟨TA n f,[]⟩ o.dst x) (.inRegion ops rest :: k)) cs) S' v';rw[bX]
  exact hn x S' v' hv q)
end
end Go.Vw
namespace Go.Proofs.YtpiefebngnlfoabGreatDoor
open Go.RowKit Go.Conc Go.Vw
structure Hl where
 id:Nat
 size:Nat
 bad:Nat
def mB(x:Hl)(k:Nat):Value:=.int .i64 ((if k=0 then x.id else if k=1 then x.size else x.bad:Nat):Int)
def bP(x:Hl):Array Value:=#[.int .i64 (x.id:Nat),.int .i64 (x.size:Nat),.int .i64 (x.bad:Nat)]
def hA(n:Nat)(h:Nat->Hl):Array Value:=(Array.range (n*3)).map fun i=>mB (h (i / 3)) (i % 3)
def bV(h:Nat->Hl)(j:Nat)(x:Hl):Nat->Hl:=fun i=>if i=j then x else h i
theorem kE(n:Nat)(h:Nat->Hl):(hA n h).size=n*3:=by simp[hA]
theorem iJ{n i:Nat}{h:Nat->Hl}(hi:i<n*3):(hA n h)[i]?=some (mB (h (i / 3)) (i % 3)):=by simp[hA,hi]
theorem Gu{x:Hl}{k:Nat}(hk:k<3):(bP x)[k]?=some (mB x k):=by
 match k,hk with
 |0,_=>rfl
 |1,_=>rfl
 |2,_=>rfl
theorem Ff{n j:Nat}{h:Nat->Hl}(hj:j<n)(x:Hl):((hA n h).toList.take (j*3)++(bP x).toList++(hA n h).toList.drop (j*3+3)).toArray=hA n (bV h j x):=by
 apply Array.ext_getElem?;intro i;rw[List.getElem?_toArray,List.append_assoc,List.getElem?_append];have hl:((hA n h).toList.take (j*3)).length=j*3:=by
  rw[List.length_take,Array.length_toList,kE];omega
 rw[hl];by_cases h1:i<j*3
 .rw[if_pos h1,List.getElem?_take,if_pos h1,Array.getElem?_toList,iJ (by omega),iJ (by omega)];unfold bV;rw[if_neg (by omega)]
 .rw[if_neg h1,List.getElem?_append];have hl2:(bP x).toList.length=3:=rfl;rw[hl2];by_cases h2:i - j*3<3
  .rw[if_pos h2,Array.getElem?_toList,Gu h2,iJ (by omega)];unfold bV;rw[if_pos (by omega),show i % 3=i - j*3 by omega]
  .rw[if_neg h2,List.getElem?_drop,Array.getElem?_toList,show j*3+3+(i - j*3 - 3)=i by omega];by_cases h3:i<n*3
   .rw[iJ h3,iJ h3];unfold bV;rw[if_neg (by omega)]
   .rw[Array.getElem?_eq_none (by rw[kE];omega),Array.getElem?_eq_none (by rw[kE];omega)]
theorem Gt(x:Hl):∀ y∈(bP x).toList,y.oneCell'=true:=by simp[bP,Value.oneCell']
theorem vI:∃ i,Tryz.prog.info? 38=some i∧i.size=3∧i.zero=some (.agg (bP ⟨0,0,0⟩)):=⟨_,rfl,rfl,rfl⟩
section
variable {w w' v:World}{S:Nat->Prop}
theorem qN{o:Oper}{a:Act}{x:Operand}{b n j:Nat}{h:Nat->Hl}{u:World}(hop:o.op=.load 38 x)(hx:a.eval x=.pointer (some ⟨b,j*3,none⟩))(hb:u.heap[b]?=some (.cells (hA n h) 38))(hj:j<n):(execOp a.eval o).run Tryz.prog u=.ok (.value (.agg (bP (h j)))) u:=by
 have hl:=run_loadAt_mid (P:=Tryz.prog) u b (j*3) 38 (bP (h j)).toList _ (fun i z hy=>by
  have hi:i<3:=(List.getElem?_eq_some_iff.1 hy).1;rw[Array.getElem?_toList,Gu hi]at hy
  rw[cell_of_row _ _ _ _ _ _ hb,iJ (by omega),<-hy,show(j*3+i) / 3=j by omega,show(j*3+i) % 3=i by omega]) Tryz.underlying38 rfl (by kernel_rfl)
 unfold execOp;simp only[hop,hx,Sem.run_bind,hl,Result.andThen_ok,Sem.run_pure]
theorem Bx{u:World}{o:Oper}{a:Act}{x y:Operand}{g n j:Nat}{h:Nat->Hl}{z:Hl}(hu:Vw.Twin w u)(hrow:w.heap[g]?=some (.cells (hA n h) 38))(hj:j<n)(hop:o.op=.store 38 x y)(hx:a.eval x=.pointer (some ⟨g,j*3,none⟩))(hy:a.eval y=.agg (bP z)) :
  ∃ x w',((execOp a.eval o).run Tryz.prog u=.ok (.value x) w'∨((execOp a.eval o).run Tryz.prog u=.ok .skip w'∧x=undef))∧Wr w g (.cells (hA n (bV h j z)) 38) w':=by
 have hr:=(Ext.twin hu).row hrow;have hst:=run_storeCells_at Tryz.prog g (j*3) 38 (bP z).toList 0 (hA n h) u hr (by rw[kE];show j*3+0+3<=n*3;omega) (Gt z);have e3:(bP z).toList.length=3:=rfl;rw[Nat.add_zero,e3,Ff hj]at hst;obtain⟨i,i1,i2,i3⟩:=vI;have hW:=jZ (c:=hA n (bV h j z)) hr;refine⟨undef,_,.inr ⟨?_,rfl⟩,hW.at_,fun b hb=>(hW.other b hb).trans (by rw[hu.heap]),by rw[hW.size,hu.heap],hW.os.trans hu.os,hW.output.trans hu.output⟩
 unfold execOp;simp only[hop,hx,hy];simp[Instr.storeAt,Instr.sureAddr,storeVar,sizeOf,typeInfo,i1,i2,Value.cells,bP]at hst ⊢;rw[hst];rfl
def jH(a b:Nat):Value:=.int .i64 (if a<b then -1 else if b<a then 1 else 0)
theorem Hs(a:Nat):aK Tryz.prog 50 #[.int .i64 (a:Nat)] S v fun x S' v'=>x=.bool false∧S'=S∧v'=v:=by
 refine dU Tryz.func50 rfl Tryz.ntmps50 fun Stop cc cs ret f g0=>?_
 repeat refine rN ?_
 refine aP fun todo=>?_
 refine ret _ _ S v (.bool false) ?_ ⟨rfl,rfl,rfl⟩;simp[results,Tryz.results50]
theorem Te(a b:Nat):aK Tryz.prog 31 #[.int .i64 (a:Nat),.int .i64 (b:Nat)] S v fun x S' v'=>x=jH a b∧S'=S∧v'=v:=by
 refine dL Tryz.func31 rfl Tryz.ntmps31 fun Stop cc cs ret f g0 g1=>?_
 repeat refine rN ?_
 refine rK Tryz.func50 (Hs a) ?_;rintro _ S1 w1 _ ⟨rfl,e1,e2⟩;subst S1 w1;repeat refine rN ?_
 refine rK Tryz.func50 (Hs b) ?_;rintro _ S1 w1 _ ⟨rfl,e1,e2⟩;subst S1 w1;repeat refine rN ?_
 refine rZ (by simp[Act.eval]) ?_;repeat refine rN ?_
 refine rZ (by simp[Act.eval]) ?_;repeat refine rN ?_
 by_cases h1:a<b
 .skip;refine rX (by simp[Act.eval,h1]) ?_;repeat refine rN ?_
  refine aP fun todo=>?_
  refine ret _ _ S v (jH a b) ?_ ⟨rfl,rfl,rfl⟩;simp[results,Tryz.results31,jH,h1]
 .have h1':b<=a:=by omega
  refine rZ (by simp[Act.eval,h1']) ?_;repeat refine rN ?_
  by_cases h2:b<a
  .skip;refine rX (by simp[Act.eval,h2]) ?_;repeat refine rN ?_
   refine aP fun todo=>?_
   refine ret _ _ S v (jH a b) ?_ ⟨rfl,rfl,rfl⟩;simp[results,Tryz.results31,jH,h1,h2]
  .have h2':a<=b:=by omega
   refine rZ (by simp[Act.eval,h2']) ?_;repeat refine rN ?_
   refine aP fun todo=>?_
   refine ret _ _ S v (jH a b) ?_ ⟨rfl,rfl,rfl⟩;simp[results,Tryz.results31,jH,h1,h2]
theorem zaB(a b:Hl):aK Tryz.prog 30 #[.agg (bP a),.agg (bP b)] S v fun x S' v'=>x=jH a.id b.id∧S'=S∧Ext v v':=by
 refine dL Tryz.func30 rfl Tryz.ntmps30 fun Stop cc cs ret f g0 g1=>?_
 repeat refine rN ?_
 refine bO (Q:=fun y w=>y=.pointer (some ⟨v.heap.size,0,none⟩)∧Ext v w∧w.heap[v.heap.size]?=some (.cells (bP a) 38)) aB rfl rfl (by kernel_rfl) (fun u hu=>⟨_,_,.inl (gM (x:=.tmp 0) (y:=.agg (bP a)) rfl (by simp[g0]) u),by rw[hu.heap],(Ext.twin hu).trans _ _ _ (Ext.alloc _ _),by rw[<-hu.heap];exact cI _ _⟩) ?_
 rintro _ w1 ⟨rfl,hE1,hb1⟩;simp only[stO_some];repeat refine rN ?_
 refine bO (Q:=fun y w=>y=.pointer (some ⟨w1.heap.size,0,none⟩)∧Ext w1 w∧w.heap[w1.heap.size]?=some (.cells (bP b) 38)) aB rfl rfl (by kernel_rfl) (fun u hu=>⟨_,_,.inl (gM (x:=.tmp 1) (y:=.agg (bP b)) rfl (by simp[g1]) u),by rw[hu.heap],(Ext.twin hu).trans _ _ _ (Ext.alloc _ _),by rw[<-hu.heap];exact cI _ _⟩) ?_
 rintro _ w2 ⟨rfl,hE2,hb2⟩;simp only[stO_some];have c1:w2.cell? ⟨v.heap.size,0,none⟩=some (.int .i64 (a.id:Nat)):=(cell_of_row _ _ _ _ _ _ (hE2.row hb1)).trans rfl;have c2:w2.cell? ⟨w1.heap.size,0,none⟩=some (.int .i64 (b.id:Nat)):=(cell_of_row _ _ _ _ _ _ hb2).trans rfl;repeat (first|refine rQ rfl ?_|(refine rO aB rfl ?_;intro _ hu_ K_ hK_;(have hc:=(Ext.twin hu_).cell c1;have hc':=(Ext.twin hu_).cell c2);go_simp;(try rw[wI _]);(try rw[wU _]);refine hK_ _ ?_;clear hK_ K_ hu_;simp only[sS,sN])|refine rW ?_)
 refine rK Tryz.func31 (Te a.id b.id) ?_;rintro _ S1 w3 _ ⟨rfl,e1,e2⟩;subst S1 w3;repeat refine rN ?_
 refine aP fun todo=>?_
 refine ret _ _ S w2 (jH a.id b.id) ?_ ⟨rfl,rfl,hE1.trans _ _ _ hE2⟩;simp[results,Tryz.results30]
end
def cK(id:Nat):Code->Option (Array Oper)
 |.region i ops _=>bif Nat.beq i id then some ops else none
 |.seq a b=>match cK id a with
  |some x=>some x
  |none=>cK id b
 |.cond _ a b=>match cK id a with
  |some x=>some x
  |none=>cK id b
 |.block _ c=>cK id c
 |.loop c=>cK id c
 |_=>none
theorem rS{ops:Array Oper}{m:Nat}(h:(List.range m).all (vT ops)=true){s:Nat}(hs:s<m):∀ j,j<ops.size->aI ops j≠some s:=aW (List.all_eq_true.1 h s (List.mem_range.2 hs))
def nQ(n:Nat)(h h':Nat->Hl):Prop:=((List.range n).map h').Perm ((List.range n).map h)
theorem nQ.trans{n:Nat}{a b c:Nat->Hl}(h:nQ n a b)(h':nQ n b c):nQ n a c:=List.Perm.trans h' h
def fN(h:Nat->Hl)(j:Nat):Nat->Hl:=bV (bV h j (h (j - 1))) (j - 1) (h j)
theorem Um{n j:Nat}(h:Nat->Hl)(hj:0<j)(hn:j<n):nQ n h (fN h j):=by
 obtain⟨i,rfl⟩:∃ i,j=i+1:=⟨j - 1,by omega⟩;obtain⟨r,rfl⟩:∃ r,n=i+(2+r):=⟨n - i - 2,by omega⟩;unfold nQ;have e:List.range (i+(2+r))=List.range i++(i :: (i+1) :: (List.range r).map fun k=>i+(2+k)):=by
  rw[List.range_add,List.range_add];simp[List.range_succ,Function.comp_def]
 rw[e,List.map_append,List.map_append];have h1:(List.range i).map (fN h (i+1))=(List.range i).map h:=List.map_congr_left fun k hk=>by
  have:=List.mem_range.1 hk;unfold fN bV;rw[if_neg (by omega),if_neg (by omega)]
 have h2:((List.range r).map fun k=>i+(2+k)).map (fN h (i+1))=((List.range r).map fun k=>i+(2+k)).map h:=List.map_congr_left fun k hk=>by
  obtain⟨k',_,rfl⟩:=List.mem_map.1 hk;unfold fN bV;rw[if_neg (by omega),if_neg (by omega)]
 rw[List.map_cons,List.map_cons,List.map_cons,List.map_cons,h1,h2];have h3:fN h (i+1) i=h (i+1):=by
  unfold fN bV;rw[if_pos (by omega)]
 have h4:fN h (i+1) (i+1)=h i:=by
  unfold fN bV;rw[if_neg (by omega),if_pos rfl,Nat.add_sub_cancel]
 rw[h3,h4];exact(List.Perm.refl _).append (.swap _ _ _)
structure InsI(i j:Nat)(h:Nat->Hl):Prop where
 low:∀ a b,a<b->b<=i->a≠j->b≠j->(h a).id<=(h b).id
 up:∀ b,j<b->b<=i->(h j).id<=(h b).id
theorem InsI.start{i:Nat}{h:Nat->Hl}(hs:∀ a b,a<b->b<i->(h a).id<=(h b).id):InsI i i h:=⟨fun a b h1 h2 h3 h4=>hs a b h1 (by omega),fun b h1 h2=>by omega⟩
theorem InsI.done{i j:Nat}{h:Nat->Hl}(H:InsI i j h)(hj:j=0∨(h (j - 1)).id<=(h j).id)(hji:j<=i):∀ a b,a<b->b<i+1->(h a).id<=(h b).id:=by
 intro a b h1 h2;by_cases ea:a=j
 .rw[ea];exact H.up b (by omega) (by omega)
 .by_cases eb:b=j
  .rcases hj with rfl|hj
   .omega
   .by_cases e:a=j - 1
    .rw[e,eb];exact hj
    .have:=H.low a (j - 1) (by omega) (by omega) ea (by omega);rw[eb];omega
  .exact H.low a b h1 (by omega) ea eb
theorem InsI.swap{i j:Nat}{h:Nat->Hl}(H:InsI i j h)(hj:0<j)(hji:j<=i)(hlt:(h j).id<(h (j - 1)).id):InsI i (j - 1) (fN h j):=by
 have s1:fN h j (j - 1)=h j:=by unfold fN bV;rw[if_pos rfl]
 have s2:fN h j j=h (j - 1):=by unfold fN bV;rw[if_neg (by omega),if_pos rfl]
 have s3:∀ k,k≠j->k≠j - 1->fN h j k=h k:=fun k h1 h2=>by unfold fN bV;rw[if_neg h2,if_neg h1]
 refine⟨fun a b h1 h2 h3 h4=>?_,fun b h1 h2=>?_⟩
 .by_cases ea:a=j
  .rw[ea,s2,s3 b (by omega) h4];exact H.low (j - 1) b (by omega) h2 (by omega) (by omega)
  .rw[s3 a ea h3];by_cases eb:b=j
   .rw[eb,s2];exact H.low a (j - 1) (by omega) (by omega) ea (by omega)
   .rw[s3 b eb h4];exact H.low a b h1 h2 ea eb
 .rw[s1];by_cases eb:b=j
  .rw[eb,s2];omega
  .rw[s3 b eb (by omega)];exact H.up b (by omega) h2
def lY(F:Value)(g n cap j:Nat)(h:Nat->Hl)(i:Nat)(x:Value)(w:World):Prop:=
 match i with
 |0=>x=.int .i64 (j:Nat)
 |1=>x=.int .i64 0
 |2=>x=.bool true
 |3=>x=.bool true
 |4=>x=F
 |5=>x=.slice (some ⟨g,0,none⟩) n cap
 |6=>x=.int .i64 (j:Nat)
 |7=>x=.pointer (some ⟨g,j*3,none⟩)
 |8=>x=.agg (bP (h j))
 |9=>x=.slice (some ⟨g,0,none⟩) n cap
 |10=>x=.int .i64 (j:Nat)
 |11=>x=.int .i64 ((j - 1:Nat):Int)
 |12=>x=.pointer (some ⟨g,(j - 1)*3,none⟩)
 |13=>x=.agg (bP (h (j - 1)))
 |14=>x=jH (h j).id (h (j - 1)).id
 |15=>x=.bool (decide ((h j).id<(h (j - 1)).id))
 |16=>x=.bool (decide ((h j).id<(h (j - 1)).id))
 |_=>True
section
variable {w w' v:World}{S:Nat->Prop}
theorem Wa{f:Nat->Value}{Stop:Goroutine->(Nat->Prop)->World->Prop}{cs:List Frame}{k0:List Item}(g n cap N j:Nat)(h:Nat->Hl)(hj:0<j)(hjn:j<n)(hnc:n<=cap)(hn:n<=12)(hnN:n<=N)(hg:w.heap[g]?=some (.cells (hA N h) 38))
  (g0:f 0=.slice (some ⟨g,0,none⟩) n cap) (g1:f 1=.int .i64 0) (g3:f 3=.func (.func 30) #[] #[]) (g9:f 9=.int .i64 (j:Nat))
  (next:∀ w' f',Ext w w'->f' 34=.bool (decide ((h j).id<(h (j - 1)).id))->(∀ s,s<18->f' s=f s)->Vw.Reach Tryz.prog Stop (G ((base 66).at ⟨TA 53 f',[]⟩ (.inRegion ((cK 4 (Tryz.f66.body.getD .skip)).getD #[]) [] :: k0)) cs) S w') :
  Vw.Reach Tryz.prog Stop (G ((base 66).at ⟨TA 53 f,[]⟩ (.code (.region 4 ((cK 4 (Tryz.f66.body.getD .skip)).getD #[]) true) :: k0)) cs) S w:=by
 have e:cK 4 (Tryz.f66.body.getD .skip)=some _:=rfl;rw[e]at next ⊢
 simp only[Option.getD_some]at next ⊢
 clear e;have hj1:j - 1<n:=by omega
 have hjI:(j:Int)<(n:Int):=by omega
 have hj1I:((j - 1:Nat):Int)<(n:Int):=by omega
 have hj0:(0:Int)<(j:Int):=by omega
 have hcast:(j:Int) - 1=((j - 1:Nat):Int):=by omega
 refine xA (by kernel_rfl) (by kernel_rfl) (by kernel_rfl) (lY (.func (.func 30) #[] #[]) g n cap j h) (fun j x w w' q _=>q) ?_ ?_ ?_
 .intro j hj he x w h;have hj':j<17:=hj;rcases(by omega:j=0∨j=1∨j=2∨j=3∨j=4∨j=5∨j=6∨j=7∨j=8∨j=9∨j=10∨j=11∨j=12∨j=13∨j=14∨j=15∨j=16) with rfl|rfl|rfl|rfl|rfl|rfl|rfl|rfl|rfl|rfl|rfl|rfl|rfl|rfl|rfl|rfl|rfl<;>cases he
 .intro i f' w3 rest hi hE hf hd nxt;have g0':f' 0=.slice (some ⟨g,0,none⟩) n cap:=(hf 0 (aW (by kernel_rfl))).trans g0;have g1':f' 1=.int .i64 0:=(hf 1 (aW (by kernel_rfl))).trans g1;have g3':f' 3=.func (.func 30) #[] #[]:=(hf 3 (aW (by kernel_rfl))).trans g3;have g9':f' 9=.int .i64 (j:Nat):=(hf 9 (aW (by kernel_rfl))).trans g9;have hi':i<17:=hi;have hg3:=hE.row hg;clear hf g0 g1 g3 g9;rcases(by omega:i=0∨i=1∨i=2∨i=3∨i=4∨i=5∨i=6∨i=7∨i=8∨i=9∨i=10∨i=11∨i=12∨i=13∨i=14∨i=15∨i=16) with rfl|rfl|rfl|rfl|rfl|rfl|rfl|rfl|rfl|rfl|rfl|rfl|rfl|rfl|rfl|rfl|rfl
  .clear hd;refine rY aB ?_;exact nxt _ w3 (.refl w3) rfl
  .clear hd;refine rY aB ?_;exact nxt _ w3 (.refl w3) rfl
  .have d0:f' 18=.int .i64 (j:Nat):=hd 0 (aD (by kernel_rfl));have d1:f' 19=.int .i64 0:=hd 1 (aD (by kernel_rfl));clear hd;refine rY aB ?_;exact nxt _ w3 (.refl w3) (by simp[lY,hj])
  .have d0:f' 20=.bool true:=hd 2 (aD (by kernel_rfl));clear hd;refine rY aB ?_;exact nxt _ w3 (.refl w3) rfl
  .have d3:f' 21=.bool true:=hd 3 (aD (by kernel_rfl));clear hd;refine rY aB ?_;exact nxt _ w3 (.refl w3) rfl
  .have d3:f' 21=.bool true:=hd 3 (aD (by kernel_rfl));clear hd;refine rY aB ?_;exact nxt _ w3 (.refl w3) rfl
  .have d3:f' 21=.bool true:=hd 3 (aD (by kernel_rfl));clear hd;refine rY aB ?_;exact nxt _ w3 (.refl w3) rfl
  .have d3:f' 21=.bool true:=hd 3 (aD (by kernel_rfl));have d5:f' 23=.slice (some ⟨g,0,none⟩) n cap:=hd 5 (aD (by kernel_rfl));have d6:f' 24=.int .i64 (j:Nat):=hd 6 (aD (by kernel_rfl));clear hd;refine rY aB ?_;exact nxt _ w3 (.refl w3) (by simp[lY])
  .have d3:f' 21=.bool true:=hd 3 (aD (by kernel_rfl));have d7:f' 25=.pointer (some ⟨g,j*3,none⟩):=hd 7 (aD (by kernel_rfl));clear hd;refine cH aB rfl (by simp[Region.wanted,yielded,bE, *]) (by kernel_rfl) (fun u hu=>qN (x:=.tmp 25) (b:=g) (n:=N) (j:=j) rfl (by simp[d7]) ((Ext.twin hu).row hg3) (by omega)) ?_;exact nxt _ w3 (.refl w3) rfl
  .have d3:f' 21=.bool true:=hd 3 (aD (by kernel_rfl));clear hd;refine rY aB ?_;exact nxt _ w3 (.refl w3) rfl
  .have d3:f' 21=.bool true:=hd 3 (aD (by kernel_rfl));clear hd;refine rY aB ?_;exact nxt _ w3 (.refl w3) rfl
  .have d3:f' 21=.bool true:=hd 3 (aD (by kernel_rfl));have d10:f' 28=.int .i64 (j:Nat):=hd 10 (aD (by kernel_rfl));clear hd;refine rY aB ?_;exact nxt _ w3 (.refl w3) (by simp[lY,hcast])
  .have d3:f' 21=.bool true:=hd 3 (aD (by kernel_rfl));have d9:f' 27=.slice (some ⟨g,0,none⟩) n cap:=hd 9 (aD (by kernel_rfl));have d11:f' 29=.int .i64 ((j - 1:Nat):Int):=hd 11 (aD (by kernel_rfl));clear hd;generalize j - 1=j1 at *
   refine rY aB ?_;exact nxt _ w3 (.refl w3) (by simp[lY])
  .have d3:f' 21=.bool true:=hd 3 (aD (by kernel_rfl));have d12:f' 30=.pointer (some ⟨g,(j - 1)*3,none⟩):=hd 12 (aD (by kernel_rfl));clear hd;refine cH aB rfl (by simp[Region.wanted,yielded,bE, *]) (by kernel_rfl) (fun u hu=>qN (x:=.tmp 30) (b:=g) (n:=N) (j:=j - 1) rfl (by simp[d12]) ((Ext.twin hu).row hg3) (by omega)) ?_;exact nxt _ w3 (.refl w3) rfl
  .have d3:f' 21=.bool true:=hd 3 (aD (by kernel_rfl));have d4:f' 22=.func (.func 30) #[] #[]:=hd 4 (aD (by kernel_rfl));have d8:f' 26=.agg (bP (h j)):=hd 8 (aD (by kernel_rfl));have d13:f' 31=.agg (bP (h (j - 1))):=hd 13 (aD (by kernel_rfl));clear hd;refine Mm rfl (by simp[Region.wanted,yielded,bE, *]) rfl (by simp[d4]) Tryz.func30 (by kernel_rfl) rfl (by simp[d8,d13]) (zaB (h j) (h (j - 1))) ?_;rintro _ S1 w4 _ ⟨rfl,e1,hE4⟩;subst S1;exact nxt _ w4 hE4 rfl
  .have d3:f' 21=.bool true:=hd 3 (aD (by kernel_rfl));have d14:f' 32=jH (h j).id (h (j - 1)).id:=hd 14 (aD (by kernel_rfl));clear hd;unfold jH at d14;by_cases hlt:(h j).id<(h (j - 1)).id
   .rw[if_pos hlt]at d14;refine rY aB ?_;exact nxt _ w3 (.refl w3) (by simp[lY,hlt])
   .rw[if_neg hlt]at d14;by_cases hgt:(h (j - 1)).id<(h j).id
    .rw[if_pos hgt]at d14;refine rY aB ?_;exact nxt _ w3 (.refl w3) (by simp[lY];omega)
    .rw[if_neg hgt]at d14;refine rY aB ?_;exact nxt _ w3 (.refl w3) (by simp[lY];omega)
  .have d3:f' 21=.bool true:=hd 3 (aD (by kernel_rfl));have d15:f' 33=.bool (decide ((h j).id<(h (j - 1)).id)):=hd 15 (aD (by kernel_rfl));clear hd;refine rY aB ?_;exact nxt _ w3 (.refl w3) rfl
 .intro f' w3 hE hf hd;exact next w3 f' hE (hd 16 (by decide)) fun s hs=>hf s (rS (by kernel_rfl) hs)
end
section
variable {w w' v:World}{S:Nat->Prop}
theorem Wb{f:Nat->Value}{Stop:Goroutine->(Nat->Prop)->World->Prop}{cs:List Frame}{k0:List Item}(g n cap N j:Nat)(h:Nat->Hl)(hj:0<j)(hjn:j<n)(hnc:n<=cap)(hn:n<=12)(hnN:n<=N)(hg:w.heap[g]?=some (.cells (hA N h) 38))
  (g0:f 0=.slice (some ⟨g,0,none⟩) n cap) (g9:f 9=.int .i64 (j:Nat))
  (next:∀ w1 w2 f',Wr w g (.cells (hA N (bV h j (h (j - 1)))) 38) w1->Wr w1 g (.cells (hA N (fN h j)) 38) w2->(∀ s,s<18->f' s=f s)->Vw.Reach Tryz.prog Stop (G ((base 66).at ⟨TA 53 f',[]⟩ (.inRegion ((cK 6 (Tryz.f66.body.getD .skip)).getD #[]) [] :: k0)) cs) S w2) :
  Vw.Reach Tryz.prog Stop (G ((base 66).at ⟨TA 53 f,[]⟩ (.code (.region 6 ((cK 6 (Tryz.f66.body.getD .skip)).getD #[]) true) :: k0)) cs) S w:=by
 have e:cK 6 (Tryz.f66.body.getD .skip)=some _:=rfl;rw[e]at next ⊢
 simp only[Option.getD_some]at next ⊢
 clear e;obtain⟨i,rfl⟩:∃ i,j=i+1:=⟨j - 1,by omega⟩;have hjI:((i+1:Nat):Int)<(n:Int):=by omega
 have hiI:((i:Nat):Int)<(n:Int):=by omega
 have hcast:((i+1:Nat):Int) - 1=((i:Nat):Int):=by omega
 rw[Nat.add_sub_cancel]at next
 unfold fN at next
 rw[Nat.add_sub_cancel]at next
 generalize hj1:i+1=j at *
 refine Mj (fun i=>decide (i<15)) aB (by first|kernel_rfl|rfl) ?_
 simp only[List.size_toArray,List.length_cons,List.length_nil,Nat.reduceAdd,Nat.zero_add];co_applyP iH (i:=0) rfl (by first|kernel_rfl|decide +kernel) (by first|kernel_rfl|decide +kernel) (by first|kernel_rfl|decide +kernel) (by first|rfl|(simp[Region.wanted,yielded,bE, *];done)) (by kernel_rfl) (fun _=>run_eq_of ?run1_0) ?rest1_0
 case run1_0=>
  intro K_ hK_;(skip);go_simp;(try rw[gP _ (by omega) (by omega)]);exact hK_
 simp only[stO_some,stO_none];co_applyP iH (i:=1) rfl (by first|kernel_rfl|decide +kernel) (by first|kernel_rfl|decide +kernel) (by first|kernel_rfl|decide +kernel) (by first|rfl|(simp[Region.wanted,yielded,bE, *];done)) (by kernel_rfl) (fun _=>run_eq_of ?run1_1) ?rest1_1
 case run1_1=>
  intro K_ hK_;(skip);go_simp;(try rw[gP _ (by omega) (by omega)]);exact hK_
 simp only[stO_some,stO_none];co_applyP iH (i:=2) rfl (by first|kernel_rfl|decide +kernel) (by first|kernel_rfl|decide +kernel) (by first|kernel_rfl|decide +kernel) (by first|rfl|(simp[Region.wanted,yielded,bE, *];done)) (by kernel_rfl) (fun _=>run_eq_of ?run1_2) ?rest1_2
 case run1_2=>
  intro K_ hK_;(skip);go_simp;(try rw[gP _ (by omega) (by omega)]);exact hK_
 simp only[stO_some,stO_none];co_applyP iH (i:=3) rfl (by first|kernel_rfl|decide +kernel) (by first|kernel_rfl|decide +kernel) (by first|kernel_rfl|decide +kernel) (by first|rfl|(simp[Region.wanted,yielded,bE, *];done)) (by kernel_rfl) (fun _=>run_eq_of ?run1_3) ?rest1_3
 case run1_3=>
  intro K_ hK_;(skip);go_simp;(try rw[gP _ (by omega) (by omega)]);exact hK_
 simp only[stO_some,stO_none];co_applyP iH (i:=4) rfl (by first|kernel_rfl|decide +kernel) (by first|kernel_rfl|decide +kernel) (by first|kernel_rfl|decide +kernel) (by first|rfl|(simp[Region.wanted,yielded,bE, *];done)) (by kernel_rfl) (fun _=>run_eq_of ?run1_4) ?rest1_4
 case run1_4=>
  intro K_ hK_;(skip);go_simp;(try rw[gP _ (by omega) (by omega)]);exact hK_
 simp only[stO_some,stO_none];co_applyP iH (i:=5) rfl (by first|kernel_rfl|decide +kernel) (by first|kernel_rfl|decide +kernel) (by first|kernel_rfl|decide +kernel) (by first|rfl|(simp[Region.wanted,yielded,bE, *];done)) (by kernel_rfl) (fun _=>run_eq_of ?run2_5) ?rest2_5
 case run2_5=>
  intro K_ hK_;(skip);go_simp;(try rw[gP _ (by omega) (by omega)]);exact hK_
 simp only[stO_some,stO_none];co_applyP iH (i:=6) rfl (by first|kernel_rfl|decide +kernel) (by first|kernel_rfl|decide +kernel) (by first|kernel_rfl|decide +kernel) (by first|rfl|(simp[Region.wanted,yielded,bE, *];done)) (by kernel_rfl) (fun _=>run_eq_of ?run2_6) ?rest2_6
 case run2_6=>
  intro K_ hK_;(skip);go_simp;(try rw[gP _ (by omega) (by omega)]);exact hK_
 simp only[stO_some,stO_none];co_applyP iH (i:=7) rfl (by first|kernel_rfl|decide +kernel) (by first|kernel_rfl|decide +kernel) (by first|kernel_rfl|decide +kernel) (by first|rfl|(simp[Region.wanted,yielded,bE, *];done)) (by kernel_rfl) (fun _=>run_eq_of ?run2_7) ?rest2_7
 case run2_7=>
  intro K_ hK_;(skip);go_simp;(try rw[gP _ (by omega) (by omega)]);exact hK_
 simp only[stO_some,stO_none];co_applyP iH (i:=8) rfl (by first|kernel_rfl|decide +kernel) (by first|kernel_rfl|decide +kernel) (by first|kernel_rfl|decide +kernel) (by first|rfl|(simp[Region.wanted,yielded,bE, *];done)) (by kernel_rfl) (fun _=>run_eq_of ?run3_8) ?rest3_8
 case run3_8=>
  intro K_ hK_;(skip);go_simp;(try rw[gP _ (by omega) (by omega)]);exact hK_
 simp only[stO_some,stO_none];co_applyP Dy (i:=9) rfl (by first|kernel_rfl|decide +kernel) (by first|kernel_rfl|decide +kernel) (by first|kernel_rfl|decide +kernel) (by first|kernel_rfl|decide +kernel) rfl (by kernel_rfl) (fun u hu=>qN (x:=.tmp 45) (b:=g) (n:=N) (j:=i) rfl (by simp) ((Ext.twin hu).row hg) (by omega)) ?_
 simp only[stO_some];co_applyP iH (i:=10) rfl (by first|kernel_rfl|decide +kernel) (by first|kernel_rfl|decide +kernel) (by first|kernel_rfl|decide +kernel) (by first|rfl|(simp[Region.wanted,yielded,bE, *];done)) (by kernel_rfl) (fun _=>run_eq_of ?run4_10) ?rest4_10
 case run4_10=>
  intro K_ hK_;(skip);go_simp;(try rw[gP _ (by omega) (by omega)]);exact hK_
 simp only[stO_some,stO_none];co_applyP iH (i:=11) rfl (by first|kernel_rfl|decide +kernel) (by first|kernel_rfl|decide +kernel) (by first|kernel_rfl|decide +kernel) (by first|rfl|(simp[Region.wanted,yielded,bE, *];done)) (by kernel_rfl) (fun _=>run_eq_of ?run4_11) ?rest4_11
 case run4_11=>
  intro K_ hK_;(skip);go_simp;(try rw[gP _ (by omega) (by omega)]);exact hK_
 simp only[stO_some,stO_none];co_applyP iH (i:=12) rfl (by first|kernel_rfl|decide +kernel) (by first|kernel_rfl|decide +kernel) (by first|kernel_rfl|decide +kernel) (by first|rfl|(simp[Region.wanted,yielded,bE, *];done)) (by kernel_rfl) (fun _=>run_eq_of ?run4_12) ?rest4_12
 case run4_12=>
  intro K_ hK_;(skip);go_simp;(try rw[gP _ (by omega) (by omega)]);exact hK_
 simp only[stO_some,stO_none];co_applyP Dy (i:=13) rfl (by first|kernel_rfl|decide +kernel) (by first|kernel_rfl|decide +kernel) (by first|kernel_rfl|decide +kernel) (by first|kernel_rfl|decide +kernel) rfl (by kernel_rfl) (fun u hu=>qN (x:=.tmp 49) (b:=g) (n:=N) (j:=j) rfl (by simp) ((Ext.twin hu).row hg) (by omega)) ?_
 simp only[stO_some];co_applyP iH (i:=14) rfl (by first|kernel_rfl|decide +kernel) (by first|kernel_rfl|decide +kernel) (by first|kernel_rfl|decide +kernel) (by first|rfl|(simp[Region.wanted,yielded,bE, *];done)) (by kernel_rfl) (fun _=>run_eq_of ?run5_14) ?rest5_14
 case run5_14=>
  intro K_ hK_;(skip);go_simp;(try rw[gP _ (by omega) (by omega)]);exact hK_
 simp only[stO_some,stO_none];refine Fm (i:=15) (Q:=fun x w1=>Wr w g (.cells (hA N (bV h j (h i))) 38) w1) rfl (by first|kernel_rfl|decide +kernel) rfl (by kernel_rfl) (fun u hu=>Bx (x:=.tmp 51) (y:=.tmp 46) (j:=j) (z:=h i) hu hg (by omega) rfl (by simp) (by simp)) ?_ (by rfl)
 rintro x1 w1 hW1;simp only[stO_none];co_applyP iH (i:=16) rfl (by first|kernel_rfl|decide +kernel) (by first|kernel_rfl|decide +kernel) (by first|kernel_rfl|decide +kernel) (by first|rfl|(simp[Region.wanted,yielded,bE, *];done)) (by kernel_rfl) (fun _=>run_eq_of ?run6_16) ?rest6_16
 case run6_16=>
  intro K_ hK_;(skip);go_simp;(try rw[gP _ (by omega) (by omega)]);exact hK_
 simp only[stO_some,stO_none];refine Fm (i:=17) (Q:=fun x w2=>Wr w1 g (.cells (hA N (bV (bV h j (h i)) i (h j))) 38) w2) rfl (by first|kernel_rfl|decide +kernel) rfl (by kernel_rfl) (fun u hu=>Bx (x:=.tmp 52) (y:=.tmp 50) (j:=i) (z:=h j) hu hW1.at_ (by omega) rfl (by simp) (by simp)) ?_ (by rfl)
 rintro x2 w2 hW2;simp only[stO_none];refine Tp (by first|kernel_rfl|decide +kernel) ?_ _
 refine next w1 w2 _ hW1 hW2 fun s hs=>?_
 simp only[st];repeat rw[if_neg (by omega)]
structure SortI(n N g:Nat)(v:World)(h0 h:Nat->Hl)(i:Nat)(w:World):Prop where
 kp:Kp v (fun b=>b=g) w
 row:w.heap[g]?=some (.cells (hA N h) 38)
 perm:nQ n h0 h
theorem SortI.ext{n N g i:Nat}{h0 h:Nat->Hl}(H:SortI n N g v h0 h i w)(hE:Ext w w'):SortI n N g v h0 h i w':=⟨H.kp.ext hE,hE.row H.row,H.perm⟩
theorem Ni(g n cap N:Nat)(h0:Nat->Hl)(hnc:n<=cap)(hn:n<=12)(hnN:n<=N)(hg:v.heap[g]?=some (.cells (hA N h0) 38)) :
  aK Tryz.prog 66 #[.slice (some ⟨g,0,none⟩) n cap,.int .i64 0,.int .i64 (n:Nat),.func (.func 30) #[] #[]] S v fun x S' v'=>x=.tuple #[]∧S'=S∧∃ h,SortI n N g v h0 h 0 v'∧∀ a b,a<b->b<n->(h a).id<=(h b).id:=by
 refine qT Tryz.func66 rfl Tryz.ntmps66 fun Stop cc cs ret f g0 g1 g2 g3=>?_
 repeat refine rN ?_
 refine bT (fun d f' S' w=>∃ i h,d=n - i∧1<=i∧(i<=n∨i=1)∧S'=S∧SortI n N g v h0 h i w∧(∀ a b,a<b->b<i->(h a).id<=(h b).id)∧f' 0=.slice (some ⟨g,0,none⟩) n cap∧f' 1=.int .i64 0∧f' 2=.int .i64 (n:Nat)∧f' 3=.func (.func 30) #[] #[]∧f' 8=.int .i64 (i:Nat)) (n - 1) ⟨1,h0,rfl,by omega,.inr rfl,rfl,⟨.refl _ _,hg,List.Perm.refl _⟩,fun a b h1 h2=>by omega,by simp[g0],by simp[g1],by simp[g2],by simp[g3],by simp⟩ ?_
 clear g0 g1 g2 g3 f;rintro d f S' w ⟨i,h,rfl,hi1,hi2,eS,hI,hso,g0,g1,g2,g3,g8⟩ nxt;subst S';repeat refine rN ?_
 by_cases hlt:i<n
 .have hltI:(i:Int)<(n:Int):=by omega
  refine rX (by simp[Act.eval,hlt]) ?_;repeat refine rN ?_
  refine bT (fun d f' S' w=>∃ j h,d=j∧j<=i∧S'=S∧SortI n N g v h0 h i w∧InsI i j h∧f' 0=.slice (some ⟨g,0,none⟩) n cap∧f' 1=.int .i64 0∧f' 2=.int .i64 (n:Nat)∧f' 3=.func (.func 30) #[] #[]∧f' 8=.int .i64 (i:Nat)∧f' 9=.int .i64 (j:Nat)) i ⟨i,h,rfl,by omega,rfl,hI,.start hso,by simp[g0],by simp[g1],by simp[g2],by simp[g3],by simp[g8],by simp⟩ ?_;clear g0 g1 g2 g3 g8 f hI hso h w;rintro d f S' w ⟨j,h,ed,hj,eS,hI,hN,g0,g1,g2,g3,g8,g9⟩ nxt2;subst S';have out:∀ f w,SortI n N g v h0 h i w->(j=0∨(h (j - 1)).id<=(h j).id)->f 0=.slice (some ⟨g,0,none⟩) n cap->f 1=.int .i64 0->f 2=.int .i64 (n:Nat)->f 3=.func (.func 30) #[] #[]->f 8=.int .i64 (i:Nat)->∃ i' h',n - (i+1)=n - i'∧1<=i'∧(i'<=n∨i'=1)∧S=S∧SortI n N g v h0 h' i' w∧(∀ a b,a<b->b<i'->(h' a).id<=(h' b).id)∧(st (st (st f 15 (.int .i64 (i:Nat))) 16 (.int .i64 ((i:Nat)+1))) 8 (.int .i64 ((i:Nat)+1))) 0=.slice (some ⟨g,0,none⟩) n cap∧(st (st (st f 15 (.int .i64 (i:Nat))) 16 (.int .i64 ((i:Nat)+1))) 8 (.int .i64 ((i:Nat)+1))) 1=.int .i64 0∧(st (st (st f 15 (.int .i64 (i:Nat))) 16 (.int .i64 ((i:Nat)+1))) 8 (.int .i64 ((i:Nat)+1))) 2=.int .i64 (n:Nat)∧(st (st (st f 15 (.int .i64 (i:Nat))) 16 (.int .i64 ((i:Nat)+1))) 8 (.int .i64 ((i:Nat)+1))) 3=.func (.func 30) #[] #[]∧(st (st (st f 15 (.int .i64 (i:Nat))) 16 (.int .i64 ((i:Nat)+1))) 8 (.int .i64 ((i:Nat)+1))) 8=.int .i64 (i':Nat):=fun f w hI' ho q0 q1 q2 q3 q8=>⟨i+1,h,rfl,by omega,.inl (by omega),rfl,⟨hI'.kp,hI'.row,hI'.perm⟩,hN.done ho hj,by simp[q0],by simp[q1],by simp[q2],by simp[q3],by simp⟩
  by_cases hj0:j=0
  .subst j;repeat refine rN ?_
   refine lJ aB (by first|kernel_rfl|rfl) ?_
   simp only[List.size_toArray,List.length_cons,List.length_nil,Nat.reduceAdd,Nat.zero_add];refine rU 0 ?_;refine rU 1 ?_;refine rU 2 ?_;refine rU 3 ?_;co_applyP iU (i:=4) (x:=undef) rfl (by first|kernel_rfl|decide +kernel) (by first|kernel_rfl|decide +kernel) (by first|kernel_rfl|decide +kernel) (.inr ⟨(by simp[Region.wanted,yielded,bE, *]),rfl⟩) ?rest8
   simp only[stO_some,stO_none];co_applyP iU (i:=5) (x:=undef) rfl (by first|kernel_rfl|decide +kernel) (by first|kernel_rfl|decide +kernel) (by first|kernel_rfl|decide +kernel) (.inr ⟨(by simp[Region.wanted,yielded,bE, *]),rfl⟩) ?rest9
   simp only[stO_some,stO_none];co_applyP iU (i:=6) (x:=undef) rfl (by first|kernel_rfl|decide +kernel) (by first|kernel_rfl|decide +kernel) (by first|kernel_rfl|decide +kernel) (.inr ⟨(by simp[Region.wanted,yielded,bE, *]),rfl⟩) ?rest10
   simp only[stO_some,stO_none];co_applyP iU (i:=7) (x:=undef) rfl (by first|kernel_rfl|decide +kernel) (by first|kernel_rfl|decide +kernel) (by first|kernel_rfl|decide +kernel) (.inr ⟨(by simp[Region.wanted,yielded,bE, *]),rfl⟩) ?rest11
   simp only[stO_some,stO_none];co_applyP iU (i:=8) (x:=undef) rfl (by first|kernel_rfl|decide +kernel) (by first|kernel_rfl|decide +kernel) (by first|kernel_rfl|decide +kernel) (.inr ⟨(by simp[Region.wanted,yielded,bE, *]),rfl⟩) ?rest12
   simp only[stO_some,stO_none];co_applyP iU (i:=9) (x:=undef) rfl (by first|kernel_rfl|decide +kernel) (by first|kernel_rfl|decide +kernel) (by first|kernel_rfl|decide +kernel) (.inr ⟨(by simp[Region.wanted,yielded,bE, *]),rfl⟩) ?rest13
   simp only[stO_some,stO_none];co_applyP iU (i:=10) (x:=undef) rfl (by first|kernel_rfl|decide +kernel) (by first|kernel_rfl|decide +kernel) (by first|kernel_rfl|decide +kernel) (.inr ⟨(by simp[Region.wanted,yielded,bE, *]),rfl⟩) ?rest14
   simp only[stO_some,stO_none];co_applyP iU (i:=11) (x:=undef) rfl (by first|kernel_rfl|decide +kernel) (by first|kernel_rfl|decide +kernel) (by first|kernel_rfl|decide +kernel) (.inr ⟨(by simp[Region.wanted,yielded,bE, *]),rfl⟩) ?rest15
   simp only[stO_some,stO_none];co_applyP iU (i:=12) (x:=undef) rfl (by first|kernel_rfl|decide +kernel) (by first|kernel_rfl|decide +kernel) (by first|kernel_rfl|decide +kernel) (.inr ⟨(by simp[Region.wanted,yielded,bE, *]),rfl⟩) ?rest16
   simp only[stO_some,stO_none];co_applyP iU (i:=13) (x:=undef) rfl (by first|kernel_rfl|decide +kernel) (by first|kernel_rfl|decide +kernel) (by first|kernel_rfl|decide +kernel) (.inr ⟨(by simp[Region.wanted,yielded,bE, *]),rfl⟩) ?rest17
   simp only[stO_some,stO_none];co_applyP iU (i:=14) (x:=undef) rfl (by first|kernel_rfl|decide +kernel) (by first|kernel_rfl|decide +kernel) (by first|kernel_rfl|decide +kernel) (.inr ⟨(by simp[Region.wanted,yielded,bE, *]),rfl⟩) ?rest18
   simp only[stO_some,stO_none];co_applyP iU (i:=15) (x:=undef) rfl (by first|kernel_rfl|decide +kernel) (by first|kernel_rfl|decide +kernel) (by first|kernel_rfl|decide +kernel) (.inr ⟨(by simp[Region.wanted,yielded,bE, *]),rfl⟩) ?rest19
   simp only[stO_some,stO_none];refine rU 16 ?_;refine lM (by first|kernel_rfl|decide +kernel) ?_ _
   repeat refine rN ?_
   refine rZ (by simp[Act.eval]) ?_;refine bD rfl ?_;repeat refine rN ?_
   exact nxt _ _ _ _ (by omega) (out _ w hI (.inl hj0) (by simp[g0]) (by simp[g1]) (by simp[g2]) (by simp[g3]) (by simp[g8]))
  .have hjp:0<j:=by omega
   repeat refine rN ?_
   refine Wa g n cap N j h hjp (by omega) hnc hn hnN hI.row g0 g1 g3 g9 fun w1 f1 hE1 g34 hf1=>?_
   have hI1:=hI.ext hE1;have k0:f1 0=.slice (some ⟨g,0,none⟩) n cap:=(hf1 0 (by omega)).trans g0;have k1:f1 1=.int .i64 0:=(hf1 1 (by omega)).trans g1;have k2:f1 2=.int .i64 (n:Nat):=(hf1 2 (by omega)).trans g2;have k3:f1 3=.func (.func 30) #[] #[]:=(hf1 3 (by omega)).trans g3;have k8:f1 8=.int .i64 (i:Nat):=(hf1 8 (by omega)).trans g8;have k9:f1 9=.int .i64 (j:Nat):=(hf1 9 (by omega)).trans g9;clear g0 g1 g2 g3 g8 g9 hf1;by_cases hless:(h j).id<(h (j - 1)).id
   .rw[decide_eq_true hless]at g34;repeat refine rN ?_
    refine rX (by simp[Act.eval,g34]) ?_;repeat refine rN ?_
    refine Wb g n cap N j h hjp (by omega) hnc hn hnN hI1.row k0 k9 fun w2 w3 f3 hW2 hW3 hf3=>?_
    have l0:f3 0=.slice (some ⟨g,0,none⟩) n cap:=(hf3 0 (by omega)).trans (by simp[k0]);have l1:f3 1=.int .i64 0:=(hf3 1 (by omega)).trans (by simp[k1]);have l2:f3 2=.int .i64 (n:Nat):=(hf3 2 (by omega)).trans (by simp[k2]);have l3:f3 3=.func (.func 30) #[] #[]:=(hf3 3 (by omega)).trans (by simp[k3]);have l8:f3 8=.int .i64 (i:Nat):=(hf3 8 (by omega)).trans (by simp[k8]);have l9:f3 9=.int .i64 (j:Nat):=(hf3 9 (by omega)).trans (by simp[k9]);clear k0 k1 k2 k3 k8 k9 hf3 g34;have hcast:(j:Int) - 1=((j - 1:Nat):Int):=by omega
    repeat refine rN ?_
    refine nxt2 _ _ _ (j - 1) (by omega) ⟨j - 1,fN h j,rfl,by omega,rfl,⟨(hI1.kp.wr (.inl rfl) hW2).wr (.inl rfl) hW3,hW3.at_,hI1.perm.trans (Um h hjp (by omega))⟩,hN.swap hjp hj hless,by simp[l0],by simp[l1],by simp[l2],by simp[l3],by simp[l8],by simp⟩
   .rw[decide_eq_false hless]at g34;repeat refine rN ?_
    refine rZ (by simp[Act.eval,g34]) ?_;refine bD rfl ?_;repeat refine rN ?_
    exact nxt _ _ _ _ (by omega) (out _ w1 hI1 (.inr (by omega)) (by simp[k0]) (by simp[k1]) (by simp[k2]) (by simp[k3]) (by simp[k8]))
 .have hge:n<=i:=by omega
  refine rZ (by simp[Act.eval,hge]) ?_;refine bD rfl ?_;repeat refine rN ?_
  refine iT ?_;refine ret _ _ S w (.tuple #[]) ?_ ⟨rfl,rfl,h,⟨hI.kp,hI.row,hI.perm⟩,fun a b h1 h2=>hso a b h1 (by omega)⟩
  simp[results,Tryz.results66]
end
section
variable {w w' v:World}{S:Nat->Prop}
theorem Vq(n:Nat)(hn:n<=12):aK Tryz.prog 75 #[.int .u64 (n:Nat)] S v fun x S' v'=>∃ y,x=.int .i64 y∧S'=S∧v'=v:=by
 refine dU Tryz.func75 rfl Tryz.ntmps75 fun Stop cc cs ret f g0=>?_
 have key:∀ (f':Nat->Value) (todo:List Item),(∃ y,f' 2=.int .i64 y)->Vw.Reach Tryz.prog Stop (G {(base 75).at ⟨TA 25 f',[]⟩ todo with mode:=.returning} (cc :: cs)) S v:=fun f' todo ⟨y,h⟩=>ret f' todo S v (.int .i64 y) (by simp[results,Tryz.results75,h]) ⟨y,rfl,rfl,rfl⟩
 clear ret;rcases(by omega:n=0∨n=1∨n=2∨n=3∨n=4∨n=5∨n=6∨n=7∨n=8∨n=9∨n=10∨n=11∨n=12) with rfl|rfl|rfl|rfl|rfl|rfl|rfl|rfl|rfl|rfl|rfl|rfl|rfl;all_goals
  repeat refine rN ?_
  refine rZ (by simp[Act.eval]) ?_;repeat refine rN ?_
  refine rZ (by simp[Act.eval]) ?_;repeat refine rN ?_
  refine rZ (by simp[Act.eval]) ?_;repeat refine rN ?_
  refine aP fun todo=>?_
  exact key _ _ ⟨_,rfl⟩
theorem Yy(n:Nat)(hn:n<=12):aK Tryz.prog 49 #[.int .u64 (n:Nat)] S v fun x S' v'=>∃ y,x=.int .i64 y∧S'=S∧v'=v:=by
 refine dU Tryz.func49 rfl Tryz.ntmps49 fun Stop cc cs ret f g0=>?_
 repeat refine rN ?_
 refine rZ (by simp[Act.eval]) ?_;repeat refine rN ?_
 refine rK Tryz.func75 (Vq n hn) ?_;rintro _ S1 w1 _ ⟨y,rfl,e1,e2⟩;subst S1 w1;repeat refine rN ?_
 refine aP fun todo=>?_
 refine ret _ _ S v (.int .i64 y) ?_ ⟨y,rfl,rfl,rfl⟩;simp[results,Tryz.results49]
def Ji(n N g:Nat)(h0:Nat->Hl)(S:Nat->Prop)(v:World)(x:Value)(S':Nat->Prop)(v':World):Prop:=x=.tuple #[]∧S'=S∧∃ h,SortI n N g v h0 h 0 v'∧∀ a b,a<b->b<n->(h a).id<=(h b).id
theorem Zp(l:Value)(g n cap N:Nat)(h0:Nat->Hl)(hnc:n<=cap)(hn:n<=12)(hnN:n<=N)(hg:v.heap[g]?=some (.cells (hA N h0) 38)) :
  aK Tryz.prog 48 #[.slice (some ⟨g,0,none⟩) n cap,.int .i64 0,.int .i64 (n:Nat),l,.func (.func 30) #[] #[]] S v (Ji n N g h0 S v):=by
 refine oG Tryz.func48 rfl Tryz.ntmps48 (by simp) fun Stop cc cs ret=>?_
 have g0:dD #[.slice (some ⟨g,0,none⟩) n cap,.int .i64 0,.int .i64 (n:Nat),l,.func (.func 30) #[] #[]] 0=.slice (some ⟨g,0,none⟩) n cap:=rfl;have g1:dD #[.slice (some ⟨g,0,none⟩) n cap,.int .i64 0,.int .i64 (n:Nat),l,.func (.func 30) #[] #[]] 1=.int .i64 0:=rfl;have g2:dD #[.slice (some ⟨g,0,none⟩) n cap,.int .i64 0,.int .i64 (n:Nat),l,.func (.func 30) #[] #[]] 2=.int .i64 (n:Nat):=rfl;have g4:dD #[.slice (some ⟨g,0,none⟩) n cap,.int .i64 0,.int .i64 (n:Nat),l,.func (.func 30) #[] #[]] 4=.func (.func 30) #[] #[]:=rfl;generalize dD #[.slice (some ⟨g,0,none⟩) n cap,.int .i64 0,.int .i64 (n:Nat),l,.func (.func 30) #[] #[]]=f at g0 g1 g2 g4;repeat refine rN ?_
 refine bT (fun d f' S' w=>S'=S∧w=v∧f' 0=.slice (some ⟨g,0,none⟩) n cap∧f' 1=.int .i64 0∧f' 2=.int .i64 (n:Nat)∧f' 4=.func (.func 30) #[] #[]) 0 ⟨rfl,rfl,by simp[g0],by simp[g1],by simp[g2],by simp[g4]⟩ ?_;clear g0 g1 g2 g4 f;rintro d f S' w ⟨eS,eW,g0,g1,g2,g4⟩ nxt;subst S' w;have hnI:(n:Int)<=12:=by omega
 repeat refine rN ?_
 refine rX (by simp[Act.eval,hnI]) ?_;repeat refine rN ?_
 refine rK Tryz.func66 (Ni g n cap N h0 hnc hn hnN hg) ?_;rintro _ S1 w1 _ ⟨rfl,e1,hh⟩;subst S1;repeat refine rN ?_
 refine aP fun todo=>?_
 refine ret _ _ S w1 (.tuple #[]) ?_ ⟨rfl,rfl,hh⟩;simp[results,Tryz.results48]
theorem Xn(g n cap N:Nat)(h0:Nat->Hl)(hnc:n<=cap)(hn:n<=12)(hnN:n<=N)(hg:v.heap[g]?=some (.cells (hA N h0) 38)) :
  aK Tryz.prog 29 #[.slice (some ⟨g,0,none⟩) n cap,.func (.func 30) #[] #[]] S v (Ji n N g h0 S v):=by
 refine dL Tryz.func29 rfl Tryz.ntmps29 fun Stop cc cs ret f g0 g1=>?_
 have hw1:IntKind.u64.wrap (n:Int)=(n:Int):=by rw[IntKind.wrap_u64];omega
 repeat refine rN ?_
 refine rK Tryz.func49 (Yy n hn) ?_;rintro _ S1 w1 _ ⟨y,rfl,e1,e2⟩;subst S1 w1;repeat refine rN ?_
 refine rK Tryz.func48 (Zp (.int .i64 y) g n cap N h0 hnc hn hnN hg) ?_;rintro _ S1 w1 _ ⟨rfl,e1,hh⟩;subst S1;repeat refine rN ?_
 refine iT ?_;refine ret _ _ S w1 (.tuple #[]) ?_ ⟨rfl,rfl,hh⟩;simp[results,Tryz.results29]
theorem Tg(g:Nat->Bool)(n:Nat):aF g (n+1)=aF g n+if g n=true then 1 else 0:=by
 unfold aF;rw[List.range_succ,List.filter_append,List.length_append];cases hg:g n<;>simp[hg]
theorem zQ(g:Nat->Bool)(n:Nat):aF g n<=n:=by
 unfold aF;exact Nat.le_trans (List.length_filter_le _ _) (by simp)
theorem Bq(e:Ent):aK Tryz.prog 28 #[.agg (bQ e)] S v fun x S' v'=>x=.int .i64 (aF e.good 14:Nat)∧S'=S∧Ext v v':=by
 refine dU Tryz.func28 rfl Tryz.ntmps28 fun Stop cc cs ret f g0=>?_
 repeat refine rN ?_
 refine bO (Q:=fun y w=>y=.pointer (some ⟨v.heap.size,0,none⟩)∧Ext v w∧w.heap[v.heap.size]?=some (.cells (bQ e) 81)) aB rfl rfl (by kernel_rfl) (fun u hu=>⟨_,_,.inl (gM (x:=.tmp 0) (y:=.agg (bQ e)) rfl (by simp[g0]) u),by rw[hu.heap],(Ext.twin hu).trans _ _ _ (Ext.alloc _ _),by rw[<-hu.heap];exact cI _ _⟩) ?_
 rintro _ w1 ⟨rfl,hE1,hb1⟩;simp only[stO_some];repeat refine rN ?_
 refine cH aB rfl rfl (by kernel_rfl) (fun u hu=>tW (b:=v.heap.size) ((Ext.twin hu).row hb1) (x:=.tmp 6) rfl (by simp)) ?_;simp only[stO_some];repeat refine rN ?_
 refine bT (fun d f' S' w=>∃ k,d=14 - k∧k<=14∧S'=S∧w=w1∧f' 3=.int .i64 (aF e.good k:Nat)∧f' 7=.agg (kH e.good)∧f' 8=.int .i64 (k:Nat)) 14 ⟨0,by omega,by omega,rfl,rfl,by simp[aF],by simp,by simp⟩ ?_;clear g0 f;rintro d f S' w ⟨k,rfl,hk,eS,eW,g3,g7,g8⟩ nxt;subst S' w;repeat refine rN ?_
 by_cases hlt:k<14
 .have hkI:(k:Int)<14:=by omega
  refine rX (by simp[Act.eval,hkI]) ?_;repeat refine rN ?_
  refine cH aB rfl rfl (by kernel_rfl) (fun u hu=>Cw (g:=e.good) hlt (x:=.tmp 7) (y:=.tmp 8) rfl (by simp[g7]) (by simp[g8])) ?_;simp only[stO_some];have hcs:aF e.good (k+1)=aF e.good k+if e.good k=true then 1 else 0:=Tg _ _
  have hcl:aF e.good k<=k:=zQ _ _;obtain⟨gk,hgk⟩:∃ gk,e.good k=gk:=⟨_,rfl⟩;rw[hgk]at hcs ⊢;have HC:=aE hcs;clear hcs hgk;cases gk with
  |false=>
   repeat refine rN ?_
   refine rZ (by simp[Act.eval]) ?_;repeat refine rN ?_
   refine nxt _ _ _ (14 - (k+1)) (by omega) ⟨k+1,rfl,by omega,rfl,rfl,by simp[g3,HC.out],by simp[g7],by simp⟩
  |true=>
   repeat refine rN ?_
   refine rX (by simp[Act.eval]) ?_;repeat refine rN ?_
   refine nxt _ _ _ (14 - (k+1)) (by omega) ⟨k+1,rfl,by omega,rfl,rfl,by simp[HC.out],by simp[g7],by simp⟩
 .obtain rfl:k=14:=by omega
  refine rZ (by simp[Act.eval]) ?_;refine bD rfl ?_;repeat refine rN ?_
  refine aP fun todo=>?_
  refine ret _ _ S w1 (.int .i64 (aF e.good 14:Nat)) ?_ ⟨rfl,rfl,hE1⟩;simp[results,Tryz.results28]
end
