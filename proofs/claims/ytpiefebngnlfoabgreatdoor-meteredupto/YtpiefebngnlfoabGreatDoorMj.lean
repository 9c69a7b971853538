import Derived.Test.YtpiefebngnlfoabGreatDoorMh
set_option maxRecDepth 99999
set_option maxHeartbeats 0
set_option linter.unusedVariables false
set_option linter.unusedSimpArgs false
namespace Go.Vw
open Go.Conc
section
variable {P:Program}{Stop:Goroutine->(Nat->Prop)->World->Prop}{S:Nat->Prop}{v:World}{fn:FuncId}{cs:List Frame}{k:List Item}{n:Nat}{ops:Array Oper}
theorem Lo(hm:P.follows .mixedOrders=true)(ht:kH ops=true)(ha:pC ops=true){id:Nat}{f0:Nat->Value}(m:Nat)(A:List Nat)(hA:kJ ops m A=true)
  (spec:Nat->Value->World->Prop) (B0:(Nat->Prop)->World->Prop) (B1:(Nat->Prop)->(Nat->Value)->World->Prop) (hB0:∀ S w w',B0 S w->Ext w w'->B0 S w') (hB1:∀ S i f x w w',i<ops.size->i ∉ A->i≠m->B1 S f w->Ext w w'->B1 S (aE f (aF ops i) x) w') (hst:∀ j x w w',spec j x w->Ext w w'->spec j x w') (hnone:∀ j,j<ops.size->aF ops j=none->∀ x w,spec j x w->spec j undef w) (h0:B0 S v)
  (step:∀ i f S w rest,i<ops.size->i≠m->(i∈A->B0 S w)->(∀ s,(∀ j,j<ops.size->aF ops j=some s->j=i∨i∈cH ops j)->f s=f0 s)->(∀ a,a∈cH ops i->spec a (bD ops f a) w)->(∀ x w',Ext w w'->spec i x w'->Reach P Stop (G ((base fn).at ⟨TA n (aE f (aF ops i) x),[]⟩ (.inRegion ops rest :: k)) cs) S w')->Reach P Stop (G ((base fn).at ⟨TA n f,[]⟩ (.inRegion ops (i :: rest) :: k)) cs) S w)
  (piv:∀ f S w rest,B0 S w->(∀ s,(∀ j,j<ops.size->aF ops j=some s->j=m∨m∈cH ops j)->f s=f0 s)->(∀ a,a∈A->spec a (bD ops f a) w)->(∀ x S' w',B1 S' (aE f (aF ops m) x) w'->spec m x w'->(∀ j y,j≠m->spec j y w->spec j y w')->Reach P Stop (G ((base fn).at ⟨TA n (aE f (aF ops m) x),[]⟩ (.inRegion ops rest :: k)) cs) S' w')->Reach P Stop (G ((base fn).at ⟨TA n f,[]⟩ (.inRegion ops (m :: rest) :: k)) cs) S w)
  (fin:∀ f S w,B1 S f w->(∀ s,(∀ j,j<ops.size->aF ops j≠some s)->f s=f0 s)->(∀ j,j<ops.size->spec j (bD ops f j) w)->Reach P Stop (G ((base fn).at ⟨TA n f,[]⟩ (.inRegion ops [] :: k)) cs) S w) (hmlt:m<ops.size:=by decide) :
  Reach P Stop (G ((base fn).at ⟨TA n f0,[]⟩ (.code (.region id ops true) :: k)) cs) S v:=by
 refine tP hm ht (fun l f S w=>(∀ s,(∀ j,j<ops.size->l.getD j false=true->aF ops j≠some s)->f s=f0 s)∧(∀ j,j<ops.size->l.getD j false=true->spec j (bD ops f j) w)∧(∀ i,l.getD i false=true->∀ a∈cH ops i,l.getD a false=true)∧(l.getD m false=false->B0 S w)∧(l.getD m false=true->B1 S f w∧∀ a∈A,l.getD a false=true)) ⟨fun _ _=>rfl,fun j hj h=>?_,fun i h=>?_,fun _=>h0,fun h=>?_⟩ ?_ ?_
 .simp[Array.getD_eq_getD_getElem?,hj]at h
 .exfalso;by_cases hi:i<ops.size
  .simp[Array.getD_eq_getD_getElem?,hi]at h
  .simp[Array.getD_eq_getD_getElem?,hi]at h
 .simp[Array.getD_eq_getD_getElem?,hmlt]at h
 .rintro l f S w i rest hl ⟨hf,hd,hc,hb0,hb1⟩ hi nxt;obtain⟨h1,o,ho,_⟩:=mem_ready.1 hi;have hlt:i<ops.size:=(Array.getElem?_eq_some_iff.1 ho).1;have hdeps:=lN hi;have hun:l.getD i false=false:=by
   have:l.getD i true=false:=by simpa using h1
   simpa [Array.getD_eq_getD_getElem?,hl,hlt] using this
  have hdlt:∀ a,l.getD a false=true->a<ops.size:=fun a h2=>by
   refine Nat.lt_of_not_le fun h3=>?_
   rw[<-hl]at h3;simp[Array.getD_eq_getD_getElem?,Array.getElem?_eq_none h3]at h2
  have hset:∀ j,l.getD j false=true->(l.setIfInBounds i true).getD j false=true:=fun j hj=>by
   by_cases e:i=j
   .subst e;have hil:i<l.size:=by omega
    simp[Array.getD_eq_getD_getElem?,Array.getElem?_setIfInBounds,hil]
   .simpa [Array.getD_eq_getD_getElem?,Array.getElem?_setIfInBounds,e] using hj
  have hseti:(l.setIfInBounds i true).getD i false=true:=by
   have hil:i<l.size:=by omega
   simp[Array.getD_eq_getD_getElem?,Array.getElem?_setIfInBounds,hil]
  have hf':∀ x s,(∀ j,j<ops.size->(l.setIfInBounds i true).getD j false=true->aF ops j≠some s)->aE f (aF ops i) x s=f0 s:=fun x s hs'=>by
   rw[<-hf s fun j hj h2=>hs' j hj (hset j h2)]
   have:=hs' i hlt hseti;cases hdo:aF ops i with
   |none=>rfl
   |some t=>
    rw[hdo]at this;have:s≠t:=fun e=>this (by rw[e])
    simp[aE,st,this]
  have hfi:∀ s,(∀ j,j<ops.size->aF ops j=some s->j=i∨i∈cH ops j)->f s=f0 s:=fun s hs'=>hf s fun j hj h2 h3=>by
   rcases hs' j hj h3 with rfl|h4
   .rw[hun]at h2;cases h2
   .have:=hc j h2 i h4;rw[hun]at this;cases this
  have hval:∀ x w',spec i x w'->(∀ j,j<ops.size->j≠i->l.getD j false=true->spec j (bD ops f j) w')->∀ j,j<ops.size->(l.setIfInBounds i true).getD j false=true->spec j (bD ops (aE f (aF ops i) x) j) w':=fun x w' hs hothers j hj hj'=>by
   by_cases e:j=i
   .subst e;have:bD ops (aE f (aF ops j) x) j=if (aF ops j).isSome then x else undef:=by
     unfold bD;cases hdo:aF ops j<;>simp[aE,st]
    rw[this];cases hdo:aF ops j with
    |some t=>simpa using hs
    |none=>
     simp only[Option.isSome_none,Bool.false_eq_true,if_false];exact hnone j hj hdo x w' hs
   .have h2:=(gX hj').resolve_left e;have:bD ops (aE f (aF ops i) x) j=bD ops f j:=by
     unfold bD;cases hdj:aF ops j with
     |none=>rfl
     |some t=>
      cases hdi:aF ops i with
      |none=>rfl
      |some t'=>
       have hne:t≠t':=fun e'=>pW ha hj hlt e hdj (by rw[hdi,e'])
       simp[aE,st,hne]
    rw[this];exact hothers j hj e h2
  have hc':∀ i',(l.setIfInBounds i true).getD i' false=true->∀ a∈cH ops i',(l.setIfInBounds i true).getD a false=true:=fun i' h2 a h3=>by
   rcases gX h2 with rfl|h2
   .exact hset a (hdeps a h3)
   .exact hset a (hc i' h2 a h3)
  by_cases e:i=m
  .subst e;have hAd:∀ a∈A,l.getD a false=true:=fun a h2=>mO hA hc hdeps _ a (Nat.le_refl _) h2
   refine piv f S w rest (hb0 hun) hfi (fun a h2=>hd a (hdlt a (hAd a h2)) (hAd a h2)) fun x S' w' hB hs hothers=>nxt _ _ _ ⟨hf' x,hval x w' hs fun j hj hne h2=>hothers j _ hne (hd j hj h2),hc',fun h2=>?_,fun _=>⟨hB,fun a h2=>hset a (hAd a h2)⟩⟩
   rw[hseti]at h2;cases h2
  .have hAi:i∈A->B0 S w:=fun h2=>hb0 (by
    cases hb:l.getD m false with
    |false=>rfl
    |true=>
     have:=(hb1 hb).2 i h2;rw[hun]at this
     cases this)
   refine step i f S w rest hlt e hAi hfi (fun a h2=>hd a (hdlt a (hdeps a h2)) (hdeps a h2)) fun x w' hE hs=>nxt _ _ _ ⟨hf' x,hval x w' hs fun j hj hne h2=>hst _ _ _ _ (hd j hj h2) hE,hc',fun h2=>?_,fun h2=>?_⟩
   .refine hB0 _ _ _ (hb0 ?_) hE;cases hb:l.getD m false with
    |false=>rfl
    |true=>rw[hset m hb]at h2;cases h2
   .have h3:=(gX h2).resolve_left fun e'=>e e'.symm
    refine⟨hB1 S i f x _ _ hlt (fun h4=>?_) e (hb1 h3).1 hE,fun a h4=>hset a ((hb1 h3).2 a h4)⟩
    have:=(hb1 h3).2 i h4;rw[hun]at this;cases this
 .rintro l f S w ⟨hf,hd,hc,hb0,hb1⟩ hall;exact fin f S w (hb1 (hall m hmlt)).1 (fun s hs'=>hf s fun j hj _=>hs' j hj) fun j hj=>hd j hj (hall j hj)
def zbA(ops:Array Oper)(i s:Nat):Bool:=(List.range ops.size).all fun j=>decide (aF ops j≠some s)||decide (j=i)||(cH ops j).contains i
theorem zU{i s:Nat}(h:zbA ops i s=true):∀ j,j<ops.size->aF ops j=some s->j=i∨i∈cH ops j:=fun j hj hs=>by
 have:=List.all_eq_true.1 h j (List.mem_range.2 hj);simp only[Bool.or_eq_true,decide_eq_true_eq,List.contains_iff_mem]at this;rcases this with(h1|h1)|h1
 .exact absurd hs h1
 .exact .inl h1
 .exact .inr h1
end
end Go.Vw
namespace Go.Proofs.YtpiefebngnlfoabGreatDoor
open Go.RowKit Go.Conc Go.Vw
theorem gW{ops:Array Oper}{i s:Nat}(h:wA ops s=true):∀ j,j<ops.size->aF ops j=some s->j=i∨i∈cH ops j:=fun j hj hs=>absurd hs (aS h j hj)
theorem mS{ops:Array Oper}{a b:Nat}(h:(List.range b).all (fun s=>decide (s<a)||wA ops s)=true){s:Nat}(h1:a<=s)(h2:s<b):∀ j,j<ops.size->aF ops j≠some s:=by
 have:=List.all_eq_true.1 h s (List.mem_range.2 h2);simp only[Bool.or_eq_true,decide_eq_true_eq]at this;rcases this with h3|h3
 .omega
 .exact aS h3
def bZ(e:Ent):Hl:=⟨e.id,e.size,14 - aN e.good 14⟩
theorem Ig(n:Nat):(Array.range (n*3)).map (fun i=>(bM ⟨0,0,0⟩)[i % 3]!)=hA n fun _=>⟨0,0,0⟩:=by
 apply Array.ext_getElem?;intro i;by_cases h:i<n*3
 .rw[iG h];simp only[Array.getElem?_map,Array.getElem?_range,h,if_true,Option.map_some];congr 1;have h3:i % 3<3:=Nat.mod_lt _ (by omega);rcases(by omega:i % 3=0∨i % 3=1∨i % 3=2) with q|q|q<;>rw[q]<;>rfl
 .rw[Array.getElem?_eq_none (by simp;omega),Array.getElem?_eq_none (by rw[kC];omega)]
theorem Rj{o:Oper}{a:Act}{l c:Operand}{n:Nat}(hn:n<=64)(hop:o.op=.makeSlice 32 l c)(hl:a.eval l=.int .i64 0)(hc:a.eval c=.int .i64 (n:Nat))(u:World):(execOp a.eval o).run Tryz.prog u=.ok (.value (.slice (some ⟨u.heap.size,0,none⟩) 0 n)) (u.alloc (.cells (hA n fun _=>⟨0,0,0⟩) 38)):=by
 obtain⟨inf,hq,h1,h2⟩:=Jq;obtain⟨inf',hq',h1',h3⟩:=vR;obtain rfl:inf=inf':=by rw[hq]at hq';cases hq';rfl
 by_cases e:n=0
 .subst e;have e0:hA 0 (fun _=>(⟨0,0,0⟩:Hl))=#[]:=by
   apply Array.ext';simp[hA]
  rw[e0];exact Rk hop hl hc u
 have w0:IntKind.i64.wrap 0=0:=rfl;have wl:IntKind.i64.wrap (n:Int)=(n:Int):=by rw[IntKind.wrap_i64];omega
 have n1:¬((n:Int)<0):=by omega
 have n2:¬((281474976710656:Int)<24*(n:Int)):=by omega
 have n3:¬(n*24 > roomBytes):=by simp only[roomBytes];omega
 have hz:=Ig n;have hs:(bM ⟨0,0,0⟩).size=3:=rfl;unfold execOp;simp[hop,hl,hc,Instr.makeSlice,run_underlying Tryz.underlying32,asInt,asIntOf,typeInfo,hq,h1,h2,sizeOf,askRoom,newRow,w0,wl,n1,n2,n3,zeroValue,h3,Value.cells,e,hs];rw[if_neg (by omega),hz]
theorem Ny{u:World}{o:Oper}{a:Act}{x:Operand}{z:Hl}(hop:o.op=Op.buildSlice 32 1 #[(0,x)])(hx:a.eval x=.agg (bM z)):(execOp a.eval o).run Tryz.prog u=.ok (.value (.slice (some ⟨u.heap.size,0,none⟩) 1 1)) (u.alloc (.cells (bM z) 38)):=by
 obtain⟨inf,hq,h1,h3⟩:=vR;simp[execOp,hop,hx,Instr.buildSlice,run_underlying Tryz.underlying32,sizeOf,typeInfo,hq,h1,zeroValue,h3,Value.cells,Instr.fill,newRow];have hs:(bM z).size=3:=rfl;rw[if_neg (by rw[hs];omega)];have hk:Array.foldl (fun cs x=>cs.setIfInBounds x.snd x.fst) (Array.map (fun x=>(bM {id:=0,size:=0,bad:=0})[x % (bM {id:=0,size:=0,bad:=0}).size]!) (Array.range 3)) (bM z).zipIdx 0 (bM z).size=bM z:=by
  have h3:(bM {id:=0,size:=0,bad:=0}).size=3:=rfl;rw[h3,show Array.map (fun x=>(bM {id:=0,size:=0,bad:=0})[x % 3]!) (Array.range 3)=hA 1 fun _=>⟨0,0,0⟩ from Ig 1]
  apply Array.ext_getElem?;intro c;match c with
  |0=>simp[bM,hA,lZ]
  |1=>simp[bM,hA,lZ]
  |2=>simp[bM,hA,lZ]
  |c+3=>simp[bM,hA,lZ]
 rw[hk];rfl
theorem Ma{w u:World}{o:Oper}{a:Act}{s x:Operand}{g g' k n cp:Nat}{h:Nat->Hl}{z:Hl}(hu:Vw.Twin w u)(hg:w.heap[g]?=some (.cells (hA n h) 38))(hg':w.heap[g']?=some (.cells (bM z) 38))(hk:k<n)(hop:o.op=Op.call {callee:=Callee.builtin Builtin.append,args:=#[s,x],argTypes:=#[32,32]})(hs:a.eval s=.slice (some ⟨g,0,none⟩) k n)(hx:a.eval x=.slice (some ⟨g',0,none⟩) 1 cp) :
  ∃ y w',((execOp a.eval o).run Tryz.prog u=.ok (.value y) w'∨((execOp a.eval o).run Tryz.prog u=.ok .skip w'∧y=undef))∧(y=.slice (some ⟨g,0,none⟩) (k+1) n∧Wr w g (.cells (hA n (bL h k z)) 38) w'):=by
 obtain⟨inf,hq,h1,h3⟩:=vR;have hr:=(Ext.twin hu).row hg;have e3:(bM z).toList.length=3:=rfl
 have hrun:=run_append_room (P:=Tryz.prog) u 32 o.type 38 inf Tryz.underlying32 hq g k n (hA n h) hr ⟨g',0,none⟩ 1 cp (bM z).toList (by rw[h1];rfl) (fun j y hy=>by
  have e:(⟨g',0,none⟩:Addr).add j=⟨g',j,none⟩:=by rw[Addr.add_lit,Nat.zero_add]
  rw[e,cell_of_row _ _ _ _ _ _ ((Ext.twin hu).row hg')];rw[Array.getElem?_toList]at hy
  exact hy) (Gz z) (by omega) (by rw[h1,kC,e3];omega)
 rw[h1,e3,Fm hk]at hrun;have hW:=kA (c:=hA n (bL h k z)) hr;refine⟨_,_,.inl (by simp[execOp,hop,resolve,invoke,builtin,hs,hx,hrun]),rfl,hW.at_,fun b hb=>(hW.other b hb).trans (by rw[hu.heap]),by rw[hW.size,hu.heap],hW.os.trans hu.os,hW.output.trans hu.output⟩
def pF(e:Ent)(V g k n bx:Nat)(j:Nat)(x:Value)(w:World):Prop:=
 match j with
 |0=>x=.slice (some ⟨g,0,none⟩) k n
 |1=>x=.int .i64 (e.id:Nat)
 |2=>x=.pointer (some ⟨bx,0,none⟩)
 |3=>x=.pointer (some ⟨bx,1,none⟩)
 |4=>x=.int .i64 (e.size:Nat)
 |5=>x=.agg (bN e)
 |6=>x=.int .i64 (aN e.good 14:Nat)
 |7=>x=.int .i64 ((14 - aN e.good 14:Nat):Int)
 |8=>x=.agg (bM (bZ e))
 |9=>∃ g',x=.slice (some ⟨g',0,none⟩) 1 1∧V<=g'∧w.heap[g']?=some (.cells (bM (bZ e)) 38)
 |10=>x=.slice (some ⟨g,0,none⟩) (k+1) n
 |11=>x=.slice (some ⟨g,0,none⟩) (k+1) n
 |_=>True
theorem Qz(e:Ent)(V g k n bx:Nat):∀ j x w w',pF e V g k n bx j x w->Ext w w'->pF e V g k n bx j x w':=by
 intro j x w w' h hE;unfold pF at h ⊢;split at h<;>first|exact h|skip
 obtain⟨g',q,h1,h2⟩:=h;exact⟨g',q,h1,hE.row h2⟩
section
variable {X D DB DA M:Nat}{RB RA:Nat->Nat}{nd nb turn:Nat}{s:Dsk}{L:List Ent}{w w' v:World}{S:Nat->Prop}
theorem Vz{f:Nat->Value}{Stop:Goroutine->(Nat->Prop)->World->Prop}{cs:List Frame}{k0:List Item}(e:Ent)(g k n bx:Nat)(h:Nat->Hl)(hk:k<n)(hgw:g<w.heap.size)(hg:w.heap[g]?=some (.cells (hA n h) 38))(hbx:w.heap[bx]?=some (.cells (bN e) 81))
  (g3:f 3=.slice (some ⟨g,0,none⟩) k n) (g4:f 4=.int .i64 (e.id:Nat)) (g5:f 5=.pointer (some ⟨bx,0,none⟩))
  (next:∀ w1 w2 w3 f',Ext w w1->Wr w1 g (.cells (hA n (bL h k (bZ e))) 38) w2->Ext w2 w3->f' 3=.slice (some ⟨g,0,none⟩) (k+1) n->(∀ s,6<=s->s<22->f' s=f s)->Vw.Reach Tryz.prog Stop (G ((base 11).at ⟨TA 36 f',[]⟩ (.inRegion ((cI 5 (Tryz.f11.body.getD .skip)).getD #[]) [] :: k0)) cs) S w3) :
  Vw.Reach Tryz.prog Stop (G ((base 11).at ⟨TA 36 f,[]⟩ (.code (.region 5 ((cI 5 (Tryz.f11.body.getD .skip)).getD #[]) true) :: k0)) cs) S w:=by
 have e0:cI 5 (Tryz.f11.body.getD .skip)=some _:=rfl;rw[e0]at next ⊢
 simp only[Option.getD_some]at next ⊢
 clear e0;refine Lo (by kernel_rfl) (by kernel_rfl) (by kernel_rfl) 10 [0,1,2,3,4,5,6,7,8,9] (by kernel_rfl) (pF e w.heap.size g k n bx) (fun S' w'=>S'=S∧Ext w w') (fun S' f w'=>S'=S∧∃ w1 w2,Ext w w1∧Wr w1 g (.cells (hA n (bL h k (bZ e))) 38) w2∧Ext w2 w') (fun S' w w' h hE=>⟨h.1,h.2.trans _ _ _ hE⟩) (fun S' i f x w w' hi hA hm' h hE=>let ⟨q,w1,w2,q1,q2,q3⟩:=h;⟨q,w1,w2,q1,q2,q3.trans _ _ _ hE⟩) (Qz _ _ _ _ _ _) ?_ ⟨rfl,.refl _⟩ ?_ ?_ ?_
 .intro j hj he x w h;have hj':j<12:=hj;rcases(by omega:j=0∨j=1∨j=2∨j=3∨j=4∨j=5∨j=6∨j=7∨j=8∨j=9∨j=10∨j=11) with rfl|rfl|rfl|rfl|rfl|rfl|rfl|rfl|rfl|rfl|rfl|rfl<;>cases he
 .intro i f' S1 w5 rest hi hne hB hf hd nxt;have g4':f' 4=.int .i64 (e.id:Nat):=(hf 4 (gW (by kernel_rfl))).trans g4;have g5':f' 5=.pointer (some ⟨bx,0,none⟩):=(hf 5 (gW (by kernel_rfl))).trans g5;have hi':i<12:=hi;rcases(by omega:i=0∨i=1∨i=2∨i=3∨i=4∨i=5∨i=6∨i=7∨i=8∨i=9∨i=10∨i=11) with rfl|rfl|rfl|rfl|rfl|rfl|rfl|rfl|rfl|rfl|rfl|rfl
  .have g3':f' 3=.slice (some ⟨g,0,none⟩) k n:=(hf 3 (zU (by kernel_rfl))).trans g3;clear hd hf;refine rY aB ?_;exact nxt _ w5 (.refl w5) rfl
  .clear hd hf;refine rY aB ?_;exact nxt _ w5 (.refl w5) rfl
  .clear hd hf;refine rY aB ?_;exact nxt _ w5 (.refl w5) rfl
  .have d0:f' 24=.pointer (some ⟨bx,0,none⟩):=hd 2 (aD (by kernel_rfl));clear hd hf;refine rY aB ?_;exact nxt _ w5 (.refl w5) rfl
  .have d0:f' 25=.pointer (some ⟨bx,1,none⟩):=hd 3 (aD (by kernel_rfl));obtain⟨eS,hE⟩:=hB (by simp);subst S1;have c0:w5.cell? ⟨bx,1,none⟩=some (.int .i64 (e.size:Nat)):=(cell_of_row _ _ _ _ _ _ (hE.row hbx)).trans rfl;clear hd hB hf;(refine rO aB rfl ?_;intro _ hu_ K_ hK_;(have hc:=(Ext.twin hu_).cell c0);go_simp;(try rw[wI _]);(try rw[wU _]);refine hK_ _ ?_;clear hK_ K_ hu_;simp only[sS,sN]);exact nxt _ w5 (.refl w5) rfl
  .obtain⟨eS,hE⟩:=hB (by simp);subst S1;clear hd hf;refine iC aB rfl rfl (by kernel_rfl) (x:=.tmp 5) (b:=bx) (c:=bN e) rfl (by simp[g5']) (hE.row hbx) (by kernel_rfl) (by kernel_rfl) ?_;exact nxt _ w5 (.refl w5) rfl
  .have d0:f' 27=.agg (bN e):=hd 5 (aD (by kernel_rfl));obtain⟨eS,hE⟩:=hB (by simp);subst S1;clear hd hf hB;refine cY Tryz.func28 (Bx e) ?_;rintro _ S1 w6 _ ⟨rfl,e1,hE6⟩;subst S1;exact nxt _ w6 hE6 rfl
  .have d0:f' 28=.int .i64 (aN e.good 14:Nat):=hd 6 (aD (by kernel_rfl));have hcl:aN e.good 14<=14:=Ab _ _;have hsub:(14:Int) - (aN e.good 14:Nat)=((14 - aN e.good 14:Nat):Int):=by omega
   clear hd hf;refine rY aB ?_;exact nxt _ w5 (.refl w5) (by simp[pF])
  .have d0:f' 23=.int .i64 (e.id:Nat):=hd 1 (aD (by kernel_rfl));have d1:f' 26=.int .i64 (e.size:Nat):=hd 4 (aD (by kernel_rfl));have d2:f' 29=.int .i64 ((14 - aN e.good 14:Nat):Int):=hd 7 (aD (by kernel_rfl));clear hd hf;refine rY aB ?_;exact nxt _ w5 (.refl w5) rfl
  .have d0:f' 30=.agg (bM (bZ e)):=hd 8 (aD (by kernel_rfl));obtain⟨eS,hE⟩:=hB (by simp);subst S1;clear hd hf hB;refine bS (Q:=fun y w'=>y=.slice (some ⟨w5.heap.size,0,none⟩) 1 1∧Ext w5 w'∧w'.heap[w5.heap.size]?=some (.cells (bM (bZ e)) 38)) aB rfl rfl (by kernel_rfl) (fun u hu=>⟨_,_,.inl (Ny (x:=.tmp 30) (z:=bZ e) rfl (by simp[d0])),by rw[hu.heap],(Ext.twin hu).trans _ _ _ (Ext.alloc _ _),by rw[<-hu.heap];exact cN _ _⟩) ?_
   rintro _ w6 ⟨rfl,hE6,hb6⟩;exact nxt _ w6 hE6 ⟨_,rfl,hE.size,hb6⟩
  .exact absurd rfl hne
  .have d0:f' 32=.slice (some ⟨g,0,none⟩) (k+1) n:=hd 10 (aD (by kernel_rfl));clear hd hf;refine rY aB ?_;exact nxt _ w5 (.refl w5) rfl
 .rintro f' S1 w5 rest ⟨eS,hB⟩ hf hd nxt;subst S1;obtain⟨g',d0,hVg,hg'⟩:∃ g',f' 31=.slice (some ⟨g',0,none⟩) 1 1∧w.heap.size<=g'∧w5.heap[g']?=some (.cells (bM (bZ e)) 38):=hd 9 (by simp);have d1:f' 22=.slice (some ⟨g,0,none⟩) k n:=hd 0 (by simp);clear hd hf;refine bS (Q:=fun y w'=>y=.slice (some ⟨g,0,none⟩) (k+1) n∧Wr w5 g (.cells (hA n (bL h k (bZ e))) 38) w') aB rfl rfl (by kernel_rfl) (fun u hu=>Ma (s:=.tmp 22) (x:=.tmp 31) (cp:=1) hu (hB.row hg) hg' hk rfl (by simp[d1]) (by simp[d0])) ?_
  rintro _ w6 ⟨rfl,hW⟩;refine nxt _ S w6 ⟨rfl,w5,w6,hB,hW,.refl _⟩ rfl fun j x' hj h=>?_
  unfold pF at h ⊢;split at h<;>first|exact h|skip
  obtain⟨g2,q,h1,h2⟩:=h;exact⟨g2,q,h1,aO hW h2 (by omega)⟩
 .rintro f' S1 w5 ⟨eS,w1,w2,hE1,hW,hE2⟩ hf hd;subst S1;exact next w1 w2 w5 f' hE1 hW hE2 (hd 11 (by decide)) fun s h1 h2=>hf s (mS (by kernel_rfl) h1 h2)
structure Told(L T R:List Ent)(seen:Array Nat)(h:Nat->Hl):Prop where
 perm:(T++R).Perm L
 sn:∀ e∈T,seen.contains e.born=true
 uns:∀ e∈R,seen.contains e.born=false
 row:(List.range T.length).map h=T.map bZ
theorem Told.start(L:List Ent):Told L [] L #[] fun _=>⟨0,0,0⟩:=⟨.refl _,fun e he=>by(cases he),fun e _=>by simp,rfl⟩
theorem Told.step{L T R:List Ent}{seen:Array Nat}{h:Nat->Hl}(H:Told L T R seen h)(hb:(L.map (·.born)).Nodup){e:Ent}(he:e∈L)(hs:seen.contains e.born=false):∃ R',Told L (T++[e]) R' (seen.push e.born) (bL h T.length (bZ e))∧T.length<L.length:=by
 have hm:e∈T++R:=H.perm.mem_iff.2 he;have hR:e∈R:=by
  rcases List.mem_append.1 hm with h1|h1
  .have:=H.sn e h1;rw[hs]at this;cases this
  .exact h1
 obtain⟨s,t,rfl⟩:=List.append_of_mem hR;have hp:((T++[e])++(s++t)).Perm L:=by
  refine List.Perm.trans ?_ H.perm;rw[List.append_assoc];refine(List.Perm.refl T).append ?_;rw[List.singleton_append];exact List.perm_middle.symm
 refine⟨s++t,⟨hp,fun e' h1=>?_,fun e' h1=>?_,?_⟩,?_⟩
 .rcases List.mem_append.1 h1 with h2|h2
  .exact oQ.2 (.inl (H.sn e' h2))
  .rw[List.mem_singleton]at h2;exact oQ.2 (.inr (by rw[h2]))
 .have h2:=H.uns e' (by
   rcases List.mem_append.1 h1 with h3|h3
   .exact List.mem_append.2 (.inl h3)
   .exact List.mem_append.2 (.inr (List.mem_cons_of_mem _ h3)))
  have h4:e'.born≠e.born:=fun q=>by
   have hn:=((hp.map (·.born)).nodup_iff).2 hb;rw[List.map_append,List.map_append]at hn;have:=(List.nodup_append.1 hn).2.2 e.born (by simp) e'.born (List.mem_map.2 ⟨e',h1,rfl⟩);exact this q.symm
  cases q:(seen.push e.born).contains e'.born with
  |false=>rfl
  |true=>
   rcases oQ.1 q with h5|h5
   .rw[h2]at h5;cases h5
   .exact absurd h5 h4
 .rw[List.length_append,List.length_singleton,List.range_succ,List.map_append,List.map_append,<-H.row];congr 1
  .refine List.map_congr_left fun k hk=>?_
   have:=List.mem_range.1 hk;unfold bL;rw[if_neg (by omega)]
  .simp[bL]
 .have:=H.perm.length_eq;simp at this;omega
theorem Told.done{L T R:List Ent}{seen:Array Nat}{h:Nat->Hl}(H:Told L T R seen h)(hall:∀ e∈L,seen.contains e.born=true):T.Perm L:=by
 have:R=[]:=by
  cases R with
  |nil=>rfl
  |cons e R=>
   have h1:=H.uns e (List.mem_cons_self ..);have h2:=hall e (H.perm.mem_iff.1 (List.mem_append.2 (.inr (List.mem_cons_self ..))));rw[h1]at h2;cases h2
 subst this;have:=H.perm;rwa [List.append_nil]at this
structure Lst(L:List Ent)(n g:Nat)(h:Nat->Hl)(v v':World):Prop where
 kp:Kp v (fun _=>False) v'
 new:v.heap.size<=g
 row:v'.heap[g]?=some (.cells (hA n h) 38)
 len:n=L.length
 perm:((List.range n).map h).Perm (L.map bZ)
 sort:∀ a b,a<b->b<n->(h a).id<=(h b).id
theorem zaB{g:Nat}(hE:Ext v w)(hK:Kp w (fun b=>b=g) w')(hg:v.heap.size<=g):Kp v (fun _=>False) w':=
 have hK0:=dB hE
 ⟨Nat.le_trans hK0.size hK.size,hK.os.trans hK0.os,hK.output.trans hK0.output,fun b o hb hc ht=>hK.objs b o (fun h=>by
  have:=(Array.getElem?_eq_some_iff.1 hc).1
  omega) (hK0.objs b o hb hc ht) ht⟩
theorem Ib(hL:L.length<=12)(hX:StE X D DB DA M RB RA nd nb turn s L v) :
  aJ Tryz.prog 11 #[.pointer (some ⟨X,0,none⟩)] S v fun x S' v'=>S'=S∧∃ n g h,x=.slice (some ⟨g,0,none⟩) n n∧Lst L n g h v v':=by
 refine dQ Tryz.func11 rfl Tryz.ntmps11 fun Stop cc cs ret f g0=>?_
 have c1:=hX.c1;obtain⟨clock,hm,hbn⟩:=hX.map;repeat refine rM c1 ?_
 refine Dq rfl rfl (by kernel_rfl) rfl (x:=.tmp 9) (by simp) hm ?_;simp only[stO_some];have HL:=aG (rfl:L.length=L.length);generalize hnL:L.length=n at *
 refine bS (Q:=fun y w=>y=.slice (some ⟨v.heap.size,0,none⟩) 0 n∧Ext v w∧w.heap[v.heap.size]?=some (.cells (hA n fun _=>⟨0,0,0⟩) 38)) aB rfl rfl (by kernel_rfl) (fun u hu=>⟨_,_,.inl (Rj (n:=n) (by omega) (l:=.const (.int .i64 0)) (c:=.tmp 10) rfl rfl (by simp) u),by rw[hu.heap],(Ext.twin hu).trans _ _ _ (Ext.alloc _ _),by rw[<-hu.heap];exact cN _ _⟩) ?_
 rintro _ w1 ⟨rfl,hE1,hr1⟩;simp only[stO_some];have hX1:=hX.ext hE1;have c2:=hX1.c1;have hMlt:M<v.heap.size:=(Array.getElem?_eq_some_iff.1 hm).1;have hm1:w1.heap[M]?=some (bK L clock):=by rw[hE1.block M hMlt];exact hm
 generalize hgd:v.heap.size=g at *
 repeat refine rM c2 ?_
 refine tN rfl rfl rfl (m:=M) (by simp) Tryz.underlying73 hm1 fun w2 hE2 hi2=>?_
 simp only[stO_some];repeat refine rN ?_
 have hgr:g<w1.heap.size:=(Array.getElem?_eq_some_iff.1 hr1).1;generalize hrd:w1.heap.size=r at *
 refine bP (fun d f' S' w=>∃ seen T R h,d=kY L seen∧S'=S∧Ext v w∧Told L T R seen h∧f' 16=.pointer (some ⟨r,0,none⟩)∧f' 3=.slice (some ⟨g,0,none⟩) T.length n∧w.heap[r]?=some (.mapIter (some M) clock seen clock)∧w.heap[g]?=some (.cells (hA n h) 38)) (kY L #[]) ⟨#[],[],L,_,rfl,rfl,hE1.trans _ _ _ hE2,.start L,by simp,by simp,hi2,hE2.row hr1⟩ ?_;clear g0 f hi2;rintro d f S' w ⟨seen,T,R,h,rfl,eS,hEw,hT,g16,g3,hit,hrt⟩ nxt;subst S';have hmw:w.heap[M]?=some (bK L clock):=by rw[hEw.block M (by omega)];exact hm
 have hMr:M≠r:=by omega
 repeat refine rN ?_
 refine tW rfl rfl rfl (r:=r) (by simp[g16]) hit hmw hbn (Nat.le_refl _) (fun hall=>?_) fun e he hns w3 hW3=>?_
 .simp only[stO_some];have hp:=hT.done hall;have hlen:T.length=n:=hp.length_eq.trans hnL;have hrow:=hT.row;rw[hlen]at g3 hrow;repeat refine rN ?_
  refine rZ (by simp[Act.eval]) ?_;refine bH rfl ?_;repeat refine rN ?_
  refine rK Tryz.func29 (Xt g n n n h (Nat.le_refl _) (by omega) (Nat.le_refl _) hrt) ?_;rintro _ S1 w4 _ ⟨rfl,e1,h',hI,hso⟩;subst S1;repeat refine rN ?_
  refine aP fun todo=>?_
  refine ret _ _ S w4 (.slice (some ⟨g,0,none⟩) n n) ?_ ⟨rfl,n,g,h',rfl,zaB hEw hI.kp (by omega),by omega,hI.row,hnL.symm,?_,hso⟩
  .simp[results,Tryz.results11]
  .refine List.Perm.trans hI.perm ?_;rw[hrow];exact hp.map _
 .simp only[stO_some];obtain⟨R',hT',hlt⟩:=hT.step hX.borns he hns;rw[hnL]at hlt;have hEv3:Ext v w3:=bJ hEw (by omega) hW3;have hrt3:=aO hW3 hrt (by omega);have hm3:=aO hW3 hmw hMr;repeat refine rN ?_
  refine rX (by simp[Act.eval]) ?_;repeat refine rN ?_
  refine Cm rfl rfl rfl (r:=r) (e:=e) (by simp[g16]) hW3.at_ hm3 hX.borns he ?_;simp only[stO_some];repeat refine rN ?_
  refine cM aB rfl rfl (by kernel_rfl) (.agg (aK 0 0 0 0 fun _=>false)) rfl (by kernel_rfl) fun w4 hE4 hb4' hs4=>?_
  simp only[stO_some];repeat refine rN ?_
  refine cZ aB rfl rfl (by kernel_rfl) (x:=.tmp 5) (y:=.tmp 21) (g:=w3.heap.size) (c:=bN e) rfl (by simp) (by simp) hb4' (by kernel_rfl) rfl (mN e) fun w5 hW5=>?_
  simp only[stO_none];have hsz3:r<w3.heap.size:=by have:=(Array.getElem?_eq_some_iff.1 hW3.at_).1;omega
  have hEv5:Ext v w5:=bJ (hEv3.trans _ _ _ hE4) (by have:=hEv3.size;omega) hW5;have hrt5:=aO hW5 (hE4.row hrt3) (by omega);have hit5:=aO hW5 (hE4.row hW3.at_) (by omega);repeat refine rN ?_
  refine Vz e g T.length n w3.heap.size h hlt (Array.getElem?_eq_some_iff.1 hrt5).1 hrt5 hW5.at_ (by simp[g3]) (by simp) (by simp) fun w6 w7 w8 f8 hE6 hW7 hE8 k3 hf8=>?_
  have k16:f8 16=.pointer (some ⟨r,0,none⟩):=(hf8 16 (by omega) (by omega)).trans (by simp[g16]);repeat refine rN ?_
  refine nxt _ _ _ (kY L (seen.push e.born)) (Eq he hns) ⟨seen.push e.born,T++[e],R',_,rfl,rfl,(bJ (hEv5.trans _ _ _ hE6) (by omega) hW7).trans _ _ _ hE8,hT',by simp[k16],by simp[k3],hE8.row (aO hW7 (hE6.row hit5) (by omega)),hE8.row hW7.at_⟩
end
end Go.Proofs.YtpiefebngnlfoabGreatDoor
namespace Go.Vw
open Go.Conc
section
variable {P:Program}{Stop:Goroutine->(Nat->Prop)->World->Prop}{S:Nat->Prop}{v:World}{fn:FuncId}{cs:List Frame}{k:List Item}{n:Nat}{ops:Array Oper}
theorem xC(hm:P.follows .mixedOrders=true)(ht:kH ops=true)(ha:pC ops=true){id:Nat}{f0:Nat->Value}(m:Nat)(A:List Nat)(hA:kJ ops m A=true)
  (spec:Nat->Value->World->Prop) (B0:(Nat->Prop)->World->Prop) (B1:(Nat->Prop)->(Nat->Value)->World->Prop) (hB0:∀ S w w',B0 S w->Ext w w'->B0 S w') (hB1:∀ S i f x w w',i<ops.size->i ∉ A->i≠m->B1 S f w->Ext w w'->B1 S (aE f (aF ops i) x) w') (hst:∀ j x w w',spec j x w->Ext w w'->spec j x w') (hnone:∀ j,j<ops.size->aF ops j=none->∀ x w,spec j x w->spec j undef w) (h0:B0 S v)
  (step:∀ i f S w rest,i<ops.size->i≠m->(i∈A->B0 S w)->(∀ s,(∀ j,j<ops.size->aF ops j=some s->j=i∨i∈cH ops j)->f s=f0 s)->(∀ a,a∈cH ops i->spec a (bD ops f a) w)->(∀ x w',Ext w w'->spec i x w'->Reach P Stop (G ((base fn).at ⟨TA n (aE f (aF ops i) x),[]⟩ (.inRegion ops rest :: k)) cs) S w')->Reach P Stop (G ((base fn).at ⟨TA n f,[]⟩ (.inRegion ops (i :: rest) :: k)) cs) S w)
  (piv:∀ f S w rest,B0 S w->(∀ s,(∀ j,j<ops.size->aF ops j=some s->j=m∨m∈cH ops j)->f s=f0 s)->(∀ a,a∈A->spec a (bD ops f a) w)->(∀ x S' w',B1 S' (aE f (aF ops m) x) w'->spec m x w'->(∀ j y,j≠m->m ∉ cH ops j->spec j y w->spec j y w')->Reach P Stop (G ((base fn).at ⟨TA n (aE f (aF ops m) x),[]⟩ (.inRegion ops rest :: k)) cs) S' w')->Reach P Stop (G ((base fn).at ⟨TA n f,[]⟩ (.inRegion ops (m :: rest) :: k)) cs) S w)
  (fin:∀ f S w,B1 S f w->(∀ s,(∀ j,j<ops.size->aF ops j≠some s)->f s=f0 s)->(∀ j,j<ops.size->spec j (bD ops f j) w)->Reach P Stop (G ((base fn).at ⟨TA n f,[]⟩ (.inRegion ops [] :: k)) cs) S w) (hmlt:m<ops.size:=by decide) :
  Reach P Stop (G ((base fn).at ⟨TA n f0,[]⟩ (.code (.region id ops true) :: k)) cs) S v:=by
 refine tP hm ht (fun l f S w=>(∀ s,(∀ j,j<ops.size->l.getD j false=true->aF ops j≠some s)->f s=f0 s)∧(∀ j,j<ops.size->l.getD j false=true->spec j (bD ops f j) w)∧(∀ i,l.getD i false=true->∀ a∈cH ops i,l.getD a false=true)∧(l.getD m false=false->B0 S w)∧(l.getD m false=true->B1 S f w∧∀ a∈A,l.getD a false=true)) ⟨fun _ _=>rfl,fun j hj h=>?_,fun i h=>?_,fun _=>h0,fun h=>?_⟩ ?_ ?_
 .simp[Array.getD_eq_getD_getElem?,hj]at h
 .exfalso;by_cases hi:i<ops.size
  .simp[Array.getD_eq_getD_getElem?,hi]at h
  .simp[Array.getD_eq_getD_getElem?,hi]at h
 .simp[Array.getD_eq_getD_getElem?,hmlt]at h
 .rintro l f S w i rest hl ⟨hf,hd,hc,hb0,hb1⟩ hi nxt;obtain⟨h1,o,ho,_⟩:=mem_ready.1 hi;have hlt:i<ops.size:=(Array.getElem?_eq_some_iff.1 ho).1;have hdeps:=lN hi;have hun:l.getD i false=false:=by
   have:l.getD i true=false:=by simpa using h1
   simpa [Array.getD_eq_getD_getElem?,hl,hlt] using this
  have hdlt:∀ a,l.getD a false=true->a<ops.size:=fun a h2=>by
   refine Nat.lt_of_not_le fun h3=>?_
   rw[<-hl]at h3;simp[Array.getD_eq_getD_getElem?,Array.getElem?_eq_none h3]at h2
  have hset:∀ j,l.getD j false=true->(l.setIfInBounds i true).getD j false=true:=fun j hj=>by
   by_cases e:i=j
   .subst e;have hil:i<l.size:=by omega
    simp[Array.getD_eq_getD_getElem?,Array.getElem?_setIfInBounds,hil]
   .simpa [Array.getD_eq_getD_getElem?,Array.getElem?_setIfInBounds,e] using hj
  have hseti:(l.setIfInBounds i true).getD i false=true:=by
   have hil:i<l.size:=by omega
   simp[Array.getD_eq_getD_getElem?,Array.getElem?_setIfInBounds,hil]
  have hf':∀ x s,(∀ j,j<ops.size->(l.setIfInBounds i true).getD j false=true->aF ops j≠some s)->aE f (aF ops i) x s=f0 s:=fun x s hs'=>by
   rw[<-hf s fun j hj h2=>hs' j hj (hset j h2)]
   have:=hs' i hlt hseti;cases hdo:aF ops i with
   |none=>rfl
   |some t=>
    rw[hdo]at this;have:s≠t:=fun e=>this (by rw[e])
    simp[aE,st,this]
  have hfi:∀ s,(∀ j,j<ops.size->aF ops j=some s->j=i∨i∈cH ops j)->f s=f0 s:=fun s hs'=>hf s fun j hj h2 h3=>by
   rcases hs' j hj h3 with rfl|h4
   .rw[hun]at h2;cases h2
   .have:=hc j h2 i h4;rw[hun]at this;cases this
  have hval:∀ x w',spec i x w'->(∀ j,j<ops.size->j≠i->l.getD j false=true->spec j (bD ops f j) w')->∀ j,j<ops.size->(l.setIfInBounds i true).getD j false=true->spec j (bD ops (aE f (aF ops i) x) j) w':=fun x w' hs hothers j hj hj'=>by
   by_cases e:j=i
   .subst e;have:bD ops (aE f (aF ops j) x) j=if (aF ops j).isSome then x else undef:=by
     unfold bD;cases hdo:aF ops j<;>simp[aE,st]
    rw[this];cases hdo:aF ops j with
    |some t=>simpa using hs
    |none=>
     simp only[Option.isSome_none,Bool.false_eq_true,if_false];exact hnone j hj hdo x w' hs
   .have h2:=(gX hj').resolve_left e;have:bD ops (aE f (aF ops i) x) j=bD ops f j:=by
     unfold bD;cases hdj:aF ops j with
     |none=>rfl
     |some t=>
      cases hdi:aF ops i with
      |none=>rfl
      |some t'=>
       have hne:t≠t':=fun e'=>pW ha hj hlt e hdj (by rw[hdi,e'])
       simp[aE,st,hne]
    rw[this];exact hothers j hj e h2
  have hc':∀ i',(l.setIfInBounds i true).getD i' false=true->∀ a∈cH ops i',(l.setIfInBounds i true).getD a false=true:=fun i' h2 a h3=>by
   rcases gX h2 with rfl|h2
   .exact hset a (hdeps a h3)
   .exact hset a (hc i' h2 a h3)
  by_cases e:i=m
  .subst e;have hAd:∀ a∈A,l.getD a false=true:=fun a h2=>mO hA hc hdeps _ a (Nat.le_refl _) h2
   refine piv f S w rest (hb0 hun) hfi (fun a h2=>hd a (hdlt a (hAd a h2)) (hAd a h2)) fun x S' w' hB hs hothers=>nxt _ _ _ ⟨hf' x,hval x w' hs fun j hj hne h2=>hothers j _ hne (fun h3=>by have:=hc j h2 _ h3;rw[hun]at this;cases this) (hd j hj h2),hc',fun h2=>?_,fun _=>⟨hB,fun a h2=>hset a (hAd a h2)⟩⟩
   rw[hseti]at h2;cases h2
  .have hAi:i∈A->B0 S w:=fun h2=>hb0 (by
    cases hb:l.getD m false with
    |false=>rfl
    |true=>
     have:=(hb1 hb).2 i h2;rw[hun]at this
     cases this)
   refine step i f S w rest hlt e hAi hfi (fun a h2=>hd a (hdlt a (hdeps a h2)) (hdeps a h2)) fun x w' hE hs=>nxt _ _ _ ⟨hf' x,hval x w' hs fun j hj hne h2=>hst _ _ _ _ (hd j hj h2) hE,hc',fun h2=>?_,fun h2=>?_⟩
   .refine hB0 _ _ _ (hb0 ?_) hE;cases hb:l.getD m false with
    |false=>rfl
    |true=>rw[hset m hb]at h2;cases h2
   .have h3:=(gX h2).resolve_left fun e'=>e e'.symm
    refine⟨hB1 S i f x _ _ hlt (fun h4=>?_) e (hb1 h3).1 hE,fun a h4=>hset a ((hb1 h3).2 a h4)⟩
    have:=(hb1 h3).2 i h4;rw[hun]at this;cases this
 .rintro l f S w ⟨hf,hd,hc,hb0,hb1⟩ hall;exact fin f S w (hb1 (hall m hmlt)).1 (fun s hs'=>hf s fun j hj _=>hs' j hj) fun j hj=>hd j hj (hall j hj)
end
