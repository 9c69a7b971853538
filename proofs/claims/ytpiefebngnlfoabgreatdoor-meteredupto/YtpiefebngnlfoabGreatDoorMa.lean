import Derived.Test.YtpiefebngnlfoabGreatDoorLr
import Derived.Test.YtpiefebngnlfoabGreatDoorLj
import Derived.Laws.Bits64b
import Derived.Laws.StructEq
set_option maxRecDepth 99999
set_option maxHeartbeats 0
set_option linter.unusedVariables false
set_option linter.unusedSimpArgs false
namespace Go.Vw
open Go.Conc
section
variable {P:Program}{Stop:Goroutine->(Nat->Prop)->World->Prop}{S:Nat->Prop}{v:World}{fn:FuncId}{cs:List Frame}{k:List Item}{n:Nat}{ops:Array Oper}
theorem Pt(ht:kH ops=true)(I:Array Bool->(Nat->Value)->(Nat->Prop)->World->Prop)
  (step:∀ l f S v i rest,l.size=ops.size->I l f S v->i∈Region.ready .any ops l->(∀ f' S' v',I (l.setIfInBounds i true) f' S' v'->Reach P Stop (G ((base fn).at ⟨TA n f',[]⟩ (.inRegion ops rest :: k)) cs) S' v')->Reach P Stop (G ((base fn).at ⟨TA n f,[]⟩ (.inRegion ops (i :: rest) :: k)) cs) S v)
  (fin:∀ l f S v,I l f S v->(∀ i,i<ops.size->l.getD i false=true)->Reach P Stop (G ((base fn).at ⟨TA n f,[]⟩ (.inRegion ops [] :: k)) cs) S v) :
  ∀ (fuel t:Nat) (l:Array Bool) (f:Nat->Value) (S:Nat->Prop) (v:World),l.size=ops.size->I l f S v->iT l (List.range ops.size)<=fuel->Reach P Stop (G ((base fn).at ⟨TA n f,[]⟩ (.inRegion ops (Region.linearise.go .any ops fuel t l []) :: k)) cs) S v:=by
 intro fuel;induction fuel with
 |zero=>
  intro t l f S v hs hI hle;have h0:=xF (l:=l) (js:=List.range ops.size) (by omega);simp only[Region.linearise.go,List.reverse_nil];refine fin l f S v hI fun i hi=>?_
  have:=h0 i (by simpa using hi);simpa [Array.getD_eq_getD_getElem?,hs,hi] using this
 |succ fuel ih=>
  intro t l f S v hs hI hle;simp only[Region.linearise.go]
  change Reach P Stop (G ((base fn).at ⟨TA n f,[]⟩ (.inRegion ops (match (Region.ready .any ops l)[t % (Region.ready .any ops l).length]? with
   |some i=>Region.linearise.go .any ops fuel (t / (Region.ready .any ops l).length) (l.setIfInBounds i true) [i]
   |none=>[].reverse) :: k)) cs) S v
  cases hi:(Region.ready .any ops l)[t % (Region.ready .any ops l).length]? with
  |none=>
   have hnil:Region.ready .any ops l=[]:=by
    cases hr:Region.ready .any ops l with
    |nil=>rfl
    |cons x xs=>
     rw[hr]at hi;have hlt:t % (x :: xs).length<(x :: xs).length:=Nat.mod_lt _ (by simp);rw[List.getElem?_eq_none_iff]at hi;omega
   exact fin l f S v hI (Hj ht hs hnil)
  |some i=>
   simp only[];rw[linearise_go_acc,List.reverse_singleton,List.singleton_append];have hm:=List.mem_of_getElem? hi;refine step l f S v i _ hs hI hm fun f' S' v' hI'=>?_
   obtain⟨h1,o,ho,_⟩:=mem_ready.1 hm;have hlt:i<ops.size:=(Array.getElem?_eq_some_iff.1 ho).1;refine ih _ _ f' S' v' (by simpa using hs) hI' ?_;have:=(xN (l:=l) (i:=i) (by simpa using h1) (List.range ops.size)).2 (by simpa using hlt);omega
theorem tP(hm:P.follows .mixedOrders=true)(ht:kH ops=true){id:Nat}{f:Nat->Value}(I:Array Bool->(Nat->Value)->(Nat->Prop)->World->Prop)(h0:I (Array.replicate ops.size false) f S v)
  (step:∀ l f S v i rest,l.size=ops.size->I l f S v->i∈Region.ready .any ops l->(∀ f' S' v',I (l.setIfInBounds i true) f' S' v'->Reach P Stop (G ((base fn).at ⟨TA n f',[]⟩ (.inRegion ops rest :: k)) cs) S' v')->Reach P Stop (G ((base fn).at ⟨TA n f,[]⟩ (.inRegion ops (i :: rest) :: k)) cs) S v)
  (fin:∀ l f S v,I l f S v->(∀ i,i<ops.size->l.getD i false=true)->Reach P Stop (G ((base fn).at ⟨TA n f,[]⟩ (.inRegion ops [] :: k)) cs) S v) :
  Reach P Stop (G ((base fn).at ⟨TA n f,[]⟩ (.code (.region id ops true) :: k)) cs) S v:=by
 refine gV rfl fun W hR=>?_
 refine⟨_,{W with drawn:=W.drawn+1},#[],v,stepG_region_draw,by simp,Nat.le_refl _,fun _ _=>rfl,⟨fun j q hj=>by omega,hR.os,hR.output,hR.size,hR.seen,hR.hid,hR.tame,hR.high⟩,?_⟩
 simp only[Region.schedule,hm,Bool.true_or,if_true,Region.linearise];refine Pt ht I step fin _ _ _ _ _ _ (by simp) h0 ?_;have:=yG (Array.replicate ops.size false) (List.range ops.size);simpa using this
def kJ(ops:Array Oper)(m:Nat)(A:List Nat):Bool:=A.all fun j=>decide (j<ops.size)&&decide (j≠m)&&(List.range ops.size).any fun i=>(decide (i=m)||A.contains i)&&decide (j<i)&&(cH ops i).contains j
theorem Hi{m:Nat}{A:List Nat}(h:kJ ops m A=true){j:Nat}(hj:j∈A):j<ops.size∧j≠m∧∃ i,i<ops.size∧(i=m∨i∈A)∧j<i∧j∈cH ops i:=by
 have:=List.all_eq_true.1 h j hj;simp only[Bool.and_eq_true,decide_eq_true_eq,List.any_eq_true,Bool.or_eq_true,List.contains_iff_mem,List.mem_range]at this;obtain⟨⟨h1,h2⟩,i,h3,⟨h4,h5⟩,h6⟩:=this;exact⟨h1,h2,i,h3,h4,h5,by simpa using h6⟩
theorem mO{m:Nat}{A:List Nat}{l:Array Bool}(h:kJ ops m A=true)(hc:∀ i,l.getD i false=true->∀ a∈cH ops i,l.getD a false=true)(hm:∀ a∈cH ops m,l.getD a false=true) :
  ∀ d j,ops.size - j<=d->j∈A->l.getD j false=true:=by
 intro d;induction d with
 |zero=>
  intro j hd hj;have:=(Hi h hj).1;omega
 |succ d ih=>
  intro j hd hj;obtain⟨h1,h2,i,h3,h4,h5,h6⟩:=Hi h hj;rcases h4 with rfl|h4
  .exact hm j h6
  .exact hc i (ih i (by omega) h4) j h6
theorem jO(hm:P.follows .mixedOrders=true)(ht:kH ops=true)(ha:pC ops=true){id:Nat}{f0:Nat->Value}(m:Nat)(A:List Nat)(hA:kJ ops m A=true)
  (spec:Nat->Value->World->Prop) (B0:(Nat->Prop)->World->Prop) (B1:(Nat->Prop)->(Nat->Value)->World->Prop) (hB0:∀ S w w',B0 S w->Ext w w'->B0 S w') (hB1:∀ S i f x w w',i<ops.size->i ∉ A->i≠m->B1 S f w->Ext w w'->B1 S (aE f (aF ops i) x) w') (hst:∀ j x w w',spec j x w->Ext w w'->spec j x w') (hnone:∀ j,j<ops.size->aF ops j=none->∀ x w,spec j x w->spec j undef w) (h0:B0 S v)
  (step:∀ i f S w rest,i<ops.size->i≠m->(i∈A->B0 S w)->(∀ s,(∀ j,j<ops.size->aF ops j≠some s)->f s=f0 s)->(∀ a,a∈cH ops i->spec a (bD ops f a) w)->(∀ x w',Ext w w'->spec i x w'->Reach P Stop (G ((base fn).at ⟨TA n (aE f (aF ops i) x),[]⟩ (.inRegion ops rest :: k)) cs) S w')->Reach P Stop (G ((base fn).at ⟨TA n f,[]⟩ (.inRegion ops (i :: rest) :: k)) cs) S w)
  (piv:∀ f S w rest,B0 S w->(∀ s,(∀ j,j<ops.size->aF ops j≠some s)->f s=f0 s)->(∀ a,a∈A->spec a (bD ops f a) w)->(∀ x S' w',B1 S' (aE f (aF ops m) x) w'->spec m x w'->(∀ j y,j≠m->spec j y w->spec j y w')->Reach P Stop (G ((base fn).at ⟨TA n (aE f (aF ops m) x),[]⟩ (.inRegion ops rest :: k)) cs) S' w')->Reach P Stop (G ((base fn).at ⟨TA n f,[]⟩ (.inRegion ops (m :: rest) :: k)) cs) S w)
  (fin:∀ f S w,B1 S f w->(∀ s,(∀ j,j<ops.size->aF ops j≠some s)->f s=f0 s)->(∀ j,j<ops.size->spec j (bD ops f j) w)->Reach P Stop (G ((base fn).at ⟨TA n f,[]⟩ (.inRegion ops [] :: k)) cs) S w) (hmlt:m<ops.size:=by decide) :
  Reach P Stop (G ((base fn).at ⟨TA n f0,[]⟩ (.code (.region id ops true) :: k)) cs) S v:=by
 refine tP hm ht (fun l f S w=>(∀ s,(∀ j,j<ops.size->aF ops j≠some s)->f s=f0 s)∧(∀ j,j<ops.size->l.getD j false=true->spec j (bD ops f j) w)∧(∀ i,l.getD i false=true->∀ a∈cH ops i,l.getD a false=true)∧(l.getD m false=false->B0 S w)∧(l.getD m false=true->B1 S f w∧∀ a∈A,l.getD a false=true)) ⟨fun _ _=>rfl,fun j hj h=>?_,fun i h=>?_,fun _=>h0,fun h=>?_⟩ ?_ ?_
 .simp[Array.getD_eq_getD_getElem?,hj]at h
 .exfalso;by_cases hi:i<ops.size
  .simp[Array.getD_eq_getD_getElem?,hi]at h
  .simp[Array.getD_eq_getD_getElem?,hi]at h
 .simp[Array.getD_eq_getD_getElem?,hmlt]at h
 .rintro l f S w i rest hl ⟨hf,hd,hc,hb0,hb1⟩ hi nxt;obtain⟨h1,o,ho,_⟩:=mem_ready.1 hi;have hlt:i<ops.size:=(Array.getElem?_eq_some_iff.1 ho).1;have hdeps:=lN hi;have hun:l.getD i false=false:=by
   have:l.getD i true=false:=by simpa using h1
   simpa [Array.getD_eq_getD_getElem?,hl,hlt] using this
  have hdlt:∀ a,l.getD a false=true->a<ops.size:=fun a h2=>by
   refine Nat.lt_of_not_le fun h3=>?_
   rw[<-hl]at h3;simp[Array.getD_eq_getD_getElem?,Array.getElem?_eq_none h3]at h2
  have hset:∀ j,l.getD j false=true->(l.setIfInBounds i true).getD j false=true:=fun j hj=>by
   by_cases e:i=j
   .subst e;have hil:i<l.size:=by omega
    simp[Array.getD_eq_getD_getElem?,Array.getElem?_setIfInBounds,hil]
   .simpa [Array.getD_eq_getD_getElem?,Array.getElem?_setIfInBounds,e] using hj
  have hseti:(l.setIfInBounds i true).getD i false=true:=by
   have hil:i<l.size:=by omega
   simp[Array.getD_eq_getD_getElem?,Array.getElem?_setIfInBounds,hil]
  have hf':∀ x s,(∀ j,j<ops.size->aF ops j≠some s)->aE f (aF ops i) x s=f0 s:=fun x s hs'=>by
   rw[<-hf s hs'];have:=hs' i hlt;cases hdo:aF ops i with
   |none=>rfl
   |some t=>
    rw[hdo]at this;have:s≠t:=fun e=>this (by rw[e])
    simp[aE,st,this]
  have hval:∀ x w',spec i x w'->(∀ j,j<ops.size->j≠i->l.getD j false=true->spec j (bD ops f j) w')->∀ j,j<ops.size->(l.setIfInBounds i true).getD j false=true->spec j (bD ops (aE f (aF ops i) x) j) w':=fun x w' hs hothers j hj hj'=>by
   by_cases e:j=i
   .subst e;have:bD ops (aE f (aF ops j) x) j=if (aF ops j).isSome then x else undef:=by
     unfold bD;cases hdo:aF ops j<;>simp[aE,st]
    rw[this];cases hdo:aF ops j with
    |some t=>simpa using hs
    |none=>
     simp only[Option.isSome_none,Bool.false_eq_true,if_false];exact hnone j hj hdo x w' hs
   .have h2:=(gX hj').resolve_left e;have:bD ops (aE f (aF ops i) x) j=bD ops f j:=by
     unfold bD;cases hdj:aF ops j with
     |none=>rfl
     |some t=>
      cases hdi:aF ops i with
      |none=>rfl
      |some t'=>
       have hne:t≠t':=fun e'=>pW ha hj hlt e hdj (by rw[hdi,e'])
       simp[aE,st,hne]
    rw[this];exact hothers j hj e h2
  have hc':∀ i',(l.setIfInBounds i true).getD i' false=true->∀ a∈cH ops i',(l.setIfInBounds i true).getD a false=true:=fun i' h2 a h3=>by
   rcases gX h2 with rfl|h2
   .exact hset a (hdeps a h3)
   .exact hset a (hc i' h2 a h3)
  by_cases e:i=m
  .subst e;have hAd:∀ a∈A,l.getD a false=true:=fun a h2=>mO hA hc hdeps _ a (Nat.le_refl _) h2
   refine piv f S w rest (hb0 hun) hf (fun a h2=>hd a (hdlt a (hAd a h2)) (hAd a h2)) fun x S' w' hB hs hothers=>nxt _ _ _ ⟨hf' x,hval x w' hs fun j hj hne h2=>hothers j _ hne (hd j hj h2),hc',fun h2=>?_,fun _=>⟨hB,fun a h2=>hset a (hAd a h2)⟩⟩
   rw[hseti]at h2;cases h2
  .have hAi:i∈A->B0 S w:=fun h2=>hb0 (by
    cases hb:l.getD m false with
    |false=>rfl
    |true=>
     have:=(hb1 hb).2 i h2;rw[hun]at this
     cases this)
   refine step i f S w rest hlt e hAi hf (fun a h2=>hd a (hdlt a (hdeps a h2)) (hdeps a h2)) fun x w' hE hs=>nxt _ _ _ ⟨hf' x,hval x w' hs fun j hj hne h2=>hst _ _ _ _ (hd j hj h2) hE,hc',fun h2=>?_,fun h2=>?_⟩
   .refine hB0 _ _ _ (hb0 ?_) hE;cases hb:l.getD m false with
    |false=>rfl
    |true=>rw[hset m hb]at h2;cases h2
   .have h3:=(gX h2).resolve_left fun e'=>e e'.symm
    refine⟨hB1 S i f x _ _ hlt (fun h4=>?_) e (hb1 h3).1 hE,fun a h4=>hset a ((hb1 h3).2 a h4)⟩
    have:=(hb1 h3).2 i h4;rw[hun]at this;cases this
 .rintro l f S w ⟨hf,hd,hc,hb0,hb1⟩ hall;exact fin f S w (hb1 (hall m hmlt)).1 hf fun j hj=>hd j hj (hall j hj)
theorem Kg{a:Act}{b:Frame}{i:Nat}{rest:List Nat}{o:Oper}{c:Frame}(hk:b.kind=.deferred)(ho:ops[i]?=some o)(hw:Region.wanted o (yielded ops a.tmps)=true)(hr:∀ w,(execOp a.eval o).runT P w #[]=(.ok .recover w,#[]))(hm:c.mode=.returning)
  (hn:Reach P Stop (G (b.at (a.put o.dst .nilIface) (.inRegion ops rest :: k)) (c :: cs)) S v):Reach P Stop (G (b.at a (.inRegion ops (i :: rest) :: k)) (c :: cs)) S v:=by
 refine cP rfl (fun w=>?_) hn;have hfin:(b.at a (.inRegion ops (i :: rest) :: k)).finish .nilIface=b.at (a.put o.dst .nilIface) (.inRegion ops rest :: k):=by rw[Frame.finish_at,ho];rfl
 obtain⟨e1,e2⟩:=mJ (hr w);rw[stepG_oper ho hw,<-hfin];simp[stepG.apply,e1,e2,G,Frame.at,hk,GStep.after,tryRecover,hm,seen_none]
theorem Nd{a:Act}{b:Frame}{c:Frame}{gf:Func}(hk:b.kind=.deferred)(hd:a.defers=[])(hf:P.funcs[b.fn]?=some gf){y:Value}(hr:∀ w,(results gf a.tmps).runT P w #[]=(.ok y w,#[]))(hm:c.mode=.returning)
  {todo:List Item} (hn:Reach P Stop (G c cs) S v):Reach P Stop (G {b.at a todo with mode:=.returning} (c :: cs)) S v:=by
 refine cP rfl (fun w=>?_) hn;obtain⟨e1,e2⟩:=mJ (hr w);simp[G,stepG,unwind,doReturn,Frame.at,hk,hd,hf,e1,e2,hm,seen_none,GStep.after]
end
section
variable {P:Program}{F:FuncId->Bool}{Stop:Goroutine->(Nat->Prop)->World->Prop}{S:Nat->Prop}{v:World}{fn:FuncId}{cs:List Frame}{k:List Item}{n:Nat}{ops:Array Oper}
def kX(ops:Array Oper)(l:Array Bool):Prop:=∀ i,l.getD i false=true->∀ a∈cH ops i,l.getD a false=true
theorem tR{l:Array Bool}{i:Nat}(h:kX ops l)(hi:i∈Region.ready .any ops l):kX ops (l.setIfInBounds i true):=by
 have keep:∀ j,l.getD j false=true->(l.setIfInBounds i true).getD j false=true:=fun j hj=>by
  by_cases e:i=j
  .subst e;have hil:i<l.size:=by
    refine Nat.lt_of_not_le fun h3=>?_
    simp[Array.getD_eq_getD_getElem?,Array.getElem?_eq_none h3]at hj
   simp[Array.getD_eq_getD_getElem?,Array.getElem?_setIfInBounds,hil]
  .simpa [Array.getD_eq_getD_getElem?,Array.getElem?_setIfInBounds,e] using hj
 intro j hj a ha;rcases gX hj with rfl|hj
 .exact keep a (lN hi a ha)
 .exact keep a (h j hj a ha)
def Ju(ops:Array Oper)(j:Nat):Prop:=∀ l,kX ops l->j∈Region.ready .any ops l->Region.ready .any ops (l.setIfInBounds j true)=[]
theorem Wc{j:Nat}(h:kJ ops j ((List.range ops.size).filter fun i=>i != j)=true):Ju ops j:=by
 intro l hc hj;cases hr:Region.ready .any ops (l.setIfInBounds j true) with
 |nil=>rfl
 |cons i rest=>
  exfalso;have hi:i∈Region.ready .any ops (l.setIfInBounds j true):=by rw[hr];simp
  obtain⟨hun,oi,hoi,_⟩:=mem_ready.1 hi;have hlt:i<ops.size:=(Array.getElem?_eq_some_iff.1 hoi).1;by_cases e:i=j
  .subst e;rcases Nat.lt_or_ge i l.size with h'|h'
   .simp[h']at hun
   .simp[Array.getElem?_eq_none h']at hun
  .have h1:=mO h hc (lN hj) _ i (Nat.le_refl _) (by simp[hlt,e]);rw[getD_set_ne true (Ne.symm e)]at hun;rcases Nat.lt_or_ge i l.size with h'|h'
   .simp[h']at h1 hun;rw[h1]at hun;cases hun
   .simp[Array.getElem?_eq_none h']at h1
def jK(P:Program)(F:FuncId->Bool)(Stop:Goroutine->(Nat->Prop)->World->Prop)(S:Nat->Prop)(v:World)(fn:FuncId)(cs:List Frame)(k:List Item)(ops:Array Oper):Nat->Array Bool->Act->Prop
 |0,l,a=>Region.ready .any ops l=[]∧eL P Stop S v fn cs k ops [] a
 |fuel+1,l,a=>(Region.ready .any ops l=[]->eL P Stop S v fn cs k ops [] a)∧
  ∀ i∈Region.ready .any ops l,(∃ o x,ops[i]?=some o∧eZ P F S v ops o x a∧jK P F Stop S v fn cs k ops fuel (l.setIfInBounds i true) (a.put o.dst x))∨(Ju ops i∧eL P Stop S v fn cs k ops [i] a)
theorem Qj(hG:Good P F):∀ (fuel t:Nat) (l:Array Bool) (f:Nat->Value),kX ops l->jK P F Stop S v fn cs k ops fuel l ⟨TA n f,[]⟩->eL P Stop S v fn cs k ops (Region.linearise.go .any ops fuel t l []) ⟨TA n f,[]⟩:=by
 intro fuel;induction fuel with
 |zero=>intro t l f _ h;simpa [Region.linearise.go] using h.2
 |succ fuel ih=>
  intro t l f hcl h;obtain⟨h₀,h₁⟩:=h;simp only[Region.linearise.go]
  change eL P Stop S v fn cs k ops (match (Region.ready .any ops l)[t % (Region.ready .any ops l).length]? with
   |some i=>Region.linearise.go .any ops fuel (t / (Region.ready .any ops l).length) (l.setIfInBounds i true) [i]
   |none=>[].reverse) ⟨TA n f,[]⟩
  cases hi:(Region.ready .any ops l)[t % (Region.ready .any ops l).length]? with
  |none=>
   have hnil:Region.ready .any ops l=[]:=by
    cases hr:Region.ready .any ops l with
    |nil=>rfl
    |cons x xs=>
     rw[hr]at hi;have hlt:t % (x :: xs).length<(x :: xs).length:=Nat.mod_lt _ (by simp);rw[List.getElem?_eq_none_iff]at hi;omega
   exact h₀ hnil
  |some i=>
   simp only[];rw[linearise_go_acc,List.reverse_singleton,List.singleton_append];rcases h₁ i (List.mem_of_getElem? hi) with⟨o,x,ho,hy,hn⟩|⟨hlast,hr⟩
   .refine xU hG ho hy ?_;rw[bU]at hn ⊢;exact ih _ _ _ (tR hcl (List.mem_of_getElem? hi)) hn
   .have hnil:=hlast l hcl (List.mem_of_getElem? hi);have:Region.linearise.go .any ops fuel (t / (Region.ready .any ops l).length) (l.setIfInBounds i true) []=[]:=by
     cases fuel with
     |zero=>simp[Region.linearise.go]
     |succ fuel=>
      simp only[Region.linearise.go];change (match (Region.ready .any ops (l.setIfInBounds i true))[_ % (Region.ready .any ops (l.setIfInBounds i true)).length]? with|some i'=>Region.linearise.go .any ops fuel (_ / (Region.ready .any ops (l.setIfInBounds i true)).length) ((l.setIfInBounds i true).setIfInBounds i' true) [i']|none=>[].reverse)=[];rw[hnil];rfl
    rw[this];exact hr
theorem En{i:Nat}{oi:Oper}{x:Value}(hi:ops[i]?=some oi)(hsel:∀ (j:Nat) (o:Oper) cs b,ops[j]?=some o->o.op≠.select cs b) :
  ∀ (fuel:Nat) (l:Array Bool) (a:Act),
   (∀ j oj,ops[j]?=some oj->j≠i->l.getD j true=false->(∀ e∈oj.after,Region.binds .any e=true->e.on≠i)->oi.apart ops oj=true)->
   kX ops l->i∈Region.ready .any ops l->eZ P F S v ops oi x a->
   jK P F Stop S v fn cs k ops fuel (l.setIfInBounds i true) (a.put oi.dst x)->jK P F Stop S v fn cs k ops (fuel+1) l a:=by
 have keep:∀ {o:Oper} {j:Nat} {d:Option Tmp} {u y:Value} {a:Act},ops[j]?=some o->(∀ e,d=some e->e ∉ o.looksAt ops)->eZ P F S v ops o y a->eZ P F S v ops o y (a.put d u):=by
  intro o j d u y a ho hd hy;have hso:=fun cs b=>hsel j o cs b ho
  rcases hy with⟨hw,⟨hok,hr⟩|⟨g,gf,c,args,ats,e1,e2,e3,e4,hc⟩⟩|⟨hw,rfl⟩
  .exact .inl ⟨by rw[wanted_put o a d u hd];exact hw,.inl ⟨hok,fun w hu=>by rw[execOp_put o hso a d u hd];exact hr w hu⟩⟩
  .exact .inl ⟨by rw[wanted_put o a d u hd];exact hw,.inr ⟨g,gf,c,args,ats,e1,e2,e3,e4,by rw[lQ u e1 hd];exact hc⟩⟩
  .exact .inr ⟨by rw[wanted_put o a d u hd];exact hw,rfl⟩
 have back:∀ {o:Oper} {j:Nat} {d:Option Tmp} {u y:Value} {a:Act},ops[j]?=some o->(∀ e,d=some e->e ∉ o.looksAt ops)->eZ P F S v ops o y (a.put d u)->eZ P F S v ops o y a:=by
  intro o j d u y a ho hd hy;have hso:=fun cs b=>hsel j o cs b ho
  rcases hy with⟨hw,⟨hok,hr⟩|⟨g,gf,c,args,ats,e1,e2,e3,e4,hc⟩⟩|⟨hw,rfl⟩
  .exact .inl ⟨by rw[wanted_put o a d u hd]at hw;exact hw,.inl ⟨hok,fun w hu=>by have:=hr w hu;rw[execOp_put o hso a d u hd]at this;exact this⟩⟩
  .exact .inl ⟨by rw[wanted_put o a d u hd]at hw;exact hw,.inr ⟨g,gf,c,args,ats,e1,e2,e3,e4,by rw[lQ u e1 hd]at hc;exact hc⟩⟩
  .exact .inr ⟨by rw[wanted_put o a d u hd]at hw;exact hw,rfl⟩
 intro fuel;induction fuel with
 |zero=>
  intro l a _ hcl hr hy H;refine⟨fun h=>(by rw[h]at hr;cases hr),fun j hj=>?_⟩
  by_cases hji:j=i
  .subst hji;exact .inl ⟨oi,x,hi,hy,H⟩
  .have:=ready_mono hj hji;rw[H.1]at this;cases this
 |succ fuel ih=>
  intro l a hfree hcl hr hy H;refine⟨fun h=>(by rw[h]at hr;cases hr),fun j hj=>?_⟩
  by_cases hji:j=i
  .subst hji;exact .inl ⟨oi,x,hi,hy,H⟩
  .have h1:=H.2 j (ready_mono hj hji);obtain⟨hjun,oj,hoj,hall⟩:=mem_ready.1 hj;have hnot:∀ e∈oj.after,Region.binds .any e=true->e.on≠i:=fun e he hb heq=>by
    have h1:=hall e he hb;have h0:=(mem_ready.1 hr).1;rw[heq]at h1;rcases Nat.lt_or_ge i l.size with h'|h'
    .simp[h']at h0 h1;rw[h0]at h1;cases h1
    .simp[Array.getElem?_eq_none h']at h1
   have hap:=hfree j oj hoj hji hjun hnot;obtain⟨q1,q2,q3⟩:=Oper.apart_spec hap;have hfree':∀ c oc,ops[c]?=some oc->c≠i->(l.setIfInBounds j true).getD c true=false->
     (∀ e∈oc.after,Region.binds .any e=true->e.on≠i)->oi.apart ops oc=true:=fun c oc hc hci hun hno=>by
    refine hfree c oc hc hci ?_ hno;by_cases hjc:j=c
    .subst hjc;exact hjun
    .rw[getD_set_ne true hjc]at hun;exact hun
   rcases h1 with⟨o',y,ho',hy',hn⟩|⟨hlast,_⟩
   .obtain rfl:o'=oj:=by rw[hoj]at ho';exact(Option.some.inj ho').symm
    refine .inl ⟨o',y,hoj,back hoj q1 hy',?_⟩;refine ih (l.setIfInBounds j true) (a.put o'.dst y) hfree' (tR hcl hj) (ready_mono hr (Ne.symm hji)) (keep hi q3 hy) ?_;rw[Array.setIfInBounds_comm _ _ hji,<-Act.put_comm a x y q2];exact hn
   .have hnil:=hlast l hcl hj;have:=ready_mono hr (Ne.symm hji);rw[hnil]at this;cases this
def kW(ops:Array Oper)(l:Array Bool):Bool:=(List.range l.size).all fun i=>!(l.getD i false)||(cH ops i).all fun a=>l.getD a false
theorem pV{l:Array Bool}(h:kW ops l=true):kX ops l:=by
 intro i hi a ha;have hil:i<l.size:=by
  refine Nat.lt_of_not_le fun h3=>?_
  simp[Array.getD_eq_getD_getElem?,Array.getElem?_eq_none h3]at hi
 have:=List.all_eq_true.1 h i (by simpa using hil);rw[hi]at this;simp only[Bool.not_true,Bool.false_or]at this;exact List.all_eq_true.1 this a ha
theorem cT{i:Nat}{dst:Option Tmp}{op:Op}{ty:TypeId}{pos:String}{aft:Array Edge}{grd:Option (Nat×Bool)}{x:Value}{fuel:Nat}{l:Array Bool}{f:Nat->Value}(hi:ops[i]?=some ⟨dst,op,ty,pos,aft,grd⟩)
  (hy:∀ u,Twin v u->(execOp (Act.eval ⟨TA n f,[]⟩) ⟨dst,op,ty,pos,aft,grd⟩).run P u=.ok (.value x) u) (h:jK P F Stop S v fn cs k ops fuel (l.setIfInBounds i true) ⟨TA n (aE f dst x),[]⟩)
  (hs:Region.noSelect ops=true:=by first|kernel_rfl|decide +kernel) (hf:Region.free .any ops l i=true:=by first|kernel_rfl|decide +kernel) (hr:(Region.ready .any ops l).contains i=true:=by first|kernel_rfl|decide +kernel) (hc:kW ops l=true:=by first|kernel_rfl|decide +kernel)
  (hw:Region.wanted ⟨dst,op,ty,pos,aft,grd⟩ (yielded ops (TA n f))=true:=by first|rfl|(simp[Region.wanted,yielded,aZ, *];first|done|fail)) (hok:bV P F ⟨dst,op,ty,pos,aft,grd⟩=true:=by kernel_rfl):jK P F Stop S v fn cs k ops (fuel+1) l ⟨TA n f,[]⟩:=
 En hi (Region.noSelect_spec hs) fuel l _ (Region.free_spec hi hf) (pV hc) (by simpa using hr) (.inl ⟨hw,.inl ⟨hok,hy⟩⟩) (by rw[show(⟨dst,op,ty,pos,aft,grd⟩:Oper).dst=dst from rfl,bU];exact h)
theorem cU(i:Nat){d:Nat}{op:Op}{ty:TypeId}{pos:String}{aft:Array Edge}{grd:Option (Nat×Bool)}{x:Value}{fuel:Nat}{l:Array Bool}{f:Nat->Value}(h:jK P F Stop S v fn cs k ops fuel (l.setIfInBounds i true) ⟨TA n (st f d x),[]⟩)(hi:ops[i]?=some ⟨some d,op,ty,pos,aft,grd⟩:=by rfl)
  (hy:∀ u,Twin v u->∀ K:Result Go.Next->Prop,K (.ok (.value x) u)->K ((execOp (Act.eval ⟨TA n f,[]⟩) ⟨some d,op,ty,pos,aft,grd⟩).run P u):=by intro _ hu_ K_ hK_;go_simp;(try rw[wI _]);(try rw[wU _]);exact hK_) (hs:Region.noSelect ops=true:=by first|kernel_rfl|decide +kernel) (hf:Region.free .any ops l i=true:=by first|kernel_rfl|decide +kernel) (hr:(Region.ready .any ops l).contains i=true:=by first|kernel_rfl|decide +kernel) (hc:kW ops l=true:=by first|kernel_rfl|decide +kernel)
  (hw:Region.wanted ⟨some d,op,ty,pos,aft,grd⟩ (yielded ops (TA n f))=true:=by first|rfl|(simp[Region.wanted,yielded,aZ, *];first|done|fail)) (hok:bV P F ⟨some d,op,ty,pos,aft,grd⟩=true:=by kernel_rfl):jK P F Stop S v fn cs k ops (fuel+1) l ⟨TA n f,[]⟩:=cT hi (fun u hu=>run_eq_of (hy u hu)) h hs hf hr hc hw hok
theorem Ue{i:Nat}{dst:Option Tmp}{ty:TypeId}{pos:String}{aft:Array Edge}{grd:Option (Nat×Bool)}{x:Value}{fuel:Nat}{l:Array Bool}{f:Nat->Value}{g:FuncId}{gf:Func}{c:Code}{args:Array Operand}{ats:Array TypeId}{vs:Array Value}(hi:ops[i]?=some ⟨dst,.call {callee:=.value (.func g),args,argTypes:=ats},ty,pos,aft,grd⟩)
  (hfn:P.funcs[g]?=some gf) (hb:gf.body=some c) (hvs:args.map (Act.eval ⟨TA n f,[]⟩)=vs) (hcall:aJ P g vs S v fun y S' v'=>y=x∧S'=S∧v'=v) (h:jK P F Stop S v fn cs k ops fuel (l.setIfInBounds i true) ⟨TA n (aE f dst x),[]⟩)
  (hname:(gf.name == "runtime.NumGoroutine")=false:=by kernel_rfl) (hs:Region.noSelect ops=true:=by first|kernel_rfl|decide +kernel) (hf:Region.free .any ops l i=true:=by first|kernel_rfl|decide +kernel) (hr:(Region.ready .any ops l).contains i=true:=by first|kernel_rfl|decide +kernel) (hc:kW ops l=true:=by first|kernel_rfl|decide +kernel)
  (hw:Region.wanted ⟨dst,.call {callee:=.value (.func g),args,argTypes:=ats},ty,pos,aft,grd⟩ (yielded ops (TA n f))=true:=by first|rfl|(simp[Region.wanted,yielded,aZ, *];first|done|fail)):jK P F Stop S v fn cs k ops (fuel+1) l ⟨TA n f,[]⟩:=
 En hi (Region.noSelect_spec hs) fuel l _ (Region.free_spec hi hf) (pV hc) (by simpa using hr) (.inl ⟨hw,.inr ⟨g,gf,c,args,ats,rfl,hfn,hname,hb,by rw[hvs];exact hcall⟩⟩) (by rw[show(⟨dst,.call {callee:=.value (.func g),args,argTypes:=ats},ty,pos,aft,grd⟩:Oper).dst=dst from rfl,bU];exact h)
theorem cL{l:Array Bool}{f:Nat->Value}(j:Nat){fuel:Nat}(h:Reach P Stop (G ((base fn).at ⟨TA n f,[]⟩ (.inRegion ops [j] :: k)) cs) S v)(hr:Region.ready .any ops l=[j]:=by first|kernel_rfl|decide +kernel)(hl:kJ ops j ((List.range ops.size).filter fun i=>i != j)=true:=by first|kernel_rfl|decide +kernel):jK P F Stop S v fn cs k ops (fuel+1) l ⟨TA n f,[]⟩:=
 ⟨fun h0=>(by rw[hr]at h0;cases h0),fun i hi=>(by
  rw[hr]at hi;obtain rfl:i=j:=by simpa using hi
  exact .inr ⟨Wc hl,h⟩)⟩
theorem iY(hG:Good P F)(hm:P.follows .mixedOrders=true){id:Nat}{f:Nat->Value}(h:jK P F Stop S v fn cs k ops ops.size (Array.replicate ops.size false) ⟨TA n f,[]⟩) :
  Reach P Stop (G ((base fn).at ⟨TA n f,[]⟩ (.code (.region id ops true) :: k)) cs) S v:=by
 refine gV rfl fun W hR=>?_
 refine⟨_,{W with drawn:=W.drawn+1},#[],v,stepG_region_draw,by simp,Nat.le_refl _,fun _ _=>rfl,⟨fun j q hj=>by omega,hR.os,hR.output,hR.size,hR.seen,hR.hid,hR.tame,hR.high⟩,?_⟩
 simp only[Region.schedule,hm,Bool.true_or,if_true,Region.linearise];refine Qj hG _ _ _ _ (fun i hi=>?_) h;exfalso;by_cases h':i<ops.size
 .simp[Array.getD_eq_getD_getElem?,h']at hi
 .simp[Array.getD_eq_getD_getElem?,h']at hi
end
section
variable {P:Program}{F:FuncId->Bool}{Stop:Goroutine->(Nat->Prop)->World->Prop}{S:Nat->Prop}{v:World}{fn:FuncId}{cs:List Frame}{k:List Item}{n:Nat}{ops:Array Oper}
def sI(ops:Array Oper)(l:Array Bool):List Nat->Bool
 |[]=>(Region.ready .any ops l).isEmpty
 |i :: js=>Region.ready .any ops l == [i]&&sI ops (l.setIfInBounds i true) js
theorem Hy:∀ (js:List Nat) (l:Array Bool) (fuel t:Nat),sI ops l js=true->js.length<=fuel->Region.linearise.go .any ops fuel t l []=js
 |[],l,0,t,_,_=>by simp[Region.linearise.go]
 |[],l,fuel+1,t,h,_=>by
  have hnil:Region.ready .any ops l=[]:=List.isEmpty_iff.1 h;simp only[Region.linearise.go];change (match (Region.ready .any ops l)[_ % (Region.ready .any ops l).length]? with|some i'=>Region.linearise.go .any ops fuel (_ / (Region.ready .any ops l).length) (l.setIfInBounds i' true) [i']|none=>[].reverse)=[];rw[hnil];rfl
 |i :: js,l,0,t,_,h=>by simp at h
 |i :: js,l,fuel+1,t,h,hf=>by
  unfold sI at h;rw[Bool.and_eq_true,beq_iff_eq]at h;simp only[Region.linearise.go];change (match (Region.ready .any ops l)[_ % (Region.ready .any ops l).length]? with|some i'=>Region.linearise.go .any ops fuel (_ / (Region.ready .any ops l).length) (l.setIfInBounds i' true) [i']|none=>[].reverse)=i :: js;rw[h.1];simp only[List.length_singleton,Nat.mod_one,List.getElem?_cons_zero];rw[linearise_go_acc,List.reverse_singleton,List.singleton_append,Hy js _ _ _ h.2 (by simp at hf;omega)]
def Jk(ops:Array Oper)(i:Nat)(js:List Nat):Prop:=∀ l,kX ops l->l.size=ops.size->i∈Region.ready .any ops l->Region.ready .any ops l=[i]∧sI ops (l.setIfInBounds i true) js=true
def pG(ops:Array Oper)(js:List Nat):Array Bool:=(Array.range ops.size).map fun i=>!js.contains i
def Ap(ops:Array Oper)(i:Nat)(js:List Nat):Bool:=kJ ops i ((List.range ops.size).filter fun a=>!(i :: js).contains a)&&js.all (fun j=>kJ ops j (i :: js.takeWhile (· != j)))&&Region.ready .any ops (pG ops (i :: js)) == [i]&&sI ops ((pG ops (i :: js)).setIfInBounds i true) js
theorem Wx{i:Nat}{js:List Nat}(h:Ap ops i js=true):Jk ops i js:=by
 intro l hc hsz hi;unfold Ap at h;simp only[Bool.and_eq_true,beq_iff_eq]at h;obtain⟨⟨⟨h1,h2⟩,h3⟩,h4⟩:=h;have hun:l.getD i false=false:=by
  have:=(mem_ready.1 hi).1;rcases Nat.lt_or_ge i l.size with h'|h'
  .simpa [h'] using this
  .simp[Array.getElem?_eq_none h']at this
 have hl:l=pG ops (i :: js):=by
  apply Array.ext (by simp[pG,hsz]);intro a ha ha';have hg:l[a]=l.getD a false:=by simp[ha]
  have hlt:a<ops.size:=by omega
  rw[show(pG ops (i :: js))[a]=!(i :: js).contains a by simp[pG],hg];cases hm:(i :: js).contains a with
  |false=>
   refine mO h1 hc (lN hi) _ a (Nat.le_refl _) ?_;rw[List.mem_filter];exact⟨List.mem_range.2 hlt,by rw[hm];rfl⟩
  |true=>
   show l.getD a false=false;rcases List.mem_cons.1 (List.contains_iff_mem.1 hm) with rfl|hj
   .exact hun
   .cases hd:l.getD a false with
    |false=>rfl
    |true=>
     have:=mO (List.all_eq_true.1 h2 a hj) hc (hc a hd) _ i (Nat.le_refl _) (List.mem_cons_self ..);rw[hun]at this;exact this.symm▸rfl
 rw[hl];exact⟨h3,h4⟩
def fY(P:Program)(F:FuncId->Bool)(Stop:Goroutine->(Nat->Prop)->World->Prop)(S:Nat->Prop)(v:World)(fn:FuncId)(cs:List Frame)(k:List Item)(ops:Array Oper):Nat->Array Bool->Act->Prop
 |0,l,a=>Region.ready .any ops l=[]∧eL P Stop S v fn cs k ops [] a
 |fuel+1,l,a=>(Region.ready .any ops l=[]->eL P Stop S v fn cs k ops [] a)∧
  ∀ i∈Region.ready .any ops l,(∃ o x,ops[i]?=some o∧eZ P F S v ops o x a∧fY P F Stop S v fn cs k ops fuel (l.setIfInBounds i true) (a.put o.dst x))∨(∃ js,Jk ops i js∧js.length<=fuel∧eL P Stop S v fn cs k ops (i :: js) a)
theorem Qi(hG:Good P F):∀ (fuel t:Nat) (l:Array Bool) (f:Nat->Value),kX ops l->l.size=ops.size->fY P F Stop S v fn cs k ops fuel l ⟨TA n f,[]⟩->eL P Stop S v fn cs k ops (Region.linearise.go .any ops fuel t l []) ⟨TA n f,[]⟩:=by
 intro fuel;induction fuel with
 |zero=>intro t l f _ _ h;simpa [Region.linearise.go] using h.2
 |succ fuel ih=>
  intro t l f hcl hsz h;obtain⟨h₀,h₁⟩:=h;simp only[Region.linearise.go]
  change eL P Stop S v fn cs k ops (match (Region.ready .any ops l)[t % (Region.ready .any ops l).length]? with
   |some i=>Region.linearise.go .any ops fuel (t / (Region.ready .any ops l).length) (l.setIfInBounds i true) [i]
   |none=>[].reverse) ⟨TA n f,[]⟩
  cases hi:(Region.ready .any ops l)[t % (Region.ready .any ops l).length]? with
  |none=>
   have hnil:Region.ready .any ops l=[]:=by
    cases hr:Region.ready .any ops l with
    |nil=>rfl
    |cons x xs=>
     rw[hr]at hi;have hlt:t % (x :: xs).length<(x :: xs).length:=Nat.mod_lt _ (by simp);rw[List.getElem?_eq_none_iff]at hi;omega
   exact h₀ hnil
  |some i=>
   simp only[];rw[linearise_go_acc,List.reverse_singleton,List.singleton_append];rcases h₁ i (List.mem_of_getElem? hi) with⟨o,x,ho,hy,hn⟩|⟨js,hch,hle,hr⟩
   .refine xU hG ho hy ?_;rw[bU]at hn ⊢;exact ih _ _ _ (tR hcl (List.mem_of_getElem? hi)) (by simpa using hsz) hn
   .rw[Hy js _ _ _ (hch l hcl hsz (List.mem_of_getElem? hi)).2 hle];exact hr
theorem yD{i:Nat}{oi:Oper}{x:Value}(hi:ops[i]?=some oi)(hsel:∀ (j:Nat) (o:Oper) cs b,ops[j]?=some o->o.op≠.select cs b) :
  ∀ (fuel:Nat) (l:Array Bool) (a:Act),
   (∀ j oj,ops[j]?=some oj->j≠i->l.getD j true=false->(∀ e∈oj.after,Region.binds .any e=true->e.on≠i)->oi.apart ops oj=true)->
   kX ops l->l.size=ops.size->i∈Region.ready .any ops l->eZ P F S v ops oi x a->
   fY P F Stop S v fn cs k ops fuel (l.setIfInBounds i true) (a.put oi.dst x)->fY P F Stop S v fn cs k ops (fuel+1) l a:=by
 have keep:∀ {o:Oper} {j:Nat} {d:Option Tmp} {u y:Value} {a:Act},ops[j]?=some o->(∀ e,d=some e->e ∉ o.looksAt ops)->eZ P F S v ops o y a->eZ P F S v ops o y (a.put d u):=by
  intro o j d u y a ho hd hy;have hso:=fun cs b=>hsel j o cs b ho
  rcases hy with⟨hw,⟨hok,hr⟩|⟨g,gf,c,args,ats,e1,e2,e3,e4,hc⟩⟩|⟨hw,rfl⟩
  .exact .inl ⟨by rw[wanted_put o a d u hd];exact hw,.inl ⟨hok,fun w hu=>by rw[execOp_put o hso a d u hd];exact hr w hu⟩⟩
  .exact .inl ⟨by rw[wanted_put o a d u hd];exact hw,.inr ⟨g,gf,c,args,ats,e1,e2,e3,e4,by rw[lQ u e1 hd];exact hc⟩⟩
  .exact .inr ⟨by rw[wanted_put o a d u hd];exact hw,rfl⟩
 have back:∀ {o:Oper} {j:Nat} {d:Option Tmp} {u y:Value} {a:Act},ops[j]?=some o->(∀ e,d=some e->e ∉ o.looksAt ops)->eZ P F S v ops o y (a.put d u)->eZ P F S v ops o y a:=by
  intro o j d u y a ho hd hy;have hso:=fun cs b=>hsel j o cs b ho
  rcases hy with⟨hw,⟨hok,hr⟩|⟨g,gf,c,args,ats,e1,e2,e3,e4,hc⟩⟩|⟨hw,rfl⟩
  .exact .inl ⟨by rw[wanted_put o a d u hd]at hw;exact hw,.inl ⟨hok,fun w hu=>by have:=hr w hu;rw[execOp_put o hso a d u hd]at this;exact this⟩⟩
  .exact .inl ⟨by rw[wanted_put o a d u hd]at hw;exact hw,.inr ⟨g,gf,c,args,ats,e1,e2,e3,e4,by rw[lQ u e1 hd]at hc;exact hc⟩⟩
  .exact .inr ⟨by rw[wanted_put o a d u hd]at hw;exact hw,rfl⟩
 intro fuel;induction fuel with
 |zero=>
  intro l a _ hcl hsz hr hy H;refine⟨fun h=>(by rw[h]at hr;cases hr),fun j hj=>?_⟩
  by_cases hji:j=i
  .subst hji;exact .inl ⟨oi,x,hi,hy,H⟩
  .have:=ready_mono hj hji;rw[H.1]at this;cases this
 |succ fuel ih=>
  intro l a hfree hcl hsz hr hy H;refine⟨fun h=>(by rw[h]at hr;cases hr),fun j hj=>?_⟩
  by_cases hji:j=i
  .subst hji;exact .inl ⟨oi,x,hi,hy,H⟩
  .have h1:=H.2 j (ready_mono hj hji);obtain⟨hjun,oj,hoj,hall⟩:=mem_ready.1 hj;have hnot:∀ e∈oj.after,Region.binds .any e=true->e.on≠i:=fun e he hb heq=>by
    have h1:=hall e he hb;have h0:=(mem_ready.1 hr).1;rw[heq]at h1;rcases Nat.lt_or_ge i l.size with h'|h'
    .simp[h']at h0 h1;rw[h0]at h1;cases h1
    .simp[Array.getElem?_eq_none h']at h1
   have hap:=hfree j oj hoj hji hjun hnot;obtain⟨q1,q2,q3⟩:=Oper.apart_spec hap;have hfree':∀ c oc,ops[c]?=some oc->c≠i->(l.setIfInBounds j true).getD c true=false->
     (∀ e∈oc.after,Region.binds .any e=true->e.on≠i)->oi.apart ops oc=true:=fun c oc hc hci hun hno=>by
    refine hfree c oc hc hci ?_ hno;by_cases hjc:j=c
    .subst hjc;exact hjun
    .rw[getD_set_ne true hjc]at hun;exact hun
   rcases h1 with⟨o',y,ho',hy',hn⟩|⟨js,hch,_⟩
   .obtain rfl:o'=oj:=by rw[hoj]at ho';exact(Option.some.inj ho').symm
    refine .inl ⟨o',y,hoj,back hoj q1 hy',?_⟩;refine ih (l.setIfInBounds j true) (a.put o'.dst y) hfree' (tR hcl hj) (by simpa using hsz) (ready_mono hr (Ne.symm hji)) (keep hi q3 hy) ?_;rw[Array.setIfInBounds_comm _ _ hji,<-Act.put_comm a x y q2];exact hn
   .have hone:=(hch l hcl hsz hj).1;rw[hone]at hr;exact absurd (List.mem_singleton.1 hr).symm hji
theorem hT{i:Nat}{dst:Option Tmp}{op:Op}{ty:TypeId}{pos:String}{aft:Array Edge}{grd:Option (Nat×Bool)}{x:Value}{fuel:Nat}{l:Array Bool}{f:Nat->Value}(hi:ops[i]?=some ⟨dst,op,ty,pos,aft,grd⟩)
  (hy:∀ u,Twin v u->(execOp (Act.eval ⟨TA n f,[]⟩) ⟨dst,op,ty,pos,aft,grd⟩).run P u=.ok (.value x) u) (h:fY P F Stop S v fn cs k ops fuel (l.setIfInBounds i true) ⟨TA n (aE f dst x),[]⟩)
  (hs:Region.noSelect ops=true:=by first|kernel_rfl|decide +kernel) (hf:Region.free .any ops l i=true:=by first|kernel_rfl|decide +kernel) (hr:(Region.ready .any ops l).contains i=true:=by first|kernel_rfl|decide +kernel) (hc:kW ops l=true:=by first|kernel_rfl|decide +kernel) (hz:l.size=ops.size:=by first|kernel_rfl|decide +kernel)
  (hw:Region.wanted ⟨dst,op,ty,pos,aft,grd⟩ (yielded ops (TA n f))=true:=by first|rfl|(simp[Region.wanted,yielded,aZ, *];first|done|fail)) (hok:bV P F ⟨dst,op,ty,pos,aft,grd⟩=true:=by kernel_rfl):fY P F Stop S v fn cs k ops (fuel+1) l ⟨TA n f,[]⟩:=
 yD hi (Region.noSelect_spec hs) fuel l _ (Region.free_spec hi hf) (pV hc) hz (by simpa using hr) (.inl ⟨hw,.inl ⟨hok,hy⟩⟩) (by rw[show(⟨dst,op,ty,pos,aft,grd⟩:Oper).dst=dst from rfl,bU];exact h)
theorem hP{i:Nat}{dst:Option Tmp}{op:Op}{ty:TypeId}{pos:String}{aft:Array Edge}{grd:Option (Nat×Bool)}{fuel:Nat}{l:Array Bool}{f:Nat->Value}(hi:ops[i]?=some ⟨dst,op,ty,pos,aft,grd⟩)
  (h:fY P F Stop S v fn cs k ops fuel (l.setIfInBounds i true) ⟨TA n (aE f dst undef),[]⟩)
  (hs:Region.noSelect ops=true:=by first|kernel_rfl|decide +kernel) (hf:Region.free .any ops l i=true:=by first|kernel_rfl|decide +kernel) (hr:(Region.ready .any ops l).contains i=true:=by first|kernel_rfl|decide +kernel) (hc:kW ops l=true:=by first|kernel_rfl|decide +kernel) (hz:l.size=ops.size:=by first|kernel_rfl|decide +kernel)
  (hw:Region.wanted ⟨dst,op,ty,pos,aft,grd⟩ (yielded ops (TA n f))=false:=by first|rfl|(simp[Region.wanted,yielded,aZ, *];first|done|fail)):fY P F Stop S v fn cs k ops (fuel+1) l ⟨TA n f,[]⟩:=
 yD (x:=undef) hi (Region.noSelect_spec hs) fuel l _ (Region.free_spec hi hf) (pV hc) hz (by simpa using hr) (.inr ⟨hw,rfl⟩) (by rw[show(⟨dst,op,ty,pos,aft,grd⟩:Oper).dst=dst from rfl,bU];exact h)
theorem hU(i:Nat){d:Nat}{op:Op}{ty:TypeId}{pos:String}{aft:Array Edge}{grd:Option (Nat×Bool)}{x:Value}{fuel:Nat}{l:Array Bool}{f:Nat->Value}(h:fY P F Stop S v fn cs k ops fuel (l.setIfInBounds i true) ⟨TA n (st f d x),[]⟩)(hi:ops[i]?=some ⟨some d,op,ty,pos,aft,grd⟩:=by rfl)
  (hy:∀ u,Twin v u->∀ K:Result Go.Next->Prop,K (.ok (.value x) u)->K ((execOp (Act.eval ⟨TA n f,[]⟩) ⟨some d,op,ty,pos,aft,grd⟩).run P u):=by intro _ hu_ K_ hK_;go_simp;(try rw[wI _]);(try rw[wU _]);exact hK_) (hs:Region.noSelect ops=true:=by first|kernel_rfl|decide +kernel) (hf:Region.free .any ops l i=true:=by first|kernel_rfl|decide +kernel) (hr:(Region.ready .any ops l).contains i=true:=by first|kernel_rfl|decide +kernel) (hc:kW ops l=true:=by first|kernel_rfl|decide +kernel) (hz:l.size=ops.size:=by first|kernel_rfl|decide +kernel)
  (hw:Region.wanted ⟨some d,op,ty,pos,aft,grd⟩ (yielded ops (TA n f))=true:=by first|rfl|(simp[Region.wanted,yielded,aZ, *];first|done|fail)) (hok:bV P F ⟨some d,op,ty,pos,aft,grd⟩=true:=by kernel_rfl):fY P F Stop S v fn cs k ops (fuel+1) l ⟨TA n f,[]⟩:=hT hi (fun u hu=>run_eq_of (hy u hu)) h hs hf hr hc hz hw hok
theorem hV(i:Nat){d:Nat}{op:Op}{ty:TypeId}{pos:String}{aft:Array Edge}{grd:Option (Nat×Bool)}{fuel:Nat}{l:Array Bool}{f:Nat->Value}(h:fY P F Stop S v fn cs k ops fuel (l.setIfInBounds i true) ⟨TA n (st f d undef),[]⟩)(hi:ops[i]?=some ⟨some d,op,ty,pos,aft,grd⟩:=by rfl)
  (hs:Region.noSelect ops=true:=by first|kernel_rfl|decide +kernel) (hf:Region.free .any ops l i=true:=by first|kernel_rfl|decide +kernel) (hr:(Region.ready .any ops l).contains i=true:=by first|kernel_rfl|decide +kernel) (hc:kW ops l=true:=by first|kernel_rfl|decide +kernel) (hz:l.size=ops.size:=by first|kernel_rfl|decide +kernel)
  (hw:Region.wanted ⟨some d,op,ty,pos,aft,grd⟩ (yielded ops (TA n f))=false:=by first|rfl|(simp[Region.wanted,yielded,aZ, *];first|done|fail)):fY P F Stop S v fn cs k ops (fuel+1) l ⟨TA n f,[]⟩:=hP hi h hs hf hr hc hz hw
theorem hC{i:Nat}{dst:Option Tmp}{ty:TypeId}{pos:String}{aft:Array Edge}{grd:Option (Nat×Bool)}{x:Value}{fuel:Nat}{l:Array Bool}{f:Nat->Value}{g:FuncId}{gf:Func}{c:Code}{args:Array Operand}{ats:Array TypeId}{vs:Array Value}(hi:ops[i]?=some ⟨dst,.call {callee:=.value (.func g),args,argTypes:=ats},ty,pos,aft,grd⟩)
  (hfn:P.funcs[g]?=some gf) (hb:gf.body=some c) (hvs:args.map (Act.eval ⟨TA n f,[]⟩)=vs) (hcall:aJ P g vs S v fun y S' v'=>y=x∧S'=S∧v'=v) (h:fY P F Stop S v fn cs k ops fuel (l.setIfInBounds i true) ⟨TA n (aE f dst x),[]⟩)
  (hname:(gf.name == "runtime.NumGoroutine")=false:=by kernel_rfl) (hs:Region.noSelect ops=true:=by first|kernel_rfl|decide +kernel) (hf:Region.free .any ops l i=true:=by first|kernel_rfl|decide +kernel) (hr:(Region.ready .any ops l).contains i=true:=by first|kernel_rfl|decide +kernel) (hc:kW ops l=true:=by first|kernel_rfl|decide +kernel) (hz:l.size=ops.size:=by first|kernel_rfl|decide +kernel)
  (hw:Region.wanted ⟨dst,.call {callee:=.value (.func g),args,argTypes:=ats},ty,pos,aft,grd⟩ (yielded ops (TA n f))=true:=by first|rfl|(simp[Region.wanted,yielded,aZ, *];first|done|fail)):fY P F Stop S v fn cs k ops (fuel+1) l ⟨TA n f,[]⟩:=
 yD hi (Region.noSelect_spec hs) fuel l _ (Region.free_spec hi hf) (pV hc) hz (by simpa using hr) (.inl ⟨hw,.inr ⟨g,gf,c,args,ats,rfl,hfn,hname,hb,by rw[hvs];exact hcall⟩⟩) (by rw[show(⟨dst,.call {callee:=.value (.func g),args,argTypes:=ats},ty,pos,aft,grd⟩:Oper).dst=dst from rfl,bU];exact h)
theorem hD{l:Array Bool}{f:Nat->Value}{fuel:Nat}(h:Reach P Stop (G ((base fn).at ⟨TA n f,[]⟩ (.inRegion ops [] :: k)) cs) S v)(hr:Region.ready .any ops l=[]:=by first|kernel_rfl|decide +kernel):fY P F Stop S v fn cs k ops fuel l ⟨TA n f,[]⟩:=by
 cases fuel with
 |zero=>exact⟨hr,h⟩
 |succ fuel=>exact⟨fun _=>h,fun i hi=>by rw[hr]at hi;cases hi⟩
theorem hL{l:Array Bool}{f:Nat->Value}(j:Nat)(js:List Nat){fuel:Nat}(h:Reach P Stop (G ((base fn).at ⟨TA n f,[]⟩ (.inRegion ops (j :: js) :: k)) cs) S v)(hr:Region.ready .any ops l=[j]:=by first|kernel_rfl|decide +kernel)(hl:Ap ops j js=true:=by first|kernel_rfl|decide +kernel)(hle:js.length<=fuel:=by first|kernel_rfl|decide +kernel):fY P F Stop S v fn cs k ops (fuel+1) l ⟨TA n f,[]⟩:=
 ⟨fun h0=>(by rw[hr]at h0;cases h0),fun i hi=>(by
  rw[hr]at hi;obtain rfl:i=j:=by simpa using hi
  exact .inr ⟨js,Wx hl,hle,h⟩)⟩
theorem kP(hG:Good P F)(hm:P.follows .mixedOrders=true){id:Nat}{f:Nat->Value}(h:fY P F Stop S v fn cs k ops ops.size (Array.replicate ops.size false) ⟨TA n f,[]⟩) :
  Reach P Stop (G ((base fn).at ⟨TA n f,[]⟩ (.code (.region id ops true) :: k)) cs) S v:=by
 refine gV rfl fun W hR=>?_
 refine⟨_,{W with drawn:=W.drawn+1},#[],v,stepG_region_draw,by simp,Nat.le_refl _,fun _ _=>rfl,⟨fun j q hj=>by omega,hR.os,hR.output,hR.size,hR.seen,hR.hid,hR.tame,hR.high⟩,?_⟩
 simp only[Region.schedule,hm,Bool.true_or,if_true,Region.linearise];refine Qi hG _ _ _ _ (fun i hi=>?_) (by simp) h;exfalso;by_cases h':i<ops.size
 .simp[Array.getD_eq_getD_getElem?,h']at hi
 .simp[Array.getD_eq_getD_getElem?,h']at hi
end
end Go.Vw
namespace Go.Proofs.YtpiefebngnlfoabGreatDoor
open Go.RowKit Go.Conc Go.Vw
def aU(N i:Nat):Nat:=N / 256 ^ i % 256
theorem oS(N i:Nat):aU N i<256:=Nat.mod_lt _ (by omega)
theorem Ax(j:Nat):2 ^ (8*j)=256 ^ j:=by rw[Nat.pow_mul]
theorem Vu(N j:Nat):N % 256 ^ (j+1)=aU N j*256 ^ j+N % 256 ^ j:=by
 unfold aU;rw[Nat.pow_succ,Nat.mod_mul,Nat.add_comm,Nat.mul_comm]
theorem Xy(N j:Nat)(hj:j<8):bits .or .u64 ((N % 256 ^ j:Nat):Int) ((aU N j*256 ^ j:Nat):Int)=((N % 256 ^ (j+1):Nat):Int):=by
 have h0:N % 256 ^ j<256 ^ j:=Nat.mod_lt _ (Nat.pow_pos (by omega));have h1:=oS N j;have hp:256 ^ j*256<=18446744073709551616:=by
  have:256 ^ j*256=256 ^ (j+1):=(Nat.pow_succ ..).symm;rw[this]
  calc 256 ^ (j+1)<=256 ^ 8:=Nat.pow_le_pow_right (by omega) (by omega)
   _=18446744073709551616:=by decide
 have h2:aU N j*256 ^ j+256 ^ j<=256 ^ j*256:=by
  have:(aU N j+1)*256 ^ j<=256*256 ^ j:=Nat.mul_le_mul_right _ (by omega);rw[Nat.add_mul,Nat.one_mul]at this;omega
 rw[bits_or_u64_nat _ _ (by omega) (by omega),Vu,Nat.or_comm];congr 1;rw[<-Ax]at h0 ⊢;rw[<-Nat.shiftLeft_eq,Nat.shiftLeft_add_eq_or_of_lt h0]
theorem lO{S:Nat->Prop}{v:World}(B off n c N:Nat)(hn:n<=8)(hc:n<=c)(hz:∀ i,i<n->v.cell? ⟨B,off+i,none⟩=some (.int .u8 (aU N i:Nat))) :
  aJ Tryz.prog 116 #[.slice (some ⟨B,off,none⟩) n c] S v fun x S' v'=>x=.int .u64 ((N % 256 ^ n:Nat):Int)∧S'=S∧v'=v:=by
 refine dQ Tryz.func116 rfl Tryz.ntmps116 fun Stop cc cs ret f g0=>?_
 repeat refine rN ?_
 refine bP (fun d f' S' v'=>∃ j,d=n - j∧j<=n∧S'=S∧v'=v∧f' 6=.slice (some ⟨B,off,none⟩) n c∧f' 7=.int .i64 (n:Nat)∧f' 8=.int .i64 (j:Nat)∧f' 3=.int .u64 ((N % 256 ^ j:Nat):Int)) n ⟨0,by omega,by omega,rfl,rfl,by simp[g0],by simp[g0],by simp,by simp[Nat.mod_one]⟩ ?_;clear g0 f;rintro d f S' v' ⟨j,rfl,hj,eS,eV,g6,g7,g8,g3⟩ nxt;subst S' v';repeat refine rN ?_
 by_cases hlt:j<n
 .have hjI:(j:Int)<(n:Int):=by omega
  have h8:8*(j:Int)<64:=by omega
  have h0:¬8*(j:Int)<0:=by omega
  have hcj:=hz j hlt;have hb:=oS N j;have e1:=Xy N j (by omega);have e2:(8*(j:Int)).toNat=8*j:=by omega
  have e3:IntKind.u64.wrap ((aU N j:Nat):Int)=((aU N j:Nat):Int):=by rw[IntKind.wrap_u64];omega
  have hb2:aU N j*256 ^ j<18446744073709551616:=by
   calc aU N j*256 ^ j<256*256 ^ j:=Nat.mul_lt_mul_of_pos_right hb (Nat.pow_pos (by omega))
    _=256 ^ (j+1):=by rw[Nat.pow_succ,Nat.mul_comm]
    _<=256 ^ 8:=Nat.pow_le_pow_right (by omega) (by omega)
    _=18446744073709551616:=by decide
  have e4:IntKind.u64.wrap (((aU N j:Nat):Int)*2 ^ (8*j))=((aU N j*256 ^ j:Nat):Int):=by
   have:((aU N j:Nat):Int)*2 ^ (8*j)=((aU N j*256 ^ j:Nat):Int):=by rw[<-Ax];push_cast;rfl
   rw[this,IntKind.wrap_u64];omega
  have HE1:=aG e1;have HE3:=aG e3;have HE4:=aG e4;have HB:=aG hb2;clear e1 e3 e4 hb2;refine rX (by simp[Act.eval,g8,g7,hjI,hlt]) ?_;repeat refine rM hcj ?_
  refine nxt _ _ _ (n - (j+1)) (by omega) ⟨j+1,rfl,by omega,rfl,rfl,by simp[g6],by simp[g7],by simp,?_⟩;have q:=HE1.out;push_cast at q;simp[HE3.out,e2,HE4.out];exact q
 .obtain rfl:j=n:=by omega
  refine rZ (by simp[Act.eval,g8,g7]) ?_;refine bH rfl ?_;repeat refine rN ?_
  refine aP fun todo=>?_
  refine ret _ _ _ _ (.int .u64 ((N % 256 ^ j:Nat):Int)) ?_ ⟨rfl,rfl,rfl⟩;simp[results,Tryz.results116]
def eP(x:Nat->Nat)(off n N i:Nat):Nat:=if off<=i∧i<off+n then aU N (i - off) else x i
theorem Sf(x:Nat->Nat)(off N:Nat):eP x off 0 N=x:=by
 funext i;unfold eP;rw[if_neg (by omega)]
theorem Sg(m:Nat)(x:Nat->Nat)(off n N:Nat):(aC m (eP x off n N)).setIfInBounds (off+n) (.int .u8 ((aU N n:Nat):Int))=aC m (eP x off (n+1) N):=by
 rw[Ef];refine iD fun i _=>?_
 unfold eP;by_cases e:i=off+n
 .subst e;rw[if_pos rfl,if_pos (by omega)];congr 1;omega
 .rw[if_neg e];by_cases h:off<=i∧i<off+n
  .rw[if_pos h,if_pos (by omega)]
  .rw[if_neg h,if_neg (by omega)]
theorem Um{v w w':World}{g:Nat}{o o':Obj}(h:Wr v g o w)(h':Wr w g o' w'):Wr v g o' w':=
 ⟨h'.at_,fun b hb=>(h'.other b hb).trans (h.other b hb),h'.size.trans h.size,h'.os.trans h.os,h'.output.trans h.output⟩
theorem Xl{v:World}{g:Nat}{o:Obj}(h:v.heap[g]?=some o):Wr v g o v:=⟨h,fun _ _=>rfl,rfl,rfl,rfl⟩
theorem pZ{S:Nat->Prop}{v:World}(B off n c m N:Nat)(x:Nat->Nat)(t:TypeId)(hn:n<=8)(hc:n<=c)(hm:off+n<=m)(hN:N<18446744073709551616)(hB:v.heap[B]?=some (.cells (aC m x) t)) :
  aJ Tryz.prog 117 #[.slice (some ⟨B,off,none⟩) n c,.int .u64 (N:Nat)] S v fun y S' v'=>y=.tuple #[]∧S'=S∧Wr v B (.cells (aC m (eP x off n N)) t) v':=by
 refine dH Tryz.func117 rfl Tryz.ntmps117 fun Stop cc cs ret f g0 g1=>?_
 repeat refine rN ?_
 refine bP (fun d f' S' v'=>∃ j,d=n - j∧j<=n∧S'=S∧Wr v B (.cells (aC m (eP x off j N)) t) v'∧f' 0=.slice (some ⟨B,off,none⟩) n c∧f' 1=.int .u64 (N:Nat)∧f' 6=.int .i64 (n:Nat)∧f' 7=.int .i64 (j:Nat)) n ⟨0,by omega,by omega,rfl,by rw[Sf];exact Xl hB,by simp[g0],by simp[g1],by simp[g0],by simp⟩ ?_;clear g0 g1 f;rintro d f S' v' ⟨j,rfl,hj,eS,hW,g0,g1,g6,g7⟩ nxt;subst S';repeat refine rN ?_
 by_cases hlt:j<n
 .have hjI:(j:Int)<(n:Int):=by omega
  have h8:8*(j:Int)<64:=by omega
  have h0:¬8*(j:Int)<0:=by omega
  have hsz:off+j<(aC m (eP x off j N)).size:=by rw[dU];omega
  have e2:(8*(j:Int)).toNat=8*j:=by omega
  have e4:IntKind.u8.wrap ((N:Int) / 2 ^ (8*j))=((aU N j:Nat):Int):=by
   rw[IntKind.wrap_u8];unfold aU;rw[<-Ax];push_cast;rfl
  have HE4:=aG e4;clear e4;refine rX (by simp[Act.eval,g7,g6,hjI,hlt]) ?_;repeat refine rN ?_
  refine eR aB rfl rfl (by kernel_rfl) (x:=.tmp 17) (y:=.tmp 16) (g:=B) (j:=off+j) (z:=.int .u8 ((aU N j:Nat):Int)) rfl (by simp) (by simp[e2,HE4.out]) rfl rfl hW.at_ hsz (by kernel_rfl) fun v3 hW3=>?_
  simp only[stO_none];rw[Sg]at hW3;repeat refine rN ?_
  refine nxt _ _ _ (n - (j+1)) (by omega) ⟨j+1,rfl,by omega,rfl,Um hW hW3,by simp[g0],by simp[g1],by simp[g6],by simp⟩
 .obtain rfl:j=n:=by omega
  refine rZ (by simp[Act.eval,g7,g6]) ?_;refine bH rfl ?_;repeat refine rN ?_
  refine iP ?_;refine ret _ _ _ _ (.tuple #[]) ?_ ⟨rfl,rfl,hW⟩;simp[results,Tryz.results117]
def fN(r:Nat):Nat:=(r / 2) ^^^ (3988292384&&&(if r % 2=1 then 4294967295 else 0))
theorem Vf{r:Nat}(h:r<4294967296):fN r<4294967296:=by
 unfold fN;have h1:r / 2<2 ^ 32:=by omega
 have h2:(3988292384&&&(if r % 2=1 then 4294967295 else 0))<2 ^ 32:=Nat.and_lt_two_pow _ (by split<;>omega)
 exact Nat.xor_lt_two_pow h1 h2
theorem Vg{r:Nat}(h:r<4294967296):bits .xor .u32 ((r:Int) / 2) (bits .and .u32 3988292384 (IntKind.u32.wrap (-(bits .and .u32 (r:Int) 1))))=((fN r:Nat):Int):=by
 have e1:bits .and .u32 (r:Int) 1=((r % 2:Nat):Int):=by
  rw[show(1:Int)=((1:Nat):Int) from rfl,u32_and_nat r 1 h (by omega),Nat.and_one_is_mod]
 have e2:IntKind.u32.wrap (-((r % 2:Nat):Int))=(((if r % 2=1 then 4294967295 else 0:Nat)):Int):=by
  rw[IntKind.wrap_u32];split<;>omega
 rw[e1,e2,show(3988292384:Int)=((3988292384:Nat):Int) from rfl,u32_and_nat _ _ (by omega) (by split<;>omega),show(r:Int) / 2=((r / 2:Nat):Int) by omega,u32_xor_nat _ _ (by omega) (Nat.lt_of_le_of_lt Nat.and_le_left (by omega))]
 rfl
def cJ(r:Nat):Nat->Nat
 |0=>r
 |j+1=>fN (cJ r j)
theorem yK{r:Nat}(h:r<4294967296)(j:Nat):cJ r j<4294967296:=by
 induction j with
 |zero=>exact h
 |succ j ih=>exact Vf ih
def bA(x:Nat->Nat):Nat->Nat
 |0=>0
 |j+1=>cJ (bA x j ^^^ x j) 8
theorem zC{x:Nat->Nat}(h:∀ i,x i<256)(j:Nat):bA x j<4294967296:=by
 induction j with
 |zero=>simp[bA]
 |succ j ih=>exact yK (Nat.xor_lt_two_pow (n:=32) ih (by have:=h j;omega)) 8
theorem tM{x y:Nat->Nat}{n:Nat}(h:∀ i,i<n->x i=y i):bA x n=bA y n:=by
 induction n with
 |zero=>rfl
 |succ n ih=>
  unfold bA;rw[ih fun i hi=>h i (by omega),h n (by omega)]
theorem Zk{S:Nat->Prop}{v:World}(B n c:Nat)(x:Nat->Nat)(hn:n<=96)(hc:n<=c)(hx:∀ i,x i<256)(hB:dX v B 0 n x) :
  aJ Tryz.prog 118 #[.slice (some ⟨B,0,none⟩) n c] S v fun y S' v'=>y=.int .u32 ((bA x n:Nat):Int)∧S'=S∧v'=v:=by
 refine dQ Tryz.func118 rfl Tryz.ntmps118 fun Stop cc cs ret f g0=>?_
 repeat refine rN ?_
 refine bP (fun d f' S' v'=>∃ j,d=n - j∧j<=n∧S'=S∧v'=v∧f' 6=.slice (some ⟨B,0,none⟩) n c∧f' 7=.int .i64 (n:Nat)∧f' 8=.int .i64 (j:Nat)∧f' 3=.int .u32 ((bA x j:Nat):Int)) n ⟨0,by omega,by omega,rfl,rfl,by simp[g0],by simp[g0],by simp,by simp[bA]⟩ ?_;clear g0 f;rintro d f S' v' ⟨j,rfl,hj,eS,eV,g6,g7,g8,g3⟩ nxt;subst S' v';repeat refine rN ?_
 by_cases hlt:j<n
 .have hjI:(j:Int)<(n:Int):=by omega
  have hcj:=hB j hlt;rw[Nat.zero_add]at hcj;have hxj:=hx j;have hr:=zC hx j;have e3:IntKind.u32.wrap ((x j:Nat):Int)=((x j:Nat):Int):=by rw[IntKind.wrap_u32];omega
  have e4:bits .xor .u32 ((bA x j:Nat):Int) ((x j:Nat):Int)=((cJ (bA x j ^^^ x j) 0:Nat):Int):=u32_xor_nat _ _ hr (by omega);have hq:bA x j ^^^ x j<4294967296:=Nat.xor_lt_two_pow (n:=32) hr (by omega);have e5:cJ (bA x j ^^^ x j) 8=bA x (j+1):=rfl;generalize bA x j ^^^ x j=q at e4 hq e5;have HE3:=aG e3;have HE4:=aG e4;have HE5:=aG e5;have HR:=aG hr;clear e3 e4 e5 hr;refine rX (by simp[Act.eval,g8,g7,hjI,hlt]) ?_;repeat refine rM hcj ?_
  refine bP (fun d f' S' v'=>∃ i,d=8 - i∧i<=8∧S'=S∧v'=v∧f' 6=.slice (some ⟨B,0,none⟩) n c∧f' 7=.int .i64 (n:Nat)∧f' 8=.int .i64 (j:Nat)∧f' 16=.int .i64 (i:Nat)∧f' 3=.int .u32 ((cJ q i:Nat):Int)) 8 ⟨0,by omega,by omega,rfl,rfl,by simp[g6],by simp[g7],by simp[g8],by simp,by simp[HE3.out,HE4.out]⟩ ?_;clear g6 g7 g8 g3 f;rintro d f S' v' ⟨i,rfl,hi,eS,eV,g6,g7,g8,g16,g3⟩ nxt2;subst S' v';repeat refine rN ?_
  by_cases hli:i<8
  .have hiI:(i:Int)<8:=by omega
   have HQ:=aG (Vg (yK hq i));refine rX (by simp[Act.eval,g16,hiI]) ?_;repeat refine rN ?_
   refine nxt2 _ _ _ (8 - (i+1)) (by omega) ⟨i+1,rfl,by omega,rfl,rfl,by simp[g6],by simp[g7],by simp[g8],by simp,?_⟩;have q:=HQ.out;simp[cJ];exact q
  .obtain rfl:i=8:=by omega
   refine rZ (by simp[Act.eval,g16]) ?_;refine bH rfl ?_;repeat refine rN ?_
   refine nxt _ _ _ (n - (j+1)) (by omega) ⟨j+1,rfl,by omega,rfl,rfl,by simp[g6],by simp[g7],by simp,by simp[g3,HE5.out]⟩
 .obtain rfl:j=n:=by omega
  refine rZ (by simp[Act.eval,g8,g7]) ?_;refine bH rfl ?_;repeat refine rN ?_
  refine aP fun todo=>?_
  refine ret _ _ _ _ (.int .u32 ((bA x j:Nat):Int)) ?_ ⟨rfl,rfl,rfl⟩;simp[results,Tryz.results118]
def eT(id size turn k m:Nat)(p:Nat->Nat)(i:Nat):Nat:=if 13<=i∧i<13+m then p (i - 13) else eP (eP (eP (eP (fun _=>0) 0 2 id) 2 2 size) 4 1 k) 5 8 turn i
def aV(id size turn k m:Nat)(p:Nat->Nat):Nat->Nat:=eP (eT id size turn k m p) 92 4 (bA (eT id size turn k m p) 92)
theorem qX{x:Nat->Nat}(h:∀ i,x i<256)(off n N i:Nat):eP x off n N i<256:=by
 unfold eP;split
 .exact oS _ _
 .exact h i
theorem zJ{id size turn k m:Nat}{p:Nat->Nat}(h:∀ i,p i<256)(i:Nat):eT id size turn k m p i<256:=by
 unfold eT;split
 .exact h _
 .exact qX (qX (qX (qX (fun _=>by omega) _ _ _) _ _ _) _ _ _) _ _ _ _
theorem zA{id size turn k m:Nat}{p:Nat->Nat}(h:∀ i,p i<256)(i:Nat):aV id size turn k m p i<256:=qX (zJ h) _ _ _ _
def bI(id size turn k:Nat)(p:Option Addr)(m c:Nat):Array Value:=#[.int .i64 (id:Nat),.int .i64 (size:Nat),.int .u64 (turn:Nat),.int .i64 (k:Nat),.slice p m c]
theorem xD(n:Nat):eE n=aC n fun _=>0:=by simp[eE,aC]
theorem yA{n:Nat}{x:Nat->Nat} : (aC n x).all (·.oneCell')=true:=by
 rw[Array.all_eq_true_iff_forall_mem];exact fun y hy=>Eg y (by simpa using hy)
theorem bJ{v w w':World}{g:Nat}{o:Obj}(h:Ext v w)(hg:v.heap.size<=g)(hW:Wr w g o w'):Ext v w':=mX h hg hW
theorem aO{w w':World}{g b:Nat}{o o':Obj}(hW:Wr w g o w')(h:w.heap[b]?=some o')(hb:b≠g):w'.heap[b]?=some o':=(hW.other b hb).trans h
theorem Ak{S:Nat->Prop}{v:World}(id size turn k m c B off:Nat)(y:Nat->Nat)(hid:id<=9999)(hsz:size<=400)(hk:k<14)(ht:turn<18446744073709551616)(hm:m<=79)(hy:∀ i,y i<256)(hs:dX v B off m y) :
  aJ Tryz.prog 93 #[.agg (bI id size turn k (some ⟨B,off,none⟩) m c)] S v fun x S' v'=>x=.agg (aC 96 (aV id size turn k m y))∧S'=S∧Ext v v':=by
 refine dQ Tryz.func93 rfl Tryz.ntmps93 fun Stop cc cs ret f g0=>?_
 repeat refine rN ?_
 refine bS (Q:=fun y w=>y=.pointer (some ⟨v.heap.size,0,none⟩)∧Ext v w∧w.heap[v.heap.size]?=some (.cells (bI id size turn k (some ⟨B,off,none⟩) m c) 143)∧w.heap.size=v.heap.size+1) aB rfl rfl (by kernel_rfl) (fun u hu=>⟨_,_,.inl (gK (x:=.tmp 0) (y:=.agg (bI id size turn k (some ⟨B,off,none⟩) m c)) rfl (by simp[g0]) u),by rw[hu.heap],(Ext.twin hu).trans _ _ _ (Ext.alloc _ _),by rw[<-hu.heap];exact cN _ _,by rw[jZ,hu.heap]⟩) ?_
 rintro _ w1 ⟨rfl,hE1,hb1,hs1⟩;simp only[stO_some];refine cM aB rfl rfl (by kernel_rfl) (.agg (eE 96)) rfl (by rw[<-pP];kernel_rfl) fun w2 hE2 hb2 hs2=>?_
 simp only[stO_some];repeat refine rN ?_
 refine cM aB rfl rfl (by kernel_rfl) (.agg (eE 96)) rfl (by rw[<-pP];kernel_rfl) fun w3 hE3 hb3 hs3=>?_
 simp only[stO_some];have hEa:=hE1.trans _ _ _ (hE2.trans _ _ _ hE3);have hPc:w3.heap[v.heap.size]?=some (.cells (bI id size turn k (some ⟨B,off,none⟩) m c) 143):=hE3.row (hE2.row hb1);have hRes:w3.heap[v.heap.size+1]?=some (.cells (eE 96) 107):=by rw[<-hs1];exact hE3.row hb2
 have hB:w3.heap[v.heap.size+2]?=some (.cells (aC 96 fun _=>0) 107):=by rw[<-xD,show v.heap.size+2=w2.heap.size by omega];exact hb3
 rw[show w1.heap.size=v.heap.size+1 by omega,show w2.heap.size=v.heap.size+2 by omega];clear hb1 hb2 hb3 hE1 hE2 hE3 hs1 hs2 hs3 w1 w2;have pc:∀ {w:World},w.heap[v.heap.size]?=some (.cells (bI id size turn k (some ⟨B,off,none⟩) m c) 143)->w.cell? ⟨v.heap.size,0,none⟩=some (.int .i64 (id:Nat))∧w.cell? ⟨v.heap.size,1,none⟩=some (.int .i64 (size:Nat))∧w.cell? ⟨v.heap.size,2,none⟩=some (.int .u64 (turn:Nat))∧w.cell? ⟨v.heap.size,3,none⟩=some (.int .i64 (k:Nat))∧w.cell? ⟨v.heap.size,4,none⟩=some (.slice (some ⟨B,off,none⟩) m c):=fun h=>
  ⟨(cell_of_row _ _ _ _ _ _ h).trans rfl,(cell_of_row _ _ _ _ _ _ h).trans rfl,(cell_of_row _ _ _ _ _ _ h).trans rfl,(cell_of_row _ _ _ _ _ _ h).trans rfl,(cell_of_row _ _ _ _ _ _ h).trans rfl⟩
 have u1:IntKind.u64.wrap ((id:Nat):Int)=((id:Nat):Int):=vU _;have u2:IntKind.u64.wrap ((size:Nat):Int)=((size:Nat):Int):=vU _;have u3:IntKind.u64.wrap ((k:Nat):Int)=((k:Nat):Int):=vU _;obtain⟨c0,c1,c2,c3,c4⟩:=pc hPc;repeat refine rN ?_
 refine iY aB (by first|kernel_rfl|rfl) ?_
 simp only[List.size_toArray,List.length_cons,List.length_nil,Nat.reduceAdd,Nat.zero_add];refine cU 0 ?_;refine cU 1 ?_;refine cU 2 ?_;co_applyP cT (i:=3) rfl (fun _ hu_=>run_eq_of ?u3_3) ?v3_3
 case u3_3=>intro K_ hK_;(have hc:=(Ext.twin hu_).cell c0);go_simp;(try rw[wI _]);(try rw[wU _]);exact hK_
 simp only[sS,sN];refine cU 4 ?_;refine cL 5 ?_;refine rK Tryz.func117 (pZ (v.heap.size+2) 0 2 96 96 id _ 107 (by omega) (by omega) (by omega) (by omega) hB) ?_;rintro _ S1 w4 _ ⟨rfl,e1,hW4⟩;subst S1;have hEb:=bJ hEa (by omega) hW4;have hPc4:=aO hW4 hPc (by omega);have hRes4:=aO hW4 hRes (by omega);have hB4:=hW4.at_;clear hEa hPc hRes hB hW4 c0 c1 c2 c3 c4;obtain⟨c0,c1,c2,c3,c4⟩:=pc hPc4;repeat refine rN ?_
 refine iY aB (by first|kernel_rfl|rfl) ?_
 simp only[List.size_toArray,List.length_cons,List.length_nil,Nat.reduceAdd,Nat.zero_add];refine cU 0 ?_;refine cU 1 ?_;refine cU 2 ?_;co_applyP cT (i:=3) rfl (fun _ hu_=>run_eq_of ?u7_3) ?v7_3
 case u7_3=>intro K_ hK_;(have hc:=(Ext.twin hu_).cell c1);go_simp;(try rw[wI _]);(try rw[wU _]);exact hK_
 simp only[sS,sN];refine cU 4 ?_;refine cL 5 ?_;refine rK Tryz.func117 (pZ (v.heap.size+2) 2 2 94 96 size _ 107 (by omega) (by omega) (by omega) (by omega) hB4) ?_;rintro _ S1 w5 _ ⟨rfl,e1,hW5⟩;subst S1;have hEc:=bJ hEb (by omega) hW5;have hPc5:=aO hW5 hPc4 (by omega);have hRes5:=aO hW5 hRes4 (by omega);have hB5:=hW5.at_;clear hEb hPc4 hRes4 hB4 hW5 c0 c1 c2 c3 c4;obtain⟨c0,c1,c2,c3,c4⟩:=pc hPc5;repeat refine rN ?_
 refine iY aB (by first|kernel_rfl|rfl) ?_
 simp only[List.size_toArray,List.length_cons,List.length_nil,Nat.reduceAdd,Nat.zero_add];refine cU 0 ?_;refine cU 1 ?_;co_applyP cT (i:=2) rfl (fun _ hu_=>run_eq_of ?u11_2) ?v11_2
 case u11_2=>intro K_ hK_;(have hc:=(Ext.twin hu_).cell c3);go_simp;(try rw[wI _]);(try rw[wU _]);exact hK_
 simp only[sS,sN];refine cU 3 ?_;refine cL 4 ?_;refine rK Tryz.func117 (pZ (v.heap.size+2) 4 1 92 96 k _ 107 (by omega) (by omega) (by omega) (by omega) hB5) ?_;rintro _ S1 w6 _ ⟨rfl,e1,hW6⟩;subst S1;have hEd:=bJ hEc (by omega) hW6;have hPc6:=aO hW6 hPc5 (by omega);have hRes6:=aO hW6 hRes5 (by omega);have hB6:=hW6.at_;clear hEc hPc5 hRes5 hB5 hW6 c0 c1 c2 c3 c4;obtain⟨c0,c1,c2,c3,c4⟩:=pc hPc6;repeat refine rN ?_
 refine iY aB (by first|kernel_rfl|rfl) ?_
 simp only[List.size_toArray,List.length_cons,List.length_nil,Nat.reduceAdd,Nat.zero_add];refine cU 0 ?_;refine cU 1 ?_;refine cU 2 ?_;co_applyP cT (i:=3) rfl (fun _ hu_=>run_eq_of ?u15_3) ?v15_3
 case u15_3=>intro K_ hK_;(have hc:=(Ext.twin hu_).cell c2);go_simp;(try rw[wI _]);(try rw[wU _]);exact hK_
 simp only[sS,sN];refine cL 4 ?_;refine rK Tryz.func117 (pZ (v.heap.size+2) 5 8 91 96 turn _ 107 (by omega) (by omega) (by omega) (by omega) hB6) ?_;rintro _ S1 w7 _ ⟨rfl,e1,hW7⟩;subst S1;have hEe:=bJ hEd (by omega) hW7;have hPc7:=aO hW7 hPc6 (by omega);have hRes7:=aO hW7 hRes6 (by omega);have hB7:=hW7.at_;clear hEd hPc6 hRes6 hB6 hW7 c0 c1 c2 c3 c4;obtain⟨c0,c1,c2,c3,c4⟩:=pc hPc7;repeat refine rN ?_
 refine iY aB (by first|kernel_rfl|rfl) ?_
 simp only[List.size_toArray,List.length_cons,List.length_nil,Nat.reduceAdd,Nat.zero_add];refine cU 0 ?_;refine cU 1 ?_;co_applyP cT (i:=2) rfl (fun _ hu_=>run_eq_of ?u18_2) ?v18_2
 case u18_2=>intro K_ hK_;(have hc:=(Ext.twin hu_).cell c4);go_simp;(try rw[wI _]);(try rw[wU _]);exact hK_
 simp only[sS,sN];refine cL 3 ?_;have hs7:=hs.ext hEe;refine tX aB rfl rfl (by kernel_rfl) rfl (d:=.tmp 26) (s:=.tmp 28) (g:=v.heap.size+2) (o':=13) (dLen:=79) (dCap:=83) (b:=B) (off:=off) (sLen:=m) (sCap:=c) (cells:=(List.range m).map fun j=>Value.int .u8 ((y j:Nat):Int)) (by simp) (by simp) Tryz.underlying48 (by kernel_rfl) hB7 (by simp[Nat.min_eq_left hm]) (fun j z hz=>?_) (by rw[dU];simp;omega) oJ fun w8 hW8=>?_
 .obtain⟨hj,rfl⟩:=oK hz;exact hs7 j hj
 simp only[stO_some];rw[show(List.map (fun j=>Value.int .u8 ((y j:Nat):Int)) (List.range m)).length=m by simp,oB 96 13 m _ _ (by omega)]at hW8;have hEf:=bJ hEe (by omega) hW8;have hRes8:=aO hW8 hRes7 (by omega);have hB8:w8.heap[v.heap.size+2]?=some (.cells (aC 96 (eT id size turn k m y)) 107):=hW8.at_;clear hEe hPc7 hRes7 hB7 hW8 c0 c1 c2 c3 c4 hs7;have hbl:∀ i,eT id size turn k m y i<256:=zJ hy;have hrl:=zC hbl 92;have hBy:dX w8 (v.heap.size+2) 0 92 (eT id size turn k m y):=fun i hi=>by
  rw[Nat.zero_add,cell_of_row _ _ _ _ _ _ hB8];exact dV _ _ _ (by omega)
 have u4:IntKind.u64.wrap ((bA (eT id size turn k m y) 92:Nat):Int)=((bA (eT id size turn k m y) 92:Nat):Int):=vU _;repeat refine rN ?_
 refine iY aB (by first|kernel_rfl|rfl) ?_
 simp only[List.size_toArray,List.length_cons,List.length_nil,Nat.reduceAdd,Nat.zero_add];refine cU 0 ?_;refine cU 1 ?_;refine Ue (i:=2) rfl Tryz.func118 rfl (vs:=#[.slice (some ⟨v.heap.size+2,0,none⟩) 92 96]) (by simp[Act.eval]) (Zk (v.heap.size+2) 92 96 _ (by omega) (by omega) hbl hBy) ?_;simp only[sS,sN];refine cU 3 ?_;refine cL 4 ?_;refine rK Tryz.func117 (pZ (v.heap.size+2) 92 4 4 96 (bA (eT id size turn k m y) 92) _ 107 (by omega) (by omega) (by omega) (by omega) hB8) ?_;rintro _ S1 w9 _ ⟨rfl,e1,hW9⟩;subst S1;have hEg:=bJ hEf (by omega) hW9;have hRes9:=aO hW9 hRes8 (by omega);have hB9:w9.heap[v.heap.size+2]?=some (.cells (aC 96 (aV id size turn k m y)) 107):=hW9.at_;clear hEf hRes8 hB8 hW9;repeat refine rN ?_
 refine iC aB rfl rfl (by kernel_rfl) (x:=.tmp 3) (b:=v.heap.size+2) rfl (by simp) hB9 (by kernel_rfl) (by rw[dU];kernel_rfl) ?_;simp only[stO_some];refine cZ aB rfl rfl (by kernel_rfl) (x:=.tmp 2) (y:=.tmp 35) (g:=v.heap.size+1) (c:=aC 96 (aV id size turn k m y)) rfl (by simp) (by simp) hRes9 (by kernel_rfl) (by rw[dU,tK]) yA fun wa hWa=>?_
 simp only[stO_none];repeat refine rN ?_
 refine aP fun todo=>?_
 refine ret _ _ S wa (.agg (aC 96 (aV id size turn k m y))) ?_ ⟨rfl,rfl,bJ hEg (by omega) hWa⟩;have hl:=run_loadVar_row (P:=Tryz.prog) wa (v.heap.size+1) 107 107 (aC 96 (aV id size turn k m y)) (0,0) _ hWa.at_ Tryz.underlying107 rfl (by rw[dU];kernel_rfl);simp[results,Tryz.results93,asAddr,hl]
theorem Gy:∃ i,Tryz.prog.info? 5=some i∧i.size=1:=⟨_,rfl,rfl⟩
theorem Vb{n i:Nat}{x:Nat->Nat}(h:i<n)(w:World):(part 5 (aC n x) (i*1)).run Tryz.prog w=.ok (.int .u8 (x i:Nat)) w:=by
 unfold part;obtain⟨inf,h1,h2⟩:=Gy;simp[isAgg,run_underlying Tryz.underlying5,dV n x i h,Nat.mul_one]
def bT(x y:Nat->Nat)(i:Nat):Nat->Bool
 |0=>true
 |k+1=>(x i == y i)&&bT x y (i+1) k
theorem fL(x y:Nat->Nat):∀ (k i:Nat),bT x y i k=true↔∀ j,i<=j->j<i+k->x j=y j
 |0,i=>⟨fun _ j h1 h2=>by omega,fun _=>rfl⟩
 |k+1,i=>by
  unfold bT;rw[Bool.and_eq_true,beq_iff_eq,fL x y k (i+1)];constructor
  .rintro⟨h1,h2⟩ j h3 h4;by_cases e:j=i
   .rw[e];exact h1
   .exact h2 j (by omega) (by omega)
  .exact fun h=>⟨h i (by omega) (by omega),fun j h1 h2=>h j (by omega) (by omega)⟩
theorem Ox(x y:Nat->Nat)(w:World):∀ (k i:Nat),i+k=96->(forIn (List.range' i k) ((none,()):Option Bool×Unit) fun i __s=>(do
       let __do_lift <-part 5 (aC 96 x) (i*1)
       let __do_lift_1 <-part 5 (aC 96 y) (i*1)
       let __do_lift <-Op.equalIn 9999 5 __do_lift __do_lift_1
       if (!__do_lift)=true then pure (ForInStep.done (some false,())) else pure (ForInStep.yield (none,())):Sem (ForInStep (Option Bool×Unit)))).run Tryz.prog w=.ok (if bT x y i k=true then(none,()) else(some false,())) w:=by
 intro k;induction k with
 |zero=>intro i hi;simp[bT]
 |succ k ih=>
  intro i hi;rw[List.range'_succ,List.forIn_cons];simp only[Sem.run_bind,Vb (show i<96 by omega),Result.andThen_ok,run_equalIn_int (P:=Tryz.prog) w 9998 5 .u8 .u8 _ _ Tryz.underlying5];by_cases e:x i=y i
  .have e1:(((x i:Nat):Int) == ((y i:Nat):Int))=true:=by simp[e]
   have e2:bT x y i (k+1)=bT x y (i+1) k:=by simp[bT,e]
   simp only[e1,e2,Bool.not_true,Bool.false_eq_true,if_false,Sem.run_pure,Result.andThen_ok];exact ih (i+1) (by omega)
  .have e1:(((x i:Nat):Int) == ((y i:Nat):Int))=false:=by simp;omega
   have e2:bT x y i (k+1)=false:=by simp[bT,e]
   simp only[e1,e2,Bool.not_false,if_true,Sem.run_pure,Result.andThen_ok,Bool.false_eq_true,if_false]
theorem Cj(x y:Nat->Nat)(w:World):(Op.equalIn 10000 107 (.agg (aC 96 x)) (.agg (aC 96 y))).run Tryz.prog w=.ok (bT x y 0 96) w:=by
 obtain⟨inf,h1,h2⟩:=Gy;have hs:(sizeOf 5).run Tryz.prog w=.ok 1 w:=by simp[sizeOf,typeInfo,h1,h2]
 unfold Op.equalIn;simp only[Sem.run_bind,run_underlying Tryz.underlying107,Result.andThen_ok,hs,Std.Legacy.Range.forIn_eq_forIn_range',Std.Legacy.Range.size,Nat.sub_zero,Nat.add_sub_cancel,Nat.div_one];rw[Ox x y w 96 0 rfl];cases bT x y 0 96<;>rfl
theorem Ow{o:Oper}{a:Act}{xo yo:Operand}{x y:Nat->Nat}{u:World}(hop:o.op=.binOp .eql 107 xo yo 107)(h1:a.eval xo=.agg (aC 96 x))(h2:a.eval yo=.agg (aC 96 y)):(execOp a.eval o).run Tryz.prog u=.ok (.value (.bool (bT x y 0 96))) u:=by
 unfold execOp;simp only[hop,h1,h2,Sem.run_bind,run_eqGuard_agg (P:=Tryz.prog) u .eql 107 xo yo _ _ (by kernel_rfl),Result.andThen_ok,run_eql_struct,Cj,Sem.run_pure]
theorem Df{o:Oper}{a:Act}{xo yo:Operand}{x y:Nat->Nat}{u:World}(hop:o.op=.binOp .neq 107 xo yo 107)(h1:a.eval xo=.agg (aC 96 x))(h2:a.eval yo=.agg (aC 96 y)):(execOp a.eval o).run Tryz.prog u=.ok (.value (.bool (!bT x y 0 96))) u:=by
 unfold execOp;simp only[hop,h1,h2,Sem.run_bind,run_eqGuard_agg (P:=Tryz.prog) u .neq 107 xo yo _ _ (by kernel_rfl),Result.andThen_ok,run_neq_struct,Cj,Sem.run_pure]
