import Derived.Test.YtpiefebngnlfoaaGreatDoorLr
import Derived.Test.YtpiefebngnlfoaaGreatDoorLj
import Derived.Laws.Bits64b
import Derived.Laws.StructEq
set_option maxRecDepth 99999
set_option maxHeartbeats 0
set_option linter.unusedVariables false
set_option linter.unusedSimpArgs false
namespace Go.Vw
open Go.Conc
section
variable {P:Program}{Stop:Goroutine->(Nat->Prop)->World->Prop}{S:Nat->Prop}{v:World}{fn:FuncId}{cs:List Frame}{k:List Item}{n:Nat}{ops:Array Oper}
theorem Oj(ht:jH ops=true)(I:Array Bool->(Nat->Value)->(Nat->Prop)->World->Prop)
  (step:∀l f S v i rest,l.size=ops.size->I l f S v->i∈Region.ready .any ops l->(∀f' S' v',I (l.setIfInBounds i true) f' S' v'->Reach P Stop (G ((base fn).at ⟨TA n f',[]⟩ (.inRegion ops rest::k)) cs) S' v')->Reach P Stop (G ((base fn).at ⟨TA n f,[]⟩ (.inRegion ops (i::rest)::k)) cs) S v)
  (fin:∀l f S v,I l f S v->(∀i,i<ops.size->l.getD i false=true)->Reach P Stop (G ((base fn).at ⟨TA n f,[]⟩ (.inRegion ops []::k)) cs) S v) :
  ∀(fuel t:Nat)(l:Array Bool)(f:Nat->Value)(S:Nat->Prop)(v:World),l.size=ops.size->I l f S v->iG l (List.range ops.size)<=fuel->Reach P Stop (G ((base fn).at ⟨TA n f,[]⟩ (.inRegion ops (Region.linearise.go .any ops fuel t l [])::k)) cs) S v:=by
 intro fuel;induction fuel with
 |zero=>
  intro t l f S v hs hI hle;have h0:=vO (l:=l) (js:=List.range ops.size) (by omega);simp only[Region.linearise.go,List.reverse_nil];refine fin l f S v hI λi hi=>?_
  have:=h0 i (by simpa using hi);simpa [aa,hs,hi] using this
 |succ fuel ih=>
  intro t l f S v hs hI hle;simp only[Region.linearise.go]
  change Reach P Stop (G ((base fn).at ⟨TA n f,[]⟩ (.inRegion ops (match (Region.ready .any ops l)[t%(Region.ready .any ops l).length]? with
   |some i=>Region.linearise.go .any ops fuel (t/(Region.ready .any ops l).length) (l.setIfInBounds i true) [i]
   |none=>[].reverse)::k)) cs) S v
  cases hi:(Region.ready .any ops l)[t%(Region.ready .any ops l).length]? with
  |none=>
   have jy:Region.ready .any ops l=[]:=by
    cases hr:Region.ready .any ops l with
    |nil=>rfl
    |cons x xs=>rw[hr]at hi;have dp:t%(x::xs).length<(x::xs).length:=Nat.mod_lt _ (by simp);rw[List.getElem?_eq_none_iff]at hi;omega
   exact fin l f S v hI (Gc ht hs jy)
  |some i=>
   simp only[];rw[linearise_go_acc,List.reverse_singleton,List.singleton_append];have hm:=al hi;refine step l f S v i _ hs hI hm λf' S' v' xe=>?_
   obtain⟨h1,o,ho,_⟩:=mem_ready.1 hm;have dp:i<ops.size:=(Array.getElem?_eq_some_iff.1 ho).1;refine ih _ _ f' S' v' (by simpa using hs) xe ?_;have:=(wB (l:=l) (i:=i) (by simpa using h1) (List.range ops.size)).2 (by simpa using dp);omega
theorem pJ(hm:P.follows .mixedOrders=true)(ht:jH ops=true){id:Nat}{f:Nat->Value}(I:Array Bool->(Nat->Value)->(Nat->Prop)->World->Prop)(h0:I (Array.replicate ops.size false) f S v)
  (step:∀l f S v i rest,l.size=ops.size->I l f S v->i∈Region.ready .any ops l->(∀f' S' v',I (l.setIfInBounds i true) f' S' v'->Reach P Stop (G ((base fn).at ⟨TA n f',[]⟩ (.inRegion ops rest::k)) cs) S' v')->Reach P Stop (G ((base fn).at ⟨TA n f,[]⟩ (.inRegion ops (i::rest)::k)) cs) S v)
  (fin:∀l f S v,I l f S v->(∀i,i<ops.size->l.getD i false=true)->Reach P Stop (G ((base fn).at ⟨TA n f,[]⟩ (.inRegion ops []::k)) cs) S v) :
  Reach P Stop (G ((base fn).at ⟨TA n f,[]⟩ (.code (.region id ops true)::k)) cs) S v:=by
 refine gJ rfl λW hR=>?_
 refine⟨_,{W with drawn:=W.drawn+1},#[],v,stepG_region_draw,by simp,ae _,λ_ _=>rfl,⟨λj q hj=>by omega,hR.os,hR.output,hR.size,hR.seen,hR.hid,hR.tame,hR.high⟩,?_⟩
 simp only[Region.schedule,hm,Bool.true_or,if_true,Region.linearise];refine Oj ht I step fin _ _ _ _ _ _ (by simp) h0 ?_;have:=wZ (Array.replicate ops.size false) (List.range ops.size);simpa using this
def iS(ops:Array Oper)(m:Nat)(A:List Nat):Bool:=A.all λj=>decide (j<ops.size)&&decide (j≠m)&&(List.range ops.size).any λi=>(decide (i=m)||A.contains i)&&decide (j<i)&&(bQ ops i).contains j
theorem Gb{m:Nat}{A:List Nat}(h:iS ops m A=true){j:Nat}(hj:j∈A):j<ops.size∧j≠m∧∃i,i<ops.size∧(i=m∨i∈A)∧j<i∧j∈bQ ops i:=by have:=List.all_eq_true.1 h j hj;simp only[bq,decide_eq_true_eq,List.any_eq_true,Bool.or_eq_true,List.contains_iff_mem,List.mem_range]at this;obtain⟨⟨h1,h2⟩,i,h3,⟨h4,h5⟩,h6⟩:=this;exact⟨h1,h2,i,h3,h4,h5,by simpa using h6⟩
theorem jS{m:Nat}{A:List Nat}{l:Array Bool}(h:iS ops m A=true)(hc:∀i,l.getD i false=true->∀a∈bQ ops i,l.getD a false=true)(hm:∀a∈bQ ops m,l.getD a false=true):∀d j,ops.size-j<=d->j∈A->l.getD j false=true:=by
 intro d;induction d with
 |zero=>intro j hd hj;have:=(Gb h hj).1;omega
 |succ d ih=>
  intro j hd hj;obtain⟨h1,h2,i,h3,h4,h5,h6⟩:=Gb h hj;rcases h4 with rfl|h4
  .exact hm j h6
  .exact hc i (ih i (by omega) h4) j h6
theorem iY(hm:P.follows .mixedOrders=true)(ht:jH ops=true)(ha:mT ops=true){id:Nat}{f0:Nat->Value}(m:Nat)(A:List Nat)(hA:iS ops m A=true)
  (spec:Nat->Value->World->Prop) (B0:(Nat->Prop)->World->Prop) (B1:(Nat->Prop)->(Nat->Value)->World->Prop) (IF:∀S w w',B0 S w->Ext w w'->B0 S w') (IE:∀S i f x w w',i<ops.size->i ∉ A->i≠m->B1 S f w->Ext w w'->B1 S (aG f (aF ops i) x) w') (ei:∀j x w w',spec j x w->Ext w w'->spec j x w') (mf:∀j,j<ops.size->aF ops j=none->∀x w,spec j x w->spec j undef w) (h0:B0 S v)
  (step:∀i f S w rest,i<ops.size->i≠m->(i∈A->B0 S w)->(∀s,(∀j,j<ops.size->aF ops j≠some s)->f s=f0 s)->(∀a,a∈bQ ops i->spec a (aU ops f a) w)->(∀x w',Ext w w'->spec i x w'->Reach P Stop (G ((base fn).at ⟨TA n (aG f (aF ops i) x),[]⟩ (.inRegion ops rest::k)) cs) S w')->Reach P Stop (G ((base fn).at ⟨TA n f,[]⟩ (.inRegion ops (i::rest)::k)) cs) S w)
  (piv:∀f S w rest,B0 S w->(∀s,(∀j,j<ops.size->aF ops j≠some s)->f s=f0 s)->(∀a,a∈A->spec a (aU ops f a) w)->(∀x S' w',B1 S' (aG f (aF ops m) x) w'->spec m x w'->(∀j y,j≠m->spec j y w->spec j y w')->Reach P Stop (G ((base fn).at ⟨TA n (aG f (aF ops m) x),[]⟩ (.inRegion ops rest::k)) cs) S' w')->Reach P Stop (G ((base fn).at ⟨TA n f,[]⟩ (.inRegion ops (m::rest)::k)) cs) S w)
  (fin:∀f S w,B1 S f w->(∀s,(∀j,j<ops.size->aF ops j≠some s)->f s=f0 s)->(∀j,j<ops.size->spec j (aU ops f j) w)->Reach P Stop (G ((base fn).at ⟨TA n f,[]⟩ (.inRegion ops []::k)) cs) S w) (mg:m<ops.size:=by decide) :
  Reach P Stop (G ((base fn).at ⟨TA n f0,[]⟩ (.code (.region id ops true)::k)) cs) S v:=by
 refine pJ hm ht (λl f S w=>(∀s,(∀j,j<ops.size->aF ops j≠some s)->f s=f0 s)∧(∀j,j<ops.size->l.getD j false=true->spec j (aU ops f j) w)∧(∀i,l.getD i false=true->∀a∈bQ ops i,l.getD a false=true)∧(l.getD m false=false->B0 S w)∧(l.getD m false=true->B1 S f w∧∀a∈A,l.getD a false=true)) ⟨λ_ _=>rfl,λj hj h=>?_,λi h=>?_,λ_=>h0,λh=>?_⟩ ?_ ?_
 .simp[aa,hj]at h
 .exfalso;by_cases hi:i<ops.size
  .simp[aa,hi]at h
  .simp[aa,hi]at h
 .simp[aa,mg]at h
 .rintro l f S w i rest hl ⟨hf,hd,hc,gx,fg⟩ hi dj;obtain⟨h1,o,ho,_⟩:=mem_ready.1 hi;have dp:i<ops.size:=(Array.getElem?_eq_some_iff.1 ho).1;have fp:=kD hi;have ik:l.getD i false=false:=by
   have:l.getD i true=false:=by simpa using h1
   simpa [aa,hl,dp] using this
  have oo:∀a,l.getD a false=true->a<ops.size:=λa h2=>by
   refine Nat.lt_of_not_le λh3=>?_
   rw[<-hl]at h3;simp[aa,af h3]at h2
  have fx:∀j,l.getD j false=true->(l.setIfInBounds i true).getD j false=true:=λj hj=>by
   by_cases e:i=j
   .subst e;have ri:i<l.size:=by omega
    simp[aa,aj,ri]
   .simpa [aa,aj,e] using hj
  have jf:(l.setIfInBounds i true).getD i false=true:=by
   have ri:i<l.size:=by omega
   simp[aa,aj,ri]
  have jk:∀x s,(∀j,j<ops.size->aF ops j≠some s)->aG f (aF ops i) x s=f0 s:=λx s im=>by
   rw[<-hf s im];have:=im i dp;cases om:aF ops i with
   |none=>rfl
   |some t=>
    rw[om]at this;have:s≠t:=λe=>this (by rw[e])
    simp[aG,st,this]
  have fh:∀x w',spec i x w'->(∀j,j<ops.size->j≠i->l.getD j false=true->spec j (aU ops f j) w')->∀j,j<ops.size->(l.setIfInBounds i true).getD j false=true->spec j (aU ops (aG f (aF ops i) x) j) w':=λx w' hs ey j hj jo=>by
   by_cases e:j=i
   .subst e;have:aU ops (aG f (aF ops j) x) j=if (aF ops j).isSome then x else undef:=by
     unfold aU;cases om:aF ops j<;>simp[aG,st]
    rw[this];cases om:aF ops j with
    |some t=>simpa using hs
    |none=>simp only[Option.isSome_none,ay,if_false];exact mf j hj om x w' hs
   .have h2:=(eU jo).resolve_left e;have:aU ops (aG f (aF ops i) x) j=aU ops f j:=by
     unfold aU;cases DX:aF ops j with
     |none=>rfl
     |some t=>
      cases DY:aF ops i with
      |none=>rfl
      |some t'=>
       have dy:t≠t':=λe'=>nT ha hj dp e DX (by rw[DY,e'])
       simp[aG,st,dy]
    rw[this];exact ey j hj e h2
  have ek:∀i',(l.setIfInBounds i true).getD i' false=true->∀a∈bQ ops i',(l.setIfInBounds i true).getD a false=true:=λi' h2 a h3=>by
   rcases eU h2 with rfl|h2
   .exact fx a (fp a h3)
   .exact fx a (hc i' h2 a h3)
  by_cases e:i=m
  .subst e;have ry:∀a∈A,l.getD a false=true:=λa h2=>jS hA hc fp _ a (ae _) h2
   refine piv f S w rest (gx ik) hf (λa h2=>hd a (oo a (ry a h2)) (ry a h2)) λx S' w' hB hs ey=>dj _ _ _ ⟨jk x,fh x w' hs λj hj dy h2=>ey j _ dy (hd j hj h2),ek,λh2=>?_,λ_=>⟨hB,λa h2=>fx a (ry a h2)⟩⟩
   rw[jf]at h2;cases h2
  .have IG:i∈A->B0 S w:=λh2=>gx (by
    cases hb:l.getD m false with
    |false=>rfl
    |true=>
     have:=(fg hb).2 i h2;rw[ik]at this
     cases this)
   refine step i f S w rest dp e IG hf (λa h2=>hd a (oo a (fp a h2)) (fp a h2)) λx w' hE hs=>dj _ _ _ ⟨jk x,fh x w' hs λj hj dy h2=>ei _ _ _ _ (hd j hj h2) hE,ek,λh2=>?_,λh2=>?_⟩
   .refine IF _ _ _ (gx ?_) hE;cases hb:l.getD m false with
    |false=>rfl
    |true=>rw[fx m hb]at h2;cases h2
   .have h3:=(eU h2).resolve_left λe'=>e e'.symm
    refine⟨IE S i f x _ _ dp (λh4=>?_) e (fg h3).1 hE,λa h4=>fx a ((fg h3).2 a h4)⟩
    have:=(fg h3).2 i h4;rw[ik]at this;cases this
 .rintro l f S w ⟨hf,hd,hc,gx,fg⟩ fa;exact fin f S w (fg (fa m mg)).1 hf λj hj=>hd j hj (fa j hj)
theorem Jf{a:Act}{b:Frame}{i:Nat}{rest:List Nat}{o:Oper}{c:Frame}(hk:b.kind=.deferred)(ho:ops[i]?=some o)(hw:Region.wanted o (yielded ops a.tmps)=true)(hr:∀w,(execOp a.eval o).runT P w #[]=(.ok .recover w,#[]))(hm:c.mode=.returning)
  (hn:Reach P Stop (G (b.at (a.put o.dst .nilIface) (.inRegion ops rest::k)) (c::cs)) S v):Reach P Stop (G (b.at a (.inRegion ops (i::rest)::k)) (c::cs)) S v:=by
 refine cP rfl (λw=>?_) hn;have ij:(b.at a (.inRegion ops (i::rest)::k)).finish .nilIface=b.at (a.put o.dst .nilIface) (.inRegion ops rest::k):=by rw[Frame.finish_at,ho];rfl
 obtain⟨e1,e2⟩:=mA (hr w);rw[stepG_oper ho hw,<-ij];simp[stepG.apply,e1,e2,G,Frame.at,hk,GStep.after,tryRecover,hm,seen_none]
theorem Md{a:Act}{b:Frame}{c:Frame}{gf:Func}(hk:b.kind=.deferred)(hd:a.defers=[])(hf:P.funcs[b.fn]?=some gf){y:Value}(hr:∀w,(results gf a.tmps).runT P w #[]=(.ok y w,#[]))(hm:c.mode=.returning)
  {todo:List Item} (hn:Reach P Stop (G c cs) S v):Reach P Stop (G {b.at a todo with mode:=.returning} (c::cs)) S v:=by
 refine cP rfl (λw=>?_) hn;obtain⟨e1,e2⟩:=mA (hr w);simp[G,stepG,unwind,doReturn,Frame.at,hk,hd,hf,e1,e2,hm,seen_none,GStep.after]
end
section
variable {P:Program}{F:FuncId->Bool}{Stop:Goroutine->(Nat->Prop)->World->Prop}{S:Nat->Prop}{v:World}{fn:FuncId}{cs:List Frame}{k:List Item}{n:Nat}{ops:Array Oper}
def kI(ops:Array Oper)(l:Array Bool):Prop:=∀i,l.getD i false=true->∀a∈bQ ops i,l.getD a false=true
theorem sD{l:Array Bool}{i:Nat}(h:kI ops l)(hi:i∈Region.ready .any ops l):kI ops (l.setIfInBounds i true):=by
 have keep:∀j,l.getD j false=true->(l.setIfInBounds i true).getD j false=true:=λj hj=>by
  by_cases e:i=j
  .subst e;have ri:i<l.size:=by
    refine Nat.lt_of_not_le λh3=>?_;simp[aa,af h3]at hj
   simp[aa,aj,ri]
  .simpa [aa,aj,e] using hj
 intro j hj a ha;rcases eU hj with rfl|hj
 .exact keep a (kD hi a ha)
 .exact keep a (h j hj a ha)
def Iu(ops:Array Oper)(j:Nat):Prop:=∀l,kI ops l->j∈Region.ready .any ops l->Region.ready .any ops (l.setIfInBounds j true)=[]
theorem Vg{j:Nat}(h:iS ops j ((List.range ops.size).filter λi=>i != j)=true):Iu ops j:=by
 intro l hc hj;cases hr:Region.ready .any ops (l.setIfInBounds j true) with
 |nil=>rfl
 |cons i rest=>
  exfalso;have hi:i∈Region.ready .any ops (l.setIfInBounds j true):=by rw[hr];simp
  obtain⟨ik,oi,hoi,_⟩:=mem_ready.1 hi;have dp:i<ops.size:=(Array.getElem?_eq_some_iff.1 hoi).1;by_cases e:i=j
  .subst e;rcases Nat.lt_or_ge i l.size with h'|h'
   .simp[h']at ik
   .simp[af h']at ik
  .have h1:=jS h hc (kD hj) _ i (ae _) (by simp[dp,e]);rw[getD_set_ne true (Ne.symm e)]at ik;rcases Nat.lt_or_ge i l.size with h'|h'
   .simp[h']at h1 ik;rw[h1]at ik;cases ik
   .simp[af h']at h1
def iU(P:Program)(F:FuncId->Bool)(Stop:Goroutine->(Nat->Prop)->World->Prop)(S:Nat->Prop)(v:World)(fn:FuncId)(cs:List Frame)(k:List Item)(ops:Array Oper):Nat->Array Bool->Act->Prop
 |0,l,a=>Region.ready .any ops l=[]∧fJ P Stop S v fn cs k ops [] a
 |fuel+1,l,a=>(Region.ready .any ops l=[]->fJ P Stop S v fn cs k ops [] a)∧
  ∀i∈Region.ready .any ops l,(∃o x,ops[i]?=some o∧eX P F S v ops o x a∧iU P F Stop S v fn cs k ops fuel (l.setIfInBounds i true) (a.put o.dst x))∨(Iu ops i∧fJ P Stop S v fn cs k ops [i] a)
theorem Pb(hG:Good P F):∀(fuel t:Nat)(l:Array Bool)(f:Nat->Value),kI ops l->iU P F Stop S v fn cs k ops fuel l ⟨TA n f,[]⟩->fJ P Stop S v fn cs k ops (Region.linearise.go .any ops fuel t l []) ⟨TA n f,[]⟩:=by
 intro fuel;induction fuel with
 |zero=>intro t l f _ h;simpa [Region.linearise.go] using h.2
 |succ fuel ih=>
  intro t l f ml h;obtain⟨h₀,h₁⟩:=h;simp only[Region.linearise.go]
  change fJ P Stop S v fn cs k ops (match (Region.ready .any ops l)[t%(Region.ready .any ops l).length]? with
   |some i=>Region.linearise.go .any ops fuel (t/(Region.ready .any ops l).length) (l.setIfInBounds i true) [i]
   |none=>[].reverse) ⟨TA n f,[]⟩
  cases hi:(Region.ready .any ops l)[t%(Region.ready .any ops l).length]? with
  |none=>
   have jy:Region.ready .any ops l=[]:=by
    cases hr:Region.ready .any ops l with
    |nil=>rfl
    |cons x xs=>rw[hr]at hi;have dp:t%(x::xs).length<(x::xs).length:=Nat.mod_lt _ (by simp);rw[List.getElem?_eq_none_iff]at hi;omega
   exact h₀ jy
  |some i=>
   simp only[];rw[linearise_go_acc,List.reverse_singleton,List.singleton_append];rcases h₁ i (al hi) with⟨o,x,ho,hy,hn⟩|⟨re,hr⟩
   .refine wL hG ho hy ?_;rw[cC]at hn⊢;exact ih _ _ _ (sD ml (al hi)) hn
   .have jy:=re l ml (al hi);have:Region.linearise.go .any ops fuel (t/(Region.ready .any ops l).length) (l.setIfInBounds i true) []=[]:=by
     cases fuel with
     |zero=>simp[Region.linearise.go]
     |succ fuel=>simp only[Region.linearise.go];change (match (Region.ready .any ops (l.setIfInBounds i true))[_%(Region.ready .any ops (l.setIfInBounds i true)).length]? with|some i'=>Region.linearise.go .any ops fuel (_/(Region.ready .any ops (l.setIfInBounds i true)).length) ((l.setIfInBounds i true).setIfInBounds i' true) [i']|none=>[].reverse)=[];rw[jy];rfl
    rw[this];exact hr
theorem De{i:Nat}{oi:Oper}{x:Value}(hi:ops[i]?=some oi)(qw:∀(j:Nat)(o:Oper) cs b,ops[j]?=some o->o.op≠.select cs b):∀(fuel:Nat)(l:Array Bool)(a:Act),(∀j oj,ops[j]?=some oj->j≠i->l.getD j true=false->(∀e∈oj.after,Region.binds .any e=true->e.on≠i)->oi.apart ops oj=true)->kI ops l->i∈Region.ready .any ops l->eX P F S v ops oi x a->iU P F Stop S v fn cs k ops fuel (l.setIfInBounds i true) (a.put oi.dst x)->iU P F Stop S v fn cs k ops (fuel+1) l a:=by
 have keep:∀{o:Oper}{j:Nat}{d:Option Tmp}{u y:Value}{a:Act},ops[j]?=some o->(∀e,d=some e->e ∉ o.looksAt ops)->eX P F S v ops o y a->eX P F S v ops o y (a.put d u):=by
  intro o j d u y a ho hd hy;have zr:=λcs b=>qw j o cs b ho;rcases hy with⟨hw,⟨dx,hr⟩|⟨g,gf,c,args,gq,e1,e2,e3,e4,hc⟩⟩|⟨hw,rfl⟩
  .exact .inl ⟨by rw[wanted_put o a d u hd];exact hw,.inl ⟨dx,λw hu=>by rw[execOp_put o zr a d u hd];exact hr w hu⟩⟩
  .exact .inl ⟨by rw[wanted_put o a d u hd];exact hw,.inr ⟨g,gf,c,args,gq,e1,e2,e3,e4,by rw[lE u e1 hd];exact hc⟩⟩
  .exact .inr ⟨by rw[wanted_put o a d u hd];exact hw,rfl⟩
 have back:∀{o:Oper}{j:Nat}{d:Option Tmp}{u y:Value}{a:Act},ops[j]?=some o->(∀e,d=some e->e ∉ o.looksAt ops)->eX P F S v ops o y (a.put d u)->eX P F S v ops o y a:=by
  intro o j d u y a ho hd hy;have zr:=λcs b=>qw j o cs b ho;rcases hy with⟨hw,⟨dx,hr⟩|⟨g,gf,c,args,gq,e1,e2,e3,e4,hc⟩⟩|⟨hw,rfl⟩
  .exact .inl ⟨by rw[wanted_put o a d u hd]at hw;exact hw,.inl ⟨dx,λw hu=>by have:=hr w hu;rw[execOp_put o zr a d u hd]at this;exact this⟩⟩
  .exact .inl ⟨by rw[wanted_put o a d u hd]at hw;exact hw,.inr ⟨g,gf,c,args,gq,e1,e2,e3,e4,by rw[lE u e1 hd]at hc;exact hc⟩⟩
  .exact .inr ⟨by rw[wanted_put o a d u hd]at hw;exact hw,rfl⟩
 intro fuel;induction fuel with
 |zero=>
  intro l a _ ml hr hy H;refine⟨λh=>(by rw[h]at hr;cases hr),λj hj=>?_⟩;by_cases jz:j=i
  .subst jz;exact .inl ⟨oi,x,hi,hy,H⟩
  .have:=ready_mono hj jz;rw[H.1]at this;cases this
 |succ fuel ih=>
  intro l a mh ml hr hy H;refine⟨λh=>(by rw[h]at hr;cases hr),λj hj=>?_⟩;by_cases jz:j=i
  .subst jz;exact .inl ⟨oi,x,hi,hy,H⟩
  .have h1:=H.2 j (ready_mono hj jz);obtain⟨rh,oj,vt,fa⟩:=mem_ready.1 hj;have qz:∀e∈oj.after,Region.binds .any e=true->e.on≠i:=λe he hb heq=>by
    have h1:=fa e he hb;have h0:=(mem_ready.1 hr).1;rw[heq]at h1;rcases Nat.lt_or_ge i l.size with h'|h'
    .simp[h']at h0 h1;rw[h0]at h1;cases h1
    .simp[af h']at h1
   have qj:=mh j oj vt jz rh qz;obtain⟨q1,q2,q3⟩:=Oper.apart_spec qj;have np:∀c oc,ops[c]?=some oc->c≠i->(l.setIfInBounds j true).getD c true=false->
     (∀e∈oc.after,Region.binds .any e=true->e.on≠i)->oi.apart ops oc=true:=λc oc hc BD ik fe=>by
    refine mh c oc hc BD ?_ fe;by_cases AW:j=c
    .subst AW;exact rh
    .rw[getD_set_ne true AW]at ik;exact ik
   rcases h1 with⟨o',y,qa,CJ,hn⟩|⟨re,_⟩
   .obtain rfl:o'=oj:=by rw[vt]at qa;exact(bm qa).symm
    refine .inl ⟨o',y,vt,back vt q1 CJ,?_⟩;refine ih (l.setIfInBounds j true) (a.put o'.dst y) np (sD ml hj) (ready_mono hr (Ne.symm jz)) (keep hi q3 hy) ?_;rw[Array.setIfInBounds_comm _ _ jz,<-Act.put_comm a x y q2];exact hn
   .have jy:=re l ml hj;have:=ready_mono hr (Ne.symm jz);rw[jy]at this;cases this
def kH(ops:Array Oper)(l:Array Bool):Bool:=(List.range l.size).all λi=>!(l.getD i false)||(bQ ops i).all λa=>l.getD a false
theorem pF{l:Array Bool}(h:kH ops l=true):kI ops l:=by
 intro i hi a ha;have ri:i<l.size:=by refine Nat.lt_of_not_le λh3=>?_;simp[aa,af h3]at hi
 have:=List.all_eq_true.1 h i (by simpa using ri);rw[hi]at this;simp only[Bool.not_true,Bool.false_or]at this;exact List.all_eq_true.1 this a ha
theorem cT{i:Nat}{dst:Option Tmp}{op:Op}{ty:TypeId}{pos:String}{dw:Array Edge}{dv:Option (Nat×Bool)}{x:Value}{fuel:Nat}{l:Array Bool}{f:Nat->Value}(hi:ops[i]?=some ⟨dst,op,ty,pos,dw,dv⟩)
  (hy:∀u,Twin v u->(execOp (Act.eval ⟨TA n f,[]⟩) ⟨dst,op,ty,pos,dw,dv⟩).run P u=.ok (.value x) u) (h:iU P F Stop S v fn cs k ops fuel (l.setIfInBounds i true) ⟨TA n (aG f dst x),[]⟩)
  (hs:Region.noSelect ops=true:=by first|kernel_rfl|decide +kernel) (hf:Region.free .any ops l i=true:=by first|kernel_rfl|decide +kernel) (hr:(Region.ready .any ops l).contains i=true:=by first|kernel_rfl|decide +kernel) (hc:kH ops l=true:=by first|kernel_rfl|decide +kernel)
  (hw:Region.wanted ⟨dst,op,ty,pos,dw,dv⟩ (yielded ops (TA n f))=true:=by first|rfl|(simp[Region.wanted,yielded,eC, *];first|done|fail)) (dx:bW P F ⟨dst,op,ty,pos,dw,dv⟩=true:=by kernel_rfl):iU P F Stop S v fn cs k ops (fuel+1) l ⟨TA n f,[]⟩:=
 De hi (Region.noSelect_spec hs) fuel l _ (Region.free_spec hi hf) (pF hc) (by simpa using hr) (.inl ⟨hw,.inl ⟨dx,hy⟩⟩) (by rw[show(⟨dst,op,ty,pos,dw,dv⟩:Oper).dst=dst from rfl,cC];exact h)
theorem cU(i:Nat){d:Nat}{op:Op}{ty:TypeId}{pos:String}{dw:Array Edge}{dv:Option (Nat×Bool)}{x:Value}{fuel:Nat}{l:Array Bool}{f:Nat->Value}(h:iU P F Stop S v fn cs k ops fuel (l.setIfInBounds i true) ⟨TA n (st f d x),[]⟩)(hi:ops[i]?=some ⟨some d,op,ty,pos,dw,dv⟩:=by rfl)
  (hy:∀u,Twin v u->∀K:Result Go.Next->Prop,K (.ok (.value x) u)->K ((execOp (Act.eval ⟨TA n f,[]⟩) ⟨some d,op,ty,pos,dw,dv⟩).run P u):=by intro _ dt K_ dr;go_simp;(try rw[wI _]);(try rw[wU _]);exact dr) (hs:Region.noSelect ops=true:=by first|kernel_rfl|decide +kernel) (hf:Region.free .any ops l i=true:=by first|kernel_rfl|decide +kernel) (hr:(Region.ready .any ops l).contains i=true:=by first|kernel_rfl|decide +kernel) (hc:kH ops l=true:=by first|kernel_rfl|decide +kernel)
  (hw:Region.wanted ⟨some d,op,ty,pos,dw,dv⟩ (yielded ops (TA n f))=true:=by first|rfl|(simp[Region.wanted,yielded,eC, *];first|done|fail)) (dx:bW P F ⟨some d,op,ty,pos,dw,dv⟩=true:=by kernel_rfl):iU P F Stop S v fn cs k ops (fuel+1) l ⟨TA n f,[]⟩:=cT hi (λu hu=>run_eq_of (hy u hu)) h hs hf hr hc hw dx
theorem Sy{i:Nat}{dst:Option Tmp}{ty:TypeId}{pos:String}{dw:Array Edge}{dv:Option (Nat×Bool)}{x:Value}{fuel:Nat}{l:Array Bool}{f:Nat->Value}{g:FuncId}{gf:Func}{c:Code}{args:Array Operand}{gq:Array TypeId}{vs:Array Value}(hi:ops[i]?=some ⟨dst,.call {callee:=.value (.func g),args,argTypes:=gq},ty,pos,dw,dv⟩)
  (ny:P.funcs[g]?=some gf) (hb:gf.body=some c) (qe:args.map (Act.eval ⟨TA n f,[]⟩)=vs) (jm:aJ P g vs S v λy S' v'=>y=x∧S'=S∧v'=v) (h:iU P F Stop S v fn cs k ops fuel (l.setIfInBounds i true) ⟨TA n (aG f dst x),[]⟩)
  (fv:(gf.name == "runtime.NumGoroutine")=false:=by kernel_rfl) (hs:Region.noSelect ops=true:=by first|kernel_rfl|decide +kernel) (hf:Region.free .any ops l i=true:=by first|kernel_rfl|decide +kernel) (hr:(Region.ready .any ops l).contains i=true:=by first|kernel_rfl|decide +kernel) (hc:kH ops l=true:=by first|kernel_rfl|decide +kernel)
  (hw:Region.wanted ⟨dst,.call {callee:=.value (.func g),args,argTypes:=gq},ty,pos,dw,dv⟩ (yielded ops (TA n f))=true:=by first|rfl|(simp[Region.wanted,yielded,eC, *];first|done|fail)):iU P F Stop S v fn cs k ops (fuel+1) l ⟨TA n f,[]⟩:=
 De hi (Region.noSelect_spec hs) fuel l _ (Region.free_spec hi hf) (pF hc) (by simpa using hr) (.inl ⟨hw,.inr ⟨g,gf,c,args,gq,rfl,ny,fv,hb,by rw[qe];exact jm⟩⟩) (by rw[show(⟨dst,.call {callee:=.value (.func g),args,argTypes:=gq},ty,pos,dw,dv⟩:Oper).dst=dst from rfl,cC];exact h)
theorem cL{l:Array Bool}{f:Nat->Value}(j:Nat){fuel:Nat}(h:Reach P Stop (G ((base fn).at ⟨TA n f,[]⟩ (.inRegion ops [j]::k)) cs) S v)(hr:Region.ready .any ops l=[j]:=by first|kernel_rfl|decide +kernel)(hl:iS ops j ((List.range ops.size).filter λi=>i != j)=true:=by first|kernel_rfl|decide +kernel):iU P F Stop S v fn cs k ops (fuel+1) l ⟨TA n f,[]⟩:=
 ⟨λh0=>(by rw[hr]at h0;cases h0),λi hi=>(by
  rw[hr]at hi;obtain rfl:i=j:=by simpa using hi
  exact .inr ⟨Vg hl,h⟩)⟩
theorem iZ(hG:Good P F)(hm:P.follows .mixedOrders=true){id:Nat}{f:Nat->Value}(h:iU P F Stop S v fn cs k ops ops.size (Array.replicate ops.size false) ⟨TA n f,[]⟩):Reach P Stop (G ((base fn).at ⟨TA n f,[]⟩ (.code (.region id ops true)::k)) cs) S v:=by
 refine gJ rfl λW hR=>?_;refine⟨_,{W with drawn:=W.drawn+1},#[],v,stepG_region_draw,by simp,ae _,λ_ _=>rfl,⟨λj q hj=>by omega,hR.os,hR.output,hR.size,hR.seen,hR.hid,hR.tame,hR.high⟩,?_⟩
 simp only[Region.schedule,hm,Bool.true_or,if_true,Region.linearise];refine Pb hG _ _ _ _ (λi hi=>?_) h;exfalso;by_cases h':i<ops.size
 .simp[aa,h']at hi
 .simp[aa,h']at hi
end
section
variable {P:Program}{F:FuncId->Bool}{Stop:Goroutine->(Nat->Prop)->World->Prop}{S:Nat->Prop}{v:World}{fn:FuncId}{cs:List Frame}{k:List Item}{n:Nat}{ops:Array Oper}
def qR(ops:Array Oper)(l:Array Bool):List Nat->Bool
 |[]=>(Region.ready .any ops l).isEmpty
 |i::js=>Region.ready .any ops l == [i]&&qR ops (l.setIfInBounds i true) js
theorem Gp:∀(js:List Nat)(l:Array Bool)(fuel t:Nat),qR ops l js=true->js.length<=fuel->Region.linearise.go .any ops fuel t l []=js
 |[],l,0,t,_,_=>by simp[Region.linearise.go]
 |[],l,fuel+1,t,h,_=>by have jy:Region.ready .any ops l=[]:=List.isEmpty_iff.1 h;simp only[Region.linearise.go];change (match (Region.ready .any ops l)[_%(Region.ready .any ops l).length]? with|some i'=>Region.linearise.go .any ops fuel (_/(Region.ready .any ops l).length) (l.setIfInBounds i' true) [i']|none=>[].reverse)=[];rw[jy];rfl
 |i::js,l,0,t,_,h=>by simp at h
 |i::js,l,fuel+1,t,h,hf=>by unfold qR at h;rw[bq,beq_iff_eq]at h;simp only[Region.linearise.go];change (match (Region.ready .any ops l)[_%(Region.ready .any ops l).length]? with|some i'=>Region.linearise.go .any ops fuel (_/(Region.ready .any ops l).length) (l.setIfInBounds i' true) [i']|none=>[].reverse)=i::js;rw[h.1];simp only[List.length_singleton,Nat.mod_one,List.getElem?_cons_zero];rw[linearise_go_acc,List.reverse_singleton,List.singleton_append,Gp js _ _ _ h.2 (by simp at hf;omega)]
def Ih(ops:Array Oper)(i:Nat)(js:List Nat):Prop:=∀l,kI ops l->l.size=ops.size->i∈Region.ready .any ops l->Region.ready .any ops l=[i]∧qR ops (l.setIfInBounds i true) js=true
def oQ(ops:Array Oper)(js:List Nat):Array Bool:=(Array.range ops.size).map λi=>!js.contains i
def zG(ops:Array Oper)(i:Nat)(js:List Nat):Bool:=iS ops i ((List.range ops.size).filter λa=>!(i::js).contains a)&&js.all (λj=>iS ops j (i::js.takeWhile (· != j)))&&Region.ready .any ops (oQ ops (i::js)) == [i]&&qR ops ((oQ ops (i::js)).setIfInBounds i true) js
theorem Vv{i:Nat}{js:List Nat}(h:zG ops i js=true):Ih ops i js:=by
 intro l hc fo hi;unfold zG at h;simp only[bq,beq_iff_eq]at h;obtain⟨⟨⟨h1,h2⟩,h3⟩,h4⟩:=h;have ik:l.getD i false=false:=by
  have:=(mem_ready.1 hi).1;rcases Nat.lt_or_ge i l.size with h'|h'
  .simpa [h'] using this
  .simp[af h']at this
 have hl:l=oQ ops (i::js):=by
  apply Array.ext (by simp[oQ,fo]);intro a ha VP;have hg:l[a]=l.getD a false:=by simp[ha]
  have dp:a<ops.size:=by omega
  rw[show(oQ ops (i::js))[a]=!(i::js).contains a by simp[oQ],hg];cases hm:(i::js).contains a with
  |false=>refine jS h1 hc (kD hi) _ a (ae _) ?_;rw[List.mem_filter];exact⟨List.mem_range.2 dp,by rw[hm];rfl⟩
  |true=>
   show l.getD a false=false;rcases List.mem_cons.1 (List.contains_iff_mem.1 hm) with rfl|hj
   .exact ik
   .cases hd:l.getD a false with
    |false=>rfl
    |true=>have:=jS (List.all_eq_true.1 h2 a hj) hc (hc a hd) _ i (ae _) (bw ..);rw[ik]at this;exact this.symm▸rfl
 rw[hl];exact⟨h3,h4⟩
def fZ(P:Program)(F:FuncId->Bool)(Stop:Goroutine->(Nat->Prop)->World->Prop)(S:Nat->Prop)(v:World)(fn:FuncId)(cs:List Frame)(k:List Item)(ops:Array Oper):Nat->Array Bool->Act->Prop
 |0,l,a=>Region.ready .any ops l=[]∧fJ P Stop S v fn cs k ops [] a
 |fuel+1,l,a=>(Region.ready .any ops l=[]->fJ P Stop S v fn cs k ops [] a)∧
  ∀i∈Region.ready .any ops l,(∃o x,ops[i]?=some o∧eX P F S v ops o x a∧fZ P F Stop S v fn cs k ops fuel (l.setIfInBounds i true) (a.put o.dst x))∨(∃js,Ih ops i js∧js.length<=fuel∧fJ P Stop S v fn cs k ops (i::js) a)
theorem Pa(hG:Good P F):∀(fuel t:Nat)(l:Array Bool)(f:Nat->Value),kI ops l->l.size=ops.size->fZ P F Stop S v fn cs k ops fuel l ⟨TA n f,[]⟩->fJ P Stop S v fn cs k ops (Region.linearise.go .any ops fuel t l []) ⟨TA n f,[]⟩:=by
 intro fuel;induction fuel with
 |zero=>intro t l f _ _ h;simpa [Region.linearise.go] using h.2
 |succ fuel ih=>
  intro t l f ml fo h;obtain⟨h₀,h₁⟩:=h;simp only[Region.linearise.go]
  change fJ P Stop S v fn cs k ops (match (Region.ready .any ops l)[t%(Region.ready .any ops l).length]? with
   |some i=>Region.linearise.go .any ops fuel (t/(Region.ready .any ops l).length) (l.setIfInBounds i true) [i]
   |none=>[].reverse) ⟨TA n f,[]⟩
  cases hi:(Region.ready .any ops l)[t%(Region.ready .any ops l).length]? with
  |none=>
   have jy:Region.ready .any ops l=[]:=by
    cases hr:Region.ready .any ops l with
    |nil=>rfl
    |cons x xs=>rw[hr]at hi;have dp:t%(x::xs).length<(x::xs).length:=Nat.mod_lt _ (by simp);rw[List.getElem?_eq_none_iff]at hi;omega
   exact h₀ jy
  |some i=>
   simp only[];rw[linearise_go_acc,List.reverse_singleton,List.singleton_append];rcases h₁ i (al hi) with⟨o,x,ho,hy,hn⟩|⟨js,SZ,hle,hr⟩
   .refine wL hG ho hy ?_;rw[cC]at hn⊢;exact ih _ _ _ (sD ml (al hi)) (by simpa using fo) hn
   .rw[Gp js _ _ _ (SZ l ml fo (al hi)).2 hle];exact hr
theorem wW{i:Nat}{oi:Oper}{x:Value}(hi:ops[i]?=some oi)(qw:∀(j:Nat)(o:Oper) cs b,ops[j]?=some o->o.op≠.select cs b):∀(fuel:Nat)(l:Array Bool)(a:Act),(∀j oj,ops[j]?=some oj->j≠i->l.getD j true=false->(∀e∈oj.after,Region.binds .any e=true->e.on≠i)->oi.apart ops oj=true)->kI ops l->l.size=ops.size->i∈Region.ready .any ops l->eX P F S v ops oi x a->fZ P F Stop S v fn cs k ops fuel (l.setIfInBounds i true) (a.put oi.dst x)->fZ P F Stop S v fn cs k ops (fuel+1) l a:=by
 have keep:∀{o:Oper}{j:Nat}{d:Option Tmp}{u y:Value}{a:Act},ops[j]?=some o->(∀e,d=some e->e ∉ o.looksAt ops)->eX P F S v ops o y a->eX P F S v ops o y (a.put d u):=by
  intro o j d u y a ho hd hy;have zr:=λcs b=>qw j o cs b ho;rcases hy with⟨hw,⟨dx,hr⟩|⟨g,gf,c,args,gq,e1,e2,e3,e4,hc⟩⟩|⟨hw,rfl⟩
  .exact .inl ⟨by rw[wanted_put o a d u hd];exact hw,.inl ⟨dx,λw hu=>by rw[execOp_put o zr a d u hd];exact hr w hu⟩⟩
  .exact .inl ⟨by rw[wanted_put o a d u hd];exact hw,.inr ⟨g,gf,c,args,gq,e1,e2,e3,e4,by rw[lE u e1 hd];exact hc⟩⟩
  .exact .inr ⟨by rw[wanted_put o a d u hd];exact hw,rfl⟩
 have back:∀{o:Oper}{j:Nat}{d:Option Tmp}{u y:Value}{a:Act},ops[j]?=some o->(∀e,d=some e->e ∉ o.looksAt ops)->eX P F S v ops o y (a.put d u)->eX P F S v ops o y a:=by
  intro o j d u y a ho hd hy;have zr:=λcs b=>qw j o cs b ho;rcases hy with⟨hw,⟨dx,hr⟩|⟨g,gf,c,args,gq,e1,e2,e3,e4,hc⟩⟩|⟨hw,rfl⟩
  .exact .inl ⟨by rw[wanted_put o a d u hd]at hw;exact hw,.inl ⟨dx,λw hu=>by have:=hr w hu;rw[execOp_put o zr a d u hd]at this;exact this⟩⟩
  .exact .inl ⟨by rw[wanted_put o a d u hd]at hw;exact hw,.inr ⟨g,gf,c,args,gq,e1,e2,e3,e4,by rw[lE u e1 hd]at hc;exact hc⟩⟩
  .exact .inr ⟨by rw[wanted_put o a d u hd]at hw;exact hw,rfl⟩
 intro fuel;induction fuel with
 |zero=>
  intro l a _ ml fo hr hy H;refine⟨λh=>(by rw[h]at hr;cases hr),λj hj=>?_⟩;by_cases jz:j=i
  .subst jz;exact .inl ⟨oi,x,hi,hy,H⟩
  .have:=ready_mono hj jz;rw[H.1]at this;cases this
 |succ fuel ih=>
  intro l a mh ml fo hr hy H;refine⟨λh=>(by rw[h]at hr;cases hr),λj hj=>?_⟩;by_cases jz:j=i
  .subst jz;exact .inl ⟨oi,x,hi,hy,H⟩
  .have h1:=H.2 j (ready_mono hj jz);obtain⟨rh,oj,vt,fa⟩:=mem_ready.1 hj;have qz:∀e∈oj.after,Region.binds .any e=true->e.on≠i:=λe he hb heq=>by
    have h1:=fa e he hb;have h0:=(mem_ready.1 hr).1;rw[heq]at h1;rcases Nat.lt_or_ge i l.size with h'|h'
    .simp[h']at h0 h1;rw[h0]at h1;cases h1
    .simp[af h']at h1
   have qj:=mh j oj vt jz rh qz;obtain⟨q1,q2,q3⟩:=Oper.apart_spec qj;have np:∀c oc,ops[c]?=some oc->c≠i->(l.setIfInBounds j true).getD c true=false->
     (∀e∈oc.after,Region.binds .any e=true->e.on≠i)->oi.apart ops oc=true:=λc oc hc BD ik fe=>by
    refine mh c oc hc BD ?_ fe;by_cases AW:j=c
    .subst AW;exact rh
    .rw[getD_set_ne true AW]at ik;exact ik
   rcases h1 with⟨o',y,qa,CJ,hn⟩|⟨js,SZ,_⟩
   .obtain rfl:o'=oj:=by rw[vt]at qa;exact(bm qa).symm
    refine .inl ⟨o',y,vt,back vt q1 CJ,?_⟩;refine ih (l.setIfInBounds j true) (a.put o'.dst y) np (sD ml hj) (by simpa using fo) (ready_mono hr (Ne.symm jz)) (keep hi q3 hy) ?_;rw[Array.setIfInBounds_comm _ _ jz,<-Act.put_comm a x y q2];exact hn
   .have GN:=(SZ l ml fo hj).1;rw[GN]at hr;exact absurd (List.mem_singleton.1 hr).symm jz
theorem hT{i:Nat}{dst:Option Tmp}{op:Op}{ty:TypeId}{pos:String}{dw:Array Edge}{dv:Option (Nat×Bool)}{x:Value}{fuel:Nat}{l:Array Bool}{f:Nat->Value}(hi:ops[i]?=some ⟨dst,op,ty,pos,dw,dv⟩)
  (hy:∀u,Twin v u->(execOp (Act.eval ⟨TA n f,[]⟩) ⟨dst,op,ty,pos,dw,dv⟩).run P u=.ok (.value x) u) (h:fZ P F Stop S v fn cs k ops fuel (l.setIfInBounds i true) ⟨TA n (aG f dst x),[]⟩)
  (hs:Region.noSelect ops=true:=by first|kernel_rfl|decide +kernel) (hf:Region.free .any ops l i=true:=by first|kernel_rfl|decide +kernel) (hr:(Region.ready .any ops l).contains i=true:=by first|kernel_rfl|decide +kernel) (hc:kH ops l=true:=by first|kernel_rfl|decide +kernel) (hz:l.size=ops.size:=by first|kernel_rfl|decide +kernel)
  (hw:Region.wanted ⟨dst,op,ty,pos,dw,dv⟩ (yielded ops (TA n f))=true:=by first|rfl|(simp[Region.wanted,yielded,eC, *];first|done|fail)) (dx:bW P F ⟨dst,op,ty,pos,dw,dv⟩=true:=by kernel_rfl):fZ P F Stop S v fn cs k ops (fuel+1) l ⟨TA n f,[]⟩:=
 wW hi (Region.noSelect_spec hs) fuel l _ (Region.free_spec hi hf) (pF hc) hz (by simpa using hr) (.inl ⟨hw,.inl ⟨dx,hy⟩⟩) (by rw[show(⟨dst,op,ty,pos,dw,dv⟩:Oper).dst=dst from rfl,cC];exact h)
theorem hP{i:Nat}{dst:Option Tmp}{op:Op}{ty:TypeId}{pos:String}{dw:Array Edge}{dv:Option (Nat×Bool)}{fuel:Nat}{l:Array Bool}{f:Nat->Value}(hi:ops[i]?=some ⟨dst,op,ty,pos,dw,dv⟩)
  (h:fZ P F Stop S v fn cs k ops fuel (l.setIfInBounds i true) ⟨TA n (aG f dst undef),[]⟩)
  (hs:Region.noSelect ops=true:=by first|kernel_rfl|decide +kernel) (hf:Region.free .any ops l i=true:=by first|kernel_rfl|decide +kernel) (hr:(Region.ready .any ops l).contains i=true:=by first|kernel_rfl|decide +kernel) (hc:kH ops l=true:=by first|kernel_rfl|decide +kernel) (hz:l.size=ops.size:=by first|kernel_rfl|decide +kernel)
  (hw:Region.wanted ⟨dst,op,ty,pos,dw,dv⟩ (yielded ops (TA n f))=false:=by first|rfl|(simp[Region.wanted,yielded,eC, *];first|done|fail)):fZ P F Stop S v fn cs k ops (fuel+1) l ⟨TA n f,[]⟩:=
 wW (x:=undef) hi (Region.noSelect_spec hs) fuel l _ (Region.free_spec hi hf) (pF hc) hz (by simpa using hr) (.inr ⟨hw,rfl⟩) (by rw[show(⟨dst,op,ty,pos,dw,dv⟩:Oper).dst=dst from rfl,cC];exact h)
theorem hU(i:Nat){d:Nat}{op:Op}{ty:TypeId}{pos:String}{dw:Array Edge}{dv:Option (Nat×Bool)}{x:Value}{fuel:Nat}{l:Array Bool}{f:Nat->Value}(h:fZ P F Stop S v fn cs k ops fuel (l.setIfInBounds i true) ⟨TA n (st f d x),[]⟩)(hi:ops[i]?=some ⟨some d,op,ty,pos,dw,dv⟩:=by rfl)
  (hy:∀u,Twin v u->∀K:Result Go.Next->Prop,K (.ok (.value x) u)->K ((execOp (Act.eval ⟨TA n f,[]⟩) ⟨some d,op,ty,pos,dw,dv⟩).run P u):=by intro _ dt K_ dr;go_simp;(try rw[wI _]);(try rw[wU _]);exact dr) (hs:Region.noSelect ops=true:=by first|kernel_rfl|decide +kernel) (hf:Region.free .any ops l i=true:=by first|kernel_rfl|decide +kernel) (hr:(Region.ready .any ops l).contains i=true:=by first|kernel_rfl|decide +kernel) (hc:kH ops l=true:=by first|kernel_rfl|decide +kernel) (hz:l.size=ops.size:=by first|kernel_rfl|decide +kernel)
  (hw:Region.wanted ⟨some d,op,ty,pos,dw,dv⟩ (yielded ops (TA n f))=true:=by first|rfl|(simp[Region.wanted,yielded,eC, *];first|done|fail)) (dx:bW P F ⟨some d,op,ty,pos,dw,dv⟩=true:=by kernel_rfl):fZ P F Stop S v fn cs k ops (fuel+1) l ⟨TA n f,[]⟩:=hT hi (λu hu=>run_eq_of (hy u hu)) h hs hf hr hc hz hw dx
theorem hV(i:Nat){d:Nat}{op:Op}{ty:TypeId}{pos:String}{dw:Array Edge}{dv:Option (Nat×Bool)}{fuel:Nat}{l:Array Bool}{f:Nat->Value}(h:fZ P F Stop S v fn cs k ops fuel (l.setIfInBounds i true) ⟨TA n (st f d undef),[]⟩)(hi:ops[i]?=some ⟨some d,op,ty,pos,dw,dv⟩:=by rfl)
  (hs:Region.noSelect ops=true:=by first|kernel_rfl|decide +kernel) (hf:Region.free .any ops l i=true:=by first|kernel_rfl|decide +kernel) (hr:(Region.ready .any ops l).contains i=true:=by first|kernel_rfl|decide +kernel) (hc:kH ops l=true:=by first|kernel_rfl|decide +kernel) (hz:l.size=ops.size:=by first|kernel_rfl|decide +kernel)
  (hw:Region.wanted ⟨some d,op,ty,pos,dw,dv⟩ (yielded ops (TA n f))=false:=by first|rfl|(simp[Region.wanted,yielded,eC, *];first|done|fail)):fZ P F Stop S v fn cs k ops (fuel+1) l ⟨TA n f,[]⟩:=hP hi h hs hf hr hc hz hw
theorem hC{i:Nat}{dst:Option Tmp}{ty:TypeId}{pos:String}{dw:Array Edge}{dv:Option (Nat×Bool)}{x:Value}{fuel:Nat}{l:Array Bool}{f:Nat->Value}{g:FuncId}{gf:Func}{c:Code}{args:Array Operand}{gq:Array TypeId}{vs:Array Value}(hi:ops[i]?=some ⟨dst,.call {callee:=.value (.func g),args,argTypes:=gq},ty,pos,dw,dv⟩)
  (ny:P.funcs[g]?=some gf) (hb:gf.body=some c) (qe:args.map (Act.eval ⟨TA n f,[]⟩)=vs) (jm:aJ P g vs S v λy S' v'=>y=x∧S'=S∧v'=v) (h:fZ P F Stop S v fn cs k ops fuel (l.setIfInBounds i true) ⟨TA n (aG f dst x),[]⟩)
  (fv:(gf.name == "runtime.NumGoroutine")=false:=by kernel_rfl) (hs:Region.noSelect ops=true:=by first|kernel_rfl|decide +kernel) (hf:Region.free .any ops l i=true:=by first|kernel_rfl|decide +kernel) (hr:(Region.ready .any ops l).contains i=true:=by first|kernel_rfl|decide +kernel) (hc:kH ops l=true:=by first|kernel_rfl|decide +kernel) (hz:l.size=ops.size:=by first|kernel_rfl|decide +kernel)
  (hw:Region.wanted ⟨dst,.call {callee:=.value (.func g),args,argTypes:=gq},ty,pos,dw,dv⟩ (yielded ops (TA n f))=true:=by first|rfl|(simp[Region.wanted,yielded,eC, *];first|done|fail)):fZ P F Stop S v fn cs k ops (fuel+1) l ⟨TA n f,[]⟩:=
 wW hi (Region.noSelect_spec hs) fuel l _ (Region.free_spec hi hf) (pF hc) hz (by simpa using hr) (.inl ⟨hw,.inr ⟨g,gf,c,args,gq,rfl,ny,fv,hb,by rw[qe];exact jm⟩⟩) (by rw[show(⟨dst,.call {callee:=.value (.func g),args,argTypes:=gq},ty,pos,dw,dv⟩:Oper).dst=dst from rfl,cC];exact h)
theorem hD{l:Array Bool}{f:Nat->Value}{fuel:Nat}(h:Reach P Stop (G ((base fn).at ⟨TA n f,[]⟩ (.inRegion ops []::k)) cs) S v)(hr:Region.ready .any ops l=[]:=by first|kernel_rfl|decide +kernel):fZ P F Stop S v fn cs k ops fuel l ⟨TA n f,[]⟩:=by
 cases fuel with
 |zero=>exact⟨hr,h⟩
 |succ fuel=>exact⟨λ_=>h,λi hi=>by rw[hr]at hi;cases hi⟩
theorem hL{l:Array Bool}{f:Nat->Value}(j:Nat)(js:List Nat){fuel:Nat}(h:Reach P Stop (G ((base fn).at ⟨TA n f,[]⟩ (.inRegion ops (j::js)::k)) cs) S v)(hr:Region.ready .any ops l=[j]:=by first|kernel_rfl|decide +kernel)(hl:zG ops j js=true:=by first|kernel_rfl|decide +kernel)(hle:js.length<=fuel:=by first|kernel_rfl|decide +kernel):fZ P F Stop S v fn cs k ops (fuel+1) l ⟨TA n f,[]⟩:=
 ⟨λh0=>(by rw[hr]at h0;cases h0),λi hi=>(by
  rw[hr]at hi;obtain rfl:i=j:=by simpa using hi
  exact .inr ⟨js,Vv hl,hle,h⟩)⟩
theorem Bf(hG:Good P F)(hm:P.follows .mixedOrders=true){id:Nat}{f:Nat->Value}(h:fZ P F Stop S v fn cs k ops ops.size (Array.replicate ops.size false) ⟨TA n f,[]⟩):Reach P Stop (G ((base fn).at ⟨TA n f,[]⟩ (.code (.region id ops true)::k)) cs) S v:=by
 refine gJ rfl λW hR=>?_;refine⟨_,{W with drawn:=W.drawn+1},#[],v,stepG_region_draw,by simp,ae _,λ_ _=>rfl,⟨λj q hj=>by omega,hR.os,hR.output,hR.size,hR.seen,hR.hid,hR.tame,hR.high⟩,?_⟩
 simp only[Region.schedule,hm,Bool.true_or,if_true,Region.linearise];refine Pa hG _ _ _ _ (λi hi=>?_) (by simp) h;exfalso;by_cases h':i<ops.size
 .simp[aa,h']at hi
 .simp[aa,h']at hi
end
end Go.Vw
namespace Go.Proofs.YtpiefebngnlfoaaGreatDoor
open Go.RowKit Go.Conc Go.Vw
def bX(N i:Nat):Nat:=N/256^i%256
theorem tC(N i:Nat):bX N i<256:=Nat.mod_lt _ (by omega)
theorem zR(j:Nat):2^(8*j)=256^j:=by rw[Nat.pow_mul]
theorem Uv(N j:Nat):N%256^(j+1)=bX N j*256^j+N%256^j:=by unfold bX;rw[Nat.pow_succ,Nat.mod_mul,Nat.add_comm,Nat.mul_comm]
theorem Xk(N j:Nat)(hj:j<8):bits .or .u64 ((N%256^j:Nat):Int) ((bX N j*256^j:Nat):Int)=((N%256^(j+1):Nat):Int):=by
 have h0:N%256^j<256^j:=Nat.mod_lt _ (Nat.pow_pos (by omega));have h1:=tC N j;have hp:256^j*256<=18446744073709551616:=by
  have:256^j*256=256^(j+1):=(Nat.pow_succ ..).symm;rw[this]
  calc 256^(j+1)<=256^8:=Nat.pow_le_pow_right (by omega) (by omega)
   _=18446744073709551616:=by decide
 have h2:bX N j*256^j+256^j<=256^j*256:=by have:(bX N j+1)*256^j<=256*256^j:=Nat.mul_le_mul_right _ (by omega);rw[Nat.add_mul,Nat.one_mul]at this;omega
 rw[bits_or_u64_nat _ _ (by omega) (by omega),Uv,Nat.or_comm];congr 1;rw[<-zR]at h0⊢;rw[<-Nat.shiftLeft_eq,Nat.shiftLeft_add_eq_or_of_lt h0]
theorem lA{S:Nat->Prop}{v:World}(B off n c N:Nat)(hn:n<=8)(hc:n<=c)(hz:∀i,i<n->v.cell? ⟨B,off+i,none⟩=some (.int .u8 (bX N i:Nat))):aJ Tryz.prog 102 #[.slice (some ⟨B,off,none⟩) n c] S v λx S' v'=>x=.int .u64 ((N%256^n:Nat):Int)∧S'=S∧v'=v:=by
 refine dX Tryz.func102 rfl Tryz.ntmps102 λStop cc cs ret f g0=>?_
 repeat refine rN ?_
 refine bF (λd f' S' v'=>∃j,d=n-j∧j<=n∧S'=S∧v'=v∧f' 6=.slice (some ⟨B,off,none⟩) n c∧f' 7=.int .i64 (n:Nat)∧f' 8=.int .i64 (j:Nat)∧f' 3=.int .u64 ((N%256^j:Nat):Int)) n ⟨0,by omega,by omega,rfl,rfl,by simp[g0],by simp[g0],by simp,by simp[Nat.mod_one]⟩ ?_;clear g0 f;rintro d f S' v' ⟨j,rfl,hj,eS,eV,g6,g7,g8,g3⟩ dj;subst S' v';repeat refine rN ?_
 by_cases dp:j<n
 .have ja:(j:Int)<(n:Int):=by omega
  have h8:8*(j:Int)<64:=by omega
  have h0:¬8*(j:Int)<0:=by omega
  have AA:=hz j dp;have hb:=tC N j;have e1:=Xk N j (by omega);have e2:(8*(j:Int)).toNat=8*j:=by omega
  have e3:IntKind.u64.wrap ((bX N j:Nat):Int)=((bX N j:Nat):Int):=by rw[IntKind.wrap_u64];omega
  have ko:bX N j*256^j<18446744073709551616:=by
   calc bX N j*256^j<256*256^j:=Nat.mul_lt_mul_of_pos_right hb (Nat.pow_pos (by omega))
    _=256^(j+1):=by rw[Nat.pow_succ,Nat.mul_comm]
    _<=256^8:=Nat.pow_le_pow_right (by omega) (by omega)
    _=18446744073709551616:=by decide
  have e4:IntKind.u64.wrap (((bX N j:Nat):Int)*2^(8*j))=((bX N j*256^j:Nat):Int):=by
   have:((bX N j:Nat):Int)*2^(8*j)=((bX N j*256^j:Nat):Int):=by rw[<-zR];push_cast;rfl
   rw[this,IntKind.wrap_u64];omega
  have HE1:=aP e1;have A0:=aP e3;have UQ:=aP e4;have HB:=aP ko;clear e1 e3 e4 ko;refine rX (by simp[Act.eval,g8,g7,ja,dp]) ?_;repeat refine rM AA ?_
  refine dj _ _ _ (n-(j+1)) (by omega) ⟨j+1,rfl,by omega,rfl,rfl,by simp[g6],by simp[g7],by simp,?_⟩;have q:=HE1.out;push_cast at q;simp[A0.out,e2,UQ.out];exact q
 .obtain rfl:j=n:=by omega
  refine rZ (by simp[Act.eval,g8,g7]) ?_;refine bC rfl ?_;repeat refine rN ?_
  refine aM λtodo=>?_;refine ret _ _ _ _ (.int .u64 ((N%256^j:Nat):Int)) ?_ ⟨rfl,rfl,rfl⟩;simp[results,Tryz.results102]
def eN(x:Nat->Nat)(off n N i:Nat):Nat:=if off<=i∧i<off+n then bX N (i-off) else x i
theorem Qw(x:Nat->Nat)(off N:Nat):eN x off 0 N=x:=by funext i;unfold eN;rw[ah (by omega)]
theorem Qx(m:Nat)(x:Nat->Nat)(off n N:Nat):(aE m (eN x off n N)).setIfInBounds (off+n) (.int .u8 ((bX N n:Nat):Int))=aE m (eN x off (n+1) N):=by
 rw[Cy];refine gP λi _=>?_;unfold eN;by_cases e:i=off+n
 .subst e;rw[ai rfl,ai (by omega)];congr 1;omega
 .rw[ah e];by_cases h:off<=i∧i<off+n
  .rw[ai h,ai (by omega)]
  .rw[ah h,ah (by omega)]
theorem Te{v w w':World}{g:Nat}{o o':Obj}(h:Wr v g o w)(h':Wr w g o' w'):Wr v g o' w':=
 ⟨h'.at_,λb hb=>(h'.other b hb).trans (h.other b hb),h'.size.trans h.size,h'.os.trans h.os,h'.output.trans h.output⟩
theorem Wp{v:World}{g:Nat}{o:Obj}(h:v.heap[g]?=some o):Wr v g o v:=⟨h,λ_ _=>rfl,rfl,rfl,rfl⟩
theorem pK{S:Nat->Prop}{v:World}(B off n c m N:Nat)(x:Nat->Nat)(t:TypeId)(hn:n<=8)(hc:n<=c)(hm:off+n<=m)(hN:N<18446744073709551616)(hB:v.heap[B]?=some (.cells (aE m x) t)):aJ Tryz.prog 103 #[.slice (some ⟨B,off,none⟩) n c,.int .u64 (N:Nat)] S v λy S' v'=>y=.tuple #[]∧S'=S∧Wr v B (.cells (aE m (eN x off n N)) t) v':=by
 refine cX Tryz.func103 rfl Tryz.ntmps103 λStop cc cs ret f g0 g1=>?_
 repeat refine rN ?_
 refine bF (λd f' S' v'=>∃j,d=n-j∧j<=n∧S'=S∧Wr v B (.cells (aE m (eN x off j N)) t) v'∧f' 0=.slice (some ⟨B,off,none⟩) n c∧f' 1=.int .u64 (N:Nat)∧f' 6=.int .i64 (n:Nat)∧f' 7=.int .i64 (j:Nat)) n ⟨0,by omega,by omega,rfl,by rw[Qw];exact Wp hB,by simp[g0],by simp[g1],by simp[g0],by simp⟩ ?_;clear g0 g1 f;rintro d f S' v' ⟨j,rfl,hj,eS,hW,g0,g1,g6,g7⟩ dj;subst S';repeat refine rN ?_
 by_cases dp:j<n
 .have ja:(j:Int)<(n:Int):=by omega
  have h8:8*(j:Int)<64:=by omega
  have h0:¬8*(j:Int)<0:=by omega
  have fo:off+j<(aE m (eN x off j N)).size:=by rw[eB];omega
  have e2:(8*(j:Int)).toNat=8*j:=by omega
  have e4:IntKind.u8.wrap ((N:Int)/2^(8*j))=((bX N j:Nat):Int):=by rw[IntKind.wrap_u8];unfold bX;rw[<-zR];push_cast;rfl
  have UQ:=aP e4;clear e4;refine rX (by simp[Act.eval,g7,g6,ja,dp]) ?_;repeat refine rN ?_
  refine dQ aB rfl rfl (by kernel_rfl) (x:=.tmp 17) (y:=.tmp 16) (g:=B) (j:=off+j) (z:=.int .u8 ((bX N j:Nat):Int)) rfl (by simp) (by simp[e2,UQ.out]) rfl rfl hW.at_ fo (by kernel_rfl) λv3 fz=>?_;simp only[stO_none];rw[Qx]at fz;repeat refine rN ?_
  refine dj _ _ _ (n-(j+1)) (by omega) ⟨j+1,rfl,by omega,rfl,Te hW fz,by simp[g0],by simp[g1],by simp[g6],by simp⟩
 .obtain rfl:j=n:=by omega
  refine rZ (by simp[Act.eval,g7,g6]) ?_;refine bC rfl ?_;repeat refine rN ?_
  refine gQ ?_;refine ret _ _ _ _ (.tuple #[]) ?_ ⟨rfl,rfl,hW⟩;simp[results,Tryz.results103]
def fP(r:Nat):Nat:=(r/2)^^^(3988292384&&&(if r%2=1 then 4294967295 else 0))
theorem Ud{r:Nat}(h:r<4294967296):fP r<4294967296:=by
 unfold fP;have h1:r/2<2^32:=by omega
 have h2:(3988292384&&&(if r%2=1 then 4294967295 else 0))<2^32:=Nat.and_lt_two_pow _ (by split<;>omega)
 exact Nat.xor_lt_two_pow h1 h2
theorem Ue{r:Nat}(h:r<4294967296):bits .xor .u32 ((r:Int)/2) (bits .and .u32 3988292384 (IntKind.u32.wrap (-(bits .and .u32 (r:Int) 1))))=((fP r:Nat):Int):=by
 have e1:bits .and .u32 (r:Int) 1=((r%2:Nat):Int):=by rw[show(1:Int)=((1:Nat):Int) from rfl,u32_and_nat r 1 h (by omega),Nat.and_one_is_mod]
 have e2:IntKind.u32.wrap (-((r%2:Nat):Int))=(((if r%2=1 then 4294967295 else 0:Nat)):Int):=by rw[IntKind.wrap_u32];split<;>omega
 rw[e1,e2,show(3988292384:Int)=((3988292384:Nat):Int) from rfl,u32_and_nat _ _ (by omega) (by split<;>omega),show(r:Int)/2=((r/2:Nat):Int) by omega,u32_xor_nat _ _ (by omega) (Nat.lt_of_le_of_lt Nat.and_le_left (by omega))]
 rfl
def cE(r:Nat):Nat->Nat
 |0=>r
 |j+1=>fP (cE r j)
theorem xC{r:Nat}(h:r<4294967296)(j:Nat):cE r j<4294967296:=by
 induction j with
 |zero=>exact h
 |succ j ih=>exact Ud ih
def bH(x:Nat->Nat):Nat->Nat
 |0=>0
 |j+1=>cE (bH x j^^^x j) 8
theorem xU{x:Nat->Nat}(h:∀i,x i<256)(j:Nat):bH x j<4294967296:=by
 induction j with
 |zero=>simp[bH]
 |succ j ih=>exact xC (Nat.xor_lt_two_pow (n:=32) ih (by have:=h j;omega)) 8
theorem rV{x y:Nat->Nat}{n:Nat}(h:∀i,i<n->x i=y i):bH x n=bH y n:=by
 induction n with
 |zero=>rfl
 |succ n ih=>unfold bH;rw[ih λi hi=>h i (by omega),h n (by omega)]
theorem Zb{S:Nat->Prop}{v:World}(B n c:Nat)(x:Nat->Nat)(hn:n<=96)(hc:n<=c)(hx:∀i,x i<256)(hB:dD v B 0 n x):aJ Tryz.prog 104 #[.slice (some ⟨B,0,none⟩) n c] S v λy S' v'=>y=.int .u32 ((bH x n:Nat):Int)∧S'=S∧v'=v:=by
 refine dX Tryz.func104 rfl Tryz.ntmps104 λStop cc cs ret f g0=>?_
 repeat refine rN ?_
 refine bF (λd f' S' v'=>∃j,d=n-j∧j<=n∧S'=S∧v'=v∧f' 6=.slice (some ⟨B,0,none⟩) n c∧f' 7=.int .i64 (n:Nat)∧f' 8=.int .i64 (j:Nat)∧f' 3=.int .u32 ((bH x j:Nat):Int)) n ⟨0,by omega,by omega,rfl,rfl,by simp[g0],by simp[g0],by simp,by simp[bH]⟩ ?_;clear g0 f;rintro d f S' v' ⟨j,rfl,hj,eS,eV,g6,g7,g8,g3⟩ dj;subst S' v';repeat refine rN ?_
 by_cases dp:j<n
 .have ja:(j:Int)<(n:Int):=by omega
  have AA:=hB j dp;rw[an]at AA;have UW:=hx j;have hr:=xU hx j;have e3:IntKind.u32.wrap ((x j:Nat):Int)=((x j:Nat):Int):=by rw[IntKind.wrap_u32];omega
  have e4:bits .xor .u32 ((bH x j:Nat):Int) ((x j:Nat):Int)=((cE (bH x j^^^x j) 0:Nat):Int):=u32_xor_nat _ _ hr (by omega);have hq:bH x j^^^x j<4294967296:=Nat.xor_lt_two_pow (n:=32) hr (by omega);have e5:cE (bH x j^^^x j) 8=bH x (j+1):=rfl;generalize bH x j^^^x j=q at e4 hq e5;have A0:=aP e3;have UQ:=aP e4;have HE5:=aP e5;have HR:=aP hr;clear e3 e4 e5 hr;refine rX (by simp[Act.eval,g8,g7,ja,dp]) ?_;repeat refine rM AA ?_
  refine bF (λd f' S' v'=>∃i,d=8-i∧i<=8∧S'=S∧v'=v∧f' 6=.slice (some ⟨B,0,none⟩) n c∧f' 7=.int .i64 (n:Nat)∧f' 8=.int .i64 (j:Nat)∧f' 16=.int .i64 (i:Nat)∧f' 3=.int .u32 ((cE q i:Nat):Int)) 8 ⟨0,by omega,by omega,rfl,rfl,by simp[g6],by simp[g7],by simp[g8],by simp,by simp[A0.out,UQ.out]⟩ ?_;clear g6 g7 g8 g3 f;rintro d f S' v' ⟨i,rfl,hi,eS,eV,g6,g7,g8,g16,g3⟩ gj;subst S' v';repeat refine rN ?_
  by_cases hli:i<8
  .have pd:(i:Int)<8:=by omega
   have HQ:=aP (Ue (xC hq i));refine rX (by simp[Act.eval,g16,pd]) ?_;repeat refine rN ?_
   refine gj _ _ _ (8-(i+1)) (by omega) ⟨i+1,rfl,by omega,rfl,rfl,by simp[g6],by simp[g7],by simp[g8],by simp,?_⟩;have q:=HQ.out;simp[cE];exact q
  .obtain rfl:i=8:=by omega
   refine rZ (by simp[Act.eval,g16]) ?_;refine bC rfl ?_;repeat refine rN ?_
   refine dj _ _ _ (n-(j+1)) (by omega) ⟨j+1,rfl,by omega,rfl,rfl,by simp[g6],by simp[g7],by simp,by simp[g3,HE5.out]⟩
 .obtain rfl:j=n:=by omega
  refine rZ (by simp[Act.eval,g8,g7]) ?_;refine bC rfl ?_;repeat refine rN ?_
  refine aM λtodo=>?_;refine ret _ _ _ _ (.int .u32 ((bH x j:Nat):Int)) ?_ ⟨rfl,rfl,rfl⟩;simp[results,Tryz.results104]
def eQ(id size turn k m:Nat)(p:Nat->Nat)(i:Nat):Nat:=if 13<=i∧i<13+m then p (i-13) else eN (eN (eN (eN (λ_=>0) 0 2 id) 2 2 size) 4 1 k) 5 8 turn i
def bB(id size turn k m:Nat)(p:Nat->Nat):Nat->Nat:=eN (eQ id size turn k m p) 92 4 (bH (eQ id size turn k m p) 92)
theorem qD{x:Nat->Nat}(h:∀i,x i<256)(off n N i:Nat):eN x off n N i<256:=by
 unfold eN;split
 .exact tC _ _
 .exact h i
theorem yE{id size turn k m:Nat}{p:Nat->Nat}(h:∀i,p i<256)(i:Nat):eQ id size turn k m p i<256:=by
 unfold eQ;split
 .exact h _
 .exact qD (qD (qD (qD (λ_=>by omega) _ _ _) _ _ _) _ _ _) _ _ _ _
theorem Tv{id size turn k m:Nat}{p:Nat->Nat}(h:∀i,p i<256)(i:Nat):bB id size turn k m p i<256:=qD (yE h) _ _ _ _
def bK(id size turn k:Nat)(p:Option Addr)(m c:Nat):Array Value:=#[.int .i64 (id:Nat),.int .i64 (size:Nat),.int .u64 (turn:Nat),.int .i64 (k:Nat),.slice p m c]
theorem vL(n:Nat):eF n=aE n λ_=>0:=by simp[eF,aE]
theorem wT{n:Nat}{x:Nat->Nat} : (aE n x).all (·.oneCell')=true:=by rw[Array.all_eq_true_iff_forall_mem];exact λy hy=>Cz y (by simpa using hy)
theorem bO{v w w':World}{g:Nat}{o:Obj}(h:Ext v w)(hg:v.heap.size<=g)(hW:Wr w g o w'):Ext v w':=mL h hg hW
theorem aO{w w':World}{g b:Nat}{o o':Obj}(hW:Wr w g o w')(h:w.heap[b]?=some o')(hb:b≠g):w'.heap[b]?=some o':=(hW.other b hb).trans h
theorem yZ{S:Nat->Prop}{v:World}(id size turn k m c B off:Nat)(y:Nat->Nat)(hid:id<=9999)(fo:size<=400)(hk:k<14)(ht:turn<18446744073709551616)(hm:m<=79)(hy:∀i,y i<256)(hs:dD v B off m y):aJ Tryz.prog 85 #[.agg (bK id size turn k (some ⟨B,off,none⟩) m c)] S v λx S' v'=>x=.agg (aE 96 (bB id size turn k m y))∧S'=S∧Ext v v':=by
 refine dX Tryz.func85 rfl Tryz.ntmps85 λStop cc cs ret f g0=>?_
 repeat refine rN ?_
 refine aN (Q:=λy w=>y=.pointer (some ⟨v.heap.size,0,none⟩)∧Ext v w∧w.heap[v.heap.size]?=some (.cells (bK id size turn k (some ⟨B,off,none⟩) m c) 143)∧w.heap.size=v.heap.size+1) aB rfl rfl (by kernel_rfl) (λu hu=>⟨_,_,.inl (gR (x:=.tmp 0) (y:=.agg (bK id size turn k (some ⟨B,off,none⟩) m c)) rfl (by simp[g0]) u),by rw[hu.heap],(Ext.twin hu).trans _ _ _ (Ext.alloc _ _),by rw[<-hu.heap];exact bI _ _,by rw[jO,hu.heap]⟩) ?_;rintro _ w1 ⟨rfl,eh,fg,jg⟩;simp only[stO_some];refine cD aB rfl rfl (by kernel_rfl) (.agg (eF 96)) rfl (by rw[<-oZ];kernel_rfl) λw2 ep ko pj=>?_;simp only[stO_some];repeat refine rN ?_
 refine cD aB rfl rfl (by kernel_rfl) (.agg (eF 96)) rfl (by rw[<-oZ];kernel_rfl) λw3 ef km ma=>?_;simp only[stO_some];have NH:=eh.trans _ _ _ (ep.trans _ _ _ ef);have k_:w3.heap[v.heap.size]?=some (.cells (bK id size turn k (some ⟨B,off,none⟩) m c) 143):=ef.row (ep.row fg);have TQ:w3.heap[v.heap.size+1]?=some (.cells (eF 96) 137):=by rw[<-jg];exact ef.row ko
 have hB:w3.heap[v.heap.size+2]?=some (.cells (aE 96 λ_=>0) 137):=by rw[<-vL,show v.heap.size+2=w2.heap.size by omega];exact km
 rw[show w1.heap.size=v.heap.size+1 by omega,show w2.heap.size=v.heap.size+2 by omega];clear fg ko km eh ep ef jg pj ma w1 w2;have pc:∀{w:World},w.heap[v.heap.size]?=some (.cells (bK id size turn k (some ⟨B,off,none⟩) m c) 143)->w.cell? ⟨v.heap.size,0,none⟩=some (.int .i64 (id:Nat))∧w.cell? ⟨v.heap.size,1,none⟩=some (.int .i64 (size:Nat))∧w.cell? ⟨v.heap.size,2,none⟩=some (.int .u64 (turn:Nat))∧w.cell? ⟨v.heap.size,3,none⟩=some (.int .i64 (k:Nat))∧w.cell? ⟨v.heap.size,4,none⟩=some (.slice (some ⟨B,off,none⟩) m c):=λh=>
  ⟨(ab _ _ _ _ _ _ h).trans rfl,(ab _ _ _ _ _ _ h).trans rfl,(ab _ _ _ _ _ _ h).trans rfl,(ab _ _ _ _ _ _ h).trans rfl,(ab _ _ _ _ _ _ h).trans rfl⟩
 have u1:IntKind.u64.wrap ((id:Nat):Int)=((id:Nat):Int):=tZ _;have u2:IntKind.u64.wrap ((size:Nat):Int)=((size:Nat):Int):=tZ _;have u3:IntKind.u64.wrap ((k:Nat):Int)=((k:Nat):Int):=tZ _;obtain⟨c0,c1,c2,c3,c4⟩:=pc k_;repeat refine rN ?_
 refine iZ aB (by first|kernel_rfl|rfl) ?_
 simp only[bh,av,cf,Nat.reduceAdd,an];refine cU 0 ?_;refine cU 1 ?_;refine cU 2 ?_;co_applyP cT (i:=3) rfl (λ_ dt=>run_eq_of ?u3_3) ?v3_3
 case u3_3=>intro K_ dr;(have hc:=(Ext.twin dt).cell c0);go_simp;(try rw[wI _]);(try rw[wU _]);exact dr
 simp only[sS,sN];refine cU 4 ?_;refine cL 5 ?_;refine rK Tryz.func103 (pK (v.heap.size+2) 0 2 96 96 id _ 137 (by omega) (by omega) (by omega) (by omega) hB) ?_;rintro _ S1 w4 _ ⟨rfl,e1,jd⟩;subst S1;have K9:=bO NH (by omega) jd;have NA:=aO jd k_ (by omega);have KG:=aO jd TQ (by omega);have s6:=jd.at_;clear NH k_ TQ hB jd c0 c1 c2 c3 c4;obtain⟨c0,c1,c2,c3,c4⟩:=pc NA;repeat refine rN ?_
 refine iZ aB (by first|kernel_rfl|rfl) ?_
 simp only[bh,av,cf,Nat.reduceAdd,an];refine cU 0 ?_;refine cU 1 ?_;refine cU 2 ?_;co_applyP cT (i:=3) rfl (λ_ dt=>run_eq_of ?u7_3) ?v7_3
 case u7_3=>intro K_ dr;(have hc:=(Ext.twin dt).cell c1);go_simp;(try rw[wI _]);(try rw[wU _]);exact dr
 simp only[sS,sN];refine cU 4 ?_;refine cL 5 ?_;refine rK Tryz.func103 (pK (v.heap.size+2) 2 2 94 96 size _ 137 (by omega) (by omega) (by omega) (by omega) s6) ?_;rintro _ S1 w5 _ ⟨rfl,e1,jc⟩;subst S1;have BG:=bO K9 (by omega) jc;have MZ:=aO jc NA (by omega);have KF:=aO jc KG (by omega);have r_:=jc.at_;clear K9 NA KG s6 jc c0 c1 c2 c3 c4;obtain⟨c0,c1,c2,c3,c4⟩:=pc MZ;repeat refine rN ?_
 refine iZ aB (by first|kernel_rfl|rfl) ?_
 simp only[bh,av,cf,Nat.reduceAdd,an];refine cU 0 ?_;refine cU 1 ?_;co_applyP cT (i:=2) rfl (λ_ dt=>run_eq_of ?u11_2) ?v11_2
 case u11_2=>intro K_ dr;(have hc:=(Ext.twin dt).cell c3);go_simp;(try rw[wI _]);(try rw[wU _]);exact dr
 simp only[sS,sN];refine cU 3 ?_;refine cL 4 ?_;refine rK Tryz.func103 (pK (v.heap.size+2) 4 1 92 96 k _ 137 (by omega) (by omega) (by omega) (by omega) r_) ?_;rintro _ S1 w6 _ ⟨rfl,e1,ku⟩;subst S1;have K8:=bO BG (by omega) ku;have MY:=aO ku MZ (by omega);have KE:=aO ku KF (by omega);have L3:=ku.at_;clear BG MZ KF r_ ku c0 c1 c2 c3 c4;obtain⟨c0,c1,c2,c3,c4⟩:=pc MY;repeat refine rN ?_
 refine iZ aB (by first|kernel_rfl|rfl) ?_
 simp only[bh,av,cf,Nat.reduceAdd,an];refine cU 0 ?_;refine cU 1 ?_;refine cU 2 ?_;co_applyP cT (i:=3) rfl (λ_ dt=>run_eq_of ?u15_3) ?v15_3
 case u15_3=>intro K_ dr;(have hc:=(Ext.twin dt).cell c2);go_simp;(try rw[wI _]);(try rw[wU _]);exact dr
 simp only[sS,sN];refine cL 4 ?_;refine rK Tryz.func103 (pK (v.heap.size+2) 5 8 91 96 turn _ 137 (by omega) (by omega) (by omega) (by omega) L3) ?_;rintro _ S1 w7 _ ⟨rfl,e1,nz⟩;subst S1;have o7:=bO K8 (by omega) nz;have TU:=aO nz MY (by omega);have KD:=aO nz KE (by omega);have L2:=nz.at_;clear K8 MY KE L3 nz c0 c1 c2 c3 c4;obtain⟨c0,c1,c2,c3,c4⟩:=pc TU;repeat refine rN ?_
 refine iZ aB (by first|kernel_rfl|rfl) ?_
 simp only[bh,av,cf,Nat.reduceAdd,an];refine cU 0 ?_;refine cU 1 ?_;co_applyP cT (i:=2) rfl (λ_ dt=>run_eq_of ?u18_2) ?v18_2
 case u18_2=>intro K_ dr;(have hc:=(Ext.twin dt).cell c4);go_simp;(try rw[wI _]);(try rw[wU _]);exact dr
 simp only[sS,sN];refine cL 3 ?_;have IY:=hs.ext o7;refine sJ aB rfl rfl (by kernel_rfl) rfl (d:=.tmp 26) (s:=.tmp 28) (g:=v.heap.size+2) (o':=13) (dLen:=79) (dCap:=83) (b:=B) (off:=off) (sLen:=m) (sCap:=c) (cells:=(List.range m).map λj=>Value.int .u8 ((y j:Nat):Int)) (by simp) (by simp) Tryz.underlying43 (by kernel_rfl) L2 (by simp[Nat.min_eq_left hm]) (λj z hz=>?_) (by rw[eB];simp;omega) kX λw8 EG=>?_
 .obtain⟨hj,rfl⟩:=oC hz;exact IY j hj
 simp only[stO_some];rw[show(List.map (λj=>Value.int .u8 ((y j:Nat):Int)) (List.range m)).length=m by simp,nS 96 13 m _ _ (by omega)]at EG;have K7:=bO o7 (by omega) EG;have KC:=aO EG KD (by omega);have q_:w8.heap[v.heap.size+2]?=some (.cells (aE 96 (eQ id size turn k m y)) 137):=EG.at_;clear o7 TU KD L2 EG c0 c1 c2 c3 c4 IY;have JU:∀i,eQ id size turn k m y i<256:=yE hy;have hrl:=xU JU 92;have UG:dD w8 (v.heap.size+2) 0 92 (eQ id size turn k m y):=λi hi=>by rw[an,ab _ _ _ _ _ _ q_];exact eE _ _ _ (by omega)
 have u4:IntKind.u64.wrap ((bH (eQ id size turn k m y) 92:Nat):Int)=((bH (eQ id size turn k m y) 92:Nat):Int):=tZ _;repeat refine rN ?_
 refine iZ aB (by first|kernel_rfl|rfl) ?_
 simp only[bh,av,cf,Nat.reduceAdd,an];refine cU 0 ?_;refine cU 1 ?_;refine Sy (i:=2) rfl Tryz.func104 rfl (vs:=#[.slice (some ⟨v.heap.size+2,0,none⟩) 92 96]) (by simp[Act.eval]) (Zb (v.heap.size+2) 92 96 _ (by omega) (by omega) JU UG) ?_;simp only[sS,sN];refine cU 3 ?_;refine cL 4 ?_;refine rK Tryz.func103 (pK (v.heap.size+2) 92 4 4 96 (bH (eQ id size turn k m y) 92) _ 137 (by omega) (by omega) (by omega) (by omega) q_) ?_;rintro _ S1 w9 _ ⟨rfl,e1,KA⟩;subst S1;have hEg:=bO K7 (by omega) KA;have TP:=aO KA KC (by omega);have hB9:w9.heap[v.heap.size+2]?=some (.cells (aE 96 (bB id size turn k m y)) 137):=KA.at_;clear K7 KC q_ KA;repeat refine rN ?_
 refine gO aB rfl rfl (by kernel_rfl) (x:=.tmp 3) (b:=v.heap.size+2) rfl (by simp) hB9 (by kernel_rfl) (by rw[eB];kernel_rfl) ?_;simp only[stO_some];refine cS aB rfl rfl (by kernel_rfl) (x:=.tmp 2) (y:=.tmp 35) (g:=v.heap.size+1) (c:=aE 96 (bB id size turn k m y)) rfl (by simp) (by simp) TP (by kernel_rfl) (by rw[eB,rP]) wT λwa I9=>?_;simp only[stO_none];repeat refine rN ?_
 refine aM λtodo=>?_;refine ret _ _ S wa (.agg (aE 96 (bB id size turn k m y))) ?_ ⟨rfl,rfl,bO hEg (by omega) I9⟩;have hl:=run_loadVar_row (P:=Tryz.prog) wa (v.heap.size+1) 137 137 (aE 96 (bB id size turn k m y)) (0,0) _ I9.at_ Tryz.underlying137 rfl (by rw[eB];kernel_rfl);simp[results,Tryz.results85,asAddr,hl]
theorem Fm:∃i,Tryz.prog.info? 5=some i∧i.size=1:=⟨_,rfl,rfl⟩
theorem Ua{n i:Nat}{x:Nat->Nat}(h:i<n)(w:World):(part 5 (aE n x) (i*1)).run Tryz.prog w=.ok (.int .u8 (x i:Nat)) w:=by unfold part;obtain⟨inf,h1,h2⟩:=Fm;simp[isAgg,cw Tryz.underlying5,eE n x i h,Nat.mul_one]
def dI(x y:Nat->Nat)(i:Nat):Nat->Bool
 |0=>true
 |k+1=>(x i==y i)&&dI x y (i+1) k
theorem lG(x y:Nat->Nat):∀(k i:Nat),dI x y i k=true↔∀j,i<=j->j<i+k->x j=y j
 |0,i=>⟨λ_ j h1 h2=>by omega,λ_=>rfl⟩
 |k+1,i=>by
  unfold dI;rw[bq,beq_iff_eq,lG x y k (i+1)];constructor
  .rintro⟨h1,h2⟩ j h3 h4;by_cases e:j=i
   .rw[e];exact h1
   .exact h2 j (by omega) (by omega)
  .exact λh=>⟨h i (by omega) (by omega),λj h1 h2=>h j (by omega) (by omega)⟩
theorem Nn(x y:Nat->Nat)(w:World):∀(k i:Nat),i+k=96->(forIn (List.range' i k) ((none,()):Option Bool×Unit) λi __s=>(do
       let px <-part 5 (aE 96 x) (i*1)
       let wu <-part 5 (aE 96 y) (i*1)
       let px <-Op.equalIn 9999 5 px wu
       if (!px)=true then pure (ForInStep.done (some false,())) else pure (ForInStep.yield (none,())):Sem (ForInStep (Option Bool×Unit)))).run Tryz.prog w=.ok (if dI x y i k=true then(none,()) else(some false,())) w:=by
 intro k;induction k with
 |zero=>intro i hi;simp[dI]
 |succ k ih=>
  intro i hi;rw[List.range'_succ,List.forIn_cons];simp only[df,Ua (show i<96 by omega),dc,run_equalIn_int (P:=Tryz.prog) w 9998 5 .u8 .u8 _ _ Tryz.underlying5];by_cases e:x i=y i
  .have e1:(((x i:Nat):Int)==((y i:Nat):Int))=true:=by simp[e]
   have e2:dI x y i (k+1)=dI x y (i+1) k:=by simp[dI,e]
   simp only[e1,e2,Bool.not_true,ay,if_false,dg,dc];exact ih (i+1) (by omega)
  .have e1:(((x i:Nat):Int)==((y i:Nat):Int))=false:=by simp;omega
   have e2:dI x y i (k+1)=false:=by simp[dI,e]
   simp only[e1,e2,Bool.not_false,if_true,dg,dc,ay,if_false]
theorem Ba(x y:Nat->Nat)(w:World):(Op.equalIn 10000 137 (.agg (aE 96 x)) (.agg (aE 96 y))).run Tryz.prog w=.ok (dI x y 0 96) w:=by
 obtain⟨inf,h1,h2⟩:=Fm;have hs:(sizeOf 5).run Tryz.prog w=.ok 1 w:=by simp[sizeOf,typeInfo,h1,h2]
 unfold Op.equalIn;simp only[df,cw Tryz.underlying137,dc,hs,Std.Legacy.Range.forIn_eq_forIn_range',Std.Legacy.Range.size,Nat.sub_zero,Nat.add_sub_cancel,Nat.div_one];rw[Nn x y w 96 0 rfl];cases dI x y 0 96<;>rfl
theorem Nm{o:Oper}{a:Act}{xo yo:Operand}{x y:Nat->Nat}{u:World}(dm:o.op=.binOp .eql 137 xo yo 137)(h1:a.eval xo=.agg (aE 96 x))(h2:a.eval yo=.agg (aE 96 y)):(execOp a.eval o).run Tryz.prog u=.ok (.value (.bool (dI x y 0 96))) u:=by unfold execOp;simp only[dm,h1,h2,df,run_eqGuard_agg (P:=Tryz.prog) u .eql 137 xo yo _ _ (by kernel_rfl),dc,run_eql_struct,Ba,dg]
theorem Cc{o:Oper}{a:Act}{xo yo:Operand}{x y:Nat->Nat}{u:World}(dm:o.op=.binOp .neq 137 xo yo 137)(h1:a.eval xo=.agg (aE 96 x))(h2:a.eval yo=.agg (aE 96 y)):(execOp a.eval o).run Tryz.prog u=.ok (.value (.bool (!dI x y 0 96))) u:=by unfold execOp;simp only[dm,h1,h2,df,run_eqGuard_agg (P:=Tryz.prog) u .neq 137 xo yo _ _ (by kernel_rfl),dc,run_neq_struct,Ba,dg]
