import Derived.Test.YtpiefebngnlfoaaGreatDoorMk
set_option maxRecDepth 99999
set_option maxHeartbeats 0
set_option linter.unusedVariables false
set_option linter.unusedSimpArgs false
namespace Go.Proofs.YtpiefebngnlfoaaGreatDoor
open Go.RowKit Go.Conc Go.Vw
def kQ(r:Option (Nat×Ent)):Array Value:=match r with
 |some q=>bN q.2
 |none=>aL 0 0 0 0 λ_=>false
theorem Eb(r:Option (Nat×Ent)):fF r=.tuple #[.agg (kQ r),.bool r.isSome]:=by cases r<;>rfl
theorem Dv(r:Option (Nat×Ent)):∃i z t q g,kQ r=aL i z t q g:=by
 cases r with
 |none=>exact⟨0,0,0,0,λ_=>false,rfl⟩
 |some q=>exact⟨q.2.id,q.2.size,q.2.turn,q.2.slot,q.2.good,rfl⟩
theorem Uu(r:Option (Nat×Ent)):(kQ r).all (·.oneCell')=true:=by obtain⟨i,z,t,q,g,h⟩:=Dv r;rw[h];simp[aL,Value.oneCell']
def qK(X M lb V id:Nat)(r:Option (Nat×Ent))(j:Nat)(x:Value)(w:World):Prop:=
 match j with
 |0=>x=.pointer (some ⟨X,0,none⟩)
 |1=>x=.pointer (some ⟨X,0,none⟩)
 |2=>x=.pointer (some ⟨X,1,none⟩)
 |3=>x=.map (some M)
 |4=>x=.pointer (some ⟨lb,0,none⟩)
 |5=>x=.int .i64 (id:Nat)
 |6=>x=fF r
 |7=>x=fF r
 |8=>x=.agg (kQ r)
 |9=>x=.bool r.isSome
 |10=>∃g,x=.pointer (some ⟨g,0,none⟩)∧V<=g∧∃c:Array Value,c.size=18∧w.heap[g]?=some (.cells c 123)
 |12=>x=.bool r.isSome
 |_=>True
theorem Pp(X M lb V id:Nat)(r:Option (Nat×Ent)):∀j x w w',qK X M lb V id r j x w->Ext w w'->qK X M lb V id r j x w':=by
 intro j x w w' h hE;unfold qK at h⊢;split at h<;>first|exact h|skip
 obtain⟨g,e,h1,c,h2,hg⟩:=h;exact⟨g,e,h1,c,h2,hE.row hg⟩
section
variable {X D DB DA M:Nat}{RB RA:Nat->Nat}{nd nb turn:Nat}{s:Dsk}{L:List Ent}{w w' v:World}{S:Nat->Prop}
theorem Lh{f:Nat->Value}{Stop:Goroutine->(Nat->Prop)->World->Prop}{cs:List Frame}{k0:List Item}(lb id size tn clock:Nat)(ub:w.cell? ⟨X,1,none⟩=some (.map (some M)))(hm:w.heap[M]?=some (bL L clock))(RY:w.heap[lb]?=some (.cells (bG id size tn) 120))
  (g0:f 0=.pointer (some ⟨X,0,none⟩)) (g4:f 4=.pointer (some ⟨lb,0,none⟩))
  (next:∀w' f' g,Ext w w'->w.heap.size<=g->w'.heap[g]?=some (.cells (kQ (aQ id L 0)) 123)->f' 6=.pointer (some ⟨g,0,none⟩)->f' 7=.bool (aQ id L 0).isSome->(∀s,s<6∨(8<=s∧s<17)->f' s=f s)->Vw.Reach Tryz.prog Stop (G ((base 26).at ⟨TA 61 f',[]⟩ (.inRegion ((bM 3 (Tryz.f26.body.getD .skip)).getD #[]) []::k0)) cs) S w') :
  Vw.Reach Tryz.prog Stop (G ((base 26).at ⟨TA 61 f,[]⟩ (.code (.region 3 ((bM 3 (Tryz.f26.body.getD .skip)).getD #[]) true)::k0)) cs) S w:=by
 have e0:bM 3 (Tryz.f26.body.getD .skip)=some _:=rfl;rw[e0]at next⊢
 simp only[ao]at next⊢
 clear e0;have cl:w.cell? ⟨lb,0,none⟩=some (.int .i64 (id:Nat)):=(ab _ _ _ _ _ _ RY).trans rfl;refine iY (by kernel_rfl) (by kernel_rfl) (by kernel_rfl) 11 [0,1,2,3,4,5,6,7,8,10] (by kernel_rfl) (qK X M lb w.heap.size id (aQ id L 0)) (λS' w'=>S'=S∧Ext w w') (λS' f w'=>S'=S∧Ext w w'∧∃g,f 6=.pointer (some ⟨g,0,none⟩)∧w.heap.size<=g∧w'.heap[g]?=some (.cells (kQ (aQ id L 0)) 123)) (λS' w w' h hE=>⟨h.1,h.2.trans _ _ _ hE⟩) (λS' i f x w3 w4 hi hA jh h hE=>?_) (Pp _ _ _ _ _ _) ?_ ⟨rfl,.refl _⟩ ?_ ?_ ?_
 .obtain⟨h1,h2,g,q1,q2,q4⟩:=h;refine⟨h1,h2.trans _ _ _ hE,g,?_,q2,hE.row q4⟩;have ft:i<13:=hi;simp at hA;rcases(by omega:i=9∨i=12) with rfl|rfl
  .exact q1
  .exact q1
 .intro j hj he x w h;have jo:j<13:=hj;rcases(by omega:j=0∨j=1∨j=2∨j=3∨j=4∨j=5∨j=6∨j=7∨j=8∨j=9∨j=10∨j=11∨j=12) with rfl|rfl|rfl|rfl|rfl|rfl|rfl|rfl|rfl|rfl|rfl|rfl|rfl<;>first|exact trivial|cases he
 .intro i f' S1 w5 rest hi dy hB hf hd dj;have BI:f' 0=.pointer (some ⟨X,0,none⟩):=(hf 0 (aV (by kernel_rfl))).trans g0;have yk:f' 4=.pointer (some ⟨lb,0,none⟩):=(hf 4 (aV (by kernel_rfl))).trans g4;have ft:i<13:=hi;clear hf;rcases(by omega:i=0∨i=1∨i=2∨i=3∨i=4∨i=5∨i=6∨i=7∨i=8∨i=9∨i=10∨i=11∨i=12) with rfl|rfl|rfl|rfl|rfl|rfl|rfl|rfl|rfl|rfl|rfl|rfl|rfl
  .clear hd;refine rY aB ?_;exact dj _ w5 (.refl w5) rfl
  .have d0:f' 18=.pointer (some ⟨X,0,none⟩):=hd 0 (aD (by kernel_rfl));clear hd;refine rY aB ?_;exact dj _ w5 (.refl w5) rfl
  .have d0:f' 19=.pointer (some ⟨X,0,none⟩):=hd 1 (aD (by kernel_rfl));clear hd;refine rY aB ?_;exact dj _ w5 (.refl w5) rfl
  .have d0:f' 20=.pointer (some ⟨X,1,none⟩):=hd 2 (aD (by kernel_rfl));obtain⟨eS,hE⟩:=hB (by simp);have c0:=hE.cell ub;clear hd;(refine rO aB rfl ?_;intro _ dt K_ dr;(have hc:=(Ext.twin dt).cell c0);go_simp;(try rw[wI _]);(try rw[wU _]);refine dr _ ?_;clear dr K_ dt;simp only[sS,sN]);exact dj _ w5 (.refl w5) rfl
  .clear hd;refine rY aB ?_;exact dj _ w5 (.refl w5) rfl
  .have d0:f' 22=.pointer (some ⟨lb,0,none⟩):=hd 4 (aD (by kernel_rfl));obtain⟨eS,hE⟩:=hB (by simp);have c0:=hE.cell cl;clear hd;(refine rO aB rfl ?_;intro _ dt K_ dr;(have hc:=(Ext.twin dt).cell c0);go_simp;(try rw[wI _]);(try rw[wU _]);refine dr _ ?_;clear dr K_ dt;simp only[sS,sN]);exact dj _ w5 (.refl w5) rfl
  .have d0:f' 21=.map (some M):=hd 3 (aD (by kernel_rfl));have d1:f' 23=.int .i64 (id:Nat):=hd 5 (aD (by kernel_rfl));obtain⟨eS,hE⟩:=hB (by simp);subst S1;have oy:w5.heap[M]?=some (bL L clock):=by
    rw[hE.block M (Array.getElem?_eq_some_iff.1 hm).1];exact hm
   clear hd;refine lY rfl rfl rfl (x:=.tmp 21) (y:=.tmp 23) (id:=id) (by simp[d0]) (by simp[d1]) oy ?_;exact dj _ w5 (.refl w5) rfl
  .have d0:f' 24=fF (aQ id L 0):=hd 6 (aD (by kernel_rfl));clear hd;refine rY aB ?_;exact dj _ w5 (.refl w5) rfl
  .have d0:f' 17=fF (aQ id L 0):=hd 7 (aD (by kernel_rfl));rw[Eb]at d0;clear hd;refine rY aB ?_;exact dj _ w5 (.refl w5) rfl
  .have d0:f' 17=fF (aQ id L 0):=hd 7 (aD (by kernel_rfl));rw[Eb]at d0;clear hd;refine rY aB ?_;exact dj _ w5 (.refl w5) rfl
  .obtain⟨eS,hE⟩:=hB (by simp);clear hd;refine cD aB rfl rfl (by kernel_rfl) (.agg (aL 0 0 0 0 λ_=>false)) rfl (by kernel_rfl) λw6 ew VO Y3=>?_
   exact dj _ w6 ew ⟨_,rfl,hE.size,_,rfl,VO⟩
  .exact absurd rfl dy
  .have d0:f' 26=.bool (aQ id L 0).isSome:=hd 9 (aD (by kernel_rfl));clear hd;refine rY aB ?_;exact dj _ w5 (.refl w5) rfl
 .rintro f' S1 w5 rest ⟨eS,hB⟩ hf hd dj;subst S1;obtain⟨g,d0,su,c,c9,hg⟩:∃g,f' 6=.pointer (some ⟨g,0,none⟩)∧w.heap.size<=g∧∃c:Array Value,c.size=18∧w5.heap[g]?=some (.cells c 123):=hd 10 (by simp);have d1:f' 25=.agg (kQ (aQ id L 0)):=hd 8 (by simp);clear hd hf;have fo:(kQ (aQ id L 0)).size=18:=by
   obtain⟨i,z,t,q,g,h⟩:=Dv (aQ id L 0);rw[h];rfl
  refine cS aB rfl rfl (by kernel_rfl) (x:=.tmp 6) (y:=.tmp 25) (g:=g) (c:=kQ (aQ id L 0)) rfl (by simp[d0]) (by simp[d1]) hg (by rw[fo];kernel_rfl) (c9.trans fo.symm) (Uu _) λw6 hW=>?_
  refine dj undef S w6 ⟨rfl,bO hB su hW,g,d0,su,hW.at_⟩ trivial λj x' hj h=>?_
  unfold qK at h⊢;split at h<;>first|exact h|skip
  obtain⟨g',e',lj,c',nu,ks⟩:=h;by_cases e:g'=g
  .subst e;exact⟨g',e',lj,_,fo,hW.at_⟩
  .exact⟨g',e',lj,c',nu,aO hW ks e⟩
 .rintro f' S1 w5 ⟨eS,hE,g,g6,su,hg⟩ hf hd;subst S1;refine next w5 f' g hE su hg g6 (hd 12 (by decide)) λs hs=>hf s ?_
  rcases hs with hs|hs
  .exact tP (by kernel_rfl) hs
  .exact Fp (by kernel_rfl) hs.1 hs.2
end
def P9(X M lb id:Nat)(kv:Array Value)(j:Nat)(x:Value)(w:World):Prop:=
 match j with
 |0=>x=.pointer (some ⟨X,0,none⟩)
 |1=>x=.pointer (some ⟨X,0,none⟩)
 |2=>x=.pointer (some ⟨X,1,none⟩)
 |3=>x=.map (some M)
 |4=>x=.pointer (some ⟨lb,0,none⟩)
 |5=>x=.int .i64 (id:Nat)
 |6=>x=.pointer (some ⟨X,0,none⟩)
 |7=>x=.agg kv
 |8=>x=.agg kv
 |_=>True
section
variable {X D DB DA M:Nat}{RB RA:Nat->Nat}{nd nb turn:Nat}{s:Dsk}{L:List Ent}{w w' v:World}{S:Nat->Prop}
theorem Ax{f:Nat->Value}{Stop:Goroutine->(Nat->Prop)->World->Prop}{cs:List Frame}{k0:List Item}(lb kb p clock:Nat)(l:Lb)(G':Nat->Bool)(hl:l.Ok)(oa:10<=aT (aR G' 14) 14)(hp:p<nb)(jb:14<=nd)(gh:nd<=18)(eu:nb<=64)(hg:Tryz.prog.globals.size<=w.heap.size)(hK:SlotK s.c p l G')(hX:StE X D DB DA M RB RA nd nb turn s L w)
  (hm:w.heap[M]?=some (bL L clock)) (RY:w.heap[lb]?=some (.cells (bG l.id l.size l.turn) 120)) (hkb:w.heap[kb]?=some (.cells (aL l.id l.size l.turn p (aR G' 14)) 123))
  (g0:f 0=.pointer (some ⟨X,0,none⟩)) (g4:f 4=.pointer (some ⟨lb,0,none⟩)) (g5:f 5=.pointer (some ⟨kb,0,none⟩))
  (next:∀w1 w2 f' S',Kp w (λ_=>False) w1->w1.heap[M]?=some (bL L clock)->Wr w1 M (bL (bS L (l.ent p (aR G' 14)) clock) (iQ L l.id clock)) w2->(∀s,s<42->f' s=f s)->Vw.Reach Tryz.prog Stop (G ((base 26).at ⟨TA 61 f',[]⟩ (.inRegion ((bM 5 (Tryz.f26.body.getD .skip)).getD #[]) []::k0)) cs) S' w2) :
  Vw.Reach Tryz.prog Stop (G ((base 26).at ⟨TA 61 f,[]⟩ (.code (.region 5 ((bM 5 (Tryz.f26.body.getD .skip)).getD #[]) true)::k0)) cs) S w:=by
 have e0:bM 5 (Tryz.f26.body.getD .skip)=some _:=rfl;rw[e0]at next⊢
 simp only[ao]at next⊢
 clear e0;have cl:w.cell? ⟨lb,0,none⟩=some (.int .i64 (l.id:Nat)):=(ab _ _ _ _ _ _ RY).trans rfl;refine Kl (by kernel_rfl) (by kernel_rfl) (by kernel_rfl) 8 9 (by decide) (by kernel_rfl) [6,7] (by decide) (λf' S' w2=>(∀s,s<42->f' s=f s)∧∃w1,Kp w (λ_=>False) w1∧w1.heap[M]?=some (bL L clock)∧Wr w1 M (bL (bS L (l.ent p (aR G' 14)) clock) (iQ L l.id clock)) w2) (by kernel_rfl) (P9 X M lb l.id (aL l.id l.size l.turn p (aR G' 14))) (λS' w'=>Kp w (λ_=>False) w') (λS' f w'=>Kp w (λ_=>False) w') (λS' w w' h hE=>h.ext hE) (λS' i f x w w' hi hA jh hz h hE=>h.ext hE) (λj x w w' h hE=>h) ?_ (.refl _ _) ?_ ?_ ?_ ?_
 .intro j hj he x w h;have jo:j<10:=hj;rcases(by omega:j=0∨j=1∨j=2∨j=3∨j=4∨j=5∨j=6∨j=7∨j=8∨j=9) with rfl|rfl|rfl|rfl|rfl|rfl|rfl|rfl|rfl|rfl<;>first|exact trivial|cases he
 .intro i f' S1 w5 rest hi dy yx hB NL hf hd dj;have ft:i<10:=hi;have lz:Kp w (λ_=>False) w5:=NL.elim id id;have BI:f' 0=.pointer (some ⟨X,0,none⟩):=(hf 0 (eK (by kernel_rfl))).trans g0;have yk:f' 4=.pointer (some ⟨lb,0,none⟩):=(hf 4 (eK (by kernel_rfl))).trans g4;have UJ:f' 5=.pointer (some ⟨kb,0,none⟩):=(hf 5 (eK (by kernel_rfl))).trans g5;clear hf hB NL;rcases(by omega:i=0∨i=1∨i=2∨i=3∨i=4∨i=5∨i=6∨i=7∨i=8∨i=9) with rfl|rfl|rfl|rfl|rfl|rfl|rfl|rfl|rfl|rfl
  .clear hd;refine rY aB ?_;exact dj _ w5 (.refl w5) rfl
  .have d0:f' 42=.pointer (some ⟨X,0,none⟩):=hd 0 (aD (by kernel_rfl));clear hd;refine rY aB ?_;exact dj _ w5 (.refl w5) rfl
  .have d0:f' 43=.pointer (some ⟨X,0,none⟩):=hd 1 (aD (by kernel_rfl));clear hd;refine rY aB ?_;exact dj _ w5 (.refl w5) rfl
  .have d0:f' 44=.pointer (some ⟨X,1,none⟩):=hd 2 (aD (by kernel_rfl));have c0:=(hX.kp lz).c1;clear hd;(refine rO aB rfl ?_;intro _ dt K_ dr;(have hc:=(Ext.twin dt).cell c0);go_simp;(try rw[wI _]);(try rw[wU _]);refine dr _ ?_;clear dr K_ dt;simp only[sS,sN]);exact dj _ w5 (.refl w5) rfl
  .clear hd;refine rY aB ?_;exact dj _ w5 (.refl w5) rfl
  .have d0:f' 46=.pointer (some ⟨lb,0,none⟩):=hd 4 (aD (by kernel_rfl));have c0:=lz.cell (λx=>x) cl;clear hd;(refine rO aB rfl ?_;intro _ dt K_ dr;(have hc:=(Ext.twin dt).cell c0);go_simp;(try rw[wI _]);(try rw[wU _]);refine dr _ ?_;clear dr K_ dt;simp only[sS,sN]);exact dj _ w5 (.refl w5) rfl
  .clear hd;refine rY aB ?_;exact dj _ w5 (.refl w5) rfl
  .clear hd;refine bV aB rfl rfl (by kernel_rfl) (λu hu=>jN (x:=.tmp 5) (b:=kb) rfl (by simp[UJ]) ((Ext.twin hu).row (lz.cells _ _ _ _ (λx=>x) hkb))) ?_;exact dj _ w5 (.refl w5) rfl
  .exact absurd rfl dy
  .exact absurd rfl yx
 .rintro f' S1 w5 rest hB hf hd dj;have d0:f' 48=.pointer (some ⟨X,0,none⟩):=hd 6 (by simp);have d1:f' 49=.agg (aL l.id l.size l.turn p (aR G' 14)):=hd 7 (by simp);clear hd hf;refine dV Tryz.func55 (Pc p l G' hl oa hp jb gh eu (ak hg hB.size) hK (hX.kp hB)) ?_;rintro _ S2 w6 _ ⟨qs,rfl⟩;exact dj _ S2 w6 (hB.trans qs) rfl λj y hj h=>h
 .rintro f' S1 w5 rest hB hf hd dj;have d0:f' 45=.map (some M):=hd 3 (by decide) (by decide);have d1:f' 47=.int .i64 (l.id:Nat):=hd 5 (by decide) (by decide);have d2:f' 50=.agg (aL l.id l.size l.turn p (aR G' 14)):=hd 8 (by decide) (by decide);have oy:w5.heap[M]?=some (bL L clock):=hB.objs _ _ (λx=>x) hm trivial;clear hd;refine vF rfl rfl rfl (x:=.tmp 45) (y:=.tmp 47) (z:=.tmp 50) (e:=l.ent p (aR G' 14)) (by simp[d0]) (by simp[d1,Lb.ent]) (by simp[d2];rfl) oy λw6 hW=>?_
  exact dj undef S1 w6 ⟨λs hs=>hf s (tP (by kernel_rfl) hs),w5,hB,oy,hW⟩
 .rintro f' S1 w5 ⟨hf,w1,h1,h2,h3⟩;exact next w1 w5 f' S1 h1 h2 h3 hf
end
theorem aA.max2{P:Program}{S:Nat->Prop}(x y:Value):aA P S (Builtin.max2 x y):=by
 unfold Builtin.max2;split
 .exact aA.pure _
 .split<;>first|exact aA.pure _|exact aA.bind (aA.choose _) λ_=>aA.pure _
 .exact aA.bind (aA.stringOp _ _ _) λ_=>aA.bind (aA.asBool _) λ_=>aA.pure _
 .exact aA.unsupported _
 .exact aA.unsupported _
 .exact aA.stuck _
theorem aA.max{P:Program}{S:Nat->Prop}(ts:Array TypeId)(t:TypeId)(args:Array Value):aA P S (Builtin.max_ ts t args):=by
 unfold Builtin.max_;split
 .exact aA.stuck _
 .exact aA.foldL (λ_ _=>aA.max2 _ _) _ _
def P_(X lb tn tl:Nat)(j:Nat)(x:Value)(w:World):Prop:=
 match j with
 |0=>x=.pointer (some ⟨X,0,none⟩)
 |1=>x=.pointer (some ⟨X,0,none⟩)
 |2=>x=.pointer (some ⟨X,0,none⟩)
 |3=>x=.pointer (some ⟨X,2,none⟩)
 |4=>x=.int .u64 (tn:Nat)
 |5=>x=.pointer (some ⟨lb,2,none⟩)
 |6=>x=.int .u64 (tl:Nat)
 |7=>x=.int .u64 ((max tn tl:Nat):Int)
 |8=>x=.pointer (some ⟨X,0,none⟩)
 |9=>x=.pointer (some ⟨X,2,none⟩)
 |_=>True
theorem Pt{S:Nat->Prop}{o:Oper}{a:Act}{x y:Operand}{t:TypeId}(dm:o.op=.call {callee:=.builtin .max,args:=#[x,y],argTypes:=#[t,t]}):aA Tryz.prog S (execOp a.eval o):=by unfold execOp;simp only[dm,resolve,invoke,builtin,List.map_toArray,List.map_cons,List.map_nil];show aA Tryz.prog S (Builtin.max_ #[t,t] o.type #[a.eval x,a.eval y] >>= λr=>pure (Next.value r));exact aA.bind (aA.max _ _ _) λ_=>aA.pure _
theorem Px{o:Oper}{ac:Act}{x y:Operand}{t:TypeId}{a b:Nat}{u:World}(dm:o.op=.call {callee:=.builtin .max,args:=#[x,y],argTypes:=#[t,t]})(hx:ac.eval x=.int .u64 (a:Nat))(hy:ac.eval y=.int .u64 (b:Nat)):(execOp ac.eval o).run Tryz.prog u=.ok (.value (.int .u64 ((max a b:Nat):Int))) u:=by
 have hmax:(if (a:Int)<(b:Int) then(b:Int) else(a:Int))=((max a b:Nat):Int):=by split<;>omega
 unfold execOp;simp[dm,resolve,invoke,builtin,hx,hy,Builtin.max_,Builtin.max2];omega
def jD(L:List Ent)(l:Lb)(G:Nat->Bool):Bool:=decide (10<=aT (aR G 14) 14)&&(match aQ l.id L 0 with|some q=>decide (q.2.turn<l.turn)|none=>true)
section
variable {X D DB DA M:Nat}{RB RA:Nat->Nat}{nd nb turn:Nat}{s:Dsk}{L:List Ent}{w w' v:World}{S:Nat->Prop}
theorem EntOk.born{nb turn:Nat}{c:Nat->Nat->Nat->Nat}{e:Ent}(h:EntOk nb turn c e)(b:Nat):EntOk nb turn c {e with born:=b}:=⟨h.id1,h.id2,h.size,h.turn,h.slot,h.val,h.ten,h.blk⟩
theorem EntOk.turns{nb turn t':Nat}{c:Nat->Nat->Nat->Nat}{e:Ent}(h:EntOk nb turn c e)(ht:e.turn<=t'):EntOk nb t' c e:=⟨h.id1,h.id2,h.size,ht,h.slot,h.val,h.ten,h.blk⟩
theorem StE.took{e:Ent}{clock t':Nat}{w1 w2 A4 w3:World}(h:StE X D DB DA M RB RA nd nb turn s L w)(hK:Kp w (λ_=>False) w1)(hW:Wr w1 M (bL (bS L e clock) (iQ L e.id clock)) w2)(rn:PutOk L e clock)(hE:Ext w2 A4)(vd:Wr A4 X (.cells #[.pointer (some ⟨D,0,none⟩),.map (some M),.int .u64 (t':Nat)] 80) w3)(ht:turn<=t')(he:EntOk nb t' s.c e):StE X D DB DA M RB RA nd nb t' s (bS L e clock) w3:=by
 have h1:=h.kp hK;have iu:Kp w1 (λb=>b=M∨b=X) w3:=(((Kp.refl w1 _).wr (.inl (.inl rfl)) hW).ext hE).wr (.inl (.inr rfl)) vd;refine⟨vd.at_,⟨_,aO vd (by rw[hE.block M (Array.getElem?_eq_some_iff.1 hW.at_).1];exact hW.at_) h1.mn.2.1,rn.lt⟩,h1.dk.kp iu ?_ ?_ ?_ ?_,λx hx=>?_,rn.idn,rn.slots,rn.borns⟩
 .rintro(q|q)
  .exact h1.mn.1 (.inl q.symm)
  .exact h1.xn (.inl q.symm)
 .rintro(q|q)
  .exact h1.mn.2.2.1 q.symm
  .exact bP h1.row h1.dk.db (by decide) q.symm
 .rintro(q|q)
  .exact h1.mn.2.2.2 q.symm
  .exact bP h1.row h1.dk.da (by decide) q.symm
 .intro d hd;refine⟨?_,?_⟩
  .rintro(q|q)
   .exact h1.mn.1 (.inr ⟨d,hd,.inl q.symm⟩)
   .exact h1.xn (.inr ⟨d,hd,.inl q.symm⟩)
  .rintro(q|q)
   .exact h1.mn.1 (.inr ⟨d,hd,.inr q.symm⟩)
   .exact h1.xn (.inr ⟨d,hd,.inr q.symm⟩)
 .rcases rn.mem x hx with⟨b,rfl⟩|⟨AR,_⟩
  .exact he.born b
  .exact(h.ent x AR).turns (ak (h.ent x AR).turn ht)
theorem vP{f:Nat->Value}{Stop:Goroutine->(Nat->Prop)->World->Prop}{cs:List Frame}{k0:List Item}(lb tn id size tl:Nat)(mm:Value)(zw:mm=.map (some M))(hx:w.heap[X]?=some (.cells #[.pointer (some ⟨D,0,none⟩),mm,.int .u64 (tn:Nat)] 80))(RY:w.heap[lb]?=some (.cells (bG id size tl) 120))
  (g0:f 0=.pointer (some ⟨X,0,none⟩)) (g4:f 4=.pointer (some ⟨lb,0,none⟩))
  (next:∀w1 w2 f',Ext w w1->Wr w1 X (.cells #[.pointer (some ⟨D,0,none⟩),mm,.int .u64 ((max tn tl:Nat):Int)] 80) w2->(∀s,s<51->f' s=f s)->Vw.Reach Tryz.prog Stop (G ((base 26).at ⟨TA 61 f',[]⟩ (.inRegion ((bM 6 (Tryz.f26.body.getD .skip)).getD #[]) []::k0)) cs) S w2) :
  Vw.Reach Tryz.prog Stop (G ((base 26).at ⟨TA 61 f,[]⟩ (.code (.region 6 ((bM 6 (Tryz.f26.body.getD .skip)).getD #[]) true)::k0)) cs) S w:=by
 have e0:bM 6 (Tryz.f26.body.getD .skip)=some _:=rfl;rw[e0]at next⊢
 simp only[ao]at next⊢
 clear e0;have c0:w.cell? ⟨X,2,none⟩=some (.int .u64 (tn:Nat)):=(ab _ _ _ _ _ _ hx).trans rfl;have c1:w.cell? ⟨lb,2,none⟩=some (.int .u64 (tl:Nat)):=(ab _ _ _ _ _ _ RY).trans rfl;refine iY (by kernel_rfl) (by kernel_rfl) (by kernel_rfl) 10 [0,1,2,3,4,5,6,7,8,9] (by kernel_rfl) (P_ X lb tn tl) (λS' w'=>S'=S∧Ext w w') (λS' f' w'=>S'=S∧∃w1,Ext w w1∧Wr w1 X (.cells #[.pointer (some ⟨D,0,none⟩),mm,.int .u64 ((max tn tl:Nat):Int)] 80) w') (λS' w w' h hE=>⟨h.1,h.2.trans _ _ _ hE⟩) (λS' i f x w3 w4 hi hA jh h hE=>?_) (λj x w w' h hE=>h) ?_ ⟨rfl,.refl _⟩ ?_ ?_ ?_
 .exfalso;have ft:i<11:=hi;simp at hA;omega
 .intro j hj he x w h;have jo:j<11:=hj;rcases(by omega:j=0∨j=1∨j=2∨j=3∨j=4∨j=5∨j=6∨j=7∨j=8∨j=9∨j=10) with rfl|rfl|rfl|rfl|rfl|rfl|rfl|rfl|rfl|rfl|rfl<;>first|exact trivial|cases he
 .intro i f' S1 w5 rest hi dy hB hf hd dj;have BI:f' 0=.pointer (some ⟨X,0,none⟩):=(hf 0 (aV (by kernel_rfl))).trans g0;have yk:f' 4=.pointer (some ⟨lb,0,none⟩):=(hf 4 (aV (by kernel_rfl))).trans g4;have ft:i<11:=hi
  obtain⟨eS,hE⟩:=hB (by
   simp
   omega)
  subst S1;have c0':=hE.cell c0;have UN:=hE.cell c1;clear hf hB;rcases(by omega:i=0∨i=1∨i=2∨i=3∨i=4∨i=5∨i=6∨i=7∨i=8∨i=9∨i=10) with rfl|rfl|rfl|rfl|rfl|rfl|rfl|rfl|rfl|rfl|rfl
  .clear hd;refine rY aB ?_;exact dj _ w5 (.refl w5) rfl
  .clear hd;refine rY aB ?_;exact dj _ w5 (.refl w5) rfl
  .have d0:f' 52=.pointer (some ⟨X,0,none⟩):=hd 1 (aD (by kernel_rfl));clear hd;refine rY aB ?_;exact dj _ w5 (.refl w5) rfl
  .have d0:f' 53=.pointer (some ⟨X,0,none⟩):=hd 2 (aD (by kernel_rfl));clear hd;refine rY aB ?_;exact dj _ w5 (.refl w5) rfl
  .have d0:f' 54=.pointer (some ⟨X,2,none⟩):=hd 3 (aD (by kernel_rfl));clear hd;(refine rO aB rfl ?_;intro _ dt K_ dr;(have hc:=(Ext.twin dt).cell c0');go_simp;(try rw[wI _]);(try rw[wU _]);refine dr _ ?_;clear dr K_ dt;simp only[sS,sN]);exact dj _ w5 (.refl w5) rfl
  .clear hd;refine rY aB ?_;exact dj _ w5 (.refl w5) rfl
  .have d0:f' 56=.pointer (some ⟨lb,2,none⟩):=hd 5 (aD (by kernel_rfl));clear hd;(refine rO aB rfl ?_;intro _ dt K_ dr;(have hc:=(Ext.twin dt).cell UN);go_simp;(try rw[wI _]);(try rw[wU _]);refine dr _ ?_;clear dr K_ dt;simp only[sS,sN]);exact dj _ w5 (.refl w5) rfl
  .have d0:f' 55=.int .u64 (tn:Nat):=hd 4 (aD (by kernel_rfl));have d1:f' 57=.int .u64 (tl:Nat):=hd 6 (aD (by kernel_rfl));clear hd;refine fC (by simp[base]) rfl rfl (Pt rfl) λu hu=>⟨_,u,.inl (Px (x:=.tmp 55) (y:=.tmp 57) (a:=tn) (b:=tl) rfl (by simp[d0]) (by simp[d1])),Reach.twin ⟨hu.heap.symm,hu.os.symm,hu.output.symm⟩ ?_⟩
   rw[cC];exact dj _ w5 (.refl w5) rfl
  .have d0:f' 51=.pointer (some ⟨X,0,none⟩):=hd 0 (aD (by kernel_rfl));clear hd;refine rY aB ?_;exact dj _ w5 (.refl w5) rfl
  .have d0:f' 59=.pointer (some ⟨X,0,none⟩):=hd 8 (aD (by kernel_rfl));clear hd;refine rY aB ?_;exact dj _ w5 (.refl w5) rfl
  .exact absurd rfl dy
 .rintro f' S1 w5 rest ⟨eS,hB⟩ hf hd dj;subst S1;have d0:f' 60=.pointer (some ⟨X,2,none⟩):=hd 9 (by simp);have d1:f' 58=.int .u64 ((max tn tl:Nat):Int):=hd 7 (by simp);clear hd hf;refine dQ aB rfl rfl (by kernel_rfl) (x:=.tmp 60) (y:=.tmp 58) (g:=X) (j:=2) (z:=.int .u64 ((max tn tl:Nat):Int)) rfl (by simp[d0]) (by simp[d1]) rfl rfl (hB.row hx) (by simp) (by kernel_rfl) λw6 hW=>?_
  exact dj undef S w6 ⟨rfl,w5,hB,hW⟩ trivial λj x' hj h=>h
 .rintro f' S1 w5 ⟨eS,w1,eh,hW⟩ hf hd;subst S1;exact next w1 w5 f' eh hW λs hs=>hf s (tP (by kernel_rfl) hs)
end
section
variable {X D DB DA M:Nat}{RB RA:Nat->Nat}{nd nb turn:Nat}{s:Dsk}{L:List Ent}{w w' v:World}{S:Nat->Prop}
def Sv(L:List Ent)(turn p:Nat)(l:Lb)(G:Nat->Bool)(L':List Ent)(ia:Nat):Prop:=
 if iA G 14=true then ia=max turn l.turn∧(if jD L l G=true then ∃clock,PutOk L (l.ent p (aR G 14)) clock∧L'=bS L (l.ent p (aR G 14)) clock else L'=L) else ia=turn∧L'=L
def uQ(X M b:Nat):Prop:=b=X∨b=M
theorem StE.turned{t':Nat}{w1:World}(h:StE X D DB DA M RB RA nd nb turn s L w)(ht:turn<=t')(hK:Kp w (λ_=>False) w1)(hW:Wr w1 X (.cells #[.pointer (some ⟨D,0,none⟩),.map (some M),.int .u64 (t':Nat)] 80) w'):StE X D DB DA M RB RA nd nb t' s L w':=(h.kp hK).wrX ht hW
theorem Pm(t:TypeId)(e:Value)(p:Nat)(l:Lb)(G':Nat->Bool)(rv:v.cell? ⟨0,0,none⟩=some (.iface t e))(hg:Tryz.prog.globals.size<=v.heap.size)(hp:p<nb)(jb:14<=nd)(gh:nd<=18)(eu:nb<=64)(hK:SlotK s.c p l G')(hX:StE X D DB DA M RB RA nd nb turn s L v)(GK:∀e∈L,e.slot≠p):aJ Tryz.prog 26 #[.pointer (some ⟨X,0,none⟩),.int .i64 (p:Nat)] S v λx S' v'=>x=.tuple #[]∧Kp v (uQ X M) v'∧∃L' ia,Sv L turn p l G' L' ia∧StE X D DB DA M RB RA nd nb ia s L' v':=by
 refine cX Tryz.func26 rfl Tryz.ntmps26 λStop cc cs ret f g0 g1=>?_
 repeat refine rN ?_
 refine rK Tryz.func53 (Rb t e p l G' rv hp jb gh eu hK hX) ?_;rintro _ S1 w1 _ ⟨e1,eh,m,rfl,F_,nh⟩;subst S1;have ss:=hX.ext eh;cases qk:iA G' 14 with
 |false=>
  have VM:gG l G' p 14=none:=by unfold gG;rw[qk];rfl
  rw[VM]at nh;refine sB rfl rfl rfl (m:=m) (by simp) Tryz.underlying117 nh λw2 ep zy=>?_;simp only[stO_some];repeat refine rN ?_
  refine bF (λd f' S' w=>S'=S∧w=w2∧f' 11=.pointer (some ⟨w1.heap.size,0,none⟩)) 0 ⟨rfl,rfl,by simp⟩ ?_;clear g0 g1 f;rintro d f S' w ⟨eS,eW,g11⟩ dj;subst S' w;repeat refine rN ?_
  refine Lu rfl rfl rfl (r:=w1.heap.size) (m:=m) (by simp[g11]) zy (ep.row nh) ?_;simp only[stO_some];repeat refine rN ?_
  refine rZ (by simp[Act.eval]) ?_;refine bC rfl ?_;repeat refine rN ?_
  refine gQ ?_;have hE:=eh.trans _ _ _ ep;refine ret _ _ S w2 (.tuple #[]) ?_ ⟨rfl,(Kp.refl v _).ext hE,L,turn,?_,hX.ext hE⟩
  .simp[results,Tryz.results26]
  .unfold Sv;rw[ah (by rw[qk];exact Bool.false_ne_true)];exact⟨rfl,rfl⟩
 |true=>
  have hl:l.Ok:=by obtain⟨k,hk,sj⟩:=List.any_eq_true.1 qk;exact hK.ok k (List.mem_range.1 hk) sj
  have hf1:gG l G' p 14=some ⟨l.id,l.size,l.turn,p,aR G' 14⟩:=by unfold gG;rw[qk];rfl
  rw[hf1]at nh;refine sB rfl rfl rfl (m:=m) (by simp) Tryz.underlying117 nh λw2 ep zy=>?_;simp only[stO_some];repeat refine rN ?_
  have mi:=eh.trans _ _ _ ep;have vv:w2.heap[m]?=some (dB (some ⟨l.id,l.size,l.turn,p,aR G' 14⟩)):=by rw[ep.block m (Array.getElem?_eq_some_iff.1 nh).1];exact nh
  have mg:m<w1.heap.size:=(Array.getElem?_eq_some_iff.1 nh).1;have Y6:v.heap.size<=w1.heap.size:=eh.size;generalize LJ:w1.heap.size=r at *
  refine bF (λd f' S' w=>(d=1∧S'=S∧w=w2∨d=0∧Kp v (uQ X M) w∧(∃L' ia,Sv L turn p l G' L' ia∧StE X D DB DA M RB RA nd nb ia s L' w)∧w.heap[r]?=some (.mapIter (some m) 1 #[0] 1)∧w.heap[m]?=some (dB (some ⟨l.id,l.size,l.turn,p,aR G' 14⟩)))∧f' 0=.pointer (some ⟨X,0,none⟩)∧f' 11=.pointer (some ⟨r,0,none⟩)) 1 ⟨.inl ⟨rfl,rfl,rfl⟩,by simp[g0],by simp⟩ ?_;clear g0 g1 f;rintro d f S' w ⟨ou,g0,g11⟩ dj;rcases ou with⟨ed,eS,eW⟩|⟨ed,wj,ij,hit,se⟩
  .subst S' w;have yh:=hX.ext mi;obtain⟨clock,hmv,qp⟩:=yh.map;repeat refine rN ?_
   refine Kq rfl rfl rfl (r:=r) (m:=m) (d:=⟨l.id,l.size,l.turn,p,aR G' 14⟩) (by simp[g11]) zy vv λw3 fz=>?_;simp only[stO_some];have ef:Ext v w3:=bO mi Y6 fz;have FA:=aO fz vv (by omega);repeat refine rN ?_
   refine rX (by simp[Act.eval]) ?_;repeat refine rN ?_
   refine Ks rfl rfl rfl (r:=r) (m:=m) (d:=⟨l.id,l.size,l.turn,p,aR G' 14⟩) (by simp[g11]) fz.at_ FA ?_;simp only[stO_some];repeat refine rN ?_
   refine cD aB rfl rfl (by kernel_rfl) (.agg zE) rfl (by kernel_rfl) λw4 gn kl AT=>?_;simp only[stO_some];refine cD aB rfl rfl (by kernel_rfl) (.agg (aL 0 0 0 0 λ_=>false)) rfl (by kernel_rfl) λw5 lh FK CQ=>?_;simp only[stO_some];refine cS aB rfl rfl (by kernel_rfl) (x:=.tmp 4) (y:=.tmp 15) (g:=w3.heap.size) (c:=bG l.id l.size l.turn) rfl (by simp) (by simp) (lh.row kl) (by kernel_rfl) rfl (by simp[bG,Value.oneCell']) λw6 ku=>?_;simp only[stO_none];have e9:=aO ku FK (by omega);refine cS aB rfl rfl (by kernel_rfl) (x:=.tmp 5) (y:=.tmp 16) (g:=w4.heap.size) (c:=aL l.id l.size l.turn p (aR G' 14)) rfl (by simp) (by simp) e9 (by kernel_rfl) rfl (by simp[aL,Value.oneCell']) λw7 nz=>?_;simp only[stO_none];have ve:Ext w3 w7:=bO (bO (gn.trans _ _ _ lh) (ae _) ku) (by omega) nz;have RX:=aO nz ku.at_ (by omega);have ZG:=nz.at_;have hX7:=hX.ext (ef.trans _ _ _ ve);have ZL:=ve.row fz.at_;have ng:w7.heap[m]?=some (dB (some ⟨l.id,l.size,l.turn,p,aR G' 14⟩)):=by rw[ve.block m (Array.getElem?_eq_some_iff.1 FA).1];exact FA
   have K3:M<v.heap.size:=by obtain⟨cl,q,_⟩:=hX.map;exact(Array.getElem?_eq_some_iff.1 q).1
   have LX:w7.heap[M]?=some (bL L clock):=by rw[ve.block M (by have:=ef.size;omega),ef.block M K3,<-mi.block M K3];exact hmv
   have SK:Tryz.prog.globals.size<=w7.heap.size:=by have:=(ef.trans _ _ _ ve).size;omega
   have hv7:=(ef.trans _ _ _ ve).size;generalize hlbd:w3.heap.size=lb at *
   generalize hkbd:w4.heap.size=kb at *
   repeat refine rN ?_
   refine Lh lb l.id l.size l.turn clock hX7.c1 LX RX (by simp[g0]) (by simp) λw8 f8 g KL su YM g6 g7 MO=>?_;have k0:f8 0=.pointer (some ⟨X,0,none⟩):=(MO 0 (by omega)).trans (by simp[g0]);have k4:f8 4=.pointer (some ⟨lb,0,none⟩):=(MO 4 (by omega)).trans (by simp);have k5:f8 5=.pointer (some ⟨kb,0,none⟩):=(MO 5 (by omega)).trans (by simp);have NT:f8 11=.pointer (some ⟨r,0,none⟩):=(MO 11 (by omega)).trans (by simp[g11]);have SD:=KL.row ZG;have ZE:=KL.row RX;clear MO;repeat refine rN ?_
   refine bV aB rfl rfl (by kernel_rfl) (λu hu=>jN (x:=.tmp 5) (b:=kb) rfl (by simp[k5]) ((Ext.twin hu).row SD)) ?_;simp only[stO_some];refine rK Tryz.func54 (Aq (l.ent p (aR G' 14))) ?_;rintro _ S1 w9 _ ⟨rfl,e1,EN⟩;subst S1;have IB:=ef.trans _ _ _ (ve.trans _ _ _ (KL.trans _ _ _ EN));have JZ:=hX.ext IB;have xw:=EN.row ZE;have SC:=EN.row SD;have LQ:=EN.row YM;have ID:=KL.trans _ _ _ EN;have MC:=ID.row ZL;have OK:w9.heap[m]?=some (dB (some ⟨l.id,l.size,l.turn,p,aR G' 14⟩)):=by rw[ID.block m (Array.getElem?_eq_some_iff.1 ng).1];exact ng
   have RK:w9.heap[M]?=some (bL L clock):=by rw[ID.block M (Array.getElem?_eq_some_iff.1 LX).1];exact LX
   have H6:Tryz.prog.globals.size<=w9.heap.size:=ak SK ID.size;have hXlt:X<v.heap.size:=(Array.getElem?_eq_some_iff.1 hX.row).1;have hlbn:v.heap.size<=lb:=by have:=ef.size;omega
   have hlt9:lb<w9.heap.size:=(Array.getElem?_eq_some_iff.1 xw).1;have no:∀(f:Nat->Value)(S':Nat->Prop)(kk:List Item),jD L l G'=false->f 0=.pointer (some ⟨X,0,none⟩)->f 4=.pointer (some ⟨lb,0,none⟩)->f 11=.pointer (some ⟨r,0,none⟩)->(∀w' f',(∀s,s<51->f' s=f s)->(0=1∧S'=S∧w'=w2∨0=0∧Kp v (uQ X M) w'∧(∃L' ia,Sv L turn p l G' L' ia∧StE X D DB DA M RB RA nd nb ia s L' w')∧w'.heap[r]?=some (.mapIter (some m) 1 #[0] 1)∧w'.heap[m]?=some (dB (some ⟨l.id,l.size,l.turn,p,aR G' 14⟩)))->Vw.Reach Tryz.prog Stop (G ((base 26).at ⟨TA 61 f',[]⟩ (.inRegion ((bM 6 (Tryz.f26.body.getD .skip)).getD #[]) []::kk)) (cc::cs)) S' w')->Vw.Reach Tryz.prog Stop (G ((base 26).at ⟨TA 61 f,[]⟩ (.code (.region 6 ((bM 6 (Tryz.f26.body.getD .skip)).getD #[]) true)::kk)) (cc::cs)) S' w9:=by intro f S' kk ht q0 q4 q11 uh;refine vP (D:=D) lb turn l.id l.size l.turn _ rfl JZ.row xw q0 q4 λwa wb f' NH vc jk=>?_;refine uh wb f' jk (.inr ⟨rfl,(((Kp.refl v _).ext (IB.trans _ _ _ NH)).wr (.inl (.inl rfl)) vc),⟨L,_,?_,JZ.turned (Nat.le_max_left _ _) (aS NH) vc⟩,aO vc (NH.row MC) (by omega),aO vc (by rw[NH.block m (Array.getElem?_eq_some_iff.1 OK).1];exact OK) (by omega)⟩);unfold Sv;rw[ai qk];exact⟨rfl,by rw[ah (by rw[ht];exact Bool.false_ne_true)]⟩
   have ml:aT (aR G' 14) 14<=14:=yS _ _;have I1:aT (l.ent p (aR G' 14)).good 14=aT (aR G' 14) 14:=rfl;rw[I1];by_cases oa:10<=aT (aR G' 14) 14
   .have NN:(10:Int)<=(aT (aR G' 14) 14:Nat):=by omega
    have EW:jD L l G'=(match aQ l.id L 0 with|some q=>decide (q.2.turn<l.turn)|none=>true):=by unfold jD;rw[decide_eq_true oa,Bool.true_and];try (cases aQ l.id L 0<;>rfl)
    have HT:=aP EW;clear EW;obtain⟨cg,I0⟩:∃cg,aT (aR G' 14) 14=cg:=⟨_,rfl⟩;have uq:10<=cg:=by omega
    have hc14:cg<=14:=by omega
    have FE:(10:Int)<=(cg:Int):=by omega
    rw[I0];clear I0 NN I1 ml;cases hq:aQ l.id L 0 with
    |none=>
     rw[hq]at g7 LQ;have zn:jD L l G'=true:=by rw[HT.out,hq]
     clear hq;repeat refine rN ?_
     refine rX (by simp[Act.eval,FE,uq]) ?_;repeat refine rN ?_
     refine Ax lb kb p clock l G' hl oa hp jb gh eu H6 hK JZ RK xw SC (by simp[k0]) (by simp[k4]) (by simp[k5]) λwa wb fb Sb AL ZC vc MN=>?_;have b0:fb 0=.pointer (some ⟨X,0,none⟩):=(MN 0 (by omega)).trans (by simp[k0]);have b4:fb 4=.pointer (some ⟨lb,0,none⟩):=(MN 4 (by omega)).trans (by simp[k4]);have UO:fb 11=.pointer (some ⟨r,0,none⟩):=(MN 11 (by omega)).trans (by simp[NT]);have TK:=JZ.kp AL;have rn:PutOk L (l.ent p (aR G' 14)) clock:=yN hX.ids hX.slots hX.borns qp GK;have XH:=aO vc TK.row (λe=>TK.mn.2.1 e.symm);have DQ:=AL.cells _ _ _ _ (λx=>x) xw;have LZ:=aO vc DQ (λe=>iP ZC DQ e.symm);repeat refine rN ?_
     refine vP (D:=D) lb turn l.id l.size l.turn _ rfl XH LZ (by simp[b0]) (by simp[b4]) λwc wd fd BG HJ za=>?_;have d0:fd 0=.pointer (some ⟨X,0,none⟩):=(za 0 (by omega)).trans (by simp[b0]);have d11:fd 11=.pointer (some ⟨r,0,none⟩):=(za 11 (by omega)).trans (by simp[UO]);repeat refine rN ?_
     refine dj _ _ _ 0 (by omega) ⟨.inr ⟨rfl,(((((Kp.refl v _).ext IB).trans (AL.mono λ_ q=>q.elim)).wr (.inl (.inr rfl)) vc).ext BG).wr (.inl (.inl rfl)) HJ,⟨bS L (l.ent p (aR G' 14)) clock,max turn l.turn,?_,?_⟩,?_,?_⟩,by simp[d0],by simp[d11]⟩
     .unfold Sv;rw[ai qk];refine⟨rfl,?_⟩;rw[ai zn];exact⟨clock,rn,rfl⟩
     .exact JZ.took AL vc rn BG HJ (Nat.le_max_left _ _) ((hK.entOk hl hp oa).turns (Nat.le_max_right _ _))
     .exact aO HJ (BG.row (aO vc (AL.objs _ _ (λx=>x) MC trivial) (by omega))) (by omega)
     .have q1:=aO vc (AL.objs _ _ (λx=>x) OK trivial) (by omega);exact aO HJ (by rw[BG.block m (Array.getElem?_eq_some_iff.1 q1).1];exact q1) (by omega)
    |some q=>
     rw[hq]at g7 LQ;have ct:w9.cell? ⟨g,2,none⟩=some (.int .u64 (q.2.turn:Nat)):=(ab _ _ _ _ _ _ LQ).trans rfl;have M4:w9.cell? ⟨lb,2,none⟩=some (.int .u64 (l.turn:Nat)):=(ab _ _ _ _ _ _ xw).trans rfl;by_cases dp:q.2.turn<l.turn
     .have zn:jD L l G'=true:=by rw[HT.out,hq];simp[dp]
      clear hq;have hltI:(q.2.turn:Int)<(l.turn:Int):=by omega
      repeat (first|refine rQ rfl ?_|(refine rO aB rfl ?_;intro _ dt K_ dr;(have hc:=(Ext.twin dt).cell ct;have ek:=(Ext.twin dt).cell M4);go_simp;(try rw[wI _]);(try rw[wU _]);refine dr _ ?_;clear dr K_ dt;simp only[sS,sN])|refine rW ?_)
      refine rX (by simp[Act.eval,FE,uq,dp]) ?_;repeat refine rN ?_
      refine Ax lb kb p clock l G' hl oa hp jb gh eu H6 hK JZ RK xw SC (by simp[k0]) (by simp[k4]) (by simp[k5]) λwa wb fb Sb AL ZC vc MN=>?_;have b0:fb 0=.pointer (some ⟨X,0,none⟩):=(MN 0 (by omega)).trans (by simp[k0]);have b4:fb 4=.pointer (some ⟨lb,0,none⟩):=(MN 4 (by omega)).trans (by simp[k4]);have UO:fb 11=.pointer (some ⟨r,0,none⟩):=(MN 11 (by omega)).trans (by simp[NT]);have TK:=JZ.kp AL;have rn:PutOk L (l.ent p (aR G' 14)) clock:=yN hX.ids hX.slots hX.borns qp GK;have XH:=aO vc TK.row (λe=>TK.mn.2.1 e.symm);have DQ:=AL.cells _ _ _ _ (λx=>x) xw;have LZ:=aO vc DQ (λe=>iP ZC DQ e.symm);repeat refine rN ?_
      refine vP (D:=D) lb turn l.id l.size l.turn _ rfl XH LZ (by simp[b0]) (by simp[b4]) λwc wd fd BG HJ za=>?_;have d0:fd 0=.pointer (some ⟨X,0,none⟩):=(za 0 (by omega)).trans (by simp[b0]);have d11:fd 11=.pointer (some ⟨r,0,none⟩):=(za 11 (by omega)).trans (by simp[UO]);repeat refine rN ?_
      refine dj _ _ _ 0 (by omega) ⟨.inr ⟨rfl,(((((Kp.refl v _).ext IB).trans (AL.mono λ_ q=>q.elim)).wr (.inl (.inr rfl)) vc).ext BG).wr (.inl (.inl rfl)) HJ,⟨bS L (l.ent p (aR G' 14)) clock,max turn l.turn,?_,?_⟩,?_,?_⟩,by simp[d0],by simp[d11]⟩
      .unfold Sv;rw[ai qk];refine⟨rfl,?_⟩;rw[ai zn];exact⟨clock,rn,rfl⟩
      .exact JZ.took AL vc rn BG HJ (Nat.le_max_left _ _) ((hK.entOk hl hp oa).turns (Nat.le_max_right _ _))
      .exact aO HJ (BG.row (aO vc (AL.objs _ _ (λx=>x) MC trivial) (by omega))) (by omega)
      .have q1:=aO vc (AL.objs _ _ (λx=>x) OK trivial) (by omega);exact aO HJ (by rw[BG.block m (Array.getElem?_eq_some_iff.1 q1).1];exact q1) (by omega)
     .have zn:jD L l G'=false:=by rw[HT.out,hq];simp;omega
      clear hq;have DG:l.turn<=q.2.turn:=by omega
      repeat (first|refine rQ rfl ?_|(refine rO aB rfl ?_;intro _ dt K_ dr;(have hc:=(Ext.twin dt).cell ct;have ek:=(Ext.twin dt).cell M4);go_simp;(try rw[wI _]);(try rw[wU _]);refine dr _ ?_;clear dr K_ dt;simp only[sS,sN])|refine rW ?_)
      refine rZ (by simp[Act.eval,FE,uq,DG]) ?_;repeat refine rN ?_
      refine no _ S _ zn (by simp[k0]) (by simp[k4]) (by simp[NT]) λw' f' jk ek=>?_;have d0:f' 0=.pointer (some ⟨X,0,none⟩):=(jk 0 (by omega)).trans (by simp[k0]);have d11:f' 11=.pointer (some ⟨r,0,none⟩):=(jk 11 (by omega)).trans (by simp[NT]);repeat refine rN ?_
      exact dj _ _ _ 0 (by omega) ⟨ek,by simp[d0],by simp[d11]⟩
   .have NN:¬(10:Int)<=(aT (aR G' 14) 14:Nat):=by omega
    have zn:jD L l G'=false:=by unfold jD;rw[decide_eq_false oa,Bool.false_and]
    have t_:aT (aR G' 14) 14<10:=by omega
    repeat refine rN ?_
    refine rZ (by simp[Act.eval,NN,t_]) ?_;repeat refine rN ?_
    refine no _ S _ zn (by simp[k0]) (by simp[k4]) (by simp[NT]) λw' f' jk ek=>?_;have d0:f' 0=.pointer (some ⟨X,0,none⟩):=(jk 0 (by omega)).trans (by simp[k0]);have d11:f' 11=.pointer (some ⟨r,0,none⟩):=(jk 11 (by omega)).trans (by simp[NT]);repeat refine rN ?_
    exact dj _ _ _ 0 (by omega) ⟨ek,by simp[d0],by simp[d11]⟩
  .skip;repeat refine rN ?_
   refine Ko rfl rfl rfl (r:=r) (m:=m) (d:=⟨l.id,l.size,l.turn,p,aR G' 14⟩) (by simp[g11]) hit se ?_;simp only[stO_some];repeat refine rN ?_
   refine rZ (by simp[Act.eval]) ?_;refine bC rfl ?_;repeat refine rN ?_
   refine gQ ?_;refine ret _ _ S' w (.tuple #[]) ?_ ⟨rfl,wj,ij⟩;simp[results,Tryz.results26]
end
def fG(L:List Ent)(j:Nat):Bool:=L.any λe=>e.slot==j
theorem pX{L:List Ent}{j:Nat} : fG L j=true↔∃e∈L,e.slot=j:=by simp[fG]
def eY(s:Dsk)(t:Nat->Bool):Nat->Dsk
 |0=>s
 |p+1=>if t p=true then eY s t p else gW (eY s t p) p λ_=>false
section
variable {X D DB DA M:Nat}{RB RA:Nat->Nat}{nd nb turn:Nat}{s:Dsk}{L:List Ent}{w w' v:World}{S:Nat->Prop}
theorem Tm(kl:4<=nb)(jb:14<=nd)(gh:nd<=18)(eu:nb<=64)(hX:StE X D DB DA M RB RA nd nb turn s L v):aJ Tryz.prog 27 #[.pointer (some ⟨X,0,none⟩)] S v λx S' v'=>x=.tuple #[]∧S'=S∧Kp v (eH D RB RA nd) v'∧StE X D DB DA M RB RA nd nb turn (eY s (fG L) nb) L v':=by
 refine dX Tryz.func27 rfl Tryz.ntmps27 λStop cc cs ret f g0=>?_
 repeat refine rN ?_
 refine dV Tryz.func56 (Ez kl jb gh eu hX) ?_;rintro _ S1 w1 _ ⟨e1,eh,g,t,rfl,hg,OC,OB⟩;subst S1;obtain rfl:t=fG L:=by
  funext j;cases h:t j with
  |true=>exact(pX.2 (OB j h)).symm
  |false=>
   cases h':fG L j with
   |false=>rfl
   |true=>obtain⟨e,he,rfl⟩:=pX.1 h';rw[OC e he]at h;cases h
 simp only[stO_some];have ss:=hX.ext eh;have ZQ:¬eH D RB RA nd g:=by
  rintro(h|⟨d,hd,h|h⟩)
  .exact bP hg ss.dk.row (by decide) h
  .exact bP hg (ss.dk.rb d hd) (by decide) h
  .exact bP hg (ss.dk.ra d hd) (by decide) h
 have rp:Kp v (eH D RB RA nd) w1:=(Kp.refl v _).ext eh;repeat refine rN ?_
 refine bF (λd f' S' w=>∃j,d=nb-j∧j<=nb∧S'=S∧Kp v (eH D RB RA nd) w∧w.heap[g]?=some (.cells (gK nb (fG L)) 4)∧StE X D DB DA M RB RA nd nb turn (eY s (fG L) j) L w∧f' 0=.pointer (some ⟨X,0,none⟩)∧f' 5=.slice (some ⟨g,0,none⟩) nb nb∧f' 6=.int .i64 (nb:Nat)∧f' 7=.int .i64 (j:Nat)) nb ⟨0,by omega,by omega,rfl,rp,hg,ss,by simp[g0],by simp,by simp,by simp⟩ ?_;clear g0 f;rintro d f S' w ⟨j,rfl,hj,eS,hK,FD,jq,g0,g5,g6,g7⟩ dj;subst S';repeat refine rN ?_
 by_cases dp:j<nb
 .have ja:(j:Int)<(nb:Int):=by omega
  have AA:w.cell? ⟨g,j,none⟩=some (.bool (fG L j)):=(ab _ _ _ _ _ _ FD).trans (Da dp);refine rX (by simp[Act.eval,g7,g6,ja,dp]) ?_;cases OA:fG L j with
  |true=>
   rw[OA]at AA;repeat refine rM AA ?_
   refine rZ (by simp[Act.eval]) ?_;repeat refine rN ?_
   refine dj _ _ _ (nb-(j+1)) (by omega) ⟨j+1,rfl,by omega,rfl,hK,FD,?_,by simp[g0],by simp[g5],by simp[g6],by simp⟩;unfold eY;rw[ai OA];exact jq
  |false=>
   rw[OA]at AA;repeat refine rM AA ?_
   refine rX (by simp[Act.eval]) ?_;repeat refine rN ?_
   refine rK Tryz.func57 (yF (λ_=>false) j dp jb gh eu jq.row jq.dk) ?_;rintro _ S1 w2 _ ⟨rfl,e1,iu,xf⟩;subst S1;repeat refine rN ?_
   refine dj _ _ _ (nb-(j+1)) (by omega) ⟨j+1,rfl,by omega,rfl,hK.trans iu,iu.cells _ _ _ _ ZQ FD,?_,by simp[g0],by simp[g5],by simp[g6],by simp⟩;unfold eY;rw[ah (by rw[OA];exact Bool.false_ne_true)];exact jq.slotOff (p:=j) (λe he h=>by rw[pX.2 ⟨e,he,h⟩]at OA;cases OA) iu xf λd q hq=>kY hq
 .obtain rfl:j=nb:=by omega
  refine rZ (by simp[Act.eval,g7,g6]) ?_;refine bC rfl ?_;repeat refine rN ?_
  refine gQ ?_;refine ret _ _ S w (.tuple #[]) ?_ ⟨rfl,rfl,hK,jq⟩;simp[results,Tryz.results27]
end
