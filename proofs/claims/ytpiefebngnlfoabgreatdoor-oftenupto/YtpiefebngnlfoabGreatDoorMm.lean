import Derived.Test.YtpiefebngnlfoabGreatDoorMk
set_option maxRecDepth 99999
set_option maxHeartbeats 0
set_option linter.unusedVariables false
set_option linter.unusedSimpArgs false
namespace Go.Proofs.YtpiefebngnlfoabGreatDoor
open Go.RowKit Go.Conc Go.Vw
def kX(r:Option (Nat×Ent)):Array Value:=match r with
 |some q=>bP q.2
 |none=>aK 0 0 0 0 fun _=>false
theorem Eu(r:Option (Nat×Ent)):fR r=.tuple #[.agg (kX r),.bool r.isSome]:=by cases r<;>rfl
theorem Eq(r:Option (Nat×Ent)):∃ i z t q g,kX r=aK i z t q g:=by
 cases r with
 |none=>exact⟨0,0,0,0,fun _=>false,rfl⟩
 |some q=>exact⟨q.2.id,q.2.size,q.2.turn,q.2.slot,q.2.good,rfl⟩
theorem Vd(r:Option (Nat×Ent)):(kX r).all (·.oneCell')=true:=by
 obtain⟨i,z,t,q,g,h⟩:=Eq r;rw[h];simp[aK,Value.oneCell']
def sF(X M lb V id:Nat)(r:Option (Nat×Ent))(j:Nat)(x:Value)(w:World):Prop:=
 match j with
 |0=>x=.pointer (some ⟨X,0,none⟩)
 |1=>x=.pointer (some ⟨X,0,none⟩)
 |2=>x=.pointer (some ⟨X,1,none⟩)
 |3=>x=.map (some M)
 |4=>x=.pointer (some ⟨lb,0,none⟩)
 |5=>x=.int .i64 (id:Nat)
 |6=>x=fR r
 |7=>x=fR r
 |8=>x=.agg (kX r)
 |9=>x=.bool r.isSome
 |10=>∃ g,x=.pointer (some ⟨g,0,none⟩)∧V<=g∧∃ c:Array Value,c.size=18∧w.heap[g]?=some (.cells c 81)
 |12=>x=.bool r.isSome
 |_=>True
theorem Qg(X M lb V id:Nat)(r:Option (Nat×Ent)):∀ j x w w',sF X M lb V id r j x w->Ext w w'->sF X M lb V id r j x w':=by
 intro j x w w' h hE;unfold sF at h ⊢;split at h<;>first|exact h|skip
 obtain⟨g,e,h1,c,h2,hg⟩:=h;exact⟨g,e,h1,c,h2,hE.row hg⟩
section
variable {X D DB DA M:Nat}{RB RA:Nat->Nat}{nd nb turn:Nat}{s:Dsk}{L:List Ent}{w w' v:World}{S:Nat->Prop}
theorem Li{f:Nat->Value}{Stop:Goroutine->(Nat->Prop)->World->Prop}{cs:List Frame}{k0:List Item}(lb id size tn clock:Nat)(hx1:w.cell? ⟨X,1,none⟩=some (.map (some M)))(hm:w.heap[M]?=some (bM L clock))(hlb:w.heap[lb]?=some (.cells (aZ id size tn) 78))
  (g0:f 0=.pointer (some ⟨X,0,none⟩)) (g4:f 4=.pointer (some ⟨lb,0,none⟩))
  (next:∀ w' f' g,Ext w w'->w.heap.size<=g->w'.heap[g]?=some (.cells (kX (aL id L 0)) 81)->f' 6=.pointer (some ⟨g,0,none⟩)->f' 7=.bool (aL id L 0).isSome->(∀ s,s<6∨(8<=s∧s<17)->f' s=f s)->Vw.Reach Tryz.prog Stop (G ((base 46).at ⟨TA 61 f',[]⟩ (.inRegion ((cJ 3 (Tryz.f46.body.getD .skip)).getD #[]) [] :: k0)) cs) S w') :
  Vw.Reach Tryz.prog Stop (G ((base 46).at ⟨TA 61 f,[]⟩ (.code (.region 3 ((cJ 3 (Tryz.f46.body.getD .skip)).getD #[]) true) :: k0)) cs) S w:=by
 have e0:cJ 3 (Tryz.f46.body.getD .skip)=some _:=rfl;rw[e0]at next ⊢
 simp only[Option.getD_some]at next ⊢
 clear e0;have cl:w.cell? ⟨lb,0,none⟩=some (.int .i64 (id:Nat)):=(cell_of_row _ _ _ _ _ _ hlb).trans rfl;refine jK (by kernel_rfl) (by kernel_rfl) (by kernel_rfl) 11 [0,1,2,3,4,5,6,7,8,10] (by kernel_rfl) (sF X M lb w.heap.size id (aL id L 0)) (fun S' w'=>S'=S∧Ext w w') (fun S' f w'=>S'=S∧Ext w w'∧∃ g,f 6=.pointer (some ⟨g,0,none⟩)∧w.heap.size<=g∧w'.heap[g]?=some (.cells (kX (aL id L 0)) 81)) (fun S' w w' h hE=>⟨h.1,h.2.trans _ _ _ hE⟩) (fun S' i f x w3 w4 hi hA hm' h hE=>?_) (Qg _ _ _ _ _ _) ?_ ⟨rfl,.refl _⟩ ?_ ?_ ?_
 .obtain⟨h1,h2,g,q1,q2,q4⟩:=h;refine⟨h1,h2.trans _ _ _ hE,g,?_,q2,hE.row q4⟩;have hi':i<13:=hi;simp at hA;rcases(by omega:i=9∨i=12) with rfl|rfl
  .exact q1
  .exact q1
 .intro j hj he x w h;have hj':j<13:=hj;rcases(by omega:j=0∨j=1∨j=2∨j=3∨j=4∨j=5∨j=6∨j=7∨j=8∨j=9∨j=10∨j=11∨j=12) with rfl|rfl|rfl|rfl|rfl|rfl|rfl|rfl|rfl|rfl|rfl|rfl|rfl<;>first|exact trivial|cases he
 .intro i f' S1 w5 rest hi hne hB hf hd nxt;have g0':f' 0=.pointer (some ⟨X,0,none⟩):=(hf 0 (aT (by kernel_rfl))).trans g0;have g4':f' 4=.pointer (some ⟨lb,0,none⟩):=(hf 4 (aT (by kernel_rfl))).trans g4;have hi':i<13:=hi;clear hf;rcases(by omega:i=0∨i=1∨i=2∨i=3∨i=4∨i=5∨i=6∨i=7∨i=8∨i=9∨i=10∨i=11∨i=12) with rfl|rfl|rfl|rfl|rfl|rfl|rfl|rfl|rfl|rfl|rfl|rfl|rfl
  .clear hd;refine rY aB ?_;exact nxt _ w5 (.refl w5) rfl
  .have d0:f' 18=.pointer (some ⟨X,0,none⟩):=hd 0 (aD (by kernel_rfl));clear hd;refine rY aB ?_;exact nxt _ w5 (.refl w5) rfl
  .have d0:f' 19=.pointer (some ⟨X,0,none⟩):=hd 1 (aD (by kernel_rfl));clear hd;refine rY aB ?_;exact nxt _ w5 (.refl w5) rfl
  .have d0:f' 20=.pointer (some ⟨X,1,none⟩):=hd 2 (aD (by kernel_rfl));obtain⟨eS,hE⟩:=hB (by simp);have c0:=hE.cell hx1;clear hd;(refine rO aB rfl ?_;intro _ hu_ K_ hK_;(have hc:=(Ext.twin hu_).cell c0);go_simp;(try rw[wI _]);(try rw[wU _]);refine hK_ _ ?_;clear hK_ K_ hu_;simp only[sS,sN]);exact nxt _ w5 (.refl w5) rfl
  .clear hd;refine rY aB ?_;exact nxt _ w5 (.refl w5) rfl
  .have d0:f' 22=.pointer (some ⟨lb,0,none⟩):=hd 4 (aD (by kernel_rfl));obtain⟨eS,hE⟩:=hB (by simp);have c0:=hE.cell cl;clear hd;(refine rO aB rfl ?_;intro _ hu_ K_ hK_;(have hc:=(Ext.twin hu_).cell c0);go_simp;(try rw[wI _]);(try rw[wU _]);refine hK_ _ ?_;clear hK_ K_ hu_;simp only[sS,sN]);exact nxt _ w5 (.refl w5) rfl
  .have d0:f' 21=.map (some M):=hd 3 (aD (by kernel_rfl));have d1:f' 23=.int .i64 (id:Nat):=hd 5 (aD (by kernel_rfl));obtain⟨eS,hE⟩:=hB (by simp);subst S1;have hm5:w5.heap[M]?=some (bM L clock):=by
    rw[hE.block M (Array.getElem?_eq_some_iff.1 hm).1];exact hm
   clear hd;refine oA rfl rfl rfl (x:=.tmp 21) (y:=.tmp 23) (id:=id) (by simp[d0]) (by simp[d1]) hm5 ?_;exact nxt _ w5 (.refl w5) rfl
  .have d0:f' 24=fR (aL id L 0):=hd 6 (aD (by kernel_rfl));clear hd;refine rY aB ?_;exact nxt _ w5 (.refl w5) rfl
  .have d0:f' 17=fR (aL id L 0):=hd 7 (aD (by kernel_rfl));rw[Eu]at d0;clear hd;refine rY aB ?_;exact nxt _ w5 (.refl w5) rfl
  .have d0:f' 17=fR (aL id L 0):=hd 7 (aD (by kernel_rfl));rw[Eu]at d0;clear hd;refine rY aB ?_;exact nxt _ w5 (.refl w5) rfl
  .obtain⟨eS,hE⟩:=hB (by simp);clear hd;refine cQ aB rfl rfl (by kernel_rfl) (.agg (aK 0 0 0 0 fun _=>false)) rfl (by kernel_rfl) fun w6 hE6 hb6 hs6=>?_
   exact nxt _ w6 hE6 ⟨_,rfl,hE.size,_,rfl,hb6⟩
  .exact absurd rfl hne
  .have d0:f' 26=.bool (aL id L 0).isSome:=hd 9 (aD (by kernel_rfl));clear hd;refine rY aB ?_;exact nxt _ w5 (.refl w5) rfl
 .rintro f' S1 w5 rest ⟨eS,hB⟩ hf hd nxt;subst S1;obtain⟨g,d0,hVg,c,hc18,hg⟩:∃ g,f' 6=.pointer (some ⟨g,0,none⟩)∧w.heap.size<=g∧∃ c:Array Value,c.size=18∧w5.heap[g]?=some (.cells c 81):=hd 10 (by simp);have d1:f' 25=.agg (kX (aL id L 0)):=hd 8 (by simp);clear hd hf;have hsz:(kX (aL id L 0)).size=18:=by
   obtain⟨i,z,t,q,g,h⟩:=Eq (aL id L 0);rw[h];rfl
  refine dB aB rfl rfl (by kernel_rfl) (x:=.tmp 6) (y:=.tmp 25) (g:=g) (c:=kX (aL id L 0)) rfl (by simp[d0]) (by simp[d1]) hg (by rw[hsz];kernel_rfl) (hc18.trans hsz.symm) (Vd _) fun w6 hW=>?_
  refine nxt undef S w6 ⟨rfl,bL hB hVg hW,g,d0,hVg,hW.at_⟩ trivial fun j x' hj h=>?_
  unfold sF at h ⊢;split at h<;>first|exact h|skip
  obtain⟨g',e',h1',c',h2',hg'⟩:=h;by_cases e:g'=g
  .subst e;exact⟨g',e',h1',_,hsz,hW.at_⟩
  .exact⟨g',e',h1',c',h2',aN hW hg' e⟩
 .rintro f' S1 w5 ⟨eS,hE,g,g6,hVg,hg⟩ hf hd;subst S1;refine next w5 f' g hE hVg hg g6 (hd 12 (by decide)) fun s hs=>hf s ?_
  rcases hs with hs|hs
  .exact rJ (by kernel_rfl) hs
  .exact mM (by kernel_rfl) hs.1 hs.2
end
def zaT(X M lb id:Nat)(kv:Array Value)(j:Nat)(x:Value)(w:World):Prop:=
 match j with
 |0=>x=.pointer (some ⟨X,0,none⟩)
 |1=>x=.pointer (some ⟨X,0,none⟩)
 |2=>x=.pointer (some ⟨X,1,none⟩)
 |3=>x=.map (some M)
 |4=>x=.pointer (some ⟨lb,0,none⟩)
 |5=>x=.int .i64 (id:Nat)
 |6=>x=.pointer (some ⟨X,0,none⟩)
 |7=>x=.agg kv
 |8=>x=.agg kv
 |_=>True
section
variable {X D DB DA M:Nat}{RB RA:Nat->Nat}{nd nb turn:Nat}{s:Dsk}{L:List Ent}{w w' v:World}{S:Nat->Prop}
theorem Br{f:Nat->Value}{Stop:Goroutine->(Nat->Prop)->World->Prop}{cs:List Frame}{k0:List Item}(lb kb p clock:Nat)(l:Lb)(G':Nat->Bool)(hl:l.Ok)(h10:10<=aE (aM G' 14) 14)(hp:p<nb)(hn1:14<=nd)(hnd:nd<=18)(hnb:nb<=64)(hg:Tryz.prog.globals.size<=w.heap.size)(hK:SlotK s.c p l G')(hX:StE X D DB DA M RB RA nd nb turn s L w)
  (hm:w.heap[M]?=some (bM L clock)) (hlb:w.heap[lb]?=some (.cells (aZ l.id l.size l.turn) 78)) (hkb:w.heap[kb]?=some (.cells (aK l.id l.size l.turn p (aM G' 14)) 81))
  (g0:f 0=.pointer (some ⟨X,0,none⟩)) (g4:f 4=.pointer (some ⟨lb,0,none⟩)) (g5:f 5=.pointer (some ⟨kb,0,none⟩))
  (next:∀ w1 w2 f' S',Kp w (fun _=>False) w1->w1.heap[M]?=some (bM L clock)->Wr w1 M (bM (bQ L (l.ent p (aM G' 14)) clock) (jC L l.id clock)) w2->(∀ s,s<42->f' s=f s)->Vw.Reach Tryz.prog Stop (G ((base 46).at ⟨TA 61 f',[]⟩ (.inRegion ((cJ 5 (Tryz.f46.body.getD .skip)).getD #[]) [] :: k0)) cs) S' w2) :
  Vw.Reach Tryz.prog Stop (G ((base 46).at ⟨TA 61 f,[]⟩ (.code (.region 5 ((cJ 5 (Tryz.f46.body.getD .skip)).getD #[]) true) :: k0)) cs) S w:=by
 have e0:cJ 5 (Tryz.f46.body.getD .skip)=some _:=rfl;rw[e0]at next ⊢
 simp only[Option.getD_some]at next ⊢
 clear e0;have cl:w.cell? ⟨lb,0,none⟩=some (.int .i64 (l.id:Nat)):=(cell_of_row _ _ _ _ _ _ hlb).trans rfl;refine Kq (by kernel_rfl) (by kernel_rfl) (by kernel_rfl) 8 9 (by decide) (by kernel_rfl) [6,7] (by decide) (fun f' S' w2=>(∀ s,s<42->f' s=f s)∧∃ w1,Kp w (fun _=>False) w1∧w1.heap[M]?=some (bM L clock)∧Wr w1 M (bM (bQ L (l.ent p (aM G' 14)) clock) (jC L l.id clock)) w2) (by kernel_rfl) (zaT X M lb l.id (aK l.id l.size l.turn p (aM G' 14))) (fun S' w'=>Kp w (fun _=>False) w') (fun S' f w'=>Kp w (fun _=>False) w') (fun S' w w' h hE=>h.ext hE) (fun S' i f x w w' hi hA hm' hz h hE=>h.ext hE) (fun j x w w' h hE=>h) ?_ (.refl _ _) ?_ ?_ ?_ ?_
 .intro j hj he x w h;have hj':j<10:=hj;rcases(by omega:j=0∨j=1∨j=2∨j=3∨j=4∨j=5∨j=6∨j=7∨j=8∨j=9) with rfl|rfl|rfl|rfl|rfl|rfl|rfl|rfl|rfl|rfl<;>first|exact trivial|cases he
 .intro i f' S1 w5 rest hi hne hnz hB hBB hf hd nxt;have hi':i<10:=hi;have hK5:Kp w (fun _=>False) w5:=hBB.elim id id;have g0':f' 0=.pointer (some ⟨X,0,none⟩):=(hf 0 (gW (by kernel_rfl))).trans g0;have g4':f' 4=.pointer (some ⟨lb,0,none⟩):=(hf 4 (gW (by kernel_rfl))).trans g4;have g5':f' 5=.pointer (some ⟨kb,0,none⟩):=(hf 5 (gW (by kernel_rfl))).trans g5;clear hf hB hBB;rcases(by omega:i=0∨i=1∨i=2∨i=3∨i=4∨i=5∨i=6∨i=7∨i=8∨i=9) with rfl|rfl|rfl|rfl|rfl|rfl|rfl|rfl|rfl|rfl
  .clear hd;refine rY aB ?_;exact nxt _ w5 (.refl w5) rfl
  .have d0:f' 42=.pointer (some ⟨X,0,none⟩):=hd 0 (aD (by kernel_rfl));clear hd;refine rY aB ?_;exact nxt _ w5 (.refl w5) rfl
  .have d0:f' 43=.pointer (some ⟨X,0,none⟩):=hd 1 (aD (by kernel_rfl));clear hd;refine rY aB ?_;exact nxt _ w5 (.refl w5) rfl
  .have d0:f' 44=.pointer (some ⟨X,1,none⟩):=hd 2 (aD (by kernel_rfl));have c0:=(hX.kp hK5).c1;clear hd;(refine rO aB rfl ?_;intro _ hu_ K_ hK_;(have hc:=(Ext.twin hu_).cell c0);go_simp;(try rw[wI _]);(try rw[wU _]);refine hK_ _ ?_;clear hK_ K_ hu_;simp only[sS,sN]);exact nxt _ w5 (.refl w5) rfl
  .clear hd;refine rY aB ?_;exact nxt _ w5 (.refl w5) rfl
  .have d0:f' 46=.pointer (some ⟨lb,0,none⟩):=hd 4 (aD (by kernel_rfl));have c0:=hK5.cell (fun x=>x) cl;clear hd;(refine rO aB rfl ?_;intro _ hu_ K_ hK_;(have hc:=(Ext.twin hu_).cell c0);go_simp;(try rw[wI _]);(try rw[wU _]);refine hK_ _ ?_;clear hK_ K_ hu_;simp only[sS,sN]);exact nxt _ w5 (.refl w5) rfl
  .clear hd;refine rY aB ?_;exact nxt _ w5 (.refl w5) rfl
  .clear hd;refine bV aB rfl rfl (by kernel_rfl) (fun u hu=>jR (x:=.tmp 5) (b:=kb) rfl (by simp[g5']) ((Ext.twin hu).row (hK5.cells _ _ _ _ (fun x=>x) hkb))) ?_;exact nxt _ w5 (.refl w5) rfl
  .exact absurd rfl hne
  .exact absurd rfl hnz
 .rintro f' S1 w5 rest hB hf hd nxt;have d0:f' 48=.pointer (some ⟨X,0,none⟩):=hd 6 (by simp);have d1:f' 49=.agg (aK l.id l.size l.turn p (aM G' 14)):=hd 7 (by simp);clear hd hf;refine dI Tryz.func65 (Pv p l G' hl h10 hp hn1 hnd hnb (Nat.le_trans hg hB.size) hK (hX.kp hB)) ?_;rintro _ S2 w6 _ ⟨hK6,rfl⟩;exact nxt _ S2 w6 (hB.trans hK6) rfl fun j y hj h=>h
 .rintro f' S1 w5 rest hB hf hd nxt;have d0:f' 45=.map (some M):=hd 3 (by decide) (by decide);have d1:f' 47=.int .i64 (l.id:Nat):=hd 5 (by decide) (by decide);have d2:f' 50=.agg (aK l.id l.size l.turn p (aM G' 14)):=hd 8 (by decide) (by decide);have hm5:w5.heap[M]?=some (bM L clock):=hB.objs _ _ (fun x=>x) hm trivial;clear hd;refine wO rfl rfl rfl (x:=.tmp 45) (y:=.tmp 47) (z:=.tmp 50) (e:=l.ent p (aM G' 14)) (by simp[d0]) (by simp[d1,Lb.ent]) (by simp[d2];rfl) hm5 fun w6 hW=>?_
  exact nxt undef S1 w6 ⟨fun s hs=>hf s (rJ (by kernel_rfl) hs),w5,hB,hm5,hW⟩
 .rintro f' S1 w5 ⟨hf,w1,h1,h2,h3⟩;exact next w1 w5 f' S1 h1 h2 h3 hf
end
theorem aA.max2{P:Program}{S:Nat->Prop}(x y:Value):aA P S (Builtin.max2 x y):=by
 unfold Builtin.max2;split
 .exact aA.pure _
 .split<;>first|exact aA.pure _|exact aA.bind (aA.choose _) fun _=>aA.pure _
 .exact aA.bind (aA.stringOp _ _ _) fun _=>aA.bind (aA.asBool _) fun _=>aA.pure _
 .exact aA.unsupported _
 .exact aA.unsupported _
 .exact aA.stuck _
theorem aA.max{P:Program}{S:Nat->Prop}(ts:Array TypeId)(t:TypeId)(args:Array Value):aA P S (Builtin.max_ ts t args):=by
 unfold Builtin.max_;split
 .exact aA.stuck _
 .exact aA.foldL (fun _ _=>aA.max2 _ _) _ _
def zaS(X lb tn tl:Nat)(j:Nat)(x:Value)(w:World):Prop:=
 match j with
 |0=>x=.pointer (some ⟨X,0,none⟩)
 |1=>x=.pointer (some ⟨X,0,none⟩)
 |2=>x=.pointer (some ⟨X,0,none⟩)
 |3=>x=.pointer (some ⟨X,2,none⟩)
 |4=>x=.int .u64 (tn:Nat)
 |5=>x=.pointer (some ⟨lb,2,none⟩)
 |6=>x=.int .u64 (tl:Nat)
 |7=>x=.int .u64 ((max tn tl:Nat):Int)
 |8=>x=.pointer (some ⟨X,0,none⟩)
 |9=>x=.pointer (some ⟨X,2,none⟩)
 |_=>True
theorem Ql{S:Nat->Prop}{o:Oper}{a:Act}{x y:Operand}{t:TypeId}(hop:o.op=.call {callee:=.builtin .max,args:=#[x,y],argTypes:=#[t,t]}):aA Tryz.prog S (execOp a.eval o):=by
 unfold execOp;simp only[hop,resolve,invoke,builtin,List.map_toArray,List.map_cons,List.map_nil];show aA Tryz.prog S (Builtin.max_ #[t,t] o.type #[a.eval x,a.eval y] >>= fun r=>pure (Next.value r))
 exact aA.bind (aA.max _ _ _) fun _=>aA.pure _
theorem Qr{o:Oper}{ac:Act}{x y:Operand}{t:TypeId}{a b:Nat}{u:World}(hop:o.op=.call {callee:=.builtin .max,args:=#[x,y],argTypes:=#[t,t]})(hx:ac.eval x=.int .u64 (a:Nat))(hy:ac.eval y=.int .u64 (b:Nat)):(execOp ac.eval o).run Tryz.prog u=.ok (.value (.int .u64 ((max a b:Nat):Int))) u:=by
 have hmax:(if (a:Int)<(b:Int) then(b:Int) else(a:Int))=((max a b:Nat):Int):=by
  split<;>omega
 unfold execOp;simp[hop,resolve,invoke,builtin,hx,hy,Builtin.max_,Builtin.max2];omega
def fP(L:List Ent)(l:Lb)(G:Nat->Bool):Bool:=decide (10<=aE (aM G 14) 14)&&(match aL l.id L 0 with|some q=>decide (q.2.turn<l.turn)|none=>true)
section
variable {X D DB DA M:Nat}{RB RA:Nat->Nat}{nd nb turn:Nat}{s:Dsk}{L:List Ent}{w w' v:World}{S:Nat->Prop}
theorem EntOk.born{nb turn:Nat}{c:Nat->Nat->Nat->Nat}{e:Ent}(h:EntOk nb turn c e)(b:Nat):EntOk nb turn c {e with born:=b}:=⟨h.id1,h.id2,h.size,h.turn,h.slot,h.val,h.ten,h.blk⟩
theorem EntOk.turns{nb turn t':Nat}{c:Nat->Nat->Nat->Nat}{e:Ent}(h:EntOk nb turn c e)(ht:e.turn<=t'):EntOk nb t' c e:=⟨h.id1,h.id2,h.size,ht,h.slot,h.val,h.ten,h.blk⟩
theorem StE.took{e:Ent}{clock t':Nat}{w1 w2 w2' w3:World}(h:StE X D DB DA M RB RA nd nb turn s L w)(hK:Kp w (fun _=>False) w1)(hW:Wr w1 M (bM (bQ L e clock) (jC L e.id clock)) w2)(hPO:PutOk L e clock)(hE:Ext w2 w2')(hW2:Wr w2' X (.cells #[.pointer (some ⟨D,0,none⟩),.map (some M),.int .u64 (t':Nat)] 76) w3)(ht:turn<=t')(he:EntOk nb t' s.c e):StE X D DB DA M RB RA nd nb t' s (bQ L e clock) w3:=by
 have h1:=h.kp hK;have hK2:Kp w1 (fun b=>b=M∨b=X) w3:=(((Kp.refl w1 _).wr (.inl (.inl rfl)) hW).ext hE).wr (.inl (.inr rfl)) hW2;refine⟨hW2.at_,⟨_,aN hW2 (by rw[hE.block M (Array.getElem?_eq_some_iff.1 hW.at_).1];exact hW.at_) h1.mn.2.1,hPO.lt⟩,h1.dk.kp hK2 ?_ ?_ ?_ ?_,fun x hx=>?_,hPO.idn,hPO.slots,hPO.borns⟩
 .rintro(q|q)
  .exact h1.mn.1 (.inl q.symm)
  .exact h1.xn (.inl q.symm)
 .rintro(q|q)
  .exact h1.mn.2.2.1 q.symm
  .exact bS h1.row h1.dk.db (by decide) q.symm
 .rintro(q|q)
  .exact h1.mn.2.2.2 q.symm
  .exact bS h1.row h1.dk.da (by decide) q.symm
 .intro d hd;refine⟨?_,?_⟩
  .rintro(q|q)
   .exact h1.mn.1 (.inr ⟨d,hd,.inl q.symm⟩)
   .exact h1.xn (.inr ⟨d,hd,.inl q.symm⟩)
  .rintro(q|q)
   .exact h1.mn.1 (.inr ⟨d,hd,.inr q.symm⟩)
   .exact h1.xn (.inr ⟨d,hd,.inr q.symm⟩)
 .rcases hPO.mem x hx with⟨b,rfl⟩|⟨hx',_⟩
  .exact he.born b
  .exact(h.ent x hx').turns (Nat.le_trans (h.ent x hx').turn ht)
theorem wT{f:Nat->Value}{Stop:Goroutine->(Nat->Prop)->World->Prop}{cs:List Frame}{k0:List Item}(lb tn id size tl:Nat)(mm:Value)(hmm:mm=.map (some M))(hx:w.heap[X]?=some (.cells #[.pointer (some ⟨D,0,none⟩),mm,.int .u64 (tn:Nat)] 76))(hlb:w.heap[lb]?=some (.cells (aZ id size tl) 78))
  (g0:f 0=.pointer (some ⟨X,0,none⟩)) (g4:f 4=.pointer (some ⟨lb,0,none⟩))
  (next:∀ w1 w2 f',Ext w w1->Wr w1 X (.cells #[.pointer (some ⟨D,0,none⟩),mm,.int .u64 ((max tn tl:Nat):Int)] 76) w2->(∀ s,s<51->f' s=f s)->Vw.Reach Tryz.prog Stop (G ((base 46).at ⟨TA 61 f',[]⟩ (.inRegion ((cJ 6 (Tryz.f46.body.getD .skip)).getD #[]) [] :: k0)) cs) S w2) :
  Vw.Reach Tryz.prog Stop (G ((base 46).at ⟨TA 61 f,[]⟩ (.code (.region 6 ((cJ 6 (Tryz.f46.body.getD .skip)).getD #[]) true) :: k0)) cs) S w:=by
 have e0:cJ 6 (Tryz.f46.body.getD .skip)=some _:=rfl;rw[e0]at next ⊢
 simp only[Option.getD_some]at next ⊢
 clear e0;have c0:w.cell? ⟨X,2,none⟩=some (.int .u64 (tn:Nat)):=(cell_of_row _ _ _ _ _ _ hx).trans rfl;have c1:w.cell? ⟨lb,2,none⟩=some (.int .u64 (tl:Nat)):=(cell_of_row _ _ _ _ _ _ hlb).trans rfl;refine jK (by kernel_rfl) (by kernel_rfl) (by kernel_rfl) 10 [0,1,2,3,4,5,6,7,8,9] (by kernel_rfl) (zaS X lb tn tl) (fun S' w'=>S'=S∧Ext w w') (fun S' f' w'=>S'=S∧∃ w1,Ext w w1∧Wr w1 X (.cells #[.pointer (some ⟨D,0,none⟩),mm,.int .u64 ((max tn tl:Nat):Int)] 76) w') (fun S' w w' h hE=>⟨h.1,h.2.trans _ _ _ hE⟩) (fun S' i f x w3 w4 hi hA hm' h hE=>?_) (fun j x w w' h hE=>h) ?_ ⟨rfl,.refl _⟩ ?_ ?_ ?_
 .exfalso;have hi':i<11:=hi;simp at hA;omega
 .intro j hj he x w h;have hj':j<11:=hj;rcases(by omega:j=0∨j=1∨j=2∨j=3∨j=4∨j=5∨j=6∨j=7∨j=8∨j=9∨j=10) with rfl|rfl|rfl|rfl|rfl|rfl|rfl|rfl|rfl|rfl|rfl<;>first|exact trivial|cases he
 .intro i f' S1 w5 rest hi hne hB hf hd nxt;have g0':f' 0=.pointer (some ⟨X,0,none⟩):=(hf 0 (aT (by kernel_rfl))).trans g0;have g4':f' 4=.pointer (some ⟨lb,0,none⟩):=(hf 4 (aT (by kernel_rfl))).trans g4;have hi':i<11:=hi
  obtain⟨eS,hE⟩:=hB (by
   simp
   omega)
  subst S1;have c0':=hE.cell c0;have c1':=hE.cell c1;clear hf hB;rcases(by omega:i=0∨i=1∨i=2∨i=3∨i=4∨i=5∨i=6∨i=7∨i=8∨i=9∨i=10) with rfl|rfl|rfl|rfl|rfl|rfl|rfl|rfl|rfl|rfl|rfl
  .clear hd;refine rY aB ?_;exact nxt _ w5 (.refl w5) rfl
  .clear hd;refine rY aB ?_;exact nxt _ w5 (.refl w5) rfl
  .have d0:f' 52=.pointer (some ⟨X,0,none⟩):=hd 1 (aD (by kernel_rfl));clear hd;refine rY aB ?_;exact nxt _ w5 (.refl w5) rfl
  .have d0:f' 53=.pointer (some ⟨X,0,none⟩):=hd 2 (aD (by kernel_rfl));clear hd;refine rY aB ?_;exact nxt _ w5 (.refl w5) rfl
  .have d0:f' 54=.pointer (some ⟨X,2,none⟩):=hd 3 (aD (by kernel_rfl));clear hd;(refine rO aB rfl ?_;intro _ hu_ K_ hK_;(have hc:=(Ext.twin hu_).cell c0');go_simp;(try rw[wI _]);(try rw[wU _]);refine hK_ _ ?_;clear hK_ K_ hu_;simp only[sS,sN]);exact nxt _ w5 (.refl w5) rfl
  .clear hd;refine rY aB ?_;exact nxt _ w5 (.refl w5) rfl
  .have d0:f' 56=.pointer (some ⟨lb,2,none⟩):=hd 5 (aD (by kernel_rfl));clear hd;(refine rO aB rfl ?_;intro _ hu_ K_ hK_;(have hc:=(Ext.twin hu_).cell c1');go_simp;(try rw[wI _]);(try rw[wU _]);refine hK_ _ ?_;clear hK_ K_ hu_;simp only[sS,sN]);exact nxt _ w5 (.refl w5) rfl
  .have d0:f' 55=.int .u64 (tn:Nat):=hd 4 (aD (by kernel_rfl));have d1:f' 57=.int .u64 (tl:Nat):=hd 6 (aD (by kernel_rfl));clear hd;refine fE (by simp[base]) rfl rfl (Ql rfl) fun u hu=>⟨_,u,.inl (Qr (x:=.tmp 55) (y:=.tmp 57) (a:=tn) (b:=tl) rfl (by simp[d0]) (by simp[d1])),Reach.twin ⟨hu.heap.symm,hu.os.symm,hu.output.symm⟩ ?_⟩
   rw[bX];exact nxt _ w5 (.refl w5) rfl
  .have d0:f' 51=.pointer (some ⟨X,0,none⟩):=hd 0 (aD (by kernel_rfl));clear hd;refine rY aB ?_;exact nxt _ w5 (.refl w5) rfl
  .have d0:f' 59=.pointer (some ⟨X,0,none⟩):=hd 8 (aD (by kernel_rfl));clear hd;refine rY aB ?_;exact nxt _ w5 (.refl w5) rfl
  .exact absurd rfl hne
 .rintro f' S1 w5 rest ⟨eS,hB⟩ hf hd nxt;subst S1;have d0:f' 60=.pointer (some ⟨X,2,none⟩):=hd 9 (by simp);have d1:f' 58=.int .u64 ((max tn tl:Nat):Int):=hd 7 (by simp);clear hd hf;refine eQ aB rfl rfl (by kernel_rfl) (x:=.tmp 60) (y:=.tmp 58) (g:=X) (j:=2) (z:=.int .u64 ((max tn tl:Nat):Int)) rfl (by simp[d0]) (by simp[d1]) rfl rfl (hB.row hx) (by simp) (by kernel_rfl) fun w6 hW=>?_
  exact nxt undef S w6 ⟨rfl,w5,hB,hW⟩ trivial fun j x' hj h=>h
 .rintro f' S1 w5 ⟨eS,w1,hE1,hW⟩ hf hd;subst S1;exact next w1 w5 f' hE1 hW fun s hs=>hf s (rJ (by kernel_rfl) hs)
end
section
variable {X D DB DA M:Nat}{RB RA:Nat->Nat}{nd nb turn:Nat}{s:Dsk}{L:List Ent}{w w' v:World}{S:Nat->Prop}
def Sv(L:List Ent)(turn p:Nat)(l:Lb)(G:Nat->Bool)(L':List Ent)(turn':Nat):Prop:=
 if dU G 14=true then turn'=max turn l.turn∧(if fP L l G=true then ∃ clock,PutOk L (l.ent p (aM G 14)) clock∧L'=bQ L (l.ent p (aM G 14)) clock else L'=L) else turn'=turn∧L'=L
def wA(X M b:Nat):Prop:=b=X∨b=M
theorem StE.turned{t':Nat}{w1:World}(h:StE X D DB DA M RB RA nd nb turn s L w)(ht:turn<=t')(hK:Kp w (fun _=>False) w1)(hW:Wr w1 X (.cells #[.pointer (some ⟨D,0,none⟩),.map (some M),.int .u64 (t':Nat)] 76) w'):StE X D DB DA M RB RA nd nb t' s L w':=(h.kp hK).wrX ht hW
theorem Qe(t:TypeId)(e:Value)(p:Nat)(l:Lb)(G':Nat->Bool)(hg0:v.cell? ⟨0,0,none⟩=some (.iface t e))(hg:Tryz.prog.globals.size<=v.heap.size)(hp:p<nb)(hn1:14<=nd)(hnd:nd<=18)(hnb:nb<=64)(hK:SlotK s.c p l G')(hX:StE X D DB DA M RB RA nd nb turn s L v)(hpf:∀ e∈L,e.slot≠p) :
  aI Tryz.prog 46 #[.pointer (some ⟨X,0,none⟩),.int .i64 (p:Nat)] S v fun x S' v'=>x=.tuple #[]∧Kp v (wA X M) v'∧∃ L' turn',Sv L turn p l G' L' turn'∧StE X D DB DA M RB RA nd nb turn' s L' v':=by
 refine dM Tryz.func46 rfl Tryz.ntmps46 fun Stop cc cs ret f g0 g1=>?_
 repeat refine rN ?_
 refine rK Tryz.func64 (Rt t e p l G' hg0 hp hn1 hnd hnb hK hX) ?_;rintro _ S1 w1 _ ⟨e1,hE1,m,rfl,hmn,hm1⟩;subst S1;have hX1:=hX.ext hE1;cases hany:dU G' 14 with
 |false=>
  have hf0:gR l G' p 14=none:=by unfold gR;rw[hany];rfl
  rw[hf0]at hm1;refine tK rfl rfl rfl (m:=m) (by simp) Tryz.underlying126 hm1 fun w2 hE2 hi2=>?_
  simp only[stO_some];repeat refine rN ?_
  refine bR (fun d f' S' w=>S'=S∧w=w2∧f' 11=.pointer (some ⟨w1.heap.size,0,none⟩)) 0 ⟨rfl,rfl,by simp⟩ ?_;clear g0 g1 f;rintro d f S' w ⟨eS,eW,g11⟩ nxt;subst S' w;repeat refine rN ?_
  refine Ly rfl rfl rfl (r:=w1.heap.size) (m:=m) (by simp[g11]) hi2 (hE2.row hm1) ?_;simp only[stO_some];repeat refine rN ?_
  refine rZ (by simp[Act.eval]) ?_;refine bB rfl ?_;repeat refine rN ?_
  refine iR ?_;have hE:=hE1.trans _ _ _ hE2;refine ret _ _ S w2 (.tuple #[]) ?_ ⟨rfl,(Kp.refl v _).ext hE,L,turn,?_,hX.ext hE⟩
  .simp[results,Tryz.results46]
  .unfold Sv;rw[if_neg (by rw[hany];exact Bool.false_ne_true)];exact⟨rfl,rfl⟩
 |true=>
  have hl:l.Ok:=by
   obtain⟨k,hk,hgk⟩:=List.any_eq_true.1 hany;exact hK.ok k (List.mem_range.1 hk) hgk
  have hf1:gR l G' p 14=some ⟨l.id,l.size,l.turn,p,aM G' 14⟩:=by unfold gR;rw[hany];rfl
  rw[hf1]at hm1;refine tK rfl rfl rfl (m:=m) (by simp) Tryz.underlying126 hm1 fun w2 hE2 hi2=>?_
  simp only[stO_some];repeat refine rN ?_
  have hE12:=hE1.trans _ _ _ hE2;have hm2:w2.heap[m]?=some (dC (some ⟨l.id,l.size,l.turn,p,aM G' 14⟩)):=by
   rw[hE2.block m (Array.getElem?_eq_some_iff.1 hm1).1];exact hm1
  have hmlt:m<w1.heap.size:=(Array.getElem?_eq_some_iff.1 hm1).1;have hrn:v.heap.size<=w1.heap.size:=hE1.size;generalize hrd:w1.heap.size=r at *
  refine bR (fun d f' S' w=>(d=1∧S'=S∧w=w2∨d=0∧Kp v (wA X M) w∧(∃ L' turn',Sv L turn p l G' L' turn'∧StE X D DB DA M RB RA nd nb turn' s L' w)∧w.heap[r]?=some (.mapIter (some m) 1 #[0] 1)∧w.heap[m]?=some (dC (some ⟨l.id,l.size,l.turn,p,aM G' 14⟩)))∧f' 0=.pointer (some ⟨X,0,none⟩)∧f' 11=.pointer (some ⟨r,0,none⟩)) 1 ⟨.inl ⟨rfl,rfl,rfl⟩,by simp[g0],by simp⟩ ?_;clear g0 g1 f;rintro d f S' w ⟨hcase,g0,g11⟩ nxt;rcases hcase with⟨ed,eS,eW⟩|⟨ed,hKw,hfin,hit,hmw⟩
  .subst S' w;have hX2:=hX.ext hE12;obtain⟨clock,hmv,hbn⟩:=hX2.map;repeat refine rN ?_
   refine Kt rfl rfl rfl (r:=r) (m:=m) (d:=⟨l.id,l.size,l.turn,p,aM G' 14⟩) (by simp[g11]) hi2 hm2 fun w3 hW3=>?_
   simp only[stO_some];have hE3:Ext v w3:=bL hE12 hrn hW3;have hm3:=aN hW3 hm2 (by omega);repeat refine rN ?_
   refine rX (by simp[Act.eval]) ?_;repeat refine rN ?_
   refine Kv rfl rfl rfl (r:=r) (m:=m) (d:=⟨l.id,l.size,l.turn,p,aM G' 14⟩) (by simp[g11]) hW3.at_ hm3 ?_;simp only[stO_some];repeat refine rN ?_
   refine cQ aB rfl rfl (by kernel_rfl) (.agg zX) rfl (by kernel_rfl) fun w4 hE4 hb4 hs4=>?_
   simp only[stO_some];refine cQ aB rfl rfl (by kernel_rfl) (.agg (aK 0 0 0 0 fun _=>false)) rfl (by kernel_rfl) fun w5 hE5 hb5 hs5=>?_
   simp only[stO_some];refine dB aB rfl rfl (by kernel_rfl) (x:=.tmp 4) (y:=.tmp 15) (g:=w3.heap.size) (c:=aZ l.id l.size l.turn) rfl (by simp) (by simp) (hE5.row hb4) (by kernel_rfl) rfl (by simp[aZ,Value.oneCell']) fun w6 hW6=>?_
   simp only[stO_none];have hb5':=aN hW6 hb5 (by omega);refine dB aB rfl rfl (by kernel_rfl) (x:=.tmp 5) (y:=.tmp 16) (g:=w4.heap.size) (c:=aK l.id l.size l.turn p (aM G' 14)) rfl (by simp) (by simp) hb5' (by kernel_rfl) rfl (by simp[aK,Value.oneCell']) fun w7 hW7=>?_
   simp only[stO_none];have hE7:Ext w3 w7:=bL (bL (hE4.trans _ _ _ hE5) (Nat.le_refl _) hW6) (by omega) hW7;have hlb7:=aN hW7 hW6.at_ (by omega);have hkb7:=hW7.at_;have hX7:=hX.ext (hE3.trans _ _ _ hE7);have hit7:=hE7.row hW3.at_;have hm7:w7.heap[m]?=some (dC (some ⟨l.id,l.size,l.turn,p,aM G' 14⟩)):=by
    rw[hE7.block m (Array.getElem?_eq_some_iff.1 hm3).1];exact hm3
   have hM0:M<v.heap.size:=by
    obtain⟨cl,q,_⟩:=hX.map;exact(Array.getElem?_eq_some_iff.1 q).1
   have hmv7:w7.heap[M]?=some (bM L clock):=by
    rw[hE7.block M (by have:=hE3.size;omega),hE3.block M hM0,<-hE12.block M hM0];exact hmv
   have hg7:Tryz.prog.globals.size<=w7.heap.size:=by have:=(hE3.trans _ _ _ hE7).size;omega
   have hv7:=(hE3.trans _ _ _ hE7).size;generalize hlbd:w3.heap.size=lb at *
   generalize hkbd:w4.heap.size=kb at *
   repeat refine rN ?_
   refine Li lb l.id l.size l.turn clock hX7.c1 hmv7 hlb7 (by simp[g0]) (by simp) fun w8 f8 g hE8 hVg hog g6 g7 hf8=>?_
   have k0:f8 0=.pointer (some ⟨X,0,none⟩):=(hf8 0 (by omega)).trans (by simp[g0]);have k4:f8 4=.pointer (some ⟨lb,0,none⟩):=(hf8 4 (by omega)).trans (by simp);have k5:f8 5=.pointer (some ⟨kb,0,none⟩):=(hf8 5 (by omega)).trans (by simp);have k11:f8 11=.pointer (some ⟨r,0,none⟩):=(hf8 11 (by omega)).trans (by simp[g11]);have hkb8:=hE8.row hkb7;have hlb8:=hE8.row hlb7;clear hf8;repeat refine rN ?_
   refine bV aB rfl rfl (by kernel_rfl) (fun u hu=>jR (x:=.tmp 5) (b:=kb) rfl (by simp[k5]) ((Ext.twin hu).row hkb8)) ?_;simp only[stO_some];refine rK Tryz.func28 (Bj (l.ent p (aM G' 14))) ?_;rintro _ S1 w9 _ ⟨rfl,e1,hE9⟩;subst S1;have hEv9:=hE3.trans _ _ _ (hE7.trans _ _ _ (hE8.trans _ _ _ hE9));have hX9:=hX.ext hEv9;have hlb9:=hE9.row hlb8;have hkb9:=hE9.row hkb8;have hog9:=hE9.row hog;have hE79:=hE8.trans _ _ _ hE9;have hit9:=hE79.row hit7;have hm9:w9.heap[m]?=some (dC (some ⟨l.id,l.size,l.turn,p,aM G' 14⟩)):=by
    rw[hE79.block m (Array.getElem?_eq_some_iff.1 hm7).1];exact hm7
   have hmv9:w9.heap[M]?=some (bM L clock):=by
    rw[hE79.block M (Array.getElem?_eq_some_iff.1 hmv7).1];exact hmv7
   have hg9:Tryz.prog.globals.size<=w9.heap.size:=Nat.le_trans hg7 hE79.size;have hXlt:X<v.heap.size:=(Array.getElem?_eq_some_iff.1 hX.row).1;have hlbn:v.heap.size<=lb:=by have:=hE3.size;omega
   have hlt9:lb<w9.heap.size:=(Array.getElem?_eq_some_iff.1 hlb9).1;have no:∀ (f:Nat->Value) (S':Nat->Prop) (kk:List Item),fP L l G'=false->f 0=.pointer (some ⟨X,0,none⟩)->f 4=.pointer (some ⟨lb,0,none⟩)->f 11=.pointer (some ⟨r,0,none⟩)->(∀ w' f',(∀ s,s<51->f' s=f s)->(0=1∧S'=S∧w'=w2∨0=0∧Kp v (wA X M) w'∧(∃ L' turn',Sv L turn p l G' L' turn'∧StE X D DB DA M RB RA nd nb turn' s L' w')∧w'.heap[r]?=some (.mapIter (some m) 1 #[0] 1)∧w'.heap[m]?=some (dC (some ⟨l.id,l.size,l.turn,p,aM G' 14⟩)))->Vw.Reach Tryz.prog Stop (G ((base 46).at ⟨TA 61 f',[]⟩ (.inRegion ((cJ 6 (Tryz.f46.body.getD .skip)).getD #[]) [] :: kk)) (cc :: cs)) S' w')->Vw.Reach Tryz.prog Stop (G ((base 46).at ⟨TA 61 f,[]⟩ (.code (.region 6 ((cJ 6 (Tryz.f46.body.getD .skip)).getD #[]) true) :: kk)) (cc :: cs)) S' w9:=by
    intro f S' kk ht q0 q4 q11 hnx;refine wT (D:=D) lb turn l.id l.size l.turn _ rfl hX9.row hlb9 q0 q4 fun wa wb f' hEa hWb hf'=>?_
    refine hnx wb f' hf' (.inr ⟨rfl,(((Kp.refl v _).ext (hEv9.trans _ _ _ hEa)).wr (.inl (.inl rfl)) hWb),⟨L,_,?_,hX9.turned (Nat.le_max_left _ _) (bF hEa) hWb⟩,aN hWb (hEa.row hit9) (by omega),aN hWb (by rw[hEa.block m (Array.getElem?_eq_some_iff.1 hm9).1];exact hm9) (by omega)⟩);unfold Sv;rw[if_pos hany];exact⟨rfl,by rw[if_neg (by rw[ht];exact Bool.false_ne_true)]⟩
   have hcl:aE (aM G' 14) 14<=14:=zK _ _;have hce:aE (l.ent p (aM G' 14)).good 14=aE (aM G' 14) 14:=rfl;rw[hce];by_cases h10:10<=aE (aM G' 14) 14
   .have h10I:(10:Int)<=(aE (aM G' 14) 14:Nat):=by omega
    have ht0:fP L l G'=(match aL l.id L 0 with|some q=>decide (q.2.turn<l.turn)|none=>true):=by
     unfold fP;rw[decide_eq_true h10,Bool.true_and];try(cases aL l.id L 0<;>rfl)
    have HT:=aJ ht0;clear ht0;obtain⟨cg,hcg⟩:∃ cg,aE (aM G' 14) 14=cg:=⟨_,rfl⟩;have hc10:10<=cg:=by omega
    have hc14:cg<=14:=by omega
    have hcI:(10:Int)<=(cg:Int):=by omega
    rw[hcg];clear hcg h10I hce hcl;cases hq:aL l.id L 0 with
    |none=>
     rw[hq]at g7 hog9;have htk:fP L l G'=true:=by rw[HT.out,hq]
     clear hq;repeat refine rN ?_
     refine rX (by simp[Act.eval,hcI,hc10]) ?_;repeat refine rN ?_
     refine Br lb kb p clock l G' hl h10 hp hn1 hnd hnb hg9 hK hX9 hmv9 hlb9 hkb9 (by simp[k0]) (by simp[k4]) (by simp[k5]) fun wa wb fb Sb hKa hma hWb hfb=>?_
     have b0:fb 0=.pointer (some ⟨X,0,none⟩):=(hfb 0 (by omega)).trans (by simp[k0]);have b4:fb 4=.pointer (some ⟨lb,0,none⟩):=(hfb 4 (by omega)).trans (by simp[k4]);have b11:fb 11=.pointer (some ⟨r,0,none⟩):=(hfb 11 (by omega)).trans (by simp[k11]);have hXa:=hX9.kp hKa;have hPO:PutOk L (l.ent p (aM G' 14)) clock:=zE hX.ids hX.slots hX.borns hbn hpf;have hxb:=aN hWb hXa.row (fun e=>hXa.mn.2.1 e.symm);have hlba:=hKa.cells _ _ _ _ (fun x=>x) hlb9;have hlbb:=aN hWb hlba (fun e=>jB hma hlba e.symm);repeat refine rN ?_
     refine wT (D:=D) lb turn l.id l.size l.turn _ rfl hxb hlbb (by simp[b0]) (by simp[b4]) fun wc wd fd hEc hWd hfd=>?_
     have d0:fd 0=.pointer (some ⟨X,0,none⟩):=(hfd 0 (by omega)).trans (by simp[b0]);have d11:fd 11=.pointer (some ⟨r,0,none⟩):=(hfd 11 (by omega)).trans (by simp[b11]);repeat refine rN ?_
     refine nxt _ _ _ 0 (by omega) ⟨.inr ⟨rfl,(((((Kp.refl v _).ext hEv9).trans (hKa.mono fun _ q=>q.elim)).wr (.inl (.inr rfl)) hWb).ext hEc).wr (.inl (.inl rfl)) hWd,⟨bQ L (l.ent p (aM G' 14)) clock,max turn l.turn,?_,?_⟩,?_,?_⟩,by simp[d0],by simp[d11]⟩
     .unfold Sv;rw[if_pos hany];refine⟨rfl,?_⟩;rw[if_pos htk];exact⟨clock,hPO,rfl⟩
     .exact hX9.took hKa hWb hPO hEc hWd (Nat.le_max_left _ _) ((hK.entOk hl hp h10).turns (Nat.le_max_right _ _))
     .exact aN hWd (hEc.row (aN hWb (hKa.objs _ _ (fun x=>x) hit9 trivial) (by omega))) (by omega)
     .have q1:=aN hWb (hKa.objs _ _ (fun x=>x) hm9 trivial) (by omega);exact aN hWd (by rw[hEc.block m (Array.getElem?_eq_some_iff.1 q1).1];exact q1) (by omega)
    |some q=>
     rw[hq]at g7 hog9;have ct:w9.cell? ⟨g,2,none⟩=some (.int .u64 (q.2.turn:Nat)):=(cell_of_row _ _ _ _ _ _ hog9).trans rfl;have cl2:w9.cell? ⟨lb,2,none⟩=some (.int .u64 (l.turn:Nat)):=(cell_of_row _ _ _ _ _ _ hlb9).trans rfl;by_cases hlt:q.2.turn<l.turn
     .have htk:fP L l G'=true:=by rw[HT.out,hq];simp[hlt]
      clear hq;have hltI:(q.2.turn:Int)<(l.turn:Int):=by omega
      repeat (first|refine rQ rfl ?_|(refine rO aB rfl ?_;intro _ hu_ K_ hK_;(have hc:=(Ext.twin hu_).cell ct;have hc':=(Ext.twin hu_).cell cl2);go_simp;(try rw[wI _]);(try rw[wU _]);refine hK_ _ ?_;clear hK_ K_ hu_;simp only[sS,sN])|refine rW ?_)
      refine rX (by simp[Act.eval,hcI,hc10,hlt]) ?_;repeat refine rN ?_
      refine Br lb kb p clock l G' hl h10 hp hn1 hnd hnb hg9 hK hX9 hmv9 hlb9 hkb9 (by simp[k0]) (by simp[k4]) (by simp[k5]) fun wa wb fb Sb hKa hma hWb hfb=>?_
      have b0:fb 0=.pointer (some ⟨X,0,none⟩):=(hfb 0 (by omega)).trans (by simp[k0]);have b4:fb 4=.pointer (some ⟨lb,0,none⟩):=(hfb 4 (by omega)).trans (by simp[k4]);have b11:fb 11=.pointer (some ⟨r,0,none⟩):=(hfb 11 (by omega)).trans (by simp[k11]);have hXa:=hX9.kp hKa;have hPO:PutOk L (l.ent p (aM G' 14)) clock:=zE hX.ids hX.slots hX.borns hbn hpf;have hxb:=aN hWb hXa.row (fun e=>hXa.mn.2.1 e.symm);have hlba:=hKa.cells _ _ _ _ (fun x=>x) hlb9;have hlbb:=aN hWb hlba (fun e=>jB hma hlba e.symm);repeat refine rN ?_
      refine wT (D:=D) lb turn l.id l.size l.turn _ rfl hxb hlbb (by simp[b0]) (by simp[b4]) fun wc wd fd hEc hWd hfd=>?_
      have d0:fd 0=.pointer (some ⟨X,0,none⟩):=(hfd 0 (by omega)).trans (by simp[b0]);have d11:fd 11=.pointer (some ⟨r,0,none⟩):=(hfd 11 (by omega)).trans (by simp[b11]);repeat refine rN ?_
      refine nxt _ _ _ 0 (by omega) ⟨.inr ⟨rfl,(((((Kp.refl v _).ext hEv9).trans (hKa.mono fun _ q=>q.elim)).wr (.inl (.inr rfl)) hWb).ext hEc).wr (.inl (.inl rfl)) hWd,⟨bQ L (l.ent p (aM G' 14)) clock,max turn l.turn,?_,?_⟩,?_,?_⟩,by simp[d0],by simp[d11]⟩
      .unfold Sv;rw[if_pos hany];refine⟨rfl,?_⟩;rw[if_pos htk];exact⟨clock,hPO,rfl⟩
      .exact hX9.took hKa hWb hPO hEc hWd (Nat.le_max_left _ _) ((hK.entOk hl hp h10).turns (Nat.le_max_right _ _))
      .exact aN hWd (hEc.row (aN hWb (hKa.objs _ _ (fun x=>x) hit9 trivial) (by omega))) (by omega)
      .have q1:=aN hWb (hKa.objs _ _ (fun x=>x) hm9 trivial) (by omega);exact aN hWd (by rw[hEc.block m (Array.getElem?_eq_some_iff.1 q1).1];exact q1) (by omega)
     .have htk:fP L l G'=false:=by rw[HT.out,hq];simp;omega
      clear hq;have hlt':l.turn<=q.2.turn:=by omega
      repeat (first|refine rQ rfl ?_|(refine rO aB rfl ?_;intro _ hu_ K_ hK_;(have hc:=(Ext.twin hu_).cell ct;have hc':=(Ext.twin hu_).cell cl2);go_simp;(try rw[wI _]);(try rw[wU _]);refine hK_ _ ?_;clear hK_ K_ hu_;simp only[sS,sN])|refine rW ?_)
      refine rZ (by simp[Act.eval,hcI,hc10,hlt']) ?_;repeat refine rN ?_
      refine no _ S _ htk (by simp[k0]) (by simp[k4]) (by simp[k11]) fun w' f' hf' hc'=>?_
      have d0:f' 0=.pointer (some ⟨X,0,none⟩):=(hf' 0 (by omega)).trans (by simp[k0]);have d11:f' 11=.pointer (some ⟨r,0,none⟩):=(hf' 11 (by omega)).trans (by simp[k11]);repeat refine rN ?_
      exact nxt _ _ _ 0 (by omega) ⟨hc',by simp[d0],by simp[d11]⟩
   .have h10I:¬(10:Int)<=(aE (aM G' 14) 14:Nat):=by omega
    have htk:fP L l G'=false:=by
     unfold fP;rw[decide_eq_false h10,Bool.false_and]
    have h10':aE (aM G' 14) 14<10:=by omega
    repeat refine rN ?_
    refine rZ (by simp[Act.eval,h10I,h10']) ?_;repeat refine rN ?_
    refine no _ S _ htk (by simp[k0]) (by simp[k4]) (by simp[k11]) fun w' f' hf' hc'=>?_
    have d0:f' 0=.pointer (some ⟨X,0,none⟩):=(hf' 0 (by omega)).trans (by simp[k0]);have d11:f' 11=.pointer (some ⟨r,0,none⟩):=(hf' 11 (by omega)).trans (by simp[k11]);repeat refine rN ?_
    exact nxt _ _ _ 0 (by omega) ⟨hc',by simp[d0],by simp[d11]⟩
  .skip;repeat refine rN ?_
   refine Ks rfl rfl rfl (r:=r) (m:=m) (d:=⟨l.id,l.size,l.turn,p,aM G' 14⟩) (by simp[g11]) hit hmw ?_;simp only[stO_some];repeat refine rN ?_
   refine rZ (by simp[Act.eval]) ?_;refine bB rfl ?_;repeat refine rN ?_
   refine iR ?_;refine ret _ _ S' w (.tuple #[]) ?_ ⟨rfl,hKw,hfin⟩;simp[results,Tryz.results46]
end
def aS(L:List Ent)(j:Nat):Bool:=L.any fun e=>e.slot == j
theorem eE{L:List Ent}{j:Nat} : aS L j=true↔∃ e∈L,e.slot=j:=by simp[aS]
def cD(s:Dsk)(t:Nat->Bool):Nat->Dsk
 |0=>s
 |p+1=>if t p=true then cD s t p else gA (cD s t p) p fun _=>false
section
variable {X D DB DA M:Nat}{RB RA:Nat->Nat}{nd nb turn:Nat}{s:Dsk}{L:List Ent}{w w' v:World}{S:Nat->Prop}
theorem Uf(hb4:4<=nb)(hn1:14<=nd)(hnd:nd<=18)(hnb:nb<=64)(hX:StE X D DB DA M RB RA nd nb turn s L v) :
  aI Tryz.prog 47 #[.pointer (some ⟨X,0,none⟩)] S v fun x S' v'=>x=.tuple #[]∧S'=S∧Kp v (eK D RB RA nd) v'∧StE X D DB DA M RB RA nd nb turn (cD s (aS L) nb) L v':=by
 refine dX Tryz.func47 rfl Tryz.ntmps47 fun Stop cc cs ret f g0=>?_
 repeat refine rN ?_
 refine dI Tryz.func59 (Fo hb4 hn1 hnd hnb hX) ?_;rintro _ S1 w1 _ ⟨e1,hE1,g,t,rfl,hg,ht1,ht2⟩;subst S1;obtain rfl:t=aS L:=by
  funext j;cases h:t j with
  |true=>exact(eE.2 (ht2 j h)).symm
  |false=>
   cases h':aS L j with
   |false=>rfl
   |true=>
    obtain⟨e,he,rfl⟩:=eE.1 h';rw[ht1 e he]at h;cases h
 simp only[stO_some];have hX1:=hX.ext hE1;have hgn:¬eK D RB RA nd g:=by
  rintro(h|⟨d,hd,h|h⟩)
  .exact bS hg hX1.dk.row (by decide) h
  .exact bS hg (hX1.dk.rb d hd) (by decide) h
  .exact bS hg (hX1.dk.ra d hd) (by decide) h
 have hKv:Kp v (eK D RB RA nd) w1:=(Kp.refl v _).ext hE1;repeat refine rN ?_
 refine bR (fun d f' S' w=>∃ j,d=nb - j∧j<=nb∧S'=S∧Kp v (eK D RB RA nd) w∧w.heap[g]?=some (.cells (fZ nb (aS L)) 4)∧StE X D DB DA M RB RA nd nb turn (cD s (aS L) j) L w∧f' 0=.pointer (some ⟨X,0,none⟩)∧f' 5=.slice (some ⟨g,0,none⟩) nb nb∧f' 6=.int .i64 (nb:Nat)∧f' 7=.int .i64 (j:Nat)) nb ⟨0,by omega,by omega,rfl,hKv,hg,hX1,by simp[g0],by simp,by simp,by simp⟩ ?_;clear g0 f;rintro d f S' w ⟨j,rfl,hj,eS,hK,hgw,hXw,g0,g5,g6,g7⟩ nxt;subst S';repeat refine rN ?_
 by_cases hlt:j<nb
 .have hjI:(j:Int)<(nb:Int):=by omega
  have hcj:w.cell? ⟨g,j,none⟩=some (.bool (aS L j)):=(cell_of_row _ _ _ _ _ _ hgw).trans (xQ hlt);refine rX (by simp[Act.eval,g7,g6,hjI,hlt]) ?_;cases htj:aS L j with
  |true=>
   rw[htj]at hcj;repeat refine rM hcj ?_
   refine rZ (by simp[Act.eval]) ?_;repeat refine rN ?_
   refine nxt _ _ _ (nb - (j+1)) (by omega) ⟨j+1,rfl,by omega,rfl,hK,hgw,?_,by simp[g0],by simp[g5],by simp[g6],by simp⟩;unfold cD;rw[if_pos htj];exact hXw
  |false=>
   rw[htj]at hcj;repeat refine rM hcj ?_
   refine rX (by simp[Act.eval]) ?_;repeat refine rN ?_
   refine rK Tryz.func43 (yU (fun _=>false) j hlt hn1 hnd hnb hXw.row hXw.dk) ?_;rintro _ S1 w2 _ ⟨rfl,e1,hK2,hD2⟩;subst S1;repeat refine rN ?_
   refine nxt _ _ _ (nb - (j+1)) (by omega) ⟨j+1,rfl,by omega,rfl,hK.trans hK2,hK2.cells _ _ _ _ hgn hgw,?_,by simp[g0],by simp[g5],by simp[g6],by simp⟩;unfold cD;rw[if_neg (by rw[htj];exact Bool.false_ne_true)];exact hXw.slotOff (p:=j) (fun e he h=>by rw[eE.2 ⟨e,he,h⟩]at htj;cases htj) hK2 hD2 fun d q hq=>kL hq
 .obtain rfl:j=nb:=by omega
  refine rZ (by simp[Act.eval,g7,g6]) ?_;refine bB rfl ?_;repeat refine rN ?_
  refine iR ?_;refine ret _ _ S w (.tuple #[]) ?_ ⟨rfl,rfl,hK,hXw⟩;simp[results,Tryz.results47]
end
