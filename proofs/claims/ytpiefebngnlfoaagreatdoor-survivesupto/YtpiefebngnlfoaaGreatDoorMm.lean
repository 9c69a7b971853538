import Derived.Test.YtpiefebngnlfoaaGreatDoorMl
set_option maxRecDepth 100000
set_option maxHeartbeats 16000000
set_option linter.unusedVariables false
set_option linter.unusedSimpArgs false
namespace Go.Proofs.YtpiefebngnlfoaaGreatDoor
open Go.RowKit Go.Conc Go.Vw
def oldA(r:Option (Nat×Ent)):Array Value:=match r with
 |some q=>zbT q.2
 |none=>zaU 0 0 0 0 fun _=>false
theorem zsU(r:Option (Nat×Ent)):zhI r=.tuple #[.agg (oldA r),.bool r.isSome]:=by cases r<;>rfl
theorem zsP(r:Option (Nat×Ent)):∃ i z t q g,oldA r=zaU i z t q g:=by
 cases r with
 |none=>exact⟨0,0,0,0,fun _=>false,rfl⟩
 |some q=>exact⟨q.2.id,q.2.size,q.2.turn,q.2.slot,q.2.good,rfl⟩
theorem ygM(r:Option (Nat×Ent)):(oldA r).all (·.oneCell')=true:=by
 obtain⟨i,z,t,q,g,h⟩:=zsP r;rw[h];simp[zaU,Value.oneCell']
def yaW(X M lb V id:Nat)(r:Option (Nat×Ent))(j:Nat)(x:Value)(w:World):Prop:=
 match j with
 |0=>x=.pointer (some ⟨X,0,none⟩)
 |1=>x=.pointer (some ⟨X,0,none⟩)
 |2=>x=.pointer (some ⟨X,1,none⟩)
 |3=>x=.map (some M)
 |4=>x=.pointer (some ⟨lb,0,none⟩)
 |5=>x=.int .i64 (id:Nat)
 |6=>x=zhI r
 |7=>x=zhI r
 |8=>x=.agg (oldA r)
 |9=>x=.bool r.isSome
 |10=>∃ g,x=.pointer (some ⟨g,0,none⟩)∧V≤g∧∃ c:Array Value,c.size=18∧w.heap[g]?=some (.cells c 123)
 |12=>x=.bool r.isSome
 |_=>True
theorem yaV(X M lb V id:Nat)(r:Option (Nat×Ent)):∀ j x w w',yaW X M lb V id r j x w→Ext w w'→yaW X M lb V id r j x w':=by
 intro j x w w' h hE;unfold yaW at h ⊢;split at h<;>first|exact h|skip
 obtain⟨g,e,h1,c,h2,hg⟩:=h;exact⟨g,e,h1,c,h2,hE.row hg⟩
section
variable {X D DB DA M:Nat}{RB RA:Nat→Nat}{nd nb turn:Nat}{s:Dsk}{L:List Ent}{w w' v:World}{S:Nat→Prop}
theorem ztS{f:Nat→Value}{Stop:Goroutine→(Nat→Prop)→World→Prop}{cs:List Frame}{k0:List Item}(lb id size tn clock:Nat)(hx1:w.cell? ⟨X,1,none⟩=some (.map (some M)))(hm:w.heap[M]?=some (mapO L clock))(hlb:w.heap[lb]?=some (.cells (zbA id size tn) 120))
  (g0:f 0=.pointer (some ⟨X,0,none⟩)) (g4:f 4=.pointer (some ⟨lb,0,none⟩))
  (next:∀ w' f' g,Ext w w'→w.heap.size≤g→w'.heap[g]?=some (.cells (oldA (zbF id L 0)) 123)→f' 6=.pointer (some ⟨g,0,none⟩)→f' 7=.bool (zbF id L 0).isSome→(∀ s,s<6∨(8≤s∧s<17)→f' s=f s)→Vw.Reach Tryz.prog Stop (G ((base 26).at ⟨TA 61 f',[]⟩ (.inRegion ((zcR 3 (Tryz.f26.body.getD .skip)).getD #[]) [] :: k0)) cs) S w') :
  Vw.Reach Tryz.prog Stop (G ((base 26).at ⟨TA 61 f,[]⟩ (.code (.region 3 ((zcR 3 (Tryz.f26.body.getD .skip)).getD #[]) true) :: k0)) cs) S w:=by
 have e0:zcR 3 (Tryz.f26.body.getD .skip)=some _:=rfl;rw[e0]at next ⊢
 simp only[Option.getD_some]at next ⊢
 clear e0;have cl:w.cell? ⟨lb,0,none⟩=some (.int .i64 (id:Nat)):=(cell_of_row _ _ _ _ _ _ hlb).trans rfl;refine zcH (by kernel_rfl) (by kernel_rfl) (by kernel_rfl) 11 [0,1,2,3,4,5,6,7,8,10] (by kernel_rfl) (yaW X M lb w.heap.size id (zbF id L 0)) (fun S' w'=>S'=S∧Ext w w') (fun S' f w'=>S'=S∧Ext w w'∧∃ g,f 6=.pointer (some ⟨g,0,none⟩)∧w.heap.size≤g∧w'.heap[g]?=some (.cells (oldA (zbF id L 0)) 123)) (fun S' w w' h hE=>⟨h.1,h.2.trans _ _ _ hE⟩) (fun S' i f x w3 w4 hi hA hm' h hE=>?_) (yaV _ _ _ _ _ _) ?_ ⟨rfl,.refl _⟩ ?_ ?_ ?_
 ·obtain⟨h1,h2,g,q1,q2,q4⟩:=h;refine⟨h1,h2.trans _ _ _ hE,g,?_,q2,hE.row q4⟩;have hi':i<13:=hi;simp at hA;rcases(by omega:i=9∨i=12) with rfl|rfl
  ·exact q1
  ·exact q1
 ·intro j hj he x w h;have hj':j<13:=hj;rcases(by omega:j=0∨j=1∨j=2∨j=3∨j=4∨j=5∨j=6∨j=7∨j=8∨j=9∨j=10∨j=11∨j=12) with rfl|rfl|rfl|rfl|rfl|rfl|rfl|rfl|rfl|rfl|rfl|rfl|rfl<;>first|exact trivial|cases he
 ·intro i f' S1 w5 rest hi hne hB hf hd nxt;have g0':f' 0=.pointer (some ⟨X,0,none⟩):=(hf 0 (zaR (by kernel_rfl))).trans g0;have g4':f' 4=.pointer (some ⟨lb,0,none⟩):=(hf 4 (zaR (by kernel_rfl))).trans g4;have hi':i<13:=hi;clear hf;rcases(by omega:i=0∨i=1∨i=2∨i=3∨i=4∨i=5∨i=6∨i=7∨i=8∨i=9∨i=10∨i=11∨i=12) with rfl|rfl|rfl|rfl|rfl|rfl|rfl|rfl|rfl|rfl|rfl|rfl|rfl
  ·clear hd;refine rY zaA ?_;exact nxt _ w5 (.refl w5) rfl
  ·have d0:f' 18=.pointer (some ⟨X,0,none⟩):=hd 0 (zaD (by kernel_rfl));clear hd;refine rY zaA ?_;exact nxt _ w5 (.refl w5) rfl
  ·have d0:f' 19=.pointer (some ⟨X,0,none⟩):=hd 1 (zaD (by kernel_rfl));clear hd;refine rY zaA ?_;exact nxt _ w5 (.refl w5) rfl
  ·have d0:f' 20=.pointer (some ⟨X,1,none⟩):=hd 2 (zaD (by kernel_rfl));obtain⟨eS,hE⟩:=hB (by simp);have c0:=hE.cell hx1;clear hd;(refine rO zaA rfl ?_;intro _ hu_ K_ hK_;(have hc:=(Ext.twin hu_).cell c0);go_simp;(try rw[wI _]);(try rw[wU _]);refine hK_ _ ?_;clear hK_ K_ hu_;simp only[sS,sN]);exact nxt _ w5 (.refl w5) rfl
  ·clear hd;refine rY zaA ?_;exact nxt _ w5 (.refl w5) rfl
  ·have d0:f' 22=.pointer (some ⟨lb,0,none⟩):=hd 4 (zaD (by kernel_rfl));obtain⟨eS,hE⟩:=hB (by simp);have c0:=hE.cell cl;clear hd;(refine rO zaA rfl ?_;intro _ hu_ K_ hK_;(have hc:=(Ext.twin hu_).cell c0);go_simp;(try rw[wI _]);(try rw[wU _]);refine hK_ _ ?_;clear hK_ K_ hu_;simp only[sS,sN]);exact nxt _ w5 (.refl w5) rfl
  ·have d0:f' 21=.map (some M):=hd 3 (zaD (by kernel_rfl));have d1:f' 23=.int .i64 (id:Nat):=hd 5 (zaD (by kernel_rfl));obtain⟨eS,hE⟩:=hB (by simp);subst S1;have hm5:w5.heap[M]?=some (mapO L clock):=by
    rw[hE.block M (Array.getElem?_eq_some_iff.1 hm).1];exact hm
   clear hd;refine zdT rfl rfl rfl (x:=.tmp 21) (y:=.tmp 23) (id:=id) (by simp[d0]) (by simp[d1]) hm5 ?_;exact nxt _ w5 (.refl w5) rfl
  ·have d0:f' 24=zhI (zbF id L 0):=hd 6 (zaD (by kernel_rfl));clear hd;refine rY zaA ?_;exact nxt _ w5 (.refl w5) rfl
  ·have d0:f' 17=zhI (zbF id L 0):=hd 7 (zaD (by kernel_rfl));rw[zsU]at d0;clear hd;refine rY zaA ?_;exact nxt _ w5 (.refl w5) rfl
  ·have d0:f' 17=zhI (zbF id L 0):=hd 7 (zaD (by kernel_rfl));rw[zsU]at d0;clear hd;refine rY zaA ?_;exact nxt _ w5 (.refl w5) rfl
  ·obtain⟨eS,hE⟩:=hB (by simp);clear hd;refine zaN zaA rfl rfl (by kernel_rfl) (.agg (zaU 0 0 0 0 fun _=>false)) rfl (by kernel_rfl) fun w6 hE6 hb6 hs6=>?_
   exact nxt _ w6 hE6 ⟨_,rfl,hE.size,_,rfl,hb6⟩
  ·exact absurd rfl hne
  ·have d0:f' 26=.bool (zbF id L 0).isSome:=hd 9 (zaD (by kernel_rfl));clear hd;refine rY zaA ?_;exact nxt _ w5 (.refl w5) rfl
 ·rintro f' S1 w5 rest ⟨eS,hB⟩ hf hd nxt;subst S1;obtain⟨g,d0,hVg,c,hc18,hg⟩:∃ g,f' 6=.pointer (some ⟨g,0,none⟩)∧w.heap.size≤g∧∃ c:Array Value,c.size=18∧w5.heap[g]?=some (.cells c 123):=hd 10 (by simp);have d1:f' 25=.agg (oldA (zbF id L 0)):=hd 8 (by simp);clear hd hf;have hsz:(oldA (zbF id L 0)).size=18:=by
   obtain⟨i,z,t,q,g,h⟩:=zsP (zbF id L 0);rw[h];rfl
  refine zaL zaA rfl rfl (by kernel_rfl) (x:=.tmp 6) (y:=.tmp 25) (g:=g) (c:=oldA (zbF id L 0)) rfl (by simp[d0]) (by simp[d1]) hg (by rw[hsz];kernel_rfl) (hc18.trans hsz.symm) (ygM _) fun w6 hW=>?_
  refine nxt undef S w6 ⟨rfl,zbD hB hVg hW,g,d0,hVg,hW.at_⟩ trivial fun j x' hj h=>?_
  unfold yaW at h ⊢;split at h<;>first|exact h|skip
  obtain⟨g',e',h1',c',h2',hg'⟩:=h;by_cases e:g'=g
  ·subst e;exact⟨g',e',h1',_,hsz,hW.at_⟩
  ·exact⟨g',e',h1',c',h2',zaQ hW hg' e⟩
 ·rintro f' S1 w5 ⟨eS,hE,g,g6,hVg,hg⟩ hf hd;subst S1;refine next w5 f' g hE hVg hg g6 (hd 12 (by decide)) fun s hs=>hf s ?_
  rcases hs with hs|hs
  ·exact znJ (by kernel_rfl) hs
  ·exact zgZ (by kernel_rfl) hs.1 hs.2
end
def specW(X M lb id:Nat)(kv:Array Value)(j:Nat)(x:Value)(w:World):Prop:=
 match j with
 |0=>x=.pointer (some ⟨X,0,none⟩)
 |1=>x=.pointer (some ⟨X,0,none⟩)
 |2=>x=.pointer (some ⟨X,1,none⟩)
 |3=>x=.map (some M)
 |4=>x=.pointer (some ⟨lb,0,none⟩)
 |5=>x=.int .i64 (id:Nat)
 |6=>x=.pointer (some ⟨X,0,none⟩)
 |7=>x=.agg kv
 |8=>x=.agg kv
 |_=>True
section
variable {X D DB DA M:Nat}{RB RA:Nat→Nat}{nd nb turn:Nat}{s:Dsk}{L:List Ent}{w w' v:World}{S:Nat→Prop}
theorem zmH{f:Nat→Value}{Stop:Goroutine→(Nat→Prop)→World→Prop}{cs:List Frame}{k0:List Item}(lb kb p clock:Nat)(l:Lb)(G':Nat→Bool)(hl:l.Ok)(h10:10≤cntG (upG G' 14) 14)(hp:p<nb)(hn1:14≤nd)(hnd:nd≤18)(hnb:nb≤64)(hg:Tryz.prog.globals.size≤w.heap.size)(hK:SlotK s.c p l G')(hX:StE X D DB DA M RB RA nd nb turn s L w)
  (hm:w.heap[M]?=some (mapO L clock)) (hlb:w.heap[lb]?=some (.cells (zbA l.id l.size l.turn) 120)) (hkb:w.heap[kb]?=some (.cells (zaU l.id l.size l.turn p (upG G' 14)) 123))
  (g0:f 0=.pointer (some ⟨X,0,none⟩)) (g4:f 4=.pointer (some ⟨lb,0,none⟩)) (g5:f 5=.pointer (some ⟨kb,0,none⟩))
  (next:∀ w1 w2 f' S',Kp w (fun _=>False) w1→w1.heap[M]?=some (mapO L clock)→Wr w1 M (mapO (putL L (l.ent p (upG G' 14)) clock) (zhG L l.id clock)) w2→(∀ s,s<42→f' s=f s)→Vw.Reach Tryz.prog Stop (G ((base 26).at ⟨TA 61 f',[]⟩ (.inRegion ((zcR 5 (Tryz.f26.body.getD .skip)).getD #[]) [] :: k0)) cs) S' w2) :
  Vw.Reach Tryz.prog Stop (G ((base 26).at ⟨TA 61 f,[]⟩ (.code (.region 5 ((zcR 5 (Tryz.f26.body.getD .skip)).getD #[]) true) :: k0)) cs) S w:=by
 have e0:zcR 5 (Tryz.f26.body.getD .skip)=some _:=rfl;rw[e0]at next ⊢
 simp only[Option.getD_some]at next ⊢
 clear e0;have cl:w.cell? ⟨lb,0,none⟩=some (.int .i64 (l.id:Nat)):=(cell_of_row _ _ _ _ _ _ hlb).trans rfl;refine zsD (by kernel_rfl) (by kernel_rfl) (by kernel_rfl) 8 9 (by decide) (by kernel_rfl) [6,7] (by decide) (fun f' S' w2=>(∀ s,s<42→f' s=f s)∧∃ w1,Kp w (fun _=>False) w1∧w1.heap[M]?=some (mapO L clock)∧Wr w1 M (mapO (putL L (l.ent p (upG G' 14)) clock) (zhG L l.id clock)) w2) (by kernel_rfl) (specW X M lb l.id (zaU l.id l.size l.turn p (upG G' 14))) (fun S' w'=>Kp w (fun _=>False) w') (fun S' f w'=>Kp w (fun _=>False) w') (fun S' w w' h hE=>h.ext hE) (fun S' i f x w w' hi hA hm' hz h hE=>h.ext hE) (fun j x w w' h hE=>h) ?_ (.refl _ _) ?_ ?_ ?_ ?_
 ·intro j hj he x w h;have hj':j<10:=hj;rcases(by omega:j=0∨j=1∨j=2∨j=3∨j=4∨j=5∨j=6∨j=7∨j=8∨j=9) with rfl|rfl|rfl|rfl|rfl|rfl|rfl|rfl|rfl|rfl<;>first|exact trivial|cases he
 ·intro i f' S1 w5 rest hi hne hnz hB hBB hf hd nxt;have hi':i<10:=hi;have hK5:Kp w (fun _=>False) w5:=hBB.elim id id;have g0':f' 0=.pointer (some ⟨X,0,none⟩):=(hf 0 (zcG (by kernel_rfl))).trans g0;have g4':f' 4=.pointer (some ⟨lb,0,none⟩):=(hf 4 (zcG (by kernel_rfl))).trans g4;have g5':f' 5=.pointer (some ⟨kb,0,none⟩):=(hf 5 (zcG (by kernel_rfl))).trans g5;clear hf hB hBB;rcases(by omega:i=0∨i=1∨i=2∨i=3∨i=4∨i=5∨i=6∨i=7∨i=8∨i=9) with rfl|rfl|rfl|rfl|rfl|rfl|rfl|rfl|rfl|rfl
  ·clear hd;refine rY zaA ?_;exact nxt _ w5 (.refl w5) rfl
  ·have d0:f' 42=.pointer (some ⟨X,0,none⟩):=hd 0 (zaD (by kernel_rfl));clear hd;refine rY zaA ?_;exact nxt _ w5 (.refl w5) rfl
  ·have d0:f' 43=.pointer (some ⟨X,0,none⟩):=hd 1 (zaD (by kernel_rfl));clear hd;refine rY zaA ?_;exact nxt _ w5 (.refl w5) rfl
  ·have d0:f' 44=.pointer (some ⟨X,1,none⟩):=hd 2 (zaD (by kernel_rfl));have c0:=(hX.kp hK5).c1;clear hd;(refine rO zaA rfl ?_;intro _ hu_ K_ hK_;(have hc:=(Ext.twin hu_).cell c0);go_simp;(try rw[wI _]);(try rw[wU _]);refine hK_ _ ?_;clear hK_ K_ hu_;simp only[sS,sN]);exact nxt _ w5 (.refl w5) rfl
  ·clear hd;refine rY zaA ?_;exact nxt _ w5 (.refl w5) rfl
  ·have d0:f' 46=.pointer (some ⟨lb,0,none⟩):=hd 4 (zaD (by kernel_rfl));have c0:=hK5.cell (fun x=>x) cl;clear hd;(refine rO zaA rfl ?_;intro _ hu_ K_ hK_;(have hc:=(Ext.twin hu_).cell c0);go_simp;(try rw[wI _]);(try rw[wU _]);refine hK_ _ ?_;clear hK_ K_ hu_;simp only[sS,sN]);exact nxt _ w5 (.refl w5) rfl
  ·clear hd;refine rY zaA ?_;exact nxt _ w5 (.refl w5) rfl
  ·clear hd;refine zaO zaA rfl rfl (by kernel_rfl) (fun u hu=>zcC (x:=.tmp 5) (b:=kb) rfl (by simp[g5']) ((Ext.twin hu).row (hK5.cells _ _ _ _ (fun x=>x) hkb))) ?_;exact nxt _ w5 (.refl w5) rfl
  ·exact absurd rfl hne
  ·exact absurd rfl hnz
 ·rintro f' S1 w5 rest hB hf hd nxt;have d0:f' 48=.pointer (some ⟨X,0,none⟩):=hd 6 (by simp);have d1:f' 49=.agg (zaU l.id l.size l.turn p (upG G' 14)):=hd 7 (by simp);clear hd hf;(refine zaC rfl (by first|rfl|simp[Region.wanted,yielded,zaG, *]) rfl Tryz.func55 (by kernel_rfl) rfl (by simp[Act.eval, *];try rfl) (yaE p l G' hl h10 hp hn1 hnd hnb (Nat.le_trans hg hB.size) hK (hX.kp hB)) ?_)
  rintro _ S2 w6 _ ⟨hK6,rfl⟩;exact nxt _ S2 w6 (hB.trans hK6) rfl fun j y hj h=>h
 ·rintro f' S1 w5 rest hB hf hd nxt;have d0:f' 45=.map (some M):=hd 3 (by decide) (by decide);have d1:f' 47=.int .i64 (l.id:Nat):=hd 5 (by decide) (by decide);have d2:f' 50=.agg (zaU l.id l.size l.turn p (upG G' 14)):=hd 8 (by decide) (by decide);have hm5:w5.heap[M]?=some (mapO L clock):=hB.objs _ _ (fun x=>x) hm trivial;clear hd;refine zhN rfl rfl rfl (x:=.tmp 45) (y:=.tmp 47) (z:=.tmp 50) (e:=l.ent p (upG G' 14)) (by simp[d0]) (by simp[d1,Lb.ent]) (by simp[d2];rfl) hm5 fun w6 hW=>?_
  exact nxt undef S1 w6 ⟨fun s hs=>hf s (znJ (by kernel_rfl) hs),w5,hB,hm5,hW⟩
 ·rintro f' S1 w5 ⟨hf,w1,h1,h2,h3⟩;exact next w1 w5 f' S1 h1 h2 h3 hf
end
theorem Sim.max2{P:Program}{S:Nat→Prop}(x y:Value):Sim P S (Builtin.max2 x y):=by
 unfold Builtin.max2;split
 ·exact Sim.pure _
 ·split<;>first|exact Sim.pure _|exact Sim.bind (Sim.choose _) fun _=>Sim.pure _
 ·exact Sim.bind (Sim.stringOp _ _ _) fun _=>Sim.bind (Sim.asBool _) fun _=>Sim.pure _
 ·exact Sim.unsupported _
 ·exact Sim.unsupported _
 ·exact Sim.stuck _
theorem Sim.max{P:Program}{S:Nat→Prop}(ts:Array TypeId)(t:TypeId)(args:Array Value):Sim P S (Builtin.max_ ts t args):=by
 unfold Builtin.max_;split
 ·exact Sim.stuck _
 ·exact Sim.foldL (fun _ _=>Sim.max2 _ _) _ _
def specX(X lb tn tl:Nat)(j:Nat)(x:Value)(w:World):Prop:=
 match j with
 |0=>x=.pointer (some ⟨X,0,none⟩)
 |1=>x=.pointer (some ⟨X,0,none⟩)
 |2=>x=.pointer (some ⟨X,0,none⟩)
 |3=>x=.pointer (some ⟨X,2,none⟩)
 |4=>x=.int .u64 (tn:Nat)
 |5=>x=.pointer (some ⟨lb,2,none⟩)
 |6=>x=.int .u64 (tl:Nat)
 |7=>x=.int .u64 ((max tn tl:Nat):Int)
 |8=>x=.pointer (some ⟨X,0,none⟩)
 |9=>x=.pointer (some ⟨X,2,none⟩)
 |_=>True
theorem ybE{S:Nat→Prop}{o:Oper}{a:Act}{x y:Operand}{t:TypeId}(hop:o.op=.call {callee:=.builtin .max,args:=#[x,y],argTypes:=#[t,t]}):Sim Tryz.prog S (execOp a.eval o):=by
 unfold execOp;simp only[hop,resolve,invoke,builtin,List.map_toArray,List.map_cons,List.map_nil];show Sim Tryz.prog S (Builtin.max_ #[t,t] o.type #[a.eval x,a.eval y] >>= fun r=>pure (Next.value r))
 exact Sim.bind (Sim.max _ _ _) fun _=>Sim.pure _
theorem ybK{o:Oper}{ac:Act}{x y:Operand}{t:TypeId}{a b:Nat}{u:World}(hop:o.op=.call {callee:=.builtin .max,args:=#[x,y],argTypes:=#[t,t]})(hx:ac.eval x=.int .u64 (a:Nat))(hy:ac.eval y=.int .u64 (b:Nat)):(execOp ac.eval o).run Tryz.prog u=.ok (.value (.int .u64 ((max a b:Nat):Int))) u:=by
 have hmax:(if (a:Int)<(b:Int) then(b:Int) else(a:Int))=((max a b:Nat):Int):=by
  split<;>omega
 unfold execOp;simp[hop,resolve,invoke,builtin,hx,hy,Builtin.max_,Builtin.max2];omega
def zhJ(L:List Ent)(l:Lb)(G:Nat→Bool):Bool:=decide (10≤cntG (upG G 14) 14)&&(match zbF l.id L 0 with|some q=>decide (q.2.turn<l.turn)|none=>true)
section
variable {X D DB DA M:Nat}{RB RA:Nat→Nat}{nd nb turn:Nat}{s:Dsk}{L:List Ent}{w w' v:World}{S:Nat→Prop}
theorem EntOk.born{nb turn:Nat}{c:Nat→Nat→Nat→Nat}{e:Ent}(h:EntOk nb turn c e)(b:Nat):EntOk nb turn c {e with born:=b}:=⟨h.id1,h.id2,h.size,h.turn,h.slot,h.val,h.ten,h.blk⟩
theorem EntOk.turns{nb turn t':Nat}{c:Nat→Nat→Nat→Nat}{e:Ent}(h:EntOk nb turn c e)(ht:e.turn≤t'):EntOk nb t' c e:=⟨h.id1,h.id2,h.size,ht,h.slot,h.val,h.ten,h.blk⟩
theorem StE.took{e:Ent}{clock t':Nat}{w1 w2 w2' w3:World}(h:StE X D DB DA M RB RA nd nb turn s L w)(hK:Kp w (fun _=>False) w1)(hW:Wr w1 M (mapO (putL L e clock) (zhG L e.id clock)) w2)(hPO:PutOk L e clock)(hE:Ext w2 w2')(hW2:Wr w2' X (.cells #[.pointer (some ⟨D,0,none⟩),.map (some M),.int .u64 (t':Nat)] 80) w3)(ht:turn≤t')(he:EntOk nb t' s.c e):StE X D DB DA M RB RA nd nb t' s (putL L e clock) w3:=by
 have h1:=h.kp hK;have hK2:Kp w1 (fun b=>b=M∨b=X) w3:=(((Kp.refl w1 _).wr (.inl (.inl rfl)) hW).ext hE).wr (.inl (.inr rfl)) hW2;refine⟨hW2.at_,⟨_,zaQ hW2 (by rw[hE.block M (Array.getElem?_eq_some_iff.1 hW.at_).1];exact hW.at_) h1.mn.2.1,hPO.lt⟩,h1.dk.kp hK2 ?_ ?_ ?_ ?_,fun x hx=>?_,hPO.idn,hPO.slots,hPO.borns⟩
 ·rintro(q|q)
  ·exact h1.mn.1 (.inl q.symm)
  ·exact h1.xn (.inl q.symm)
 ·rintro(q|q)
  ·exact h1.mn.2.2.1 q.symm
  ·exact zaM h1.row h1.dk.db (by decide) q.symm
 ·rintro(q|q)
  ·exact h1.mn.2.2.2 q.symm
  ·exact zaM h1.row h1.dk.da (by decide) q.symm
 ·intro d hd;refine⟨?_,?_⟩
  ·rintro(q|q)
   ·exact h1.mn.1 (.inr ⟨d,hd,.inl q.symm⟩)
   ·exact h1.xn (.inr ⟨d,hd,.inl q.symm⟩)
  ·rintro(q|q)
   ·exact h1.mn.1 (.inr ⟨d,hd,.inr q.symm⟩)
   ·exact h1.xn (.inr ⟨d,hd,.inr q.symm⟩)
 ·rcases hPO.mem x hx with⟨b,rfl⟩|⟨hx',_⟩
  ·exact he.born b
  ·exact(h.ent x hx').turns (Nat.le_trans (h.ent x hx').turn ht)
theorem ziS{f:Nat→Value}{Stop:Goroutine→(Nat→Prop)→World→Prop}{cs:List Frame}{k0:List Item}(lb tn id size tl:Nat)(mm:Value)(hmm:mm=.map (some M))(hx:w.heap[X]?=some (.cells #[.pointer (some ⟨D,0,none⟩),mm,.int .u64 (tn:Nat)] 80))(hlb:w.heap[lb]?=some (.cells (zbA id size tl) 120))
  (g0:f 0=.pointer (some ⟨X,0,none⟩)) (g4:f 4=.pointer (some ⟨lb,0,none⟩))
  (next:∀ w1 w2 f',Ext w w1→Wr w1 X (.cells #[.pointer (some ⟨D,0,none⟩),mm,.int .u64 ((max tn tl:Nat):Int)] 80) w2→(∀ s,s<51→f' s=f s)→Vw.Reach Tryz.prog Stop (G ((base 26).at ⟨TA 61 f',[]⟩ (.inRegion ((zcR 6 (Tryz.f26.body.getD .skip)).getD #[]) [] :: k0)) cs) S w2) :
  Vw.Reach Tryz.prog Stop (G ((base 26).at ⟨TA 61 f,[]⟩ (.code (.region 6 ((zcR 6 (Tryz.f26.body.getD .skip)).getD #[]) true) :: k0)) cs) S w:=by
 have e0:zcR 6 (Tryz.f26.body.getD .skip)=some _:=rfl;rw[e0]at next ⊢
 simp only[Option.getD_some]at next ⊢
 clear e0;have c0:w.cell? ⟨X,2,none⟩=some (.int .u64 (tn:Nat)):=(cell_of_row _ _ _ _ _ _ hx).trans rfl;have c1:w.cell? ⟨lb,2,none⟩=some (.int .u64 (tl:Nat)):=(cell_of_row _ _ _ _ _ _ hlb).trans rfl;refine zcH (by kernel_rfl) (by kernel_rfl) (by kernel_rfl) 10 [0,1,2,3,4,5,6,7,8,9] (by kernel_rfl) (specX X lb tn tl) (fun S' w'=>S'=S∧Ext w w') (fun S' f' w'=>S'=S∧∃ w1,Ext w w1∧Wr w1 X (.cells #[.pointer (some ⟨D,0,none⟩),mm,.int .u64 ((max tn tl:Nat):Int)] 80) w') (fun S' w w' h hE=>⟨h.1,h.2.trans _ _ _ hE⟩) (fun S' i f x w3 w4 hi hA hm' h hE=>?_) (fun j x w w' h hE=>h) ?_ ⟨rfl,.refl _⟩ ?_ ?_ ?_
 ·exfalso;have hi':i<11:=hi;simp at hA;omega
 ·intro j hj he x w h;have hj':j<11:=hj;rcases(by omega:j=0∨j=1∨j=2∨j=3∨j=4∨j=5∨j=6∨j=7∨j=8∨j=9∨j=10) with rfl|rfl|rfl|rfl|rfl|rfl|rfl|rfl|rfl|rfl|rfl<;>first|exact trivial|cases he
 ·intro i f' S1 w5 rest hi hne hB hf hd nxt;have g0':f' 0=.pointer (some ⟨X,0,none⟩):=(hf 0 (zaR (by kernel_rfl))).trans g0;have g4':f' 4=.pointer (some ⟨lb,0,none⟩):=(hf 4 (zaR (by kernel_rfl))).trans g4;have hi':i<11:=hi
  obtain⟨eS,hE⟩:=hB (by
   simp
   omega)
  subst S1;have c0':=hE.cell c0;have c1':=hE.cell c1;clear hf hB;rcases(by omega:i=0∨i=1∨i=2∨i=3∨i=4∨i=5∨i=6∨i=7∨i=8∨i=9∨i=10) with rfl|rfl|rfl|rfl|rfl|rfl|rfl|rfl|rfl|rfl|rfl
  ·clear hd;refine rY zaA ?_;exact nxt _ w5 (.refl w5) rfl
  ·clear hd;refine rY zaA ?_;exact nxt _ w5 (.refl w5) rfl
  ·have d0:f' 52=.pointer (some ⟨X,0,none⟩):=hd 1 (zaD (by kernel_rfl));clear hd;refine rY zaA ?_;exact nxt _ w5 (.refl w5) rfl
  ·have d0:f' 53=.pointer (some ⟨X,0,none⟩):=hd 2 (zaD (by kernel_rfl));clear hd;refine rY zaA ?_;exact nxt _ w5 (.refl w5) rfl
  ·have d0:f' 54=.pointer (some ⟨X,2,none⟩):=hd 3 (zaD (by kernel_rfl));clear hd;(refine rO zaA rfl ?_;intro _ hu_ K_ hK_;(have hc:=(Ext.twin hu_).cell c0');go_simp;(try rw[wI _]);(try rw[wU _]);refine hK_ _ ?_;clear hK_ K_ hu_;simp only[sS,sN]);exact nxt _ w5 (.refl w5) rfl
  ·clear hd;refine rY zaA ?_;exact nxt _ w5 (.refl w5) rfl
  ·have d0:f' 56=.pointer (some ⟨lb,2,none⟩):=hd 5 (zaD (by kernel_rfl));clear hd;(refine rO zaA rfl ?_;intro _ hu_ K_ hK_;(have hc:=(Ext.twin hu_).cell c1');go_simp;(try rw[wI _]);(try rw[wU _]);refine hK_ _ ?_;clear hK_ K_ hu_;simp only[sS,sN]);exact nxt _ w5 (.refl w5) rfl
  ·have d0:f' 55=.int .u64 (tn:Nat):=hd 4 (zaD (by kernel_rfl));have d1:f' 57=.int .u64 (tl:Nat):=hd 6 (zaD (by kernel_rfl));clear hd;refine zbO (by simp[base]) rfl rfl (ybE rfl) fun u hu=>⟨_,u,.inl (ybK (x:=.tmp 55) (y:=.tmp 57) (a:=tn) (b:=tl) rfl (by simp[d0]) (by simp[d1])),Reach.twin ⟨hu.heap.symm,hu.os.symm,hu.output.symm⟩ ?_⟩
   rw[zbH];exact nxt _ w5 (.refl w5) rfl
  ·have d0:f' 51=.pointer (some ⟨X,0,none⟩):=hd 0 (zaD (by kernel_rfl));clear hd;refine rY zaA ?_;exact nxt _ w5 (.refl w5) rfl
  ·have d0:f' 59=.pointer (some ⟨X,0,none⟩):=hd 8 (zaD (by kernel_rfl));clear hd;refine rY zaA ?_;exact nxt _ w5 (.refl w5) rfl
  ·exact absurd rfl hne
 ·rintro f' S1 w5 rest ⟨eS,hB⟩ hf hd nxt;subst S1;have d0:f' 60=.pointer (some ⟨X,2,none⟩):=hd 9 (by simp);have d1:f' 58=.int .u64 ((max tn tl:Nat):Int):=hd 7 (by simp);clear hd hf;refine zaW zaA rfl rfl (by kernel_rfl) (x:=.tmp 60) (y:=.tmp 58) (g:=X) (j:=2) (z:=.int .u64 ((max tn tl:Nat):Int)) rfl (by simp[d0]) (by simp[d1]) rfl rfl (hB.row hx) (by simp) (by kernel_rfl) fun w6 hW=>?_
  exact nxt undef S w6 ⟨rfl,w5,hB,hW⟩ trivial fun j x' hj h=>h
 ·rintro f' S1 w5 ⟨eS,w1,hE1,hW⟩ hf hd;subst S1;exact next w1 w5 f' hE1 hW fun s hs=>hf s (znJ (by kernel_rfl) hs)
end
end Go.Proofs.YtpiefebngnlfoaaGreatDoor
