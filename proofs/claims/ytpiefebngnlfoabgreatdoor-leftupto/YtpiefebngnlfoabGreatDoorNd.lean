import Derived.Test.YtpiefebngnlfoabGreatDoorNc
set_option maxRecDepth 99999
set_option maxHeartbeats 0
set_option linter.unusedVariables false
set_option linter.unusedSimpArgs false
namespace Go.Proofs.YtpiefebngnlfoabGreatDoor
open Go.RowKit Go.Conc Go.Vw
def mU(N base bx V:Nat)(a:Ac)(ov:Value)(Qn:List Itp)(j:Nat)(x:Value)(w:World):Prop:=
 match j with
 |0=>x=ov
 |1=>x=.pointer (some ⟨bx,0,none⟩)
 |2=>x=.int .i64 a.c
 |3=>x=.int .i64 (aR a.c:Nat)
 |4=>x=.pointer (some ⟨bx,2,none⟩)
 |5=>x=.slice a.p a.len a.cap
 |6=>x=.slice a.p (min a.len 400) a.cap
 |7=>x=.agg #[.int .i64 (aR a.c:Nat),.slice a.p (min a.len 400) a.cap]
 |8=>∃ g',x=.slice (some ⟨g',0,none⟩) 1 1∧V<=g'∧w.heap[g']?=some (.cells #[.int .i64 (aR a.c:Nat),.slice a.p (min a.len 400) a.cap] 65)
 |9=>ItsQ N base w x Qn
 |10=>ItsQ N base w x Qn
 |_=>True
theorem By(N base bx V:Nat)(a:Ac)(ov:Value)(Qn:List Itp):∀ j x w w',mU N base bx V a ov Qn j x w->Ext w w'->mU N base bx V a ov Qn j x w':=by
 intro j x w w' h hE;unfold mU at h ⊢;split at h<;>first|exact h|exact h.kp (eM N w) (aX hE)|skip
 obtain⟨g',q,h1,h2⟩:=h;exact⟨g',q,h1,hE.row h2⟩
theorem Ir{w w1 w2:World}{row:Option Nat}(h:Gr w w1 row)(hE:Ext w1 w2):Gr w w2 row:=⟨hE.os.trans h.os,hE.output.trans h.output,Nat.le_trans h.size hE.size,fun k hk hr=>(hE.block k (Nat.lt_of_lt_of_le hk h.size)).trans (h.block k hk hr)⟩
theorem Jg{w w1 w2:World}{row:Option Nat}(hE:Ext w w1)(h:Gr w1 w2 row):Gr w w2 row:=⟨h.os.trans hE.os,h.output.trans hE.output,Nat.le_trans hE.size h.size,fun k hk hr=>(h.block k (Nat.lt_of_lt_of_le hk hE.size) hr).trans (hE.block k hk)⟩
section
variable {w w' v:World}{S:Nat->Prop}
theorem Wy{f:Nat->Value}{Stop:Goroutine->(Nat->Prop)->World->Prop}{cs:List Frame}{k0:List Item}(N base bx:Nat)(a:Ac)(ov:Value)(Qo:List Itp)(hN:N<=base)(hb:base<=w.heap.size)(ha:a.Ok N w)(hbx:w.heap[bx]?=some (.cells a.agg 50))(hQo:ItsQ N base w ov Qo)(hl:Qo.length<=1000)
  (g4:f 4=.pointer (some ⟨bx,0,none⟩)) (g7:f 7=ov)
  (next:∀ w' f' y,Gr w w' ov.ownBlock->ItsQ N base w' y (Qo++[⟨a.it,a.p,a.cap⟩])->f' 7=y->(∀ s,s<7∨(8<=s∧s<10)->f' s=f s)->Vw.Reach Tryz.prog Stop (G ((_root_.Go.Conc.base 19).at ⟨TA 73 f',[]⟩ (.inRegion ((cK 9 (Tryz.f19.body.getD .skip)).getD #[]) [] :: k0)) cs) S w') :
  Vw.Reach Tryz.prog Stop (G ((_root_.Go.Conc.base 19).at ⟨TA 73 f,[]⟩ (.code (.region 9 ((cK 9 (Tryz.f19.body.getD .skip)).getD #[]) true) :: k0)) cs) S w:=by
 have e0:cK 9 (Tryz.f19.body.getD .skip)=some _:=rfl;rw[e0]at next ⊢
 simp only[Option.getD_some]at next ⊢
 clear e0;obtain⟨hi1,hi2⟩:=vJ a.c;refine wS (by kernel_rfl) (by kernel_rfl) (by kernel_rfl) 9 [0,1,2,3,4,5,6,7,8] (by kernel_rfl) (mU N base bx w.heap.size a ov (Qo++[⟨a.it,a.p,a.cap⟩])) (fun S' w'=>S'=S∧Ext w w') (fun S' f w'=>S'=S∧Gr w w' ov.ownBlock) (fun S' w w' h hE=>⟨h.1,h.2.trans _ _ _ hE⟩) (fun S' i f x w w' hi hA hm' h hE=>⟨h.1,Ir h.2 hE⟩) (By _ _ _ _ _ _ _) ?_ ⟨rfl,.refl _⟩ ?_ ?_ ?_
 .intro j hj he x w h;have hj':j<11:=hj;rcases(by omega:j=0∨j=1∨j=2∨j=3∨j=4∨j=5∨j=6∨j=7∨j=8∨j=9∨j=10) with rfl|rfl|rfl|rfl|rfl|rfl|rfl|rfl|rfl|rfl|rfl<;>cases he
 .intro i f' S1 w5 rest hi hne hB hf hd nxt;have g4':f' 4=.pointer (some ⟨bx,0,none⟩):=(hf 4 (gZ (by kernel_rfl))).trans g4;have hi':i<11:=hi;rcases(by omega:i=0∨i=1∨i=2∨i=3∨i=4∨i=5∨i=6∨i=7∨i=8∨i=9∨i=10) with rfl|rfl|rfl|rfl|rfl|rfl|rfl|rfl|rfl|rfl|rfl
  .have g7':f' 7=ov:=(hf 7 (zI (by kernel_rfl))).trans g7;clear hd hf;refine rY aB ?_;exact nxt _ w5 (.refl w5) rfl
  .clear hd hf;refine rY aB ?_;exact nxt _ w5 (.refl w5) rfl
  .have d0:f' 35=.pointer (some ⟨bx,0,none⟩):=hd 1 (aD (by kernel_rfl));obtain⟨eS,hE⟩:=hB (by simp);subst S1;have c0:w5.cell? ⟨bx,0,none⟩=some (.int .i64 a.c):=(cell_of_row _ _ _ _ _ _ (hE.row hbx)).trans rfl;clear hd hB hf;(refine rO aB rfl ?_;intro _ hu_ K_ hK_;(have hc:=(Ext.twin hu_).cell c0);go_simp;(try rw[wI _]);(try rw[wU _]);refine hK_ _ ?_;clear hK_ K_ hu_;simp only[sS,sN]);exact nxt _ w5 (.refl w5) rfl
  .have d0:f' 36=.int .i64 a.c:=hd 2 (aD (by kernel_rfl));obtain⟨eS,hE⟩:=hB (by simp);subst S1;clear hd hf hB;refine dK Tryz.func37 (mE a.c ha.lo ha.hi) ?_;rintro _ S1 w6 _ ⟨rfl,e1,e2⟩;subst S1 w6;exact nxt _ w5 (.refl w5) rfl
  .clear hd hf;refine rY aB ?_;exact nxt _ w5 (.refl w5) rfl
  .have d0:f' 38=.pointer (some ⟨bx,2,none⟩):=hd 4 (aD (by kernel_rfl));obtain⟨eS,hE⟩:=hB (by simp);subst S1;have c0:w5.cell? ⟨bx,2,none⟩=some (.slice a.p a.len a.cap):=(cell_of_row _ _ _ _ _ _ (hE.row hbx)).trans rfl;clear hd hB hf;(refine rO aB rfl ?_;intro _ hu_ K_ hK_;(have hc:=(Ext.twin hu_).cell c0);go_simp;(try rw[wI _]);(try rw[wU _]);refine hK_ _ ?_;clear hK_ K_ hu_;simp only[sS,sN]);exact nxt _ w5 (.refl w5) rfl
  .have d0:f' 39=.slice a.p a.len a.cap:=hd 5 (aD (by kernel_rfl));obtain⟨eS,hE⟩:=hB (by simp);subst S1;clear hd hf hB;refine dK Tryz.func38 (yN a.len a.cap a.p a.val (ha.sl.1.ext hE) ha.len) ?_;rintro _ S1 w6 _ ⟨rfl,e1,e2⟩;subst S1 w6;exact nxt _ w5 (.refl w5) rfl
  .have d0:f' 37=.int .i64 (aR a.c:Nat):=hd 3 (aD (by kernel_rfl));have d1:f' 40=.slice a.p (min a.len 400) a.cap:=hd 6 (aD (by kernel_rfl));clear hd hf;refine rY aB ?_;exact nxt _ w5 (.refl w5) rfl
  .have d0:f' 41=.agg #[.int .i64 (aR a.c:Nat),.slice a.p (min a.len 400) a.cap]:=hd 7 (aD (by kernel_rfl));obtain⟨eS,hE⟩:=hB (by simp);subst S1;clear hd hf hB;refine bO (Q:=fun y w'=>y=.slice (some ⟨w5.heap.size,0,none⟩) 1 1∧Ext w5 w'∧w'.heap[w5.heap.size]?=some (.cells #[.int .i64 (aR a.c:Nat),.slice a.p (min a.len 400) a.cap] 65)) aB rfl rfl (by kernel_rfl) (fun u hu=>⟨_,_,.inl (qB (x:=.tmp 41) (y:=.int .i64 (aR a.c:Nat)) (z:=.slice a.p (min a.len 400) a.cap) rfl (by simp[d0])),by rw[hu.heap],(Ext.twin hu).trans _ _ _ (Ext.alloc _ _),by rw[<-hu.heap];exact cI _ _⟩) ?_
   rintro _ w6 ⟨rfl,hE6,hb6⟩;exact nxt _ w6 hE6 ⟨_,rfl,hE.size,hb6⟩
  .exact absurd rfl hne
  .obtain⟨y,hy⟩:∃ y,f' 43=y:=⟨_,rfl⟩;have d0:ItsQ N base w5 y (Qo++[⟨a.it,a.p,a.cap⟩]):=by
    rw[<-hy];exact hd 9 (aD (by kernel_rfl))
   clear hd hf;refine rY aB ?_;exact nxt _ w5 (.refl w5) d0
 .rintro f' S1 w5 rest ⟨eS,hB⟩ hf hd nxt;subst S1;obtain⟨g',d0,hVg,hg'⟩:∃ g',f' 42=.slice (some ⟨g',0,none⟩) 1 1∧w.heap.size<=g'∧w5.heap[g']?=some (.cells #[.int .i64 (aR a.c:Nat),.slice a.p (min a.len 400) a.cap] 65):=hd 8 (by simp);have d1:f' 34=ov:=hd 0 (by simp);clear hd hf;have hQ5:=hQo.kp (eM N w) (aX hB);have hsl:iP N w a.p (min a.len 400) a.cap a.val:=⟨ha.sl.1.head (Nat.min_le_left _ _),fun h0=>ha.sl.2 (by omega)⟩
  refine bO aB rfl rfl (by kernel_rfl) (fun u hu=>tF (s:=.tmp 34) (x:=.tmp 42) (ad:=⟨g',0,none⟩) (m:=1) (c:=1) (news:=[.int .i64 (aR a.c:Nat),.slice a.p (min a.len 400) a.cap]) hu base hQ5.own rfl (uH hg') (fun y hy=>by rcases List.mem_cons.1 hy with rfl|hy;rfl;rw[List.mem_singleton.1 hy];rfl) (by omega) (Nat.le_trans hb hB.size) rfl (by simp[d1]) (by simp[d0])) ?_;rintro y w6 ⟨ho6,hg6,_⟩;have hQ6:ItsQ N base w6 y (Qo++[⟨a.it,a.p,a.cap⟩]):=hQo.push (q:=⟨a.it,a.p,a.cap⟩) hN hsl hB ho6 hg6;refine nxt _ S w6 ⟨rfl,Jg hB hg6⟩ hQ6 fun j x' hj hnd h=>?_
  unfold mU at h ⊢;split at h<;>first|exact h|skip
  .obtain⟨g2,q,h1,h2⟩:=h;refine⟨g2,q,h1,hg6.row h2 fun e=>?_⟩
   obtain⟨_,c,hc⟩:=kR hQo.own e.symm;have:=(Array.getElem?_eq_some_iff.1 hc).1;omega
  .exact absurd rfl hj
  .exact absurd (aD (by kernel_rfl)) hnd
 .rintro f' S1 w5 ⟨eS,hG⟩ hf hd;subst S1;exact next w5 f' _ hG (hd 10 (by decide)) rfl fun s h=>hf s (by rcases h with h|⟨h1,h2⟩;exact mT (a:=0) (b:=7) (by kernel_rfl) (Nat.zero_le _) h;exact mT (a:=8) (b:=10) (by kernel_rfl) h1 h2)
theorem Tv{f:Nat->Value}{Stop:Goroutine->(Nat->Prop)->World->Prop}{cs:List Frame}{k0:List Item}(N base bx:Nat)(a:Ac)(ov:Value)(Qo:List Itp)(hN:N<=base)(hb:base<=w.heap.size)(ha:a.Ok N w)(hbx:w.heap[bx]?=some (.cells a.agg 50))(hQo:ItsQ N base w ov Qo)(hl:Qo.length<=1000)
  (g4:f 4=.pointer (some ⟨bx,0,none⟩)) (g7:f 7=ov)
  (next:∀ w' f' y,Gr w w' ov.ownBlock->ItsQ N base w' y (Qo++[⟨a.it,a.p,a.cap⟩])->f' 7=y->(∀ s,s<7∨(8<=s∧s<10)->f' s=f s)->Vw.Reach Tryz.prog Stop (G ((_root_.Go.Conc.base 19).at ⟨TA 73 f',[]⟩ (.inRegion ((cK 14 (Tryz.f19.body.getD .skip)).getD #[]) [] :: k0)) cs) S w') :
  Vw.Reach Tryz.prog Stop (G ((_root_.Go.Conc.base 19).at ⟨TA 73 f,[]⟩ (.code (.region 14 ((cK 14 (Tryz.f19.body.getD .skip)).getD #[]) true) :: k0)) cs) S w:=by
 have e0:cK 14 (Tryz.f19.body.getD .skip)=some _:=rfl;rw[e0]at next ⊢
 simp only[Option.getD_some]at next ⊢
 clear e0;obtain⟨hi1,hi2⟩:=vJ a.c;refine wS (by kernel_rfl) (by kernel_rfl) (by kernel_rfl) 9 [0,1,2,3,4,5,6,7,8] (by kernel_rfl) (mU N base bx w.heap.size a ov (Qo++[⟨a.it,a.p,a.cap⟩])) (fun S' w'=>S'=S∧Ext w w') (fun S' f w'=>S'=S∧Gr w w' ov.ownBlock) (fun S' w w' h hE=>⟨h.1,h.2.trans _ _ _ hE⟩) (fun S' i f x w w' hi hA hm' h hE=>⟨h.1,Ir h.2 hE⟩) (By _ _ _ _ _ _ _) ?_ ⟨rfl,.refl _⟩ ?_ ?_ ?_
 .intro j hj he x w h;have hj':j<11:=hj;rcases(by omega:j=0∨j=1∨j=2∨j=3∨j=4∨j=5∨j=6∨j=7∨j=8∨j=9∨j=10) with rfl|rfl|rfl|rfl|rfl|rfl|rfl|rfl|rfl|rfl|rfl<;>cases he
 .intro i f' S1 w5 rest hi hne hB hf hd nxt;have g4':f' 4=.pointer (some ⟨bx,0,none⟩):=(hf 4 (gZ (by kernel_rfl))).trans g4;have hi':i<11:=hi;rcases(by omega:i=0∨i=1∨i=2∨i=3∨i=4∨i=5∨i=6∨i=7∨i=8∨i=9∨i=10) with rfl|rfl|rfl|rfl|rfl|rfl|rfl|rfl|rfl|rfl|rfl
  .have g7':f' 7=ov:=(hf 7 (zI (by kernel_rfl))).trans g7;clear hd hf;refine rY aB ?_;exact nxt _ w5 (.refl w5) rfl
  .clear hd hf;refine rY aB ?_;exact nxt _ w5 (.refl w5) rfl
  .have d0:f' 63=.pointer (some ⟨bx,0,none⟩):=hd 1 (aD (by kernel_rfl));obtain⟨eS,hE⟩:=hB (by simp);subst S1;have c0:w5.cell? ⟨bx,0,none⟩=some (.int .i64 a.c):=(cell_of_row _ _ _ _ _ _ (hE.row hbx)).trans rfl;clear hd hB hf;(refine rO aB rfl ?_;intro _ hu_ K_ hK_;(have hc:=(Ext.twin hu_).cell c0);go_simp;(try rw[wI _]);(try rw[wU _]);refine hK_ _ ?_;clear hK_ K_ hu_;simp only[sS,sN]);exact nxt _ w5 (.refl w5) rfl
  .have d0:f' 64=.int .i64 a.c:=hd 2 (aD (by kernel_rfl));obtain⟨eS,hE⟩:=hB (by simp);subst S1;clear hd hf hB;refine dK Tryz.func37 (mE a.c ha.lo ha.hi) ?_;rintro _ S1 w6 _ ⟨rfl,e1,e2⟩;subst S1 w6;exact nxt _ w5 (.refl w5) rfl
  .clear hd hf;refine rY aB ?_;exact nxt _ w5 (.refl w5) rfl
  .have d0:f' 66=.pointer (some ⟨bx,2,none⟩):=hd 4 (aD (by kernel_rfl));obtain⟨eS,hE⟩:=hB (by simp);subst S1;have c0:w5.cell? ⟨bx,2,none⟩=some (.slice a.p a.len a.cap):=(cell_of_row _ _ _ _ _ _ (hE.row hbx)).trans rfl;clear hd hB hf;(refine rO aB rfl ?_;intro _ hu_ K_ hK_;(have hc:=(Ext.twin hu_).cell c0);go_simp;(try rw[wI _]);(try rw[wU _]);refine hK_ _ ?_;clear hK_ K_ hu_;simp only[sS,sN]);exact nxt _ w5 (.refl w5) rfl
  .have d0:f' 67=.slice a.p a.len a.cap:=hd 5 (aD (by kernel_rfl));obtain⟨eS,hE⟩:=hB (by simp);subst S1;clear hd hf hB;refine dK Tryz.func38 (yN a.len a.cap a.p a.val (ha.sl.1.ext hE) ha.len) ?_;rintro _ S1 w6 _ ⟨rfl,e1,e2⟩;subst S1 w6;exact nxt _ w5 (.refl w5) rfl
  .have d0:f' 65=.int .i64 (aR a.c:Nat):=hd 3 (aD (by kernel_rfl));have d1:f' 68=.slice a.p (min a.len 400) a.cap:=hd 6 (aD (by kernel_rfl));clear hd hf;refine rY aB ?_;exact nxt _ w5 (.refl w5) rfl
  .have d0:f' 69=.agg #[.int .i64 (aR a.c:Nat),.slice a.p (min a.len 400) a.cap]:=hd 7 (aD (by kernel_rfl));obtain⟨eS,hE⟩:=hB (by simp);subst S1;clear hd hf hB;refine bO (Q:=fun y w'=>y=.slice (some ⟨w5.heap.size,0,none⟩) 1 1∧Ext w5 w'∧w'.heap[w5.heap.size]?=some (.cells #[.int .i64 (aR a.c:Nat),.slice a.p (min a.len 400) a.cap] 65)) aB rfl rfl (by kernel_rfl) (fun u hu=>⟨_,_,.inl (qB (x:=.tmp 69) (y:=.int .i64 (aR a.c:Nat)) (z:=.slice a.p (min a.len 400) a.cap) rfl (by simp[d0])),by rw[hu.heap],(Ext.twin hu).trans _ _ _ (Ext.alloc _ _),by rw[<-hu.heap];exact cI _ _⟩) ?_
   rintro _ w6 ⟨rfl,hE6,hb6⟩;exact nxt _ w6 hE6 ⟨_,rfl,hE.size,hb6⟩
  .exact absurd rfl hne
  .obtain⟨y,hy⟩:∃ y,f' 71=y:=⟨_,rfl⟩;have d0:ItsQ N base w5 y (Qo++[⟨a.it,a.p,a.cap⟩]):=by
    rw[<-hy];exact hd 9 (aD (by kernel_rfl))
   clear hd hf;refine rY aB ?_;exact nxt _ w5 (.refl w5) d0
 .rintro f' S1 w5 rest ⟨eS,hB⟩ hf hd nxt;subst S1;obtain⟨g',d0,hVg,hg'⟩:∃ g',f' 70=.slice (some ⟨g',0,none⟩) 1 1∧w.heap.size<=g'∧w5.heap[g']?=some (.cells #[.int .i64 (aR a.c:Nat),.slice a.p (min a.len 400) a.cap] 65):=hd 8 (by simp);have d1:f' 62=ov:=hd 0 (by simp);clear hd hf;have hQ5:=hQo.kp (eM N w) (aX hB);have hsl:iP N w a.p (min a.len 400) a.cap a.val:=⟨ha.sl.1.head (Nat.min_le_left _ _),fun h0=>ha.sl.2 (by omega)⟩
  refine bO aB rfl rfl (by kernel_rfl) (fun u hu=>tF (s:=.tmp 62) (x:=.tmp 70) (ad:=⟨g',0,none⟩) (m:=1) (c:=1) (news:=[.int .i64 (aR a.c:Nat),.slice a.p (min a.len 400) a.cap]) hu base hQ5.own rfl (uH hg') (fun y hy=>by rcases List.mem_cons.1 hy with rfl|hy;rfl;rw[List.mem_singleton.1 hy];rfl) (by omega) (Nat.le_trans hb hB.size) rfl (by simp[d1]) (by simp[d0])) ?_;rintro y w6 ⟨ho6,hg6,_⟩;have hQ6:ItsQ N base w6 y (Qo++[⟨a.it,a.p,a.cap⟩]):=hQo.push (q:=⟨a.it,a.p,a.cap⟩) hN hsl hB ho6 hg6;refine nxt _ S w6 ⟨rfl,Jg hB hg6⟩ hQ6 fun j x' hj hnd h=>?_
  unfold mU at h ⊢;split at h<;>first|exact h|skip
  .obtain⟨g2,q,h1,h2⟩:=h;refine⟨g2,q,h1,hg6.row h2 fun e=>?_⟩
   obtain⟨_,c,hc⟩:=kR hQo.own e.symm;have:=(Array.getElem?_eq_some_iff.1 hc).1;omega
  .exact absurd rfl hj
  .exact absurd (aD (by kernel_rfl)) hnd
 .rintro f' S1 w5 ⟨eS,hG⟩ hf hd;subst S1;exact next w5 f' _ hG (hd 10 (by decide)) rfl fun s h=>hf s (by rcases h with h|⟨h1,h2⟩;exact mT (a:=0) (b:=7) (by kernel_rfl) (Nat.zero_le _) h;exact mT (a:=8) (b:=10) (by kernel_rfl) h1 h2)
end
