import Derived.Test.YtpiefebngnlfoaaGreatDoorMk
set_option maxRecDepth 100000
set_option maxHeartbeats 16000000
set_option linter.unusedVariables false
set_option linter.unusedSimpArgs false
namespace Go.Proofs.YtpiefebngnlfoaaGreatDoor
open Go.RowKit Go.Conc Go.Vw
theorem znB{n:Nat} : ∀ {x:Nat→Nat} {N:Nat},(∀ i,i<n→x i=zaY N i)→numL x n=N % 256 ^ n:=by
 induction n with
 |zero=>intro x N h;simp[numL,Nat.mod_one]
 |succ n ih=>
  intro x N h;unfold numL;have h0:=h 0 (by omega);have h1:numL (fun i=>x (i+1)) n=(N / 256) % 256 ^ n:=ih fun i hi=>by
   rw[h (i+1) (by omega)];unfold zaY;rw[Nat.pow_succ,Nat.mul_comm (256 ^ i) 256,←Nat.div_div_eq_div_mul]
  rw[h0,h1];unfold zaY;rw[Nat.pow_zero,Nat.div_one,Nat.pow_succ,Nat.mul_comm (256 ^ n) 256,Nat.mod_mul]
theorem Lb.Ok.sealed{l:Lb}(h:l.Ok){k:Nat}(hk:k<14){x:Nat→Nat}(hx:∀ j,j<96→x j=l.blk k j):zgN x:=by
 have e1:numL x 2=l.id:=by
  rw[znB (N:=l.id) fun i hi=>by rw[hx i (by omega)];exact zwV hi]
  exact Nat.mod_eq_of_lt (by have:=h.id2;omega)
 have e2:numL (fun i=>x (2+i)) 2=l.size:=by
  rw[znB (N:=l.size) fun i hi=>by rw[hx (2+i) (by omega)];exact zoL hi]
  exact Nat.mod_eq_of_lt (by have:=h.size;omega)
 have e3:numL (fun i=>x (4+i)) 1=k:=by
  rw[znB (N:=k) fun i hi=>by rw[hx (4+i) (by omega)];exact zrS hi]
  exact Nat.mod_eq_of_lt (by omega)
 have e4:numL (fun i=>x (5+i)) 8=l.turn:=by
  rw[znB (N:=l.turn) fun i hi=>by rw[hx (5+i) (by omega)];exact zoK hi]
  exact Nat.mod_eq_of_lt (by have:=h.turn;omega)
 unfold zgN;rw[e1,e2,e3,e4];refine⟨h.id1,h.id2,h.size,hk,fun j hj=>?_⟩
 rw[hx j hj];have hm:(l.size+9) / 10≤79:=by have:=h.size;omega
 have hb:∀ i,zfY l.id l.size l.turn k ((l.size+9) / 10) (fun i=>x (13+i)) i=zfY l.id l.size l.turn k ((l.size+9) / 10) (zbY l.val l.size k) i:=fun i=>by
  unfold zfY;by_cases hi:13≤i∧i<13+(l.size+9) / 10
  ·rw[if_pos hi,if_pos hi];show x (13+(i - 13))=_;rw[hx (13+(i - 13)) (by omega)];exact zmL hm (by omega)
  ·rw[if_neg hi,if_neg hi]
 have hb':zfY l.id l.size l.turn k ((l.size+9) / 10) (fun i=>x (13+i))=zfY l.id l.size l.turn k ((l.size+9) / 10) (zbY l.val l.size k):=funext hb;unfold Lb.blk zbM;rw[hb']
theorem SlotK.eq{c:Nat→Nat→Nat→Nat}{p:Nat}{l:Lb}{G:Nat→Bool}(h:SlotK c p l G)(hl:l.Ok){k:Nat}(hk:k<14):eqF (c k p) (l.blk k) 0 96=G k:=by
 cases hg:G k with
 |true=>exact(zhU _ _ 96 0).2 fun j _ hj=>h.yes k hk hg j (by omega)
 |false=>
  cases hq:eqF (c k p) (l.blk k) 0 96 with
  |false=>rfl
  |true=>exact absurd (hl.sealed hk fun j hj=>(zhU _ _ 96 0).1 hq j (by omega) (by omega)) (h.no k hk hg)
theorem zzJ{id size turn slot k:Nat}{g:Nat→Bool}(hk:k<14):(zaU id size turn slot g).setIfInBounds (4+k) (.bool (g k))=zaU id size turn slot g:=by
 rcases(by omega:k=0∨k=1∨k=2∨k=3∨k=4∨k=5∨k=6∨k=7∨k=8∨k=9∨k=10∨k=11∨k=12∨k=13) with rfl|rfl|rfl|rfl|rfl|rfl|rfl|rfl|rfl|rfl|rfl|rfl|rfl|rfl<;>rfl
def ylI(X D bx BP k p id size turn m:Nat)(g:Nat→Bool)(blk:Nat→Nat)(j:Nat)(x:Value)(w:World):Prop:=
 match j with
 |0=>x=.int .i64 (k:Nat)
 |1=>x=.pointer (some ⟨X,0,none⟩)
 |2=>x=.pointer (some ⟨X,0,none⟩)
 |3=>x=.pointer (some ⟨X,0,none⟩)
 |4=>x=.pointer (some ⟨D,0,none⟩)
 |5=>x=.int .i64 (k:Nat)
 |6=>x=.pointer (some ⟨bx,3,none⟩)
 |7=>x=.int .i64 (p:Nat)
 |8=>x=.agg (zaU id size turn p g)
 |9=>x=.int .i64 (k:Nat)
 |10=>x=sl BP m
 |11=>x=.agg (zaE 96 blk)
 |12=>x=.bool (g k)
 |13=>x=.pointer (some ⟨bx,4,none⟩)
 |14=>x=.pointer (some ⟨bx,4+k,none⟩)
 |_=>True
section
variable {X D DB DA M:Nat}{RB RA:Nat→Nat}{nd nb turn:Nat}{s:Dsk}{L:List Ent}{w w' v:World}{S:Nat→Prop}
theorem yeS{f:Nat→Value}{Stop:Goroutine→(Nat→Prop)→World→Prop}{cs:List Frame}{k0:List Item}(l:Lb)(g:Nat→Bool)(hl:l.Ok)(bx BP k p:Nat)(hk:k<14)(hp:p<nb)(hn1:14≤nd)(hnd:nd≤18)(hnb:nb≤64)(hX:StE X D DB DA M RB RA nd nb turn s L w)(heq:eqF (s.c k p) (l.blk k) 0 96=g k)
  (hbx:w.heap[bx]?=some (.cells (zaU l.id l.size l.turn p g) 123)) (hBP:w.heap[BP]?=some (.cells (zaE ((l.size+9) / 10) (zbY l.val l.size k)) 5)) (g0:f 0=.pointer (some ⟨X,0,none⟩)) (g3:f 3=.pointer (some ⟨bx,0,none⟩)) (g7:f 7=.int .i64 (k:Nat)) (g8:f 8=sl BP ((l.size+9) / 10))
  (next:∀ w' f',Ext w w'→(∀ s,s<23→f' s=f s)→Vw.Reach Tryz.prog Stop (G ((base 55).at ⟨TA 40 f',[]⟩ (.inRegion ((zcR 5 (Tryz.f55.body.getD .skip)).getD #[]) [] :: k0)) cs) S w') :
  Vw.Reach Tryz.prog Stop (G ((base 55).at ⟨TA 40 f,[]⟩ (.code (.region 5 ((zcR 5 (Tryz.f55.body.getD .skip)).getD #[]) true) :: k0)) cs) S w:=by
 have e0:zcR 5 (Tryz.f55.body.getD .skip)=some _:=rfl;rw[e0]at next ⊢
 simp only[Option.getD_some]at next ⊢
 clear e0;have hm79:(l.size+9) / 10≤79:=by have:=hl.size;omega
 have hkI:(k:Int)<14:=by omega
 have hblk:zbM l.id l.size l.turn k ((l.size+9) / 10) (zbY l.val l.size k)=l.blk k:=rfl;obtain⟨m,hm⟩:∃ m,m=(l.size+9) / 10:=⟨_,rfl⟩;rw[←hm]at hm79 hBP g8 hblk;have HM:=hide hm;clear hm;refine zcH (by kernel_rfl) (by kernel_rfl) (by kernel_rfl) 15 [0,1,2,3,4,5,6,7,8,9,10,11,12,13,14] (by kernel_rfl) (ylI X D bx BP k p l.id l.size l.turn m g (l.blk k)) (fun S' w'=>S'=S∧Ext w w') (fun S' f w'=>S'=S∧Ext w w') (fun S' w w' h hE=>⟨h.1,h.2.trans _ _ _ hE⟩) (fun S' i f x w w' hi hA hm' h hE=>⟨h.1,h.2.trans _ _ _ hE⟩) (fun j x w w' h hE=>h) ?_ ⟨rfl,.refl _⟩ ?_ ?_ ?_
 ·intro j hj he x w h;have hj':j<16:=hj;rcases(by omega:j=0∨j=1∨j=2∨j=3∨j=4∨j=5∨j=6∨j=7∨j=8∨j=9∨j=10∨j=11∨j=12∨j=13∨j=14∨j=15) with rfl|rfl|rfl|rfl|rfl|rfl|rfl|rfl|rfl|rfl|rfl|rfl|rfl|rfl|rfl|rfl<;>first|exact trivial|cases he
 ·intro i f' S1 w5 rest hi hne hB hf hd nxt;have g0':f' 0=.pointer (some ⟨X,0,none⟩):=(hf 0 (zaR (by kernel_rfl))).trans g0;have g3':f' 3=.pointer (some ⟨bx,0,none⟩):=(hf 3 (zaR (by kernel_rfl))).trans g3;have g7':f' 7=.int .i64 (k:Nat):=(hf 7 (zaR (by kernel_rfl))).trans g7;have g8':f' 8=sl BP m:=(hf 8 (zaR (by kernel_rfl))).trans g8;have hi':i<16:=hi
  obtain⟨eS,hE⟩:=hB (by
   simp
   omega)
  subst S1;have hXw:=hX.ext hE;clear hf hB;rcases(by omega:i=0∨i=1∨i=2∨i=3∨i=4∨i=5∨i=6∨i=7∨i=8∨i=9∨i=10∨i=11∨i=12∨i=13∨i=14∨i=15) with rfl|rfl|rfl|rfl|rfl|rfl|rfl|rfl|rfl|rfl|rfl|rfl|rfl|rfl|rfl|rfl
  ·clear hd;refine rY zaA ?_;exact nxt _ w5 (.refl w5) rfl
  ·clear hd;refine rY zaA ?_;exact nxt _ w5 (.refl w5) rfl
  ·have d0:f' 24=.pointer (some ⟨X,0,none⟩):=hd 1 (zaD (by kernel_rfl));clear hd;refine rY zaA ?_;exact nxt _ w5 (.refl w5) rfl
  ·have d0:f' 25=.pointer (some ⟨X,0,none⟩):=hd 2 (zaD (by kernel_rfl));clear hd;refine rY zaA ?_;exact nxt _ w5 (.refl w5) rfl
  ·have d0:f' 26=.pointer (some ⟨X,0,none⟩):=hd 3 (zaD (by kernel_rfl));have c0:=hXw.c0;clear hd;(refine rO zaA rfl ?_;intro _ hu_ K_ hK_;(have hc:=(Ext.twin hu_).cell c0);go_simp;(try rw[wI _]);(try rw[wU _]);refine hK_ _ ?_;clear hK_ K_ hu_;simp only[sS,sN]);exact nxt _ w5 (.refl w5) rfl
  ·clear hd;refine rY zaA ?_;exact nxt _ w5 (.refl w5) rfl
  ·clear hd;refine rY zaA ?_;exact nxt _ w5 (.refl w5) rfl
  ·have d0:f' 29=.pointer (some ⟨bx,3,none⟩):=hd 6 (zaD (by kernel_rfl));have c0:w5.cell? ⟨bx,3,none⟩=some (.int .i64 (p:Nat)):=(cell_of_row _ _ _ _ _ _ (hE.row hbx)).trans rfl;clear hd;(refine rO zaA rfl ?_;intro _ hu_ K_ hK_;(have hc:=(Ext.twin hu_).cell c0);go_simp;(try rw[wI _]);(try rw[wU _]);refine hK_ _ ?_;clear hK_ K_ hu_;simp only[sS,sN]);exact nxt _ w5 (.refl w5) rfl
  ·clear hd;refine zaO zaA rfl rfl (by kernel_rfl) (fun u hu=>zcC (x:=.tmp 3) (b:=bx) rfl (by simp[g3']) ((Ext.twin hu).row (hE.row hbx))) ?_;exact nxt _ w5 (.refl w5) rfl
  ·clear hd;refine rY zaA ?_;exact nxt _ w5 (.refl w5) rfl
  ·clear hd;refine rY zaA ?_;exact nxt _ w5 (.refl w5) rfl
  ·have d0:f' 31=.agg (zaU l.id l.size l.turn p g):=hd 8 (zaD (by kernel_rfl));have d1:f' 32=.int .i64 (k:Nat):=hd 9 (zaD (by kernel_rfl));have d2:f' 33=sl BP m:=hd 10 (zaD (by kernel_rfl));unfold sl at d2;clear hd;(refine zaC rfl (by first|rfl|simp[Region.wanted,yielded,zaG, *]) rfl Tryz.func73 (by kernel_rfl) rfl (by simp[Act.eval, *];try rfl) (ybG l.id l.size l.turn p k m m BP 0 g (zbY l.val l.size k) hl.id2 hl.size hk hl.turn hm79 (znN hl.val _ _) (fun i hi=>by rw[Nat.zero_add,cell_of_row _ _ _ _ _ _ (hE.row hBP),zaZ _ _ _ hi])) ?_)
   rintro _ S1 w6 _ ⟨rfl,e1,hE6⟩;subst S1;rw[hblk];exact nxt _ w6 hE6 rfl
  ·have d0:f' 27=.pointer (some ⟨D,0,none⟩):=hd 4 (zaD (by kernel_rfl));have d1:f' 28=.int .i64 (k:Nat):=hd 5 (zaD (by kernel_rfl));have d2:f' 30=.int .i64 (p:Nat):=hd 7 (zaD (by kernel_rfl));have d3:f' 34=.agg (zaE 96 (l.blk k)):=hd 11 (zaD (by kernel_rfl));clear hd;(refine zaC rfl (by first|rfl|simp[Region.wanted,yielded,zaG, *]) rfl Tryz.func72 (by kernel_rfl) rfl (by simp[Act.eval, *];try rfl) (zqU k p (l.blk k) (by omega) hp hnd hnb hXw.dk.old) ?_)
   rintro _ S1 w6 _ ⟨rfl,e1,hE6⟩;subst S1;rw[heq];exact nxt _ w6 hE6 rfl
  ·clear hd;refine rY zaA ?_;exact nxt _ w5 (.refl w5) rfl
  ·have d0:f' 36=.pointer (some ⟨bx,4,none⟩):=hd 13 (zaD (by kernel_rfl));have d1:f' 23=.int .i64 (k:Nat):=hd 0 (zaD (by kernel_rfl));clear hd;refine rY zaA ?_;exact nxt _ w5 (.refl w5) (by simp[ylI])
  ·exact absurd rfl hne
 ·rintro f' S1 w5 rest ⟨eS,hB⟩ hf hd nxt;subst S1;have d0:f' 37=.pointer (some ⟨bx,4+k,none⟩):=hd 14 (by simp);have d1:f' 35=.bool (g k):=hd 12 (by simp);clear hd hf;refine zaW zaA rfl rfl (by kernel_rfl) (x:=.tmp 37) (y:=.tmp 35) (g:=bx) (j:=4+k) (z:=.bool (g k)) rfl (by simp[d0]) (by simp[d1]) rfl rfl (hB.row hbx) (by simp[zaU];omega) (by kernel_rfl) fun w6 hW=>?_
  rw[zzJ hk]at hW;exact nxt undef S w6 ⟨rfl,hB.trans _ _ _ (yjG hW (hB.row hbx))⟩ trivial fun j x' hj h=>h
 ·rintro f' S1 w5 ⟨eS,hE⟩ hf hd;subst S1;exact next w5 f' hE fun s hs=>hf s (znJ (by kernel_rfl) hs)
end
section
variable {X D DB DA M:Nat}{RB RA:Nat→Nat}{nd nb turn:Nat}{s:Dsk}{L:List Ent}{w w' v:World}{S:Nat→Prop}
def Lb.ent(l:Lb)(p:Nat)(g:Nat→Bool):Ent:=⟨l.id,l.size,l.turn,p,l.val,g,0⟩
theorem SlotK.entOk{p:Nat}{l:Lb}{G:Nat→Bool}{c:Nat→Nat→Nat→Nat}(h:SlotK c p l G)(hl:l.Ok)(hp:p<nb)(h10:10≤cntG (upG G 14) 14):EntOk nb l.turn c (l.ent p (upG G 14)):=
 ⟨hl.id1,hl.id2,hl.size,Nat.le_refl _,hp,hl.val,h10,fun k hk hg j hj=>by
  have:G k=true:=by
   have hg':(decide (k<14)&&G k)=true:=hg;simp[hk]at hg';exact hg'
  exact h.yes k hk this j hj⟩
theorem upG14{G:Nat→Bool}{k:Nat}(hk:k<14):upG G 14 k=G k:=by simp[upG,hk]
theorem yaE(p:Nat)(l:Lb)(G':Nat→Bool)(hl:l.Ok)(h10:10≤cntG (upG G' 14) 14)(hp:p<nb)(hn1:14≤nd)(hnd:nd≤18)(hnb:nb≤64)(hg:Tryz.prog.globals.size≤v.heap.size)(hK:SlotK s.c p l G')(hX:StE X D DB DA M RB RA nd nb turn s L v) :
  zaP Tryz.prog 55 #[.pointer (some ⟨X,0,none⟩),.agg (zaU l.id l.size l.turn p (upG G' 14))] S v fun x S' v'=>Kp v (fun _=>False) v'∧x=.agg (zaU l.id l.size l.turn p (upG G' 14)):=by
 refine zaF Tryz.func55 rfl Tryz.ntmps55 (by simp) fun Stop cc cs ret=>?_
 have hok:=hK.entOk hl hp h10;obtain⟨g,hgd⟩:∃ g,g=upG G' 14:=⟨_,rfl⟩;have heq:∀ k,k<14→eqF (s.c k p) (l.blk k) 0 96=g k:=fun k hk=>by rw[hK.eq hl hk,hgd,upG14 hk]
 rw[←hgd]at ret hok h10 ⊢;clear hgd hK;have g0:argF #[.pointer (some ⟨X,0,none⟩),.agg (zaU l.id l.size l.turn p g)] 0=.pointer (some ⟨X,0,none⟩):=rfl;have g1:argF #[.pointer (some ⟨X,0,none⟩),.agg (zaU l.id l.size l.turn p g)] 1=.agg (zaU l.id l.size l.turn p g):=rfl;generalize argF #[.pointer (some ⟨X,0,none⟩),.agg (zaU l.id l.size l.turn p g)]=f at g0 g1;repeat (first|refine rQ rfl ?_|refine rY zaA ?_|refine rW ?_)
 refine zaJ (Q:=fun y w=>y=.pointer (some ⟨v.heap.size,0,none⟩)∧Ext v w∧w.heap[v.heap.size]?=some (.cells (zaU l.id l.size l.turn p g) 123)∧w.heap.size=v.heap.size+1) zaA rfl rfl (by kernel_rfl) (fun u hu=>⟨_,_,.inl (zdI (x:=.tmp 1) (y:=.agg (zaU l.id l.size l.turn p g)) rfl (by simp[g1]) u),by rw[hu.heap],(Ext.twin hu).trans _ _ _ (Ext.alloc _ _),by rw[←hu.heap];exact zaX _ _,by rw[zcW,hu.heap]⟩) ?_
 rintro _ w1 ⟨rfl,hE1,hb1,hs1⟩;simp only[stO_some];refine zaN zaA rfl rfl (by kernel_rfl) (.agg (zaU 0 0 0 0 fun _=>false)) rfl (by kernel_rfl) fun w2 hE2 hb2 hs2=>?_
 simp only[stO_some];have hb1':=hE2.row hb1;have hE12:=hE1.trans _ _ _ hE2;have hX2:=hX.ext hE12;generalize hbx:v.heap.size=bx at *
 generalize hrx:w1.heap.size=rx at *
 repeat (first|refine rQ rfl ?_|refine rY zaA ?_|refine rW ?_)
 refine zaO zaA rfl rfl (by kernel_rfl) (fun u hu=>zcC (x:=.tmp 3) (b:=bx) rfl (by simp) ((Ext.twin hu).row hb1')) ?_;simp only[stO_some];(refine zaC rfl (by first|rfl|simp[Region.wanted,yielded,zaG, *]) rfl Tryz.func64 (by kernel_rfl) rfl (by simp[Act.eval, *];try rfl) (zgY (l.ent p g) hok hl.turn hn1 hnd hnb hX2) ?_)
 rintro _ S1 w3 _ ⟨e1,hE3,BL,PB,CP,rfl,hrow,hps⟩;subst S1;simp only[stO_some];have hgw:Tryz.prog.globals.size≤w3.heap.size:=by have:=hE3.size;have:=hE12.size;omega
 repeat (first|refine rQ rfl ?_|refine rY zaA ?_|refine rW ?_)
 (refine zaC rfl (by first|rfl|simp[Region.wanted,yielded,zaG, *]) rfl Tryz.func68 (by kernel_rfl) rfl (by simp[Act.eval, *];try rfl) (zvN (l.ent p g) BL PB CP hl.size hl.val h10 hgw ⟨hrow,hps⟩) ?_)
 rintro _ S1 w4 _ ⟨BA,PA,rfl,hP⟩;simp only[stO_some];have hm79:((l.ent p g).size+9) / 10=(l.size+9) / 10:=rfl;have hK4:Kp v (fun _=>False) w4:=((Kp.refl v _).ext (hE12.trans _ _ _ hE3)).trans hP.kp;have hX4:=(hX2.ext hE3).kp hP.kp;have hb4:=hP.kp.cells _ _ _ _ (fun x=>x) (hE3.row hb1');have hr4:=hP.kp.cells _ _ _ _ (fun x=>x) (hE3.row hb2);have hba:w4.heap[BA]?=some (.cells (allA fun k=>sl (PA k) ((l.size+9) / 10)) 43):=hP.ba
 have hpb:∀ k,k<14→w4.heap[PA k]?=some (.cells (zaE ((l.size+9) / 10) (zbY l.val l.size k)) 5):=hP.pb;clear hrow hps;unfold sl at hba;repeat (first|refine rQ rfl ?_|refine rY zaA ?_|refine rW ?_)
 refine zaI (fun d f' S' w=>∃ k,d=14 - k∧k≤14∧S'=S1∧Ext w4 w∧f' 0=.pointer (some ⟨X,0,none⟩)∧f' 3=.pointer (some ⟨bx,0,none⟩)∧f' 4=.pointer (some ⟨rx,0,none⟩)∧f' 16=sl BA 14∧f' 17=.int .i64 14∧f' 18=.int .i64 (k:Nat)) 14 ⟨0,by omega,by omega,rfl,.refl _,by simp[g0],by simp,by simp,by simp,by simp[sl],by simp⟩ ?_;clear g0 g1 f;rintro d f S' w ⟨k,rfl,hk,eS,hEw,g0,g3,g4,g16,g17,g18⟩ nxt;subst S';have hXw:=hX4.ext hEw;unfold sl at g16;repeat (first|refine rQ rfl ?_|refine rY zaA ?_|refine rW ?_)
 by_cases hlt:k<14
 ·have hkI:(k:Int)<14:=by omega
  have ck:w.cell? ⟨BA,k,none⟩=some (.slice (some ⟨PA k,0,none⟩) ((l.size+9) / 10) ((l.size+9) / 10)):=by rw[cell_of_row _ _ _ _ _ _ (hEw.row hba),zeC _ _ hlt]
  (refine zaB (t:=true) (by simp[Act.eval,hkI,g18,g17]) ?_;simp only[if_true,if_false,reduceIte,Bool.false_eq_true]);repeat (first|refine rQ rfl ?_|(refine rO zaA rfl ?_;intro _ hu_ K_ hK_;(have hc:=(Ext.twin hu_).cell ck);go_simp;(try rw[wI _]);(try rw[wU _]);refine hK_ _ ?_;clear hK_ K_ hu_;simp only[sS,sN])|refine rW ?_)
  refine yeS l g hl bx (PA k) k p hlt hp hn1 hnd hnb hXw (heq k hlt) (hEw.row hb4) (hEw.row (hpb k hlt)) (by simp[g0]) (by simp[g3]) (by simp) (by simp[sl]) fun w5 f5 hE5 hf5=>?_
  have k0:f5 0=.pointer (some ⟨X,0,none⟩):=(hf5 0 (by omega)).trans (by simp[g0]);have k3:f5 3=.pointer (some ⟨bx,0,none⟩):=(hf5 3 (by omega)).trans (by simp[g3]);have k4:f5 4=.pointer (some ⟨rx,0,none⟩):=(hf5 4 (by omega)).trans (by simp[g4]);have k16:f5 16=.slice (some ⟨BA,0,none⟩) 14 14:=(hf5 16 (by omega)).trans (by simp[g16]);have k17:f5 17=.int .i64 14:=(hf5 17 (by omega)).trans (by simp[g17]);have k18:f5 18=.int .i64 (k:Nat):=(hf5 18 (by omega)).trans (by simp[g18]);repeat (first|refine rQ rfl ?_|refine rY zaA ?_|refine rW ?_)
  refine nxt _ _ _ (14 - (k+1)) (by omega) ⟨k+1,rfl,by omega,rfl,hEw.trans _ _ _ hE5,by simp[k0],by simp[k3],by simp[k4],by simp[k16,sl],by simp[k17],by simp⟩
 ·obtain rfl:k=14:=by omega
  (refine zaB (t:=false) (by simp[Act.eval,g18,g17]) ?_;simp only[if_true,if_false,reduceIte,Bool.false_eq_true]);refine zaK rfl ?_;repeat (first|refine rQ rfl ?_|refine rY zaA ?_|refine rW ?_)
  refine zaO zaA rfl rfl (by kernel_rfl) (fun u hu=>zcC (x:=.tmp 3) (b:=bx) rfl (by simp[g3]) ((Ext.twin hu).row (hEw.row hb4))) ?_;simp only[stO_some];refine zaL zaA rfl rfl (by kernel_rfl) (x:=.tmp 4) (y:=.tmp 39) (g:=rx) (c:=zaU l.id l.size l.turn p g) rfl (by simp[g4]) (by simp) (hEw.row hr4) (by kernel_rfl) rfl (by simp[zaU,Value.oneCell']) fun w5 hW5=>?_
  simp only[stO_none];repeat (first|refine rQ rfl ?_|refine rY zaA ?_|refine rW ?_)
  refine zaH fun todo=>?_
  refine ret _ _ S1 w5 (.agg (zaU l.id l.size l.turn p g)) ?_ ⟨(hK4.ext hEw).wr (.inr (by omega)) hW5,rfl⟩;have hl':=run_loadVar_row (P:=Tryz.prog) w5 rx 123 123 (zaU l.id l.size l.turn p g) (0,0) _ hW5.at_ Tryz.underlying123 rfl (by kernel_rfl);simp[results,Tryz.results55,asAddr,hl',g4]
end
end Go.Proofs.YtpiefebngnlfoaaGreatDoor
namespace Go.Vw
open Go.Conc
section
variable {P:Program}{Stop:Goroutine→(Nat→Prop)→World→Prop}{S:Nat→Prop}{v:World}{fn:FuncId}{cs:List Frame}{k:List Item}{n:Nat}{ops:Array Oper}
def yiF(ops:Array Oper)(z:Nat):Bool:=(List.range ops.size).all fun j=>decide (j=z)||(zbP ops z).contains j
theorem yfC{z:Nat}(h:yiF ops z=true){j:Nat}(hj:j<ops.size)(hne:j≠z):j∈zbP ops z:=by
 have:=List.all_eq_true.1 h j (List.mem_range.2 hj);simp only[Bool.or_eq_true,decide_eq_true_eq,List.contains_iff_mem]at this;rcases this with h1|h1
 ·exact absurd h1 hne
 ·exact h1
theorem zsD(hm:P.follows .mixedOrders=true)(ht:topB ops=true)(ha:zpM ops=true){id:Nat}{f0:Nat→Value}(m z:Nat)(hzm:z≠m)(hzd:yiF ops z=true)(A:List Nat)(hzA:z ∉ A)(Fin:(Nat→Value)→(Nat→Prop)→World→Prop)(hA:ancB ops m A=true)
  (spec:Nat→Value→World→Prop) (B0:(Nat→Prop)→World→Prop) (B1:(Nat→Prop)→(Nat→Value)→World→Prop) (hB0:∀ S w w',B0 S w→Ext w w'→B0 S w') (hB1:∀ S i f x w w',i<ops.size→i ∉ A→i≠m→i≠z→B1 S f w→Ext w w'→B1 S (stO f (dstO ops i) x) w') (hst:∀ j x w w',spec j x w→Ext w w'→spec j x w') (hnone:∀ j,j<ops.size→dstO ops j=none→∀ x w,spec j x w→spec j undef w) (h0:B0 S v)
  (step:∀ i f S w rest,i<ops.size→i≠m→i≠z→(i∈A→B0 S w)→(B0 S w∨B1 S f w)→(∀ s,(∀ j,j<ops.size→dstO ops j=some s→j=i∨i∈zbP ops j)→f s=f0 s)→(∀ a,a∈zbP ops i→spec a (valO ops f a) w)→(∀ x w',Ext w w'→spec i x w'→Reach P Stop (G ((base fn).at ⟨TA n (stO f (dstO ops i) x),[]⟩ (.inRegion ops rest :: k)) cs) S w')→Reach P Stop (G ((base fn).at ⟨TA n f,[]⟩ (.inRegion ops (i :: rest) :: k)) cs) S w)
  (piv:∀ f S w rest,B0 S w→(∀ s,(∀ j,j<ops.size→dstO ops j=some s→j=m∨m∈zbP ops j)→f s=f0 s)→(∀ a,a∈A→spec a (valO ops f a) w)→(∀ x S' w',B1 S' (stO f (dstO ops m) x) w'→spec m x w'→(∀ j y,j≠m→spec j y w→spec j y w')→Reach P Stop (G ((base fn).at ⟨TA n (stO f (dstO ops m) x),[]⟩ (.inRegion ops rest :: k)) cs) S' w')→Reach P Stop (G ((base fn).at ⟨TA n f,[]⟩ (.inRegion ops (m :: rest) :: k)) cs) S w)
  (last:∀ f S w rest,B1 S f w→(∀ s,(∀ j,j<ops.size→dstO ops j≠some s)→f s=f0 s)→(∀ j,j<ops.size→j≠z→spec j (valO ops f j) w)→(∀ x S' w',Fin (stO f (dstO ops z) x) S' w'→Reach P Stop (G ((base fn).at ⟨TA n (stO f (dstO ops z) x),[]⟩ (.inRegion ops rest :: k)) cs) S' w')→Reach P Stop (G ((base fn).at ⟨TA n f,[]⟩ (.inRegion ops (z :: rest) :: k)) cs) S w)
  (fin:∀ f S w,Fin f S w→Reach P Stop (G ((base fn).at ⟨TA n f,[]⟩ (.inRegion ops [] :: k)) cs) S w) (hmlt:m<ops.size:=by decide) (hzlt:z<ops.size:=by decide) :
  Reach P Stop (G ((base fn).at ⟨TA n f0,[]⟩ (.code (.region id ops true) :: k)) cs) S v:=by
 refine zgT hm ht (fun l f S w=>(l.getD z false=false→(∀ s,(∀ j,j<ops.size→l.getD j false=true→dstO ops j≠some s)→f s=f0 s)∧(∀ j,j<ops.size→l.getD j false=true→spec j (valO ops f j) w)∧(∀ i,l.getD i false=true→∀ a∈zbP ops i,l.getD a false=true)∧(l.getD m false=false→B0 S w)∧(l.getD m false=true→B1 S f w∧∀ a∈A,l.getD a false=true))∧(l.getD z false=true→Fin f S w∧∀ j,j<ops.size→j≠z→l.getD j false=true)) ⟨fun _=>⟨fun _ _=>rfl,fun j hj h=>?_,fun i h=>?_,fun _=>h0,fun h=>?_⟩,fun h=>?_⟩ ?_ ?_
 ·simp[Array.getD_eq_getD_getElem?,hj]at h
 ·exfalso;by_cases hi:i<ops.size
  ·simp[Array.getD_eq_getD_getElem?,hi]at h
  ·simp[Array.getD_eq_getD_getElem?,hi]at h
 ·simp[Array.getD_eq_getD_getElem?,hmlt]at h
 ·exfalso;simp[Array.getD_eq_getD_getElem?,hzlt]at h
 ·rintro l f S w i rest hl ⟨hJ,hZ⟩ hi nxt;obtain⟨h1,o,ho,_⟩:=mem_ready.1 hi;have hlt:i<ops.size:=(Array.getElem?_eq_some_iff.1 ho).1;have hdeps:=zdS hi;have hun:l.getD i false=false:=by
   have:l.getD i true=false:=by simpa using h1
   simpa [Array.getD_eq_getD_getElem?,hl,hlt] using this
  have hzf:l.getD z false=false:=by
   cases hz:l.getD z false with
   |false=>rfl
   |true=>
    exfalso;by_cases e:i=z
    ·rw[e,hz]at hun;cases hun
    ·rw[(hZ hz).2 i hlt e]at hun;cases hun
  obtain⟨hf,hd,hc,hb0,hb1⟩:=hJ hzf;have hdlt:∀ a,l.getD a false=true→a<ops.size:=fun a h2=>by
   refine Nat.lt_of_not_le fun h3=>?_
   rw[←hl]at h3;simp[Array.getD_eq_getD_getElem?,Array.getElem?_eq_none h3]at h2
  have hset:∀ j,l.getD j false=true→(l.setIfInBounds i true).getD j false=true:=fun j hj=>by
   by_cases e:i=j
   ·subst e;have hil:i<l.size:=by omega
    simp[Array.getD_eq_getD_getElem?,Array.getElem?_setIfInBounds,hil]
   ·simpa [Array.getD_eq_getD_getElem?,Array.getElem?_setIfInBounds,e] using hj
  have hseti:(l.setIfInBounds i true).getD i false=true:=by
   have hil:i<l.size:=by omega
   simp[Array.getD_eq_getD_getElem?,Array.getElem?_setIfInBounds,hil]
  have hf':∀ x s,(∀ j,j<ops.size→(l.setIfInBounds i true).getD j false=true→dstO ops j≠some s)→stO f (dstO ops i) x s=f0 s:=fun x s hs'=>by
   rw[←hf s fun j hj h2=>hs' j hj (hset j h2)]
   have:=hs' i hlt hseti;cases hdo:dstO ops i with
   |none=>rfl
   |some t=>
    rw[hdo]at this;have:s≠t:=fun e=>this (by rw[e])
    simp[stO,st,this]
  have hfi:∀ s,(∀ j,j<ops.size→dstO ops j=some s→j=i∨i∈zbP ops j)→f s=f0 s:=fun s hs'=>hf s fun j hj h2 h3=>by
   rcases hs' j hj h3 with rfl|h4
   ·rw[hun]at h2;cases h2
   ·have:=hc j h2 i h4;rw[hun]at this;cases this
  have hval:∀ x w',spec i x w'→(∀ j,j<ops.size→j≠i→l.getD j false=true→spec j (valO ops f j) w')→∀ j,j<ops.size→(l.setIfInBounds i true).getD j false=true→spec j (valO ops (stO f (dstO ops i) x) j) w':=fun x w' hs hothers j hj hj'=>by
   by_cases e:j=i
   ·subst e;have:valO ops (stO f (dstO ops j) x) j=if (dstO ops j).isSome then x else undef:=by
     unfold valO;cases hdo:dstO ops j<;>simp[stO,st]
    rw[this];cases hdo:dstO ops j with
    |some t=>simpa using hs
    |none=>
     simp only[Option.isSome_none,Bool.false_eq_true,if_false];exact hnone j hj hdo x w' hs
   ·have h2:=(zcV hj').resolve_left e;have:valO ops (stO f (dstO ops i) x) j=valO ops f j:=by
     unfold valO;cases hdj:dstO ops j with
     |none=>rfl
     |some t=>
      cases hdi:dstO ops i with
      |none=>rfl
      |some t'=>
       have hne:t≠t':=fun e'=>zfC ha hj hlt e hdj (by rw[hdi,e'])
       simp[stO,st,hne]
    rw[this];exact hothers j hj e h2
  have hc':∀ i',(l.setIfInBounds i true).getD i' false=true→∀ a∈zbP ops i',(l.setIfInBounds i true).getD a false=true:=fun i' h2 a h3=>by
   rcases zcV h2 with rfl|h2
   ·exact hset a (hdeps a h3)
   ·exact hset a (hc i' h2 a h3)
  by_cases ez:i=z
  ·subst ez;have hall:∀ j,j<ops.size→j≠i→l.getD j false=true:=fun j hj hne=>hdeps j (yfC hzd hj hne)
   refine last f S w rest (hb1 (hall m hmlt (fun e=>hzm e.symm))).1 (fun s hs'=>hf s fun j hj _=>hs' j hj) (fun j hj hne=>hd j hj (hall j hj hne)) fun x S' w' hF=>nxt _ _ _ ⟨fun h2=>?_,fun _=>⟨hF,fun j hj hne=>hset j (hall j hj hne)⟩⟩
   rw[hseti]at h2;cases h2
  have hzn:(l.setIfInBounds i true).getD z false=true→False:=fun h2=>by
   rcases zcV h2 with h3|h3
   ·exact ez h3.symm
   ·rw[hzf]at h3;cases h3
  by_cases e:i=m
  ·subst e;have hAd:∀ a∈A,l.getD a false=true:=fun a h2=>zfM hA hc hdeps _ a (Nat.le_refl _) h2
   refine piv f S w rest (hb0 hun) hfi (fun a h2=>hd a (hdlt a (hAd a h2)) (hAd a h2)) fun x S' w' hB hs hothers=>nxt _ _ _ ⟨fun _=>⟨hf' x,hval x w' hs fun j hj hne h2=>hothers j _ hne (hd j hj h2),hc',fun h2=>?_,fun _=>⟨hB,fun a h2=>hset a (hAd a h2)⟩⟩,fun h2=>(hzn h2).elim⟩
   rw[hseti]at h2;cases h2
  ·have hAi:i∈A→B0 S w:=fun h2=>hb0 (by
    cases hb:l.getD m false with
    |false=>rfl
    |true=>
     have:=(hb1 hb).2 i h2;rw[hun]at this
     cases this)
   have hBB:B0 S w∨B1 S f w:=by
    cases hb:l.getD m false with
    |false=>exact .inl (hb0 hb)
    |true=>exact .inr (hb1 hb).1
   refine step i f S w rest hlt e ez hAi hBB hfi (fun a h2=>hd a (hdlt a (hdeps a h2)) (hdeps a h2)) fun x w' hE hs=>nxt _ _ _ ⟨fun _=>⟨hf' x,hval x w' hs fun j hj hne h2=>hst _ _ _ _ (hd j hj h2) hE,hc',fun h2=>?_,fun h2=>?_⟩,fun h2=>(hzn h2).elim⟩
   ·refine hB0 _ _ _ (hb0 ?_) hE;cases hb:l.getD m false with
    |false=>rfl
    |true=>rw[hset m hb]at h2;cases h2
   ·have h3:=(zcV h2).resolve_left fun e'=>e e'.symm
    refine⟨hB1 S i f x _ _ hlt (fun h4=>?_) e ez (hb1 h3).1 hE,fun a h4=>hset a ((hb1 h3).2 a h4)⟩
    have:=(hb1 h3).2 i h4;rw[hun]at this;cases this
 ·rintro l f S w ⟨hJ,hZ⟩ hall;exact fin f S w (hZ (hall z hzlt)).1
end
end Go.Vw
