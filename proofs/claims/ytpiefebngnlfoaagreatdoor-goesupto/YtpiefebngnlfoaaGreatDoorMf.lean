import Derived.Test.YtpiefebngnlfoaaGreatDoorMe
set_option maxRecDepth 100000
set_option maxHeartbeats 16000000
set_option linter.unusedVariables false
set_option linter.unusedSimpArgs false
namespace Go.Proofs.YtpiefebngnlfoaaGreatDoor
open Go.RowKit Go.Conc Go.Vw
def ziZ(g:Nat→Bool):Array Value:=#[.bool (g 0),.bool (g 1),.bool (g 2),.bool (g 3),.bool (g 4),.bool (g 5),.bool (g 6),.bool (g 7),.bool (g 8),.bool (g 9),.bool (g 10),.bool (g 11),.bool (g 12),.bool (g 13)]
theorem ydO{g:Nat→Bool}{j:Nat}(h:j<14):(ziZ g)[j]?=some (.bool (g j)):=by
 rcases(by omega:j=0∨j=1∨j=2∨j=3∨j=4∨j=5∨j=6∨j=7∨j=8∨j=9∨j=10∨j=11∨j=12∨j=13) with rfl|rfl|rfl|rfl|rfl|rfl|rfl|rfl|rfl|rfl|rfl|rfl|rfl|rfl<;>rfl
theorem z92b:Tryz.zeroCells137=zaE 96 fun _=>0:=z92.trans (ziP 96)
def blk1(s:Dsk)(p:Nat)(good:Nat→Bool)(last:Bool):Nat→Dsk
 |0=>s
 |k+1=>if good k=last∧eqF ((blk1 s p good last k).c k p) (fun _=>0) 0 96=false then(blk1 s p good last k).wr k p fun _=>0 else blk1 s p good last k
def zgK(s:Dsk)(p:Nat)(good:Nat→Bool):Dsk:=blk1 (blk1 s p good false 14) p good true 14
theorem zxR{s:Dsk}{p:Nat}{good:Nat→Bool}{last:Bool}(n:Nat){d q:Nat}(h:q≠p):(blk1 s p good last n).c d q=s.c d q:=by
 induction n with
 |zero=>rfl
 |succ n ih=>
  unfold blk1;split
  ·rw[←ih];show updC (blk1 s p good last n).c n p (fun _=>0) d q=_;funext i;unfold updC;rw[if_neg (fun e=>h e.2)]
  ·exact ih
theorem zdV{s:Dsk}{p:Nat}{good:Nat→Bool}{d q:Nat}(h:q≠p):(zgK s p good).c d q=s.c d q:=(zxR 14 h).trans (zxR 14 h)
section
variable {X D DB DA M:Nat}{RB RA:Nat→Nat}{nd nb turn:Nat}{s:Dsk}{L:List Ent}{w w' v:World}{S:Nat→Prop}
theorem zrB(good:Nat→Bool)(p:Nat)(hp:p<nb)(hn1:14≤nd)(hnd:nd≤18)(hnb:nb≤64)(hx:v.heap[X]?=some (.cells #[.pointer (some ⟨D,0,none⟩),.map (some M),.int .u64 (turn:Nat)] 80))(hD:DiskG D DB DA RB RA nd nb s v) :
  zaP Tryz.prog 57 #[.pointer (some ⟨X,0,none⟩),.int .i64 (p:Nat),.agg (ziZ good)] S v fun x S' v'=>x=.tuple #[]∧S'=S∧Kp v (DOwn D RB RA nd) v'∧DiskG D DB DA RB RA nd nb (zgK s p good) v':=by
 obtain⟨ib,zb,ib1,ib2,ib3,ib4,ib5⟩:=yhC;refine zaF Tryz.func57 rfl Tryz.ntmps57 (by simp) fun Stop cc cs ret=>?_
 have g0:argF #[.pointer (some ⟨X,0,none⟩),.int .i64 (p:Nat),.agg (ziZ good)] 0=.pointer (some ⟨X,0,none⟩):=rfl;have g1:argF #[.pointer (some ⟨X,0,none⟩),.int .i64 (p:Nat),.agg (ziZ good)] 1=.int .i64 (p:Nat):=rfl;have g2:argF #[.pointer (some ⟨X,0,none⟩),.int .i64 (p:Nat),.agg (ziZ good)] 2=.agg (ziZ good):=rfl;generalize argF #[.pointer (some ⟨X,0,none⟩),.int .i64 (p:Nat),.agg (ziZ good)]=f at g0 g1 g2;repeat (first|refine rQ rfl ?_|refine rY zaA ?_|refine rW ?_)
 refine zaJ (Q:=fun y w=>y=.pointer (some ⟨v.heap.size,0,none⟩)∧Ext v w∧w.heap[v.heap.size]?=some (.cells (ziZ good) 121)) zaA rfl rfl (by kernel_rfl) (fun u hu=>⟨_,_,.inl (zdI (x:=.tmp 2) (y:=.agg (ziZ good)) rfl (by simp[g2]) u),by rw[hu.heap],(Ext.twin hu).trans _ _ _ (Ext.alloc _ _),by rw[←hu.heap];exact zaX _ _⟩) ?_
 rintro _ w1 ⟨rfl,hE1,hb1⟩;simp only[stO_some];repeat (first|refine rQ rfl ?_|refine rY zaA ?_|refine rW ?_)
 refine zaJ (Q:=fun y w=>y=.slice (some ⟨w1.heap.size,0,none⟩) 2 2∧Ext w1 w∧w.heap[w1.heap.size]?=some (.cells #[.bool false,.bool true] 4)) zaA rfl rfl (by kernel_rfl) (fun u hu=>⟨_,_,.inl (zoO (x0:=.const (.bool false)) (x1:=.const (.bool true)) (y0:=.bool false) (y1:=.bool true) rfl Tryz.underlying103 ib1 ib2 ib3 ib5 rfl rfl rfl rfl u),by rw[hu.heap],(Ext.twin hu).trans _ _ _ (Ext.alloc _ _),by rw[←hu.heap];exact zaX _ _⟩) ?_
 rintro _ w2 ⟨rfl,hE2,hb2⟩;simp only[stO_some];repeat (first|refine rQ rfl ?_|refine rY zaA ?_|refine rW ?_)
 have hE12:=hE1.trans _ _ _ hE2;have hD2:=hD.ext hE12;have hno:∀ {b:Nat} {x:Array Value} {t:TypeId} {fr:Nat×Nat},w2.heap[b]?=some (.cells x t fr)→t≠115→t≠137→¬DOwn D RB RA nd b:=fun hb h2 h3=>by
  rintro(h|⟨d,hd,h|h⟩)
  ·exact zaM hb hD2.row h2 h
  ·exact zaM hb (hD2.rb d hd) h3 h
  ·exact zaM hb (hD2.ra d hd) h3 h
 have hb1':=hE2.row hb1;refine zaI (fun d f' S' w=>∃ i,d=2 - i∧i≤2∧S'=S∧Kp w2 (DOwn D RB RA nd) w∧DiskG D DB DA RB RA nd nb (if i=0 then s else if i=1 then blk1 s p good false 14 else zgK s p good) w∧f' 0=.pointer (some ⟨X,0,none⟩)∧f' 1=.int .i64 (p:Nat)∧f' 5=.pointer (some ⟨v.heap.size,0,none⟩)∧f' 9=.slice (some ⟨w1.heap.size,0,none⟩) 2 2∧f' 10=.int .i64 2∧f' 11=.int .i64 (i:Nat)) 2 ⟨0,by omega,by omega,rfl,.refl _ _,hD2,by simp[g0],by simp[g1],by simp,by simp,by simp,by simp⟩ ?_
 clear g0 g1 g2 f;rintro d f S' w ⟨i,rfl,hi,eS,hKw,hDw,g0,g1,g5,g9,g10,g11⟩ nxt;subst S';repeat (first|refine rQ rfl ?_|refine rY zaA ?_|refine rW ?_)
 by_cases hlt:i<2
 ·have hiI:(i:Int)<2:=by omega
  have hci:w.cell? ⟨w1.heap.size,i,none⟩=some (.bool (decide (i=1))):=by
   rw[cell_of_row _ _ _ _ _ _ (hKw.cells _ _ _ _ (hno hb2 (by decide) (by decide)) hb2)];match i,hlt with
   |0,_=>rfl
   |1,_=>rfl
  (refine zaB (t:=true) (by simp[Act.eval,g11,hiI]) ?_;simp only[if_true,if_false,reduceIte,Bool.false_eq_true]);repeat (first|refine rQ rfl ?_|(refine rO zaA rfl ?_;intro _ hu_ K_ hK_;(have hc:=(Ext.twin hu_).cell hci);go_simp;(try rw[wI _]);(try rw[wU _]);refine hK_ _ ?_;clear hK_ K_ hu_;simp only[sS,sN])|refine rW ?_)
  obtain⟨s1,last,hs1,hnx⟩:∃ s1 last,DiskG D DB DA RB RA nd nb s1 w∧decide (i=1)=last∧(if i+1=0 then s else if i+1=1 then blk1 s p good false 14 else zgK s p good)=blk1 s1 p good last 14:=by
   match i,hlt with
   |0,_=>exact⟨s,false,hDw,rfl,rfl⟩
   |1,_=>exact⟨blk1 s p good false 14,true,hDw,rfl,rfl⟩
  obtain⟨hl1,hnx⟩:=hnx;rw[hl1]at hci ⊢;clear hl1 hDw;refine zaI (fun d f' S' w'=>∃ k,d=14 - k∧k≤14∧S'=S∧Kp w2 (DOwn D RB RA nd) w'∧DiskG D DB DA RB RA nd nb (blk1 s1 p good last k) w'∧f' 0=.pointer (some ⟨X,0,none⟩)∧f' 1=.int .i64 (p:Nat)∧f' 5=.pointer (some ⟨v.heap.size,0,none⟩)∧f' 9=.slice (some ⟨w1.heap.size,0,none⟩) 2 2∧f' 10=.int .i64 2∧f' 11=.int .i64 (i:Nat)∧f' 7=.bool last∧f' 15=.int .i64 (k:Nat)) 14 ⟨0,by omega,by omega,rfl,hKw,hs1,by simp[g0],by simp[g1],by simp[g5],by simp[g9],by simp[g10],by simp[g11],by simp,by simp⟩ ?_;clear g0 g1 g5 g9 g10 g11 f;rintro d f S' w' ⟨k,rfl,hk,eS,hKw',hDw',g0,g1,g5,g9,g10,g11,g7,g15⟩ nxt2;subst S';repeat (first|refine rQ rfl ?_|refine rY zaA ?_|refine rW ?_)
  by_cases hlk:k<14
  ·have hkI:(k:Int)<14:=by omega
   have hck:w'.cell? ⟨v.heap.size,k,none⟩=some (.bool (good k)):=by
    rw[cell_of_row _ _ _ _ _ _ (hKw'.cells _ _ _ _ (hno hb1' (by decide) (by decide)) hb1')];exact ydO hlk
   have hxw:=hKw'.cells _ _ _ _ (hno (hE12.row hx) (by decide) (by decide)) (hE12.row hx);have c0:w'.cell? ⟨X,0,none⟩=some (.pointer (some ⟨D,0,none⟩)):=(cell_of_row _ _ _ _ _ _ hxw).trans rfl;(refine zaB (t:=true) (by simp[Act.eval,g15,hkI]) ?_;simp only[if_true,if_false,reduceIte,Bool.false_eq_true]);obtain⟨gk,hgk⟩:∃ gk,good k=gk:=⟨_,rfl⟩;have HG:=hide hgk;rw[hgk]at hck;clear hgk;rcases gk with _|_<;>rcases last with _|_
   ·skip;repeat (first|refine rQ rfl ?_|(refine rO zaA rfl ?_;intro _ hu_ K_ hK_;(have hc:=(Ext.twin hu_).cell hck;have hc':=(Ext.twin hu_).cell c0);go_simp;(try rw[wI _]);(try rw[wU _]);refine hK_ _ ?_;clear hK_ K_ hu_;simp only[sS,sN])|refine rW ?_)
    rw[z92b];(refine zaC rfl (by first|rfl|simp[Region.wanted,yielded,zaG, *]) rfl Tryz.func72 (by kernel_rfl) rfl (by simp[Act.eval, *];try rfl) (zqU k p (fun _=>0) (by omega) hp hnd hnb hDw'.old) ?_)
    rintro _ S1 w3 _ ⟨rfl,e1,hE3⟩;subst S1;simp only[stO_some];cases hq:eqF ((blk1 s1 p good false k).c k p) (fun _=>0) 0 96 with
    |true=>
     repeat (first|refine rQ rfl ?_|refine rY zaA ?_|refine rW ?_)
     (refine zaB (t:=false) (by simp[Act.eval]) ?_;simp only[if_true,if_false,reduceIte,Bool.false_eq_true]);repeat (first|refine rQ rfl ?_|refine rY zaA ?_|refine rW ?_)
     refine nxt2 _ _ _ (14 - (k+1)) (by omega) ⟨k+1,rfl,by omega,rfl,hKw'.ext hE3,?_,by simp[g0],by simp[g1],by simp[g5],by simp[g9],by simp[g10],by simp[g11],by simp[g7],by simp⟩;unfold blk1;rw[if_neg (fun h=>by rw[hq]at h;cases h.2)]
     exact hDw'.ext hE3
    |false=>
     have c3:=hE3.cell c0;repeat (first|refine rQ rfl ?_|refine rY zaA ?_|refine rW ?_)
     (refine zaB (t:=true) (by simp[Act.eval]) ?_;simp only[if_true,if_false,reduceIte,Bool.false_eq_true]);repeat (first|refine rQ rfl ?_|(refine rO zaA rfl ?_;intro _ hu_ K_ hK_;(have hc':=(Ext.twin hu_).cell c3);go_simp;(try rw[wI _]);(try rw[wU _]);refine hK_ _ ?_;clear hK_ K_ hu_;simp only[sS,sN])|refine rW ?_)
     rw[z92b];(refine zaC rfl (by first|rfl|simp[Region.wanted,yielded,zaG, *]) rfl Tryz.func74 (by kernel_rfl) rfl (by simp[Act.eval, *];try rfl) (zpU k p (fun _=>0) (by omega) hp hnd hnb (fun _=>by omega) (hDw'.ext hE3)) ?_)
     rintro _ S1 w4 _ ⟨rfl,e1,hK4,hD4⟩;subst S1;simp only[stO_some];repeat (first|refine rQ rfl ?_|refine rY zaA ?_|refine rW ?_)
     refine nxt2 _ _ _ (14 - (k+1)) (by omega) ⟨k+1,rfl,by omega,rfl,(hKw'.ext hE3).trans hK4,?_,by simp[g0],by simp[g1],by simp[g5],by simp[g9],by simp[g10],by simp[g11],by simp[g7],by simp⟩;unfold blk1;rw[if_pos ⟨HG.out,hq⟩];exact hD4
   ·skip;repeat (first|refine rQ rfl ?_|(refine rO zaA rfl ?_;intro _ hu_ K_ hK_;(have hc:=(Ext.twin hu_).cell hck);go_simp;(try rw[wI _]);(try rw[wU _]);refine hK_ _ ?_;clear hK_ K_ hu_;simp only[sS,sN])|refine rW ?_)
    (refine zaB (t:=false) (by simp[Act.eval]) ?_;simp only[if_true,if_false,reduceIte,Bool.false_eq_true]);repeat (first|refine rQ rfl ?_|refine rY zaA ?_|refine rW ?_)
    refine nxt2 _ _ _ (14 - (k+1)) (by omega) ⟨k+1,rfl,by omega,rfl,hKw',?_,by simp[g0],by simp[g1],by simp[g5],by simp[g9],by simp[g10],by simp[g11],by simp[g7],by simp⟩;unfold blk1;rw[if_neg (fun h=>by rw[HG.out]at h;cases h.1)]
    exact hDw'
   ·skip;repeat (first|refine rQ rfl ?_|(refine rO zaA rfl ?_;intro _ hu_ K_ hK_;(have hc:=(Ext.twin hu_).cell hck);go_simp;(try rw[wI _]);(try rw[wU _]);refine hK_ _ ?_;clear hK_ K_ hu_;simp only[sS,sN])|refine rW ?_)
    (refine zaB (t:=false) (by simp[Act.eval]) ?_;simp only[if_true,if_false,reduceIte,Bool.false_eq_true]);repeat (first|refine rQ rfl ?_|refine rY zaA ?_|refine rW ?_)
    refine nxt2 _ _ _ (14 - (k+1)) (by omega) ⟨k+1,rfl,by omega,rfl,hKw',?_,by simp[g0],by simp[g1],by simp[g5],by simp[g9],by simp[g10],by simp[g11],by simp[g7],by simp⟩;unfold blk1;rw[if_neg (fun h=>by rw[HG.out]at h;cases h.1)]
    exact hDw'
   ·skip;repeat (first|refine rQ rfl ?_|(refine rO zaA rfl ?_;intro _ hu_ K_ hK_;(have hc:=(Ext.twin hu_).cell hck;have hc':=(Ext.twin hu_).cell c0);go_simp;(try rw[wI _]);(try rw[wU _]);refine hK_ _ ?_;clear hK_ K_ hu_;simp only[sS,sN])|refine rW ?_)
    rw[z92b];(refine zaC rfl (by first|rfl|simp[Region.wanted,yielded,zaG, *]) rfl Tryz.func72 (by kernel_rfl) rfl (by simp[Act.eval, *];try rfl) (zqU k p (fun _=>0) (by omega) hp hnd hnb hDw'.old) ?_)
    rintro _ S1 w3 _ ⟨rfl,e1,hE3⟩;subst S1;simp only[stO_some];cases hq:eqF ((blk1 s1 p good true k).c k p) (fun _=>0) 0 96 with
    |true=>
     repeat (first|refine rQ rfl ?_|refine rY zaA ?_|refine rW ?_)
     (refine zaB (t:=false) (by simp[Act.eval]) ?_;simp only[if_true,if_false,reduceIte,Bool.false_eq_true]);repeat (first|refine rQ rfl ?_|refine rY zaA ?_|refine rW ?_)
     refine nxt2 _ _ _ (14 - (k+1)) (by omega) ⟨k+1,rfl,by omega,rfl,hKw'.ext hE3,?_,by simp[g0],by simp[g1],by simp[g5],by simp[g9],by simp[g10],by simp[g11],by simp[g7],by simp⟩;unfold blk1;rw[if_neg (fun h=>by rw[hq]at h;cases h.2)]
     exact hDw'.ext hE3
    |false=>
     have c3:=hE3.cell c0;repeat (first|refine rQ rfl ?_|refine rY zaA ?_|refine rW ?_)
     (refine zaB (t:=true) (by simp[Act.eval]) ?_;simp only[if_true,if_false,reduceIte,Bool.false_eq_true]);repeat (first|refine rQ rfl ?_|(refine rO zaA rfl ?_;intro _ hu_ K_ hK_;(have hc':=(Ext.twin hu_).cell c3);go_simp;(try rw[wI _]);(try rw[wU _]);refine hK_ _ ?_;clear hK_ K_ hu_;simp only[sS,sN])|refine rW ?_)
     rw[z92b];(refine zaC rfl (by first|rfl|simp[Region.wanted,yielded,zaG, *]) rfl Tryz.func74 (by kernel_rfl) rfl (by simp[Act.eval, *];try rfl) (zpU k p (fun _=>0) (by omega) hp hnd hnb (fun _=>by omega) (hDw'.ext hE3)) ?_)
     rintro _ S1 w4 _ ⟨rfl,e1,hK4,hD4⟩;subst S1;simp only[stO_some];repeat (first|refine rQ rfl ?_|refine rY zaA ?_|refine rW ?_)
     refine nxt2 _ _ _ (14 - (k+1)) (by omega) ⟨k+1,rfl,by omega,rfl,(hKw'.ext hE3).trans hK4,?_,by simp[g0],by simp[g1],by simp[g5],by simp[g9],by simp[g10],by simp[g11],by simp[g7],by simp⟩;unfold blk1;rw[if_pos ⟨HG.out,hq⟩];exact hD4
  ·obtain rfl:k=14:=by omega
   (refine zaB (t:=false) (by simp[Act.eval,g15]) ?_;simp only[if_true,if_false,reduceIte,Bool.false_eq_true]);refine zaK rfl ?_;repeat (first|refine rQ rfl ?_|refine rY zaA ?_|refine rW ?_)
   refine nxt _ _ _ (2 - (i+1)) (by omega) ⟨i+1,rfl,by omega,rfl,hKw',by rw[hnx];exact hDw',by simp[g0],by simp[g1],by simp[g5],by simp[g9],by simp[g10],by simp⟩
 ·obtain rfl:i=2:=by omega
  (refine zaB (t:=false) (by simp[Act.eval,g11]) ?_;simp only[if_true,if_false,reduceIte,Bool.false_eq_true]);refine zaK rfl ?_;repeat (first|refine rQ rfl ?_|refine rY zaA ?_|refine rW ?_)
  refine zcQ ?_;refine ret _ _ S w (.tuple #[]) ?_ ⟨rfl,rfl,((Kp.refl v _).ext hE12).trans hKw,hDw⟩;simp[results,Tryz.results57]
theorem zxE(id:Nat)(h1:1≤id)(h2:id≤9999):zaP Tryz.prog 59 #[.int .i64 (id:Nat)] S v fun x S' v'=>x=.bool true∧S'=S∧v'=v:=by
 refine zaF Tryz.func59 rfl Tryz.ntmps59 (by simp) fun Stop cc cs ret=>?_
 have g0:argF #[.int .i64 (id:Nat)] 0=.int .i64 (id:Nat):=rfl;generalize argF #[.int .i64 (id:Nat)]=f at g0;have i1:(1:Int)≤(id:Int):=by omega
 have i2:(id:Int)≤9999:=by omega
 repeat (first|refine rQ rfl ?_|refine rY zaA ?_|refine rW ?_)
 refine zaH fun todo=>?_
 refine ret _ _ S v (.bool true) ?_ ⟨rfl,rfl,rfl⟩;simp[results,Tryz.results59,i1,i2]
theorem StE.slotOff(h:StE X D DB DA M RB RA nd nb turn s L w){p:Nat}{s':Dsk}(hp:∀ e∈L,e.slot≠p)(hK:Kp w (DOwn D RB RA nd) w')(hD:DiskG D DB DA RB RA nd nb s' w')(hc:∀ d q,q≠p→s'.c d q=s.c d q):StE X D DB DA M RB RA nd nb turn s' L w':=
 ⟨hK.cells _ _ _ _ h.xn h.row,let ⟨cl,q1,q2⟩:=h.map;⟨cl,hK.objs _ _ h.mn.1 q1 trivial,q2⟩,hD,fun e he=>(h.ent e he).more (Nat.le_refl _) fun d j=>by rw[hc d _ (hp e he)],h.ids,h.slots,h.borns⟩
theorem Pieces.l14'{v v1:World}{BA:Nat}{PB:Nat→Nat}{m:Nat}{p:Nat→Nat→Nat}(h:Pieces v BA PB m p v1){w:World}(hK:Ext v1 w):w.heap[BA]?=some (.cells (allA fun k=>sl (PB k) m) 43)∧∀ k,k<14→w.heap[PB k]?=some (.cells (zaE m (p k)) 5):=⟨hK.row h.ba,fun k hk=>hK.row (h.pb k hk)⟩
theorem ybX{x:Nat→Nat}(h:∀ i,x i<256)(L m k i:Nat):zeG x L m k i<256:=by
 unfold zeG;split
 ·exact h _
 ·omega
theorem znN{x:Nat→Nat}(h:∀ i,x i<256)(L k i:Nat):zbY x L k i<256:=by
 unfold zbY;split
 ·exact ybX h _ _ _ _
 ·exact Fld.comb_lt _ (yiE id k) 10 i
theorem ziF{id size turn slot:Nat}{g:Nat→Bool}{u:World}{b:Nat}(hb:u.heap[b]?=some (.cells (zaU id size turn slot g) 123)){o:Oper}{a:Act}{x:Operand}(hop:o.op=.load 121 x)(hx:a.eval x=.pointer (some ⟨b,4,none⟩)):(execOp a.eval o).run Tryz.prog u=.ok (.value (.agg (ziZ g))) u:=by
 have h:=run_loadAt_mid (P:=Tryz.prog) u b 4 121 (ziZ g).toList _ (fun j z hy=>by
  have hj:j<14:=(List.getElem?_eq_some_iff.1 hy).1;rw[cell_of_row _ _ _ _ _ _ hb]
  rcases(by omega:j=0∨j=1∨j=2∨j=3∨j=4∨j=5∨j=6∨j=7∨j=8∨j=9∨j=10∨j=11∨j=12∨j=13) with rfl|rfl|rfl|rfl|rfl|rfl|rfl|rfl|rfl|rfl|rfl|rfl|rfl|rfl<;>exact hy) Tryz.underlying121 rfl (by kernel_rfl)
 unfold execOp;simp only[hop,hx,Sem.run_bind,h,Result.andThen_ok,Sem.run_pure]
end
theorem ybY{S:Nat→Prop}{v:World}(ad:Addr)(m k:Nat)(val:Nat→Nat)(hk:k<10)(hm:m≤400) :
  zaP Tryz.prog 76 #[.slice (some ad) 0 0,.int .i64 (k:Nat),.int .i64 (m:Nat)] S v fun x S' v'=>x=sl v.heap.size m∧S'=S∧Rowed v m (zeG val 0 m k) v':=by
 refine zaF Tryz.func76 rfl Tryz.ntmps76 (by simp) fun Stop cc cs ret=>?_
 have h0:argF #[.slice (some ad) 0 0,.int .i64 (k:Nat),.int .i64 (m:Nat)] 0=.slice (some ad) 0 0:=rfl;have h1:argF #[.slice (some ad) 0 0,.int .i64 (k:Nat),.int .i64 (m:Nat)] 1=.int .i64 (k:Nat):=rfl;have h2:argF #[.slice (some ad) 0 0,.int .i64 (k:Nat),.int .i64 (m:Nat)] 2=.int .i64 (m:Nat):=rfl;generalize argF #[.slice (some ad) 0 0,.int .i64 (k:Nat),.int .i64 (m:Nat)]=f at h0 h1 h2;have ekm:((k*m:Nat):Int)=(k:Int)*(m:Int):=Int.natCast_mul k m;have hkm:(k:Int)*(m:Int)≤4000:=by
  have h:k*m≤10*400:=Nat.mul_le_mul (by omega) hm;omega
 have hkm0:(0:Int)≤(k:Int)*(m:Int):=by omega
 have e1:(if (0:Int)<(k:Int)*(m:Int) then(0:Int) else(k:Int)*(m:Int))=0:=by split<;>omega
 have e2:(if 0<m then(0:Int) else(m:Int))=0:=by split<;>omega
 clear ekm;repeat (first|refine rQ rfl ?_|refine rY zaA ?_|refine rW ?_)
 refine zcP zaA rfl rfl (by kernel_rfl) rfl (m:=m) (by simp[h2]) (by simp[h2]) (by omega) (by kernel_rfl) Tryz.underlying43 fun v1 hE hr hs=>?_
 simp only[stO_some];repeat (first|refine rQ rfl ?_|refine rY zaA ?_|refine rW ?_)
 refine zaH fun todo=>?_
 refine ret _ _ _ _ _ ?_ ⟨rfl,rfl,hE,?_,hs⟩
 ·simp[results,Tryz.results76,h0]
 ·rw[hr,zeJ,zbG (g:=zeG val 0 m k) fun i hi=>by simp[zeG]]
theorem ylK{S:Nat→Prop}{v:World}(m k len cap:Nat)(p:Option Addr)(val:Nat→Nat)(hk:k<10)(hm:m≤400)(hl:len≤400)(hs:zeV v p len cap val) :
  zaP Tryz.prog 76 #[.slice p len cap,.int .i64 (k:Nat),.int .i64 (m:Nat)] S v fun x S' v'=>x=sl v.heap.size m∧S'=S∧Rowed v m (zeG val len m k) v':=by
 rcases hs with hs|⟨⟨ad,rfl⟩,rfl,rfl⟩
 ·exact ygC m k len cap p val hk hm hl hs
 ·exact ybY ad m k val hk hm
theorem ymP{S:Nat→Prop}{v:World}(len cap:Nat)(p:Option Addr)(val:Nat→Nat)(hl:len≤400)(hx:∀ i,val i<256)(hs:zeV v p len cap val)(hg:Tryz.prog.globals.size≤v.heap.size) :
  zaP Tryz.prog 58 #[.slice p len cap] S v fun y S' v'=>∃ BA PB,y=.tuple #[sl BA 14,.int .i64 0]∧Pieces v BA PB ((len+9) / 10) (zbY val len) v':=by
 refine zaF Tryz.func58 rfl Tryz.ntmps58 (by simp) fun Stop cc cs ret=>?_
 have h0:argF #[.slice p len cap] 0=.slice p len cap:=rfl;generalize argF #[.slice p len cap]=f at h0;have hlI:¬((400:Int)<(len:Int)):=by omega
 repeat (first|refine rQ rfl ?_|refine rY zaA ?_|refine rW ?_)
 (refine zaB (t:=false) (by simp[Act.eval,h0,hlI]) ?_;simp only[if_true,if_false,reduceIte,Bool.false_eq_true]);repeat (first|refine rQ rfl ?_|refine rY zaA ?_|refine rW ?_)
 (refine zaC rfl (by first|rfl|simp[Region.wanted,yielded,zaG, *]) rfl Tryz.func75 (by kernel_rfl) rfl (by simp[Act.eval, *];try rfl) (ziV len hl) ?_)
 rintro _ S1 w1 hv1 ⟨rfl,e1,e2⟩;subst S1 w1;simp only[stO_some];have hm:(len+9) / 10≤400:=by omega
 generalize hmm:(len+9) / 10=m at hm ret ⊢;have HM:Hid ((len+9) / 10=m):=hmm;clear hmm;repeat (first|refine rQ rfl ?_|refine rY zaA ?_|refine rW ?_)
 refine zdO zaA rfl rfl (by kernel_rfl) rfl (m:=14) (wd:=24) (z:=.slice none 0 0) rfl rfl (by omega) (by omega) (by omega) Tryz.underlying89 (by kernel_rfl) rfl fun v1 hE1 hr1 hs1=>?_
 simp only[stO_some];repeat (first|refine rQ rfl ?_|refine rY zaA ?_|refine rW ?_)
 refine zaN zaA rfl rfl (by kernel_rfl) (.agg (tenP 0)) rfl (by rw[zjE];kernel_rfl) fun v2 hE2 hr2 hs2=>?_
 simp only[stO_some];repeat (first|refine rQ rfl ?_|refine rY zaA ?_|refine rW ?_)
 have hCI:CI v val len m 0 v2:=by
  refine⟨hE1.trans _ _ _ hE2,?_,?_,fun k hk=>by omega,by omega⟩
  ·rw[hE2.row hr1];congr 2
  ·rw[hs1]at hr2;exact hr2
 have hsz:v1.heap.size=v.heap.size+1:=hs1;rw[hsz];refine zaI (fun d f' S' v'=>∃ j,d=10 - j∧j≤10∧S'=S∧CI v val len m j v'∧f' 0=.slice p len cap∧f' 4=.int .i64 (m:Nat)∧f' 5=sl v.heap.size 14∧f' 6=ptr (v.heap.size+1)∧f' 15=.int .i64 (j:Nat)) 10 ⟨0,by omega,by omega,rfl,hCI,by simp[h0],by simp,by simp,by simp,by simp⟩ ?_;rintro d f' S' v' ⟨j,rfl,hj,eS,hI,g0,g4,g5,g6,g15⟩ next
 subst S';repeat (first|refine rQ rfl ?_|refine rY zaA ?_|refine rW ?_)
 by_cases hlt:j<10
 ·have hjI:(j:Int)<10:=by omega
  (refine zaB (t:=true) (by simp[Act.eval,g15,hjI]) ?_;simp only[if_true,if_false,reduceIte,Bool.false_eq_true]);repeat (first|refine rQ rfl ?_|refine rY zaA ?_|refine rW ?_)
  refine zaW zaA rfl rfl (by kernel_rfl) (x:=.tmp 20) (y:=.tmp 19) (g:=v.heap.size+1) (j:=j) (z:=.int .i64 (j:Nat)) rfl (by simp) (by simp) rfl rfl hI.bk (by simp[tenP];omega) (by kernel_rfl) fun v3 hW3=>?_
  simp only[stO_none];rw[yfK]at hW3;have hs3:v3.heap.size=v.heap.size+2+j:=hW3.size.trans hI.size;have hsl3:zeV v3 p len cap val:=by
   refine hs.imp (fun hs=>hs.imp id fun⟨B,off,q1,q2,q3⟩=>⟨B,off,q1,q2,fun i hi=>?_⟩) id
   have hc:=q3 i hi;have hb:=ziE hc;have:=hI.ext.cell hc;rw[←this];simp only[World.cell?,hW3.other B (by simp only at hb;omega)]
  repeat (first|refine rQ rfl ?_|refine rY zaA ?_|refine rW ?_)
  (refine zaC rfl (by first|rfl|simp[Region.wanted,yielded,zaG, *]) rfl Tryz.func76 (by kernel_rfl) rfl (by simp[Act.eval, *];try rfl) (ylK m j len cap p val hlt hm hl hsl3) ?_)
  rintro _ S1 v4 hv4 ⟨rfl,e1,hR⟩;subst S1;simp only[stO_some];have hba4:v4.heap[v.heap.size]?=some (.cells (allA (zuH v.heap.size m j)) 43):=hR.ext.row ((hW3.other _ (by omega)).trans hI.ba);have hj14:(j:Int)<14:=by omega
  repeat (first|refine rQ rfl ?_|refine rY zaA ?_|refine rW ?_)
  refine zaW zaA rfl rfl (by kernel_rfl) (x:=.tmp 27) (y:=.tmp 26) (g:=v.heap.size) (j:=j) (z:=sl v3.heap.size m) rfl (by simp) (by simp) rfl rfl hba4 (by rw[zgL];omega) (by kernel_rfl) fun v5 hW5=>?_
  simp only[stO_none];rw[zlX]at hW5;repeat (first|refine rQ rfl ?_|refine rY zaA ?_|refine rW ?_)
  have hI5:CI v val len m (j+1) v5:=by
   have hs4:=hR.size;have hs5:=hW5.size;refine⟨⟨by omega,fun b hb=>?_,?_,?_⟩,?_,?_,fun k hk=>?_,by omega⟩
   ·rw[hW5.other b (by omega),hR.ext.block b (by omega),hW3.other b (by omega)];exact hI.ext.block b hb
   ·rw[hW5.os,hR.ext.os,hW3.os];exact hI.ext.os
   ·rw[hW5.output,hR.ext.output,hW3.output];exact hI.ext.output
   ·rw[hW5.at_];congr 2;refine zeK fun c hc=>?_
    simp only[zuH];by_cases e:c=j
    ·subst e;rw[if_pos rfl,if_pos (by omega),hs3]
    ·rw[if_neg e];simp only[show(c<j+1↔c<j) by omega]
   ·rw[hW5.other _ (by omega)];exact hR.ext.row hW3.at_
   ·by_cases e:k=j
    ·subst e;rw[hW5.other _ (by omega),←hs3];exact hR.row
    ·rw[hW5.other _ (by omega)];exact hR.ext.row ((hW3.other _ (by omega)).trans (hI.rows k (by omega)))
  refine next _ _ _ (10 - (j+1)) (by omega) ⟨j+1,rfl,by omega,rfl,hI5,?_,?_,?_,?_,?_⟩
  ·simp[g0]
  ·simp[g4]
  ·simp[g5]
  ·simp[g6]
  ·simp
 ·obtain rfl:j=10:=by omega
  (refine zaB (t:=false) (by simp[Act.eval,g15]) ?_;simp only[if_true,if_false,reduceIte,Bool.false_eq_true]);refine zaK rfl ?_;repeat (first|refine rQ rfl ?_|refine rY zaA ?_|refine rW ?_)
  have hbk:v'.heap[v.heap.size+1]?=some (.cells (ten id) 149):=by rw[←yfJ];exact hI.bk
  refine zbE zaA rfl rfl (by kernel_rfl) (x:=.tmp 6) (b:=v.heap.size+1) rfl (by simp[g6]) hbk (by kernel_rfl) (by rw[zcM];kernel_rfl) ?_;simp only[stO_some];repeat (first|refine rQ rfl ?_|refine rY zaA ?_|refine rW ?_)
  have hrows:∀ k,k<10→v'.heap[v.heap.size+2+k]?=some (.cells (zaE m (zeG val len m k)) 5):=hI.rows;have hrx:∀ k i,zeG val len m k i<256:=fun k i=>by
   unfold zeG;split
   ·exact hx _
   ·omega
  have hfill:zaP Tryz.prog 77 #[sl v.heap.size 14,.agg (ten id),.int .i64 (m:Nat)] S v' fun y S' w=>y=.tuple #[]∧∃ PB,Filled v' id m (zeG val len m) (zuH v.heap.size m 10) v.heap.size 43 PB w:=by
   intro Stop' c' cs' hr;refine zpE (RB:=fun k=>v.heap.size+2+k) (fun j hj=>by simp;omega) hm hrx (fun j hj=>by simp[zuH,hj]) (fun k hk hl'=>?_) (Nat.le_trans hg hI.ext.size) hg (fun j hj=>by omega) hI.ba hrows fun S' w PB hw hf=>hr _ S' w hw ⟨rfl,PB,hf⟩
   have:=zhS.1 hl';simp[zuH,show ¬k<10 by omega]
  (refine zaC rfl (by first|rfl|simp[Region.wanted,yielded,zaG, *]) rfl Tryz.func77 (by kernel_rfl) rfl (by simp[Act.eval, *];try rfl) (hfill) ?_)
  rintro _ S5 v5 hv5 ⟨rfl,PB,hF⟩;simp only[stO_some];repeat (first|refine rQ rfl ?_|refine rY zaA ?_|refine rW ?_)
  refine zaH fun todo=>?_
  refine ret _ _ S5 v5 (.tuple #[sl v.heap.size 14,.int .i64 0]) ?_ ⟨v.heap.size,fun k=>if k<10 then v.heap.size+2+k else PB k,rfl,?_⟩
  ·simp[results,Tryz.results58,g5]
  ·have hsI:=hI.size;have hPB:∀ k,k<14→¬k<10→v'.heap.size≤PB k∧v5.heap[PB k]?=some (done id m (zeG val len m) k):=fun k hk hn=>hF.pb k hk (zhS.2 (by omega))
   refine⟨⟨Nat.le_trans hI.ext.size hF.kp.size,hF.kp.os.trans hI.ext.os,hF.kp.output.trans hI.ext.output,fun b o _ hc ht=>?_⟩,?_,fun k hk=>?_,Nat.le_refl _,fun k hk=>?_,fun k hk=>?_,fun k k' hk hk' e=>?_⟩
   ·have:=(Array.getElem?_eq_some_iff.1 hc).1;exact hF.kp.objs b o (by omega) (hI.ext.row hc) ht
   ·rw[hF.ba];congr 2;refine zeK fun c hc=>?_
    simp only[AK,zuH];by_cases e:c<10
    ·have:¬zcX id c=true:=fun h=>by have:=zhS.1 h;omega
     simp[this,e]
    ·simp[zhS.2 (show 10≤c by omega),hc,e]
   ·by_cases e:k<10
    ·rw[if_pos e,show zbY val len k=zeG val len m k from funext fun i=>by simp only[zbY,if_pos e,HM.out]]
     exact hF.kp.cells _ _ _ _ (by omega) (hI.rows k e)
    ·rw[if_neg e,show zbY val len k=zkQ id (zeG val len m) k from funext fun i=>by simp only[zbY,if_neg e,HM.out]]
     exact(hPB k hk e).2
   ·by_cases e:k<10
    ·simp only[if_pos e];omega
    ·simp only[if_neg e];have:=(hPB k hk e).1;omega
   ·by_cases e:k<10
    ·simp only[if_pos e];omega
    ·simp only[if_neg e];have:=(hPB k hk e).1;omega
   ·by_cases h1:k<10
    ·by_cases h2:k'<10
     ·simp only[if_pos h1,if_pos h2]at e;omega
     ·simp only[if_pos h1,if_neg h2]at e;have:=(hPB k' hk' h2).1;omega
    ·by_cases h2:k'<10
     ·simp only[if_neg h1,if_pos h2]at e;have:=(hPB k hk h1).1;omega
     ·simp only[if_neg h1,if_neg h2]at e;rcases Nat.lt_trichotomy k k' with h|h|h
      ·have:=hF.mono k k' h hk' (zhS.2 (by omega)) (zhS.2 (by omega));omega
      ·exact h
      ·have:=hF.mono k' k h hk (zhS.2 (by omega)) (zhS.2 (by omega));omega
section
variable {X D DB DA M:Nat}{RB RA:Nat→Nat}{nd nb turn:Nat}{s:Dsk}{L:List Ent}{w w' v:World}{S:Nat→Prop}
def zoD(L:List Ent)(nb id:Nat):Bool:=decide (nb - 2≤L.length - (if (zbF id L 0).isSome then 1 else 0))
def putS(s:Dsk)(L:List Ent)(p id size turn:Nat)(val:Nat→Nat):Dsk:=
 match zbF id L 0 with
 |some (_,old)=>zgK (layS s p (fun k=>zbM id size turn k ((size+9) / 10) (zbY val size k)) 14) old.slot old.good
 |none=>layS s p (fun k=>zbM id size turn k ((size+9) / 10) (zbY val size k)) 14
def ylB(L:List Ent)(nb p:Nat):Prop:=p<nb∧(∀ e∈L,e.slot≠p)∧∀ j,j<p→∃ e∈L,e.slot=j
theorem yiJ(id len cap:Nat)(pv:Option Addr)(val:Nat→Nat)(hid1:1≤id)(hid:id≤9999)(hl:len≤400)(hval:∀ i,val i<256)(hs:zeV v pv len cap val)(hg:Tryz.prog.globals.size≤v.heap.size)(ht:turn<9223372036854775808)(hb4:4≤nb)(hn1:14≤nd)(hnd:nd≤18)(hnb:nb≤64)(hX:StE X D DB DA M RB RA nd nb turn s L v)
  (hL:L.length≤nb - 2) :
  zaP Tryz.prog 29 #[.pointer (some ⟨X,0,none⟩),.int .i64 (id:Nat),.slice pv len cap] S v fun x S' v'=>if zoD L nb id=true then x=.int .i64 5∧Kp v (fun _=>False) v' else x=.int .i64 0∧Kp v (SOwn X D M RB RA nd) v'∧∃ p clock,ylB L nb p∧PutOk L ⟨id,len,turn+1,p,val,fun _=>true,0⟩ clock∧StE X D DB DA M RB RA nd nb (turn+1) (putS s L p id len (turn+1) val) (putL L ⟨id,len,turn+1,p,val,fun _=>true,0⟩ clock) v':=by
 refine zaF Tryz.func29 rfl Tryz.ntmps29 (by simp) fun Stop cc cs ret=>?_
 have g0:argF #[.pointer (some ⟨X,0,none⟩),.int .i64 (id:Nat),.slice pv len cap] 0=.pointer (some ⟨X,0,none⟩):=rfl;have g1:argF #[.pointer (some ⟨X,0,none⟩),.int .i64 (id:Nat),.slice pv len cap] 1=.int .i64 (id:Nat):=rfl;have g2:argF #[.pointer (some ⟨X,0,none⟩),.int .i64 (id:Nat),.slice pv len cap] 2=.slice pv len cap:=rfl;generalize argF #[.pointer (some ⟨X,0,none⟩),.int .i64 (id:Nat),.slice pv len cap]=f at g0 g1 g2;have hlen:L.length<nb:=by omega
 obtain⟨p,hp,hpf,hpl⟩:=ydQ (l:=L.map (·.slot)) (n:=nb) (by simpa using hlen);have hpf':∀ e∈L,e.slot≠p:=fun e he h=>hpf (List.mem_map.2 ⟨e,he,h⟩)
 have hpl':∀ j,j<p→∃ e∈L,e.slot=j:=fun j hj=>List.mem_map.1 (hpl j hj)
 clear hpf hpl;repeat (first|refine rQ rfl ?_|refine rY zaA ?_|refine rW ?_)
 (refine zaC rfl (by first|rfl|simp[Region.wanted,yielded,zaG, *]) rfl Tryz.func58 (by kernel_rfl) rfl (by simp[Act.eval, *];try rfl) (ymP len cap pv val hl hval hs hg) ?_)
 rintro _ S1 w1 _ ⟨BA,PB,rfl,hP⟩;simp only[stO_some];have hX1:=hX.kp hP.kp;repeat (first|refine rQ rfl ?_|refine rY zaA ?_|refine rW ?_)
 (refine zaC rfl (by first|rfl|simp[Region.wanted,yielded,zaG, *]) rfl Tryz.func59 (by kernel_rfl) rfl (by simp[Act.eval, *];try rfl) (zxE id hid1 hid) ?_)
 rintro _ S2 w2 _ ⟨rfl,e1,e2⟩;subst S2 w2;simp only[stO_some];repeat (first|refine rQ rfl ?_|refine rY zaA ?_|refine rW ?_)
 (refine zaB (t:=false) (by simp[Act.eval]) ?_;simp only[if_true,if_false,reduceIte,Bool.false_eq_true]);repeat (first|refine rQ rfl ?_|refine rY zaA ?_|refine rW ?_)
 (refine zaC rfl (by first|rfl|simp[Region.wanted,yielded,zaG, *]) rfl Tryz.func60 (by kernel_rfl) rfl (by simp[Act.eval, *];try rfl) (ykH id hid hn1 hnd hb4 hnb (by omega) hX1) ?_)
 rintro _ S2 w2 _ ⟨rfl,e1,hE2⟩;subst S2;simp only[stO_some];rw[show decide (nb - 2≤L.length - (if (zbF id L 0).isSome then 1 else 0))=zoD L nb id from rfl];cases hfull:zoD L nb id with
 |true=>
  simp only[hfull,if_true]at ret;repeat (first|refine rQ rfl ?_|refine rY zaA ?_|refine rW ?_)
  (refine zaB (t:=true) (by simp[Act.eval]) ?_;simp only[if_true,if_false,reduceIte,Bool.false_eq_true]);repeat (first|refine rQ rfl ?_|refine rY zaA ?_|refine rW ?_)
  refine zaH fun todo=>?_
  refine ret _ _ S1 w2 (.int .i64 5) ?_ ⟨rfl,hP.kp.ext hE2⟩;simp[results,Tryz.results29]
 |false=>
 simp only[hfull,Bool.false_eq_true,if_false]at ret;have hX2:=hX1.ext hE2;have c1:=hX2.c1;obtain⟨clock,hm2,hbn2⟩:=hX2.map;repeat (first|refine rQ rfl ?_|refine rY zaA ?_|refine rW ?_)
 (refine zaB (t:=false) (by simp[Act.eval]) ?_;simp only[if_true,if_false,reduceIte,Bool.false_eq_true]);repeat (first|refine rQ rfl ?_|(refine rO zaA rfl ?_;intro _ hu_ K_ hK_;(have hc:=(Ext.twin hu_).cell c1);go_simp;(try rw[wI _]);(try rw[wU _]);refine hK_ _ ?_;clear hK_ K_ hu_;simp only[sS,sN])|refine rW ?_)
 refine zdT rfl rfl rfl (x:=.tmp 30) (y:=.tmp 31) (id:=id) (by simp) (by simp[g1]) hm2 ?_;simp only[stO_some];have hKv2:Kp v (SOwn X D M RB RA nd) w2:=((hP.kp.mono fun _ h=>h.elim).ext hE2)
 have hcl:=znN hval len;cases hq:zbF id L 0 with
 |none=>
  simp only[zhI];repeat (first|refine rQ rfl ?_|refine rY zaA ?_|refine rW ?_)
  refine zaN zaA rfl rfl (by kernel_rfl) (.agg (zaU 0 0 0 0 fun _=>false)) rfl (by kernel_rfl) fun w3 hE3 hb3 hs3=>?_
  simp only[stO_some];refine zaL zaA rfl rfl (by kernel_rfl) (x:=.tmp 9) (y:=.tmp 33) (g:=w2.heap.size) (c:=zaU 0 0 0 0 fun _=>false) rfl (by simp) (by simp) hb3 (by kernel_rfl) rfl (by simp[zaU,Value.oneCell']) fun w4 hW4=>?_
  simp only[stO_none];have hE4:Ext w2 w4:=zbD hE3 (Nat.le_refl _) hW4;obtain⟨hBA,hPB⟩:=hP.l14' (hE2.trans _ _ _ hE4);repeat (first|refine rQ rfl ?_|refine rY zaA ?_|refine rW ?_)
  (refine zaC rfl (by first|rfl|simp[Region.wanted,yielded,zaG, *]) rfl Tryz.func61 (by kernel_rfl) rfl (by simp[Act.eval, *];try rfl) (ymE id len _ p BA PB val hid1 hid hl rfl hval ht hb4 hn1 hnd hnb (hX2.ext hE4) hp hpf' hpl' hBA hPB hcl) ?_)
  rintro _ S2 w5 _ ⟨rfl,e1,hK5,clk,hPO,hX5⟩;subst S2;simp only[stO_some];repeat (first|refine rQ rfl ?_|refine rY zaA ?_|refine rW ?_)
  (refine zaB (t:=false) (by simp[Act.eval]) ?_;simp only[if_true,if_false,reduceIte,Bool.false_eq_true]);repeat (first|refine rQ rfl ?_|refine rY zaA ?_|refine rW ?_)
  refine zaH fun todo=>?_
  refine ret _ _ S1 w5 (.int .i64 0) ?_ ⟨rfl,(hKv2.ext hE4).trans hK5,p,clk,⟨hp,hpf',hpl'⟩,hPO,?_⟩
  ·simp[results,Tryz.results29]
  ·unfold putS;rw[hq];exact hX5
 |some q=>
  obtain⟨n,old⟩:=q;obtain⟨n',hn,hget,hoid⟩:=zbJ hq;have hold:old∈L:=List.mem_of_getElem? hget;have hosl:=(hX.ent old hold).slot;simp only[zhI];repeat (first|refine rQ rfl ?_|refine rY zaA ?_|refine rW ?_)
  refine zaN zaA rfl rfl (by kernel_rfl) (.agg (zaU 0 0 0 0 fun _=>false)) rfl (by kernel_rfl) fun w3 hE3 hb3 hs3=>?_
  simp only[stO_some];refine zaL zaA rfl rfl (by kernel_rfl) (x:=.tmp 9) (y:=.tmp 33) (g:=w2.heap.size) (c:=zbT old) rfl (by simp) (by simp) hb3 (by kernel_rfl) rfl (zfJ _) fun w4 hW4=>?_
  simp only[stO_none];have hE4:Ext w2 w4:=zbD hE3 (Nat.le_refl _) hW4;obtain⟨hBA,hPB⟩:=hP.l14' (hE2.trans _ _ _ hE4);repeat (first|refine rQ rfl ?_|refine rY zaA ?_|refine rW ?_)
  (refine zaC rfl (by first|rfl|simp[Region.wanted,yielded,zaG, *]) rfl Tryz.func61 (by kernel_rfl) rfl (by simp[Act.eval, *];try rfl) (ymE id len _ p BA PB val hid1 hid hl rfl hval ht hb4 hn1 hnd hnb (hX2.ext hE4) hp hpf' hpl' hBA hPB hcl) ?_)
  rintro _ S2 w5 _ ⟨rfl,e1,hK5,clk,hPO,hX5⟩;subst S2;simp only[stO_some];have hX4:=hX2.ext hE4;have hno:¬SOwn X D M RB RA nd w2.heap.size:=by
   rintro(h|h|h|⟨d,hd,h|h⟩)
   ·exact zaM hW4.at_ hX4.row (by decide) h
   ·obtain⟨cl,hm4,_⟩:=hX4.map;exact zhF hm4 hW4.at_ h.symm
   ·exact zaM hW4.at_ hX4.dk.row (by decide) h
   ·exact zaM hW4.at_ (hX4.dk.rb d hd) (by decide) h
   ·exact zaM hW4.at_ (hX4.dk.ra d hd) (by decide) h
  have hold5:=hK5.cells _ _ _ _ hno hW4.at_;have cs:w5.cell? ⟨w2.heap.size,3,none⟩=some (.int .i64 (old.slot:Nat)):=(cell_of_row _ _ _ _ _ _ hold5).trans rfl;repeat (first|refine rQ rfl ?_|refine rY zaA ?_|refine rW ?_)
  (refine zaB (t:=true) (by simp[Act.eval]) ?_;simp only[if_true,if_false,reduceIte,Bool.false_eq_true]);repeat (first|refine rQ rfl ?_|(refine rO zaA rfl ?_;intro _ hu_ K_ hK_;(have hc:=(Ext.twin hu_).cell cs);go_simp;(try rw[wI _]);(try rw[wU _]);refine hK_ _ ?_;clear hK_ K_ hu_;simp only[sS,sN])|refine rW ?_)
  refine zaO zaA rfl rfl (by kernel_rfl) (fun u hu=>ziF (b:=w2.heap.size) ((Ext.twin hu).row hold5) (x:=.tmp 45) rfl (by simp)) ?_;simp only[stO_some];(refine zaC rfl (by first|rfl|simp[Region.wanted,yielded,zaG, *]) rfl Tryz.func57 (by kernel_rfl) rfl (by simp[Act.eval, *];try rfl) (zrB old.good old.slot hosl hn1 hnd hnb hX5.row hX5.dk) ?_)
  rintro _ S2 w6 _ ⟨rfl,e1,hK6,hD6⟩;subst S2;simp only[stO_some];repeat (first|refine rQ rfl ?_|refine rY zaA ?_|refine rW ?_)
  refine zaH fun todo=>?_
  refine ret _ _ S1 w6 (.int .i64 0) ?_ ⟨rfl,((hKv2.ext hE4).trans hK5).trans (hK6.mono fun b h=>.inr (.inr h)),p,clk,⟨hp,hpf',hpl'⟩,hPO,?_⟩
  ·simp[results,Tryz.results29]
  ·have hoff:∀ e∈putL L ⟨id,len,turn+1,p,val,fun _=>true,0⟩ clk,e.slot≠old.slot:=fun e he=>by
    rcases hPO.mem e he with⟨b,rfl⟩|⟨he',hne⟩
    ·exact fun h=>hpf' old hold h.symm
    ·exact fun h=>hne (by
      have:=zcK hX.slots he' hold h;rw[this]
      exact hoid)
   have hfin:=hX5.slotOff (p:=old.slot) hoff hK6 hD6 fun d q hq'=>zdV hq'
   unfold putS;rw[hq];exact hfin
end
end Go.Proofs.YtpiefebngnlfoaaGreatDoor
