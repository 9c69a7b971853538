import Derived.Test.YtpiefebngnlfoaaGreatDoorMd
set_option maxRecDepth 100000
set_option maxHeartbeats 16000000
set_option linter.unusedVariables false
set_option linter.unusedSimpArgs false
namespace Go.Proofs.YtpiefebngnlfoaaGreatDoor
open Go.RowKit Go.Conc Go.Vw
section
variable {X D DB DA M:Nat}{RB RA:Nat→Nat}{nd nb turn:Nat}{s:Dsk}{L:List Ent}{w w' v:World}{S:Nat→Prop}
theorem zqG{o:Oper}{a:Act}{x:Operand}{b id size turn slot:Nat}{good:Nat→Bool}{u:World}(hop:o.op=.load 120 x)(hx:a.eval x=.pointer (some ⟨b,0,none⟩))(hb:u.heap[b]?=some (.cells (zaU id size turn slot good) 123)):(execOp a.eval o).run Tryz.prog u=.ok (.value (.agg (zbA id size turn))) u:=by
 have h:=run_loadAt_mid (P:=Tryz.prog) u b 0 120 (zbA id size turn).toList _ (fun j z hy=>by
  have hj:j<3:=(List.getElem?_eq_some_iff.1 hy).1;rw[Nat.zero_add,cell_of_row _ _ _ _ _ _ hb];match j,hj with
  |0,_=>exact hy
  |1,_=>exact hy
  |2,_=>exact hy) Tryz.underlying120 rfl (by kernel_rfl)
 unfold execOp;simp only[hop,hx,Sem.run_bind,h,Result.andThen_ok,Sem.run_pure]
theorem zcC{o:Oper}{a:Act}{x:Operand}{b id size turn slot:Nat}{good:Nat→Bool}{u:World}(hop:o.op=.load 123 x)(hx:a.eval x=.pointer (some ⟨b,0,none⟩))(hb:u.heap[b]?=some (.cells (zaU id size turn slot good) 123)):(execOp a.eval o).run Tryz.prog u=.ok (.value (.agg (zaU id size turn slot good))) u:=by
 have h:=run_loadVar_row (P:=Tryz.prog) u b 123 123 (zaU id size turn slot good) (0,0) _ hb Tryz.underlying123 rfl (by kernel_rfl);unfold execOp;simp only[hop,hx,Instr.loadAt,Instr.sureAddr,Sem.run_bind,Sem.run_pure,Result.andThen_ok,h]
theorem ybG(id size turn slot k m cp B off:Nat)(good:Nat→Bool)(y:Nat→Nat)(hid:id≤9999)(hsz:size≤400)(hk:k<14)(ht:turn<18446744073709551616)(hm:m≤79)(hy:∀ i,y i<256)(hs:zcB v B off m y) :
  zaP Tryz.prog 73 #[.agg (zaU id size turn slot good),.int .i64 (k:Nat),.slice (some ⟨B,off,none⟩) m cp] S v fun x S' v'=>x=.agg (zaE 96 (zbM id size turn k m y))∧S'=S∧Ext v v':=by
 refine zaF Tryz.func73 rfl Tryz.ntmps73 (by simp) fun Stop cc cs ret=>?_
 have g0:argF #[.agg (zaU id size turn slot good),.int .i64 (k:Nat),.slice (some ⟨B,off,none⟩) m cp] 0=.agg (zaU id size turn slot good):=rfl;have g1:argF #[.agg (zaU id size turn slot good),.int .i64 (k:Nat),.slice (some ⟨B,off,none⟩) m cp] 1=.int .i64 (k:Nat):=rfl;have g2:argF #[.agg (zaU id size turn slot good),.int .i64 (k:Nat),.slice (some ⟨B,off,none⟩) m cp] 2=.slice (some ⟨B,off,none⟩) m cp:=rfl;generalize argF #[.agg (zaU id size turn slot good),.int .i64 (k:Nat),.slice (some ⟨B,off,none⟩) m cp]=f at g0 g1 g2;repeat (first|refine rQ rfl ?_|refine rY zaA ?_|refine rW ?_)
 refine zaJ (Q:=fun y w=>y=.pointer (some ⟨v.heap.size,0,none⟩)∧Ext v w∧w.heap[v.heap.size]?=some (.cells (zaU id size turn slot good) 123)∧w.heap.size=v.heap.size+1) zaA rfl rfl (by kernel_rfl) (fun u hu=>⟨_,_,.inl (zdI (x:=.tmp 0) (y:=.agg (zaU id size turn slot good)) rfl (by simp[g0]) u),by rw[hu.heap],(Ext.twin hu).trans _ _ _ (Ext.alloc _ _),by rw[←hu.heap];exact zaX _ _,by rw[zcW,hu.heap]⟩) ?_
 rintro _ w1 ⟨rfl,hE1,hb1,hs1⟩;simp only[stO_some];refine zaN zaA rfl rfl (by kernel_rfl) (.agg (zcY 96)) rfl (by rw[←z92];kernel_rfl) fun w2 hE2 hb2 hs2=>?_
 simp only[stO_some];repeat (first|refine rQ rfl ?_|refine rY zaA ?_|refine rW ?_)
 have hb1':=hE2.row hb1;have hE12:=hE1.trans _ _ _ hE2;refine zaO zaA rfl rfl (by kernel_rfl) (fun u hu=>zqG (x:=.tmp 7) (b:=v.heap.size) rfl (by simp) ((Ext.twin hu).row hb1')) ?_;simp only[stO_some];unfold zbA;repeat (first|refine rQ rfl ?_|refine rY zaA ?_|refine rW ?_)
 have hpc:∀ (a1 a2 a3 a4 a5:Value),(#[a1,a2,a3,a4,a5]:Array Value)=#[a1,a2,a3,a4,a5]:=fun _ _ _ _ _=>rfl
 (refine zaC rfl (by first|rfl|simp[Region.wanted,yielded,zaG, *]) rfl Tryz.func85 (by kernel_rfl) rfl (by simp[Act.eval, *];try rfl) (ybF id size turn k m cp B off y hid hsz hk ht hm hy (hs.ext hE12)) ?_)
 rintro _ S1 w3 _ ⟨rfl,e1,hE3⟩;subst S1;simp only[stO_some];refine zaL zaA rfl rfl (by kernel_rfl) (x:=.tmp 6) (y:=.tmp 12) (g:=w1.heap.size) (c:=zaE 96 (zbM id size turn k m y)) rfl (by simp) (by simp) (hE3.row hb2) (by rw[zaV];kernel_rfl) (by show(zcY 96).size=_;rw[zaV,zgP]) zlB fun w4 hW4=>?_
 simp only[stO_none];repeat (first|refine rQ rfl ?_|refine rY zaA ?_|refine rW ?_)
 refine zaH fun todo=>?_
 refine ret _ _ S w4 (.agg (zaE 96 (zbM id size turn k m y))) ?_ ⟨rfl,rfl,zbD (hE12.trans _ _ _ hE3) (by omega) hW4⟩;have hl:=run_loadVar_row (P:=Tryz.prog) w4 w1.heap.size 137 137 (zaE 96 (zbM id size turn k m y)) (0,0) _ hW4.at_ Tryz.underlying137 rfl (by rw[zaV];kernel_rfl);simp[results,Tryz.results73,asAddr,hl]
theorem zsW{id size turn slot k:Nat}{good:Nat→Bool}(hk:k<14):(zaU id size turn slot good).setIfInBounds (4+k) (.bool true)=zaU id size turn slot fun j=>if j=k then true else good j:=by
 match k,hk with
 |0,_=>rfl
 |1,_=>rfl
 |2,_=>rfl
 |3,_=>rfl
 |4,_=>rfl
 |5,_=>rfl
 |6,_=>rfl
 |7,_=>rfl
 |8,_=>rfl
 |9,_=>rfl
 |10,_=>rfl
 |11,_=>rfl
 |12,_=>rfl
 |13,_=>rfl
def specP(X D V id size turn slot k m cp B off:Nat)(good:Nat→Bool)(y:Nat→Nat)(j:Nat)(x:Value)(w:World):Prop:=
 match j with
 |0=>x=.pointer (some ⟨X,0,none⟩)
 |1=>x=.pointer (some ⟨X,0,none⟩)
 |2=>x=.pointer (some ⟨X,0,none⟩)
 |3=>x=.pointer (some ⟨D,0,none⟩)
 |4=>x=.int .i64 (k:Nat)
 |5=>x=.pointer (some ⟨V,0,none⟩)
 |6=>x=.pointer (some ⟨V,0,none⟩)
 |7=>x=.pointer (some ⟨V,3,none⟩)
 |8=>x=.int .i64 (slot:Nat)
 |9=>x=.pointer (some ⟨V,0,none⟩)
 |10=>x=.pointer (some ⟨V,0,none⟩)
 |11=>x=.agg (zaU id size turn slot good)
 |12=>x=.int .i64 (k:Nat)
 |13=>x=.slice (some ⟨B,off,none⟩) m cp
 |14=>x=.agg (zaE 96 (zbM id size turn k m y))
 |_=>True
theorem zoZ(V id size turn slot k m cp B off:Nat)(good:Nat→Bool)(y:Nat→Nat)(hid:id≤9999)(hsz:size≤400)(hk:k<14)(ht:turn<18446744073709551616)(hm:m≤79)(hy:∀ i,y i<256)(hs:zcB v B off m y)(hsl:slot<nb)(hn1:14≤nd)(hnd:nd≤18)(hnb:nb≤64)
  (hx:v.cell? ⟨X,0,none⟩=some (.pointer (some ⟨D,0,none⟩))) (hD:DiskG D DB DA RB RA nd nb s v) (hV:v.heap[V]?=some (.cells (zaU id size turn slot good) 123)) :
  zaP Tryz.prog 70 #[.pointer (some ⟨X,0,none⟩),.pointer (some ⟨V,0,none⟩),.int .i64 (k:Nat),.slice (some ⟨B,off,none⟩) m cp] S v fun x S' v'=>x=.tuple #[]∧S'=S∧Kp v (fun b=>b=V∨DOwn D RB RA nd b) v'∧DiskG D DB DA RB RA nd nb (s.wr k slot (zbM id size turn k m y)) v'∧v'.heap[V]?=some (.cells (zaU id size turn slot fun j=>if j=k then true else good j) 123):=by
 refine zaF Tryz.func70 rfl Tryz.ntmps70 (by simp) fun Stop cc cs ret=>?_
 have g0:argF #[.pointer (some ⟨X,0,none⟩),.pointer (some ⟨V,0,none⟩),.int .i64 (k:Nat),.slice (some ⟨B,off,none⟩) m cp] 0=.pointer (some ⟨X,0,none⟩):=rfl;have g1:argF #[.pointer (some ⟨X,0,none⟩),.pointer (some ⟨V,0,none⟩),.int .i64 (k:Nat),.slice (some ⟨B,off,none⟩) m cp] 1=.pointer (some ⟨V,0,none⟩):=rfl;have g2:argF #[.pointer (some ⟨X,0,none⟩),.pointer (some ⟨V,0,none⟩),.int .i64 (k:Nat),.slice (some ⟨B,off,none⟩) m cp] 2=.int .i64 (k:Nat):=rfl;have g3:argF #[.pointer (some ⟨X,0,none⟩),.pointer (some ⟨V,0,none⟩),.int .i64 (k:Nat),.slice (some ⟨B,off,none⟩) m cp] 3=.slice (some ⟨B,off,none⟩) m cp:=rfl;generalize argF #[.pointer (some ⟨X,0,none⟩),.pointer (some ⟨V,0,none⟩),.int .i64 (k:Nat),.slice (some ⟨B,off,none⟩) m cp]=f0 at g0 g1 g2 g3;repeat (first|refine rQ rfl ?_|refine rY zaA ?_|refine rW ?_)
 refine zcH (by kernel_rfl) (by kernel_rfl) (by kernel_rfl) 15 [0,1,2,3,4,5,6,7,8,9,10,11,12,13,14] (by kernel_rfl) (specP X D V id size turn slot k m cp B off good y) (fun S' w=>S'=S∧Ext v w) (fun S' f w=>S'=S∧Kp v (DOwn D RB RA nd) w∧DiskG D DB DA RB RA nd nb (s.wr k slot (zbM id size turn k m y)) w) (fun S' w w' h hE=>⟨h.1,h.2.trans _ _ _ hE⟩) (fun S' i f x w w' hi hA hm'=>?_) (fun j x w w' h hE=>h) ?_ ⟨rfl,.refl _⟩ ?_ ?_ ?_
 ·exfalso;have hi':i<16:=hi;simp at hA;omega
 ·intro j hj he x w h;have hj':j<16:=hj;rcases(by omega:j=0∨j=1∨j=2∨j=3∨j=4∨j=5∨j=6∨j=7∨j=8∨j=9∨j=10∨j=11∨j=12∨j=13∨j=14∨j=15) with rfl|rfl|rfl|rfl|rfl|rfl|rfl|rfl|rfl|rfl|rfl|rfl|rfl|rfl|rfl|rfl
  ·cases he
  ·cases he
  ·cases he
  ·cases he
  ·cases he
  ·cases he
  ·cases he
  ·cases he
  ·cases he
  ·cases he
  ·cases he
  ·cases he
  ·cases he
  ·cases he
  ·cases he
  ·exact trivial
 ·intro i f S1 w rest hi hne hB hf hd nxt;have q0:f 0=.pointer (some ⟨X,0,none⟩):=(hf 0 (zaR (by kernel_rfl))).trans g0;have q1:f 1=.pointer (some ⟨V,0,none⟩):=(hf 1 (zaR (by kernel_rfl))).trans g1;have q2:f 2=.int .i64 (k:Nat):=(hf 2 (zaR (by kernel_rfl))).trans g2;have q3:f 3=.slice (some ⟨B,off,none⟩) m cp:=(hf 3 (zaR (by kernel_rfl))).trans g3;have hi':i<16:=hi
  obtain⟨eS,hE⟩:=hB (by
   simp
   omega)
  subst S1;have hxw:=hE.cell hx;have hVw:=hE.row hV;have hv3:w.cell? ⟨V,3,none⟩=some (.int .i64 (slot:Nat)):=(cell_of_row _ _ _ _ _ _ hVw).trans rfl;clear hf hB;rcases(by omega:i=0∨i=1∨i=2∨i=3∨i=4∨i=5∨i=6∨i=7∨i=8∨i=9∨i=10∨i=11∨i=12∨i=13∨i=14∨i=15) with rfl|rfl|rfl|rfl|rfl|rfl|rfl|rfl|rfl|rfl|rfl|rfl|rfl|rfl|rfl|rfl
  ·skip;clear hd;refine rY zaA ?_;exact nxt _ w (.refl w) rfl
  ·skip;have d0:f 8=.pointer (some ⟨X,0,none⟩):=hd 0 (zaD (by kernel_rfl));clear hd;refine rY zaA ?_;exact nxt _ w (.refl w) rfl
  ·skip;have d1:f 9=.pointer (some ⟨X,0,none⟩):=hd 1 (zaD (by kernel_rfl));clear hd;refine rY zaA ?_;exact nxt _ w (.refl w) rfl
  ·skip;have d2:f 10=.pointer (some ⟨X,0,none⟩):=hd 2 (zaD (by kernel_rfl));clear hd;(refine rO zaA rfl ?_;intro _ hu_ K_ hK_;(have hc:=(Ext.twin hu_).cell hxw);go_simp;(try rw[wI _]);(try rw[wU _]);refine hK_ _ ?_;clear hK_ K_ hu_;simp only[sS,sN]);exact nxt _ w (.refl w) rfl
  ·skip;clear hd;refine rY zaA ?_;exact nxt _ w (.refl w) rfl
  ·skip;clear hd;refine rY zaA ?_;exact nxt _ w (.refl w) rfl
  ·skip;have d5:f 13=.pointer (some ⟨V,0,none⟩):=hd 5 (zaD (by kernel_rfl));clear hd;refine rY zaA ?_;exact nxt _ w (.refl w) rfl
  ·skip;have d6:f 14=.pointer (some ⟨V,0,none⟩):=hd 6 (zaD (by kernel_rfl));clear hd;refine rY zaA ?_;exact nxt _ w (.refl w) rfl
  ·skip;have d7:f 15=.pointer (some ⟨V,3,none⟩):=hd 7 (zaD (by kernel_rfl));clear hd;(refine rO zaA rfl ?_;intro _ hu_ K_ hK_;(have hc:=(Ext.twin hu_).cell hv3);go_simp;(try rw[wI _]);(try rw[wU _]);refine hK_ _ ?_;clear hK_ K_ hu_;simp only[sS,sN]);exact nxt _ w (.refl w) rfl
  ·skip;clear hd;refine rY zaA ?_;exact nxt _ w (.refl w) rfl
  ·skip;have d9:f 17=.pointer (some ⟨V,0,none⟩):=hd 9 (zaD (by kernel_rfl));clear hd;refine rY zaA ?_;exact nxt _ w (.refl w) rfl
  ·skip;have d10:f 18=.pointer (some ⟨V,0,none⟩):=hd 10 (zaD (by kernel_rfl));clear hd;refine zaO zaA rfl rfl (by kernel_rfl) (fun u hu=>zcC (x:=.tmp 18) (b:=V) rfl (by simp[d10]) ((Ext.twin hu).row hVw)) ?_;exact nxt _ w (.refl w) rfl
  ·skip;clear hd;refine rY zaA ?_;exact nxt _ w (.refl w) rfl
  ·skip;clear hd;refine rY zaA ?_;exact nxt _ w (.refl w) rfl
  ·skip;have d11:f 19=.agg (zaU id size turn slot good):=hd 11 (zaD (by kernel_rfl));have d12:f 20=.int .i64 (k:Nat):=hd 12 (zaD (by kernel_rfl));have d13:f 21=.slice (some ⟨B,off,none⟩) m cp:=hd 13 (zaD (by kernel_rfl));clear hd;(refine zaC rfl (by first|rfl|simp[Region.wanted,yielded,zaG, *]) rfl Tryz.func73 (by kernel_rfl) rfl (by simp[Act.eval, *];try rfl) (ybG id size turn slot k m cp B off good y hid hsz hk ht hm hy (hs.ext hE)) ?_)
   rintro _ S1 w2 _ ⟨rfl,e1,hE2⟩;subst S1;exact nxt _ w2 hE2 rfl
  ·exact absurd rfl hne
 ·rintro f S1 w rest ⟨eS,hB⟩ hf hd nxt;subst S1;have d3:f 11=.pointer (some ⟨D,0,none⟩):=hd 3 (by simp);have d4:f 12=.int .i64 (k:Nat):=hd 4 (by simp);have d8:f 16=.int .i64 (slot:Nat):=hd 8 (by simp);have d14:f 22=.agg (zaE 96 (zbM id size turn k m y)):=hd 14 (by simp);clear hd;(refine zaC rfl (by first|rfl|simp[Region.wanted,yielded,zaG, *]) rfl Tryz.func74 (by kernel_rfl) rfl (by simp[Act.eval, *];try rfl) (zpU k slot (zbM id size turn k m y) (by omega) hsl hnd hnb (yfR hy) (hD.ext hB)) ?_)
  rintro _ S1 w2 _ ⟨rfl,e1,hK2,hD2⟩;subst S1;exact nxt (.tuple #[]) S w2 ⟨rfl,((Kp.refl v _).ext hB).trans hK2,hD2⟩ trivial fun j x hj h=>h
 ·rintro f S1 w ⟨eS,hK,hD'⟩ hf hd;subst S1;have q1:f 1=.pointer (some ⟨V,0,none⟩):=(hf 1 (zaR (by kernel_rfl))).trans g1;have q2:f 2=.int .i64 (k:Nat):=(hf 2 (zaR (by kernel_rfl))).trans g2;clear hf hd;have hVn:¬DOwn D RB RA nd V:=by
   rintro(h|⟨d,hd,h|h⟩)
   ·exact zaM hV hD.row (by decide) h
   ·exact zaM hV (hD.rb d hd) (by decide) h
   ·exact zaM hV (hD.ra d hd) (by decide) h
  have hVw:=hK.cells _ _ _ _ hVn hV;have hkI:(k:Int)<14:=by omega
  repeat (first|refine rQ rfl ?_|refine rY zaA ?_|refine rW ?_)
  refine zaW zaA rfl rfl (by kernel_rfl) (x:=.tmp 28) (y:=.const (.bool true)) (g:=V) (j:=4+k) (z:=.bool true) rfl (by simp) (by simp) rfl rfl hVw (by simp[zaU];omega) (by kernel_rfl) fun w3 hW3=>?_
  simp only[stO_none];rw[zsW hk]at hW3;repeat (first|refine rQ rfl ?_|refine rY zaA ?_|refine rW ?_)
  refine zcQ ?_;refine ret _ _ S w3 (.tuple #[]) ?_ ⟨rfl,rfl,(hK.mono fun b h=>.inr h).wr (.inl (.inl rfl)) hW3,hD'.kp ((Kp.refl w (fun b=>b=V)).wr (.inl rfl) hW3) (fun e=>hVn (.inl e.symm)) (fun e=>zaM hVw hD'.db (by decide) e.symm) (fun e=>zaM hVw hD'.da (by decide) e.symm) (fun d hd=>⟨fun e=>hVn (.inr ⟨d,hd,.inl e.symm⟩),fun e=>hVn (.inr ⟨d,hd,.inr e.symm⟩)⟩),hW3.at_⟩
  simp[results,Tryz.results70]
end
theorem ydR(l:List Nat):∀ n,(∀ j,j<n→j∈l)∨∃ p,p<n∧p ∉ l∧∀ j,j<p→j∈l
 |0=>.inl fun j hj=>by omega
 |n+1=>by
  rcases ydR l n with h|⟨p,h1,h2,h3⟩
  ·by_cases hn:n∈l
   ·exact .inl fun j hj=>by
     by_cases e:j=n
     ·rw[e];exact hn
     ·exact h j (by omega)
   ·exact .inr ⟨n,by omega,hn,h⟩
  ·exact .inr ⟨p,by omega,h2,h3⟩
theorem yiK:∀ (n:Nat) (l:List Nat),(∀ j,j<n→j∈l)→n≤l.length
 |0,l,_=>Nat.zero_le _
 |n+1,l,h=>by
  have hn:=h n (by omega);have:=yiK n (l.erase n) fun j hj=>(List.mem_erase_of_ne (by omega)).2 (h j (by omega))
  rw[List.length_erase_of_mem hn]at this;have hp:=List.length_pos_of_mem hn;omega
theorem ydQ{l:List Nat}{n:Nat}(h:l.length<n):∃ p,p<n∧p ∉ l∧∀ j,j<p→j∈l:=by
 rcases ydR l n with h1|h1
 ·have:=yiK n l h1;omega
 ·exact h1
theorem zsQ{α : Type} : ∀ {l:List α} {n:Nat} {p:α},l.Nodup→p ∉ l→(l.set n p).Nodup
 |[],n,p,h,_=>h
 |x :: l,0,p,h,hp=>by
  have h':=List.nodup_cons.1 h;exact List.nodup_cons.2 ⟨fun q=>hp (List.mem_cons_of_mem _ q),h'.2⟩
 |x :: l,n+1,p,h,hp=>by
  have h':=List.nodup_cons.1 h;refine List.nodup_cons.2 ⟨fun q=>?_,zsQ h'.2 fun q=>hp (List.mem_cons_of_mem _ q)⟩
  rcases List.mem_or_eq_of_mem_set q with q|q
  ·exact h'.1 q
  ·exact hp (by rw[←q];exact List.mem_cons_self ..)
theorem zqC{α : Type}{l:List α}{n:Nat}{x:α}(h:l[n]?=some x):l.set n x=l:=by
 apply List.ext_getElem?;intro i;rw[List.getElem?_set];by_cases e:n=i
 ·subst e;have hb:l[n]'(List.getElem?_eq_some_iff.1 h).1=x:=(List.getElem?_eq_some_iff.1 h).2;simp[h,(List.getElem?_eq_some_iff.1 h).1,hb]
 ·simp[e]
structure PutOk(L:List Ent)(e:Ent)(clock:Nat):Prop where
 ids:((putL L e clock).map (·.id))=if (zbF e.id L 0).isSome then L.map (·.id) else L.map (·.id)++[e.id]
 idn:((putL L e clock).map (·.id)).Nodup
 slots:((putL L e clock).map (·.slot)).Nodup
 borns:((putL L e clock).map (·.born)).Nodup
 lt:∀ x∈putL L e clock,x.born<zhG L e.id clock
 mem:∀ x∈putL L e clock,(∃ b,x={e with born:=b})∨(x∈L∧x.id≠e.id)
 has:∃ b,{e with born:=b}∈putL L e clock
theorem zvA{L:List Ent}{e:Ent}{clock:Nat}(h1:(L.map (·.id)).Nodup)(h2:(L.map (·.slot)).Nodup)(h3:(L.map (·.born)).Nodup)(hc:∀ x∈L,x.born<clock)(hs:∀ x∈L,x.slot≠e.slot):PutOk L e clock:=by
 have hs':e.slot ∉ L.map (·.slot):=fun q=>by
  obtain⟨x,hx,q⟩:=List.mem_map.1 q;exact hs x hx q
 cases h:zbF e.id L 0 with
 |none=>
  have hi:e.id ∉ L.map (·.id):=fun q=>by
   obtain⟨x,hx,q⟩:=List.mem_map.1 q;exact zkW h x hx q
  have hb:clock ∉ L.map (·.born):=fun q=>by
   obtain⟨x,hx,q⟩:=List.mem_map.1 q;have:=hc x hx;omega
  have app:∀ {l:List Nat} {a:Nat},l.Nodup→a ∉ l→(l++[a]).Nodup:=fun hl ha=>by
   rw[List.nodup_append]
   exact⟨hl,by simp,fun x hx y hy e=>by
    simp at hy;subst hy e
    exact ha hx⟩
  have hp:putL L e clock=L++[{e with born:=clock}]:=by simp only[putL,h]
  refine⟨by rw[hp,h];simp,?_,?_,?_,fun x hx=>?_,fun x hx=>?_,clock,?_⟩
  ·rw[hp,List.map_append];exact app h1 hi
  ·rw[hp,List.map_append];exact app h2 hs'
  ·rw[hp,List.map_append];exact app h3 hb
  ·rw[hp]at hx;simp only[zhG,h];rcases List.mem_append.1 hx with hx|hx
   ·have:=hc x hx;omega
   ·simp at hx;subst hx;exact Nat.lt_succ_self _
  ·rw[hp]at hx;rcases List.mem_append.1 hx with hx|hx
   ·exact .inr ⟨hx,zkW h x hx⟩
   ·simp at hx;exact .inl ⟨clock,hx⟩
  ·rw[hp];simp
 |some q=>
  obtain⟨n,old⟩:=q;obtain⟨n',hn,hget,hid⟩:=zbJ h;obtain rfl:n=n':=by omega
  have hp:putL L e clock=L.set n {e with born:=old.born}:=by simp only[putL,h]
  have hold:old∈L:=List.mem_of_getElem? hget;have ids':(putL L e clock).map (·.id)=L.map (·.id):=by
   rw[hp,List.map_set];exact zqC (by rw[List.getElem?_map,hget];simp[hid])
  have borns':(putL L e clock).map (·.born)=L.map (·.born):=by
   rw[hp,List.map_set];exact zqC (by rw[List.getElem?_map,hget];rfl)
  refine⟨by rw[ids',h];simp,by rw[ids'];exact h1,?_,by rw[borns'];exact h3,fun x hx=>?_,fun x hx=>?_,old.born,?_⟩
  ·rw[hp,List.map_set];exact zsQ h2 hs'
  ·simp only[zhG,h];rw[hp]at hx;rcases List.mem_or_eq_of_mem_set hx with hx|hx
   ·exact hc x hx
   ·rw[hx];exact hc old hold
  ·have hx':=hx;rw[hp]at hx;by_cases e1:x.id=e.id
   ·left;refine⟨old.born,zcK (L:=putL L e clock) (f:=(·.id)) (by rw[ids'];exact h1) hx' ?_ e1⟩;rw[hp];exact List.mem_iff_getElem?.2 ⟨n,by rw[List.getElem?_set];simp[(List.getElem?_eq_some_iff.1 hget).1]⟩
   ·rcases List.mem_or_eq_of_mem_set hx with hx|hx
    ·exact .inr ⟨hx,e1⟩
    ·exact .inl ⟨_,hx⟩
  ·rw[hp];exact List.mem_iff_getElem?.2 ⟨n,by rw[List.getElem?_set];simp[(List.getElem?_eq_some_iff.1 hget).1]⟩
def layS(s:Dsk)(p:Nat)(B:Nat→Nat→Nat):Nat→Dsk
 |0=>s
 |n+1=>(layS s p B n).wr n p (B n)
theorem zxC(s:Dsk)(p:Nat)(B:Nat→Nat→Nat)(n d q i:Nat):(layS s p B n).c d q i=if q=p∧d<n then B d i else s.c d q i:=by
 induction n with
 |zero=>rw[if_neg (by omega)];rfl
 |succ n ih=>
  show updC (layS s p B n).c n p (B n) d q i=_;unfold updC;by_cases h1:d=n∧q=p
  ·rw[if_pos h1,if_pos ⟨h1.2,by omega⟩,h1.1]
  ·rw[if_neg h1,ih];by_cases h2:q=p∧d<n
   ·rw[if_pos h2,if_pos ⟨h2.1,by omega⟩]
   ·rw[if_neg h2,if_neg (by omega)]
section
variable {X D DB DA M:Nat}{RB RA:Nat→Nat}{nd nb turn:Nat}{s:Dsk}{L:List Ent}{w w' v:World}{S:Nat→Prop}
theorem EntOk.more{c:Nat→Nat→Nat→Nat}{e:Ent}(h:EntOk nb turn c e){t':Nat}(ht:turn≤t'){c':Nat→Nat→Nat→Nat}(hc:∀ d j,c' d e.slot j=c d e.slot j):EntOk nb t' c' e:=
 ⟨h.id1,h.id2,h.size,Nat.le_trans h.turn ht,h.slot,h.val,h.ten,fun k hk hgd j hj=>(hc k j).trans (h.blk k hk hgd j hj)⟩
theorem StE.xn(h:StE X D DB DA M RB RA nd nb turn s L w):¬DOwn D RB RA nd X:=by
 rintro(q|⟨d,hd,q|q⟩)
 ·exact zaM h.row h.dk.row (by decide) q
 ·exact zaM h.row (h.dk.rb d hd) (by decide) q
 ·exact zaM h.row (h.dk.ra d hd) (by decide) q
theorem zhF{w:World}{M b clock:Nat}{L:List Ent}{x:Array Value}{t:TypeId}{fr:Nat×Nat}(h:w.heap[M]?=some (mapO L clock))(h':w.heap[b]?=some (.cells x t fr)):M≠b:=fun e=>by
 rw[e,h']at h;cases h
theorem StE.mn(h:StE X D DB DA M RB RA nd nb turn s L w):¬DOwn D RB RA nd M∧M≠X∧M≠DB∧M≠DA:=by
 obtain⟨cl,hm,_⟩:=h.map;refine⟨?_,zhF hm h.row,zhF hm h.dk.db,zhF hm h.dk.da⟩;rintro(q|⟨d,hd,q|q⟩)
 ·exact zhF hm h.dk.row q
 ·exact zhF hm (h.dk.rb d hd) q
 ·exact zhF hm (h.dk.ra d hd) q
theorem StE.wrX(h:StE X D DB DA M RB RA nd nb turn s L w){t':Nat}(ht:turn≤t')(hW:Wr w X (.cells #[.pointer (some ⟨D,0,none⟩),.map (some M),.int .u64 (t':Nat)] 80) w'):StE X D DB DA M RB RA nd nb t' s L w':=
 ⟨hW.at_,let ⟨cl,q1,q2⟩:=h.map;⟨cl,zaQ hW q1 h.mn.2.1,q2⟩,h.dk.kp ((Kp.refl w (fun b=>b=X)).wr (.inl rfl) hW) (fun e=>h.xn (.inl e.symm)) (fun e=>zaM h.row h.dk.db (by decide) e.symm) (fun e=>zaM h.row h.dk.da (by decide) e.symm) (fun d hd=>⟨fun e=>h.xn (.inr ⟨d,hd,.inl e.symm⟩),fun e=>h.xn (.inr ⟨d,hd,.inr e.symm⟩)⟩),fun e he=>(h.ent e he).more ht fun _ _=>rfl,h.ids,h.slots,h.borns⟩
def ztV(L:List Ent)(X id size tn p nb V:Nat)(j:Nat)(x:Value)(w:World):Prop:=
 match j with
 |0=>x=.int .i64 (id:Nat)
 |1=>x=.int .i64 (size:Nat)
 |2=>x=.pointer (some ⟨X,0,none⟩)
 |3=>x=.pointer (some ⟨X,0,none⟩)
 |4=>x=.pointer (some ⟨X,2,none⟩)
 |5=>x=.int .u64 (tn:Nat)
 |6=>x=.agg (zbA id size tn)
 |7=>x=.pointer (some ⟨X,0,none⟩)
 |8=>∃ g t,x=.slice (some ⟨g,0,none⟩) nb nb∧w.heap[g]?=some (.cells (zeT nb t) 4)∧(∀ e∈L,t e.slot=true)∧∀ j,t j=true→∃ e∈L,e.slot=j
 |9=>x=.int .i64 (p:Nat)
 |10=>x=.agg (zaU id size tn p fun _=>false)
 |11=>∃ g,x=.pointer (some ⟨g,0,none⟩)∧V≤g∧∃ c:Array Value,c.size=18∧w.heap[g]?=some (.cells c 123)
 |_=>True
theorem yaU(L:List Ent)(X id size tn p nb V:Nat):∀ j x w w',ztV L X id size tn p nb V j x w→Ext w w'→ztV L X id size tn p nb V j x w':=by
 intro j x w w' h hE;unfold ztV at h ⊢;split at h<;>first|exact h|skip
 ·obtain⟨g,t,e,h1,h2⟩:=h;exact⟨g,t,e,hE.row h1,h2⟩
 ·obtain⟨g,e,h1,c,h2,hg⟩:=h;exact⟨g,e,h1,c,h2,hE.row hg⟩
theorem yfO{L:List Ent}{X id size tn p nb V g:Nat}{w w':World}{cc:Array Value}(hc:cc.size=18)(hg0:∃ c0,w.heap[g]?=some (.cells c0 123))(hW:Wr w g (.cells cc 123) w'):∀ j x,ztV L X id size tn p nb V j x w→ztV L X id size tn p nb V j x w':=by
 intro j x h;obtain⟨c0,hg0⟩:=hg0;unfold ztV at h ⊢;split at h<;>first|exact h|skip
 ·obtain⟨g',t,e,h1,h2⟩:=h;exact⟨g',t,e,zaQ hW h1 (zaM h1 hg0 (by decide)),h2⟩
 ·obtain⟨g',e,h1,c,h2,hg⟩:=h;by_cases e':g'=g
  ·subst e';exact⟨g',e,h1,_,hc,hW.at_⟩
  ·exact⟨g',e,h1,c,h2,zaQ hW hg e'⟩
theorem ymE(id size m p BA:Nat)(PB:Nat→Nat)(val:Nat→Nat)(hid1:1≤id)(hid:id≤9999)(hsz:size≤400)(hm:m=(size+9) / 10)(hval:∀ i,val i<256)(ht:turn<9223372036854775808)(hb4:4≤nb)(hn1:14≤nd)(hnd:nd≤18)(hnb:nb≤64)(hX:StE X D DB DA M RB RA nd nb turn s L v)
  (hp:p<nb) (hpf:∀ e∈L,e.slot≠p) (hpl:∀ j,j<p→∃ e∈L,e.slot=j)
  (hBA:v.heap[BA]?=some (.cells (allA fun k=>sl (PB k) m) 43)) (hPB:∀ k,k<14→v.heap[PB k]?=some (.cells (zaE m (zbY val size k)) 5)) (hcl:∀ k i,zbY val size k i<256) :
  zaP Tryz.prog 61 #[.pointer (some ⟨X,0,none⟩),.int .i64 (id:Nat),.int .i64 (size:Nat),sl BA 14] S v fun x S' v'=>x=.tuple #[]∧S'=S∧Kp v (SOwn X D M RB RA nd) v'∧∃ clock,PutOk L ⟨id,size,turn+1,p,val,fun _=>true,0⟩ clock∧StE X D DB DA M RB RA nd nb (turn+1) (layS s p (fun k=>zbM id size (turn+1) k ((size+9) / 10) (zbY val size k)) 14) (putL L ⟨id,size,turn+1,p,val,fun _=>true,0⟩ clock) v':=by
 refine zaF Tryz.func61 rfl Tryz.ntmps61 (by simp) fun Stop cc cs ret=>?_
 have g0:argF #[.pointer (some ⟨X,0,none⟩),.int .i64 (id:Nat),.int .i64 (size:Nat),sl BA 14] 0=.pointer (some ⟨X,0,none⟩):=rfl;have g1:argF #[.pointer (some ⟨X,0,none⟩),.int .i64 (id:Nat),.int .i64 (size:Nat),sl BA 14] 1=.int .i64 (id:Nat):=rfl;have g2:argF #[.pointer (some ⟨X,0,none⟩),.int .i64 (id:Nat),.int .i64 (size:Nat),sl BA 14] 2=.int .i64 (size:Nat):=rfl;have g3:argF #[.pointer (some ⟨X,0,none⟩),.int .i64 (id:Nat),.int .i64 (size:Nat),sl BA 14] 3=sl BA 14:=rfl;generalize argF #[.pointer (some ⟨X,0,none⟩),.int .i64 (id:Nat),.int .i64 (size:Nat),sl BA 14]=f0 at g0 g1 g2 g3;have hm79:m≤79:=by omega
 have HM:=hide hm;clear hm;have c2:=hX.c2;have hw1:IntKind.u64.wrap ((turn:Int)+1)=((turn+1:Nat):Int):=by rw[IntKind.wrap_u64];omega
 have HW:=hide hw1;clear hw1;repeat (first|refine rQ rfl ?_|(refine rO zaA rfl ?_;intro _ hu_ K_ hK_;(have hc:=(Ext.twin hu_).cell c2);go_simp;(try rw[wI _]);(try rw[wU _]);refine hK_ _ ?_;clear hK_ K_ hu_;simp only[sS,sN])|refine rW ?_)
 refine zaW zaA rfl rfl (by kernel_rfl) (x:=.tmp 17) (y:=.tmp 15) (g:=X) (j:=2) (z:=.int .u64 ((turn+1:Nat):Int)) rfl (by simp) (by simp[HW.out]) rfl rfl hX.row (by simp) (by kernel_rfl) fun w1 hW1=>?_
 simp only[stO_none];obtain⟨tn,htn⟩:∃ tn,tn=turn+1:=⟨_,rfl⟩;rw[←htn]at hW1;have hX1:StE X D DB DA M RB RA nd nb tn s L w1:=hX.wrX (by omega) hW1;have c2':=hX1.c2;have htl:tn<9223372036854775810:=by omega
 have HT:=hide htn;clear htn;repeat (first|refine rQ rfl ?_|refine rY zaA ?_|refine rW ?_)
 refine zcH (by kernel_rfl) (by kernel_rfl) (by kernel_rfl) 12 [0,1,2,3,4,5,6,7,8,9,10,11] (by kernel_rfl) (ztV L X id size tn p nb w1.heap.size) (fun S' w=>S'=S∧Ext w1 w) (fun S' f w=>S'=S∧Ext w1 w∧∃ g,f 8=.pointer (some ⟨g,0,none⟩)∧w1.heap.size≤g∧w.heap[g]?=some (.cells (zaU id size tn p fun _=>false) 123)) (fun S' w w' h hE=>⟨h.1,h.2.trans _ _ _ hE⟩) (fun S' i f x w w' hi hA hm'=>?_) (yaU _ _ _ _ _ _ _ _) ?_ ⟨rfl,.refl _⟩ ?_ ?_ ?_
 ·exfalso;have hi':i<13:=hi;simp at hA;omega
 ·intro j hj he x w h;have hj':j<13:=hj;rcases(by omega:j=0∨j=1∨j=2∨j=3∨j=4∨j=5∨j=6∨j=7∨j=8∨j=9∨j=10∨j=11∨j=12) with rfl|rfl|rfl|rfl|rfl|rfl|rfl|rfl|rfl|rfl|rfl|rfl|rfl
  ·cases he
  ·cases he
  ·cases he
  ·cases he
  ·cases he
  ·cases he
  ·cases he
  ·cases he
  ·cases he
  ·cases he
  ·cases he
  ·cases he
  ·exact trivial
 ·intro i f S1 w rest hi hne hB hf hd nxt;have q0:f 0=.pointer (some ⟨X,0,none⟩):=(hf 0 (zaR (by kernel_rfl))).trans (by simp[g0]);have q1:f 1=.int .i64 (id:Nat):=(hf 1 (zaR (by kernel_rfl))).trans (by simp[g1]);have q2:f 2=.int .i64 (size:Nat):=(hf 2 (zaR (by kernel_rfl))).trans (by simp[g2]);have hi':i<13:=hi
  obtain⟨eS,hE⟩:=hB (by
   simp
   omega)
  subst S1;have hcw:=hE.cell c2';have hXw:=hX1.ext hE;clear hf hB;rcases(by omega:i=0∨i=1∨i=2∨i=3∨i=4∨i=5∨i=6∨i=7∨i=8∨i=9∨i=10∨i=11∨i=12) with rfl|rfl|rfl|rfl|rfl|rfl|rfl|rfl|rfl|rfl|rfl|rfl|rfl
  ·skip;clear hd;refine rY zaA ?_;exact nxt _ w (.refl w) rfl
  ·skip;clear hd;refine rY zaA ?_;exact nxt _ w (.refl w) rfl
  ·skip;clear hd;refine rY zaA ?_;exact nxt _ w (.refl w) rfl
  ·skip;have d2:f 20=.pointer (some ⟨X,0,none⟩):=hd 2 (zaD (by kernel_rfl));clear hd;refine rY zaA ?_;exact nxt _ w (.refl w) rfl
  ·skip;have d3:f 21=.pointer (some ⟨X,0,none⟩):=hd 3 (zaD (by kernel_rfl));clear hd;refine rY zaA ?_;exact nxt _ w (.refl w) rfl
  ·skip;have d4:f 22=.pointer (some ⟨X,2,none⟩):=hd 4 (zaD (by kernel_rfl));clear hd;(refine rO zaA rfl ?_;intro _ hu_ K_ hK_;(have hc:=(Ext.twin hu_).cell hcw);go_simp;(try rw[wI _]);(try rw[wU _]);refine hK_ _ ?_;clear hK_ K_ hu_;simp only[sS,sN]);exact nxt _ w (.refl w) rfl
  ·skip;have d0:f 18=.int .i64 (id:Nat):=hd 0 (zaD (by kernel_rfl));have d1:f 19=.int .i64 (size:Nat):=hd 1 (zaD (by kernel_rfl));have d5:f 23=.int .u64 (tn:Nat):=hd 5 (zaD (by kernel_rfl));clear hd;refine rY zaA ?_;exact nxt _ w (.refl w) rfl
  ·skip;clear hd;refine rY zaA ?_;exact nxt _ w (.refl w) rfl
  ·skip;have d7:f 25=.pointer (some ⟨X,0,none⟩):=hd 7 (zaD (by kernel_rfl));clear hd;(refine zaC rfl (by first|rfl|simp[Region.wanted,yielded,zaG, *]) rfl Tryz.func56 (by kernel_rfl) rfl (by simp[Act.eval, *];try rfl) (zwQ hb4 hn1 hnd hnb hXw) ?_)
   rintro _ S1 w2 _ ⟨e1,hE2,g,t,rfl,hg,h1,h2⟩;subst S1;exact nxt _ w2 hE2 ⟨g,t,rfl,hg,h1,h2⟩
  ·skip;obtain⟨g,t,d8,hg,h1,h2⟩:∃ g t,f 26=.slice (some ⟨g,0,none⟩) nb nb∧w.heap[g]?=some (.cells (zeT nb t) 4)∧(∀ e∈L,t e.slot=true)∧∀ j,t j=true→∃ e∈L,e.slot=j:=hd 8 (zaD (by kernel_rfl));clear hd;have ht1:t p=false:=by
    cases h:t p with
    |false=>rfl
    |true=>
     obtain⟨e,he,h3⟩:=h2 p h;exact absurd h3 (hpf e he)
   have ht2:∀ j,j<p→t j=true:=fun j hj=>by
    obtain⟨e,he,h3⟩:=hpl j hj;rw[←h3];exact h1 e he
   (refine zaC rfl (by first|rfl|simp[Region.wanted,yielded,zaG, *]) rfl Tryz.func69 (by kernel_rfl) rfl (by simp[Act.eval, *];try rfl) (ykE g nb t p hnb hp ht1 ht2 hg) ?_)
   rintro _ S1 w2 _ ⟨rfl,e1,e2⟩;subst S1 w2;exact nxt _ w (.refl w) rfl
  ·skip;have d6:f 24=.agg (zbA id size tn):=hd 6 (zaD (by kernel_rfl));have d9:f 27=.int .i64 (p:Nat):=hd 9 (zaD (by kernel_rfl));clear hd;unfold zbA at d6;refine rY zaA ?_;exact nxt _ w (.refl w) rfl
  ·skip;clear hd;refine zaN zaA rfl rfl (by kernel_rfl) (.agg (zaU 0 0 0 0 fun _=>false)) rfl (by kernel_rfl) fun w3 hE3 hb3 hs3=>?_
   exact nxt _ w3 hE3 ⟨_,rfl,hE.size,_,rfl,hb3⟩
  ·exact absurd rfl hne
 ·rintro f S1 w rest ⟨eS,hB⟩ hf hd nxt;subst S1;obtain⟨g,d11,hVg,c0,hc0,hg⟩:∃ g,f 8=.pointer (some ⟨g,0,none⟩)∧w1.heap.size≤g∧∃ c:Array Value,c.size=18∧w.heap[g]?=some (.cells c 123):=hd 11 (by simp);have d10:f 28=.agg (zaU id size tn p fun _=>false):=hd 10 (by simp)
  clear hd;refine zaL zaA rfl rfl (by kernel_rfl) (x:=.tmp 8) (y:=.tmp 28) (g:=g) (c:=zaU id size tn p fun _=>false) rfl (by simp[d11]) (by simp[d10]) hg (by kernel_rfl) hc0 (by simp[zaU,Value.oneCell']) fun w3 hW=>?_
  exact nxt undef S w3 ⟨rfl,zbD hB hVg hW,g,d11,hVg,hW.at_⟩ trivial fun j x' hj h=>yfO rfl ⟨_,hg⟩ hW j x' h
 ·rintro f S1 w ⟨eS,hEw,V,q8,hVV,hV⟩ hf hd;subst S1;have q0:f 0=.pointer (some ⟨X,0,none⟩):=(hf 0 (zaR (by kernel_rfl))).trans (by simp[g0]);have q1:f 1=.int .i64 (id:Nat):=(hf 1 (zaR (by kernel_rfl))).trans (by simp[g1]);have q3:f 3=sl BA 14:=(hf 3 (zaR (by kernel_rfl))).trans (by simp[g3]);clear hf hd g0 g1 g2 g3;have hXw:=hX1.ext hEw;have hKv:Kp v (SOwn X D M RB RA nd) w:=((Kp.refl v _).wr (.inl (.inl rfl)) hW1).ext hEw;have hBAw:w.heap[BA]?=some (.cells (allA fun k=>sl (PB k) m) 43):=hEw.row (zaQ hW1 hBA (zaM hBA hX.row (by decide)))
  have hPBw:∀ k,k<14→w.heap[PB k]?=some (.cells (zaE m (zbY val size k)) 5):=fun k hk=>hEw.row (zaQ hW1 (hPB k hk) (zaM (hPB k hk) hX.row (by decide)))
  obtain⟨clock,hmw,hbn⟩:=hXw.map;have hMV:M≠V:=zhF hmw hV;have own:∀ {b:Nat} {x:Array Value} {t:TypeId} {fr:Nat×Nat},w.heap[b]?=some (.cells x t fr)→t≠123→t≠115→t≠137→¬(b=V∨DOwn D RB RA nd b):=fun hb h1 h2 h3=>by
   rintro(h|h|⟨d,hd,h|h⟩)
   ·exact zaM hb hV h1 h
   ·exact zaM hb hXw.dk.row h2 h
   ·exact zaM hb (hXw.dk.rb d hd) h3 h
   ·exact zaM hb (hXw.dk.ra d hd) h3 h
  obtain⟨BK,hBK⟩:∃ BK:Nat→Nat→Nat,BK=fun k=>zbM id size tn k m (zbY val size k):=⟨_,rfl⟩
  repeat (first|refine rQ rfl ?_|refine rY zaA ?_|refine rW ?_)
  refine zaI (fun d f' S' w'=>∃ k,d=14 - k∧k≤14∧S'=S∧Kp w (fun b=>b=V∨DOwn D RB RA nd b) w'∧DiskG D DB DA RB RA nd nb (layS s p BK k) w'∧w'.heap[V]?=some (.cells (zaU id size tn p fun j=>decide (j<k)) 123)∧f' 0=.pointer (some ⟨X,0,none⟩)∧f' 1=.int .i64 (id:Nat)∧f' 8=.pointer (some ⟨V,0,none⟩)∧f' 29=sl BA 14∧f' 30=.int .i64 14∧f' 31=.int .i64 (k:Nat)) 14 ⟨0,by omega,by omega,rfl,.refl _ _,hXw.dk,by simpa using hV,by simp[q0],by simp[q1],by simp[q8],by simp[q3],by simp[q3,sl],by simp⟩ ?_
  clear q0 q1 q3 q8 f;rintro d f S' w' ⟨k,rfl,hk,eS,hK,hD,hV',q0,q1,q8,q29,q30,q31⟩ nxt;subst S';have hXc:w'.heap[X]?=some _:=hK.cells _ _ _ _ (own hXw.row (by decide) (by decide) (by decide)) hXw.row;have hx0:w'.cell? ⟨X,0,none⟩=some (.pointer (some ⟨D,0,none⟩)):=(cell_of_row _ _ _ _ _ _ hXc).trans rfl;have hx1:w'.cell? ⟨X,1,none⟩=some (.map (some M)):=(cell_of_row _ _ _ _ _ _ hXc).trans rfl;repeat (first|refine rQ rfl ?_|refine rY zaA ?_|refine rW ?_)
  by_cases hlt:k<14
  ·have hkI:(k:Int)<14:=by omega
   have cB:w'.cell? ⟨BA,k,none⟩=some (sl (PB k) m):=by
    rw[cell_of_row _ _ _ _ _ _ (hK.cells _ _ _ _ (own hBAw (by decide) (by decide) (by decide)) hBAw)];exact zeC _ k hlt
   have hBy:zcB w' (PB k) 0 m (zbY val size k):=fun i hi=>by
    rw[Nat.zero_add,cell_of_row _ _ _ _ _ _ (hK.cells _ _ _ _ (own (hPBw k hlt) (by decide) (by decide) (by decide)) (hPBw k hlt))];exact zaZ _ _ _ hi
   (refine zaB (t:=true) (by simp[Act.eval,q31,q30,hkI]) ?_;simp only[if_true,if_false,reduceIte,Bool.false_eq_true]);repeat (first|refine rQ rfl ?_|(refine rO zaA rfl ?_;intro _ hu_ K_ hK_;(have hc:=(Ext.twin hu_).cell cB);go_simp;(try rw[wI _]);(try rw[wU _]);refine hK_ _ ?_;clear hK_ K_ hu_;simp only[sS,sN])|refine rW ?_)
   unfold sl;(refine zaC rfl (by first|rfl|simp[Region.wanted,yielded,zaG, *]) rfl Tryz.func70 (by kernel_rfl) rfl (by simp[Act.eval, *];try rfl) (zoZ V id size tn p k m m (PB k) 0 (fun j=>decide (j<k)) (zbY val size k) hid hsz hlt (by omega) hm79 (hcl k) hBy hp hn1 hnd hnb hx0 hD hV') ?_)
   rintro _ S1 w2 _ ⟨rfl,e1,hK2,hD2,hV2⟩;subst S1;simp only[stO_some];repeat (first|refine rQ rfl ?_|refine rY zaA ?_|refine rW ?_)
   have hBk:zbM id size tn k m (zbY val size k)=BK k:=by rw[hBK]
   rw[hBk]at hD2;refine nxt _ _ _ (14 - (k+1)) (by omega) ⟨k+1,rfl,by omega,rfl,hK.trans hK2,hD2,?_,by simp[q0],by simp[q1],by simp[q8],by simp[q29,sl],by simp[q30],by simp⟩;rw[hV2];congr 2;refine congrArg (zaU id size tn p) (funext fun j=>?_)
   by_cases e1:j=k
   ·subst e1;simp
   ·rw[if_neg e1];have:(j<k+1)↔j<k:=by omega
    simp[this]
  ·obtain rfl:k=14:=by omega
   have hVe:w'.heap[V]?=some (.cells (zbT ⟨id,size,tn,p,val,fun _=>true,0⟩) 123):=hV'
   have hMo:¬(M=V∨DOwn D RB RA nd M):=by
    rintro(h|h)
    ·exact hMV h
    ·exact hXw.mn.1 h
   have hm':w'.heap[M]?=some (mapO L clock):=hK.objs _ _ hMo hmw trivial;(refine zaB (t:=false) (by simp[Act.eval,q31,q30]) ?_;simp only[if_true,if_false,reduceIte,Bool.false_eq_true]);refine zaK rfl ?_;repeat (first|refine rQ rfl ?_|refine rY zaA ?_|refine rW ?_)
   refine zbX zaA (by first|kernel_rfl|rfl) ?_
   simp only[List.size_toArray,List.length_cons,List.length_nil,Nat.reduceAdd,Nat.zero_add];refine cU 0 ?_;refine cU 1 ?_;refine cU 2 ?_;co_applyP cT (i:=3) rfl (fun _ hu_=>run_eq_of ?u3_3) ?v3_3
   case u3_3=>intro K_ hK_;(have hc:=(Ext.twin hu_).cell hx1);go_simp;(try rw[wI _]);(try rw[wU _]);exact hK_
   simp only[sS,sN];refine cU 4 ?_;co_applyP cT (i:=5) rfl (fun u hu_=>zcC (x:=.tmp 8) (b:=V) rfl (by simp[q8]) ((Ext.twin hu_).row hVe)) ?v5;simp only[sS,sN];refine cL 6 ?_;refine zhN rfl rfl rfl (x:=.tmp 44) (y:=.tmp 45) (z:=.tmp 46) (e:=⟨id,size,tn,p,val,fun _=>true,0⟩) (by simp) (by simp[q1]) (by simp;rfl) hm' fun w2 hW2=>?_
   simp only[stO_none];repeat (first|refine rQ rfl ?_|refine rY zaA ?_|refine rW ?_)
   refine zcQ ?_;have hPO:=zvA (e:=⟨id,size,tn,p,val,fun _=>true,0⟩) hX.ids hX.slots hX.borns hbn hpf
   have hK':Kp v (SOwn X D M RB RA nd) w':=⟨Nat.le_trans hKv.size hK.size,hK.os.trans hKv.os,hK.output.trans hKv.output,fun b o hb hc ht=>hK.objs b o (fun h=>by
    rcases h with h|h
    ·have:=(Array.getElem?_eq_some_iff.1 hc).1;have h2:=hW1.size;omega
    ·exact hb (.inr (.inr h))) (hKv.objs b o hb hc ht) ht⟩
   have htn:=HT.out;subst htn;have hBK':BK=fun k=>zbM id size (turn+1) k ((size+9) / 10) (zbY val size k):=by rw[hBK,←HM.out]
   rw[hBK']at hD;refine ret _ _ S w2 (.tuple #[]) ?_ ⟨rfl,rfl,hK'.wr (.inl (.inr (.inl rfl))) hW2,clock,hPO,zaQ hW2 hXc (fun e=>hXw.mn.2.1 e.symm),⟨_,hW2.at_,hPO.lt⟩,hD.kp ((Kp.refl w' (fun b=>b=M)).wr (.inl rfl) hW2) (fun e=>hXw.mn.1 (.inl e.symm)) (fun e=>hXw.mn.2.2.1 e.symm) (fun e=>hXw.mn.2.2.2 e.symm) (fun d hd=>⟨fun e=>hXw.mn.1 (.inr ⟨d,hd,.inl e.symm⟩),fun e=>hXw.mn.1 (.inr ⟨d,hd,.inr e.symm⟩)⟩),fun e he=>?_,hPO.idn,hPO.slots,hPO.borns⟩
   ·simp[results,Tryz.results61]
   ·rcases hPO.mem e he with⟨b,rfl⟩|⟨he',_⟩
    ·refine⟨hid1,hid,hsz,Nat.le_refl _,hp,hval,(by show 10≤cntG (fun _=>true) 14;decide),fun k hk _ j hj=>?_⟩
     rw[zxC,if_pos ⟨rfl,hk⟩]
    ·refine(hX.ent e he').more (by omega) fun d j=>?_
     rw[zxC,if_neg (fun q=>hpf e he' q.1)]
end
end Go.Proofs.YtpiefebngnlfoaaGreatDoor
