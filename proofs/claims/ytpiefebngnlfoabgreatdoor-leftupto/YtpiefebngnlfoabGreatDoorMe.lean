import Derived.Test.YtpiefebngnlfoabGreatDoorMd
set_option maxRecDepth 99999
set_option maxHeartbeats 0
set_option linter.unusedVariables false
set_option linter.unusedSimpArgs false
namespace Go.Proofs.YtpiefebngnlfoabGreatDoor
open Go.RowKit Go.Conc Go.Vw
section
variable {X D DB DA M:Nat}{RB RA:Nat->Nat}{nd nb turn:Nat}{s:Dsk}{L:List Ent}{w w' v:World}{S:Nat->Prop}
theorem Ke{o:Oper}{a:Act}{x:Operand}{b id size turn slot:Nat}{good:Nat->Bool}{u:World}(hop:o.op=.load 78 x)(hx:a.eval x=.pointer (some ⟨b,0,none⟩))(hb:u.heap[b]?=some (.cells (aL id size turn slot good) 81)):(execOp a.eval o).run Tryz.prog u=.ok (.value (.agg (bC id size turn))) u:=by
 have h:=run_loadAt_mid (P:=Tryz.prog) u b 0 78 (bC id size turn).toList _ (fun j z hy=>by
  have hj:j<3:=(List.getElem?_eq_some_iff.1 hy).1;rw[Nat.zero_add,cell_of_row _ _ _ _ _ _ hb];match j,hj with
  |0,_=>exact hy
  |1,_=>exact hy
  |2,_=>exact hy) Tryz.underlying78 rfl (by kernel_rfl)
 unfold execOp;simp only[hop,hx,Sem.run_bind,h,Result.andThen_ok,Sem.run_pure]
theorem jX{o:Oper}{a:Act}{x:Operand}{b id size turn slot:Nat}{good:Nat->Bool}{u:World}(hop:o.op=.load 81 x)(hx:a.eval x=.pointer (some ⟨b,0,none⟩))(hb:u.heap[b]?=some (.cells (aL id size turn slot good) 81)):(execOp a.eval o).run Tryz.prog u=.ok (.value (.agg (aL id size turn slot good))) u:=by
 have h:=run_loadVar_row (P:=Tryz.prog) u b 81 81 (aL id size turn slot good) (0,0) _ hb Tryz.underlying81 rfl (by kernel_rfl);unfold execOp;simp only[hop,hx,Instr.loadAt,Instr.sureAddr,Sem.run_bind,Sem.run_pure,Result.andThen_ok,h]
theorem Hk(id size turn slot k m cp B off:Nat)(good:Nat->Bool)(y:Nat->Nat)(hid:id<=9999)(hsz:size<=400)(hk:k<14)(ht:turn<18446744073709551616)(hm:m<=79)(hy:∀ i,y i<256)(hs:eA v B off m y) :
  aK Tryz.prog 79 #[.agg (aL id size turn slot good),.int .i64 (k:Nat),.slice (some ⟨B,off,none⟩) m cp] S v fun x S' v'=>x=.agg (aC 96 (aY id size turn k m y))∧S'=S∧Ext v v':=by
 refine kS Tryz.func79 rfl Tryz.ntmps79 fun Stop cc cs ret f g0 g1 g2=>?_
 repeat refine rN ?_
 refine bO (Q:=fun y w=>y=.pointer (some ⟨v.heap.size,0,none⟩)∧Ext v w∧w.heap[v.heap.size]?=some (.cells (aL id size turn slot good) 81)∧w.heap.size=v.heap.size+1) aB rfl rfl (by kernel_rfl) (fun u hu=>⟨_,_,.inl (gM (x:=.tmp 0) (y:=.agg (aL id size turn slot good)) rfl (by simp[g0]) u),by rw[hu.heap],(Ext.twin hu).trans _ _ _ (Ext.alloc _ _),by rw[<-hu.heap];exact cI _ _,by rw[jY,hu.heap]⟩) ?_
 rintro _ w1 ⟨rfl,hE1,hb1,hs1⟩;simp only[stO_some];refine cQ aB rfl rfl (by kernel_rfl) (.agg (eE 96)) rfl (by rw[<-pO];kernel_rfl) fun w2 hE2 hb2 hs2=>?_
 simp only[stO_some];repeat refine rN ?_
 have hb1':=hE2.row hb1;have hE12:=hE1.trans _ _ _ hE2;refine cH aB rfl rfl (by kernel_rfl) (fun u hu=>Ke (x:=.tmp 7) (b:=v.heap.size) rfl (by simp) ((Ext.twin hu).row hb1')) ?_;simp only[stO_some];unfold bC;repeat refine rN ?_
 have hpc:∀ (a1 a2 a3 a4 a5:Value),(#[a1,a2,a3,a4,a5]:Array Value)=#[a1,a2,a3,a4,a5]:=fun _ _ _ _ _=>rfl
 refine rK Tryz.func93 (zZ id size turn k m cp B off y hid hsz hk ht hm hy (hs.ext hE12)) ?_;rintro _ S1 w3 _ ⟨rfl,e1,hE3⟩;subst S1;refine dF aB rfl rfl (by kernel_rfl) (x:=.tmp 6) (y:=.tmp 12) (g:=w1.heap.size) (c:=aC 96 (aY id size turn k m y)) rfl (by simp) (by simp) (hE3.row hb2) (by rw[dY];kernel_rfl) (by show(eE 96).size=_;rw[dY,tG]) xS fun w4 hW4=>?_
 simp only[stO_none];repeat refine rN ?_
 refine aP fun todo=>?_
 refine ret _ _ S w4 (.agg (aC 96 (aY id size turn k m y))) ?_ ⟨rfl,rfl,bL (hE12.trans _ _ _ hE3) (by omega) hW4⟩;have hl:=run_loadVar_row (P:=Tryz.prog) w4 w1.heap.size 107 107 (aC 96 (aY id size turn k m y)) (0,0) _ hW4.at_ Tryz.underlying107 rfl (by rw[dY];kernel_rfl);simp[results,Tryz.results79,asAddr,hl]
theorem Fa{id size turn slot k:Nat}{good:Nat->Bool}(hk:k<14):(aL id size turn slot good).setIfInBounds (4+k) (.bool true)=aL id size turn slot fun j=>if j=k then true else good j:=by
 match k,hk with
 |0,_=>rfl
 |1,_=>rfl
 |2,_=>rfl
 |3,_=>rfl
 |4,_=>rfl
 |5,_=>rfl
 |6,_=>rfl
 |7,_=>rfl
 |8,_=>rfl
 |9,_=>rfl
 |10,_=>rfl
 |11,_=>rfl
 |12,_=>rfl
 |13,_=>rfl
def zbI(X D V id size turn slot k m cp B off:Nat)(good:Nat->Bool)(y:Nat->Nat)(j:Nat)(x:Value)(w:World):Prop:=
 match j with
 |0=>x=.pointer (some ⟨X,0,none⟩)
 |1=>x=.pointer (some ⟨X,0,none⟩)
 |2=>x=.pointer (some ⟨X,0,none⟩)
 |3=>x=.pointer (some ⟨D,0,none⟩)
 |4=>x=.int .i64 (k:Nat)
 |5=>x=.pointer (some ⟨V,0,none⟩)
 |6=>x=.pointer (some ⟨V,0,none⟩)
 |7=>x=.pointer (some ⟨V,3,none⟩)
 |8=>x=.int .i64 (slot:Nat)
 |9=>x=.pointer (some ⟨V,0,none⟩)
 |10=>x=.pointer (some ⟨V,0,none⟩)
 |11=>x=.agg (aL id size turn slot good)
 |12=>x=.int .i64 (k:Nat)
 |13=>x=.slice (some ⟨B,off,none⟩) m cp
 |14=>x=.agg (aC 96 (aY id size turn k m y))
 |_=>True
theorem Dj(V id size turn slot k m cp B off:Nat)(good:Nat->Bool)(y:Nat->Nat)(hid:id<=9999)(hsz:size<=400)(hk:k<14)(ht:turn<18446744073709551616)(hm:m<=79)(hy:∀ i,y i<256)(hs:eA v B off m y)(hsl:slot<nb)(hn1:14<=nd)(hnd:nd<=18)(hnb:nb<=64)
  (hx:v.cell? ⟨X,0,none⟩=some (.pointer (some ⟨D,0,none⟩))) (hD:DiskG D DB DA RB RA nd nb s v) (hV:v.heap[V]?=some (.cells (aL id size turn slot good) 81)) :
  aK Tryz.prog 54 #[.pointer (some ⟨X,0,none⟩),.pointer (some ⟨V,0,none⟩),.int .i64 (k:Nat),.slice (some ⟨B,off,none⟩) m cp] S v fun x S' v'=>x=.tuple #[]∧S'=S∧Kp v (fun b=>b=V∨eK D RB RA nd b) v'∧DiskG D DB DA RB RA nd nb (s.wr k slot (aY id size turn k m y)) v'∧v'.heap[V]?=some (.cells (aL id size turn slot fun j=>if j=k then true else good j) 81):=by
 refine qT Tryz.func54 rfl Tryz.ntmps54 fun Stop cc cs ret f0 g0 g1 g2 g3=>?_
 repeat refine rN ?_
 refine jN (by kernel_rfl) (by kernel_rfl) (by kernel_rfl) 15 [0,1,2,3,4,5,6,7,8,9,10,11,12,13,14] (by kernel_rfl) (zbI X D V id size turn slot k m cp B off good y) (fun S' w=>S'=S∧Ext v w) (fun S' f w=>S'=S∧Kp v (eK D RB RA nd) w∧DiskG D DB DA RB RA nd nb (s.wr k slot (aY id size turn k m y)) w) (fun S' w w' h hE=>⟨h.1,h.2.trans _ _ _ hE⟩) (fun S' i f x w w' hi hA hm'=>?_) (fun j x w w' h hE=>h) ?_ ⟨rfl,.refl _⟩ ?_ ?_ ?_
 .exfalso;have hi':i<16:=hi;simp at hA;omega
 .intro j hj he x w h;have hj':j<16:=hj;rcases(by omega:j=0∨j=1∨j=2∨j=3∨j=4∨j=5∨j=6∨j=7∨j=8∨j=9∨j=10∨j=11∨j=12∨j=13∨j=14∨j=15) with rfl|rfl|rfl|rfl|rfl|rfl|rfl|rfl|rfl|rfl|rfl|rfl|rfl|rfl|rfl|rfl
  .cases he
  .cases he
  .cases he
  .cases he
  .cases he
  .cases he
  .cases he
  .cases he
  .cases he
  .cases he
  .cases he
  .cases he
  .cases he
  .cases he
  .cases he
  .exact trivial
 .intro i f S1 w rest hi hne hB hf hd nxt;have q0:f 0=.pointer (some ⟨X,0,none⟩):=(hf 0 (aW (by kernel_rfl))).trans g0;have q1:f 1=.pointer (some ⟨V,0,none⟩):=(hf 1 (aW (by kernel_rfl))).trans g1;have q2:f 2=.int .i64 (k:Nat):=(hf 2 (aW (by kernel_rfl))).trans g2;have q3:f 3=.slice (some ⟨B,off,none⟩) m cp:=(hf 3 (aW (by kernel_rfl))).trans g3;have hi':i<16:=hi
  obtain⟨eS,hE⟩:=hB (by
   simp
   omega)
  subst S1;have hxw:=hE.cell hx;have hVw:=hE.row hV;have hv3:w.cell? ⟨V,3,none⟩=some (.int .i64 (slot:Nat)):=(cell_of_row _ _ _ _ _ _ hVw).trans rfl;clear hf hB;rcases(by omega:i=0∨i=1∨i=2∨i=3∨i=4∨i=5∨i=6∨i=7∨i=8∨i=9∨i=10∨i=11∨i=12∨i=13∨i=14∨i=15) with rfl|rfl|rfl|rfl|rfl|rfl|rfl|rfl|rfl|rfl|rfl|rfl|rfl|rfl|rfl|rfl
  .skip;clear hd;refine rY aB ?_;exact nxt _ w (.refl w) rfl
  .skip;have d0:f 8=.pointer (some ⟨X,0,none⟩):=hd 0 (aD (by kernel_rfl));clear hd;refine rY aB ?_;exact nxt _ w (.refl w) rfl
  .skip;have d1:f 9=.pointer (some ⟨X,0,none⟩):=hd 1 (aD (by kernel_rfl));clear hd;refine rY aB ?_;exact nxt _ w (.refl w) rfl
  .skip;have d2:f 10=.pointer (some ⟨X,0,none⟩):=hd 2 (aD (by kernel_rfl));clear hd;(refine rO aB rfl ?_;intro _ hu_ K_ hK_;(have hc:=(Ext.twin hu_).cell hxw);go_simp;(try rw[wI _]);(try rw[wU _]);refine hK_ _ ?_;clear hK_ K_ hu_;simp only[sS,sN]);exact nxt _ w (.refl w) rfl
  .skip;clear hd;refine rY aB ?_;exact nxt _ w (.refl w) rfl
  .skip;clear hd;refine rY aB ?_;exact nxt _ w (.refl w) rfl
  .skip;have d5:f 13=.pointer (some ⟨V,0,none⟩):=hd 5 (aD (by kernel_rfl));clear hd;refine rY aB ?_;exact nxt _ w (.refl w) rfl
  .skip;have d6:f 14=.pointer (some ⟨V,0,none⟩):=hd 6 (aD (by kernel_rfl));clear hd;refine rY aB ?_;exact nxt _ w (.refl w) rfl
  .skip;have d7:f 15=.pointer (some ⟨V,3,none⟩):=hd 7 (aD (by kernel_rfl));clear hd;(refine rO aB rfl ?_;intro _ hu_ K_ hK_;(have hc:=(Ext.twin hu_).cell hv3);go_simp;(try rw[wI _]);(try rw[wU _]);refine hK_ _ ?_;clear hK_ K_ hu_;simp only[sS,sN]);exact nxt _ w (.refl w) rfl
  .skip;clear hd;refine rY aB ?_;exact nxt _ w (.refl w) rfl
  .skip;have d9:f 17=.pointer (some ⟨V,0,none⟩):=hd 9 (aD (by kernel_rfl));clear hd;refine rY aB ?_;exact nxt _ w (.refl w) rfl
  .skip;have d10:f 18=.pointer (some ⟨V,0,none⟩):=hd 10 (aD (by kernel_rfl));clear hd;refine cH aB rfl rfl (by kernel_rfl) (fun u hu=>jX (x:=.tmp 18) (b:=V) rfl (by simp[d10]) ((Ext.twin hu).row hVw)) ?_;exact nxt _ w (.refl w) rfl
  .skip;clear hd;refine rY aB ?_;exact nxt _ w (.refl w) rfl
  .skip;clear hd;refine rY aB ?_;exact nxt _ w (.refl w) rfl
  .skip;have d11:f 19=.agg (aL id size turn slot good):=hd 11 (aD (by kernel_rfl));have d12:f 20=.int .i64 (k:Nat):=hd 12 (aD (by kernel_rfl));have d13:f 21=.slice (some ⟨B,off,none⟩) m cp:=hd 13 (aD (by kernel_rfl));clear hd;refine dK Tryz.func79 (Hk id size turn slot k m cp B off good y hid hsz hk ht hm hy (hs.ext hE)) ?_;rintro _ S1 w2 _ ⟨rfl,e1,hE2⟩;subst S1;exact nxt _ w2 hE2 rfl
  .exact absurd rfl hne
 .rintro f S1 w rest ⟨eS,hB⟩ hf hd nxt;subst S1;have d3:f 11=.pointer (some ⟨D,0,none⟩):=hd 3 (by simp);have d4:f 12=.int .i64 (k:Nat):=hd 4 (by simp);have d8:f 16=.int .i64 (slot:Nat):=hd 8 (by simp);have d14:f 22=.agg (aC 96 (aY id size turn k m y)):=hd 14 (by simp);clear hd;refine dK Tryz.func61 (yM k slot (aY id size turn k m y) (by omega) hsl hnd hnb (Ga hy) (hD.ext hB)) ?_;rintro _ S1 w2 _ ⟨rfl,e1,hK2,hD2⟩;subst S1;exact nxt (.tuple #[]) S w2 ⟨rfl,((Kp.refl v _).ext hB).trans hK2,hD2⟩ trivial fun j x hj h=>h
 .rintro f S1 w ⟨eS,hK,hD'⟩ hf hd;subst S1;have q1:f 1=.pointer (some ⟨V,0,none⟩):=(hf 1 (aW (by kernel_rfl))).trans g1;have q2:f 2=.int .i64 (k:Nat):=(hf 2 (aW (by kernel_rfl))).trans g2;clear hf hd;have hVn:¬eK D RB RA nd V:=by
   rintro(h|⟨d,hd,h|h⟩)
   .exact bU hV hD.row (by decide) h
   .exact bU hV (hD.rb d hd) (by decide) h
   .exact bU hV (hD.ra d hd) (by decide) h
  have hVw:=hK.cells _ _ _ _ hVn hV;have hkI:(k:Int)<14:=by omega
  repeat refine rN ?_
  refine eT aB rfl rfl (by kernel_rfl) (x:=.tmp 28) (y:=.const (.bool true)) (g:=V) (j:=4+k) (z:=.bool true) rfl (by simp) (by simp) rfl rfl hVw (by simp[aL];omega) (by kernel_rfl) fun w3 hW3=>?_
  simp only[stO_none];rw[Fa hk]at hW3;repeat refine rN ?_
  refine iT ?_;refine ret _ _ S w3 (.tuple #[]) ?_ ⟨rfl,rfl,(hK.mono fun b h=>.inr h).wr (.inl (.inl rfl)) hW3,hD'.kp ((Kp.refl w (fun b=>b=V)).wr (.inl rfl) hW3) (fun e=>hVn (.inl e.symm)) (fun e=>bU hVw hD'.db (by decide) e.symm) (fun e=>bU hVw hD'.da (by decide) e.symm) (fun d hd=>⟨fun e=>hVn (.inr ⟨d,hd,.inl e.symm⟩),fun e=>hVn (.inr ⟨d,hd,.inr e.symm⟩)⟩),hW3.at_⟩
  simp[results,Tryz.results54]
end
theorem Hy(l:List Nat):∀ n,(∀ j,j<n->j∈l)∨∃ p,p<n∧p ∉ l∧∀ j,j<p->j∈l
 |0=>.inl fun j hj=>by omega
 |n+1=>by
  rcases Hy l n with h|⟨p,h1,h2,h3⟩
  .by_cases hn:n∈l
   .exact .inl fun j hj=>by
     by_cases e:j=n
     .rw[e];exact hn
     .exact h j (by omega)
   .exact .inr ⟨n,by omega,hn,h⟩
  .exact .inr ⟨p,by omega,h2,h3⟩
theorem In:∀ (n:Nat) (l:List Nat),(∀ j,j<n->j∈l)->n<=l.length
 |0,l,_=>Nat.zero_le _
 |n+1,l,h=>by
  have hn:=h n (by omega);have:=In n (l.erase n) fun j hj=>(List.mem_erase_of_ne (by omega)).2 (h j (by omega))
  rw[List.length_erase_of_mem hn]at this;have hp:=List.length_pos_of_mem hn;omega
theorem Ss{l:List Nat}{n:Nat}(h:l.length<n):∃ p,p<n∧p ∉ l∧∀ j,j<p->j∈l:=by
 rcases Hy l n with h1|h1
 .have:=In n l h1;omega
 .exact h1
theorem Ew{α : Type} : ∀ {l:List α} {n:Nat} {p:α},l.Nodup->p ∉ l->(l.set n p).Nodup
 |[],n,p,h,_=>h
 |x :: l,0,p,h,hp=>by
  have h':=List.nodup_cons.1 h;exact List.nodup_cons.2 ⟨fun q=>hp (List.mem_cons_of_mem _ q),h'.2⟩
 |x :: l,n+1,p,h,hp=>by
  have h':=List.nodup_cons.1 h;refine List.nodup_cons.2 ⟨fun q=>?_,Ew h'.2 fun q=>hp (List.mem_cons_of_mem _ q)⟩
  rcases List.mem_or_eq_of_mem_set q with q|q
  .exact h'.1 q
  .exact hp (by rw[<-q];exact List.mem_cons_self ..)
theorem yO{α : Type}{l:List α}{n:Nat}{x:α}(h:l[n]?=some x):l.set n x=l:=by
 apply List.ext_getElem?;intro i;rw[List.getElem?_set];by_cases e:n=i
 .subst e;have hb:l[n]'(List.getElem?_eq_some_iff.1 h).1=x:=(List.getElem?_eq_some_iff.1 h).2;simp[h,(List.getElem?_eq_some_iff.1 h).1,hb]
 .simp[e]
structure PutOk(L:List Ent)(e:Ent)(clock:Nat):Prop where
 ids:((bR L e clock).map (·.id))=if (aM e.id L 0).isSome then L.map (·.id) else L.map (·.id)++[e.id]
 idn:((bR L e clock).map (·.id)).Nodup
 slots:((bR L e clock).map (·.slot)).Nodup
 borns:((bR L e clock).map (·.born)).Nodup
 lt:∀ x∈bR L e clock,x.born<jF L e.id clock
 mem:∀ x∈bR L e clock,(∃ b,x={e with born:=b})∨(x∈L∧x.id≠e.id)
 has:∃ b,{e with born:=b}∈bR L e clock
theorem zK{L:List Ent}{e:Ent}{clock:Nat}(h1:(L.map (·.id)).Nodup)(h2:(L.map (·.slot)).Nodup)(h3:(L.map (·.born)).Nodup)(hc:∀ x∈L,x.born<clock)(hs:∀ x∈L,x.slot≠e.slot):PutOk L e clock:=by
 have hs':e.slot ∉ L.map (·.slot):=fun q=>by
  obtain⟨x,hx,q⟩:=List.mem_map.1 q;exact hs x hx q
 cases h:aM e.id L 0 with
 |none=>
  have hi:e.id ∉ L.map (·.id):=fun q=>by
   obtain⟨x,hx,q⟩:=List.mem_map.1 q;exact tY h x hx q
  have hb:clock ∉ L.map (·.born):=fun q=>by
   obtain⟨x,hx,q⟩:=List.mem_map.1 q;have:=hc x hx;omega
  have app:∀ {l:List Nat} {a:Nat},l.Nodup->a ∉ l->(l++[a]).Nodup:=fun hl ha=>by
   rw[List.nodup_append]
   exact⟨hl,by simp,fun x hx y hy e=>by
    simp at hy;subst hy e
    exact ha hx⟩
  have hp:bR L e clock=L++[{e with born:=clock}]:=by simp only[bR,h]
  refine⟨by rw[hp,h];simp,?_,?_,?_,fun x hx=>?_,fun x hx=>?_,clock,?_⟩
  .rw[hp,List.map_append];exact app h1 hi
  .rw[hp,List.map_append];exact app h2 hs'
  .rw[hp,List.map_append];exact app h3 hb
  .rw[hp]at hx;simp only[jF,h];rcases List.mem_append.1 hx with hx|hx
   .have:=hc x hx;omega
   .simp at hx;subst hx;exact Nat.lt_succ_self _
  .rw[hp]at hx;rcases List.mem_append.1 hx with hx|hx
   .exact .inr ⟨hx,tY h x hx⟩
   .simp at hx;exact .inl ⟨clock,hx⟩
  .rw[hp];simp
 |some q=>
  obtain⟨n,old⟩:=q;obtain⟨n',hn,hget,hid⟩:=dN h;obtain rfl:n=n':=by omega
  have hp:bR L e clock=L.set n {e with born:=old.born}:=by simp only[bR,h]
  have hold:old∈L:=List.mem_of_getElem? hget;have ids':(bR L e clock).map (·.id)=L.map (·.id):=by
   rw[hp,List.map_set];exact yO (by rw[List.getElem?_map,hget];simp[hid])
  have borns':(bR L e clock).map (·.born)=L.map (·.born):=by
   rw[hp,List.map_set];exact yO (by rw[List.getElem?_map,hget];rfl)
  refine⟨by rw[ids',h];simp,by rw[ids'];exact h1,?_,by rw[borns'];exact h3,fun x hx=>?_,fun x hx=>?_,old.born,?_⟩
  .rw[hp,List.map_set];exact Ew h2 hs'
  .simp only[jF,h];rw[hp]at hx;rcases List.mem_or_eq_of_mem_set hx with hx|hx
   .exact hc x hx
   .rw[hx];exact hc old hold
  .have hx':=hx;rw[hp]at hx;by_cases e1:x.id=e.id
   .left;refine⟨old.born,iA (L:=bR L e clock) (f:=(·.id)) (by rw[ids'];exact h1) hx' ?_ e1⟩;rw[hp];exact List.mem_iff_getElem?.2 ⟨n,by rw[List.getElem?_set];simp[(List.getElem?_eq_some_iff.1 hget).1]⟩
   .rcases List.mem_or_eq_of_mem_set hx with hx|hx
    .exact .inr ⟨hx,e1⟩
    .exact .inl ⟨_,hx⟩
  .rw[hp];exact List.mem_iff_getElem?.2 ⟨n,by rw[List.getElem?_set];simp[(List.getElem?_eq_some_iff.1 hget).1]⟩
def jU(s:Dsk)(p:Nat)(B:Nat->Nat->Nat):Nat->Dsk
 |0=>s
 |n+1=>(jU s p B n).wr n p (B n)
theorem sD(s:Dsk)(p:Nat)(B:Nat->Nat->Nat)(n d q i:Nat):(jU s p B n).c d q i=if q=p∧d<n then B d i else s.c d q i:=by
 induction n with
 |zero=>rw[if_neg (by omega)];rfl
 |succ n ih=>
  show aT (jU s p B n).c n p (B n) d q i=_;unfold aT;by_cases h1:d=n∧q=p
  .rw[if_pos h1,if_pos ⟨h1.2,by omega⟩,h1.1]
  .rw[if_neg h1,ih];by_cases h2:q=p∧d<n
   .rw[if_pos h2,if_pos ⟨h2.1,by omega⟩]
   .rw[if_neg h2,if_neg (by omega)]
section
variable {X D DB DA M:Nat}{RB RA:Nat->Nat}{nd nb turn:Nat}{s:Dsk}{L:List Ent}{w w' v:World}{S:Nat->Prop}
theorem EntOk.more{c:Nat->Nat->Nat->Nat}{e:Ent}(h:EntOk nb turn c e){t':Nat}(ht:turn<=t'){c':Nat->Nat->Nat->Nat}(hc:∀ d j,c' d e.slot j=c d e.slot j):EntOk nb t' c' e:=
 ⟨h.id1,h.id2,h.size,Nat.le_trans h.turn ht,h.slot,h.val,h.ten,fun k hk hgd j hj=>(hc k j).trans (h.blk k hk hgd j hj)⟩
theorem StE.xn(h:StE X D DB DA M RB RA nd nb turn s L w):¬eK D RB RA nd X:=by
 rintro(q|⟨d,hd,q|q⟩)
 .exact bU h.row h.dk.row (by decide) q
 .exact bU h.row (h.dk.rb d hd) (by decide) q
 .exact bU h.row (h.dk.ra d hd) (by decide) q
theorem jE{w:World}{M b clock:Nat}{L:List Ent}{x:Array Value}{t:TypeId}{fr:Nat×Nat}(h:w.heap[M]?=some (bM L clock))(h':w.heap[b]?=some (.cells x t fr)):M≠b:=fun e=>by
 rw[e,h']at h;cases h
theorem StE.mn(h:StE X D DB DA M RB RA nd nb turn s L w):¬eK D RB RA nd M∧M≠X∧M≠DB∧M≠DA:=by
 obtain⟨cl,hm,_⟩:=h.map;refine⟨?_,jE hm h.row,jE hm h.dk.db,jE hm h.dk.da⟩;rintro(q|⟨d,hd,q|q⟩)
 .exact jE hm h.dk.row q
 .exact jE hm (h.dk.rb d hd) q
 .exact jE hm (h.dk.ra d hd) q
theorem StE.wrX(h:StE X D DB DA M RB RA nd nb turn s L w){t':Nat}(ht:turn<=t')(hW:Wr w X (.cells #[.pointer (some ⟨D,0,none⟩),.map (some M),.int .u64 (t':Nat)] 76) w'):StE X D DB DA M RB RA nd nb t' s L w':=
 ⟨hW.at_,let ⟨cl,q1,q2⟩:=h.map;⟨cl,aO hW q1 h.mn.2.1,q2⟩,h.dk.kp ((Kp.refl w (fun b=>b=X)).wr (.inl rfl) hW) (fun e=>h.xn (.inl e.symm)) (fun e=>bU h.row h.dk.db (by decide) e.symm) (fun e=>bU h.row h.dk.da (by decide) e.symm) (fun d hd=>⟨fun e=>h.xn (.inr ⟨d,hd,.inl e.symm⟩),fun e=>h.xn (.inr ⟨d,hd,.inr e.symm⟩)⟩),fun e he=>(h.ent e he).more ht fun _ _=>rfl,h.ids,h.slots,h.borns⟩
def nH(L:List Ent)(X id size tn p nb V:Nat)(j:Nat)(x:Value)(w:World):Prop:=
 match j with
 |0=>x=.int .i64 (id:Nat)
 |1=>x=.int .i64 (size:Nat)
 |2=>x=.pointer (some ⟨X,0,none⟩)
 |3=>x=.pointer (some ⟨X,0,none⟩)
 |4=>x=.pointer (some ⟨X,2,none⟩)
 |5=>x=.int .u64 (tn:Nat)
 |6=>x=.agg (bC id size tn)
 |7=>x=.pointer (some ⟨X,0,none⟩)
 |8=>∃ g t,x=.slice (some ⟨g,0,none⟩) nb nb∧w.heap[g]?=some (.cells (gA nb t) 4)∧(∀ e∈L,t e.slot=true)∧∀ j,t j=true->∃ e∈L,e.slot=j
 |9=>x=.int .i64 (p:Nat)
 |10=>x=.agg (aL id size tn p fun _=>false)
 |11=>∃ g,x=.pointer (some ⟨g,0,none⟩)∧V<=g∧∃ c:Array Value,c.size=18∧w.heap[g]?=some (.cells c 81)
 |_=>True
theorem Ql(L:List Ent)(X id size tn p nb V:Nat):∀ j x w w',nH L X id size tn p nb V j x w->Ext w w'->nH L X id size tn p nb V j x w':=by
 intro j x w w' h hE;unfold nH at h ⊢;split at h<;>first|exact h|skip
 .obtain⟨g,t,e,h1,h2⟩:=h;exact⟨g,t,e,hE.row h1,h2⟩
 .obtain⟨g,e,h1,c,h2,hg⟩:=h;exact⟨g,e,h1,c,h2,hE.row hg⟩
theorem Uo{L:List Ent}{X id size tn p nb V g:Nat}{w w':World}{cc:Array Value}(hc:cc.size=18)(hg0:∃ c0,w.heap[g]?=some (.cells c0 81))(hW:Wr w g (.cells cc 81) w'):∀ j x,nH L X id size tn p nb V j x w->nH L X id size tn p nb V j x w':=by
 intro j x h;obtain⟨c0,hg0⟩:=hg0;unfold nH at h ⊢;split at h<;>first|exact h|skip
 .obtain⟨g',t,e,h1,h2⟩:=h;exact⟨g',t,e,aO hW h1 (bU h1 hg0 (by decide)),h2⟩
 .obtain⟨g',e,h1,c,h2,hg⟩:=h;by_cases e':g'=g
  .subst e';exact⟨g',e,h1,_,hc,hW.at_⟩
  .exact⟨g',e,h1,c,h2,aO hW hg e'⟩
theorem Je(id size m p BA:Nat)(PB:Nat->Nat)(val:Nat->Nat)(hid1:1<=id)(hid:id<=9999)(hsz:size<=400)(hm:m=(size+9) / 10)(hval:∀ i,val i<256)(ht:turn<9223372036854775808)(hb4:4<=nb)(hn1:14<=nd)(hnd:nd<=18)(hnb:nb<=64)(hX:StE X D DB DA M RB RA nd nb turn s L v)
  (hp:p<nb) (hpf:∀ e∈L,e.slot≠p) (hpl:∀ j,j<p->∃ e∈L,e.slot=j)
  (hBA:v.heap[BA]?=some (.cells (allA fun k=>sl (PB k) m) 48)) (hPB:∀ k,k<14->v.heap[PB k]?=some (.cells (aC m (bG val size k)) 5)) (hcl:∀ k i,bG val size k i<256) :
  aK Tryz.prog 42 #[.pointer (some ⟨X,0,none⟩),.int .i64 (id:Nat),.int .i64 (size:Nat),sl BA 14] S v fun x S' v'=>x=.tuple #[]∧S'=S∧Kp v (bN X D M RB RA nd) v'∧∃ clock,PutOk L ⟨id,size,turn+1,p,val,fun _=>true,0⟩ clock∧StE X D DB DA M RB RA nd nb (turn+1) (jU s p (fun k=>aY id size (turn+1) k ((size+9) / 10) (bG val size k)) 14) (bR L ⟨id,size,turn+1,p,val,fun _=>true,0⟩ clock) v':=by
 refine qT Tryz.func42 rfl Tryz.ntmps42 fun Stop cc cs ret f0 g0 g1 g2 g3=>?_
 have hm79:m<=79:=by omega
 have HM:=aE hm;clear hm;have c2:=hX.c2;have hw1:IntKind.u64.wrap ((turn:Int)+1)=((turn+1:Nat):Int):=by rw[IntKind.wrap_u64];omega
 have HW:=aE hw1;clear hw1;repeat refine rM c2 ?_
 refine eT aB rfl rfl (by kernel_rfl) (x:=.tmp 17) (y:=.tmp 15) (g:=X) (j:=2) (z:=.int .u64 ((turn+1:Nat):Int)) rfl (by simp) (by simp[HW.out]) rfl rfl hX.row (by simp) (by kernel_rfl) fun w1 hW1=>?_
 simp only[stO_none];obtain⟨tn,htn⟩:∃ tn,tn=turn+1:=⟨_,rfl⟩;rw[<-htn]at hW1;have hX1:StE X D DB DA M RB RA nd nb tn s L w1:=hX.wrX (by omega) hW1;have c2':=hX1.c2;have htl:tn<9223372036854775810:=by omega
 have HT:=aE htn;clear htn;repeat refine rN ?_
 refine jN (by kernel_rfl) (by kernel_rfl) (by kernel_rfl) 12 [0,1,2,3,4,5,6,7,8,9,10,11] (by kernel_rfl) (nH L X id size tn p nb w1.heap.size) (fun S' w=>S'=S∧Ext w1 w) (fun S' f w=>S'=S∧Ext w1 w∧∃ g,f 8=.pointer (some ⟨g,0,none⟩)∧w1.heap.size<=g∧w.heap[g]?=some (.cells (aL id size tn p fun _=>false) 81)) (fun S' w w' h hE=>⟨h.1,h.2.trans _ _ _ hE⟩) (fun S' i f x w w' hi hA hm'=>?_) (Ql _ _ _ _ _ _ _ _) ?_ ⟨rfl,.refl _⟩ ?_ ?_ ?_
 .exfalso;have hi':i<13:=hi;simp at hA;omega
 .intro j hj he x w h;have hj':j<13:=hj;rcases(by omega:j=0∨j=1∨j=2∨j=3∨j=4∨j=5∨j=6∨j=7∨j=8∨j=9∨j=10∨j=11∨j=12) with rfl|rfl|rfl|rfl|rfl|rfl|rfl|rfl|rfl|rfl|rfl|rfl|rfl
  .cases he
  .cases he
  .cases he
  .cases he
  .cases he
  .cases he
  .cases he
  .cases he
  .cases he
  .cases he
  .cases he
  .cases he
  .exact trivial
 .intro i f S1 w rest hi hne hB hf hd nxt;have q0:f 0=.pointer (some ⟨X,0,none⟩):=(hf 0 (aW (by kernel_rfl))).trans (by simp[g0]);have q1:f 1=.int .i64 (id:Nat):=(hf 1 (aW (by kernel_rfl))).trans (by simp[g1]);have q2:f 2=.int .i64 (size:Nat):=(hf 2 (aW (by kernel_rfl))).trans (by simp[g2]);have hi':i<13:=hi
  obtain⟨eS,hE⟩:=hB (by
   simp
   omega)
  subst S1;have hcw:=hE.cell c2';have hXw:=hX1.ext hE;clear hf hB;rcases(by omega:i=0∨i=1∨i=2∨i=3∨i=4∨i=5∨i=6∨i=7∨i=8∨i=9∨i=10∨i=11∨i=12) with rfl|rfl|rfl|rfl|rfl|rfl|rfl|rfl|rfl|rfl|rfl|rfl|rfl
  .skip;clear hd;refine rY aB ?_;exact nxt _ w (.refl w) rfl
  .skip;clear hd;refine rY aB ?_;exact nxt _ w (.refl w) rfl
  .skip;clear hd;refine rY aB ?_;exact nxt _ w (.refl w) rfl
  .skip;have d2:f 20=.pointer (some ⟨X,0,none⟩):=hd 2 (aD (by kernel_rfl));clear hd;refine rY aB ?_;exact nxt _ w (.refl w) rfl
  .skip;have d3:f 21=.pointer (some ⟨X,0,none⟩):=hd 3 (aD (by kernel_rfl));clear hd;refine rY aB ?_;exact nxt _ w (.refl w) rfl
  .skip;have d4:f 22=.pointer (some ⟨X,2,none⟩):=hd 4 (aD (by kernel_rfl));clear hd;(refine rO aB rfl ?_;intro _ hu_ K_ hK_;(have hc:=(Ext.twin hu_).cell hcw);go_simp;(try rw[wI _]);(try rw[wU _]);refine hK_ _ ?_;clear hK_ K_ hu_;simp only[sS,sN]);exact nxt _ w (.refl w) rfl
  .skip;have d0:f 18=.int .i64 (id:Nat):=hd 0 (aD (by kernel_rfl));have d1:f 19=.int .i64 (size:Nat):=hd 1 (aD (by kernel_rfl));have d5:f 23=.int .u64 (tn:Nat):=hd 5 (aD (by kernel_rfl));clear hd;refine rY aB ?_;exact nxt _ w (.refl w) rfl
  .skip;clear hd;refine rY aB ?_;exact nxt _ w (.refl w) rfl
  .skip;have d7:f 25=.pointer (some ⟨X,0,none⟩):=hd 7 (aD (by kernel_rfl));clear hd;refine dK Tryz.func59 (Fs hb4 hn1 hnd hnb hXw) ?_;rintro _ S1 w2 _ ⟨e1,hE2,g,t,rfl,hg,h1,h2⟩;subst S1;exact nxt _ w2 hE2 ⟨g,t,rfl,hg,h1,h2⟩
  .skip;obtain⟨g,t,d8,hg,h1,h2⟩:∃ g t,f 26=.slice (some ⟨g,0,none⟩) nb nb∧w.heap[g]?=some (.cells (gA nb t) 4)∧(∀ e∈L,t e.slot=true)∧∀ j,t j=true->∃ e∈L,e.slot=j:=hd 8 (aD (by kernel_rfl));clear hd;have ht1:t p=false:=by
    cases h:t p with
    |false=>rfl
    |true=>
     obtain⟨e,he,h3⟩:=h2 p h;exact absurd h3 (hpf e he)
   have ht2:∀ j,j<p->t j=true:=fun j hj=>by
    obtain⟨e,he,h3⟩:=hpl j hj;rw[<-h3];exact h1 e he
   refine dK Tryz.func53 (Yk g nb t p hnb hp ht1 ht2 hg) ?_;rintro _ S1 w2 _ ⟨rfl,e1,e2⟩;subst S1 w2;exact nxt _ w (.refl w) rfl
  .skip;have d6:f 24=.agg (bC id size tn):=hd 6 (aD (by kernel_rfl));have d9:f 27=.int .i64 (p:Nat):=hd 9 (aD (by kernel_rfl));clear hd;unfold bC at d6;refine rY aB ?_;exact nxt _ w (.refl w) rfl
  .skip;clear hd;refine cQ aB rfl rfl (by kernel_rfl) (.agg (aL 0 0 0 0 fun _=>false)) rfl (by kernel_rfl) fun w3 hE3 hb3 hs3=>?_
   exact nxt _ w3 hE3 ⟨_,rfl,hE.size,_,rfl,hb3⟩
  .exact absurd rfl hne
 .rintro f S1 w rest ⟨eS,hB⟩ hf hd nxt;subst S1;obtain⟨g,d11,hVg,c0,hc0,hg⟩:∃ g,f 8=.pointer (some ⟨g,0,none⟩)∧w1.heap.size<=g∧∃ c:Array Value,c.size=18∧w.heap[g]?=some (.cells c 81):=hd 11 (by simp);have d10:f 28=.agg (aL id size tn p fun _=>false):=hd 10 (by simp)
  clear hd;refine dF aB rfl rfl (by kernel_rfl) (x:=.tmp 8) (y:=.tmp 28) (g:=g) (c:=aL id size tn p fun _=>false) rfl (by simp[d11]) (by simp[d10]) hg (by kernel_rfl) hc0 (by simp[aL,Value.oneCell']) fun w3 hW=>?_
  exact nxt undef S w3 ⟨rfl,bL hB hVg hW,g,d11,hVg,hW.at_⟩ trivial fun j x' hj h=>Uo rfl ⟨_,hg⟩ hW j x' h
 .rintro f S1 w ⟨eS,hEw,V,q8,hVV,hV⟩ hf hd;subst S1;have q0:f 0=.pointer (some ⟨X,0,none⟩):=(hf 0 (aW (by kernel_rfl))).trans (by simp[g0]);have q1:f 1=.int .i64 (id:Nat):=(hf 1 (aW (by kernel_rfl))).trans (by simp[g1]);have q3:f 3=sl BA 14:=(hf 3 (aW (by kernel_rfl))).trans (by simp[g3]);clear hf hd g0 g1 g2 g3;have hXw:=hX1.ext hEw;have hKv:Kp v (bN X D M RB RA nd) w:=((Kp.refl v _).wr (.inl (.inl rfl)) hW1).ext hEw;have hBAw:w.heap[BA]?=some (.cells (allA fun k=>sl (PB k) m) 48):=hEw.row (aO hW1 hBA (bU hBA hX.row (by decide)))
  have hPBw:∀ k,k<14->w.heap[PB k]?=some (.cells (aC m (bG val size k)) 5):=fun k hk=>hEw.row (aO hW1 (hPB k hk) (bU (hPB k hk) hX.row (by decide)))
  obtain⟨clock,hmw,hbn⟩:=hXw.map;have hMV:M≠V:=jE hmw hV;have own:∀ {b:Nat} {x:Array Value} {t:TypeId} {fr:Nat×Nat},w.heap[b]?=some (.cells x t fr)->t≠81->t≠104->t≠107->¬(b=V∨eK D RB RA nd b):=fun hb h1 h2 h3=>by
   rintro(h|h|⟨d,hd,h|h⟩)
   .exact bU hb hV h1 h
   .exact bU hb hXw.dk.row h2 h
   .exact bU hb (hXw.dk.rb d hd) h3 h
   .exact bU hb (hXw.dk.ra d hd) h3 h
  obtain⟨BK,hBK⟩:∃ BK:Nat->Nat->Nat,BK=fun k=>aY id size tn k m (bG val size k):=⟨_,rfl⟩
  repeat refine rN ?_
  refine bT (fun d f' S' w'=>∃ k,d=14 - k∧k<=14∧S'=S∧Kp w (fun b=>b=V∨eK D RB RA nd b) w'∧DiskG D DB DA RB RA nd nb (jU s p BK k) w'∧w'.heap[V]?=some (.cells (aL id size tn p fun j=>decide (j<k)) 81)∧f' 0=.pointer (some ⟨X,0,none⟩)∧f' 1=.int .i64 (id:Nat)∧f' 8=.pointer (some ⟨V,0,none⟩)∧f' 29=sl BA 14∧f' 30=.int .i64 14∧f' 31=.int .i64 (k:Nat)) 14 ⟨0,by omega,by omega,rfl,.refl _ _,hXw.dk,by simpa using hV,by simp[q0],by simp[q1],by simp[q8],by simp[q3],by simp[q3,sl],by simp⟩ ?_
  clear q0 q1 q3 q8 f;rintro d f S' w' ⟨k,rfl,hk,eS,hK,hD,hV',q0,q1,q8,q29,q30,q31⟩ nxt;subst S';have hXc:w'.heap[X]?=some _:=hK.cells _ _ _ _ (own hXw.row (by decide) (by decide) (by decide)) hXw.row;have hx0:w'.cell? ⟨X,0,none⟩=some (.pointer (some ⟨D,0,none⟩)):=(cell_of_row _ _ _ _ _ _ hXc).trans rfl;have hx1:w'.cell? ⟨X,1,none⟩=some (.map (some M)):=(cell_of_row _ _ _ _ _ _ hXc).trans rfl;repeat refine rN ?_
  by_cases hlt:k<14
  .have hkI:(k:Int)<14:=by omega
   have cB:w'.cell? ⟨BA,k,none⟩=some (sl (PB k) m):=by
    rw[cell_of_row _ _ _ _ _ _ (hK.cells _ _ _ _ (own hBAw (by decide) (by decide) (by decide)) hBAw)];exact jQ _ k hlt
   have hBy:eA w' (PB k) 0 m (bG val size k):=fun i hi=>by
    rw[Nat.zero_add,cell_of_row _ _ _ _ _ _ (hK.cells _ _ _ _ (own (hPBw k hlt) (by decide) (by decide) (by decide)) (hPBw k hlt))];exact dZ _ _ _ hi
   refine rX (by simp[Act.eval,q31,q30,hkI]) ?_;repeat refine rM cB ?_
   unfold sl;refine rK Tryz.func54 (Dj V id size tn p k m m (PB k) 0 (fun j=>decide (j<k)) (bG val size k) hid hsz hlt (by omega) hm79 (hcl k) hBy hp hn1 hnd hnb hx0 hD hV') ?_;rintro _ S1 w2 _ ⟨rfl,e1,hK2,hD2,hV2⟩;subst S1;repeat refine rN ?_
   have hBk:aY id size tn k m (bG val size k)=BK k:=by rw[hBK]
   rw[hBk]at hD2;refine nxt _ _ _ (14 - (k+1)) (by omega) ⟨k+1,rfl,by omega,rfl,hK.trans hK2,hD2,?_,by simp[q0],by simp[q1],by simp[q8],by simp[q29,sl],by simp[q30],by simp⟩;rw[hV2];congr 2;refine congrArg (aL id size tn p) (funext fun j=>?_)
   by_cases e1:j=k
   .subst e1;simp
   .rw[if_neg e1];have:(j<k+1)↔j<k:=by omega
    simp[this]
  .obtain rfl:k=14:=by omega
   have hVe:w'.heap[V]?=some (.cells (bQ ⟨id,size,tn,p,val,fun _=>true,0⟩) 81):=hV'
   have hMo:¬(M=V∨eK D RB RA nd M):=by
    rintro(h|h)
    .exact hMV h
    .exact hXw.mn.1 h
   have hm':w'.heap[M]?=some (bM L clock):=hK.objs _ _ hMo hmw trivial;refine rZ (by simp[Act.eval,q31,q30]) ?_;refine bD rfl ?_;repeat refine rN ?_
   refine jC aB (by first|kernel_rfl|rfl) ?_
   simp only[List.size_toArray,List.length_cons,List.length_nil,Nat.reduceAdd,Nat.zero_add];refine cU 0 ?_;refine cU 1 ?_;refine cU 2 ?_;co_applyP cT (i:=3) rfl (fun _ hu_=>run_eq_of ?u3_3) ?v3_3
   case u3_3=>intro K_ hK_;(have hc:=(Ext.twin hu_).cell hx1);go_simp;(try rw[wI _]);(try rw[wU _]);exact hK_
   simp only[sS,sN];refine cU 4 ?_;co_applyP cT (i:=5) rfl (fun u hu_=>jX (x:=.tmp 8) (b:=V) rfl (by simp[q8]) ((Ext.twin hu_).row hVe)) ?v5;simp only[sS,sN];refine cL 6 ?_;refine wR rfl rfl rfl (x:=.tmp 44) (y:=.tmp 45) (z:=.tmp 46) (e:=⟨id,size,tn,p,val,fun _=>true,0⟩) (by simp) (by simp[q1]) (by simp;rfl) hm' fun w2 hW2=>?_
   simp only[stO_none];repeat refine rN ?_
   refine iT ?_;have hPO:=zK (e:=⟨id,size,tn,p,val,fun _=>true,0⟩) hX.ids hX.slots hX.borns hbn hpf
   have hK':Kp v (bN X D M RB RA nd) w':=⟨Nat.le_trans hKv.size hK.size,hK.os.trans hKv.os,hK.output.trans hKv.output,fun b o hb hc ht=>hK.objs b o (fun h=>by
    rcases h with h|h
    .have:=(Array.getElem?_eq_some_iff.1 hc).1;have h2:=hW1.size;omega
    .exact hb (.inr (.inr h))) (hKv.objs b o hb hc ht) ht⟩
   have htn:=HT.out;subst htn;have hBK':BK=fun k=>aY id size (turn+1) k ((size+9) / 10) (bG val size k):=by rw[hBK,<-HM.out]
   rw[hBK']at hD;refine ret _ _ S w2 (.tuple #[]) ?_ ⟨rfl,rfl,hK'.wr (.inl (.inr (.inl rfl))) hW2,clock,hPO,aO hW2 hXc (fun e=>hXw.mn.2.1 e.symm),⟨_,hW2.at_,hPO.lt⟩,hD.kp ((Kp.refl w' (fun b=>b=M)).wr (.inl rfl) hW2) (fun e=>hXw.mn.1 (.inl e.symm)) (fun e=>hXw.mn.2.2.1 e.symm) (fun e=>hXw.mn.2.2.2 e.symm) (fun d hd=>⟨fun e=>hXw.mn.1 (.inr ⟨d,hd,.inl e.symm⟩),fun e=>hXw.mn.1 (.inr ⟨d,hd,.inr e.symm⟩)⟩),fun e he=>?_,hPO.idn,hPO.slots,hPO.borns⟩
   .simp[results,Tryz.results42]
   .rcases hPO.mem e he with⟨b,rfl⟩|⟨he',_⟩
    .refine⟨hid1,hid,hsz,Nat.le_refl _,hp,hval,(by show 10<=aF (fun _=>true) 14;decide),fun k hk _ j hj=>?_⟩
     rw[sD,if_pos ⟨rfl,hk⟩]
    .refine(hX.ent e he').more (by omega) fun d j=>?_
     rw[sD,if_neg (fun q=>hpf e he' q.1)]
end
def kH(g:Nat->Bool):Array Value:=#[.bool (g 0),.bool (g 1),.bool (g 2),.bool (g 3),.bool (g 4),.bool (g 5),.bool (g 6),.bool (g 7),.bool (g 8),.bool (g 9),.bool (g 10),.bool (g 11),.bool (g 12),.bool (g 13)]
theorem Sr{g:Nat->Bool}{j:Nat}(h:j<14):(kH g)[j]?=some (.bool (g j)):=by
 rcases(by omega:j=0∨j=1∨j=2∨j=3∨j=4∨j=5∨j=6∨j=7∨j=8∨j=9∨j=10∨j=11∨j=12∨j=13) with rfl|rfl|rfl|rfl|rfl|rfl|rfl|rfl|rfl|rfl|rfl|rfl|rfl|rfl<;>rfl
theorem vZ:Tryz.zeroCells107=aC 96 fun _=>0:=pO.trans (wT 96)
def blk1(s:Dsk)(p:Nat)(good:Nat->Bool)(last:Bool):Nat->Dsk
 |0=>s
 |k+1=>if good k=last∧cC ((blk1 s p good last k).c k p) (fun _=>0) 0 96=false then(blk1 s p good last k).wr k p fun _=>0 else blk1 s p good last k
def gC(s:Dsk)(p:Nat)(good:Nat->Bool):Dsk:=blk1 (blk1 s p good false 14) p good true 14
theorem Ha{s:Dsk}{p:Nat}{good:Nat->Bool}{last:Bool}(n:Nat){d q:Nat}(h:q≠p):(blk1 s p good last n).c d q=s.c d q:=by
 induction n with
 |zero=>rfl
 |succ n ih=>
  unfold blk1;split
  .rw[<-ih];show aT (blk1 s p good last n).c n p (fun _=>0) d q=_;funext i;unfold aT;rw[if_neg (fun e=>h e.2)]
  .exact ih
theorem kQ{s:Dsk}{p:Nat}{good:Nat->Bool}{d q:Nat}(h:q≠p):(gC s p good).c d q=s.c d q:=(Ha 14 h).trans (Ha 14 h)
section
variable {X D DB DA M:Nat}{RB RA:Nat->Nat}{nd nb turn:Nat}{s:Dsk}{L:List Ent}{w w' v:World}{S:Nat->Prop}
theorem yZ(good:Nat->Bool)(p:Nat)(hp:p<nb)(hn1:14<=nd)(hnd:nd<=18)(hnb:nb<=64)(hx:v.heap[X]?=some (.cells #[.pointer (some ⟨D,0,none⟩),.map (some M),.int .u64 (turn:Nat)] 76))(hD:DiskG D DB DA RB RA nd nb s v) :
  aK Tryz.prog 43 #[.pointer (some ⟨X,0,none⟩),.int .i64 (p:Nat),.agg (kH good)] S v fun x S' v'=>x=.tuple #[]∧S'=S∧Kp v (eK D RB RA nd) v'∧DiskG D DB DA RB RA nd nb (gC s p good) v':=by
 obtain⟨ib,zb,ib1,ib2,ib3,ib4,ib5⟩:=Wc;refine kS Tryz.func43 rfl Tryz.ntmps43 fun Stop cc cs ret f g0 g1 g2=>?_
 repeat refine rN ?_
 refine bO (Q:=fun y w=>y=.pointer (some ⟨v.heap.size,0,none⟩)∧Ext v w∧w.heap[v.heap.size]?=some (.cells (kH good) 79)) aB rfl rfl (by kernel_rfl) (fun u hu=>⟨_,_,.inl (gM (x:=.tmp 2) (y:=.agg (kH good)) rfl (by simp[g2]) u),by rw[hu.heap],(Ext.twin hu).trans _ _ _ (Ext.alloc _ _),by rw[<-hu.heap];exact cI _ _⟩) ?_
 rintro _ w1 ⟨rfl,hE1,hb1⟩;simp only[stO_some];repeat refine rN ?_
 refine bO (Q:=fun y w=>y=.slice (some ⟨w1.heap.size,0,none⟩) 2 2∧Ext w1 w∧w.heap[w1.heap.size]?=some (.cells #[.bool false,.bool true] 4)) aB rfl rfl (by kernel_rfl) (fun u hu=>⟨_,_,.inl (Cx (x0:=.const (.bool false)) (x1:=.const (.bool true)) (y0:=.bool false) (y1:=.bool true) rfl Tryz.underlying68 ib1 ib2 ib3 ib5 rfl rfl rfl rfl u),by rw[hu.heap],(Ext.twin hu).trans _ _ _ (Ext.alloc _ _),by rw[<-hu.heap];exact cI _ _⟩) ?_
 rintro _ w2 ⟨rfl,hE2,hb2⟩;simp only[stO_some];repeat refine rN ?_
 have hE12:=hE1.trans _ _ _ hE2;have hD2:=hD.ext hE12;have hno:∀ {b:Nat} {x:Array Value} {t:TypeId} {fr:Nat×Nat},w2.heap[b]?=some (.cells x t fr)->t≠104->t≠107->¬eK D RB RA nd b:=fun hb h2 h3=>by
  rintro(h|⟨d,hd,h|h⟩)
  .exact bU hb hD2.row h2 h
  .exact bU hb (hD2.rb d hd) h3 h
  .exact bU hb (hD2.ra d hd) h3 h
 have hb1':=hE2.row hb1;refine bT (fun d f' S' w=>∃ i,d=2 - i∧i<=2∧S'=S∧Kp w2 (eK D RB RA nd) w∧DiskG D DB DA RB RA nd nb (if i=0 then s else if i=1 then blk1 s p good false 14 else gC s p good) w∧f' 0=.pointer (some ⟨X,0,none⟩)∧f' 1=.int .i64 (p:Nat)∧f' 5=.pointer (some ⟨v.heap.size,0,none⟩)∧f' 9=.slice (some ⟨w1.heap.size,0,none⟩) 2 2∧f' 10=.int .i64 2∧f' 11=.int .i64 (i:Nat)) 2 ⟨0,by omega,by omega,rfl,.refl _ _,hD2,by simp[g0],by simp[g1],by simp,by simp,by simp,by simp⟩ ?_
 clear g0 g1 g2 f;rintro d f S' w ⟨i,rfl,hi,eS,hKw,hDw,g0,g1,g5,g9,g10,g11⟩ nxt;subst S';repeat refine rN ?_
 by_cases hlt:i<2
 .have hiI:(i:Int)<2:=by omega
  have hci:w.cell? ⟨w1.heap.size,i,none⟩=some (.bool (decide (i=1))):=by
   rw[cell_of_row _ _ _ _ _ _ (hKw.cells _ _ _ _ (hno hb2 (by decide) (by decide)) hb2)];match i,hlt with
   |0,_=>rfl
   |1,_=>rfl
  refine rX (by simp[Act.eval,g11,hiI]) ?_;repeat refine rM hci ?_
  obtain⟨s1,last,hs1,hnx⟩:∃ s1 last,DiskG D DB DA RB RA nd nb s1 w∧decide (i=1)=last∧(if i+1=0 then s else if i+1=1 then blk1 s p good false 14 else gC s p good)=blk1 s1 p good last 14:=by
   match i,hlt with
   |0,_=>exact⟨s,false,hDw,rfl,rfl⟩
   |1,_=>exact⟨blk1 s p good false 14,true,hDw,rfl,rfl⟩
  obtain⟨hl1,hnx⟩:=hnx;rw[hl1]at hci ⊢;clear hl1 hDw;refine bT (fun d f' S' w'=>∃ k,d=14 - k∧k<=14∧S'=S∧Kp w2 (eK D RB RA nd) w'∧DiskG D DB DA RB RA nd nb (blk1 s1 p good last k) w'∧f' 0=.pointer (some ⟨X,0,none⟩)∧f' 1=.int .i64 (p:Nat)∧f' 5=.pointer (some ⟨v.heap.size,0,none⟩)∧f' 9=.slice (some ⟨w1.heap.size,0,none⟩) 2 2∧f' 10=.int .i64 2∧f' 11=.int .i64 (i:Nat)∧f' 7=.bool last∧f' 15=.int .i64 (k:Nat)) 14 ⟨0,by omega,by omega,rfl,hKw,hs1,by simp[g0],by simp[g1],by simp[g5],by simp[g9],by simp[g10],by simp[g11],by simp,by simp⟩ ?_;clear g0 g1 g5 g9 g10 g11 f;rintro d f S' w' ⟨k,rfl,hk,eS,hKw',hDw',g0,g1,g5,g9,g10,g11,g7,g15⟩ nxt2;subst S';repeat refine rN ?_
  by_cases hlk:k<14
  .have hkI:(k:Int)<14:=by omega
   have hck:w'.cell? ⟨v.heap.size,k,none⟩=some (.bool (good k)):=by
    rw[cell_of_row _ _ _ _ _ _ (hKw'.cells _ _ _ _ (hno hb1' (by decide) (by decide)) hb1')];exact Sr hlk
   have hxw:=hKw'.cells _ _ _ _ (hno (hE12.row hx) (by decide) (by decide)) (hE12.row hx);have c0:w'.cell? ⟨X,0,none⟩=some (.pointer (some ⟨D,0,none⟩)):=(cell_of_row _ _ _ _ _ _ hxw).trans rfl;refine rX (by simp[Act.eval,g15,hkI]) ?_;obtain⟨gk,hgk⟩:∃ gk,good k=gk:=⟨_,rfl⟩;have HG:=aE hgk;rw[hgk]at hck;clear hgk;rcases gk with _|_<;>rcases last with _|_
   .skip;repeat (first|refine rQ rfl ?_|(refine rO aB rfl ?_;intro _ hu_ K_ hK_;(have hc:=(Ext.twin hu_).cell hck;have hc':=(Ext.twin hu_).cell c0);go_simp;(try rw[wI _]);(try rw[wU _]);refine hK_ _ ?_;clear hK_ K_ hu_;simp only[sS,sN])|refine rW ?_)
    rw[vZ];refine rK Tryz.func60 (yU k p (fun _=>0) (by omega) hp hnd hnb hDw'.old) ?_;rintro _ S1 w3 _ ⟨rfl,e1,hE3⟩;subst S1;cases hq:cC ((blk1 s1 p good false k).c k p) (fun _=>0) 0 96 with
    |true=>
     repeat refine rN ?_
     refine rZ (by simp[Act.eval]) ?_;repeat refine rN ?_
     refine nxt2 _ _ _ (14 - (k+1)) (by omega) ⟨k+1,rfl,by omega,rfl,hKw'.ext hE3,?_,by simp[g0],by simp[g1],by simp[g5],by simp[g9],by simp[g10],by simp[g11],by simp[g7],by simp⟩;unfold blk1;rw[if_neg (fun h=>by rw[hq]at h;cases h.2)]
     exact hDw'.ext hE3
    |false=>
     have c3:=hE3.cell c0;repeat refine rN ?_
     refine rX (by simp[Act.eval]) ?_;repeat (first|refine rQ rfl ?_|(refine rO aB rfl ?_;intro _ hu_ K_ hK_;(have hc':=(Ext.twin hu_).cell c3);go_simp;(try rw[wI _]);(try rw[wU _]);refine hK_ _ ?_;clear hK_ K_ hu_;simp only[sS,sN])|refine rW ?_)
     rw[vZ];refine rK Tryz.func61 (yM k p (fun _=>0) (by omega) hp hnd hnb (fun _=>by omega) (hDw'.ext hE3)) ?_;rintro _ S1 w4 _ ⟨rfl,e1,hK4,hD4⟩;subst S1;repeat refine rN ?_
     refine nxt2 _ _ _ (14 - (k+1)) (by omega) ⟨k+1,rfl,by omega,rfl,(hKw'.ext hE3).trans hK4,?_,by simp[g0],by simp[g1],by simp[g5],by simp[g9],by simp[g10],by simp[g11],by simp[g7],by simp⟩;unfold blk1;rw[if_pos ⟨HG.out,hq⟩];exact hD4
   .skip;repeat refine rM hck ?_
    refine rZ (by simp[Act.eval]) ?_;repeat refine rN ?_
    refine nxt2 _ _ _ (14 - (k+1)) (by omega) ⟨k+1,rfl,by omega,rfl,hKw',?_,by simp[g0],by simp[g1],by simp[g5],by simp[g9],by simp[g10],by simp[g11],by simp[g7],by simp⟩;unfold blk1;rw[if_neg (fun h=>by rw[HG.out]at h;cases h.1)]
    exact hDw'
   .skip;repeat refine rM hck ?_
    refine rZ (by simp[Act.eval]) ?_;repeat refine rN ?_
    refine nxt2 _ _ _ (14 - (k+1)) (by omega) ⟨k+1,rfl,by omega,rfl,hKw',?_,by simp[g0],by simp[g1],by simp[g5],by simp[g9],by simp[g10],by simp[g11],by simp[g7],by simp⟩;unfold blk1;rw[if_neg (fun h=>by rw[HG.out]at h;cases h.1)]
    exact hDw'
   .skip;repeat (first|refine rQ rfl ?_|(refine rO aB rfl ?_;intro _ hu_ K_ hK_;(have hc:=(Ext.twin hu_).cell hck;have hc':=(Ext.twin hu_).cell c0);go_simp;(try rw[wI _]);(try rw[wU _]);refine hK_ _ ?_;clear hK_ K_ hu_;simp only[sS,sN])|refine rW ?_)
    rw[vZ];refine rK Tryz.func60 (yU k p (fun _=>0) (by omega) hp hnd hnb hDw'.old) ?_;rintro _ S1 w3 _ ⟨rfl,e1,hE3⟩;subst S1;cases hq:cC ((blk1 s1 p good true k).c k p) (fun _=>0) 0 96 with
    |true=>
     repeat refine rN ?_
     refine rZ (by simp[Act.eval]) ?_;repeat refine rN ?_
     refine nxt2 _ _ _ (14 - (k+1)) (by omega) ⟨k+1,rfl,by omega,rfl,hKw'.ext hE3,?_,by simp[g0],by simp[g1],by simp[g5],by simp[g9],by simp[g10],by simp[g11],by simp[g7],by simp⟩;unfold blk1;rw[if_neg (fun h=>by rw[hq]at h;cases h.2)]
     exact hDw'.ext hE3
    |false=>
     have c3:=hE3.cell c0;repeat refine rN ?_
     refine rX (by simp[Act.eval]) ?_;repeat (first|refine rQ rfl ?_|(refine rO aB rfl ?_;intro _ hu_ K_ hK_;(have hc':=(Ext.twin hu_).cell c3);go_simp;(try rw[wI _]);(try rw[wU _]);refine hK_ _ ?_;clear hK_ K_ hu_;simp only[sS,sN])|refine rW ?_)
     rw[vZ];refine rK Tryz.func61 (yM k p (fun _=>0) (by omega) hp hnd hnb (fun _=>by omega) (hDw'.ext hE3)) ?_;rintro _ S1 w4 _ ⟨rfl,e1,hK4,hD4⟩;subst S1;repeat refine rN ?_
     refine nxt2 _ _ _ (14 - (k+1)) (by omega) ⟨k+1,rfl,by omega,rfl,(hKw'.ext hE3).trans hK4,?_,by simp[g0],by simp[g1],by simp[g5],by simp[g9],by simp[g10],by simp[g11],by simp[g7],by simp⟩;unfold blk1;rw[if_pos ⟨HG.out,hq⟩];exact hD4
  .obtain rfl:k=14:=by omega
   refine rZ (by simp[Act.eval,g15]) ?_;refine bD rfl ?_;repeat refine rN ?_
   refine nxt _ _ _ (2 - (i+1)) (by omega) ⟨i+1,rfl,by omega,rfl,hKw',by rw[hnx];exact hDw',by simp[g0],by simp[g1],by simp[g5],by simp[g9],by simp[g10],by simp⟩
 .obtain rfl:i=2:=by omega
  refine rZ (by simp[Act.eval,g11]) ?_;refine bD rfl ?_;repeat refine rN ?_
  refine iT ?_;refine ret _ _ S w (.tuple #[]) ?_ ⟨rfl,rfl,((Kp.refl v _).ext hE12).trans hKw,hDw⟩;simp[results,Tryz.results43]
theorem vH(id:Nat)(h1:1<=id)(h2:id<=9999):aK Tryz.prog 40 #[.int .i64 (id:Nat)] S v fun x S' v'=>x=.bool true∧S'=S∧v'=v:=by
 refine dU Tryz.func40 rfl Tryz.ntmps40 fun Stop cc cs ret f g0=>?_
 have i1:(1:Int)<=(id:Int):=by omega
 have i2:(id:Int)<=9999:=by omega
 repeat refine rN ?_
 refine aP fun todo=>?_
 refine ret _ _ S v (.bool true) ?_ ⟨rfl,rfl,rfl⟩;simp[results,Tryz.results40,i1,i2]
theorem StE.slotOff(h:StE X D DB DA M RB RA nd nb turn s L w){p:Nat}{s':Dsk}(hp:∀ e∈L,e.slot≠p)(hK:Kp w (eK D RB RA nd) w')(hD:DiskG D DB DA RB RA nd nb s' w')(hc:∀ d q,q≠p->s'.c d q=s.c d q):StE X D DB DA M RB RA nd nb turn s' L w':=
 ⟨hK.cells _ _ _ _ h.xn h.row,let ⟨cl,q1,q2⟩:=h.map;⟨cl,hK.objs _ _ h.mn.1 q1 trivial,q2⟩,hD,fun e he=>(h.ent e he).more (Nat.le_refl _) fun d j=>by rw[hc d _ (hp e he)],h.ids,h.slots,h.borns⟩
theorem Pieces.l14'{v v1:World}{BA:Nat}{PB:Nat->Nat}{m:Nat}{p:Nat->Nat->Nat}(h:Pieces v BA PB m p v1){w:World}(hK:Ext v1 w):w.heap[BA]?=some (.cells (allA fun k=>sl (PB k) m) 48)∧∀ k,k<14->w.heap[PB k]?=some (.cells (aC m (p k)) 5):=⟨hK.row h.ba,fun k hk=>hK.row (h.pb k hk)⟩
theorem Aa{x:Nat->Nat}(h:∀ i,x i<256)(L m k i:Nat):dO x L m k i<256:=by
 unfold dO;split
 .exact h _
 .omega
theorem lV{x:Nat->Nat}(h:∀ i,x i<256)(L k i:Nat):bG x L k i<256:=by
 unfold bG;split
 .exact Aa h _ _ _ _
 .exact Fld.comb_lt _ (Ig id k) 10 i
theorem tW{id size turn slot:Nat}{g:Nat->Bool}{u:World}{b:Nat}(hb:u.heap[b]?=some (.cells (aL id size turn slot g) 81)){o:Oper}{a:Act}{x:Operand}(hop:o.op=.load 79 x)(hx:a.eval x=.pointer (some ⟨b,4,none⟩)):(execOp a.eval o).run Tryz.prog u=.ok (.value (.agg (kH g))) u:=by
 have h:=run_loadAt_mid (P:=Tryz.prog) u b 4 79 (kH g).toList _ (fun j z hy=>by
  have hj:j<14:=(List.getElem?_eq_some_iff.1 hy).1;rw[cell_of_row _ _ _ _ _ _ hb]
  rcases(by omega:j=0∨j=1∨j=2∨j=3∨j=4∨j=5∨j=6∨j=7∨j=8∨j=9∨j=10∨j=11∨j=12∨j=13) with rfl|rfl|rfl|rfl|rfl|rfl|rfl|rfl|rfl|rfl|rfl|rfl|rfl|rfl<;>exact hy) Tryz.underlying79 rfl (by kernel_rfl)
 unfold execOp;simp only[hop,hx,Sem.run_bind,h,Result.andThen_ok,Sem.run_pure]
end
theorem Rk{S:Nat->Prop}{v:World}(ad:Addr)(m k:Nat)(val:Nat->Nat)(hk:k<10)(hm:m<=400) :
  aK Tryz.prog 57 #[.slice (some ad) 0 0,.int .i64 (k:Nat),.int .i64 (m:Nat)] S v fun x S' v'=>x=sl v.heap.size m∧S'=S∧Rowed v m (dO val 0 m k) v':=by
 refine kS Tryz.func57 rfl Tryz.ntmps57 fun Stop cc cs ret f h0 h1 h2=>?_
 have ekm:((k*m:Nat):Int)=(k:Int)*(m:Int):=Int.natCast_mul k m;have hkm:(k:Int)*(m:Int)<=4000:=by
  have h:k*m<=10*400:=Nat.mul_le_mul (by omega) hm;omega
 have hkm0:(0:Int)<=(k:Int)*(m:Int):=by omega
 have e1:(if (0:Int)<(k:Int)*(m:Int) then(0:Int) else(k:Int)*(m:Int))=0:=by split<;>omega
 have e2:(if 0<m then(0:Int) else(m:Int))=0:=by split<;>omega
 clear ekm;repeat refine rN ?_
 refine mI aB rfl rfl (by kernel_rfl) rfl (m:=m) (by simp[h2]) (by simp[h2]) (by omega) (by kernel_rfl) Tryz.underlying48 fun v1 hE hr hs=>?_
 simp only[stO_some];repeat refine rN ?_
 refine aP fun todo=>?_
 refine ret _ _ _ _ _ ?_ ⟨rfl,rfl,hE,?_,hs⟩
 .simp[results,Tryz.results57,h0]
 .rw[hr,oH,iG (g:=dO val 0 m k) fun i hi=>by simp[dO]]
theorem Zk{S:Nat->Prop}{v:World}(m k len cap:Nat)(p:Option Addr)(val:Nat->Nat)(hk:k<10)(hm:m<=400)(hl:len<=400)(hs:gO v p len cap val) :
  aK Tryz.prog 57 #[.slice p len cap,.int .i64 (k:Nat),.int .i64 (m:Nat)] S v fun x S' v'=>x=sl v.heap.size m∧S'=S∧Rowed v m (dO val len m k) v':=by
 rcases hs with hs|⟨⟨ad,rfl⟩,rfl,rfl⟩
 .exact Uy m k len cap p val hk hm hl hs
 .exact Rk ad m k val hk hm
theorem zaO{S:Nat->Prop}{v:World}(len cap:Nat)(p:Option Addr)(val:Nat->Nat)(hl:len<=400)(hx:∀ i,val i<256)(hs:gO v p len cap val)(hg:Tryz.prog.globals.size<=v.heap.size) :
  aK Tryz.prog 39 #[.slice p len cap] S v fun y S' v'=>∃ BA PB,y=.tuple #[sl BA 14,.int .i64 0]∧Pieces v BA PB ((len+9) / 10) (bG val len) v':=by
 refine dU Tryz.func39 rfl Tryz.ntmps39 fun Stop cc cs ret f h0=>?_
 have hlI:¬((400:Int)<(len:Int)):=by omega
 repeat refine rN ?_
 refine rZ (by simp[Act.eval,h0,hlI]) ?_;repeat refine rN ?_
 refine rK Tryz.func56 (wZ len hl) ?_;rintro _ S1 w1 hv1 ⟨rfl,e1,e2⟩;subst S1 w1;have hm:(len+9) / 10<=400:=by omega
 generalize hmm:(len+9) / 10=m at hm ret ⊢;have HM:Hid ((len+9) / 10=m):=hmm;clear hmm;repeat refine rN ?_
 refine mM aB rfl rfl (by kernel_rfl) rfl (m:=14) (wd:=24) (z:=.slice none 0 0) rfl rfl (by omega) (by omega) (by omega) Tryz.underlying93 (by kernel_rfl) rfl fun v1 hE1 hr1 hs1=>?_
 simp only[stO_some];repeat refine rN ?_
 refine cQ aB rfl rfl (by kernel_rfl) (.agg (fV 0)) rfl (by rw[uC];kernel_rfl) fun v2 hE2 hr2 hs2=>?_
 simp only[stO_some];repeat refine rN ?_
 have hCI:CI v val len m 0 v2:=by
  refine⟨hE1.trans _ _ _ hE2,?_,?_,fun k hk=>by omega,by omega⟩
  .rw[hE2.row hr1];congr 2
  .rw[hs1]at hr2;exact hr2
 have hsz:v1.heap.size=v.heap.size+1:=hs1;rw[hsz];refine bT (fun d f' S' v'=>∃ j,d=10 - j∧j<=10∧S'=S∧CI v val len m j v'∧f' 0=.slice p len cap∧f' 4=.int .i64 (m:Nat)∧f' 5=sl v.heap.size 14∧f' 6=ptr (v.heap.size+1)∧f' 15=.int .i64 (j:Nat)) 10 ⟨0,by omega,by omega,rfl,hCI,by simp[h0],by simp,by simp,by simp,by simp⟩ ?_;rintro d f' S' v' ⟨j,rfl,hj,eS,hI,g0,g4,g5,g6,g15⟩ next
 subst S';repeat refine rN ?_
 by_cases hlt:j<10
 .have hjI:(j:Int)<10:=by omega
  refine rX (by simp[Act.eval,g15,hjI]) ?_;repeat refine rN ?_
  refine eT aB rfl rfl (by kernel_rfl) (x:=.tmp 20) (y:=.tmp 19) (g:=v.heap.size+1) (j:=j) (z:=.int .i64 (j:Nat)) rfl (by simp) (by simp) rfl rfl hI.bk (by simp[fV];omega) (by kernel_rfl) fun v3 hW3=>?_
  simp only[stO_none];rw[Uk]at hW3;have hs3:v3.heap.size=v.heap.size+2+j:=hW3.size.trans hI.size;have hsl3:gO v3 p len cap val:=by
   refine hs.imp (fun hs=>hs.imp id fun⟨B,off,q1,q2,q3⟩=>⟨B,off,q1,q2,fun i hi=>?_⟩) id
   have hc:=q3 i hi;have hb:=tV hc;have:=hI.ext.cell hc;rw[<-this];simp only[World.cell?,hW3.other B (by simp only at hb;omega)]
  repeat refine rN ?_
  refine rK Tryz.func57 (Zk m j len cap p val hlt hm hl hsl3) ?_;rintro _ S1 v4 hv4 ⟨rfl,e1,hR⟩;subst S1;have hba4:v4.heap[v.heap.size]?=some (.cells (allA (nL v.heap.size m j)) 48):=hR.ext.row ((hW3.other _ (by omega)).trans hI.ba);have hj14:(j:Int)<14:=by omega
  repeat refine rN ?_
  refine eT aB rfl rfl (by kernel_rfl) (x:=.tmp 27) (y:=.tmp 26) (g:=v.heap.size) (j:=j) (z:=sl v3.heap.size m) rfl (by simp) (by simp) rfl rfl hba4 (by rw[oS];omega) (by kernel_rfl) fun v5 hW5=>?_
  simp only[stO_none];rw[uU]at hW5;repeat refine rN ?_
  have hI5:CI v val len m (j+1) v5:=by
   have hs4:=hR.size;have hs5:=hW5.size;refine⟨⟨by omega,fun b hb=>?_,?_,?_⟩,?_,?_,fun k hk=>?_,by omega⟩
   .rw[hW5.other b (by omega),hR.ext.block b (by omega),hW3.other b (by omega)];exact hI.ext.block b hb
   .rw[hW5.os,hR.ext.os,hW3.os];exact hI.ext.os
   .rw[hW5.output,hR.ext.output,hW3.output];exact hI.ext.output
   .rw[hW5.at_];congr 2;refine mP fun c hc=>?_
    simp only[nL];by_cases e:c=j
    .subst e;rw[if_pos rfl,if_pos (by omega),hs3]
    .rw[if_neg e];simp only[show(c<j+1↔c<j) by omega]
   .rw[hW5.other _ (by omega)];exact hR.ext.row hW3.at_
   .by_cases e:k=j
    .subst e;rw[hW5.other _ (by omega),<-hs3];exact hR.row
    .rw[hW5.other _ (by omega)];exact hR.ext.row ((hW3.other _ (by omega)).trans (hI.rows k (by omega)))
  refine next _ _ _ (10 - (j+1)) (by omega) ⟨j+1,rfl,by omega,rfl,hI5,?_,?_,?_,?_,?_⟩
  .simp[g0]
  .simp[g4]
  .simp[g5]
  .simp[g6]
  .simp
 .obtain rfl:j=10:=by omega
  refine rZ (by simp[Act.eval,g15]) ?_;refine bD rfl ?_;repeat refine rN ?_
  have hbk:v'.heap[v.heap.size+1]?=some (.cells (ten id) 117):=by rw[<-Uj];exact hI.bk
  refine iF aB rfl rfl (by kernel_rfl) (x:=.tmp 6) (b:=v.heap.size+1) rfl (by simp[g6]) hbk (by kernel_rfl) (by rw[gK];kernel_rfl) ?_;simp only[stO_some];repeat refine rN ?_
  have hrows:∀ k,k<10->v'.heap[v.heap.size+2+k]?=some (.cells (aC m (dO val len m k)) 5):=hI.rows;have hrx:∀ k i,dO val len m k i<256:=fun k i=>by
   unfold dO;split
   .exact hx _
   .omega
  have hfill:aK Tryz.prog 58 #[sl v.heap.size 14,.agg (ten id),.int .i64 (m:Nat)] S v' fun y S' w=>y=.tuple #[]∧∃ PB,Filled v' id m (dO val len m) (nL v.heap.size m 10) v.heap.size 48 PB w:=by
   intro Stop' c' cs' hr;refine Dp (RB:=fun k=>v.heap.size+2+k) (fun j hj=>by simp;omega) hm hrx (fun j hj=>by simp[nL,hj]) (fun k hk hl'=>?_) (Nat.le_trans hg hI.ext.size) hg (fun j hj=>by omega) hI.ba hrows fun S' w PB hw hf=>hr _ S' w hw ⟨rfl,PB,hf⟩
   have:=lS.1 hl';simp[nL,show ¬k<10 by omega]
  refine rK Tryz.func58 (hfill) ?_;rintro _ S5 v5 hv5 ⟨rfl,PB,hF⟩;repeat refine rN ?_
  refine aP fun todo=>?_
  refine ret _ _ S5 v5 (.tuple #[sl v.heap.size 14,.int .i64 0]) ?_ ⟨v.heap.size,fun k=>if k<10 then v.heap.size+2+k else PB k,rfl,?_⟩
  .simp[results,Tryz.results39,g5]
  .have hsI:=hI.size;have hPB:∀ k,k<14->¬k<10->v'.heap.size<=PB k∧v5.heap[PB k]?=some (done id m (dO val len m) k):=fun k hk hn=>hF.pb k hk (lS.2 (by omega))
   refine⟨⟨Nat.le_trans hI.ext.size hF.kp.size,hF.kp.os.trans hI.ext.os,hF.kp.output.trans hI.ext.output,fun b o _ hc ht=>?_⟩,?_,fun k hk=>?_,Nat.le_refl _,fun k hk=>?_,fun k hk=>?_,fun k k' hk hk' e=>?_⟩
   .have:=(Array.getElem?_eq_some_iff.1 hc).1;exact hF.kp.objs b o (by omega) (hI.ext.row hc) ht
   .rw[hF.ba];congr 2;refine mP fun c hc=>?_
    simp only[AK,nL];by_cases e:c<10
    .have:¬cS id c=true:=fun h=>by have:=lS.1 h;omega
     simp[this,e]
    .simp[lS.2 (show 10<=c by omega),hc,e]
   .by_cases e:k<10
    .rw[if_pos e,show bG val len k=dO val len m k from funext fun i=>by simp only[bG,if_pos e,HM.out]]
     exact hF.kp.cells _ _ _ _ (by omega) (hI.rows k e)
    .rw[if_neg e,show bG val len k=oX id (dO val len m) k from funext fun i=>by simp only[bG,if_neg e,HM.out]]
     exact(hPB k hk e).2
   .by_cases e:k<10
    .simp only[if_pos e];omega
    .simp only[if_neg e];have:=(hPB k hk e).1;omega
   .by_cases e:k<10
    .simp only[if_pos e];omega
    .simp only[if_neg e];have:=(hPB k hk e).1;omega
   .by_cases h1:k<10
    .by_cases h2:k'<10
     .simp only[if_pos h1,if_pos h2]at e;omega
     .simp only[if_pos h1,if_neg h2]at e;have:=(hPB k' hk' h2).1;omega
    .by_cases h2:k'<10
     .simp only[if_neg h1,if_pos h2]at e;have:=(hPB k hk h1).1;omega
     .simp only[if_neg h1,if_neg h2]at e;rcases Nat.lt_trichotomy k k' with h|h|h
      .have:=hF.mono k k' h hk' (lS.2 (by omega)) (lS.2 (by omega));omega
      .exact h
      .have:=hF.mono k' k h hk (lS.2 (by omega)) (lS.2 (by omega));omega
section
variable {X D DB DA M:Nat}{RB RA:Nat->Nat}{nd nb turn:Nat}{s:Dsk}{L:List Ent}{w w' v:World}{S:Nat->Prop}
def gR(L:List Ent)(nb id:Nat):Bool:=decide (nb - 2<=L.length - (if (aM id L 0).isSome then 1 else 0))
def jG(s:Dsk)(L:List Ent)(p id size turn:Nat)(val:Nat->Nat):Dsk:=
 match aM id L 0 with
 |some (_,old)=>gC (jU s p (fun k=>aY id size turn k ((size+9) / 10) (bG val size k)) 14) old.slot old.good
 |none=>jU s p (fun k=>aY id size turn k ((size+9) / 10) (bG val size k)) 14
def mC(L:List Ent)(nb p:Nat):Prop:=p<nb∧(∀ e∈L,e.slot≠p)∧∀ j,j<p->∃ e∈L,e.slot=j
theorem Im(id len cap:Nat)(pv:Option Addr)(val:Nat->Nat)(hid1:1<=id)(hid:id<=9999)(hl:len<=400)(hval:∀ i,val i<256)(hs:gO v pv len cap val)(hg:Tryz.prog.globals.size<=v.heap.size)(ht:turn<9223372036854775808)(hb4:4<=nb)(hn1:14<=nd)(hnd:nd<=18)(hnb:nb<=64)(hX:StE X D DB DA M RB RA nd nb turn s L v)
  (hL:L.length<=nb - 2) :
  aK Tryz.prog 24 #[.pointer (some ⟨X,0,none⟩),.int .i64 (id:Nat),.slice pv len cap] S v fun x S' v'=>if gR L nb id=true then x=.int .i64 5∧Kp v (fun _=>False) v' else x=.int .i64 0∧Kp v (bN X D M RB RA nd) v'∧∃ p clock,mC L nb p∧PutOk L ⟨id,len,turn+1,p,val,fun _=>true,0⟩ clock∧StE X D DB DA M RB RA nd nb (turn+1) (jG s L p id len (turn+1) val) (bR L ⟨id,len,turn+1,p,val,fun _=>true,0⟩ clock) v':=by
 refine kS Tryz.func24 rfl Tryz.ntmps24 fun Stop cc cs ret f g0 g1 g2=>?_
 have hlen:L.length<nb:=by omega
 obtain⟨p,hp,hpf,hpl⟩:=Ss (l:=L.map (·.slot)) (n:=nb) (by simpa using hlen);have hpf':∀ e∈L,e.slot≠p:=fun e he h=>hpf (List.mem_map.2 ⟨e,he,h⟩)
 have hpl':∀ j,j<p->∃ e∈L,e.slot=j:=fun j hj=>List.mem_map.1 (hpl j hj)
 clear hpf hpl;repeat refine rN ?_
 refine rK Tryz.func39 (zaO len cap pv val hl hval hs hg) ?_;rintro _ S1 w1 _ ⟨BA,PB,rfl,hP⟩;have hX1:=hX.kp hP.kp;repeat refine rN ?_
 refine rK Tryz.func40 (vH id hid1 hid) ?_;rintro _ S2 w2 _ ⟨rfl,e1,e2⟩;subst S2 w2;repeat refine rN ?_
 refine rZ (by simp[Act.eval]) ?_;repeat refine rN ?_
 refine rK Tryz.func41 (Yl id hid hn1 hnd hb4 hnb (by omega) hX1) ?_;rintro _ S2 w2 _ ⟨rfl,e1,hE2⟩;subst S2;rw[show decide (nb - 2<=L.length - (if (aM id L 0).isSome then 1 else 0))=gR L nb id from rfl];cases hfull:gR L nb id with
 |true=>
  simp only[hfull,if_true]at ret;repeat refine rN ?_
  refine rX (by simp[Act.eval]) ?_;repeat refine rN ?_
  refine aP fun todo=>?_
  refine ret _ _ S1 w2 (.int .i64 5) ?_ ⟨rfl,hP.kp.ext hE2⟩;simp[results,Tryz.results24]
 |false=>
 simp only[hfull,Bool.false_eq_true,if_false]at ret;have hX2:=hX1.ext hE2;have c1:=hX2.c1;obtain⟨clock,hm2,hbn2⟩:=hX2.map;repeat refine rN ?_
 refine rZ (by simp[Act.eval]) ?_;repeat refine rM c1 ?_
 refine oD rfl rfl rfl (x:=.tmp 30) (y:=.tmp 31) (id:=id) (by simp) (by simp[g1]) hm2 ?_;simp only[stO_some];have hKv2:Kp v (bN X D M RB RA nd) w2:=((hP.kp.mono fun _ h=>h.elim).ext hE2)
 have hcl:=lV hval len;cases hq:aM id L 0 with
 |none=>
  simp only[fU];repeat refine rN ?_
  refine cQ aB rfl rfl (by kernel_rfl) (.agg (aL 0 0 0 0 fun _=>false)) rfl (by kernel_rfl) fun w3 hE3 hb3 hs3=>?_
  simp only[stO_some];refine dF aB rfl rfl (by kernel_rfl) (x:=.tmp 9) (y:=.tmp 33) (g:=w2.heap.size) (c:=aL 0 0 0 0 fun _=>false) rfl (by simp) (by simp) hb3 (by kernel_rfl) rfl (by simp[aL,Value.oneCell']) fun w4 hW4=>?_
  simp only[stO_none];have hE4:Ext w2 w4:=bL hE3 (Nat.le_refl _) hW4;obtain⟨hBA,hPB⟩:=hP.l14' (hE2.trans _ _ _ hE4);repeat refine rN ?_
  refine rK Tryz.func42 (Je id len _ p BA PB val hid1 hid hl rfl hval ht hb4 hn1 hnd hnb (hX2.ext hE4) hp hpf' hpl' hBA hPB hcl) ?_;rintro _ S2 w5 _ ⟨rfl,e1,hK5,clk,hPO,hX5⟩;subst S2;repeat refine rN ?_
  refine rZ (by simp[Act.eval]) ?_;repeat refine rN ?_
  refine aP fun todo=>?_
  refine ret _ _ S1 w5 (.int .i64 0) ?_ ⟨rfl,(hKv2.ext hE4).trans hK5,p,clk,⟨hp,hpf',hpl'⟩,hPO,?_⟩
  .simp[results,Tryz.results24]
  .unfold jG;rw[hq];exact hX5
 |some q=>
  obtain⟨n,old⟩:=q;obtain⟨n',hn,hget,hoid⟩:=dN hq;have hold:old∈L:=List.mem_of_getElem? hget;have hosl:=(hX.ent old hold).slot;simp only[fU];repeat refine rN ?_
  refine cQ aB rfl rfl (by kernel_rfl) (.agg (aL 0 0 0 0 fun _=>false)) rfl (by kernel_rfl) fun w3 hE3 hb3 hs3=>?_
  simp only[stO_some];refine dF aB rfl rfl (by kernel_rfl) (x:=.tmp 9) (y:=.tmp 33) (g:=w2.heap.size) (c:=bQ old) rfl (by simp) (by simp) hb3 (by kernel_rfl) rfl (mQ _) fun w4 hW4=>?_
  simp only[stO_none];have hE4:Ext w2 w4:=bL hE3 (Nat.le_refl _) hW4;obtain⟨hBA,hPB⟩:=hP.l14' (hE2.trans _ _ _ hE4);repeat refine rN ?_
  refine rK Tryz.func42 (Je id len _ p BA PB val hid1 hid hl rfl hval ht hb4 hn1 hnd hnb (hX2.ext hE4) hp hpf' hpl' hBA hPB hcl) ?_;rintro _ S2 w5 _ ⟨rfl,e1,hK5,clk,hPO,hX5⟩;subst S2;have hX4:=hX2.ext hE4;have hno:¬bN X D M RB RA nd w2.heap.size:=by
   rintro(h|h|h|⟨d,hd,h|h⟩)
   .exact bU hW4.at_ hX4.row (by decide) h
   .obtain⟨cl,hm4,_⟩:=hX4.map;exact jE hm4 hW4.at_ h.symm
   .exact bU hW4.at_ hX4.dk.row (by decide) h
   .exact bU hW4.at_ (hX4.dk.rb d hd) (by decide) h
   .exact bU hW4.at_ (hX4.dk.ra d hd) (by decide) h
  have hold5:=hK5.cells _ _ _ _ hno hW4.at_;have cs:w5.cell? ⟨w2.heap.size,3,none⟩=some (.int .i64 (old.slot:Nat)):=(cell_of_row _ _ _ _ _ _ hold5).trans rfl;repeat refine rN ?_
  refine rX (by simp[Act.eval]) ?_;repeat refine rM cs ?_
  refine cH aB rfl rfl (by kernel_rfl) (fun u hu=>tW (b:=w2.heap.size) ((Ext.twin hu).row hold5) (x:=.tmp 45) rfl (by simp)) ?_;simp only[stO_some];refine rK Tryz.func43 (yZ old.good old.slot hosl hn1 hnd hnb hX5.row hX5.dk) ?_;rintro _ S2 w6 _ ⟨rfl,e1,hK6,hD6⟩;subst S2;repeat refine rN ?_
  refine aP fun todo=>?_
  refine ret _ _ S1 w6 (.int .i64 0) ?_ ⟨rfl,((hKv2.ext hE4).trans hK5).trans (hK6.mono fun b h=>.inr (.inr h)),p,clk,⟨hp,hpf',hpl'⟩,hPO,?_⟩
  .simp[results,Tryz.results24]
  .have hoff:∀ e∈bR L ⟨id,len,turn+1,p,val,fun _=>true,0⟩ clk,e.slot≠old.slot:=fun e he=>by
    rcases hPO.mem e he with⟨b,rfl⟩|⟨he',hne⟩
    .exact fun h=>hpf' old hold h.symm
    .exact fun h=>hne (by
      have:=iA hX.slots he' hold h;rw[this]
      exact hoid)
   have hfin:=hX5.slotOff (p:=old.slot) hoff hK6 hD6 fun d q hq'=>kQ hq'
   unfold jG;rw[hq];exact hfin
end
