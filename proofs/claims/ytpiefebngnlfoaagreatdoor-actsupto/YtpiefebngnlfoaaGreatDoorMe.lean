import Derived.Test.YtpiefebngnlfoaaGreatDoorMd
set_option maxRecDepth 99999
set_option maxHeartbeats 0
set_option linter.unusedVariables false
set_option linter.unusedSimpArgs false
namespace Go.Proofs.YtpiefebngnlfoaaGreatDoor
open Go.RowKit Go.Conc Go.Vw
section
variable {X D DB DA M:Nat}{RB RA:Nat->Nat}{nd nb turn:Nat}{s:Dsk}{L:List Ent}{w w' v:World}{S:Nat->Prop}
theorem Jr{o:Oper}{a:Act}{x:Operand}{b id size turn slot:Nat}{good:Nat->Bool}{u:World}(dm:o.op=.load 120 x)(hx:a.eval x=.pointer (some ⟨b,0,none⟩))(hb:u.heap[b]?=some (.cells (aL id size turn slot good) 123)):(execOp a.eval o).run Tryz.prog u=.ok (.value (.agg (bG id size turn))) u:=by
 have h:=run_loadAt_mid (P:=Tryz.prog) u b 0 120 (bG id size turn).toList _ (λj z hy=>by
  have hj:j<3:=(List.getElem?_eq_some_iff.1 hy).1;rw[an,ab _ _ _ _ _ _ hb];match j,hj with
  |0,_=>exact hy
  |1,_=>exact hy
  |2,_=>exact hy) Tryz.underlying120 rfl (by kernel_rfl)
 unfold execOp;simp only[dm,hx,df,h,dc,dg]
theorem jN{o:Oper}{a:Act}{x:Operand}{b id size turn slot:Nat}{good:Nat->Bool}{u:World}(dm:o.op=.load 123 x)(hx:a.eval x=.pointer (some ⟨b,0,none⟩))(hb:u.heap[b]?=some (.cells (aL id size turn slot good) 123)):(execOp a.eval o).run Tryz.prog u=.ok (.value (.agg (aL id size turn slot good))) u:=by have h:=run_loadVar_row (P:=Tryz.prog) u b 123 123 (aL id size turn slot good) (0,0) _ hb Tryz.underlying123 rfl (by kernel_rfl);unfold execOp;simp only[dm,hx,Instr.loadAt,Instr.sureAddr,df,dg,dc,h]
theorem Gn(id size turn slot k m cp B off:Nat)(good:Nat->Bool)(y:Nat->Nat)(hid:id<=9999)(fo:size<=400)(hk:k<14)(ht:turn<18446744073709551616)(hm:m<=79)(hy:∀i,y i<256)(hs:dD v B off m y):aJ Tryz.prog 73 #[.agg (aL id size turn slot good),.int .i64 (k:Nat),.slice (some ⟨B,off,none⟩) m cp] S v λx S' v'=>x=.agg (aE 96 (bB id size turn k m y))∧S'=S∧Ext v v':=by
 refine jR Tryz.func73 rfl Tryz.ntmps73 λStop cc cs ret f g0 g1 g2=>?_
 repeat refine rN ?_
 refine aN (Q:=λy w=>y=.pointer (some ⟨v.heap.size,0,none⟩)∧Ext v w∧w.heap[v.heap.size]?=some (.cells (aL id size turn slot good) 123)∧w.heap.size=v.heap.size+1) aB rfl rfl (by kernel_rfl) (λu hu=>⟨_,_,.inl (gR (x:=.tmp 0) (y:=.agg (aL id size turn slot good)) rfl (by simp[g0]) u),by rw[hu.heap],(Ext.twin hu).trans _ _ _ (Ext.alloc _ _),by rw[<-hu.heap];exact bI _ _,by rw[jO,hu.heap]⟩) ?_;rintro _ w1 ⟨rfl,eh,fg,jg⟩;simp only[stO_some];refine cD aB rfl rfl (by kernel_rfl) (.agg (eF 96)) rfl (by rw[<-oZ];kernel_rfl) λw2 ep ko pj=>?_;simp only[stO_some];repeat refine rN ?_
 have yd:=ep.row fg;have mi:=eh.trans _ _ _ ep;refine bV aB rfl rfl (by kernel_rfl) (λu hu=>Jr (x:=.tmp 7) (b:=v.heap.size) rfl (by simp) ((Ext.twin hu).row yd)) ?_;simp only[stO_some];unfold bG;repeat refine rN ?_
 have OI:∀(a1 a2 a3 a4 a5:Value),(#[a1,a2,a3,a4,a5]:Array Value)=#[a1,a2,a3,a4,a5]:=λ_ _ _ _ _=>rfl;refine rK Tryz.func85 (yZ id size turn k m cp B off y hid fo hk ht hm hy (hs.ext mi)) ?_;rintro _ S1 w3 _ ⟨rfl,e1,ef⟩;subst S1;refine cS aB rfl rfl (by kernel_rfl) (x:=.tmp 6) (y:=.tmp 12) (g:=w1.heap.size) (c:=aE 96 (bB id size turn k m y)) rfl (by simp) (by simp) (ef.row ko) (by rw[eB];kernel_rfl) (by show(eF 96).size=_;rw[eB,rP]) wT λw4 jd=>?_;simp only[stO_none];repeat refine rN ?_
 refine aM λtodo=>?_;refine ret _ _ S w4 (.agg (aE 96 (bB id size turn k m y))) ?_ ⟨rfl,rfl,bO (mi.trans _ _ _ ef) (by omega) jd⟩;have hl:=run_loadVar_row (P:=Tryz.prog) w4 w1.heap.size 137 137 (aE 96 (bB id size turn k m y)) (0,0) _ jd.at_ Tryz.underlying137 rfl (by rw[eB];kernel_rfl);simp[results,Tryz.results73,asAddr,hl]
theorem Ec{id size turn slot k:Nat}{good:Nat->Bool}(hk:k<14):(aL id size turn slot good).setIfInBounds (4+k) (.bool true)=aL id size turn slot λj=>if j=k then true else good j:=by
 match k,hk with
 |0,_=>rfl
 |1,_=>rfl
 |2,_=>rfl
 |3,_=>rfl
 |4,_=>rfl
 |5,_=>rfl
 |6,_=>rfl
 |7,_=>rfl
 |8,_=>rfl
 |9,_=>rfl
 |10,_=>rfl
 |11,_=>rfl
 |12,_=>rfl
 |13,_=>rfl
def P8(X D V id size turn slot k m cp B off:Nat)(good:Nat->Bool)(y:Nat->Nat)(j:Nat)(x:Value)(w:World):Prop:=
 match j with
 |0=>x=.pointer (some ⟨X,0,none⟩)
 |1=>x=.pointer (some ⟨X,0,none⟩)
 |2=>x=.pointer (some ⟨X,0,none⟩)
 |3=>x=.pointer (some ⟨D,0,none⟩)
 |4=>x=.int .i64 (k:Nat)
 |5=>x=.pointer (some ⟨V,0,none⟩)
 |6=>x=.pointer (some ⟨V,0,none⟩)
 |7=>x=.pointer (some ⟨V,3,none⟩)
 |8=>x=.int .i64 (slot:Nat)
 |9=>x=.pointer (some ⟨V,0,none⟩)
 |10=>x=.pointer (some ⟨V,0,none⟩)
 |11=>x=.agg (aL id size turn slot good)
 |12=>x=.int .i64 (k:Nat)
 |13=>x=.slice (some ⟨B,off,none⟩) m cp
 |14=>x=.agg (aE 96 (bB id size turn k m y))
 |_=>True
theorem Co(V id size turn slot k m cp B off:Nat)(good:Nat->Bool)(y:Nat->Nat)(hid:id<=9999)(fo:size<=400)(hk:k<14)(ht:turn<18446744073709551616)(hm:m<=79)(hy:∀i,y i<256)(hs:dD v B off m y)(qo:slot<nb)(jb:14<=nd)(gh:nd<=18)(eu:nb<=64)
  (hx:v.cell? ⟨X,0,none⟩=some (.pointer (some ⟨D,0,none⟩))) (hD:DiskG D DB DA RB RA nd nb s v) (hV:v.heap[V]?=some (.cells (aL id size turn slot good) 123)) :
  aJ Tryz.prog 70 #[.pointer (some ⟨X,0,none⟩),.pointer (some ⟨V,0,none⟩),.int .i64 (k:Nat),.slice (some ⟨B,off,none⟩) m cp] S v λx S' v'=>x=.tuple #[]∧S'=S∧Kp v (λb=>b=V∨eH D RB RA nd b) v'∧DiskG D DB DA RB RA nd nb (s.wr k slot (bB id size turn k m y)) v'∧v'.heap[V]?=some (.cells (aL id size turn slot λj=>if j=k then true else good j) 123):=by
 refine pU Tryz.func70 rfl Tryz.ntmps70 λStop cc cs ret f0 g0 g1 g2 g3=>?_
 repeat refine rN ?_
 refine iY (by kernel_rfl) (by kernel_rfl) (by kernel_rfl) 15 [0,1,2,3,4,5,6,7,8,9,10,11,12,13,14] (by kernel_rfl) (P8 X D V id size turn slot k m cp B off good y) (λS' w=>S'=S∧Ext v w) (λS' f w=>S'=S∧Kp v (eH D RB RA nd) w∧DiskG D DB DA RB RA nd nb (s.wr k slot (bB id size turn k m y)) w) (λS' w w' h hE=>⟨h.1,h.2.trans _ _ _ hE⟩) (λS' i f x w w' hi hA jh=>?_) (λj x w w' h hE=>h) ?_ ⟨rfl,.refl _⟩ ?_ ?_ ?_
 .exfalso;have ft:i<16:=hi;simp at hA;omega
 .intro j hj he x w h;have jo:j<16:=hj;rcases(by omega:j=0∨j=1∨j=2∨j=3∨j=4∨j=5∨j=6∨j=7∨j=8∨j=9∨j=10∨j=11∨j=12∨j=13∨j=14∨j=15) with rfl|rfl|rfl|rfl|rfl|rfl|rfl|rfl|rfl|rfl|rfl|rfl|rfl|rfl|rfl|rfl
  .cases he
  .cases he
  .cases he
  .cases he
  .cases he
  .cases he
  .cases he
  .cases he
  .cases he
  .cases he
  .cases he
  .cases he
  .cases he
  .cases he
  .cases he
  .exact trivial
 .intro i f S1 w rest hi dy hB hf hd dj;have q0:f 0=.pointer (some ⟨X,0,none⟩):=(hf 0 (aV (by kernel_rfl))).trans g0;have q1:f 1=.pointer (some ⟨V,0,none⟩):=(hf 1 (aV (by kernel_rfl))).trans g1;have q2:f 2=.int .i64 (k:Nat):=(hf 2 (aV (by kernel_rfl))).trans g2;have q3:f 3=.slice (some ⟨B,off,none⟩) m cp:=(hf 3 (aV (by kernel_rfl))).trans g3;have ft:i<16:=hi
  obtain⟨eS,hE⟩:=hB (by
   simp
   omega)
  subst S1;have XG:=hE.cell hx;have OT:=hE.row hV;have FY:w.cell? ⟨V,3,none⟩=some (.int .i64 (slot:Nat)):=(ab _ _ _ _ _ _ OT).trans rfl;clear hf hB;rcases(by omega:i=0∨i=1∨i=2∨i=3∨i=4∨i=5∨i=6∨i=7∨i=8∨i=9∨i=10∨i=11∨i=12∨i=13∨i=14∨i=15) with rfl|rfl|rfl|rfl|rfl|rfl|rfl|rfl|rfl|rfl|rfl|rfl|rfl|rfl|rfl|rfl
  .skip;clear hd;refine rY aB ?_;exact dj _ w (.refl w) rfl
  .skip;have d0:f 8=.pointer (some ⟨X,0,none⟩):=hd 0 (aD (by kernel_rfl));clear hd;refine rY aB ?_;exact dj _ w (.refl w) rfl
  .skip;have d1:f 9=.pointer (some ⟨X,0,none⟩):=hd 1 (aD (by kernel_rfl));clear hd;refine rY aB ?_;exact dj _ w (.refl w) rfl
  .skip;have d2:f 10=.pointer (some ⟨X,0,none⟩):=hd 2 (aD (by kernel_rfl));clear hd;(refine rO aB rfl ?_;intro _ dt K_ dr;(have hc:=(Ext.twin dt).cell XG);go_simp;(try rw[wI _]);(try rw[wU _]);refine dr _ ?_;clear dr K_ dt;simp only[sS,sN]);exact dj _ w (.refl w) rfl
  .skip;clear hd;refine rY aB ?_;exact dj _ w (.refl w) rfl
  .skip;clear hd;refine rY aB ?_;exact dj _ w (.refl w) rfl
  .skip;have d5:f 13=.pointer (some ⟨V,0,none⟩):=hd 5 (aD (by kernel_rfl));clear hd;refine rY aB ?_;exact dj _ w (.refl w) rfl
  .skip;have d6:f 14=.pointer (some ⟨V,0,none⟩):=hd 6 (aD (by kernel_rfl));clear hd;refine rY aB ?_;exact dj _ w (.refl w) rfl
  .skip;have d7:f 15=.pointer (some ⟨V,3,none⟩):=hd 7 (aD (by kernel_rfl));clear hd;(refine rO aB rfl ?_;intro _ dt K_ dr;(have hc:=(Ext.twin dt).cell FY);go_simp;(try rw[wI _]);(try rw[wU _]);refine dr _ ?_;clear dr K_ dt;simp only[sS,sN]);exact dj _ w (.refl w) rfl
  .skip;clear hd;refine rY aB ?_;exact dj _ w (.refl w) rfl
  .skip;have d9:f 17=.pointer (some ⟨V,0,none⟩):=hd 9 (aD (by kernel_rfl));clear hd;refine rY aB ?_;exact dj _ w (.refl w) rfl
  .skip;have d10:f 18=.pointer (some ⟨V,0,none⟩):=hd 10 (aD (by kernel_rfl));clear hd;refine bV aB rfl rfl (by kernel_rfl) (λu hu=>jN (x:=.tmp 18) (b:=V) rfl (by simp[d10]) ((Ext.twin hu).row OT)) ?_;exact dj _ w (.refl w) rfl
  .skip;clear hd;refine rY aB ?_;exact dj _ w (.refl w) rfl
  .skip;clear hd;refine rY aB ?_;exact dj _ w (.refl w) rfl
  .skip;have d11:f 19=.agg (aL id size turn slot good):=hd 11 (aD (by kernel_rfl));have d12:f 20=.int .i64 (k:Nat):=hd 12 (aD (by kernel_rfl));have d13:f 21=.slice (some ⟨B,off,none⟩) m cp:=hd 13 (aD (by kernel_rfl));clear hd;refine dV Tryz.func73 (Gn id size turn slot k m cp B off good y hid fo hk ht hm hy (hs.ext hE)) ?_;rintro _ S1 w2 _ ⟨rfl,e1,ep⟩;subst S1;exact dj _ w2 ep rfl
  .exact absurd rfl dy
 .rintro f S1 w rest ⟨eS,hB⟩ hf hd dj;subst S1;have d3:f 11=.pointer (some ⟨D,0,none⟩):=hd 3 (by simp);have d4:f 12=.int .i64 (k:Nat):=hd 4 (by simp);have d8:f 16=.int .i64 (slot:Nat):=hd 8 (by simp);have d14:f 22=.agg (aE 96 (bB id size turn k m y)):=hd 14 (by simp);clear hd;refine dV Tryz.func74 (xQ k slot (bB id size turn k m y) (by omega) qo gh eu (Tv hy) (hD.ext hB)) ?_;rintro _ S1 w2 _ ⟨rfl,e1,iu,xf⟩;subst S1;exact dj (.tuple #[]) S w2 ⟨rfl,((Kp.refl v _).ext hB).trans iu,xf⟩ trivial λj x hj h=>h
 .rintro f S1 w ⟨eS,hK,p7⟩ hf hd;subst S1;have q1:f 1=.pointer (some ⟨V,0,none⟩):=(hf 1 (aV (by kernel_rfl))).trans g1;have q2:f 2=.int .i64 (k:Nat):=(hf 2 (aV (by kernel_rfl))).trans g2;clear hf hd;have HO:¬eH D RB RA nd V:=by
   rintro(h|⟨d,hd,h|h⟩)
   .exact bP hV hD.row (by decide) h
   .exact bP hV (hD.rb d hd) (by decide) h
   .exact bP hV (hD.ra d hd) (by decide) h
  have OT:=hK.cells _ _ _ _ HO hV;have ll:(k:Int)<14:=by omega
  repeat refine rN ?_
  refine dQ aB rfl rfl (by kernel_rfl) (x:=.tmp 28) (y:=.const (.bool true)) (g:=V) (j:=4+k) (z:=.bool true) rfl (by simp) (by simp) rfl rfl OT (by simp[aL];omega) (by kernel_rfl) λw3 fz=>?_
  simp only[stO_none];rw[Ec hk]at fz;repeat refine rN ?_
  refine gQ ?_;refine ret _ _ S w3 (.tuple #[]) ?_ ⟨rfl,rfl,(hK.mono λb h=>.inr h).wr (.inl (.inl rfl)) fz,p7.kp ((Kp.refl w (λb=>b=V)).wr (.inl rfl) fz) (λe=>HO (.inl e.symm)) (λe=>bP OT p7.db (by decide) e.symm) (λe=>bP OT p7.da (by decide) e.symm) (λd hd=>⟨λe=>HO (.inr ⟨d,hd,.inl e.symm⟩),λe=>HO (.inr ⟨d,hd,.inr e.symm⟩)⟩),fz.at_⟩
  simp[results,Tryz.results70]
end
theorem Hc(l:List Nat):∀n,(∀j,j<n->j∈l)∨∃p,p<n∧p ∉ l∧∀j,j<p->j∈l
 |0=>.inl λj hj=>by omega
 |n+1=>by
  rcases Hc l n with h|⟨p,h1,h2,h3⟩
  .by_cases hn:n∈l
   .exact .inl λj hj=>by
     by_cases e:j=n
     .rw[e];exact hn
     .exact h j (by omega)
   .exact .inr ⟨n,by omega,hn,h⟩
  .exact .inr ⟨p,by omega,h2,h3⟩
theorem Ht:∀(n:Nat)(l:List Nat),(∀j,j<n->j∈l)->n<=l.length
 |0,l,_=>Nat.zero_le _
 |n+1,l,h=>by
  have hn:=h n (by omega);have:=Ht n (l.erase n) λj hj=>(List.mem_erase_of_ne (by omega)).2 (h j (by omega))
  rw[List.length_erase_of_mem hn]at this;have hp:=List.length_pos_of_mem hn;omega
theorem Rx{l:List Nat}{n:Nat}(h:l.length<n):∃p,p<n∧p ∉ l∧∀j,j<p->j∈l:=by
 rcases Hc l n with h1|h1
 .have:=Ht n l h1;omega
 .exact h1
theorem Dw{α : Type} : ∀{l:List α}{n:Nat}{p:α},l.Nodup->p ∉ l->(l.set n p).Nodup
 |[],n,p,h,_=>h
 |x::l,0,p,h,hp=>by have h':=List.nodup_cons.1 h;exact List.nodup_cons.2 ⟨λq=>hp (List.mem_cons_of_mem _ q),h'.2⟩
 |x::l,n+1,p,h,hp=>by
  have h':=List.nodup_cons.1 h;refine List.nodup_cons.2 ⟨λq=>?_,Dw h'.2 λq=>hp (List.mem_cons_of_mem _ q)⟩
  rcases List.mem_or_eq_of_mem_set q with q|q
  .exact h'.1 q
  .exact hp (by rw[<-q];exact bw ..)
theorem xS{α : Type}{l:List α}{n:Nat}{x:α}(h:l[n]?=some x):l.set n x=l:=by
 apply List.ext_getElem?;intro i;rw[List.getElem?_set];by_cases e:n=i
 .subst e;have hb:l[n]'(List.getElem?_eq_some_iff.1 h).1=x:=(List.getElem?_eq_some_iff.1 h).2;simp[h,(List.getElem?_eq_some_iff.1 h).1,hb]
 .simp[e]
structure PutOk(L:List Ent)(e:Ent)(clock:Nat):Prop where
 ids:((bS L e clock).map (·.id))=if (aQ e.id L 0).isSome then L.map (·.id) else L.map (·.id)++[e.id]
 idn:((bS L e clock).map (·.id)).Nodup
 slots:((bS L e clock).map (·.slot)).Nodup
 borns:((bS L e clock).map (·.born)).Nodup
 lt:∀x∈bS L e clock,x.born<iQ L e.id clock
 mem:∀x∈bS L e clock,(∃b,x={e with born:=b})∨(x∈L∧x.id≠e.id)
 has:∃b,{e with born:=b}∈bS L e clock
theorem yN{L:List Ent}{e:Ent}{clock:Nat}(h1:(L.map (·.id)).Nodup)(h2:(L.map (·.slot)).Nodup)(h3:(L.map (·.born)).Nodup)(hc:∀x∈L,x.born<clock)(hs:∀x∈L,x.slot≠e.slot):PutOk L e clock:=by
 have im:e.slot ∉ L.map (·.slot):=λq=>by obtain⟨x,hx,q⟩:=List.mem_map.1 q;exact hs x hx q
 cases h:aQ e.id L 0 with
 |none=>
  have hi:e.id ∉ L.map (·.id):=λq=>by obtain⟨x,hx,q⟩:=List.mem_map.1 q;exact sP h x hx q
  have hb:clock ∉ L.map (·.born):=λq=>by obtain⟨x,hx,q⟩:=List.mem_map.1 q;have:=hc x hx;omega
  have app:∀{l:List Nat}{a:Nat},l.Nodup->a ∉ l->(l++[a]).Nodup:=λhl ha=>by
   rw[List.nodup_append]
   exact⟨hl,by simp,λx hx y hy e=>by
    simp at hy;subst hy e
    exact ha hx⟩
  have hp:bS L e clock=L++[{e with born:=clock}]:=by simp only[bS,h]
  refine⟨by rw[hp,h];simp,?_,?_,?_,λx hx=>?_,λx hx=>?_,clock,?_⟩
  .rw[hp,List.map_append];exact app h1 hi
  .rw[hp,List.map_append];exact app h2 im
  .rw[hp,List.map_append];exact app h3 hb
  .rw[hp]at hx;simp only[iQ,h];rcases List.mem_append.1 hx with hx|hx
   .have:=hc x hx;omega
   .simp at hx;subst hx;exact Nat.lt_succ_self _
  .rw[hp]at hx;rcases List.mem_append.1 hx with hx|hx
   .exact .inr ⟨hx,sP h x hx⟩
   .simp at hx;exact .inl ⟨clock,hx⟩
  .rw[hp];simp
 |some q=>
  obtain⟨n,old⟩:=q;obtain⟨n',hn,kg,hid⟩:=eJ h;obtain rfl:n=n':=by omega
  have hp:bS L e clock=L.set n {e with born:=old.born}:=by simp only[bS,h]
  have hold:old∈L:=al kg;have KS:(bS L e clock).map (·.id)=L.map (·.id):=by rw[hp,List.map_set];exact xS (by rw[bu,kg];simp[hid])
  have NR:(bS L e clock).map (·.born)=L.map (·.born):=by rw[hp,List.map_set];exact xS (by rw[bu,kg];rfl)
  refine⟨by rw[KS,h];simp,by rw[KS];exact h1,?_,by rw[NR];exact h3,λx hx=>?_,λx hx=>?_,old.born,?_⟩
  .rw[hp,List.map_set];exact Dw h2 im
  .simp only[iQ,h];rw[hp]at hx;rcases List.mem_or_eq_of_mem_set hx with hx|hx
   .exact hc x hx
   .rw[hx];exact hc old hold
  .have AR:=hx;rw[hp]at hx;by_cases e1:x.id=e.id
   .left;refine⟨old.born,iF (L:=bS L e clock) (f:=(·.id)) (by rw[KS];exact h1) AR ?_ e1⟩;rw[hp];exact List.mem_iff_getElem?.2 ⟨n,by rw[List.getElem?_set];simp[(List.getElem?_eq_some_iff.1 kg).1]⟩
   .rcases List.mem_or_eq_of_mem_set hx with hx|hx
    .exact .inr ⟨hx,e1⟩
    .exact .inl ⟨_,hx⟩
  .rw[hp];exact List.mem_iff_getElem?.2 ⟨n,by rw[List.getElem?_set];simp[(List.getElem?_eq_some_iff.1 kg).1]⟩
def lP(s:Dsk)(p:Nat)(B:Nat->Nat->Nat):Nat->Dsk
 |0=>s
 |n+1=>(lP s p B n).wr n p (B n)
theorem tX(s:Dsk)(p:Nat)(B:Nat->Nat->Nat)(n d q i:Nat):(lP s p B n).c d q i=if q=p∧d<n then B d i else s.c d q i:=by
 induction n with
 |zero=>rw[ah (by omega)];rfl
 |succ n ih=>
  show dF (lP s p B n).c n p (B n) d q i=_;unfold dF;by_cases h1:d=n∧q=p
  .rw[ai h1,ai ⟨h1.2,by omega⟩,h1.1]
  .rw[ah h1,ih];by_cases h2:q=p∧d<n
   .rw[ai h2,ai ⟨h2.1,by omega⟩]
   .rw[ah h2,ah (by omega)]
section
variable {X D DB DA M:Nat}{RB RA:Nat->Nat}{nd nb turn:Nat}{s:Dsk}{L:List Ent}{w w' v:World}{S:Nat->Prop}
theorem EntOk.more{c:Nat->Nat->Nat->Nat}{e:Ent}(h:EntOk nb turn c e){t':Nat}(ht:turn<=t'){c':Nat->Nat->Nat->Nat}(hc:∀d j,c' d e.slot j=c d e.slot j):EntOk nb t' c' e:=
 ⟨h.id1,h.id2,h.size,ak h.turn ht,h.slot,h.val,h.ten,λk hk AX j hj=>(hc k j).trans (h.blk k hk AX j hj)⟩
theorem StE.xn(h:StE X D DB DA M RB RA nd nb turn s L w):¬eH D RB RA nd X:=by
 rintro(q|⟨d,hd,q|q⟩)
 .exact bP h.row h.dk.row (by decide) q
 .exact bP h.row (h.dk.rb d hd) (by decide) q
 .exact bP h.row (h.dk.ra d hd) (by decide) q
theorem iP{w:World}{M b clock:Nat}{L:List Ent}{x:Array Value}{t:TypeId}{fr:Nat×Nat}(h:w.heap[M]?=some (bL L clock))(h':w.heap[b]?=some (.cells x t fr)):M≠b:=λe=>by rw[e,h']at h;cases h
theorem StE.mn(h:StE X D DB DA M RB RA nd nb turn s L w):¬eH D RB RA nd M∧M≠X∧M≠DB∧M≠DA:=by
 obtain⟨cl,hm,_⟩:=h.map;refine⟨?_,iP hm h.row,iP hm h.dk.db,iP hm h.dk.da⟩;rintro(q|⟨d,hd,q|q⟩)
 .exact iP hm h.dk.row q
 .exact iP hm (h.dk.rb d hd) q
 .exact iP hm (h.dk.ra d hd) q
theorem StE.wrX(h:StE X D DB DA M RB RA nd nb turn s L w){t':Nat}(ht:turn<=t')(hW:Wr w X (.cells #[.pointer (some ⟨D,0,none⟩),.map (some M),.int .u64 (t':Nat)] 80) w'):StE X D DB DA M RB RA nd nb t' s L w':=
 ⟨hW.at_,let ⟨cl,q1,q2⟩:=h.map;⟨cl,aO hW q1 h.mn.2.1,q2⟩,h.dk.kp ((Kp.refl w (λb=>b=X)).wr (.inl rfl) hW) (λe=>h.xn (.inl e.symm)) (λe=>bP h.row h.dk.db (by decide) e.symm) (λe=>bP h.row h.dk.da (by decide) e.symm) (λd hd=>⟨λe=>h.xn (.inr ⟨d,hd,.inl e.symm⟩),λe=>h.xn (.inr ⟨d,hd,.inr e.symm⟩)⟩),λe he=>(h.ent e he).more ht λ_ _=>rfl,h.ids,h.slots,h.borns⟩
def mV(L:List Ent)(X id size tn p nb V:Nat)(j:Nat)(x:Value)(w:World):Prop:=
 match j with
 |0=>x=.int .i64 (id:Nat)
 |1=>x=.int .i64 (size:Nat)
 |2=>x=.pointer (some ⟨X,0,none⟩)
 |3=>x=.pointer (some ⟨X,0,none⟩)
 |4=>x=.pointer (some ⟨X,2,none⟩)
 |5=>x=.int .u64 (tn:Nat)
 |6=>x=.agg (bG id size tn)
 |7=>x=.pointer (some ⟨X,0,none⟩)
 |8=>∃g t,x=.slice (some ⟨g,0,none⟩) nb nb∧w.heap[g]?=some (.cells (gK nb t) 4)∧(∀e∈L,t e.slot=true)∧∀j,t j=true->∃e∈L,e.slot=j
 |9=>x=.int .i64 (p:Nat)
 |10=>x=.agg (aL id size tn p λ_=>false)
 |11=>∃g,x=.pointer (some ⟨g,0,none⟩)∧V<=g∧∃c:Array Value,c.size=18∧w.heap[g]?=some (.cells c 123)
 |_=>True
theorem Po(L:List Ent)(X id size tn p nb V:Nat):∀j x w w',mV L X id size tn p nb V j x w->Ext w w'->mV L X id size tn p nb V j x w':=by
 intro j x w w' h hE;unfold mV at h⊢;split at h<;>first|exact h|skip
 .obtain⟨g,t,e,h1,h2⟩:=h;exact⟨g,t,e,hE.row h1,h2⟩
 .obtain⟨g,e,h1,c,h2,hg⟩:=h;exact⟨g,e,h1,c,h2,hE.row hg⟩
theorem Ts{L:List Ent}{X id size tn p nb V g:Nat}{w w':World}{cc:Array Value}(hc:cc.size=18)(rv:∃c0,w.heap[g]?=some (.cells c0 123))(hW:Wr w g (.cells cc 123) w'):∀j x,mV L X id size tn p nb V j x w->mV L X id size tn p nb V j x w':=by
 intro j x h;obtain⟨c0,rv⟩:=rv;unfold mV at h⊢;split at h<;>first|exact h|skip
 .obtain⟨g',t,e,h1,h2⟩:=h;exact⟨g',t,e,aO hW h1 (bP h1 rv (by decide)),h2⟩
 .obtain⟨g',e,h1,c,h2,hg⟩:=h;by_cases e':g'=g
  .subst e';exact⟨g',e,h1,_,hc,hW.at_⟩
  .exact⟨g',e,h1,c,h2,aO hW hg e'⟩
theorem Io(id size m p BA:Nat)(PB:Nat->Nat)(val:Nat->Nat)(po:1<=id)(hid:id<=9999)(fo:size<=400)(hm:m=(size+9)/10)(fh:∀i,val i<256)(ht:turn<9223372036854775808)(kl:4<=nb)(jb:14<=nd)(gh:nd<=18)(eu:nb<=64)(hX:StE X D DB DA M RB RA nd nb turn s L v)
  (hp:p<nb) (GK:∀e∈L,e.slot≠p) (OH:∀j,j<p->∃e∈L,e.slot=j)
  (AN:v.heap[BA]?=some (.cells (allA λk=>sl (PB k) m) 43)) (qm:∀k,k<14->v.heap[PB k]?=some (.cells (aE m (bJ val size k)) 5)) (ml:∀k i,bJ val size k i<256) :
  aJ Tryz.prog 61 #[.pointer (some ⟨X,0,none⟩),.int .i64 (id:Nat),.int .i64 (size:Nat),sl BA 14] S v λx S' v'=>x=.tuple #[]∧S'=S∧Kp v (dG X D M RB RA nd) v'∧∃clock,PutOk L ⟨id,size,turn+1,p,val,λ_=>true,0⟩ clock∧StE X D DB DA M RB RA nd nb (turn+1) (lP s p (λk=>bB id size (turn+1) k ((size+9)/10) (bJ val size k)) 14) (bS L ⟨id,size,turn+1,p,val,λ_=>true,0⟩ clock) v':=by
 refine pU Tryz.func61 rfl Tryz.ntmps61 λStop cc cs ret f0 g0 g1 g2 g3=>?_
 have sf:m<=79:=by omega
 have HM:=aP hm;clear hm;have c2:=hX.c2;have IW:IntKind.u64.wrap ((turn:Int)+1)=((turn+1:Nat):Int):=by rw[IntKind.wrap_u64];omega
 have HW:=aP IW;clear IW;repeat refine rM c2 ?_
 refine dQ aB rfl rfl (by kernel_rfl) (x:=.tmp 17) (y:=.tmp 15) (g:=X) (j:=2) (z:=.int .u64 ((turn+1:Nat):Int)) rfl (by simp) (by simp[HW.out]) rfl rfl hX.row (by simp) (by kernel_rfl) λw1 OS=>?_
 simp only[stO_none];obtain⟨tn,QJ⟩:∃tn,tn=turn+1:=⟨_,rfl⟩;rw[<-QJ]at OS;have ss:StE X D DB DA M RB RA nd nb tn s L w1:=hX.wrX (by omega) OS;have c2':=ss.c2;have XQ:tn<9223372036854775810:=by omega
 have HT:=aP QJ;clear QJ;repeat refine rN ?_
 refine iY (by kernel_rfl) (by kernel_rfl) (by kernel_rfl) 12 [0,1,2,3,4,5,6,7,8,9,10,11] (by kernel_rfl) (mV L X id size tn p nb w1.heap.size) (λS' w=>S'=S∧Ext w1 w) (λS' f w=>S'=S∧Ext w1 w∧∃g,f 8=.pointer (some ⟨g,0,none⟩)∧w1.heap.size<=g∧w.heap[g]?=some (.cells (aL id size tn p λ_=>false) 123)) (λS' w w' h hE=>⟨h.1,h.2.trans _ _ _ hE⟩) (λS' i f x w w' hi hA jh=>?_) (Po _ _ _ _ _ _ _ _) ?_ ⟨rfl,.refl _⟩ ?_ ?_ ?_
 .exfalso;have ft:i<13:=hi;simp at hA;omega
 .intro j hj he x w h;have jo:j<13:=hj;rcases(by omega:j=0∨j=1∨j=2∨j=3∨j=4∨j=5∨j=6∨j=7∨j=8∨j=9∨j=10∨j=11∨j=12) with rfl|rfl|rfl|rfl|rfl|rfl|rfl|rfl|rfl|rfl|rfl|rfl|rfl
  .cases he
  .cases he
  .cases he
  .cases he
  .cases he
  .cases he
  .cases he
  .cases he
  .cases he
  .cases he
  .cases he
  .cases he
  .exact trivial
 .intro i f S1 w rest hi dy hB hf hd dj;have q0:f 0=.pointer (some ⟨X,0,none⟩):=(hf 0 (aV (by kernel_rfl))).trans (by simp[g0]);have q1:f 1=.int .i64 (id:Nat):=(hf 1 (aV (by kernel_rfl))).trans (by simp[g1]);have q2:f 2=.int .i64 (size:Nat):=(hf 2 (aV (by kernel_rfl))).trans (by simp[g2]);have ft:i<13:=hi
  obtain⟨eS,hE⟩:=hB (by
   simp
   omega)
  subst S1;have hcw:=hE.cell c2';have jq:=ss.ext hE;clear hf hB;rcases(by omega:i=0∨i=1∨i=2∨i=3∨i=4∨i=5∨i=6∨i=7∨i=8∨i=9∨i=10∨i=11∨i=12) with rfl|rfl|rfl|rfl|rfl|rfl|rfl|rfl|rfl|rfl|rfl|rfl|rfl
  .skip;clear hd;refine rY aB ?_;exact dj _ w (.refl w) rfl
  .skip;clear hd;refine rY aB ?_;exact dj _ w (.refl w) rfl
  .skip;clear hd;refine rY aB ?_;exact dj _ w (.refl w) rfl
  .skip;have d2:f 20=.pointer (some ⟨X,0,none⟩):=hd 2 (aD (by kernel_rfl));clear hd;refine rY aB ?_;exact dj _ w (.refl w) rfl
  .skip;have d3:f 21=.pointer (some ⟨X,0,none⟩):=hd 3 (aD (by kernel_rfl));clear hd;refine rY aB ?_;exact dj _ w (.refl w) rfl
  .skip;have d4:f 22=.pointer (some ⟨X,2,none⟩):=hd 4 (aD (by kernel_rfl));clear hd;(refine rO aB rfl ?_;intro _ dt K_ dr;(have hc:=(Ext.twin dt).cell hcw);go_simp;(try rw[wI _]);(try rw[wU _]);refine dr _ ?_;clear dr K_ dt;simp only[sS,sN]);exact dj _ w (.refl w) rfl
  .skip;have d0:f 18=.int .i64 (id:Nat):=hd 0 (aD (by kernel_rfl));have d1:f 19=.int .i64 (size:Nat):=hd 1 (aD (by kernel_rfl));have d5:f 23=.int .u64 (tn:Nat):=hd 5 (aD (by kernel_rfl));clear hd;refine rY aB ?_;exact dj _ w (.refl w) rfl
  .skip;clear hd;refine rY aB ?_;exact dj _ w (.refl w) rfl
  .skip;have d7:f 25=.pointer (some ⟨X,0,none⟩):=hd 7 (aD (by kernel_rfl));clear hd;refine dV Tryz.func56 (Ez kl jb gh eu jq) ?_;rintro _ S1 w2 _ ⟨e1,ep,g,t,rfl,hg,h1,h2⟩;subst S1;exact dj _ w2 ep ⟨g,t,rfl,hg,h1,h2⟩
  .skip;obtain⟨g,t,d8,hg,h1,h2⟩:∃g t,f 26=.slice (some ⟨g,0,none⟩) nb nb∧w.heap[g]?=some (.cells (gK nb t) 4)∧(∀e∈L,t e.slot=true)∧∀j,t j=true->∃e∈L,e.slot=j:=hd 8 (aD (by kernel_rfl));clear hd;have OC:t p=false:=by
    cases h:t p with
    |false=>rfl
    |true=>obtain⟨e,he,h3⟩:=h2 p h;exact absurd h3 (GK e he)
   have OB:∀j,j<p->t j=true:=λj hj=>by obtain⟨e,he,h3⟩:=OH j hj;rw[<-h3];exact h1 e he
   refine dV Tryz.func69 (Xz g nb t p eu hp OC OB hg) ?_;rintro _ S1 w2 _ ⟨rfl,e1,e2⟩;subst S1 w2;exact dj _ w (.refl w) rfl
  .skip;have d6:f 24=.agg (bG id size tn):=hd 6 (aD (by kernel_rfl));have d9:f 27=.int .i64 (p:Nat):=hd 9 (aD (by kernel_rfl));clear hd;unfold bG at d6;refine rY aB ?_;exact dj _ w (.refl w) rfl
  .skip;clear hd;refine cD aB rfl rfl (by kernel_rfl) (.agg (aL 0 0 0 0 λ_=>false)) rfl (by kernel_rfl) λw3 ef km ma=>?_
   exact dj _ w3 ef ⟨_,rfl,hE.size,_,rfl,km⟩
  .exact absurd rfl dy
 .rintro f S1 w rest ⟨eS,hB⟩ hf hd dj;subst S1;obtain⟨g,d11,su,c0,mq,hg⟩:∃g,f 8=.pointer (some ⟨g,0,none⟩)∧w1.heap.size<=g∧∃c:Array Value,c.size=18∧w.heap[g]?=some (.cells c 123):=hd 11 (by simp);have d10:f 28=.agg (aL id size tn p λ_=>false):=hd 10 (by simp)
  clear hd;refine cS aB rfl rfl (by kernel_rfl) (x:=.tmp 8) (y:=.tmp 28) (g:=g) (c:=aL id size tn p λ_=>false) rfl (by simp[d11]) (by simp[d10]) hg (by kernel_rfl) mq (by simp[aL,Value.oneCell']) λw3 hW=>?_
  exact dj undef S w3 ⟨rfl,bO hB su hW,g,d11,su,hW.at_⟩ trivial λj x' hj h=>Ts rfl ⟨_,hg⟩ hW j x' h
 .rintro f S1 w ⟨eS,fj,V,q8,hVV,hV⟩ hf hd;subst S1;have q0:f 0=.pointer (some ⟨X,0,none⟩):=(hf 0 (aV (by kernel_rfl))).trans (by simp[g0]);have q1:f 1=.int .i64 (id:Nat):=(hf 1 (aV (by kernel_rfl))).trans (by simp[g1]);have q3:f 3=sl BA 14:=(hf 3 (aV (by kernel_rfl))).trans (by simp[g3]);clear hf hd g0 g1 g2 g3;have jq:=ss.ext fj;have rp:Kp v (dG X D M RB RA nd) w:=((Kp.refl v _).wr (.inl (.inl rfl)) OS).ext fj;have UH:w.heap[BA]?=some (.cells (allA λk=>sl (PB k) m) 43):=fj.row (aO OS AN (bP AN hX.row (by decide)))
  have TV:∀k,k<14->w.heap[PB k]?=some (.cells (aE m (bJ val size k)) 5):=λk hk=>fj.row (aO OS (qm k hk) (bP (qm k hk) hX.row (by decide)))
  obtain⟨clock,se,qp⟩:=jq.map;have l8:M≠V:=iP se hV;have own:∀{b:Nat}{x:Array Value}{t:TypeId}{fr:Nat×Nat},w.heap[b]?=some (.cells x t fr)->t≠123->t≠115->t≠137->¬(b=V∨eH D RB RA nd b):=λhb h1 h2 h3=>by
   rintro(h|h|⟨d,hd,h|h⟩)
   .exact bP hb hV h1 h
   .exact bP hb jq.dk.row h2 h
   .exact bP hb (jq.dk.rb d hd) h3 h
   .exact bP hb (jq.dk.ra d hd) h3 h
  obtain⟨BK,NK⟩:∃BK:Nat->Nat->Nat,BK=λk=>bB id size tn k m (bJ val size k):=⟨_,rfl⟩
  repeat refine rN ?_
  refine bF (λd f' S' w'=>∃k,d=14-k∧k<=14∧S'=S∧Kp w (λb=>b=V∨eH D RB RA nd b) w'∧DiskG D DB DA RB RA nd nb (lP s p BK k) w'∧w'.heap[V]?=some (.cells (aL id size tn p λj=>decide (j<k)) 123)∧f' 0=.pointer (some ⟨X,0,none⟩)∧f' 1=.int .i64 (id:Nat)∧f' 8=.pointer (some ⟨V,0,none⟩)∧f' 29=sl BA 14∧f' 30=.int .i64 14∧f' 31=.int .i64 (k:Nat)) 14 ⟨0,by omega,by omega,rfl,.refl _ _,jq.dk,by simpa using hV,by simp[q0],by simp[q1],by simp[q8],by simp[q3],by simp[q3,sl],by simp⟩ ?_
  clear q0 q1 q3 q8 f;rintro d f S' w' ⟨k,rfl,hk,eS,hK,hD,VS,q0,q1,q8,U8,WN,A9⟩ dj;subst S';have h_:w'.heap[X]?=some _:=hK.cells _ _ _ _ (own jq.row (by decide) (by decide) (by decide)) jq.row;have xm:w'.cell? ⟨X,0,none⟩=some (.pointer (some ⟨D,0,none⟩)):=(ab _ _ _ _ _ _ h_).trans rfl;have ub:w'.cell? ⟨X,1,none⟩=some (.map (some M)):=(ab _ _ _ _ _ _ h_).trans rfl;repeat refine rN ?_
  by_cases dp:k<14
  .have ll:(k:Int)<14:=by omega
   have cB:w'.cell? ⟨BA,k,none⟩=some (sl (PB k) m):=by rw[ab _ _ _ _ _ _ (hK.cells _ _ _ _ (own UH (by decide) (by decide) (by decide)) UH)];exact jC _ k dp
   have UG:dD w' (PB k) 0 m (bJ val size k):=λi hi=>by rw[an,ab _ _ _ _ _ _ (hK.cells _ _ _ _ (own (TV k dp) (by decide) (by decide) (by decide)) (TV k dp))];exact eE _ _ _ hi
   refine rX (by simp[Act.eval,A9,WN,ll]) ?_;repeat refine rM cB ?_
   unfold sl;refine rK Tryz.func70 (Co V id size tn p k m m (PB k) 0 (λj=>decide (j<k)) (bJ val size k) hid fo dp (by omega) sf (ml k) UG hp jb gh eu xm hD VS) ?_;rintro _ S1 w2 _ ⟨rfl,e1,iu,xf,VR⟩;subst S1;repeat refine rN ?_
   have hBk:bB id size tn k m (bJ val size k)=BK k:=by rw[NK]
   rw[hBk]at xf;refine dj _ _ _ (14-(k+1)) (by omega) ⟨k+1,rfl,by omega,rfl,hK.trans iu,xf,?_,by simp[q0],by simp[q1],by simp[q8],by simp[U8,sl],by simp[WN],by simp⟩;rw[VR];congr 2;refine congrArg (aL id size tn p) (funext λj=>?_)
   by_cases e1:j=k
   .subst e1;simp
   .rw[ah e1];have:(j<k+1)↔j<k:=by omega
    simp[this]
  .obtain rfl:k=14:=by omega
   have I_:w'.heap[V]?=some (.cells (bN ⟨id,size,tn,p,val,λ_=>true,0⟩) 123):=VS
   have hMo:¬(M=V∨eH D RB RA nd M):=by
    rintro(h|h)
    .exact l8 h
    .exact jq.mn.1 h
   have jh:w'.heap[M]?=some (bL L clock):=hK.objs _ _ hMo se trivial;refine rZ (by simp[Act.eval,A9,WN]) ?_;refine bC rfl ?_;repeat refine rN ?_
   refine iZ aB (by first|kernel_rfl|rfl) ?_
   simp only[bh,av,cf,Nat.reduceAdd,an];refine cU 0 ?_;refine cU 1 ?_;refine cU 2 ?_;co_applyP cT (i:=3) rfl (λ_ dt=>run_eq_of ?u3_3) ?v3_3
   case u3_3=>intro K_ dr;(have hc:=(Ext.twin dt).cell ub);go_simp;(try rw[wI _]);(try rw[wU _]);exact dr
   simp only[sS,sN];refine cU 4 ?_;co_applyP cT (i:=5) rfl (λu dt=>jN (x:=.tmp 8) (b:=V) rfl (by simp[q8]) ((Ext.twin dt).row I_)) ?v5;simp only[sS,sN];refine cL 6 ?_;refine vF rfl rfl rfl (x:=.tmp 44) (y:=.tmp 45) (z:=.tmp 46) (e:=⟨id,size,tn,p,val,λ_=>true,0⟩) (by simp) (by simp[q1]) (by simp;rfl) jh λw2 vd=>?_
   simp only[stO_none];repeat refine rN ?_
   refine gQ ?_;have rn:=yN (e:=⟨id,size,tn,p,val,λ_=>true,0⟩) hX.ids hX.slots hX.borns qp GK
   have l_:Kp v (dG X D M RB RA nd) w':=⟨ak rp.size hK.size,hK.os.trans rp.os,hK.output.trans rp.output,λb o hb hc ht=>hK.objs b o (λh=>by
    rcases h with h|h
    .have:=(Array.getElem?_eq_some_iff.1 hc).1;have h2:=OS.size;omega
    .exact hb (.inr (.inr h))) (rp.objs b o hb hc ht) ht⟩
   have QJ:=HT.out;subst QJ;have p9:BK=λk=>bB id size (turn+1) k ((size+9)/10) (bJ val size k):=by rw[NK,<-HM.out]
   rw[p9]at hD;refine ret _ _ S w2 (.tuple #[]) ?_ ⟨rfl,rfl,l_.wr (.inl (.inr (.inl rfl))) vd,clock,rn,aO vd h_ (λe=>jq.mn.2.1 e.symm),⟨_,vd.at_,rn.lt⟩,hD.kp ((Kp.refl w' (λb=>b=M)).wr (.inl rfl) vd) (λe=>jq.mn.1 (.inl e.symm)) (λe=>jq.mn.2.2.1 e.symm) (λe=>jq.mn.2.2.2 e.symm) (λd hd=>⟨λe=>jq.mn.1 (.inr ⟨d,hd,.inl e.symm⟩),λe=>jq.mn.1 (.inr ⟨d,hd,.inr e.symm⟩)⟩),λe he=>?_,rn.idn,rn.slots,rn.borns⟩
   .simp[results,Tryz.results61]
   .rcases rn.mem e he with⟨b,rfl⟩|⟨sr,_⟩
    .refine⟨po,hid,fo,ae _,hp,fh,(by show 10<=aT (λ_=>true) 14;decide),λk hk _ j hj=>?_⟩
     rw[tX,ai ⟨rfl,hk⟩]
    .refine(hX.ent e sr).more (by omega) λd j=>?_
     rw[tX,ah (λq=>GK e sr q.1)]
end
def jW(g:Nat->Bool):Array Value:=#[.bool (g 0),.bool (g 1),.bool (g 2),.bool (g 3),.bool (g 4),.bool (g 5),.bool (g 6),.bool (g 7),.bool (g 8),.bool (g 9),.bool (g 10),.bool (g 11),.bool (g 12),.bool (g 13)]
theorem Rw{g:Nat->Bool}{j:Nat}(h:j<14):(jW g)[j]?=some (.bool (g j)):=by rcases(by omega:j=0∨j=1∨j=2∨j=3∨j=4∨j=5∨j=6∨j=7∨j=8∨j=9∨j=10∨j=11∨j=12∨j=13) with rfl|rfl|rfl|rfl|rfl|rfl|rfl|rfl|rfl|rfl|rfl|rfl|rfl|rfl<;>rfl
theorem uM:Tryz.zeroCells137=aE 96 λ_=>0:=oZ.trans (vL 96)
def blk1(s:Dsk)(p:Nat)(good:Nat->Bool)(last:Bool):Nat->Dsk
 |0=>s
 |k+1=>if good k=last∧dI ((blk1 s p good last k).c k p) (λ_=>0) 0 96=false then(blk1 s p good last k).wr k p λ_=>0 else blk1 s p good last k
def gW(s:Dsk)(p:Nat)(good:Nat->Bool):Dsk:=blk1 (blk1 s p good false 14) p good true 14
theorem Ga{s:Dsk}{p:Nat}{good:Nat->Bool}{last:Bool}(n:Nat){d q:Nat}(h:q≠p):(blk1 s p good last n).c d q=s.c d q:=by
 induction n with
 |zero=>rfl
 |succ n ih=>
  unfold blk1;split
  .rw[<-ih];show dF (blk1 s p good last n).c n p (λ_=>0) d q=_;funext i;unfold dF;rw[ah (λe=>h e.2)]
  .exact ih
theorem kY{s:Dsk}{p:Nat}{good:Nat->Bool}{d q:Nat}(h:q≠p):(gW s p good).c d q=s.c d q:=(Ga 14 h).trans (Ga 14 h)
section
variable {X D DB DA M:Nat}{RB RA:Nat->Nat}{nd nb turn:Nat}{s:Dsk}{L:List Ent}{w w' v:World}{S:Nat->Prop}
theorem yF(good:Nat->Bool)(p:Nat)(hp:p<nb)(jb:14<=nd)(gh:nd<=18)(eu:nb<=64)(hx:v.heap[X]?=some (.cells #[.pointer (some ⟨D,0,none⟩),.map (some M),.int .u64 (turn:Nat)] 80))(hD:DiskG D DB DA RB RA nd nb s v):aJ Tryz.prog 57 #[.pointer (some ⟨X,0,none⟩),.int .i64 (p:Nat),.agg (jW good)] S v λx S' v'=>x=.tuple #[]∧S'=S∧Kp v (eH D RB RA nd) v'∧DiskG D DB DA RB RA nd nb (gW s p good) v':=by
 obtain⟨ib,zb,qd,qu,rr,xa,va⟩:=Vk;refine jR Tryz.func57 rfl Tryz.ntmps57 λStop cc cs ret f g0 g1 g2=>?_
 repeat refine rN ?_
 refine aN (Q:=λy w=>y=.pointer (some ⟨v.heap.size,0,none⟩)∧Ext v w∧w.heap[v.heap.size]?=some (.cells (jW good) 121)) aB rfl rfl (by kernel_rfl) (λu hu=>⟨_,_,.inl (gR (x:=.tmp 2) (y:=.agg (jW good)) rfl (by simp[g2]) u),by rw[hu.heap],(Ext.twin hu).trans _ _ _ (Ext.alloc _ _),by rw[<-hu.heap];exact bI _ _⟩) ?_;rintro _ w1 ⟨rfl,eh,fg⟩;simp only[stO_some];repeat refine rN ?_
 refine aN (Q:=λy w=>y=.slice (some ⟨w1.heap.size,0,none⟩) 2 2∧Ext w1 w∧w.heap[w1.heap.size]?=some (.cells #[.bool false,.bool true] 4)) aB rfl rfl (by kernel_rfl) (λu hu=>⟨_,_,.inl (sH (x0:=.const (.bool false)) (x1:=.const (.bool true)) (y0:=.bool false) (y1:=.bool true) rfl Tryz.underlying103 qd qu rr va rfl rfl rfl rfl u),by rw[hu.heap],(Ext.twin hu).trans _ _ _ (Ext.alloc _ _),by rw[<-hu.heap];exact bI _ _⟩) ?_;rintro _ w2 ⟨rfl,ep,ko⟩;simp only[stO_some];repeat refine rN ?_
 have mi:=eh.trans _ _ _ ep;have xf:=hD.ext mi;have fe:∀{b:Nat}{x:Array Value}{t:TypeId}{fr:Nat×Nat},w2.heap[b]?=some (.cells x t fr)->t≠115->t≠137->¬eH D RB RA nd b:=λhb h2 h3=>by
  rintro(h|⟨d,hd,h|h⟩)
  .exact bP hb xf.row h2 h
  .exact bP hb (xf.rb d hd) h3 h
  .exact bP hb (xf.ra d hd) h3 h
 have yd:=ep.row fg;refine bF (λd f' S' w=>∃i,d=2-i∧i<=2∧S'=S∧Kp w2 (eH D RB RA nd) w∧DiskG D DB DA RB RA nd nb (if i=0 then s else if i=1 then blk1 s p good false 14 else gW s p good) w∧f' 0=.pointer (some ⟨X,0,none⟩)∧f' 1=.int .i64 (p:Nat)∧f' 5=.pointer (some ⟨v.heap.size,0,none⟩)∧f' 9=.slice (some ⟨w1.heap.size,0,none⟩) 2 2∧f' 10=.int .i64 2∧f' 11=.int .i64 (i:Nat)) 2 ⟨0,by omega,by omega,rfl,.refl _ _,xf,by simp[g0],by simp[g1],by simp,by simp,by simp,by simp⟩ ?_;clear g0 g1 g2 f;rintro d f S' w ⟨i,rfl,hi,eS,wj,OW,g0,g1,g5,g9,g10,g11⟩ dj;subst S';repeat refine rN ?_
 by_cases dp:i<2
 .have pd:(i:Int)<2:=by omega
  have BD:w.cell? ⟨w1.heap.size,i,none⟩=some (.bool (decide (i=1))):=by
   rw[ab _ _ _ _ _ _ (wj.cells _ _ _ _ (fe ko (by decide) (by decide)) ko)];match i,dp with
   |0,_=>rfl
   |1,_=>rfl
  refine rX (by simp[Act.eval,g11,pd]) ?_;repeat refine rM BD ?_
  obtain⟨s1,last,jg,uh⟩:∃s1 last,DiskG D DB DA RB RA nd nb s1 w∧decide (i=1)=last∧(if i+1=0 then s else if i+1=1 then blk1 s p good false 14 else gW s p good)=blk1 s1 p good last 14:=by
   match i,dp with
   |0,_=>exact⟨s,false,OW,rfl,rfl⟩
   |1,_=>exact⟨blk1 s p good false 14,true,OW,rfl,rfl⟩
  obtain⟨G5,uh⟩:=uh;rw[G5]at BD⊢;clear G5 OW;refine bF (λd f' S' w'=>∃k,d=14-k∧k<=14∧S'=S∧Kp w2 (eH D RB RA nd) w'∧DiskG D DB DA RB RA nd nb (blk1 s1 p good last k) w'∧f' 0=.pointer (some ⟨X,0,none⟩)∧f' 1=.int .i64 (p:Nat)∧f' 5=.pointer (some ⟨v.heap.size,0,none⟩)∧f' 9=.slice (some ⟨w1.heap.size,0,none⟩) 2 2∧f' 10=.int .i64 2∧f' 11=.int .i64 (i:Nat)∧f' 7=.bool last∧f' 15=.int .i64 (k:Nat)) 14 ⟨0,by omega,by omega,rfl,wj,jg,by simp[g0],by simp[g1],by simp[g5],by simp[g9],by simp[g10],by simp[g11],by simp,by simp⟩ ?_;clear g0 g1 g5 g9 g10 g11 f;rintro d f S' w' ⟨k,rfl,hk,eS,uv,uw,g0,g1,g5,g9,g10,g11,g7,g15⟩ gj;subst S';repeat refine rN ?_
  by_cases hlk:k<14
  .have ll:(k:Int)<14:=by omega
   have SY:w'.cell? ⟨v.heap.size,k,none⟩=some (.bool (good k)):=by rw[ab _ _ _ _ _ _ (uv.cells _ _ _ _ (fe yd (by decide) (by decide)) yd)];exact Rw hlk
   have XG:=uv.cells _ _ _ _ (fe (mi.row hx) (by decide) (by decide)) (mi.row hx);have c0:w'.cell? ⟨X,0,none⟩=some (.pointer (some ⟨D,0,none⟩)):=(ab _ _ _ _ _ _ XG).trans rfl;refine rX (by simp[Act.eval,g15,ll]) ?_;obtain⟨gk,sj⟩:∃gk,good k=gk:=⟨_,rfl⟩;have HG:=aP sj;rw[sj]at SY;clear sj;rcases gk with _|_<;>rcases last with _|_
   .skip;repeat (first|refine rQ rfl ?_|(refine rO aB rfl ?_;intro _ dt K_ dr;(have hc:=(Ext.twin dt).cell SY;have ek:=(Ext.twin dt).cell c0);go_simp;(try rw[wI _]);(try rw[wU _]);refine dr _ ?_;clear dr K_ dt;simp only[sS,sN])|refine rW ?_)
    rw[uM];refine rK Tryz.func72 (yA k p (λ_=>0) (by omega) hp gh eu uw.old) ?_;rintro _ S1 w3 _ ⟨rfl,e1,ef⟩;subst S1;cases hq:dI ((blk1 s1 p good false k).c k p) (λ_=>0) 0 96 with
    |true=>
     repeat refine rN ?_
     refine rZ (by simp[Act.eval]) ?_;repeat refine rN ?_
     refine gj _ _ _ (14-(k+1)) (by omega) ⟨k+1,rfl,by omega,rfl,uv.ext ef,?_,by simp[g0],by simp[g1],by simp[g5],by simp[g9],by simp[g10],by simp[g11],by simp[g7],by simp⟩;unfold blk1;rw[ah (λh=>by rw[hq]at h;cases h.2)];exact uw.ext ef
    |false=>
     have c3:=ef.cell c0;repeat refine rN ?_
     refine rX (by simp[Act.eval]) ?_;repeat (first|refine rQ rfl ?_|(refine rO aB rfl ?_;intro _ dt K_ dr;(have ek:=(Ext.twin dt).cell c3);go_simp;(try rw[wI _]);(try rw[wU _]);refine dr _ ?_;clear dr K_ dt;simp only[sS,sN])|refine rW ?_)
     rw[uM];refine rK Tryz.func74 (xQ k p (λ_=>0) (by omega) hp gh eu (λ_=>by omega) (uw.ext ef)) ?_;rintro _ S1 w4 _ ⟨rfl,e1,xd,p6⟩;subst S1;repeat refine rN ?_
     refine gj _ _ _ (14-(k+1)) (by omega) ⟨k+1,rfl,by omega,rfl,(uv.ext ef).trans xd,?_,by simp[g0],by simp[g1],by simp[g5],by simp[g9],by simp[g10],by simp[g11],by simp[g7],by simp⟩;unfold blk1;rw[ai ⟨HG.out,hq⟩];exact p6
   .skip;repeat refine rM SY ?_
    refine rZ (by simp[Act.eval]) ?_;repeat refine rN ?_
    refine gj _ _ _ (14-(k+1)) (by omega) ⟨k+1,rfl,by omega,rfl,uv,?_,by simp[g0],by simp[g1],by simp[g5],by simp[g9],by simp[g10],by simp[g11],by simp[g7],by simp⟩;unfold blk1;rw[ah (λh=>by rw[HG.out]at h;cases h.1)];exact uw
   .skip;repeat refine rM SY ?_
    refine rZ (by simp[Act.eval]) ?_;repeat refine rN ?_
    refine gj _ _ _ (14-(k+1)) (by omega) ⟨k+1,rfl,by omega,rfl,uv,?_,by simp[g0],by simp[g1],by simp[g5],by simp[g9],by simp[g10],by simp[g11],by simp[g7],by simp⟩;unfold blk1;rw[ah (λh=>by rw[HG.out]at h;cases h.1)];exact uw
   .skip;repeat (first|refine rQ rfl ?_|(refine rO aB rfl ?_;intro _ dt K_ dr;(have hc:=(Ext.twin dt).cell SY;have ek:=(Ext.twin dt).cell c0);go_simp;(try rw[wI _]);(try rw[wU _]);refine dr _ ?_;clear dr K_ dt;simp only[sS,sN])|refine rW ?_)
    rw[uM];refine rK Tryz.func72 (yA k p (λ_=>0) (by omega) hp gh eu uw.old) ?_;rintro _ S1 w3 _ ⟨rfl,e1,ef⟩;subst S1;cases hq:dI ((blk1 s1 p good true k).c k p) (λ_=>0) 0 96 with
    |true=>
     repeat refine rN ?_
     refine rZ (by simp[Act.eval]) ?_;repeat refine rN ?_
     refine gj _ _ _ (14-(k+1)) (by omega) ⟨k+1,rfl,by omega,rfl,uv.ext ef,?_,by simp[g0],by simp[g1],by simp[g5],by simp[g9],by simp[g10],by simp[g11],by simp[g7],by simp⟩;unfold blk1;rw[ah (λh=>by rw[hq]at h;cases h.2)];exact uw.ext ef
    |false=>
     have c3:=ef.cell c0;repeat refine rN ?_
     refine rX (by simp[Act.eval]) ?_;repeat (first|refine rQ rfl ?_|(refine rO aB rfl ?_;intro _ dt K_ dr;(have ek:=(Ext.twin dt).cell c3);go_simp;(try rw[wI _]);(try rw[wU _]);refine dr _ ?_;clear dr K_ dt;simp only[sS,sN])|refine rW ?_)
     rw[uM];refine rK Tryz.func74 (xQ k p (λ_=>0) (by omega) hp gh eu (λ_=>by omega) (uw.ext ef)) ?_;rintro _ S1 w4 _ ⟨rfl,e1,xd,p6⟩;subst S1;repeat refine rN ?_
     refine gj _ _ _ (14-(k+1)) (by omega) ⟨k+1,rfl,by omega,rfl,(uv.ext ef).trans xd,?_,by simp[g0],by simp[g1],by simp[g5],by simp[g9],by simp[g10],by simp[g11],by simp[g7],by simp⟩;unfold blk1;rw[ai ⟨HG.out,hq⟩];exact p6
  .obtain rfl:k=14:=by omega
   refine rZ (by simp[Act.eval,g15]) ?_;refine bC rfl ?_;repeat refine rN ?_
   refine dj _ _ _ (2-(i+1)) (by omega) ⟨i+1,rfl,by omega,rfl,uv,by rw[uh];exact uw,by simp[g0],by simp[g1],by simp[g5],by simp[g9],by simp[g10],by simp⟩
 .obtain rfl:i=2:=by omega
  refine rZ (by simp[Act.eval,g11]) ?_;refine bC rfl ?_;repeat refine rN ?_
  refine gQ ?_;refine ret _ _ S w (.tuple #[]) ?_ ⟨rfl,rfl,((Kp.refl v _).ext mi).trans wj,OW⟩;simp[results,Tryz.results57]
theorem qJ(id:Nat)(h1:1<=id)(h2:id<=9999):aJ Tryz.prog 59 #[.int .i64 (id:Nat)] S v λx S' v'=>x=.bool true∧S'=S∧v'=v:=by
 refine dX Tryz.func59 rfl Tryz.ntmps59 λStop cc cs ret f g0=>?_;have i1:(1:Int)<=(id:Int):=by omega
 have i2:(id:Int)<=9999:=by omega
 repeat refine rN ?_
 refine aM λtodo=>?_;refine ret _ _ S v (.bool true) ?_ ⟨rfl,rfl,rfl⟩;simp[results,Tryz.results59,i1,i2]
theorem StE.slotOff(h:StE X D DB DA M RB RA nd nb turn s L w){p:Nat}{s':Dsk}(hp:∀e∈L,e.slot≠p)(hK:Kp w (eH D RB RA nd) w')(hD:DiskG D DB DA RB RA nd nb s' w')(hc:∀d q,q≠p->s'.c d q=s.c d q):StE X D DB DA M RB RA nd nb turn s' L w':=
 ⟨hK.cells _ _ _ _ h.xn h.row,let ⟨cl,q1,q2⟩:=h.map;⟨cl,hK.objs _ _ h.mn.1 q1 trivial,q2⟩,hD,λe he=>(h.ent e he).more (ae _) λd j=>by rw[hc d _ (hp e he)],h.ids,h.slots,h.borns⟩
theorem Pieces.l14'{v v1:World}{BA:Nat}{PB:Nat->Nat}{m:Nat}{p:Nat->Nat->Nat}(h:Pieces v BA PB m p v1){w:World}(hK:Ext v1 w):w.heap[BA]?=some (.cells (allA λk=>sl (PB k) m) 43)∧∀k,k<14->w.heap[PB k]?=some (.cells (aE m (p k)) 5):=⟨hK.row h.ba,λk hk=>hK.row (h.pb k hk)⟩
theorem zA{x:Nat->Nat}(h:∀i,x i<256)(L m k i:Nat):dN x L m k i<256:=by
 unfold dN;split
 .exact h _
 .omega
theorem mR{x:Nat->Nat}(h:∀i,x i<256)(L k i:Nat):bJ x L k i<256:=by
 unfold bJ;split
 .exact zA h _ _ _ _
 .exact Fld.comb_lt _ (Hn id k) 10 i
theorem sM{id size turn slot:Nat}{g:Nat->Bool}{u:World}{b:Nat}(hb:u.heap[b]?=some (.cells (aL id size turn slot g) 123)){o:Oper}{a:Act}{x:Operand}(dm:o.op=.load 121 x)(hx:a.eval x=.pointer (some ⟨b,4,none⟩)):(execOp a.eval o).run Tryz.prog u=.ok (.value (.agg (jW g))) u:=by
 have h:=run_loadAt_mid (P:=Tryz.prog) u b 4 121 (jW g).toList _ (λj z hy=>by
  have hj:j<14:=(List.getElem?_eq_some_iff.1 hy).1;rw[ab _ _ _ _ _ _ hb]
  rcases(by omega:j=0∨j=1∨j=2∨j=3∨j=4∨j=5∨j=6∨j=7∨j=8∨j=9∨j=10∨j=11∨j=12∨j=13) with rfl|rfl|rfl|rfl|rfl|rfl|rfl|rfl|rfl|rfl|rfl|rfl|rfl|rfl<;>exact hy) Tryz.underlying121 rfl (by kernel_rfl)
 unfold execOp;simp only[dm,hx,df,h,dc,dg]
end
theorem Qj{S:Nat->Prop}{v:World}(ad:Addr)(m k:Nat)(val:Nat->Nat)(hk:k<10)(hm:m<=400):aJ Tryz.prog 76 #[.slice (some ad) 0 0,.int .i64 (k:Nat),.int .i64 (m:Nat)] S v λx S' v'=>x=sl v.heap.size m∧S'=S∧Rowed v m (dN val 0 m k) v':=by
 refine jR Tryz.func76 rfl Tryz.ntmps76 λStop cc cs ret f h0 h1 h2=>?_;have PD:((k*m:Nat):Int)=(k:Int)*(m:Int):=Int.natCast_mul k m;have OM:(k:Int)*(m:Int)<=4000:=by have h:k*m<=10*400:=Nat.mul_le_mul (by omega) hm;omega
 have SA:(0:Int)<=(k:Int)*(m:Int):=by omega
 have e1:(if (0:Int)<(k:Int)*(m:Int) then(0:Int) else(k:Int)*(m:Int))=0:=by split<;>omega
 have e2:(if 0<m then(0:Int) else(m:Int))=0:=by split<;>omega
 clear PD;repeat refine rN ?_
 refine nO aB rfl rfl (by kernel_rfl) rfl (m:=m) (by simp[h2]) (by simp[h2]) (by omega) (by kernel_rfl) Tryz.underlying43 λv1 hE hr hs=>?_;simp only[stO_some];repeat refine rN ?_
 refine aM λtodo=>?_;refine ret _ _ _ _ _ ?_ ⟨rfl,rfl,hE,?_,hs⟩
 .simp[results,Tryz.results76,h0]
 .rw[hr,nV,gP (g:=dN val 0 m k) λi hi=>by simp[dN]]
theorem Za{S:Nat->Prop}{v:World}(m k len cap:Nat)(p:Option Addr)(val:Nat->Nat)(hk:k<10)(hm:m<=400)(hl:len<=400)(hs:fV v p len cap val):aJ Tryz.prog 76 #[.slice p len cap,.int .i64 (k:Nat),.int .i64 (m:Nat)] S v λx S' v'=>x=sl v.heap.size m∧S'=S∧Rowed v m (dN val len m k) v':=by
 rcases hs with hs|⟨⟨ad,rfl⟩,rfl,rfl⟩
 .exact Uh m k len cap p val hk hm hl hs
 .exact Qj ad m k val hk hm
theorem Ic{S:Nat->Prop}{v:World}(len cap:Nat)(p:Option Addr)(val:Nat->Nat)(hl:len<=400)(hx:∀i,val i<256)(hs:fV v p len cap val)(hg:Tryz.prog.globals.size<=v.heap.size):aJ Tryz.prog 58 #[.slice p len cap] S v λy S' v'=>∃BA PB,y=.tuple #[sl BA 14,.int .i64 0]∧Pieces v BA PB ((len+9)/10) (bJ val len) v':=by
 refine dX Tryz.func58 rfl Tryz.ntmps58 λStop cc cs ret f h0=>?_;have OL:¬((400:Int)<(len:Int)):=by omega
 repeat refine rN ?_
 refine rZ (by simp[Act.eval,h0,OL]) ?_;repeat refine rN ?_
 refine rK Tryz.func75 (vR len hl) ?_;rintro _ S1 w1 UX ⟨rfl,e1,e2⟩;subst S1 w1;have hm:(len+9)/10<=400:=by omega
 generalize zw:(len+9)/10=m at hm ret⊢;have HM:Hid ((len+9)/10=m):=zw;clear zw;repeat refine rN ?_
 refine nU aB rfl rfl (by kernel_rfl) rfl (m:=14) (wd:=24) (z:=.slice none 0 0) rfl rfl (by omega) (by omega) (by omega) Tryz.underlying89 (by kernel_rfl) rfl λv1 eh sb jg=>?_;simp only[stO_some];repeat refine rN ?_
 refine cD aB rfl rfl (by kernel_rfl) (.agg (fQ 0)) rfl (by rw[sW];kernel_rfl) λv2 ep pz pj=>?_;simp only[stO_some];repeat refine rN ?_
 have hCI:CI v val len m 0 v2:=by
  refine⟨eh.trans _ _ _ ep,?_,?_,λk hk=>by omega,by omega⟩
  .rw[ep.row sb];congr 2
  .rw[jg]at pz;exact pz
 have fo:v1.heap.size=v.heap.size+1:=jg;rw[fo];refine bF (λd f' S' v'=>∃j,d=10-j∧j<=10∧S'=S∧CI v val len m j v'∧f' 0=.slice p len cap∧f' 4=.int .i64 (m:Nat)∧f' 5=sl v.heap.size 14∧f' 6=ptr (v.heap.size+1)∧f' 15=.int .i64 (j:Nat)) 10 ⟨0,by omega,by omega,rfl,hCI,by simp[h0],by simp,by simp,by simp,by simp⟩ ?_;rintro d f' S' v' ⟨j,rfl,hj,eS,hI,g0,g4,g5,g6,g15⟩ next
 subst S';repeat refine rN ?_
 by_cases dp:j<10
 .have ja:(j:Int)<10:=by omega
  refine rX (by simp[Act.eval,g15,ja]) ?_;repeat refine rN ?_
  refine dQ aB rfl rfl (by kernel_rfl) (x:=.tmp 20) (y:=.tmp 19) (g:=v.heap.size+1) (j:=j) (z:=.int .i64 (j:Nat)) rfl (by simp) (by simp) rfl rfl hI.bk (by simp[fQ];omega) (by kernel_rfl) λv3 fz=>?_;simp only[stO_none];rw[Tl]at fz;have ma:v3.heap.size=v.heap.size+2+j:=fz.size.trans hI.size;have XS:fV v3 p len cap val:=by refine hs.imp (λhs=>hs.imp id λ⟨B,off,q1,q2,q3⟩=>⟨B,off,q1,q2,λi hi=>?_⟩) id;have hc:=q3 i hi;have hb:=sL hc;have:=hI.ext.cell hc;rw[<-this];simp only[World.cell?,fz.other B (by simp only at hb;omega)]
  repeat refine rN ?_
  refine rK Tryz.func76 (Za m j len cap p val dp hm hl XS) ?_;rintro _ S1 v4 hv4 ⟨rfl,e1,hR⟩;subst S1;have d_:v4.heap[v.heap.size]?=some (.cells (allA (mY v.heap.size m j)) 43):=hR.ext.row ((fz.other _ (by omega)).trans hI.ba);have hj14:(j:Int)<14:=by omega
  repeat refine rN ?_
  refine dQ aB rfl rfl (by kernel_rfl) (x:=.tmp 27) (y:=.tmp 26) (g:=v.heap.size) (j:=j) (z:=sl v3.heap.size m) rfl (by simp) (by simp) rfl rfl d_ (by rw[oI];omega) (by kernel_rfl) λv5 jc=>?_;simp only[stO_none];rw[tI]at jc;repeat refine rN ?_
  have hI5:CI v val len m (j+1) v5:=by
   have AT:=hR.size;have CQ:=jc.size;refine⟨⟨by omega,λb hb=>?_,?_,?_⟩,?_,?_,λk hk=>?_,by omega⟩
   .rw[jc.other b (by omega),hR.ext.block b (by omega),fz.other b (by omega)];exact hI.ext.block b hb
   .rw[jc.os,hR.ext.os,fz.os];exact hI.ext.os
   .rw[jc.output,hR.ext.output,fz.output];exact hI.ext.output
   .rw[jc.at_];congr 2;refine mE λc hc=>?_;simp only[mY];by_cases e:c=j
    .subst e;rw[ai rfl,ai (by omega),ma]
    .rw[ah e];simp only[show(c<j+1↔c<j) by omega]
   .rw[jc.other _ (by omega)];exact hR.ext.row fz.at_
   .by_cases e:k=j
    .subst e;rw[jc.other _ (by omega),<-ma];exact hR.row
    .rw[jc.other _ (by omega)];exact hR.ext.row ((fz.other _ (by omega)).trans (hI.rows k (by omega)))
  refine next _ _ _ (10-(j+1)) (by omega) ⟨j+1,rfl,by omega,rfl,hI5,?_,?_,?_,?_,?_⟩
  .simp[g0]
  .simp[g4]
  .simp[g5]
  .simp[g6]
  .simp
 .obtain rfl:j=10:=by omega
  refine rZ (by simp[Act.eval,g15]) ?_;refine bC rfl ?_;repeat refine rN ?_
  have MV:v'.heap[v.heap.size+1]?=some (.cells (ten id) 149):=by rw[<-Tk];exact hI.bk
  refine gO aB rfl rfl (by kernel_rfl) (x:=.tmp 6) (b:=v.heap.size+1) rfl (by simp[g6]) MV (by kernel_rfl) (by rw[gC];kernel_rfl) ?_;simp only[stO_some];repeat refine rN ?_
  have vn:∀k,k<10->v'.heap[v.heap.size+2+k]?=some (.cells (aE m (dN val len m k)) 5):=hI.rows;have E9:∀k i,dN val len m k i<256:=λk i=>by
   unfold dN;split
   .exact hx _
   .omega
  have vz:aJ Tryz.prog 77 #[sl v.heap.size 14,.agg (ten id),.int .i64 (m:Nat)] S v' λy S' w=>y=.tuple #[]∧∃PB,Filled v' id m (dN val len m) (mY v.heap.size m 10) v.heap.size 43 PB w:=by intro wv c' AO hr;refine Cu (RB:=λk=>v.heap.size+2+k) (λj hj=>by simp;omega) hm E9 (λj hj=>by simp[mY,hj]) (λk hk GQ=>?_) (ak hg hI.ext.size) hg (λj hj=>by omega) hI.ba vn λS' w PB hw hf=>hr _ S' w hw ⟨rfl,PB,hf⟩;have:=lF.1 GQ;simp[mY,show ¬k<10 by omega]
  refine rK Tryz.func77 (vz) ?_;rintro _ S5 v5 X6 ⟨rfl,PB,hF⟩;repeat refine rN ?_
  refine aM λtodo=>?_;refine ret _ _ S5 v5 (.tuple #[sl v.heap.size 14,.int .i64 0]) ?_ ⟨v.heap.size,λk=>if k<10 then v.heap.size+2+k else PB k,rfl,?_⟩
  .simp[results,Tryz.results58,g5]
  .have XW:=hI.size;have qm:∀k,k<14->¬k<10->v'.heap.size<=PB k∧v5.heap[PB k]?=some (done id m (dN val len m) k):=λk hk hn=>hF.pb k hk (lF.2 (by omega));refine⟨⟨ak hI.ext.size hF.kp.size,hF.kp.os.trans hI.ext.os,hF.kp.output.trans hI.ext.output,λb o _ hc ht=>?_⟩,?_,λk hk=>?_,ae _,λk hk=>?_,λk hk=>?_,λk k' hk rf e=>?_⟩
   .have:=(Array.getElem?_eq_some_iff.1 hc).1;exact hF.kp.objs b o (by omega) (hI.ext.row hc) ht
   .rw[hF.ba];congr 2;refine mE λc hc=>?_;simp only[AK,mY];by_cases e:c<10
    .have:¬cI id c=true:=λh=>by have:=lF.1 h;omega
     simp[this,e]
    .simp[lF.2 (show 10<=c by omega),hc,e]
   .by_cases e:k<10
    .rw[ai e,show bJ val len k=dN val len m k from funext λi=>by simp only[bJ,ai e,HM.out]];exact hF.kp.cells _ _ _ _ (by omega) (hI.rows k e)
    .rw[ah e,show bJ val len k=oK id (dN val len m) k from funext λi=>by simp only[bJ,ah e,HM.out]];exact(qm k hk e).2
   .by_cases e:k<10
    .simp only[ai e];omega
    .simp only[ah e];have:=(qm k hk e).1;omega
   .by_cases e:k<10
    .simp only[ai e];omega
    .simp only[ah e];have:=(qm k hk e).1;omega
   .by_cases h1:k<10
    .by_cases h2:k'<10
     .simp only[ai h1,ai h2]at e;omega
     .simp only[ai h1,ah h2]at e;have:=(qm k' rf h2).1;omega
    .by_cases h2:k'<10
     .simp only[ah h1,ai h2]at e;have:=(qm k hk h1).1;omega
     .simp only[ah h1,ah h2]at e;rcases Nat.lt_trichotomy k k' with h|h|h
      .have:=hF.mono k k' h rf (lF.2 (by omega)) (lF.2 (by omega));omega
      .exact h
      .have:=hF.mono k' k h hk (lF.2 (by omega)) (lF.2 (by omega));omega
section
variable {X D DB DA M:Nat}{RB RA:Nat->Nat}{nd nb turn:Nat}{s:Dsk}{L:List Ent}{w w' v:World}{S:Nat->Prop}
def gL(L:List Ent)(nb id:Nat):Bool:=decide (nb-2<=L.length-(if (aQ id L 0).isSome then 1 else 0))
def jI(s:Dsk)(L:List Ent)(p id size turn:Nat)(val:Nat->Nat):Dsk:=
 match aQ id L 0 with
 |some (_,old)=>gW (lP s p (λk=>bB id size turn k ((size+9)/10) (bJ val size k)) 14) old.slot old.good
 |none=>lP s p (λk=>bB id size turn k ((size+9)/10) (bJ val size k)) 14
def zQ(L:List Ent)(nb p:Nat):Prop:=p<nb∧(∀e∈L,e.slot≠p)∧∀j,j<p->∃e∈L,e.slot=j
theorem Zh(id len cap:Nat)(pv:Option Addr)(val:Nat->Nat)(po:1<=id)(hid:id<=9999)(hl:len<=400)(fh:∀i,val i<256)(hs:fV v pv len cap val)(hg:Tryz.prog.globals.size<=v.heap.size)(ht:turn<9223372036854775808)(kl:4<=nb)(jb:14<=nd)(gh:nd<=18)(eu:nb<=64)(hX:StE X D DB DA M RB RA nd nb turn s L v)
  (hL:L.length<=nb-2) :
  aJ Tryz.prog 29 #[.pointer (some ⟨X,0,none⟩),.int .i64 (id:Nat),.slice pv len cap] S v λx S' v'=>if gL L nb id=true then x=.int .i64 5∧Kp v (λ_=>False) v' else x=.int .i64 0∧Kp v (dG X D M RB RA nd) v'∧∃p clock,zQ L nb p∧PutOk L ⟨id,len,turn+1,p,val,λ_=>true,0⟩ clock∧StE X D DB DA M RB RA nd nb (turn+1) (jI s L p id len (turn+1) val) (bS L ⟨id,len,turn+1,p,val,λ_=>true,0⟩ clock) v':=by
 refine jR Tryz.func29 rfl Tryz.ntmps29 λStop cc cs ret f g0 g1 g2=>?_
 have hlen:L.length<nb:=by omega
 obtain⟨p,hp,GK,OH⟩:=Rx (l:=L.map (·.slot)) (n:=nb) (by simpa using hlen);have CU:∀e∈L,e.slot≠p:=λe he h=>GK (List.mem_map.2 ⟨e,he,h⟩)
 have GJ:∀j,j<p->∃e∈L,e.slot=j:=λj hj=>List.mem_map.1 (OH j hj)
 clear GK OH;repeat refine rN ?_
 refine rK Tryz.func58 (Ic len cap pv val hl fh hs hg) ?_;rintro _ S1 w1 _ ⟨BA,PB,rfl,hP⟩;have ss:=hX.kp hP.kp;repeat refine rN ?_
 refine rK Tryz.func59 (qJ id po hid) ?_;rintro _ S2 w2 _ ⟨rfl,e1,e2⟩;subst S2 w2;repeat refine rN ?_
 refine rZ (by simp[Act.eval]) ?_;repeat refine rN ?_
 refine rK Tryz.func60 (Ya id hid jb gh kl eu (by omega) ss) ?_;rintro _ S2 w2 _ ⟨rfl,e1,ep⟩;subst S2;rw[show decide (nb-2<=L.length-(if (aQ id L 0).isSome then 1 else 0))=gL L nb id from rfl];cases my:gL L nb id with
 |true=>
  simp only[my,if_true]at ret;repeat refine rN ?_
  refine rX (by simp[Act.eval]) ?_;repeat refine rN ?_
  refine aM λtodo=>?_
  refine ret _ _ S1 w2 (.int .i64 5) ?_ ⟨rfl,hP.kp.ext ep⟩;simp[results,Tryz.results29]
 |false=>
 simp only[my,ay,if_false]at ret;have yh:=ss.ext ep;have c1:=yh.c1;obtain⟨clock,vv,hbn2⟩:=yh.map;repeat refine rN ?_
 refine rZ (by simp[Act.eval]) ?_;repeat refine rM c1 ?_
 refine lY rfl rfl rfl (x:=.tmp 30) (y:=.tmp 31) (id:=id) (by simp) (by simp[g1]) vv ?_;simp only[stO_some];have AJ:Kp v (dG X D M RB RA nd) w2:=((hP.kp.mono λ_ h=>h.elim).ext ep)
 have ml:=mR fh len;cases hq:aQ id L 0 with
 |none=>
  simp only[fF];repeat refine rN ?_
  refine cD aB rfl rfl (by kernel_rfl) (.agg (aL 0 0 0 0 λ_=>false)) rfl (by kernel_rfl) λw3 ef km ma=>?_
  simp only[stO_some];refine cS aB rfl rfl (by kernel_rfl) (x:=.tmp 9) (y:=.tmp 33) (g:=w2.heap.size) (c:=aL 0 0 0 0 λ_=>false) rfl (by simp) (by simp) km (by kernel_rfl) rfl (by simp[aL,Value.oneCell']) λw4 jd=>?_
  simp only[stO_none];have gn:Ext w2 w4:=bO ef (ae _) jd;obtain⟨AN,qm⟩:=hP.l14' (ep.trans _ _ _ gn);repeat refine rN ?_
  refine rK Tryz.func61 (Io id len _ p BA PB val po hid hl rfl fh ht kl jb gh eu (yh.ext gn) hp CU GJ AN qm ml) ?_;rintro _ S2 w5 _ ⟨rfl,e1,lz,WJ,rn,AH⟩;subst S2;repeat refine rN ?_
  refine rZ (by simp[Act.eval]) ?_;repeat refine rN ?_
  refine aM λtodo=>?_
  refine ret _ _ S1 w5 (.int .i64 0) ?_ ⟨rfl,(AJ.ext gn).trans lz,p,WJ,⟨hp,CU,GJ⟩,rn,?_⟩
  .simp[results,Tryz.results29]
  .unfold jI;rw[hq];exact AH
 |some q=>
  obtain⟨n,old⟩:=q;obtain⟨n',hn,kg,LP⟩:=eJ hq;have hold:old∈L:=al kg;have YK:=(hX.ent old hold).slot;simp only[fF];repeat refine rN ?_
  refine cD aB rfl rfl (by kernel_rfl) (.agg (aL 0 0 0 0 λ_=>false)) rfl (by kernel_rfl) λw3 ef km ma=>?_
  simp only[stO_some];refine cS aB rfl rfl (by kernel_rfl) (x:=.tmp 9) (y:=.tmp 33) (g:=w2.heap.size) (c:=bN old) rfl (by simp) (by simp) km (by kernel_rfl) rfl (mF _) λw4 jd=>?_
  simp only[stO_none];have gn:Ext w2 w4:=bO ef (ae _) jd;obtain⟨AN,qm⟩:=hP.l14' (ep.trans _ _ _ gn);repeat refine rN ?_
  refine rK Tryz.func61 (Io id len _ p BA PB val po hid hl rfl fh ht kl jb gh eu (yh.ext gn) hp CU GJ AN qm ml) ?_;rintro _ S2 w5 _ ⟨rfl,e1,lz,WJ,rn,AH⟩;subst S2;have pq:=yh.ext gn;have fe:¬dG X D M RB RA nd w2.heap.size:=by
   rintro(h|h|h|⟨d,hd,h|h⟩)
   .exact bP jd.at_ pq.row (by decide) h
   .obtain⟨cl,DF,_⟩:=pq.map;exact iP DF jd.at_ h.symm
   .exact bP jd.at_ pq.dk.row (by decide) h
   .exact bP jd.at_ (pq.dk.rb d hd) (by decide) h
   .exact bP jd.at_ (pq.dk.ra d hd) (by decide) h
  have JF:=lz.cells _ _ _ _ fe jd.at_;have cs:w5.cell? ⟨w2.heap.size,3,none⟩=some (.int .i64 (old.slot:Nat)):=(ab _ _ _ _ _ _ JF).trans rfl;repeat refine rN ?_
  refine rX (by simp[Act.eval]) ?_;repeat refine rM cs ?_
  refine bV aB rfl rfl (by kernel_rfl) (λu hu=>sM (b:=w2.heap.size) ((Ext.twin hu).row JF) (x:=.tmp 45) rfl (by simp)) ?_;simp only[stO_some];refine rK Tryz.func57 (yF old.good old.slot YK jb gh eu AH.row AH.dk) ?_;rintro _ S2 w6 _ ⟨rfl,e1,qs,p5⟩;subst S2;repeat refine rN ?_
  refine aM λtodo=>?_
  refine ret _ _ S1 w6 (.int .i64 0) ?_ ⟨rfl,((AJ.ext gn).trans lz).trans (qs.mono λb h=>.inr (.inr h)),p,WJ,⟨hp,CU,GJ⟩,rn,?_⟩
  .simp[results,Tryz.results29]
  .have fy:∀e∈bS L ⟨id,len,turn+1,p,val,λ_=>true,0⟩ WJ,e.slot≠old.slot:=λe he=>by
    rcases rn.mem e he with⟨b,rfl⟩|⟨sr,dy⟩
    .exact λh=>CU old hold h.symm
    .exact λh=>dy (by
      have:=iF hX.slots sr hold h;rw[this]
      exact LP)
   have ij:=AH.slotOff (p:=old.slot) fy qs p5 λd q qx=>kY qx
   unfold jI;rw[hq];exact ij
end
