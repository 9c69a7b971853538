import Derived.Test.YtpiefebngnlfoabGreatDoorNh
set_option maxRecDepth 99999
set_option maxHeartbeats 0
set_option linter.unusedVariables false
set_option linter.unusedSimpArgs false
namespace Go.Proofs.YtpiefebngnlfoabGreatDoor
open Go.RowKit Go.Conc Go.Vw
structure Dm where
 disk:Int
 lost:Bool
 frm:Int
 p:Option Addr
 nb:Nat
 cap:Nat
 bt:Nat->Bool
def vX(go nd co k Bl off nl cap i:Nat)(t:ByteArray)(a:Dm)(j:Nat)(x:Value)(w:World):Prop:=
 match j with
 |0=>x=.slice (some ⟨go,0,none⟩) nd co
 |1=>x=.int .i64 (k:Nat)
 |2=>x=.slice (some ⟨go,0,none⟩) nd co
 |3=>x=.int .i64 (k:Nat)
 |4=>x=.pointer (some ⟨go,k,none⟩)
 |5=>x=.string t
 |6=>x=.slice (some ⟨Bl,off,none⟩) nl cap
 |7=>x=.int .i64 (i:Nat)
 |8=>x=.pointer (some ⟨Bl,off+i*4,none⟩)
 |9=>x=.pointer (some ⟨Bl,off+i*4+2,none⟩)
 |10=>x=.int .i64 a.frm
 |11=>x=.slice (some ⟨Bl,off,none⟩) nl cap
 |12=>x=.int .i64 (i:Nat)
 |13=>x=.pointer (some ⟨Bl,off+i*4,none⟩)
 |14=>x=.pointer (some ⟨Bl,off+i*4+3,none⟩)
 |15=>x=.slice a.p a.nb a.cap
 |16=>∃ d,x=.string d∧lU t d
 |17=>x=.pointer (some ⟨go,k,none⟩)
 |_=>True
theorem Rb(go nd co k Bl off nl cap i:Nat)(t:ByteArray)(a:Dm):∀ j x w w',vX go nd co k Bl off nl cap i t a j x w->Ext w w'->vX go nd co k Bl off nl cap i t a j x w':=by
 intro j x w w' h hE;unfold vX at h ⊢;exact h
section
variable {w w' v:World}{S:Nat->Prop}
theorem Ws{f:Nat->Value}{Stop:Goroutine->(Nat->Prop)->World->Prop}{cs:List Frame}{k0:List Item}(go nd co k Bl off nl cap i:Nat)(t:ByteArray)(a:Dm)(C:Array Value)(hk:k<nd)(hnd:nd<=18)(hi:i<nl)(hkC:k<C.size)(hro:w.heap[go]?=some (.cells C 9))(hCk:C[k]?=some (.string t))
  (h1:-9223372036854775808<=a.frm) (h2:a.frm<=9223372036854775807) (hnb:a.nb<2 ^ 62) (hB:pD w a.p a.nb a.bt) (ht1:96<=t.size) (ht2:t.size<=10000)
  (c2:w.cell? ⟨Bl,off+i*4+2,none⟩=some (.int .i64 a.frm)) (c3:w.cell? ⟨Bl,off+i*4+3,none⟩=some (.slice a.p a.nb a.cap))
  (g1:f 1=.slice (some ⟨Bl,off,none⟩) nl cap) (g5:f 5=.slice (some ⟨go,0,none⟩) nd co) (g8:f 8=.int .i64 (i:Nat)) (g9:f 9=.int .i64 (k:Nat))
  (next:∀ w1 w' d f',Ext w w1->lU t d->Wr w1 go (.cells (C.setIfInBounds k (.string d)) 9) w'->(∀ s,s<10->f' s=f s)->Vw.Reach Tryz.prog Stop (G ((_root_.Go.Conc.base 9).at ⟨TA 70 f',[]⟩ (.inRegion ((cI 14 (Tryz.f9.body.getD .skip)).getD #[]) [] :: k0)) cs) S w') :
  Vw.Reach Tryz.prog Stop (G ((_root_.Go.Conc.base 9).at ⟨TA 70 f,[]⟩ (.code (.region 14 ((cI 14 (Tryz.f9.body.getD .skip)).getD #[]) true) :: k0)) cs) S w:=by
 have e0:cI 14 (Tryz.f9.body.getD .skip)=some _:=rfl;rw[e0]at next ⊢
 simp only[Option.getD_some]at next ⊢
 clear e0;have hkI:(k:Int)<(nd:Int):=by omega
 have hiI:(i:Int)<(nl:Int):=by omega
 refine xC (by kernel_rfl) (by kernel_rfl) (by kernel_rfl) 18 [0,1,2,3,4,5,6,7,8,9,10,11,12,13,14,15,16,17] (by kernel_rfl) (vX go nd co k Bl off nl cap i t a) (fun S' w'=>S'=S∧Ext w w') (fun S' f w'=>S'=S∧∃ w1 d,Ext w w1∧lU t d∧Wr w1 go (.cells (C.setIfInBounds k (.string d)) 9) w') (fun S' w w' h hE=>⟨h.1,h.2.trans _ _ _ hE⟩) (fun S' i f x w w' hi hA hm' h hE=>by have hi':i<19:=hi;simp at hA;omega) (Rb _ _ _ _ _ _ _ _ _ _ _) ?_ ⟨rfl,.refl _⟩ ?_ ?_ ?_
 .intro j hj he x w h;have hj':j<19:=hj;rcases(by omega:j=0∨j=1∨j=2∨j=3∨j=4∨j=5∨j=6∨j=7∨j=8∨j=9∨j=10∨j=11∨j=12∨j=13∨j=14∨j=15∨j=16∨j=17∨j=18) with rfl|rfl|rfl|rfl|rfl|rfl|rfl|rfl|rfl|rfl|rfl|rfl|rfl|rfl|rfl|rfl|rfl|rfl|rfl<;>first|(cases he;done)|exact trivial
 .intro j f' S1 w5 rest hj hne hB0 hf hd nxt;have hj':j<19:=hj;rcases(by omega:j=0∨j=1∨j=2∨j=3∨j=4∨j=5∨j=6∨j=7∨j=8∨j=9∨j=10∨j=11∨j=12∨j=13∨j=14∨j=15∨j=16∨j=17∨j=18) with rfl|rfl|rfl|rfl|rfl|rfl|rfl|rfl|rfl|rfl|rfl|rfl|rfl|rfl|rfl|rfl|rfl|rfl|rfl
  .have r0:f' 5=.slice (some ⟨go,0,none⟩) nd co:=(hf 5 (gW (by kernel_rfl))).trans g5;clear hd hf;refine rY aB ?_;exact nxt _ w5 (.refl w5) rfl
  .have r0:f' 9=.int .i64 (k:Nat):=(hf 9 (gW (by kernel_rfl))).trans g9;clear hd hf;refine rY aB ?_;exact nxt _ w5 (.refl w5) rfl
  .have r0:f' 5=.slice (some ⟨go,0,none⟩) nd co:=(hf 5 (gW (by kernel_rfl))).trans g5;clear hd hf;refine rY aB ?_;exact nxt _ w5 (.refl w5) rfl
  .have r0:f' 9=.int .i64 (k:Nat):=(hf 9 (gW (by kernel_rfl))).trans g9;clear hd hf;refine rY aB ?_;exact nxt _ w5 (.refl w5) rfl
  .have d0:f' 53=.slice (some ⟨go,0,none⟩) nd co:=hd 2 (aD (by kernel_rfl));have d1:f' 54=.int .i64 (k:Nat):=hd 3 (aD (by kernel_rfl));clear hd hf;refine rY aB ?_;exact nxt _ w5 (.refl w5) rfl
  .have d0:f' 55=.pointer (some ⟨go,k,none⟩):=hd 4 (aD (by kernel_rfl));obtain⟨eS,hE⟩:=hB0 (by simp);subst S1;have cc0:w5.cell? ⟨go,k,none⟩=some (.string t):=by rw[cell_of_row _ _ _ _ _ _ (hE.row hro)];exact hCk
   clear hd hB0 hf;(refine rO aB rfl ?_;intro _ hu_ K_ hK_;(have hc:=(Ext.twin hu_).cell cc0);go_simp;(try rw[wI _]);(try rw[wU _]);refine hK_ _ ?_;clear hK_ K_ hu_;simp only[sS,sN]);exact nxt _ w5 (.refl w5) rfl
  .have r0:f' 1=.slice (some ⟨Bl,off,none⟩) nl cap:=(hf 1 (gW (by kernel_rfl))).trans g1;clear hd hf;refine rY aB ?_;exact nxt _ w5 (.refl w5) rfl
  .have r0:f' 8=.int .i64 (i:Nat):=(hf 8 (gW (by kernel_rfl))).trans g8;clear hd hf;refine rY aB ?_;exact nxt _ w5 (.refl w5) rfl
  .have d0:f' 57=.slice (some ⟨Bl,off,none⟩) nl cap:=hd 6 (aD (by kernel_rfl));have d1:f' 58=.int .i64 (i:Nat):=hd 7 (aD (by kernel_rfl));clear hd hf;refine rY aB ?_;exact nxt _ w5 (.refl w5) rfl
  .have d0:f' 59=.pointer (some ⟨Bl,off+i*4,none⟩):=hd 8 (aD (by kernel_rfl));clear hd hf;refine rY aB ?_;exact nxt _ w5 (.refl w5) rfl
  .have d0:f' 60=.pointer (some ⟨Bl,off+i*4+2,none⟩):=hd 9 (aD (by kernel_rfl));obtain⟨eS,hE⟩:=hB0 (by simp);subst S1;have cc0:=hE.cell c2;clear hd hB0 hf;(refine rO aB rfl ?_;intro _ hu_ K_ hK_;(have hc:=(Ext.twin hu_).cell cc0);go_simp;(try rw[wI _]);(try rw[wU _]);refine hK_ _ ?_;clear hK_ K_ hu_;simp only[sS,sN]);exact nxt _ w5 (.refl w5) rfl
  .have r0:f' 1=.slice (some ⟨Bl,off,none⟩) nl cap:=(hf 1 (gW (by kernel_rfl))).trans g1;clear hd hf;refine rY aB ?_;exact nxt _ w5 (.refl w5) rfl
  .have r0:f' 8=.int .i64 (i:Nat):=(hf 8 (gW (by kernel_rfl))).trans g8;clear hd hf;refine rY aB ?_;exact nxt _ w5 (.refl w5) rfl
  .have d0:f' 62=.slice (some ⟨Bl,off,none⟩) nl cap:=hd 11 (aD (by kernel_rfl));have d1:f' 63=.int .i64 (i:Nat):=hd 12 (aD (by kernel_rfl));clear hd hf;refine rY aB ?_;exact nxt _ w5 (.refl w5) rfl
  .have d0:f' 64=.pointer (some ⟨Bl,off+i*4,none⟩):=hd 13 (aD (by kernel_rfl));clear hd hf;refine rY aB ?_;exact nxt _ w5 (.refl w5) rfl
  .have d0:f' 65=.pointer (some ⟨Bl,off+i*4+3,none⟩):=hd 14 (aD (by kernel_rfl));obtain⟨eS,hE⟩:=hB0 (by simp);subst S1;have cc0:=hE.cell c3;clear hd hB0 hf;(refine rO aB rfl ?_;intro _ hu_ K_ hK_;(have hc:=(Ext.twin hu_).cell cc0);go_simp;(try rw[wI _]);(try rw[wU _]);refine hK_ _ ?_;clear hK_ K_ hu_;simp only[sS,sN]);exact nxt _ w5 (.refl w5) rfl
  .have d0:f' 56=.string t:=hd 5 (aD (by kernel_rfl));have d1:f' 61=.int .i64 a.frm:=hd 10 (aD (by kernel_rfl));have d2:f' 66=.slice a.p a.nb a.cap:=hd 15 (aD (by kernel_rfl));obtain⟨eS,hE⟩:=hB0 (by simp);subst S1;clear hd hB0 hf;refine cY Tryz.func26 (Uq t a.frm h1 h2 a.p a.nb a.cap a.bt hnb (hB.ext hE) ht1 ht2) ?_;rintro _ S1 w6 _ ⟨e1,hE6,d,rfl,hT⟩;subst S1;exact nxt _ w6 hE6 ⟨d,rfl,hT⟩
  .have d0:f' 51=.slice (some ⟨go,0,none⟩) nd co:=hd 0 (aD (by kernel_rfl));have d1:f' 52=.int .i64 (k:Nat):=hd 1 (aD (by kernel_rfl));clear hd hf;refine rY aB ?_;exact nxt _ w5 (.refl w5) rfl
  .exact absurd rfl hne
 .rintro f' S1 w5 rest ⟨eS,hE⟩ hf hd nxt;subst S1;obtain⟨d,d0,hT⟩:∃ d,f' 67=.string d∧lU t d:=hd 16 (by simp);have d1:f' 68=.pointer (some ⟨go,k,none⟩):=hd 17 (by simp);clear hd hf;refine bS aB rfl rfl (by kernel_rfl) (fun u hu=>Og (x:=.tmp 68) (y:=.tmp 67) (j:=k) (z:=.string d) hu (hE.row hro) hkC rfl rfl rfl (by simp[d1]) (by simp[d0]) (by kernel_rfl)) ?_;rintro x w6 hW;exact nxt x S w6 ⟨rfl,w5,d,hE,hT,hW⟩ trivial fun j x' hj hnd h=>h
 .rintro f' S1 w5 ⟨eS,w1,d,hE,hT,hW⟩ hf hd;subst S1;exact next w1 w5 d f' hE hT hW fun s h=>hf s (mS (a:=0) (b:=10) (by kernel_rfl) (Nat.zero_le _) h)
end
def Dm.agg(a:Dm):Array Value:=#[.int .i64 a.disk,.bool a.lost,.int .i64 a.frm,.slice a.p a.nb a.cap]
structure Dm.Ok(N:Nat)(w:World)(a:Dm):Prop where
 d1:-9223372036854775808<=a.disk
 d2:a.disk<=9223372036854775807
 f1:-9223372036854775808<=a.frm
 f2:a.frm<=9223372036854775807
 nb:a.nb<2 ^ 62
 bits:∀ k,k<a.nb->∃ B off,a.p=some ⟨B,off,none⟩∧B<N∧w.cell? ⟨B,off+k,none⟩=some (.bool (a.bt k))
theorem Dm.Ok.kp{N:Nat}{w w':World}{Y:Nat->Prop}{a:Dm}(h:a.Ok N w)(hY:kN N w Y)(hK:Kp w Y w'):a.Ok N w':=⟨h.d1,h.d2,h.f1,h.f2,h.nb,fun k hk=>by
 obtain⟨B,off,h1,h2,h3⟩:=h.bits k hk
 exact⟨B,off,h1,h2,hK.cell (fun hb=>by have:=(hY B hb).1;omega) h3⟩⟩
theorem Dm.Ok.bools{N:Nat}{w:World}{a:Dm}(h:a.Ok N w):pD w a.p a.nb a.bt:=fun k hk=>by
 obtain⟨B,off,h1,_,h3⟩:=h.bits k hk;exact⟨B,off,h1,h3⟩
def mB(N:Nat)(w:World)(p:Option Addr)(nl:Nat)(A:Nat->Dm):Prop:=∀ i,i<nl->(∃ B off,p=some ⟨B,off,none⟩∧B<N∧∀ k y,(A i).agg[k]?=some y->w.cell? ⟨B,off+i*4+k,none⟩=some y)∧(A i).Ok N w
theorem mB.kp{N:Nat}{w w':World}{Y:Nat->Prop}{p:Option Addr}{nl:Nat}{A:Nat->Dm}(h:mB N w p nl A)(hY:kN N w Y)(hK:Kp w Y w'):mB N w' p nl A:=fun i hi=>by
 obtain⟨⟨B,off,h1,h2,h3⟩,h4⟩:=h i hi;exact⟨⟨B,off,h1,h2,fun k y hy=>hK.cell (fun hb=>by have:=(hY B hb).1;omega) (h3 k y hy)⟩,h4.kp hY hK⟩
theorem He{H:Nat->Bool}{k:Nat}(hk:H k=false):∀ n,k<n->aN (fun j=>if j=k then true else H j) n=aN H n+1
 |n+1,h=>by
  rw[kU,kU];by_cases e:n=k
  .subst e;have:aN (fun j=>if j=n then true else H j) n=aN H n:=by
    unfold aN;congr 1;apply List.filter_congr;intro x hx;have:=List.mem_range.1 hx;simp[show x≠n by omega]
   rw[this];simp[hk]
  .rw[He hk n (by omega)];simp[e];omega
theorem uW:∀ n,aN (fun _=>false) n=0
 |0=>rfl
 |n+1=>by rw[kU,uW n];simp
structure HarmI(nd:Nat)(T T':Nat->ByteArray)(H:Nat->Bool):Prop where
 same:∀ d,d<nd->H d=false->T' d=T d
 hit:∀ d,d<nd->H d=true->(T' d).size=0∨lU (T d) (T' d)
theorem HarmI.put{nd k:Nat}{T T':Nat->ByteArray}{H:Nat->Bool}{x:ByteArray}(h:HarmI nd T T' H)(hx:x.size=0∨lU (T k) x):HarmI nd T (fun j=>if j=k then x else T' j) (fun j=>if j=k then true else H j):=by
 refine⟨fun d hd hH=>?_,fun d hd hH=>?_⟩
 .by_cases e:d=k
  .simp[e]at hH
  .simp only[if_neg e]at hH ⊢;exact h.same d hd hH
 .by_cases e:d=k
  .subst e;simpa using hx
  .simp only[if_neg e]at hH ⊢;exact h.hit d hd hH
theorem HarmI.harm{nd nb:Nat}{T T':Nat->ByteArray}{H:Nat->Bool}(h:HarmI nd T T' H)(h4:aN H nd<=4)(hT:∀ d,d<nd->(T d).size=nb*96):Harm nd nb T T' H:=
 ⟨h4,h.same,fun d hd hH=>(h.hit d hd hH).imp id fun⟨q1,at',W,q2,q3⟩=>⟨by rw[q1,hT d hd],at',W,q2,fun i hi=>q3 i (by rw[hT d hd];exact hi)⟩⟩
section
variable {w w' v:World}{S:Nat->Prop}
theorem Gd{C:Array Value}{nd k:Nat}{T:Nat->ByteArray}{x:ByteArray}(hC:∀ j,j<nd->C[j]?=some (.string (T j)))(hk:k<nd):∀ j,j<nd->(C.setIfInBounds k (.string x))[j]?=some (.string ((fun j=>if j=k then x else T j) j)):=fun j hj=>by
 rw[Array.getElem?_setIfInBounds];have hks:k<C.size:=(Array.getElem?_eq_some_iff.1 (hC k hk)).1;by_cases e:k=j
 .subst e;rw[if_pos rfl,if_pos hks];simp
 .rw[if_neg e,hC j hj];simp[show ¬j=k from fun q=>e q.symm]
theorem Tp(N nd nb B c:Nat)(T:Nat->ByteArray)(hn1:14<=nd)(hnd:nd<=18)(hnb4:4<=nb)(hnb:nb<=64)(hT:cC v B nd T)(hTz:∀ d,d<nd->(T d).size=nb*96)(p:Option Addr)(nl cap:Nat)(A:Nat->Dm)(hnl:nl<2 ^ 62)(hA:mB N v p nl A) :
  aJ Tryz.prog 9 #[.slice (some ⟨B,0,none⟩) nd c,.slice p nl cap] S v fun x S' v'=>S'=S∧Ext v v'∧∃ g' c' T' H,x=.slice (some ⟨g',0,none⟩) nd c'∧cC v' g' nd T'∧Harm nd nb T T' H:=by
 obtain⟨is,zz,is1,is2,is3,is4,is5⟩:=zZ;refine dH Tryz.func9 rfl Tryz.ntmps9 fun Stop cc cs ret f g0 g1=>?_
 repeat refine rN ?_
 refine bS aB rfl rfl (by kernel_rfl) (fun u hu=>Fn (s:=.tmp 10) (x:=.tmp 11) (p:=none) (n:=0) (cap:=0) (olds:=[]) (ad:=⟨B,0,none⟩) (m:=nd) (c:=c) (news:=lE nd T) hu Tryz.underlying29 is1 is2 is3 is4 (by rw[is5];rfl) (.inl ⟨rfl,rfl,rfl⟩) rfl (fun b h=>by cases h) (by omega) (uN _ _) (fun j y hy=>?_) (fun y hy=>?_) (by unfold maxLen;omega) (by omega) rfl (by simp) (by simp[g0])) ?_
 .have hj:j<nd:=by
   have:=(List.getElem?_eq_some_iff.1 hy).1;rwa [uN]at this
  rw[uO hj]at hy;cases hy
  rw[Addr.add_lit,Nat.zero_add];exact hT j hj
 .unfold lE at hy;obtain⟨j,_,rfl⟩:=List.mem_map.1 hy;rfl
 rintro y w1 ⟨ho,hE1⟩;rw[Nat.zero_add,List.nil_append]at ho;obtain⟨go,co,cur,q1,q2,q3,q4,q5,q6⟩:=mR ho (.inl (by omega));subst q1;simp only[stO_some];have hC0:∀ j,j<nd->cur[j]?=some (.string (T j)):=fun j hj=>by rw[q6 j hj,uO hj]
 clear ho q4 q5 q6;repeat refine rN ?_
 refine mK aB rfl rfl (by kernel_rfl) rfl (m:=nd) (wd:=1) (z:=.bool false) (by simp) (by simp) (by omega) (by omega) (by omega) Tryz.underlying68 (by kernel_rfl) rfl fun w2 hE2 hr2 hs2=>?_
 simp only[stO_some];have hr2':w2.heap[w1.heap.size]?=some (.cells (fT nd fun _=>false) 4):=hr2
 have hE12:=hE1.trans _ _ _ hE2;have ho2:=hE2.row q3;have hgne:go≠w1.heap.size:=by
  have:=(Array.getElem?_eq_some_iff.1 q3).1;omega
 have hgn:v.heap.size<=w1.heap.size:=hE1.size;generalize w1.heap.size=gh at hr2' hgne hgn;clear hr2 hs2 q3;repeat refine rN ?_
 refine bP (fun d f' S' w=>∃ i n T' H C,d=nl - i∧i<=nl∧S'=S∧Ext v w∧w.heap[go]?=some (.cells C 9)∧Hid (∀ j,j<nd->C[j]?=some (.string (T' j)))∧w.heap[gh]?=some (.cells (fT nd H) 4)∧HarmI nd T T' H∧Hid (n=aN H nd)∧n<=4∧f' 1=.slice p nl cap∧f' 5=.slice (some ⟨go,0,none⟩) nd co∧f' 6=.slice (some ⟨gh,0,none⟩) nd nd∧f' 7=.int .i64 (n:Nat)∧f' 8=.int .i64 (i:Nat)) nl ⟨0,0,T,fun _=>false,cur,by omega,by omega,rfl,hE12,ho2,aG hC0,hr2',⟨fun _ _ _=>rfl,fun _ _ h=>(by cases h)⟩,aG (uW nd).symm,by omega,by simp[g1],by simp,by simp,by simp,by simp⟩ ?_
 clear g0 g1 f hE12 ho2 hC0 hr2' hE1 hE2;rintro dd f S' w ⟨i,n,T',H,C,rfl,hi,eS,hEw,hro,HC,hrh,hHI,Hn,hn4,g1,g5,g6,g7,g8⟩ nxt;subst S';by_cases hgo:i<nl∧n<4
 .obtain⟨hlt,hn⟩:=hgo;have hiI:(i:Int)<(nl:Int):=by omega
  have hnI:(n:Int)<4:=by omega
  obtain⟨⟨Bl,off,rfl,hBN,hcell⟩,haOk⟩:=hA i hlt;have cd:w.cell? ⟨Bl,off+i*4,none⟩=some (.int .i64 (A i).disk):=hEw.cell (hcell 0 _ rfl);repeat refine rN ?_
  refine rX (by simp[Act.eval]) ?_;repeat refine rM cd ?_
  refine rK Tryz.func16 (iS (A i).disk nd (by omega) (by omega) haOk.d1 haOk.d2) ?_;rintro _ S1 w3 _ ⟨rfl,e1,e2⟩;subst S1 w3;have hkl:=iR (A i).disk (show 0<nd by omega);generalize bB (A i).disk nd=k at hkl;have hkI:(k:Int)<(nd:Int):=by omega
  have ch:w.cell? ⟨gh,k,none⟩=some (.bool (H k)):=(cell_of_row _ _ _ _ _ _ hrh).trans (yB hkl);repeat refine rM ch ?_
  cases hHk:H k with
  |true=>
   rw[hHk]at ch;refine rX (by simp[Act.eval]) ?_;refine bH rfl ?_;repeat refine rN ?_
   refine nxt _ _ _ (nl - (i+1)) (by omega) ⟨i+1,n,T',H,C,rfl,by omega,rfl,hEw,hro,HC,hrh,hHI,Hn,hn4,by simp[g1],by simp[g5],by simp[g6],by simp[g7],by simp⟩
  |false=>
   rw[hHk]at ch;have hTk:T' k=T k:=hHI.same k hkl hHk;have hCk:=HC.out k hkl;have hkC:k<C.size:=(Array.getElem?_eq_some_iff.1 hCk).1;have Hn2:Hid (n+1=aN (fun j=>if j=k then true else H j) nd):=aG (by rw[He hHk nd hkl,Hn.out])
   have hgoN:v.heap.size<=go:=q2;refine rZ (by simp[Act.eval]) ?_;repeat refine rN ?_
   refine eR aB rfl rfl (by kernel_rfl) (x:=.tmp 40) (y:=.const (.bool true)) (g:=gh) (j:=k) (z:=.bool true) rfl (by simp) (by simp) rfl rfl hrh (by rw[Cv];exact hkl) (by kernel_rfl) fun w3 hW3=>?_
   simp only[stO_none];rw[Ei]at hW3;have hE3:Ext v w3:=bJ hEw (by omega) hW3;have hro3:=aO hW3 hro hgne;have hrh3:=hW3.at_;have cell3:∀ k' y,(A i).agg[k']?=some y->w3.cell? ⟨Bl,off+i*4+k',none⟩=some y:=fun k' y hy=>hE3.cell (hcell k' y hy)
   have cl:w3.cell? ⟨Bl,off+i*4+1,none⟩=some (.bool (A i).lost):=cell3 1 _ rfl;have cf:w3.cell? ⟨Bl,off+i*4+2,none⟩=some (.int .i64 (A i).frm):=cell3 2 _ rfl;have cb:w3.cell? ⟨Bl,off+i*4+3,none⟩=some (.slice (A i).p (A i).nb (A i).cap):=cell3 3 _ rfl;repeat refine rM cl ?_
   cases hlost:(A i).lost with
   |true=>
    rw[hlost]at cl;refine rX (by simp[Act.eval]) ?_;repeat refine rN ?_
    refine eR aB rfl rfl (by kernel_rfl) (x:=.tmp 50) (y:=.const (.string ⟨#[]⟩)) (g:=go) (j:=k) (z:=.string ⟨#[]⟩) rfl (by simp) (by simp) rfl rfl hro3 hkC (by kernel_rfl) fun w4 hW4=>?_
    simp only[stO_none];repeat refine rN ?_
    refine nxt _ _ _ (nl - (i+1)) (by omega) ⟨i+1,n+1,_,_,_,rfl,by omega,rfl,bJ hE3 hgoN hW4,hW4.at_,aG (Gd HC.out hkl),aO hW4 hrh3 (fun e=>hgne e.symm),hHI.put (.inl rfl),Hn2,by omega,by simp[g1],by simp[g5],by simp[g6],by simp,by simp⟩
   |false=>
    rw[hlost]at cl;refine rZ (by simp[Act.eval]) ?_;repeat refine rN ?_
    refine Ws go nd co k Bl off nl cap i (T k) (A i) C hkl hnd hlt hkC hro3 (by rw[<-hTk];exact hCk) haOk.f1 haOk.f2 haOk.nb (haOk.bools.ext hE3) (by rw[hTz k hkl];omega) (by rw[hTz k hkl];omega) cf cb (by simp[g1]) (by simp[g5]) (by simp[g8]) (by simp) fun w4 w5 d f' hE4 hTd hW5 hf'=>?_
    have q1:=hf' 1 (by omega);have q5:=hf' 5 (by omega);have q6:=hf' 6 (by omega);have q7:=hf' 7 (by omega);have q8:=hf' 8 (by omega);simp[g1,g5,g6,g8]at q1 q5 q6 q7 q8;clear hf';repeat refine rN ?_
    refine nxt _ _ _ (nl - (i+1)) (by omega) ⟨i+1,n+1,_,_,_,rfl,by omega,rfl,bJ (hE3.trans _ _ _ hE4) hgoN hW5,hW5.at_,aG (Gd HC.out hkl),aO hW5 (hE4.row hrh3) (fun e=>hgne e.symm),hHI.put (.inr hTd),Hn2,by omega,by simp[q1],by simp[q5],by simp[q6],by simp[q7],by simp⟩
 .by_cases hlt:i<nl
  .have hiI:(i:Int)<(nl:Int):=by omega
   have hn:¬n<4:=fun h=>hgo ⟨hlt,h⟩
   have hnI:¬(n:Int)<4:=by omega
   clear hgo;repeat refine rN ?_
   refine rZ (by simp[Act.eval]) ?_;refine bH rfl ?_;repeat refine rN ?_
   refine aP fun todo=>?_
   refine ret _ _ S w (.slice (some ⟨go,0,none⟩) nd co) ?_ ⟨rfl,hEw,go,co,T',H,rfl,fun j hj=>by rw[cell_of_row _ _ _ _ _ _ hro];exact HC.out j hj,hHI.harm (by rw[<-Hn.out];exact hn4) hTz⟩
   simp[results,Tryz.results9,g5]
  .have hiI:¬(i:Int)<(nl:Int):=by omega
   clear hgo;repeat refine rN ?_
   refine rZ (by simp[Act.eval]) ?_;refine bH rfl ?_;repeat refine rN ?_
   refine aP fun todo=>?_
   refine ret _ _ S w (.slice (some ⟨go,0,none⟩) nd co) ?_ ⟨rfl,hEw,go,co,T',H,rfl,fun j hj=>by rw[cell_of_row _ _ _ _ _ _ hro];exact HC.out j hj,hHI.harm (by rw[<-Hn.out];exact hn4) hTz⟩
   simp[results,Tryz.results9,g5]
end
