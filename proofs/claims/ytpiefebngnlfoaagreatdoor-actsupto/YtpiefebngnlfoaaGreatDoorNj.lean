import Derived.Test.YtpiefebngnlfoaaGreatDoorNh
set_option maxRecDepth 99999
set_option maxHeartbeats 0
set_option linter.unusedVariables false
set_option linter.unusedSimpArgs false
namespace Go.Proofs.YtpiefebngnlfoaaGreatDoor
open Go.RowKit Go.Conc Go.Vw
section
variable {N W n m q k:Nat}{x:Nat->Sx}{T:Nat->List It}{g:Wv}{v w w':World}{S:Nat->Prop}
theorem Ho.kpG{y:Sx}{U:List It}{Y:Nat->Prop}(h:Ho N n m y U w)(hK:Kp w Y w')(qj:∀b,y.own b->¬Y b)(fe:∀b C fr,w.heap[b]?=some (.cells C 116 fr)->¬Y b):Ho N n m y U w':=
 h.put_st ⟨hK.cells _ _ _ _ (qj y.X (.inl rfl)) h.st.row,let ⟨cl,q1,q2⟩:=h.st.map;⟨cl,hK.objs _ _ (qj y.M (.inr (.inl rfl))) q1 trivial,q2⟩,h.st.dk.kp hK (qj y.D (.inr (.inr (.inl rfl)))) (fe _ _ _ h.st.dk.db) (fe _ _ _ h.st.dk.da) λd hd=>⟨qj _ (.inr (.inr (.inr ⟨d,hd,.inl rfl⟩))),qj _ (.inr (.inr (.inr ⟨d,hd,.inr rfl⟩)))⟩,h.st.ent,h.st.ids,h.st.slots,h.st.borns⟩
theorem Ho.kpB{y:Sx}{U:List It}{B:Nat}{cur:Array Value}{t:TypeId}(h:Ho N n m y U w)(hB:w.heap[B]?=some (.cells cur t))(ht:jM t=true)(hK:Kp w (λb=>b=B) w'):Ho N n m y U w':=by
 refine h.kpG hK (λb hb e=>?_) λb C fr hc e=>?_
 .subst e;have:=(dG.off h.st h.own b hb).2 _ _ _ hB;rw[ht]at this;cases this
 .subst e;rw[hB]at hc;cases hc;revert ht;decide
def kO(kv:Nat->Value)(k:Nat)(y:Value):Nat->Value:=λi=>if i=k then y else kv i
theorem Wm.setL{U:List It}{y:Value}{bl cl:Nat}{cur:Array Value}(h:Wm N W x T g w)(hk:k<2)(el:g.lv=.slice (some ⟨bl,0,none⟩) 2 cl)(hc:w.heap[bl]?=some (.cells cur 48))(hI:eI N N w y U)(hW:Wr w bl (.cells (cur.setIfInBounds k y) 48) w'):Wm N W x (iK T k U) {g with kv:=kO g.kv k y} w'∧Kp w (YW W g) w':=by
 have hK:=fO hW;have hY:∀b,b=bl->YW W g b:=λb e=>.inr (.inr (.inl (by rw[el,e];rfl)));have fy:dC N w λb=>b=bl:=λb hb=>h.offY b (hY b hb);have fe:∀b C t,b=bl->w.heap[b]?=some (.cells C t)->t=48:=λb C t e hq=>by subst e;rw[hc]at hq;cases hq;rfl
 refine⟨⟨h.new,hK.cells _ _ _ _ (λe=>absurd (fe W _ _ e h.row) (by decide)) h.row,cZ h.s hK λb C hy hq=>absurd (fe b C _ hy hq) (by decide),cZ h.n hK λb C hy hq=>absurd (fe b C _ hy hq) (by decide),?_,λi hi=>?_,h.b.kp rfl rfl fy hK λb C hy hq=>absurd (fe b C _ hy hq) (by decide),h.h.kp rfl rfl fy hK λb C hy hq=>absurd (fe b C _ hy hq) (by decide),h.t.kp rfl rfl fy hK λb C hy hq=>absurd (fe b C _ hy hq) (by decide)⟩,hK.mono hY⟩
 .refine⟨rfl,.inr ?_⟩;rcases h.l.2 with⟨e,_⟩|⟨b,c,y_,q1,q2,q3,q4,q5,q6,q7⟩
  .rw[el]at e;cases e
  .rw[el]at q1;cases q1;rw[hc]at q3;cases q3;refine⟨bl,cl,_,el,q2,hW.at_,q4,q5,by simpa using q6,?_⟩;have h2:2<=cur.toList.length:=by simp;omega
   rw[Array.toList_setIfInBounds];generalize cur.toList=l at q7 h2⊢;match l,h2,q7 with
   |a::b::l,_,q7=>simp[two]at q7;obtain⟨rfl,rfl⟩:=q7;rcases kR hk with rfl|rfl<;>simp[two,kO]
 .unfold iK kO;by_cases e:i=k
  .rw[ai e];show eI N N w' (if i=k then y else g.kv i) U;rw[ai e];exact hI.kp fy hK
  .rw[ah e];show eI N N w' (if i=k then y else g.kv i) (T i);rw[ah e];exact(h.k i hi).kp fy hK
def kT(v:World)(p:Option Addr)(len:Nat)(val:Nat->Nat)(p':Option Addr)(gz:Nat)(w:World):Prop:=(p=none∧p'=none∧len=0∧gz=0)∨∃RB ad,p=some ad∧p'=some ⟨RB,0,none⟩∧v.heap.size<=RB∧tJ w len val RB gz
theorem kT.kp{p p':Option Addr}{len gz:Nat}{val:Nat->Nat}{Y:Nat->Prop}(h:kT v p len val p' gz w)(hK:Kp w Y w')(hY:∀b,Y b->b<v.heap.size):kT v p len val p' gz w':=h.imp id λ⟨RB,ad,q1,q2,q3,cur,r1,r2⟩=>⟨RB,ad,q1,q2,q3,cur,hK.cells _ _ _ _ (λhy=>by have:=hY RB hy;omega) r1,r2⟩
theorem kT.slice{p p':Option Addr}{len gz:Nat}{val:Nat->Nat}(h:kT v p len val p' gz w):fV w p' len gz val:=by
 rcases h with⟨_,rfl,rfl,rfl⟩|⟨RB,ad,_,rfl,_,hr⟩
 .exact .inl (.inl ⟨rfl,rfl,rfl⟩)
 .exact .inl hr.slice
theorem Ui{p:Option Addr}{len cap:Nat}{val:Nat->Nat}(hs:fV v p len cap val)(hn:len<140737488355328):aJ Tryz.prog 28 #[.slice p len cap] S v λy S' v'=>S'=S∧Ext v v'∧∃p' gz,y=.slice p' len gz∧kT v p len val p' gz v':=by
 rcases hs.parts with⟨rfl,rfl,rfl⟩|⟨ad,rfl,hc,hb⟩
 .exact λStop c cs hr=>Nt Stop c cs λy S' v' hv q=>hr y S' v' hv ⟨q.2.1,by rw[q.2.2];exact .refl _,none,0,q.1,.inl ⟨rfl,rfl,rfl,rfl⟩⟩
 .exact λStop c cs hr=>Xh ad len cap val hn hc hb Stop c cs λy S' v' hv ⟨q1,RB,gz,q2,q3⟩=>hr y S' v' hv ⟨q1,q3.ext,_,gz,q2,.inr ⟨RB,ad,rfl,rfl,q3.new,q3.row⟩⟩
theorem Xq{w0:World}{p p':Option Addr}{len cap gz:Nat}{val:Nat->Nat}(hs:fV v p len cap val)(hn:len<140737488355328)(h:kT w0 p len val p' gz v):aJ Tryz.prog 30 #[.slice p' len gz,.slice p len cap] S v λy S' v'=>y=.bool true∧S'=S∧v'=v:=by
 rcases h with⟨rfl,rfl,rfl,rfl⟩|⟨RB,ad,rfl,rfl,_,hr⟩
 .have hc:cap=0:=by
   rcases hs.parts with⟨_,_,h⟩|⟨a,h,_⟩
   .exact h
   .cases h
  subst hc;exact Rq
 .exact Zx ad len cap RB gz val hn hs hr
def bE(N W bl cl k id len cap:Nat)(kv:Value)(p:Option Addr)(U:List It)(j:Nat)(y:Value)(w:World):Prop:=
 if j=0∨j=1∨j=5∨j=6 then y=.pointer (some ⟨W,0,none⟩)
 else if j=2∨j=7 then y=.pointer (some ⟨W,2,none⟩)
 else if j=3∨j=8 then y=.slice (some ⟨bl,0,none⟩) 2 cl
 else if j=4∨j=9 then y=.int .i64 (k:Nat)
 else if j=10∨j=15 then y=.pointer (some ⟨bl,k,none⟩)
 else if j=11 then y=kv
 else if j=12 then y=.int .i64 (id:Nat)
 else if j=13 then y=.slice p len cap
 else if j=14 then eI N N w y U
 else True
theorem My(N W bl cl k id len cap:Nat)(kv:Value)(p:Option Addr)(U:List It):∀j y w w',bE N W bl cl k id len cap kv p U j y w->Ext w w'->bE N W bl cl k id len cap kv p U j y w':=by
 intro j y w w' h hE;unfold bE at h⊢;by_cases c:j=14
 .subst c;simp at h⊢;exact h.kp0 (aS hE)
 .repeat' split at h
  all_goals simp_all
theorem Xi{f:Nat->Value}{Stop:Goroutine->(Nat->Prop)->World->Prop}{cs:List Frame}{k0:List Item}(id len cap:Nat)(p:Option Addr)(val:Nat->Nat)(hm:Wm N W x T g w)(hk:k<2)(hg:N<=w.heap.size)(hid:id<=9999)(hlen:len<=400)(hs:fA N w p len cap val)(FM:(T k).length<=100)
  (g0:f 0=.pointer (some ⟨W,0,none⟩)) (g1:f 1=.int .i64 (k:Nat)) (g2:f 2=.int .i64 (id:Nat)) (g3:f 3=.slice p len cap)
  (next:∀w' f' y,Kp w (YW W g) w'->Wm N W x (iK T k (aZ ⟨id,len,val⟩ false (T k))) {g with kv:=kO g.kv k y} w'->f' 10=f 10->f' 11=f 11->Vw.Reach Tryz.prog Stop (G ((_root_.Go.Conc.base 9).at ⟨TA 110 f',[]⟩ (.inRegion ((bM 15 (Tryz.f9.body.getD .skip)).getD #[]) []::k0)) cs) S w') :
  Vw.Reach Tryz.prog Stop (G ((_root_.Go.Conc.base 9).at ⟨TA 110 f,[]⟩ (.code (.region 15 ((bM 15 (Tryz.f9.body.getD .skip)).getD #[]) true)::k0)) cs) S w:=by
 have e0:bM 15 (Tryz.f9.body.getD .skip)=some _:=rfl;rw[e0]at next⊢
 simp only[ao]at next⊢
 clear e0;obtain⟨bl,cl,cur,el,ml,lc,uk,ns,lk⟩:=hm.lC;have lk:=lk k hk;have ll:(k:Int)<2:=by omega
 refine Km (by kernel_rfl) (by kernel_rfl) (by kernel_rfl) 16 [0,1,2,3,4,5,6,7,8,9,10,11,12,13,14,15] (by kernel_rfl) (bE N W bl cl k id len cap (g.kv k) p (aZ ⟨id,len,val⟩ false (T k))) (λS' w'=>S'=S∧Ext w w') (λS' f w'=>S'=S∧Kp w (YW W g) w'∧∃y,Wm N W x (iK T k (aZ ⟨id,len,val⟩ false (T k))) {g with kv:=kO g.kv k y} w') (λS' w w' h hE=>⟨h.1,h.2.trans _ _ _ hE⟩) (λS' i f x w w' hi hA jh h hE=>⟨h.1,h.2.1.ext hE,h.2.2.choose,h.2.2.choose_spec.kp0 (aS hE)⟩) (My _ _ _ _ _ _ _ _ _ _ _) ?_ ⟨rfl,.refl _⟩ ?_ ?_ ?_
 .intro j hj he x w h;have jo:j<17:=hj;rcases(by omega:j=0∨j=1∨j=2∨j=3∨j=4∨j=5∨j=6∨j=7∨j=8∨j=9∨j=10∨j=11∨j=12∨j=13∨j=14∨j=15∨j=16) with rfl|rfl|rfl|rfl|rfl|rfl|rfl|rfl|rfl|rfl|rfl|rfl|rfl|rfl|rfl|rfl|rfl;all_goals first|(cases he;done)|(simp[bE])
 .intro i f' S1 w5 rest hi dy hB hf hd dj;have BI:f' 0=.pointer (some ⟨W,0,none⟩):=(hf 0 (eK (by kernel_rfl))).trans g0;have WG:f' 1=.int .i64 (k:Nat):=(hf 1 (eK (by kernel_rfl))).trans g1;have KN:f' 2=.int .i64 (id:Nat):=(hf 2 (eK (by kernel_rfl))).trans g2;have OY:f' 3=.slice p len cap:=(hf 3 (eK (by kernel_rfl))).trans g3;clear hf;have ft:i<17:=hi;rcases(by omega:i=0∨i=1∨i=2∨i=3∨i=4∨i=5∨i=6∨i=7∨i=8∨i=9∨i=10∨i=11∨i=12∨i=13∨i=14∨i=15∨i=16) with rfl|rfl|rfl|rfl|rfl|rfl|rfl|rfl|rfl|rfl|rfl|rfl|rfl|rfl|rfl|rfl|rfl
  .clear hd hB;refine rY aB ?_;exact dj _ w5 (.refl w5) (by simp[bE])
  .have d0:bE N W bl cl k id len cap (g.kv k) p (aZ ⟨id,len,val⟩ false (T k)) 0 (f' 89) w5:=hd 0 (aD (by kernel_rfl));simp[bE]at d0;clear hd hB;refine rY aB ?_;exact dj _ w5 (.refl w5) (by simp[bE])
  .have d1:bE N W bl cl k id len cap (g.kv k) p (aZ ⟨id,len,val⟩ false (T k)) 1 (f' 90) w5:=hd 1 (aD (by kernel_rfl));simp[bE]at d1;clear hd hB;refine rY aB ?_;exact dj _ w5 (.refl w5) (by simp[bE])
  .have d2:bE N W bl cl k id len cap (g.kv k) p (aZ ⟨id,len,val⟩ false (T k)) 2 (f' 91) w5:=hd 2 (aD (by kernel_rfl));simp[bE]at d2;obtain⟨eS,hE⟩:=hB (by simp);subst S1;have qi:=hE.cell lc;clear hd hB;(refine rO aB rfl ?_;intro _ dt K_ dr;(have hc:=(Ext.twin dt).cell qi);go_simp;(try rw[wI _]);(try rw[wU _]);refine dr _ ?_;clear dr K_ dt;simp only[sS,sN]);exact dj _ w5 (.refl w5) (by simp[bE])
  .clear hd hB;refine rY aB ?_;exact dj _ w5 (.refl w5) (by simp[bE])
  .clear hd hB;refine rY aB ?_;exact dj _ w5 (.refl w5) (by simp[bE])
  .have d5:bE N W bl cl k id len cap (g.kv k) p (aZ ⟨id,len,val⟩ false (T k)) 5 (f' 94) w5:=hd 5 (aD (by kernel_rfl));simp[bE]at d5;clear hd hB;refine rY aB ?_;exact dj _ w5 (.refl w5) (by simp[bE])
  .have d6:bE N W bl cl k id len cap (g.kv k) p (aZ ⟨id,len,val⟩ false (T k)) 6 (f' 95) w5:=hd 6 (aD (by kernel_rfl));simp[bE]at d6;clear hd hB;refine rY aB ?_;exact dj _ w5 (.refl w5) (by simp[bE])
  .have d7:bE N W bl cl k id len cap (g.kv k) p (aZ ⟨id,len,val⟩ false (T k)) 7 (f' 96) w5:=hd 7 (aD (by kernel_rfl));simp[bE]at d7;obtain⟨eS,hE⟩:=hB (by simp);subst S1;have qi:=hE.cell lc;clear hd hB;(refine rO aB rfl ?_;intro _ dt K_ dr;(have hc:=(Ext.twin dt).cell qi);go_simp;(try rw[wI _]);(try rw[wU _]);refine dr _ ?_;clear dr K_ dt;simp only[sS,sN]);exact dj _ w5 (.refl w5) (by simp[bE])
  .clear hd hB;refine rY aB ?_;exact dj _ w5 (.refl w5) (by simp[bE])
  .have d8:bE N W bl cl k id len cap (g.kv k) p (aZ ⟨id,len,val⟩ false (T k)) 8 (f' 97) w5:=hd 8 (aD (by kernel_rfl));simp[bE]at d8;have d9:bE N W bl cl k id len cap (g.kv k) p (aZ ⟨id,len,val⟩ false (T k)) 9 (f' 98) w5:=hd 9 (aD (by kernel_rfl));simp[bE]at d9;clear hd hB;refine rY aB ?_;exact dj _ w5 (.refl w5) (by simp[bE])
  .have d10:bE N W bl cl k id len cap (g.kv k) p (aZ ⟨id,len,val⟩ false (T k)) 10 (f' 99) w5:=hd 10 (aD (by kernel_rfl));simp[bE]at d10;obtain⟨eS,hE⟩:=hB (by simp);subst S1;have qi:=hE.cell lk;clear hd hB;(refine rO aB rfl ?_;intro _ dt K_ dr;(have hc:=(Ext.twin dt).cell qi);go_simp;(try rw[wI _]);(try rw[wU _]);refine dr _ ?_;clear dr K_ dt;simp only[sS,sN]);exact dj _ w5 (.refl w5) (by simp[bE])
  .clear hd hB;refine rY aB ?_;exact dj _ w5 (.refl w5) (by simp[bE])
  .clear hd hB;refine rY aB ?_;exact dj _ w5 (.refl w5) (by simp[bE])
  .have d11:bE N W bl cl k id len cap (g.kv k) p (aZ ⟨id,len,val⟩ false (T k)) 11 (f' 100) w5:=hd 11 (aD (by kernel_rfl));simp[bE]at d11;have d12:bE N W bl cl k id len cap (g.kv k) p (aZ ⟨id,len,val⟩ false (T k)) 12 (f' 101) w5:=hd 12 (aD (by kernel_rfl));simp[bE]at d12;have d13:bE N W bl cl k id len cap (g.kv k) p (aZ ⟨id,len,val⟩ false (T k)) 13 (f' 102) w5:=hd 13 (aD (by kernel_rfl));simp[bE]at d13;obtain⟨eS,hE⟩:=hB (by simp);subst S1;clear hd hB;refine dV Tryz.func32 (Tq N (ak hg hE.size) (T k) (g.kv k) id len cap p val hid hlen ((hm.k k hk).kp0 (aS hE)) (hs.kp (dM N w) (aS hE)) FM) ?_;rintro y S1 w6 _ ⟨e1,ew,m_⟩;subst S1;exact dj _ w6 ew (by simp[bE];exact m_)
  .have d3:bE N W bl cl k id len cap (g.kv k) p (aZ ⟨id,len,val⟩ false (T k)) 3 (f' 92) w5:=hd 3 (aD (by kernel_rfl));simp[bE]at d3;have d4:bE N W bl cl k id len cap (g.kv k) p (aZ ⟨id,len,val⟩ false (T k)) 4 (f' 93) w5:=hd 4 (aD (by kernel_rfl));simp[bE]at d4;clear hd hB;refine rY aB ?_;exact dj _ w5 (.refl w5) (by simp[bE])
  .exact absurd rfl dy
 .rintro f' S1 w5 rest ⟨eS,hE⟩ hf hd dj;subst S1;have d14:bE N W bl cl k id len cap (g.kv k) p (aZ ⟨id,len,val⟩ false (T k)) 14 (f' 103) w5:=hd 14 (by simp);have d15:bE N W bl cl k id len cap (g.kv k) p (aZ ⟨id,len,val⟩ false (T k)) 15 (f' 104) w5:=hd 15 (by simp);simp[bE]at d14 d15;clear hd hf;obtain⟨y,hy⟩:∃y,f' 103=y:=⟨_,rfl⟩;rw[hy]at d14;have y9:=d14;obtain⟨Q,hQ1,hQ⟩:=y9;obtain⟨py,cy,IV⟩:=hQ.form;have oy:=hm.kp0 (aS hE);have wh:=hE.row uk;refine aN aB rfl rfl (by kernel_rfl) (λu hu=>nX (x:=.tmp 104) (y:=.tmp 103) (j:=k) (z:=y) hu wh (by omega) (by rw[IV];rfl) (by rw[IV];rfl) rfl (by simp[d15]) (by simp[hy]) (by kernel_rfl)) ?_;rintro x1 w6 hW;obtain⟨q1,q2⟩:=oy.setL hk el wh d14 hW;have qs:Kp w (YW W g) w6:=((aS hE).mono λ_ h=>h.elim).trans q2
  exact dj _ S w6 ⟨rfl,qs,y,q1⟩ (by simp[bE]) λj y' hj gh h=>by
   by_cases c:j=14
   .subst c;simp[bE]at h⊢;exact h.kp oy.offY q2
   .unfold bE at h⊢;repeat' split at h
    all_goals simp_all
 .rintro f' S1 w5 ⟨eS,q1,y,q2⟩ hf hd;subst S1;exact next w5 f' y q1 q2 (hf 10 (aV (by kernel_rfl))) (hf 11 (aV (by kernel_rfl)))
end
def sqP:Nat->Code->Code
 |0,c=>c
 |n+1,.seq _ y=>sqP n y
 |_+1,c=>c
section
variable {N W n m q k:Nat}{x:Nat->Sx}{T:Nat->List It}{g:Wv}{v w w':World}{S S2:Nat->Prop}
theorem Dg(T:Nat->List It)(k:Nat):iK T k (T k)=T:=by
 funext i;unfold iK;by_cases e:i=k
 .rw[ai e,e]
 .rw[ah e]
theorem Un{f:Nat->Value}{Stop:Goroutine->(Nat->Prop)->World->Prop}{cs:List Frame}(d i cap e ot:Nat)(p:Option Addr)(val:Nat->Nat){y:Sx}(h:Wd N W (n+42) m q x T g v)(hk:k<2)(hs:fA N v p i cap val)(hN:N<=v.heap.size)(d2:d<=9999)(d3:i<=400)(rp:Kp v (x k).own w)(y3:y.nb=(x k).nb)
  (a1:Wm N W (cR x k y) T g w) (a2:∀j,j<2->Ho N n (m+1) (cR x k y j) (iK T k (if e=0 then aZ ⟨((d:Nat):Int).toNat,i,val⟩ false (T k) else T k) j) w) (a3:∀b,(cR x k y 0).own b->¬(cR x k y 1).own b) (my:gL (x k).L (x k).nb d=decide ((x k).nb-2<=ot)) (ho21:ot<=21) (hc:(gL (x k).L (x k).nb d=true∧e=5)∨(gL (x k).L (x k).nb d=false∧e=0))
  (g0:f 0=.pointer (some ⟨W,0,none⟩)) (g1:f 1=.int .i64 (k:Nat)) (g2:f 2=.int .i64 ((d:Nat):Int)) (g3:f 3=.slice p i cap) (g10:f 10=.int .i64 ((e:Nat):Int)) (g11:f 11=.bool true) (g13:f 13=.int .i64 ((ot:Nat):Int))
  (ret:∀f' todo S' v',f' 8=.bool true->(∃x' T' g',Wd N W n (m+1) q x' T' g' v'∧Fr N v v')->Vw.Reach Tryz.prog Stop (G {(base 9).at ⟨TA 110 f',[]⟩ todo with mode:=.returning} cs) S' v') :
  Vw.Reach Tryz.prog Stop (G ((base 9).at ⟨TA 110 f,[]⟩ [.code (sqP 8 (Tryz.f9.body.getD .skip))]) cs) S2 w:=by
 have hH:=h.st k hk;have FM:=hH.tl;have ll:(k:Int)<2:=by omega
 have kl:=hH.b4;have AE:=hH.b23;have pw:Fr N v w:=.of hH.off rp;have e0:sqP 8 (Tryz.f9.body.getD .skip)=.seq _ _:=rfl;rw[e0];clear e0;rcases hc with⟨hf,rfl⟩|⟨hf,rfl⟩
 .rw[hf]at my;have rj:=of_decide_eq_true my.symm;have ML:((x k).nb:Int)-2<=(ot:Int):=by omega
  clear my rj;obtain⟨bn,cn,H_,nc,nk⟩:=a1.nC;have nk:=nk k hk;have YT:(cR x k y k).nb=(x k).nb:=by unfold cR;rw[ai rfl];exact y3
  rw[YT]at nk
  have ij:Wd N W n (m+1) q (cR x k y) T g w:=⟨a1,λj hj=>by
   have:=a2 j hj;rw[ah (by decide)]at this
   rwa [Dg]at this,a3,h.cnt⟩
  repeat refine rN ?_
  refine rX (by simp[Act.eval]) ?_;repeat refine rM nc ?_
  repeat refine rM nk ?_
  refine aM λtodo=>?_
  exact ret _ _ S2 w (by simp[ML]) ⟨_,_,_,ij,pw⟩
 .clear my;repeat refine rN ?_
  refine rZ (by simp[Act.eval]) ?_;repeat refine rN ?_
  refine Xi d i cap p val a1 hk (ak hN rp.size) d2 d3 (hs.kp hH.off rp) (by omega) (by simp[g0]) (by simp[g1]) (by simp[g2]) (by simp[g3]) λw5 f' y' lz oy b10 UO=>?_
  have b10':f' 10=.int .i64 0:=by rw[b10];simp[g10]
  have b11':f' 11=.bool true:=by rw[UO];simp[g11]
  have ij:Wd N W n (m+1) q (cR x k y) (iK T k (aZ ⟨d,i,val⟩ false (T k))) {g with kv:=kO g.kv k y'} w5:=⟨oy,λj hj=>by
   have:=(a2 j hj).yw a1 lz
   rwa [ai rfl,Int.toNat_natCast]at this,a3,h.cnt⟩
  repeat refine rN ?_
  refine aM λtodo=>?_
  exact ret _ _ S2 w5 (by simp) ⟨_,_,_,ij,pw.trans (.of a1.offY lz)⟩
end
