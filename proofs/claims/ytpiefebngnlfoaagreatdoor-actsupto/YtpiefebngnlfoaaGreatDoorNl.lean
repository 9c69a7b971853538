import Derived.Test.YtpiefebngnlfoaaGreatDoorNj
set_option maxRecDepth 99999
set_option maxHeartbeats 0
set_option linter.unusedVariables false
set_option linter.unusedSimpArgs false
namespace Go.Proofs.YtpiefebngnlfoaaGreatDoor
open Go.RowKit Go.Conc Go.Vw
theorem Gd(x:It):∀M:List It,aZ x true M=M.filter λy=>decide (y.id≠x.id)
 |[]=>by simp[aZ]
 |y::M=>by
  unfold aZ;rw[ah (by simp),Gd x M];by_cases e:y.id=x.id
  .rw[ai e,List.filter_cons_of_neg (by simp[e])]
  .rw[ah e,List.filter_cons_of_pos (by simp[e])]
theorem kS.out{M:List It}{i:Nat}{t:It}(h:kS M)(hi:M[i]?=some t):aZ t true M=M.take i++M.drop (i+1):=by
 obtain⟨h1,h2⟩:=List.getElem?_eq_some_iff.1 hi;have hM:M=M.take i++t::M.drop (i+1):=by rw[<-h2,<-List.drop_eq_getElem_cons h1,List.take_append_drop]
 rw[Gd];have hp:(M.take i++t::M.drop (i+1)).Pairwise λa b=>a.id<b.id:=by rw[<-hM];exact h
 rw[List.pairwise_append]at hp;obtain⟨_,p2,p3⟩:=hp;have p2:=List.pairwise_cons.1 p2;conv=>lhs;rw[hM]
 rw[List.filter_append,List.filter_cons_of_neg (by simp),List.filter_eq_self.2 λy hy=>?_,List.filter_eq_self.2 λy hy=>?_]
 .have:=p2.1 y hy;simp;omega
 .have:=p3 y hy t (bw ..);simp;omega
theorem Br:∀(Q:List Itp)(i j:Nat),(dY (Q.drop i))[j]?=(dY Q)[i*2+j]?
 |Q,0,j=>by simp
 |[],i+1,j=>by simp[dY]
 |q::Q,i+1,j=>by rw[List.drop_succ_cons,Br Q i j,show(i+1)*2+j=(i*2+j)+2 by omega];rfl
theorem Bp:∀(Q:List Itp)(i j:Nat)(y:Value),(dY (Q.take i))[j]?=some y->(dY Q)[j]?=some y
 |Q,0,j,y,h=>by simp[dY]at h
 |[],i+1,j,y,h=>by simp[dY]at h
 |q::Q,i+1,j,y,h=>by
  rw[List.take_succ_cons]at h;match j,h with
  |0,h=>exact h
  |1,h=>exact h
  |j+2,h=>exact Bp Q i j y h
theorem ItsQ.cells{N base ga ca:Nat}{w:World}{sv:Value}{Q:List Itp}(h:ItsQ N base w sv Q)(e:sv=.slice (some ⟨ga,0,none⟩) Q.length ca){j:Nat}{y:Value}(hj:(dY Q)[j]?=some y):w.cell? ⟨ga,j,none⟩=some y:=by
 rcases h.own.2 with⟨e1,_⟩|⟨b,cap,cur,q1,q2,q3,q4,q5,q6,q7⟩
 .rw[e]at e1;cases e1
 .rw[e]at q1;cases q1;rw[ab _ _ _ _ _ _ q3,<-bd];rw[<-q7,List.getElem?_take]at hj;split at hj
  .exact hj
  .cases hj
def aW(N W bl cl k i ga ql ca:Nat)(kv ov:Value)(Qn:List Itp)(j:Nat)(y:Value)(w:World):Prop:=
 if j=0∨j=1∨j=6∨j=7 then y=.pointer (some ⟨W,0,none⟩)
 else if j=2∨j=8 then y=.pointer (some ⟨W,2,none⟩)
 else if j=3∨j=9 then y=.slice (some ⟨bl,0,none⟩) 2 cl
 else if j=4∨j=10 then y=.int .i64 (k:Nat)
 else if j=5 then y=ov
 else if j=11∨j=17 then y=.pointer (some ⟨bl,k,none⟩)
 else if j=12 then y=.slice (some ⟨ga,0,none⟩) ql ca
 else if j=13 then y=.int .i64 (i:Nat)
 else if j=14 then y=.int .i64 ((i:Int)+1)
 else if j=15 then ∃ad cc,y=.slice (some ad) (ql-(i+1)) cc∧(i+1<ql->ad=⟨ga,(i+1)*2,none⟩)
 else if j=16 then eI N N w y (Qn.map (·.it))
 else True
theorem Fe(N W bl cl k i ga ql ca:Nat)(kv ov:Value)(Qn:List Itp){Y:Nat->Prop}{j:Nat}{y:Value}{w w':World}(h:aW N W bl cl k i ga ql ca kv ov Qn j y w)(hY:j=16->dC N w Y)(hK:Kp w Y w'):aW N W bl cl k i ga ql ca kv ov Qn j y w':=by
 by_cases c:j=16
 .have hY2:=hY c;subst c;simp[aW]at h⊢;exact h.kp hY2 hK
 .unfold aW at h⊢;repeat' split at h
  all_goals simp_all
section
variable {N W n m q k:Nat}{x:Nat->Sx}{T:Nat->List It}{g:Wv}{v v0 w w':World}{S:Nat->Prop}
theorem Zc{f:Nat->Value}{Stop:Goroutine->(Nat->Prop)->World->Prop}{cs:List Frame}{k0:List Item}(i:Nat)(ov:Value)(Q Qo:List Itp)(hm:Wm N W x T g v0)(hk:k<2)(hN:N<=v0.heap.size)(hE:Ext v0 w)(hQ:ItsQ N N v0 (g.kv k) Q)(hi:i<Q.length)(YG:Q.length<=100)(YJ:ItsQ N v0.heap.size w ov Qo)(hol:Qo.length<=100)
  (g0:f 0=.pointer (some ⟨W,0,none⟩)) (g1:f 1=.int .i64 (k:Nat)) (g8:f 8=.int .i64 (i:Nat)) (g9:f 9=ov)
  (next:∀w' f' y,Kp v0 (YW W g) w'->Wm N W x (iK T k ((Qo++Q.drop (i+1)).map (·.it))) {g with kv:=kO g.kv k y} w'->f' 7=f 7->Vw.Reach Tryz.prog Stop (G ((_root_.Go.Conc.base 33).at ⟨TA 73 f',[]⟩ (.inRegion ((bM 9 (Tryz.f33.body.getD .skip)).getD #[]) []::k0)) cs) S w') :
  Vw.Reach Tryz.prog Stop (G ((_root_.Go.Conc.base 33).at ⟨TA 73 f,[]⟩ (.code (.region 9 ((bM 9 (Tryz.f33.body.getD .skip)).getD #[]) true)::k0)) cs) S w:=by
 have e0:bM 9 (Tryz.f33.body.getD .skip)=some _:=rfl;rw[e0]at next⊢
 simp only[ao]at next⊢
 clear e0;obtain⟨bl,cl,cur,el,ml,lc,uk,ns,lk⟩:=hm.lC;have lk:=lk k hk;obtain⟨q0,CS⟩:∃q0,Q[i]?=some q0:=⟨_,List.getElem?_eq_getElem hi⟩;obtain⟨ga,ca,ea,hca,_,_⟩:=hQ.get CS;rw[ea]at lk;have ll:(k:Int)<2:=by omega
 obtain⟨ql,LL⟩:∃ql,Q.length=ql:=⟨_,rfl⟩;rw[LL]at lk hi YG hca;have pd:(i:Int)+1<=(ql:Int):=by omega
 have FE:(ql:Int)<=(ca:Int):=by omega
 refine rJ (by kernel_rfl) (by kernel_rfl) (by kernel_rfl) 16 [5,6,7,8,9,10,11,12,13,14,15] (by kernel_rfl) 18 [0,1,2,3,4,5,6,7,8,9,10,11,12,13,14,15,16,17] (by kernel_rfl) (by kernel_rfl) (by decide) (aW N W bl cl k i ga ql ca (g.kv k) ov (Qo++Q.drop (i+1))) (λS' w'=>S'=S∧Ext w w') (λS' w'=>S'=S∧Ext v0 w') (λS' w'=>S'=S∧Kp v0 (YW W g) w'∧∃y,Wm N W x (iK T k ((Qo++Q.drop (i+1)).map (·.it))) {g with kv:=kO g.kv k y} w') (λS' w w' h hE=>⟨h.1,h.2.trans _ _ _ hE⟩) (λS' w w' h hE=>⟨h.1,h.2.trans _ _ _ hE⟩) (λj x w w' h hE=>Fe _ _ _ _ _ _ _ _ _ _ _ _ h (λ_=>dM N w) (aS hE)) ?_ ⟨rfl,.refl _⟩ ?_ ?_ ?_ ?_
 .intro j hj he x w h;have jo:j<19:=hj;rcases(by omega:j=0∨j=1∨j=2∨j=3∨j=4∨j=5∨j=6∨j=7∨j=8∨j=9∨j=10∨j=11∨j=12∨j=13∨j=14∨j=15∨j=16∨j=17∨j=18) with rfl|rfl|rfl|rfl|rfl|rfl|rfl|rfl|rfl|rfl|rfl|rfl|rfl|rfl|rfl|rfl|rfl|rfl|rfl;all_goals first|(cases he;done)|(simp[aW])
 .intro i' f' S1 w5 rest ft dy yx hB NL hf hd dj;have BI:f' 0=.pointer (some ⟨W,0,none⟩):=(hf 0 (eK (by kernel_rfl))).trans g0;have WG:f' 1=.int .i64 (k:Nat):=(hf 1 (eK (by kernel_rfl))).trans g1;have L6:f' 8=.int .i64 (i:Nat):=(hf 8 (eK (by kernel_rfl))).trans g8;have g9':f' 9=ov:=(hf 9 (eK (by kernel_rfl))).trans g9;have AM:Ext v0 w5:=by
   rcases NL with h|h
   .exact hE.trans _ _ _ h.2
   .exact h.2
  clear hf NL;have zy:i'<19:=ft;rcases(by omega:i'=0∨i'=1∨i'=2∨i'=3∨i'=4∨i'=5∨i'=6∨i'=7∨i'=8∨i'=9∨i'=10∨i'=11∨i'=12∨i'=13∨i'=14∨i'=15∨i'=16∨i'=17∨i'=18) with rfl|rfl|rfl|rfl|rfl|rfl|rfl|rfl|rfl|rfl|rfl|rfl|rfl|rfl|rfl|rfl|rfl|rfl|rfl
  .clear hd hB;refine rY aB ?_;exact dj _ w5 (.refl w5) (by simp[aW])
  .have d0:aW N W bl cl k i ga ql ca (g.kv k) ov (Qo++Q.drop (i+1)) 0 (f' 53) w5:=hd 0 (aD (by kernel_rfl));simp[aW]at d0;clear hd hB;refine rY aB ?_;exact dj _ w5 (.refl w5) (by simp[aW])
  .have d1:aW N W bl cl k i ga ql ca (g.kv k) ov (Qo++Q.drop (i+1)) 1 (f' 54) w5:=hd 1 (aD (by kernel_rfl));simp[aW]at d1;clear hd hB;refine rY aB ?_;exact dj _ w5 (.refl w5) (by simp[aW])
  .have d2:aW N W bl cl k i ga ql ca (g.kv k) ov (Qo++Q.drop (i+1)) 2 (f' 55) w5:=hd 2 (aD (by kernel_rfl));simp[aW]at d2;have qi:=AM.cell lc;clear hd hB;(refine rO aB rfl ?_;intro _ dt K_ dr;(have hc:=(Ext.twin dt).cell qi);go_simp;(try rw[wI _]);(try rw[wU _]);refine dr _ ?_;clear dr K_ dt;simp only[sS,sN]);exact dj _ w5 (.refl w5) (by simp[aW])
  .clear hd hB;refine rY aB ?_;exact dj _ w5 (.refl w5) (by simp[aW])
  .clear hd hB;refine rY aB ?_;exact dj _ w5 (.refl w5) (by simp[aW])
  .clear hd hB;refine rY aB ?_;exact dj _ w5 (.refl w5) (by simp[aW])
  .have d6:aW N W bl cl k i ga ql ca (g.kv k) ov (Qo++Q.drop (i+1)) 6 (f' 59) w5:=hd 6 (aD (by kernel_rfl));simp[aW]at d6;clear hd hB;refine rY aB ?_;exact dj _ w5 (.refl w5) (by simp[aW])
  .have d7:aW N W bl cl k i ga ql ca (g.kv k) ov (Qo++Q.drop (i+1)) 7 (f' 60) w5:=hd 7 (aD (by kernel_rfl));simp[aW]at d7;clear hd hB;refine rY aB ?_;exact dj _ w5 (.refl w5) (by simp[aW])
  .have d8:aW N W bl cl k i ga ql ca (g.kv k) ov (Qo++Q.drop (i+1)) 8 (f' 61) w5:=hd 8 (aD (by kernel_rfl));simp[aW]at d8;have qi:=AM.cell lc;clear hd hB;(refine rO aB rfl ?_;intro _ dt K_ dr;(have hc:=(Ext.twin dt).cell qi);go_simp;(try rw[wI _]);(try rw[wU _]);refine dr _ ?_;clear dr K_ dt;simp only[sS,sN]);exact dj _ w5 (.refl w5) (by simp[aW])
  .clear hd hB;refine rY aB ?_;exact dj _ w5 (.refl w5) (by simp[aW])
  .have d9:aW N W bl cl k i ga ql ca (g.kv k) ov (Qo++Q.drop (i+1)) 9 (f' 62) w5:=hd 9 (aD (by kernel_rfl));simp[aW]at d9;have d10:aW N W bl cl k i ga ql ca (g.kv k) ov (Qo++Q.drop (i+1)) 10 (f' 63) w5:=hd 10 (aD (by kernel_rfl));simp[aW]at d10;clear hd hB;refine rY aB ?_;exact dj _ w5 (.refl w5) (by simp[aW])
  .have d11:aW N W bl cl k i ga ql ca (g.kv k) ov (Qo++Q.drop (i+1)) 11 (f' 64) w5:=hd 11 (aD (by kernel_rfl));simp[aW]at d11;have qi:=AM.cell lk;clear hd hB;(refine rO aB rfl ?_;intro _ dt K_ dr;(have hc:=(Ext.twin dt).cell qi);go_simp;(try rw[wI _]);(try rw[wU _]);refine dr _ ?_;clear dr K_ dt;simp only[sS,sN]);exact dj _ w5 (.refl w5) (by simp[aW])
  .clear hd hB;refine rY aB ?_;exact dj _ w5 (.refl w5) (by simp[aW])
  .have d13:aW N W bl cl k i ga ql ca (g.kv k) ov (Qo++Q.drop (i+1)) 13 (f' 66) w5:=hd 13 (aD (by kernel_rfl));simp[aW]at d13;clear hd hB;refine rY aB ?_;exact dj _ w5 (.refl w5) (by simp[aW])
  .have d12:aW N W bl cl k i ga ql ca (g.kv k) ov (Qo++Q.drop (i+1)) 12 (f' 65) w5:=hd 12 (aD (by kernel_rfl));simp[aW]at d12;have d14:aW N W bl cl k i ga ql ca (g.kv k) ov (Qo++Q.drop (i+1)) 14 (f' 67) w5:=hd 14 (aD (by kernel_rfl));simp[aW]at d14;clear hd hB;by_cases hcc:ca=i+1
   .skip;refine rY aB ?_
    exact dj _ w5 (.refl w5) (by
     simp only[aW,reduceIte,Nat.reduceEqDiff,or_self]
     refine⟨_,_,by simp[hcc];(try exact⟨rfl,rfl⟩),λh=>by omega⟩)
   .skip;refine rY aB ?_
    exact dj _ w5 (.refl w5) (by
     simp only[aW,reduceIte,Nat.reduceEqDiff,or_self]
     exact⟨_,_,rfl,λh=>rfl⟩)
  .exact absurd rfl dy
  .have d3:aW N W bl cl k i ga ql ca (g.kv k) ov (Qo++Q.drop (i+1)) 3 (f' 56) w5:=hd 3 (aD (by kernel_rfl));simp[aW]at d3;have d4:aW N W bl cl k i ga ql ca (g.kv k) ov (Qo++Q.drop (i+1)) 4 (f' 57) w5:=hd 4 (aD (by kernel_rfl));simp[aW]at d4;clear hd hB;refine rY aB ?_;exact dj _ w5 (.refl w5) (by simp[aW])
  .exact absurd rfl yx
 .rintro f' S1 w5 rest ⟨eS,lh⟩ hf hd dj;subst S1;have d5:aW N W bl cl k i ga ql ca (g.kv k) ov (Qo++Q.drop (i+1)) 5 (f' 58) w5:=hd 5 (by simp);have d15:aW N W bl cl k i ga ql ca (g.kv k) ov (Qo++Q.drop (i+1)) 15 (f' 68) w5:=hd 15 (by simp);simp[aW]at d5;simp only[aW,reduceIte,Nat.reduceEqDiff,or_self]at d15;obtain⟨ad,c15,d15,had⟩:=d15;clear hd hf;have GM:=YJ.kp (dM N w) (aS lh);have J8:=hQ.kp (dM N v0) (aS (hE.trans _ _ _ lh))
  refine aN aB rfl rfl (by kernel_rfl) (λu hu=>vJ (s:=.tmp 58) (x:=.tmp 68) (ad:=ad) (m:=ql-(i+1)) (c:=c15) (news:=dY (Q.drop (i+1))) hu v0.heap.size GM.own (by rw[sU,List.length_drop,LL]) (λj y hy=>by
   have hj2:j<(dY (Q.drop (i+1))).length:=(List.getElem?_eq_some_iff.1 hy).1;rw[sU,List.length_drop,LL]at hj2;rw[Br]at hy;rw[had (by omega),Addr.add_lit]
   exact J8.cells (by rw[ea]) hy) (λy hy=>wR y hy) (by omega) (ak hE.size lh.size) rfl (by simp[d5]) (by simp[d15])) ?_
  rintro y w6 ⟨GO,ru,_⟩;have ew:Ext v0 w6:=Gr.over (hE.trans _ _ _ lh) ru λb hb=>(oF GM.own hb).1
  have F0:∀b,ov.ownBlock=some b->N<=b∧∀C fr,w5.heap[b]?≠some (.cells C 5 fr):=GM.row hN
  have m_:eI N N w6 y ((Qo++Q.drop (i+1)).map (·.it)):=eI.lower ⟨_,rfl,⟨by
   rw[wS,cd,List.length_drop,LL]
   exact GO,λz hz=>?_⟩⟩ hN
  .exact dj _ S w6 ⟨rfl,ew⟩ (by simp[aW];simpa using m_) λj y' hj gh h=>Fe _ _ _ _ _ _ _ _ _ _ _ _ h (λe=>absurd e hj) (iJ ru)
  .rcases List.mem_append.1 hz with hz|hz
   .exact(GM.sl z hz).gr ru F0
   .exact(J8.sl z (List.mem_of_mem_drop hz)).gr ru F0
 .rintro f' S1 w5 rest ⟨eS,lh⟩ hf hd dj;subst S1;have d16:aW N W bl cl k i ga ql ca (g.kv k) ov (Qo++Q.drop (i+1)) 16 (f' 69) w5:=hd 16 (by decide) (by decide);have d17:aW N W bl cl k i ga ql ca (g.kv k) ov (Qo++Q.drop (i+1)) 17 (f' 70) w5:=hd 17 (by decide) (by decide);simp only[aW,reduceIte,Nat.reduceEqDiff,or_self]at d16;simp[aW]at d17;clear hd hf;obtain⟨y,hy⟩:∃y,f' 69=y:=⟨_,rfl⟩;rw[hy]at d16;have y7:=d16;obtain⟨Qy,_,hQy⟩:=y7;obtain⟨py,cy,IV⟩:=hQy.form;have oy:=hm.kp0 (aS lh);have wh:=lh.row uk;refine aN aB rfl rfl (by kernel_rfl) (λu hu=>nX (x:=.tmp 70) (y:=.tmp 69) (j:=k) (z:=y) hu wh (by omega) (by rw[IV];rfl) (by rw[IV];rfl) rfl (by simp[d17]) (by simp[hy]) (by kernel_rfl)) ?_;rintro x1 w6 hW;obtain⟨q1,q2⟩:=oy.setL hk el wh d16 hW;exact dj _ S w6 ⟨rfl,((aS lh).mono λ_ h=>h.elim).trans q2,y,q1⟩
 .rintro f' S1 w5 ⟨eS,q1,y,q2⟩ hf;subst S1;exact next w5 f' y q1 q2 (hf 7 (aV (by kernel_rfl)))
end
section
variable {N W n m q k:Nat}{x:Nat->Sx}{T:Nat->List It}{g:Wv}{v w w':World}{S:Nat->Prop}
theorem Qp(id:Int)(h:Wd N W (n+42) m q x T g v)(hk:k<2)(hN:N<=v.heap.size):aJ Tryz.prog 33 #[.pointer (some ⟨W,0,none⟩),.int .i64 (k:Nat),.int .i64 id] S v λy S' v'=>y=.bool true∧∃x' T' g',Wd N W n (m+1) q x' T' g' v'∧Fr N v v':=by
 refine jR Tryz.func33 rfl Tryz.ntmps33 λStop cc cs ret f g0 g1 g2=>?_;have hH:=h.st k hk;have AE:=hH.b23;have FM:=hH.tl;have ll:(k:Int)<2:=by omega
 obtain⟨bs,AO,es,ns,sc,sk⟩:=h.mem.sC;have sk:=sk k hk;repeat refine rM sc ?_
 repeat refine rM sk ?_
 obtain⟨bl,cl,_,el,ml,lc,_,_,lk⟩:=h.mem.lC;have lk:=lk k hk;have zu:=h.le (n':=n) (m':=m+1) (q':=q) (by omega) (by omega) (ae _);by_cases lq:id<1∨9999<id
 .skip;refine rK Tryz.func48 (Mo _ id lq) ?_;rintro _ S1 w1 _ ⟨rfl,e1,e2⟩;subst S1 w1;repeat refine rM lc ?_
  repeat refine rM lk ?_
  refine rK Tryz.func31 (mQ N (T k) (g.kv k) id (h.mem.k k hk) (by omega)) ?_;rintro y S1 w1 _ ⟨e1,e2,_⟩;subst S1 w1;by_cases h1:id<1
  .skip;repeat refine rN ?_
   refine rX (by simp[Act.eval]) ?_;repeat refine rN ?_
   refine aM λtodo=>?_;refine ret _ _ S v (.bool true) ?_ ⟨rfl,x,T,g,zu,.refl _ _⟩;simp[results,Tryz.results33]
  .have h2:9999<id:=by omega
   repeat refine rN ?_
   refine rX (by simp[Act.eval]) ?_;repeat refine rN ?_
   refine aM λtodo=>?_;refine ret _ _ S v (.bool true) ?_ ⟨rfl,x,T,g,zu,.refl _ _⟩;simp[results,Tryz.results33]
 .have i1:¬id<1:=by omega
  have i2:¬9999<id:=by omega
  clear lq;obtain⟨d,rfl⟩:∃d:Nat,id=(d:Int):=⟨id.toNat,by omega⟩;have d1:1<=d:=by omega
  have d2:d<=9999:=by omega
  by_cases hf:∃t∈T k,t.id=d
  .obtain⟨t0,EW,xx⟩:=hf;obtain⟨kk,e,MM,VH⟩:=hH.rep.some EW xx;refine rK Tryz.func48 (Se d kk e MM d1 d2 hH.n14 hH.n18 (by omega) hH.st) ?_;rintro _ S1 w1 _ ⟨rfl,e1,qn,ss⟩;subst S1;obtain⟨a1,a2,a3⟩:=h.act (n':=n) (m':=m+1) hk (by omega) (by omega) qn (hH.del MM xx ss) rfl (λ_=>Iff.rfl) rfl;have ox:Fr N v w1:=.of hH.off qn;obtain⟨bl,cl,_,el,ml,AP,_,_,wz⟩:=a1.lC;have wz:=wz k hk;repeat refine rM AP ?_
   repeat refine rM wz ?_
   refine rK Tryz.func31 (mQ N (T k) (g.kv k) (d:Int) (a1.k k hk) (by omega)) ?_;rintro y S2 w2 _ ⟨e1,e2,hy⟩;subst S2 w2;obtain⟨i,t,rfl,zo,KX⟩:∃(i:Nat)(t:It),y=.int .i64 (i:Nat)∧(T k)[i]?=some t∧((t.id:Nat):Int)=(d:Int):=by
    rcases hy with hy|⟨_,hy⟩
    .exact hy
    .exact absurd (show((t0.id:Nat):Int)=(d:Int) by omega) (hy t0 EW)
   have XP:t=t0:=by obtain⟨k2,e2,DT,ME⟩:=hH.rep.some (al zo) (show t.id=d by omega);rw[MM]at DT;cases DT;exact ME.symm.trans VH
   subst XP;have uf:=hH.rep.srt.out zo;have hiT:i<(T k).length:=(List.getElem?_eq_some_iff.1 zo).1;obtain⟨Q,qq,hQ⟩:=a1.k k hk;have yj:Q.length=(T k).length:=by rw[<-qq,bz]
   obtain⟨q0,CS⟩:∃q0,Q[i]?=some q0:=⟨_,List.getElem?_eq_getElem (by omega)⟩;obtain⟨ga,ca,ea,la,_,_⟩:=hQ.get CS;have WR:=wz;rw[ea]at WR;have JK:(Q.take i++Q.drop (i+1)).map (·.it)=aZ t true (T k):=by rw[uf,<-qq,List.map_append,List.map_take,List.map_drop]
   have HL:=aP JK;have G_:i<Q.length:=by omega
   have QY:Q.length<=100:=by omega
   have HQ:=aP yj;clear JK uf qq zo KX hy VH xx EW yj;obtain⟨ql,LL⟩:∃ql,Q.length=ql:=⟨_,rfl⟩;rw[LL]at WR la;have YS:¬(i:Int)<0:=by omega
   have hic:(i:Int)<=(ca:Int):=by omega
   have hicn:i<=ca:=by omega
   repeat refine rN ?_
   refine rZ (by simp[Act.eval,i1,i2]) ?_;repeat refine rN ?_
   refine rZ (by simp[Act.eval,YS]) ?_;repeat refine rM AP ?_
   repeat refine rM WR ?_
   refine aN aB rfl rfl (by kernel_rfl) (λu hu=>vJ (s:=.tmp 42) (x:=.tmp 51) (ad:=⟨ga,0,none⟩) (m:=i) (c:=ca) (news:=dY (Q.take i)) (sv:=.slice none 0 0) (n:=0) (xs:=[]) hu w1.heap.size (World.ownsRow_nil _ _ _ _) (by rw[sU,List.length_take];omega) (λj y hy=>by
    rw[Addr.add_lit,an]
    exact hQ.cells (by rw[ea]) (Bp Q i j y hy)) (λy hy=>wR y hy) (by omega) (ae _) rfl (by simp) (by simp)) ?_
   rintro ov w3 ⟨YO,xc,_⟩;simp only[stO_some];have ef:Ext w1 w3:=xc.ext
   have YJ:ItsQ N w1.heap.size w3 ov (Q.take i):=⟨by
    have:(Q.take i).length=0+i:=by rw[List.length_take];omega
    rw[this]
    simpa using YO,λz hz=>(hQ.sl z (List.mem_of_mem_take hz)).kp (dM N w1) (aS ef)⟩
   repeat refine rN ?_
   refine Zc i ov Q (Q.take i) a1 hk (ak hN qn.size) ef hQ G_ QY YJ (by rw[List.length_take];omega) (by simp[g0]) (by simp[g1]) (by simp) (by simp) λw5 f' y' lz oy b7=>?_;rw[HL.out]at oy;have b7':f' 7=.int .i64 0:=by rw[b7];simp
   have ij:Wd N W n (m+1) q _ (iK T k (aZ t true (T k))) {g with kv:=kO g.kv k y'} w5:=⟨oy,λj hj=>(a2 j hj).yw a1 lz,a3,h.cnt⟩
   repeat refine rN ?_
   refine aM λtodo=>?_;refine ret _ _ S w5 (.bool true) ?_ ⟨rfl,_,_,_,ij,ox.trans (.of a1.offY lz)⟩;simp[results,Tryz.results33]
  .have fe:∀t∈T k,t.id≠d:=λt ht e=>hf ⟨t,ht,e⟩;refine rK Tryz.func48 (Kb d (hH.rep.none fe) d1 d2 hH.st) ?_;rintro _ S1 w1 _ ⟨rfl,e1,eh⟩;subst S1;have qn:=aS eh;have AP:=eh.cell lc;have wz:=eh.cell lk;repeat refine rM AP ?_
   repeat refine rM wz ?_
   refine rK Tryz.func31 (mQ N (T k) (g.kv k) (d:Int) ((h.mem.k k hk).kp0 qn) (by omega)) ?_;rintro y S2 w2 _ ⟨e1,e2,hy⟩;subst S2 w2;obtain rfl:y=.int .i64 (-1):=by
    rcases hy with⟨i,t,_,h1,h2⟩|⟨h1,_⟩
    .exact absurd (show t.id=d by omega) (fe t (al h1))
    .exact h1
   repeat refine rN ?_
   refine rZ (by simp[Act.eval,i1,i2]) ?_;repeat refine rN ?_
   refine rX (by simp[Act.eval]) ?_;repeat refine rN ?_
   refine aM λtodo=>?_;refine ret _ _ S w1 (.bool true) ?_ ⟨rfl,x,T,g,zu.kp0 qn,.ext eh⟩;simp[results,Tryz.results33]
end
