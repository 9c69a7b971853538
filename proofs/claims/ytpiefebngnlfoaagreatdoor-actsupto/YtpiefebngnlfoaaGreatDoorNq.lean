import Derived.Test.YtpiefebngnlfoaaGreatDoorNn
import Derived.Test.YtpiefebngnlfoaaGreatDoorNg
set_option maxRecDepth 99999
set_option maxHeartbeats 0
set_option linter.unusedVariables false
set_option linter.unusedSimpArgs false
namespace Go.Proofs.YtpiefebngnlfoaaGreatDoor
open Go.RowKit Go.Conc Go.Vw
def aY:Value:=.slice none 0 0
structure PW(N W js jn jl jx Bq:Nat)(x:Nat->Sx)(sv nv lv:Value)(w:World):Prop where
 new:N<=W
 row:w.heap[W]?=some (.cells #[sv,nv,lv,aY,aY,aY,aY] 34)
 s:w.ownsRow N 36 1 sv js ((List.range js).map λk=>.pointer (some ⟨(x k).X,0,none⟩))
 n:w.ownsRow N 3 1 nv jn ((List.range jn).map λk=>.int .i64 ((x k).nb:Nat))
 l:w.ownsRow N 48 1 lv jl ((List.range jl).map λ_=>aY)
 st:∀k,k<jx->Ho N Bq 0 (x k) [] w
 ap:jx=2->∀b,(x 0).own b->¬(x 1).own b
section
variable {N W js jn jl jx Bq:Nat}{x:Nat->Sx}{sv nv lv:Value}{v w w1 w2:World}{S:Nat->Prop}
theorem PW.kp0(h:PW N W js jn jl jx Bq x sv nv lv w)(hK:Kp w (λ_=>False) w1):PW N W js jn jl jx Bq x sv nv lv w1:=⟨h.new,hK.cells _ _ _ _ (λh=>h) h.row,cZ h.s hK λ_ _ h=>h.elim,cZ h.n hK λ_ _ h=>h.elim,cZ h.l hK λ_ _ h=>h.elim,λk hk=>(h.st k hk).kp0 hK,h.ap⟩
theorem _root_.Go.World.ownsRow.kpW{w1 w2:World}{N W n:Nat}{t:TypeId}{v':Value}{xs:List Value}{o:Obj}(h:w1.ownsRow N t 1 v' n xs)(hW:Wr w1 W o w2)(dy:∀b,v'.ownBlock=some b->b≠W):w2.ownsRow N t 1 v' n xs:=
 ⟨h.1,h.2.imp id λ⟨b,cap,cur,q1,q2,q3,q4⟩=>⟨b,cap,cur,q1,q2,by rw[hW.other b (dy b (by rw[q1];rfl))];exact q3,q4⟩⟩
theorem PW.setS{v':Value}(h:PW N W js jn jl jx Bq x sv nv lv w)(hg:Gr w w1 sv.ownBlock)(ho:w1.ownsRow N 36 1 v' (js+1) ((List.range (js+1)).map λk=>.pointer (some ⟨(x k).X,0,none⟩)))(dy:∀b,v'.ownBlock=some b->b≠W)(hW:Wr w1 W (.cells #[v',nv,lv,aY,aY,aY,aY] 34) w2):PW N W (js+1) jn jl jx Bq x v' nv lv w2∧Fr N w w2:=by
 have hK:Kp w (λb=>sv.ownBlock=some b∨b=W) w2:=(iJ hg).or (fO hW);have fe:∀b C t,(sv.ownBlock=some b∨b=W)->w.heap[b]?=some (.cells C t)->t≠36->t≠34->False:=λb C t hb hc h1 h2=>by
  rcases hb with q|rfl
  .obtain⟨C',ek⟩:=dL h.s q;rw[hc]at ek;cases ek;exact h1 rfl
  .rw[h.row]at hc;cases hc;exact h2 rfl
 have CN:∀b,(sv.ownBlock=some b∨b=W)->N<=b∧∃C t,w.heap[b]?=some (.cells C t)∧(t=36∨t=34):=λb hb=>by
  rcases hb with q|rfl
  .obtain⟨C',ek⟩:=dL h.s q;exact⟨jB h.s q,_,_,ek,.inl rfl⟩
  .exact⟨h.new,_,_,h.row,.inr rfl⟩
 refine⟨⟨h.new,hW.at_,ho.kpW hW dy,cZ h.n hK λb C hb hc=>fe b C _ hb hc (by decide) (by decide),cZ h.l hK λb C hb hc=>fe b C _ hb hc (by decide) (by decide),λk hk=>(h.st k hk).kpG hK (λb hb hY=>?_) λb C fr hc hY=>?_,h.ap⟩,.of (Y:=λb=>sv.ownBlock=some b∨b=W) (λb hb=>?_) hK⟩
 .obtain⟨_,C,t,hc,ht⟩:=CN b hY;rcases StE.ty (h.st k hk).st b C t hb hc with rfl|rfl|rfl<;>revert ht<;>decide
 .obtain⟨_,C',t,ek,ht⟩:=CN b hY;rw[hc]at ek;cases ek;revert ht;decide
 .obtain⟨h1,C',t,ek,ht⟩:=CN b hb;refine⟨h1,λC t' fr hc=>?_⟩;rw[ek]at hc;cases hc;rcases ht with rfl|rfl<;>decide
theorem PW.setN{v':Value}(h:PW N W js jn jl jx Bq x sv nv lv w)(hg:Gr w w1 nv.ownBlock)(ho:w1.ownsRow N 3 1 v' (jn+1) ((List.range (jn+1)).map λk=>.int .i64 ((x k).nb:Nat)))(dy:∀b,v'.ownBlock=some b->b≠W)(hW:Wr w1 W (.cells #[sv,v',lv,aY,aY,aY,aY] 34) w2):PW N W js (jn+1) jl jx Bq x sv v' lv w2∧Fr N w w2:=by
 have hK:Kp w (λb=>nv.ownBlock=some b∨b=W) w2:=(iJ hg).or (fO hW);have fe:∀b C t,(nv.ownBlock=some b∨b=W)->w.heap[b]?=some (.cells C t)->t≠3->t≠34->False:=λb C t hb hc h1 h2=>by
  rcases hb with q|rfl
  .obtain⟨C',ek⟩:=dL h.n q;rw[hc]at ek;cases ek;exact h1 rfl
  .rw[h.row]at hc;cases hc;exact h2 rfl
 have CN:∀b,(nv.ownBlock=some b∨b=W)->N<=b∧∃C t,w.heap[b]?=some (.cells C t)∧(t=3∨t=34):=λb hb=>by
  rcases hb with q|rfl
  .obtain⟨C',ek⟩:=dL h.n q;exact⟨jB h.n q,_,_,ek,.inl rfl⟩
  .exact⟨h.new,_,_,h.row,.inr rfl⟩
 refine⟨⟨h.new,hW.at_,cZ h.s hK λb C hb hc=>fe b C _ hb hc (by decide) (by decide),ho.kpW hW dy,cZ h.l hK λb C hb hc=>fe b C _ hb hc (by decide) (by decide),λk hk=>(h.st k hk).kpG hK (λb hb hY=>?_) λb C fr hc hY=>?_,h.ap⟩,.of (Y:=λb=>nv.ownBlock=some b∨b=W) (λb hb=>?_) hK⟩
 .obtain⟨_,C,t,hc,ht⟩:=CN b hY;rcases StE.ty (h.st k hk).st b C t hb hc with rfl|rfl|rfl<;>revert ht<;>decide
 .obtain⟨_,C',t,ek,ht⟩:=CN b hY;rw[hc]at ek;cases ek;revert ht;decide
 .obtain⟨h1,C',t,ek,ht⟩:=CN b hb;refine⟨h1,λC t' fr hc=>?_⟩;rw[ek]at hc;cases hc;rcases ht with rfl|rfl<;>decide
theorem PW.setL{v':Value}(h:PW N W js jn jl jx Bq x sv nv lv w)(hg:Gr w w1 lv.ownBlock)(ho:w1.ownsRow N 48 1 v' (jl+1) ((List.range (jl+1)).map λk=>aY))(dy:∀b,v'.ownBlock=some b->b≠W)(hW:Wr w1 W (.cells #[sv,nv,v',aY,aY,aY,aY] 34) w2):PW N W js jn (jl+1) jx Bq x sv nv v' w2∧Fr N w w2:=by
 have hK:Kp w (λb=>lv.ownBlock=some b∨b=W) w2:=(iJ hg).or (fO hW);have fe:∀b C t,(lv.ownBlock=some b∨b=W)->w.heap[b]?=some (.cells C t)->t≠48->t≠34->False:=λb C t hb hc h1 h2=>by
  rcases hb with q|rfl
  .obtain⟨C',ek⟩:=dL h.l q;rw[hc]at ek;cases ek;exact h1 rfl
  .rw[h.row]at hc;cases hc;exact h2 rfl
 have CN:∀b,(lv.ownBlock=some b∨b=W)->N<=b∧∃C t,w.heap[b]?=some (.cells C t)∧(t=48∨t=34):=λb hb=>by
  rcases hb with q|rfl
  .obtain⟨C',ek⟩:=dL h.l q;exact⟨jB h.l q,_,_,ek,.inl rfl⟩
  .exact⟨h.new,_,_,h.row,.inr rfl⟩
 refine⟨⟨h.new,hW.at_,cZ h.s hK λb C hb hc=>fe b C _ hb hc (by decide) (by decide),cZ h.n hK λb C hb hc=>fe b C _ hb hc (by decide) (by decide),ho.kpW hW dy,λk hk=>(h.st k hk).kpG hK (λb hb hY=>?_) λb C fr hc hY=>?_,h.ap⟩,.of (Y:=λb=>lv.ownBlock=some b∨b=W) (λb hb=>?_) hK⟩
 .obtain⟨_,C,t,hc,ht⟩:=CN b hY;rcases StE.ty (h.st k hk).st b C t hb hc with rfl|rfl|rfl<;>revert ht<;>decide
 .obtain⟨_,C',t,ek,ht⟩:=CN b hY;rw[hc]at ek;cases ek;revert ht;decide
 .obtain⟨h1,C',t,ek,ht⟩:=CN b hb;refine⟨h1,λC t' fr hc=>?_⟩;rw[ek]at hc;cases hc;rcases ht with rfl|rfl<;>decide
theorem PW.wd(h:PW N W 2 2 2 2 Bq x sv nv lv w):Wd N W Bq 0 0 x (λ_=>[]) ⟨sv,nv,lv,aY,aY,aY,λ_=>aY,0,0,0⟩ w:=
 ⟨⟨h.new,h.row,h.s,h.n,h.l,λk hk=>⟨[],rfl,World.ownsRow_nil _ _ _ _,λq hq=>(by cases hq)⟩,.nil,.nil,.nil⟩,h.st,h.ap rfl,by simp⟩
end
theorem U1:∃i z,Tryz.prog.info? 36=some i∧i.zero=some z∧i.size=1∧i.bytes=8∧z.cells=#[z]:=⟨_,_,rfl,rfl,rfl,rfl,rfl⟩
theorem T_:∃i z,Tryz.prog.info? 3=some i∧i.zero=some z∧i.size=1∧i.bytes=8∧z.cells=#[z]:=⟨_,_,rfl,rfl,rfl,rfl,rfl⟩
theorem U0:∃i z,Tryz.prog.info? 48=some i∧i.zero=some z∧i.size=1∧i.bytes=24∧z.cells=#[z]:=⟨_,_,rfl,rfl,rfl,rfl,rfl⟩
theorem xX{N n:Nat}{t e:TypeId}{i:TypeInfo}{z y sv:Value}{xs:List Value}{bytes:Nat}{w w1:World}{o:Oper}{a:Act}{so xo:Operand}{u:World}{B:Nat}(h1:Tryz.prog.underlying t=some (.slice e))(h2:Tryz.prog.info? e=some i)(h3:i.zero=some z)(h4:i.size=1)(h5:i.bytes=bytes)(h6:z.cells=#[z])(hb:bytes<=24)(h:w.ownsRow N e 1 sv n xs)(hE:Ext w w1)(hr:w1.heap[B]?=some (.cells #[y] e))(hy:y.oneCell'=true)(hn:n<=2)(hN:N<=w.heap.size)(hu:Vw.Twin w1 u)(dm:o.op=Op.call {callee:=Callee.builtin Builtin.append,args:=#[so,xo],argTypes:=#[t,t]})(hs:a.eval so=sv)(hx:a.eval xo=.slice (some ⟨B,0,none⟩) 1 1):∃y' w',((execOp a.eval o).run Tryz.prog u=.ok (.value y') w'∨((execOp a.eval o).run Tryz.prog u=.ok .skip w'∧y'=undef))∧(w'.ownsRow N e 1 y' (n+1) (xs++[y])∧Gr w w' sv.ownBlock∧(∀g,y'.ownBlock=some g->sv.ownBlock=some g∨w.heap.size<=g)∧y'.cells=#[y']∧y'.oneCell'=true):=by have gw:Gr w w1 none:=⟨hE.os,hE.output,hE.size,λb hb _=>hE.block b hb⟩;obtain⟨y',w',q1,q2,q3,q4⟩:=pG (ad:=⟨B,0,none⟩) (m:=1) (c:=1) (news:=[y]) hu N h1 h2 h3 h4 h5 (by rw[h6];rfl) (mN h gw (by simp)) rfl (by omega) (pR hr) (λz hz=>by rw[List.mem_singleton]at hz;rw[hz];exact hy) (by unfold maxLen;omega) (by have:(n+1)*bytes<=3*24:=Nat.mul_le_mul (by omega) hb;omega) (ak hN hE.size) dm hs hx;exact⟨y',w',q1,q2,Iq hE q3,λg hg=>(q4 g hg).imp id λhq=>ak hE.size hq,(kZ q2).1,(kZ q2).2⟩
theorem Yu(m i:Nat):cJ (zs m) i=0:=by unfold cJ zs;rw[<-bd,strOfNums_data,List.map_replicate,List.getElem?_replicate];split<;>rfl
theorem Gg(m:Nat):(zs m).size=m:=by
 have h:(zs m).data.toList.length=m:=by unfold zs;rw[strOfNums_data];simp
 rw[Array.length_toList]at h;exact h
theorem Di{lf:Nat->Lb}{Gf:Nat->Nat->Bool}(h:∀p k,Gf p k=false):∀{q:Nat}{L:List Ent}{t:Nat},kA lf Gf q L t->L=[]∧t=0
 |0,L,t,hs=>hs
 |q+1,L',t',⟨L,t,h1,h2⟩=>by
  obtain⟨rfl,rfl⟩:=Di h h1;unfold Sv at h2;rw[ah]at h2
  .exact⟨h2.2,h2.1⟩
  .have:Gf q=λ_=>false:=funext λk=>h q k
   rw[this];simp[iA]
section
variable {N W Bq:Nat}{v w w0:World}{S:Nat->Prop}
theorem Ev(z:Int):-9223372036854775808<=IntKind.i64.wrap z∧IntKind.i64.wrap z<=9223372036854775807:=by simp[IntKind.wrap,IntKind.bits,IntKind.signed];omega
theorem Ho.blank{X D DB DA M nd nb turn:Nat}{RB RA:Nat->Nat}{L:List Ent}(b4:4<=nb)(b23:nb<=23)(n14:14<=nd)(n18:nd<=18)(FN:kA (λ_=>⟨0,0,0,λ_=>0⟩) (λ_ _=>false) nb L turn)(hX:StE X D DB DA M RB RA nd nb turn (eY (dA (λ_=>zs (nb*96)) 1099511627776) (fG L) nb) L w)(gm:∀b,dG X D M RB RA nd b->N<=b)(hB:Bq+28*23<=1099511627776):Ho N Bq 0 ⟨X,D,DB,DA,M,nd,nb,turn,RB,RA,eY (dA (λ_=>zs (nb*96)) 1099511627776) (fG L) nb,L⟩ [] w:=by obtain⟨rfl,rfl⟩:=Di (λ_ _=>rfl) FN;exact⟨hX,gm,⟨λe he=>(by cases he),λq hq _ k hk j hj=>sX rfl hk hj nb hq⟩,λe he=>(by cases he),by simp,bA.sweep nb ⟨rfl,by show _<=1099511627776;omega⟩,ae _,⟨List.Pairwise.nil,λx=>by simp⟩,b4,b23,n14,n18⟩
theorem R2{f:Nat->Value}{Stop:Goroutine->(Nat->Prop)->World->Prop}{cs:List Frame}{k0:List Item}{t:TypeId}{e:Value}{x0:Nat->Sx}(nn bb:Int)(jb:-9223372036854775808<=nn)(LU:nn<=9223372036854775807)(fg:-9223372036854775808<=bb)(ko:bb<=9223372036854775807)(hB:Bq+28*23<=1099511627776)(tz:Gl N t e w0)(hP:PW N W 0 0 0 0 Bq x0 aY aY aY w0)
  (f0:f 0=.int .i64 nn) (f1:f 1=.int .i64 bb) (f7:f 7=.pointer (some ⟨W,0,none⟩)) (f8:f 8=.int .i64 0)
  (next:∀f' S' w' x sv nv lv,PW N W 2 2 2 2 Bq x sv nv lv w'->Fr N w0 w'->f' 2=f 2->f' 7=.pointer (some ⟨W,0,none⟩)->Vw.Reach Tryz.prog Stop (G ((base 3).at ⟨TA 155 f',[]⟩ k0) cs) S' w') :
  Vw.Reach Tryz.prog Stop (G ((base 3).at ⟨TA 155 f,[]⟩ (.code (gU 0 (Tryz.f3.body.getD .skip))::.inBlock 0::k0)) cs) S w0:=by
 have e0:gU 0 (Tryz.f3.body.getD .skip)=.loop _:=rfl;rw[e0];clear e0;obtain⟨ip,zp,B9,B8,B7,V6,B6⟩:=U1;obtain⟨ii,zi,C9,C8,C7,V8,C6⟩:=T_;obtain⟨il,zl,C5,C4,C0,V7,B_⟩:=U0;refine bF (λd f' S' w=>∃j x sv nv lv,d=2-j∧j<=2∧PW N W j j j j Bq x sv nv lv w∧Fr N w0 w∧f' 0=.int .i64 nn∧f' 1=.int .i64 bb∧f' 2=f 2∧f' 7=.pointer (some ⟨W,0,none⟩)∧f' 8=.int .i64 (j:Nat)) 2 ⟨0,x0,aY,aY,aY,by omega,by omega,hP,.refl _ _,f0,f1,rfl,f7,f8⟩ ?_;generalize f 2=scr at next⊢
 clear f0 f1 f7 f8 hP f x0;rintro d f S' w ⟨j,x,sv,nv,lv,rfl,hj,hP,pw,g0,g1,g2,g7,g8⟩ dj;repeat refine rN ?_
 by_cases dp:j<2
 .have ja:(j:Int)<2:=by omega
  refine rX (by simp[Act.eval,ja,dp]) ?_;repeat refine rN ?_
  obtain⟨A6,A5⟩:=Ev (bb+5*(j:Int));refine rK Tryz.func6 (yO (IntKind.i64.wrap (bb+5*(j:Int))) 20 (by omega) (by omega) A6 A5) ?_;rintro _ S1 w1 _ ⟨rfl,e1,e2⟩;subst S1 w1;have e_:=xV (IntKind.i64.wrap (bb+5*(j:Int))) (n:=20) (by omega);generalize nF (IntKind.i64.wrap (bb+5*(j:Int))) 20=pb at *
  obtain⟨nb,eu⟩:∃nb,4+pb=nb:=⟨_,rfl⟩;have LS:(4:Int)+(pb:Int)=(nb:Int):=by omega
  obtain⟨A3,A1⟩:=Ev (nn+(j:Int));have Z5:=xV (IntKind.i64.wrap (nn+(j:Int))) (n:=5) (by omega);repeat refine rN ?_
  refine rK Tryz.func6 (yO (IntKind.i64.wrap (nn+(j:Int))) 5 (by omega) (by omega) A3 A1) ?_;rintro _ S1 w1 _ ⟨rfl,e1,e2⟩;subst S1 w1;generalize nF (IntKind.i64.wrap (nn+(j:Int))) 5=pn at *
  obtain⟨nd,gh⟩:∃nd,14+pn=nd:=⟨_,rfl⟩;have hndI:(14:Int)+(pn:Int)=(nd:Int):=by omega
  have b4:4<=nb:=by omega
  have b23:nb<=23:=by omega
  have n14:14<=nd:=by omega
  have n18:nd<=18:=by omega
  clear eu gh e_ Z5 A6 A5 A3 A1;have ni:=tz.fr pw;repeat refine rN ?_
  refine rK Tryz.func8 (Wa nd nb n14 n18 b4 b23) ?_;rintro _ S1 w1 _ ⟨e1,eh,gb,cb,rfl,hz⟩;subst S1;have J2:jF w1 gb nd λ_=>zs (nb*96):=hz
  have J_:TextsOk nd nb λ_=>zs (nb*96):=⟨λj _=>.inr (Gg _),0,by omega,Gg _⟩
  have J3:∀q,q<nb->SlotK (dA (λ_=>zs (nb*96)) 1099511627776).c q ⟨0,0,0,λ_=>0⟩ λ_=>false:=λq _=>⟨λk hk h=>(by cases h),λk hk h=>(by cases h),λk hk _=>xM λi hi=>Yu _ _⟩
  repeat refine rN ?_
  refine rK Tryz.func7 (Fj t e (eh.cell ni.cell) (ak ni.glob eh.size) gb cb 1099511627776 (λ_=>zs (nb*96)) (λ_=>⟨0,0,0,λ_=>0⟩) (λ_ _=>false) (ae _) b4 n14 n18 (by omega) J_ J2 J3) ?_
  rintro _ S1 w2 _ ⟨iu,X,D,DB,DA,M,RB,RA,L,turn,rfl,FN,hX,gm⟩;have VW:=Ho.blank (N:=N) (Bq:=Bq) b4 b23 n14 n18 FN hX (λb hb=>ak (ak ni.size eh.size) (gm b hb)) hB;have rj:∀b,dG X D M RB RA nd b->w.heap.size<=b:=λb hb=>ak eh.size (gm b hb)
  generalize eY (dA (λ_=>zs (nb*96)) 1099511627776) (fG L) nb=s0 at VW;obtain⟨y,hy⟩:∃y:Sx,(⟨X,D,DB,DA,M,nd,nb,turn,RB,RA,s0,L⟩:Sx)=y:=⟨_,rfl⟩;have W9:y.X=X:=by rw[<-hy]
  have W7:y.nb=nb:=by rw[<-hy]
  have D7:∀b,y.own b->w.heap.size<=b:=λb hb=>by rw[<-hy]at hb;exact rj b hb
  rw[hy]at VW;clear FN hX gm rj hy J2 J_ J3 hz;have NB:Kp w (λ_=>False) w2:=(aS eh).trans iu;have FQ:=hP.kp0 NB;have EK:PW N W j j j (j+1) Bq (cR x j y) sv nv lv w2:=by
   have e:∀i,i<j->cR x j y i=x i:=λi hi=>by unfold cR;rw[ah (by omega)]
   refine⟨FQ.new,FQ.row,?_,?_,FQ.l,λi hi=>?_,λh2 b=>?_⟩
   .rw[List.map_congr_left λi hi=>by rw[e i (List.mem_range.1 hi)]]
    exact FQ.s
   .rw[List.map_congr_left λi hi=>by rw[e i (List.mem_range.1 hi)]]
    exact FQ.n
   .by_cases e':i=j
    .unfold cR;rw[ai e'];exact VW
    .rw[e i (by omega)];exact FQ.st i (by omega)
   .obtain rfl:j=1:=by omega
    rw[e 0 (by omega)];have e1:cR x 1 y 1=y:=by unfold cR;rw[ai rfl]
    rw[e1];intro q1 q2;have:=(hP.st 0 (by omega)).lt b q1;have:=D7 b q2;omega
  have UW:cR x j y j=y:=by unfold cR;rw[ai rfl]
  generalize cR x j y=x' at EK UW;have HY:Fr N w0 w2:=pw.trans (.kp0 NB);have ZS:=tz.fr HY;clear hP FQ VW D7 NB iu eh ni;repeat refine rN ?_
  refine rZ (by simp[Act.eval]) ?_;have c0:w2.cell? ⟨W,0,none⟩=some sv:=(ab _ _ _ _ _ _ EK.row).trans rfl;repeat refine rM c0 ?_
  refine aN (Q:=λy w'=>y=.slice (some ⟨w2.heap.size,0,none⟩) 1 1∧Ext w2 w'∧w'.heap[w2.heap.size]?=some (.cells #[.pointer (some ⟨X,0,none⟩)] 36)) aB rfl rfl (by kernel_rfl) (λu hu=>⟨_,_,.inl (jA (x:=.tmp 53) (y:=.pointer (some ⟨X,0,none⟩)) rfl Tryz.underlying24 B9 B8 B7 B6 (by simp) rfl u),by rw[hu.heap],(Ext.twin hu).trans _ _ _ (Ext.alloc _ _),by rw[<-hu.heap];exact bI _ _⟩) ?_
  rintro _ w3 ⟨rfl,ef,AU⟩;simp only[stO_some];refine aN aB rfl rfl (by kernel_rfl) (λu hu=>xX (so:=.tmp 52) (xo:=.tmp 54) Tryz.underlying24 B9 B8 B7 V6 B6 (by omega) EK.s ef AU rfl (by omega) ZS.size hu rfl (by simp) (by simp)) ?_;rintro IL w4 ⟨AV,AY,TE,hc4,h14⟩;simp only[stO_some];have pr:W<w2.heap.size:=(Array.getElem?_eq_some_iff.1 EK.row).1;have JA:w4.heap[W]?=some (.cells #[sv,nv,lv,aY,aY,aY,aY] 34):=AY.row EK.row λq=>by obtain⟨C',ek⟩:=dL EK.s q.symm;rw[EK.row]at ek;cases ek
  repeat refine rN ?_
  refine dQ aB rfl rfl (by kernel_rfl) (x:=.tmp 57) (y:=.tmp 55) (g:=W) (j:=0) (z:=IL) rfl (by simp) (by simp) hc4 h14 JA (by simp) (by kernel_rfl) λw5 jc=>?_
  simp only[stO_none]
  obtain⟨FO,rq⟩:=EK.setS (v':=IL) AY (by
   rw[List.range_succ,List.map_append];have:((List.map (λk=>Value.pointer (some ⟨(x' k).X,0,none⟩)) [j]):List Value)=[.pointer (some ⟨X,0,none⟩)]:=by simp[UW,W9]
   rw[this];exact AV) (λb hb e=>by
   rcases TE b hb with q|q
   .obtain⟨C',ek⟩:=dL EK.s q;rw[e,EK.row]at ek;cases ek
   .omega) jc
  clear EK jc JA TE AV AY AU ef c0 pr;have wm:=HY.trans rq;have MJ:=tz.fr wm;have c1:w5.cell? ⟨W,1,none⟩=some nv:=(ab _ _ _ _ _ _ FO.row).trans rfl;repeat refine rM c1 ?_
  refine aN (Q:=λy w'=>y=.slice (some ⟨w5.heap.size,0,none⟩) 1 1∧Ext w5 w'∧w'.heap[w5.heap.size]?=some (.cells #[.int .i64 (nb:Nat)] 3)) aB rfl rfl (by kernel_rfl) (λu hu=>⟨_,_,.inl (jA (x:=.tmp 63) (y:=.int .i64 (nb:Nat)) rfl Tryz.underlying25 C9 C8 C7 C6 (by simp) rfl u),by rw[hu.heap],(Ext.twin hu).trans _ _ _ (Ext.alloc _ _),by rw[<-hu.heap];exact bI _ _⟩) ?_
  rintro _ w6 ⟨rfl,ew,mr⟩;simp only[stO_some];refine aN aB rfl rfl (by kernel_rfl) (λu hu=>xX (so:=.tmp 62) (xo:=.tmp 64) Tryz.underlying25 C9 C8 C7 V8 C6 (by omega) FO.n ew mr rfl (by omega) MJ.size hu rfl (by simp) (by simp)) ?_;rintro UT w7 ⟨F7,SK,TD,hc7,h17⟩;simp only[stO_some];have pr:W<w5.heap.size:=(Array.getElem?_eq_some_iff.1 FO.row).1;have IZ:w7.heap[W]?=some (.cells #[IL,nv,lv,aY,aY,aY,aY] 34):=SK.row FO.row λq=>by obtain⟨C',ek⟩:=dL FO.n q.symm;rw[FO.row]at ek;cases ek
  repeat refine rN ?_
  refine dQ aB rfl rfl (by kernel_rfl) (x:=.tmp 67) (y:=.tmp 65) (g:=W) (j:=1) (z:=UT) rfl (by simp) (by simp) hc7 h17 IZ (by simp) (by kernel_rfl) λw8 EG=>?_
  simp only[stO_none]
  obtain⟨HU,hF8⟩:=FO.setN (v':=UT) SK (by
   rw[List.range_succ,List.map_append];have:((List.map (λk=>Value.int .i64 ((x' k).nb:Nat)) [j]):List Value)=[.int .i64 (nb:Nat)]:=by simp[UW,W7]
   rw[this];exact F7) (λb hb e=>by
   rcases TD b hb with q|q
   .obtain⟨C',ek⟩:=dL FO.n q;rw[e,FO.row]at ek;cases ek
   .omega) EG
  clear FO EG IZ TD F7 SK mr ew c1 pr;have TZ:=wm.trans hF8;have ZR:=tz.fr TZ;have c2:w8.cell? ⟨W,2,none⟩=some lv:=(ab _ _ _ _ _ _ HU.row).trans rfl;repeat refine rM c2 ?_
  refine aN (Q:=λy w'=>y=.slice (some ⟨w8.heap.size,0,none⟩) 1 1∧Ext w8 w'∧w'.heap[w8.heap.size]?=some (.cells #[aY] 48)) aB rfl rfl (by kernel_rfl) (λu hu=>⟨_,_,.inl (jA (x:=.const (.slice none 0 0)) (y:=aY) rfl Tryz.underlying26 C5 C4 C0 B_ rfl rfl u),by rw[hu.heap],(Ext.twin hu).trans _ _ _ (Ext.alloc _ _),by rw[<-hu.heap];exact bI _ _⟩) ?_
  rintro _ w9 ⟨rfl,EN,Y9⟩;simp only[stO_some];refine aN aB rfl rfl (by kernel_rfl) (λu hu=>xX (so:=.tmp 72) (xo:=.tmp 73) Tryz.underlying26 C5 C4 C0 V7 B_ (by omega) HU.l EN Y9 rfl (by omega) ZR.size hu rfl (by simp) (by simp)) ?_;rintro WQ A7 ⟨YP,SL,TF,uq,s_⟩;simp only[stO_some];have pr:W<w8.heap.size:=(Array.getElem?_eq_some_iff.1 HU.row).1;have LH:A7.heap[W]?=some (.cells #[IL,UT,lv,aY,aY,aY,aY] 34):=SL.row HU.row λq=>by obtain⟨C',ek⟩:=dL HU.l q.symm;rw[HU.row]at ek;cases ek
  repeat refine rN ?_
  refine dQ aB rfl rfl (by kernel_rfl) (x:=.tmp 76) (y:=.tmp 74) (g:=W) (j:=2) (z:=WQ) rfl (by simp) (by simp) uq s_ LH (by simp) (by kernel_rfl) λw11 i_=>?_
  simp only[stO_none]
  obtain⟨l3,o6⟩:=HU.setL (v':=WQ) SL (by
   rw[List.range_succ,List.map_append];exact YP) (λb hb e=>by
   rcases TF b hb with q|q
   .obtain⟨C',ek⟩:=dL HU.l q;rw[e,HU.row]at ek;cases ek
   .omega) i_
  repeat refine rN ?_
  refine dj _ _ _ (2-(j+1)) (by omega) ⟨j+1,x',IL,UT,WQ,rfl,by omega,l3,TZ.trans o6,by simp[g0],by simp[g1],by simp[g2],by simp[g7],by simp⟩
 .obtain rfl:j=2:=by omega
  refine rZ (by simp[Act.eval,g8]) ?_;refine bC rfl ?_;exact next _ _ _ x sv nv lv hP pw (by simp[g2]) (by simp[g7])
end
