import Derived.Test.YtpiefebngnlfoaaGreatDoorNj
set_option maxRecDepth 99999
set_option maxHeartbeats 0
set_option linter.unusedVariables false
set_option linter.unusedSimpArgs false
namespace Go.Proofs.YtpiefebngnlfoaaGreatDoor
open Go.RowKit Go.Conc Go.Vw
section
variable {N W n m q k:Nat}{x:Nat->Sx}{T:Nat->List It}{g:Wv}{v w w':World}{S:Nat->Prop}
theorem iN.kpT{te:TypeId}{es:Nat}{z e:Value}{Y:Nat->Prop}(h:iN te es z w e)(hK:Kp w Y w')(hY:∀b C,Y b->w.heap[b]?=some (.cells C te)->C[0]?≠some z):iN te es z w' e:=by
 obtain⟨p,len,cap,h1,h2,h3,h4⟩:=h;refine⟨p,len,cap,h1,h2,h3,?_⟩;by_cases h0:len=0
 .exact .inl h0
 .rcases h4 with h4|⟨B,C,q1,q2,q3⟩
  .exact absurd h4 h0
  .refine .inr ⟨B,C,q1,hK.cells _ _ _ _ (λhy=>?_) q2,q3⟩;have:=q3 0 (by omega);rw[Nat.zero_mul]at this;exact hY B C hy q2 this
theorem aH.kpT{wy ts te:TypeId}{es:Nat}{zf:Nat->Value}{sv:Value}{Y:Nat->Prop}(h:aH N wy ts te es zf n sv w)(hK:Kp w Y w')(h1:∀b C,Y b->w.heap[b]?≠some (.cells C wy))(h2:∀b C,Y b->w.heap[b]?≠some (.cells C ts))(h3:∀i b C,Y b->w.heap[b]?=some (.cells C te)->C[0]?≠some (zf i)):aH N wy ts te es zf n sv w':=by obtain⟨xs,q1,q2⟩:=h;refine⟨xs,cZ q1 hK h1,λi hi=>?_⟩;obtain⟨y,r1,E,e0,e1,e2,e3,r2,r3,m0,m1,m2,m3⟩:=q2 i hi;exact⟨y,r1,E,e0,e1,e2,e3,r2,hK.cells _ _ _ _ (λhy=>h2 E _ hy r3) r3,m0.kpT hK (h3 i),m1.kpT hK (h3 i),m2.kpT hK (h3 i),m3.kpT hK (h3 i)⟩
theorem Wm.texts{gc:Nat}{C:Array Value}{s:ByteArray}(h:Wm N W x T g w)(hc:w.heap[gc]?=some (.cells C 9))(h0:C[0]?=some (.string s))(hs:s.size≠1)(hK:Kp w (λb=>b=gc) w')(hk:∀k,k<2->eI N N w' (g.kv k) (T k)):Wm N W x T g w':=by
 have fe:∀b C' t,b=gc->w.heap[b]?=some (.cells C' t)->t=9∧C'=C:=λb C' t e hq=>by subst e;rw[hc]at hq;cases hq;exact⟨rfl,rfl⟩
 have pk:∀t b C',t≠9->b=gc->w.heap[b]?≠some (.cells C' t):=λt b C' ht e hq=>ht (fe b C' t e hq).1;refine⟨h.new,hK.cells _ _ _ _ (λe=>pk _ W _ (by decide) e h.row) h.row,cZ h.s hK λb C' e=>pk _ b C' (by decide) e,cZ h.n hK λb C' e=>pk _ b C' (by decide) e,cZ h.l hK λb C' e=>pk _ b C' (by decide) e,hk,h.b.kpT hK (λb C' e=>pk _ b C' (by decide) e) (λb C' e=>pk _ b C' (by decide) e) λi b C' e hq=>absurd hq (pk _ b C' (by decide) e),h.h.kpT hK (λb C' e=>pk _ b C' (by decide) e) (λb C' e=>pk _ b C' (by decide) e) λi b C' e hq=>absurd hq (pk _ b C' (by decide) e),h.t.kpT hK (λb C' e=>pk _ b C' (by decide) e) (λb C' e=>pk _ b C' (by decide) e) λi b C' e hq hz=>?_⟩;obtain⟨_,rfl⟩:=fe b C' _ e hq;rw[h0]at hz;have:=bm hz;unfold zT at this;cases this;exact hs rfl
theorem Wm.setS{y:Sx}{bs c:Nat}{cur:Array Value}(h:Wm N W x T g w)(hk:k<2)(el:g.sv=.slice (some ⟨bs,0,none⟩) 2 c)(hc:w.heap[bs]?=some (.cells cur 36))(hb:y.nb=(x k).nb)(hW:Wr w bs (.cells (cur.setIfInBounds k (.pointer (some ⟨y.X,0,none⟩))) 36) w'):Wm N W (cR x k y) T g w'∧Kp w (YW W g) w':=by
 have hK:=fO hW;have hY:∀b,b=bs->YW W g b:=λb e=>.inr (.inl (by rw[el,e];rfl));have fy:dC N w λb=>b=bs:=λb hb=>h.offY b (hY b hb);have fe:∀b C t,b=bs->w.heap[b]?=some (.cells C t)->t=36:=λb C t e hq=>by subst e;rw[hc]at hq;cases hq;rfl
 have e1:∀i,(cR x k y i).nb=(x i).nb:=λi=>by
  unfold cR;by_cases e:i=k
  .rw[ai e,e];exact hb
  .rw[ah e]
 refine⟨⟨h.new,hK.cells _ _ _ _ (λe=>absurd (fe W _ _ e h.row) (by decide)) h.row,?_,?_,cZ h.l hK λb C hy hq=>absurd (fe b C _ hy hq) (by decide),λi hi=>(h.k i hi).kp fy hK,h.b.kp rfl rfl fy hK λb C hy hq=>absurd (fe b C _ hy hq) (by decide),h.h.kp rfl rfl fy hK λb C hy hq=>absurd (fe b C _ hy hq) (by decide),h.t.kp rfl rfl fy hK λb C hy hq=>absurd (fe b C _ hy hq) (by decide)⟩,hK.mono hY⟩
 .refine⟨rfl,.inr ?_⟩;rcases h.s.2 with⟨e,_⟩|⟨b,c',y_,q1,q2,q3,q4,q5,q6,q7⟩
  .rw[el]at e;cases e
  .rw[el]at q1;cases q1;rw[hc]at q3;cases q3;refine⟨bs,c,_,el,q2,hW.at_,q4,q5,by simpa using q6,?_⟩;have h2:2<=cur.toList.length:=by simp;omega
   rw[Array.toList_setIfInBounds];generalize cur.toList=l at q7 h2⊢;match l,h2,q7 with
   |a::b::l,_,q7=>simp[two]at q7;obtain⟨rfl,rfl⟩:=q7;rcases kR hk with rfl|rfl<;>simp[two,cR]
 .have:=cZ h.n hK λb C hy hq=>absurd (fe b C _ hy hq) (by decide);simp only[two]at this⊢;rw[e1 0,e1 1];exact this
theorem Ho.lt{y:Sx}{U:List It}(h:Ho N n m y U w):∀b,y.own b->b<w.heap.size:=by
 rintro b (rfl|rfl|rfl|⟨d,hd,rfl|rfl⟩)
 .exact(Array.getElem?_eq_some_iff.1 h.st.row).1
 .obtain⟨cl,hm,_⟩:=h.st.map;exact(Array.getElem?_eq_some_iff.1 hm).1
 .exact(Array.getElem?_eq_some_iff.1 h.st.dk.row).1
 .exact(Array.getElem?_eq_some_iff.1 (h.st.dk.rb d hd)).1
 .exact(Array.getElem?_eq_some_iff.1 (h.st.dk.ra d hd)).1
structure Gl(N:Nat)(t:TypeId)(e:Value)(w:World):Prop where
 pos:0<N
 cell:w.cell? ⟨0,0,none⟩=some (.iface t e)
 glob:Tryz.prog.globals.size<=w.heap.size
 size:N<=w.heap.size
theorem Gl.fr{t:TypeId}{e:Value}(h:Gl N t e w)(hF:Fr N w w'):Gl N t e w':=⟨h.pos,Kp.cell hF (λhm=>by have:=hm.1;have:=h.pos;omega) h.cell,ak h.glob hF.size,ak h.size hF.size⟩
theorem Rm{t:TypeId}{e:Value}(tz:Gl N t e v)(h:Wd N W n m q x T g v)(hk:k<2)(hq:q<1099511627776)(hm:m<9223372036854775808)(hn:n+28*23<=1099511627776):aJ Tryz.prog 34 #[.pointer (some ⟨W,0,none⟩),.int .i64 (k:Nat)] S v λy S' v'=>y=.bool true∧∃x' g',Wd N W n m (q+1) x' T g' v'∧Fr N v v':=by
 obtain⟨is,zz,EV,EU,ET,NU,ES⟩:=Gz;refine cX Tryz.func34 rfl Tryz.ntmps34 λStop cc cs ret f g0 g1=>?_;have hH:=h.st k hk;have kl:=hH.b4;have AE:=hH.b23;have LW:=hH.n14;have LV:=hH.n18;have ll:(k:Int)<2:=by omega
 obtain⟨bs,c',curS,es,ns,_,H9,X8,sk⟩:=qM h.mem.s;have sc:v.cell? ⟨W,0,none⟩=some (.slice (some ⟨bs,0,none⟩) 2 c'):=by rw[<-es];exact(ab _ _ _ _ _ _ h.mem.row).trans rfl
 have sk:=sk k hk;repeat refine rM sc ?_
 repeat refine rM sk ?_
 refine rK Tryz.func16 (Vs kl LW LV (by omega) hH.st) ?_;rintro _ S1 w1 _ ⟨e1,eh,gd,rfl,AX,TM,curD,F1,Y1⟩;subst S1;generalize RH:(x k).nd=nd at LW LV TM Y1;repeat refine rN ?_
 refine aN aB rfl rfl (by kernel_rfl) (λu hu=>mB (s:=.tmp 18) (x:=.tmp 19) (ad:=⟨gd,0,none⟩) (m:=nd) (c:=nd) (news:=(List.range nd).map λj=>.string (eD (x k).nb ((x k).s.a j))) (sv:=.slice none 0 0) (n:=0) (xs:=[]) hu w1.heap.size Tryz.underlying40 EV EU ET NU (by rw[ES];rfl) (World.ownsRow_nil _ _ _ _) (by simp) (λj y hy=>by
  rw[Addr.add_lit,an];have hj:j<nd:=by have:=(List.getElem?_eq_some_iff.1 hy).1;simpa using this
  rw[TM j hj];simpa [hj] using hy) (λy hy=>by
  obtain⟨j,_,rfl⟩:=List.mem_map.1 hy
  rfl) (by omega) (by omega) (ae _) rfl (by simp) (by simp[RH])) ?_
 rintro cv w2 ⟨EY,xy,_⟩;have ep:Ext w1 w2:=xy.ext;obtain⟨gc,WK,NQ,q1,q2,q3,q4,q5,q6⟩:=lD EY (.inl (by omega));subst q1;rw[an]at q4 q6⊢;simp only[stO_some];have hgcd:gd<w1.heap.size:=(Array.getElem?_eq_some_iff.1 F1).1;have mi:=eh.trans _ _ _ ep;repeat refine rN ?_
 refine dV Tryz.func62 (Tj N W nd g (some ⟨gd,0,none⟩) h.mem (aS mi) (by omega) (by have:=h.cnt.2.2;omega) (.inr ⟨gd,_,rfl,AX,ep.row F1,by omega⟩)) ?_;rintro _ S2 w3 _ ⟨rfl,e1,A8,FA,KH,l9⟩;subst S2;try simp only[stO_some]
 obtain⟨b5,UC⟩:=h.noted FA KH (by have:=h.cnt;simp;omega);have MK:=tz.fr UC;have QE:∀b,YW W g b->b<v.heap.size:=λb hb=>by obtain⟨_,C,t',hc,_⟩:=h.mem.yw hb;exact(Array.getElem?_eq_some_iff.1 hc).1
 have LK:w3.heap[gc]?=some (.cells NQ 9):=l9.cells _ _ _ _ (λhy=>by
  rcases hy with hy|hy
  .have:=QE gc hy;have:=eh.size;omega
  .have e:(⟨gd,0,none⟩:Addr)=⟨gc,0,none⟩:=bm hy;cases e
   omega) q3
 have lg:∀j,j<nd->NQ[j]?=some (.string (eD (x k).nb ((x k).s.a j))):=λj hj=>by rw[q6 j hj];simp[hj]
 have j9:jF w3 gc nd λd=>eD (x k).nb ((x k).s.a d):=λj hj=>by rw[ab _ _ _ _ _ _ LK];exact lg j hj
 obtain⟨qo,_⟩:=hH.slots (wr:=1099511627776) (by omega);repeat refine rN ?_
 refine rK Tryz.func7 (Fj t e MK.cell MK.glob gc WK 1099511627776 _ (iR (x k).L) (eO (x k).L _) (by omega) kl LW LV (by omega) ⟨λj _=>.inr (xR _ _),0,by omega,xR _ _⟩ j9 qo) ?_;rintro _ S3 w4 _ ⟨xd,X',D',IJ,UR,M',KP,PE,L',ia,rfl,FN,pq,JD⟩;repeat refine rN ?_
 refine bF (λd f' S' w=>∃j,d=nd-j∧j<=nd∧S'=S3∧Kp w4 (λb=>b=gc) w∧(∃cur,w.heap[gc]?=some (.cells cur 9)∧cur.size=WK)∧f' 0=.pointer (some ⟨W,0,none⟩)∧f' 1=.int .i64 (k:Nat)∧f' 6=.slice (some ⟨gc,0,none⟩) nd WK∧f' 7=.pointer (some ⟨X',0,none⟩)∧f' 8=.int .i64 0∧f' 9=.int .i64 (j:Nat)) nd ⟨0,by omega,by omega,rfl,.refl _ _,⟨NQ,xd.cells _ _ _ _ (λh=>h) LK,q5⟩,by simp[g0],by simp[g1],by simp,by simp,by simp,by simp⟩ ?_;clear g0 g1 f;rintro d f S' w5 ⟨j,rfl,hj,eS,HV,⟨cur,qi,CQ⟩,g0,g1,g6,g7,g8,g9⟩ dj;subst S';repeat refine rN ?_
 by_cases dp:j<nd
 .have ja:(j:Int)<(nd:Int):=by omega
  refine rX (by simp[Act.eval,ja,dp]) ?_;repeat refine rN ?_
  refine dQ aB rfl rfl (by kernel_rfl) (x:=.tmp 39) (y:=.const (.string ⟨#[103,111,110,101]⟩)) (g:=gc) (j:=j) (z:=.string ⟨#[103,111,110,101]⟩) rfl (by simp) rfl rfl rfl qi (by omega) (by kernel_rfl) λw6 hW=>?_;simp only[stO_none];repeat refine rN ?_
  refine dj _ _ _ (nd-(j+1)) (by omega) ⟨j+1,rfl,by omega,rfl,HV.trans (fO hW),⟨_,hW.at_,by simpa using CQ⟩,by simp[g0],by simp[g1],by simp[g6],by simp[g7],by simp[g8],by simp⟩
 obtain rfl:j=nd:=by omega
 clear dj;have ZT:v.heap.size<=gc:=ak eh.size q2;have NC:Kp v (YW W g) w5:=(KH.trans (xd.mono λ_ h=>h.elim)).new HV λb hb=>.inl (by rw[hb];exact ZT);have QT:=xd.cells _ _ _ _ (λh=>h) LK;have oy:Wm N W x T {g with tv:=A8,t:=g.t+1} w5:=(FA.kp0 xd).texts QT (lg 0 (by omega)) (by rw[xR];omega) HV λi hi=>(h.mem.k i hi).kp h.mem.offY NC
 have wm:Fr N v w5:=.of h.mem.offY NC;subst RH;have XE:=hH.remount (n':=n) (N':=N) (wr:=1099511627776) (by omega) FN pq (λb hb=>ak MK.size (JD b hb)) (by omega);have XD:=XE.kpB QT (by decide) HV;obtain⟨bs',c2,cur2,uz,_,_,JR,XR,_⟩:=qM oy.s;have M1:g.sv=.slice (some ⟨bs',0,none⟩) 2 c2:=uz;rw[es]at M1;cases M1;have U7:w5.cell? ⟨W,0,none⟩=some (.slice (some ⟨bs,0,none⟩) 2 c'):=by rw[<-es];exact(ab _ _ _ _ _ _ oy.row).trans rfl
 refine rZ (by simp[Act.eval,g9,g6]) ?_;refine bC rfl ?_;repeat refine rN ?_
 refine rZ (by simp[Act.eval]) ?_;repeat refine rM U7 ?_
 refine aN aB rfl rfl (by kernel_rfl) (λu hu=>nX (x:=.tmp 52) (y:=.tmp 51) (j:=k) (z:=.pointer (some ⟨X',0,none⟩)) hu JR (by omega) rfl rfl rfl (by simp) (by simp[g7]) (by kernel_rfl)) ?_;rintro x1 w6 hW;simp only[stO_none];obtain⟨G1,ND⟩:=oy.setS (y:=⟨X',D',IJ,UR,M',(x k).nd,(x k).nb,ia,KP,PE,_,L'⟩) hk uz JR rfl hW
 have ij:Wd N W n m (q+1) _ T {g with tv:=A8,t:=g.t+1} w6:=⟨G1,λi hi=>by
  unfold cR;by_cases e:i=k
  .rw[ai e,e];exact XD.yw oy ND
  .rw[ah e];exact((h.st i hi).yw h.mem NC).yw oy ND,λb=>by
  have sg:∀i,i<2->(x i).own b->b<v.heap.size:=λi hi=>(h.st i hi).lt b;have rj:(⟨X',D',IJ,UR,M',(x k).nd,(x k).nb,ia,KP,PE,eY (dA (λd=>eD (x k).nb ((x k).s.a d)) 1099511627776) (fG L') (x k).nb,L'⟩:Sx).own b->v.heap.size<=b:=λhb=>ak UC.size (JD b hb);unfold cR;rcases kR hk with rfl|rfl
  .rw[ai rfl,ah (by decide)];intro q1 q2;have:=rj q1;have:=sg 1 (by omega) q2;omega
  .rw[ah (by decide),ai rfl];intro q1 q2;have:=rj q2;have:=sg 0 (by omega) q1
   omega,b5.cnt⟩
 repeat refine rN ?_
 refine aM λtodo=>?_;refine ret _ _ S3 w6 (.bool true) ?_ ⟨rfl,_,_,ij,wm.trans (.of oy.offY ND)⟩;simp[results,Tryz.results34]
end
