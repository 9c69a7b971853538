import Derived.Test.YtpiefebngnlfoaaGreatDoorMe
set_option maxRecDepth 99999
set_option maxHeartbeats 0
set_option linter.unusedVariables false
set_option linter.unusedSimpArgs false
namespace Go.Proofs.YtpiefebngnlfoaaGreatDoor
namespace Fld
def ev(c:Nat->Nat):Nat->Nat->Nat
 |0,_=>0
 |n+1,x=>c 0^^^mul x (ev (λi=>c (i+1)) n x)
theorem oS{x:Nat}(hx:x<256)(n:Nat):∀{c:Nat->Nat},(∀i,c i<256)->ev c n x<256:=by
 induction n with
 |zero=>intro c _;exact(by decide:0<256)
 |succ n ih=>intro c hc;exact xor_lt (hc 0) (mul_lt hx _)
theorem Ye{x:Nat}(n:Nat):∀{c:Nat->Nat},(∀i,i<n->c i=0)->ev c n x=0:=by
 induction n with
 |zero=>intro c _;rfl
 |succ n ih=>intro c hc;rw[ev,hc 0 (by omega),ih λi hi=>hc (i+1) (by omega),mul_zero];rfl
theorem Ia{x:Nat}(hx:x<256)(n:Nat):∀(c d:Nat->Nat),ev (λi=>c i^^^d i) n x=ev c n x^^^ev d n x:=by
 induction n with
 |zero=>intro c d;simp[ev]
 |succ n ih=>intro c d;rw[ev,ev,ev,ih (λi=>c (i+1)) (λi=>d (i+1)),qF];exact uN _ _ _ _
theorem Vo{a x:Nat}(ha:a<256)(hx:x<256)(n:Nat):∀(c:Nat->Nat),(∀i,c i<256)->ev (λi=>mul a (c i)) n x=mul a (ev c n x):=by
 induction n with
 |zero=>intro c _;exact(mul_zero a).symm
 |succ n ih=>intro c hc;have h1:=oS hx n λi=>hc (i+1);rw[ev,ev,ih (λi=>c (i+1)) λi=>hc (i+1),qF,<-mul_assoc hx ha h1,<-mul_assoc ha hx h1,mul_comm ha hx]
theorem Yf{x:Nat}(n:Nat):∀(c:Nat->Nat),ev (λi=>if i<n then c i else 0) (n+1) x=ev c n x:=by
 induction n with
 |zero=>intro c;simp[ev,mul_zero]
 |succ n ih=>intro c;have h:=ih λi=>c (i+1);show(if 0<n+1 then c 0 else 0)^^^mul x (ev (λi=>if i+1<n+1 then c (i+1) else 0) (n+1) x)=c 0^^^mul x (ev (λi=>c (i+1)) n x);simp only[Nat.add_lt_add_iff_right,Nat.zero_lt_succ,if_true];rw[h]
theorem Vp{x:Nat}(n:Nat):∀{c d:Nat->Nat},(∀i,i<n->c i=d i)->ev c n x=ev d n x:=by
 induction n with
 |zero=>intro c d _;rfl
 |succ n ih=>intro c d h;rw[ev,ev,h 0 (by omega),ih λi hi=>h (i+1) (by omega)]
theorem S_{a:Nat}(ha:a<256)(n:Nat):∀(c:Nat->Nat),(∀i,c i<256)->∃d:Nat->Nat,(∀i,d i<256)∧(∀x,x<256->ev c (n+1) x=mul (x^^^a) (ev d n x)^^^ev c (n+1) a)∧((∀i,i<n->d i=0)->ev c (n+1) a=0->∀i,i<n+1->c i=0):=by
 induction n with
 |zero=>
  intro c hc;refine⟨λ_=>0,λ_=>Nat.zero_lt_succ _,λx hx=>?_,λ_ h i hi=>?_⟩
  .simp[ev,mul_zero]
  .have:i=0:=by omega
   subst this;simpa [ev,mul_zero] using h
 |succ n ih=>
  intro c hc;obtain⟨d,hd,he,hz⟩:=ih (λi=>c (i+1)) λi=>hc (i+1);have hr:=oS ha (n+1) λi=>hc (i+1);refine⟨λi=>if i=0 then ev (λi=>c (i+1)) (n+1) a else d (i-1),λi=>?_,λx hx=>?_,λh0 h1 i hi=>?_⟩
  .by_cases h:i=0<;>simp only[h,if_true,if_false]
   .exact hr
   .exact hd _
  .have hD:=oS hx n hd;have XI:=xor_lt hx ha;have e:ev (λi=>if i=0 then ev (λi=>c (i+1)) (n+1) a else d (i-1)) (n+1) x=ev (λi=>c (i+1)) (n+1) a^^^mul x (ev d n x):=rfl;show c 0^^^mul x (ev (λi=>c (i+1)) (n+1) x)=mul (x^^^a) (ev (λi=>if i=0 then ev (λi=>c (i+1)) (n+1) a else d (i-1)) (n+1) x)^^^(c 0^^^mul a (ev (λi=>c (i+1)) (n+1) a));rw[e,he x hx];generalize ev (λi=>c (i+1)) (n+1) a=r at hr;generalize ev d n x=D at hD;rw[qF,qF,<-mul_assoc hx XI hD,mul_comm hx XI,mul_assoc XI hx hD,add_mul hx ha r];have e2:∀p q z c:Nat,c^^^(z^^^p)=((p^^^q)^^^z)^^^(c^^^q):=λp q z c=>by
    have:((p^^^q)^^^z)^^^(c^^^q)=(c^^^(z^^^p))^^^(q^^^q):=by ac_rfl
    rw[this,Nat.xor_self,Nat.xor_zero]
   exact e2 _ _ _ _
  .have F2:ev (λi=>c (i+1)) (n+1) a=0:=by have:=h0 0 (by omega);simpa using this
   have ek:=hz (λi hi=>by have:=h0 (i+1) (by omega);simpa using this) F2;cases i with
   |zero=>rw[ev,F2,mul_zero,Nat.xor_zero]at h1;exact h1
   |succ i=>exact ek i (by omega)
theorem P1(n:Nat):∀(c:Nat->Nat)(p:Nat->Nat),(∀i,c i<256)->(∀i,i<n->p i<256)->(∀i j,i<n->j<n->p i=p j->i=j)->(∀i,i<n->ev c n (p i)=0)->∀i,i<n->c i=0:=by
 induction n with
 |zero=>intro c p _ _ _ _ i hi;omega
 |succ n ih=>
  intro c p hc hp lp fu;obtain⟨d,hd,he,hz⟩:=S_ (hp n (by omega)) n c hc;refine hz (ih d p hd (λi hi=>hp i (by omega)) (λi j hi hj=>lp i j (by omega) (by omega)) λi hi=>?_) (fu n (by omega));have h:=he (p i) (hp i (by omega));rw[fu i (by omega),fu n (by omega),Nat.xor_zero]at h;have dy:p i^^^p n≠0:=by
   intro e;have:p i=p n:=by have:=wA (p i) (p n);rw[e,Nat.zero_xor]at this;exact this.symm
   have:=lp i n (by omega) (by omega) this;omega
  have dp:=oS (hp i (by omega)) n hd;rcases(Mk (xor_lt (hp i (by omega)) (hp n (by omega))) dp).1 h.symm with e|e
  .exact absurd e dy
  .exact e
theorem Hm{a b:Nat}(h:a^^^b=0):a=b:=by have:=wA a b;rw[h,Nat.zero_xor]at this;exact this.symm
def IsP(n:Nat)(f:Nat->Nat):Prop:=∃c:Nat->Nat,(∀i,c i<256)∧∀x,x<256->f x=ev c n x
theorem IsP.weak{n:Nat}{f:Nat->Nat}(h:IsP n f):IsP (n+1) f:=by obtain⟨c,hc,he⟩:=h;refine⟨λi=>if i<n then c i else 0,λi=>?_,λx hx=>by rw[he x hx,Yf]⟩;by_cases e:i<n<;>simp[e,hc]
theorem IsP.add{n:Nat}{f g:Nat->Nat}(h:IsP n f)(h':IsP n g):IsP n λx=>f x^^^g x:=by obtain⟨c,hc,he⟩:=h;obtain⟨d,hd,sr⟩:=h';exact⟨λi=>c i^^^d i,λi=>xor_lt (hc i) (hd i),λx hx=>by rw[Ia hx,<-he x hx,<-sr x hx]⟩
theorem IsP.scale{n:Nat}{f:Nat->Nat}{a:Nat}(h:IsP n f)(ha:a<256):IsP n λx=>mul (f x) a:=by obtain⟨c,hc,he⟩:=h;exact⟨λi=>mul a (c i),λi=>mul_lt ha _,λx hx=>by rw[Vo ha hx n c hc,<-mul_comm (oS hx n hc) ha,<-he x hx]⟩
theorem IsP.times{n:Nat}{f:Nat->Nat}{a:Nat}(h:IsP n f)(ha:a<256):IsP (n+1) λx=>mul (f x) (x^^^a):=by
 obtain⟨c,hc,he⟩:=h
 have h1:IsP (n+1) λx=>mul x (ev c n x):=⟨λi=>if i=0 then 0 else c (i-1),λi=>by by_cases e:i=0<;>simp[e,hc],λx hx=>by
  show mul x (ev c n x)=0^^^mul x (ev c n x)
  rw[Nat.zero_xor]⟩
 have h2:IsP (n+1) λx=>mul (ev c n x) a:=(IsP.scale ⟨c,hc,λ_ _=>rfl⟩ ha).weak;obtain⟨d,hd,ji⟩:=h1.add h2;refine⟨d,hd,λx hx=>?_⟩;rw[<-ji x hx];show mul (f x) (x^^^a)=mul x (ev c n x)^^^mul (ev c n x) a;rw[he x hx,qF,mul_comm (oS hx n hc) hx]
theorem IsP.zero(n:Nat):IsP n λ_=>0:=⟨λ_=>0,λ_=>Nat.zero_lt_succ _,λx hx=>(Ye n λ_ _=>rfl).symm⟩
theorem IsP.one:IsP 1 λ_=>1:=⟨λ_=>1,λ_=>(Nat.succ_lt_succ (Nat.zero_lt_succ _)),λx hx=>by simp[ev,mul_zero]⟩
theorem Yz{n:Nat}{f g:Nat->Nat}(hf:IsP n f)(hg:IsP n g)(p:Nat->Nat)(hp:∀i,i<n->p i<256)(lp:∀i j,i<n->j<n->p i=p j->i=j)(h:∀i,i<n->f (p i)=g (p i))(x:Nat)(hx:x<256):f x=g x:=by
 obtain⟨c,hc,he⟩:=hf;obtain⟨d,hd,sr⟩:=hg;have hz:=P1 n (λi=>c i^^^d i) p (λi=>xor_lt (hc i) (hd i)) hp lp λi hi=>by rw[Ia (hp i hi),<-he _ (hp i hi),<-sr _ (hp i hi),h i hi,Nat.xor_self]
 rw[he x hx,sr x hx];exact Vp n λi hi=>Hm (hz i hi)
theorem Vr{known:Nat->Nat}{j:Nat}(m:Nat)(hk:∀i,i<m->known i<256):IsP (if j<m then m else m+1) λx=>dist known j x m:=by
 induction m with
 |zero=>exact IsP.one
 |succ m ih=>
  have ih:=ih λi hi=>hk i (by omega);by_cases e:m=j
  .have h1:¬j<m:=by omega
   have h2:j<m+1:=by omega
   rw[ah h1]at ih;rw[ai h2];simpa only[dist,ai e] using ih
  .have h:IsP ((if j<m then m else m+1)+1) λx=>mul (dist known j x m) (x^^^known m):=ih.times (hk m (by omega));have e2:(if j<m then m else m+1)+1=if j<m+1 then m+1 else m+1+1:=by
    by_cases h1:j<m
    .rw[ai h1,ai (by omega)]
    .rw[ah h1,ah (by omega)]
   rw[e2]at h;simpa only[dist,ah e] using h
theorem Ws{known:Nat->Nat}{j:Nat}(hj:j<10)(hk:∀i,i<10->known i<256):IsP 10 λx=>wgt known x j:=by have h:=Vr (j:=j) 10 hk;rw[ai hj]at h;exact h.scale (inv_lt _)
theorem comb_isP{known:Nat->Nat}(hk:∀i,i<10->known i<256){x:Nat->Nat->Nat}{i:Nat}(hx:∀j,x j i<256)(m:Nat)(hm:m<=10):IsP 10 λk=>comb (wgt known k) x m i:=by
 induction m with
 |zero=>exact IsP.zero 10
 |succ m ih=>exact(ih (by omega)).add ((Ws (by omega) hk).scale (hx m))
theorem Sd{known:Nat->Nat}{j k:Nat}(m:Nat)(i:Nat)(hi:i<m)(G9:i≠j)(he:known i=k):dist known j k m=0:=by
 induction m with
 |zero=>omega
 |succ m ih=>
  unfold dist;split
  .exact ih (by omega)
  .rcases Nat.lt_or_ge i m with h|h
   .rw[ih h,zero_mul]
   .have:i=m:=by omega
    subst this;rw[he,Nat.xor_self,mul_zero]
theorem Yh{known:Nat->Nat}{j k:Nat}(hk:k<256)(m:Nat)(qg:∀i,i<m->known i<256)(h:∀i,i<m->i≠j->known i≠k):dist known j k m≠0:=by
 induction m with
 |zero=>exact(by decide:(1:Nat)≠0)
 |succ m ih=>
  have ih:=ih (λi hi=>qg i (by omega)) λi hi=>h i (by omega);unfold dist;split
  .exact ih
  .rename_i e;exact Hu (dist_lt _ _ _ _) (xor_lt hk (qg m (by omega))) ih λe2=>h m (by omega) e (Hm e2).symm
theorem Yx{known:Nat->Nat}(hk:∀i,i<10->known i<256)(lp:∀i j,i<10->j<10->known i=known j->i=j){m j:Nat}(hm:m<10)(hj:j<10):wgt known (known m) j=if m=j then 1 else 0:=by
 unfold wgt;by_cases e:m=j
 .subst e;rw[ai rfl];exact Xs (dist_lt _ _ _ _) (Yh (hk m hm) 10 hk λi hi dy e2=>dy (lp i m hi hm e2))
 .rw[ah e,Sd 10 m hm e rfl,zero_mul]
theorem Sm{wt:Nat->Nat}{x:Nat->Nat->Nat}{i j:Nat}(n:Nat)(hw:∀m,m<n->wt m=if j=m then 1 else 0)(hx:∀j,x j i<256):comb wt x n i=if j<n then x j i else 0:=by
 induction n with
 |zero=>simp[comb]
 |succ n ih=>
  rw[comb,ih λm hm=>hw m (by omega),hw n (by omega)];by_cases e:j=n
  .subst e;simp[one_mul (hx j)]
  .by_cases h:j<n
   .rw[ai h,ah e,ai (by omega),zero_mul,Nat.xor_zero]
   .rw[ah h,ah e,ah (by omega),zero_mul,Nat.xor_zero]
theorem comb_at{known:Nat->Nat}(hk:∀i,i<10->known i<256)(lp:∀i j,i<10->j<10->known i=known j->i=j){x:Nat->Nat->Nat}{i m:Nat}(hx:∀j,x j i<256)(hm:m<10):comb (wgt known (known m)) x 10 i=x m i:=by rw[Sm (j:=m) 10 (λq hq=>Yx hk lp hm hq) hx,ai hm]
theorem comb_back{known:Nat->Nat}(hk:∀i,i<10->known i<256)(lp:∀i j,i<10->j<10->known i=known j->i=j){f:Nat->Nat->Nat}{i:Nat}(hf:IsP 10 λk=>f k i)(dp:∀k,f k i<256)(k:Nat)(h:k<256):comb (wgt known k) (λj=>f (known j)) 10 i=f k i:=
 Yz (comb_isP hk (λj=>dp (known j)) 10 (ae _)) hf known hk lp (λm hm=>comb_at hk lp (λj=>dp (known j)) hm) k h
end Fld
open Go.RowKit Go.Conc Go.Vw
theorem Yj{x:Nat->Nat}(h:∀i,x i<256)(L i:Nat):Fld.IsP 10 λk=>oK id (dN x L ((L+9)/10)) k i:=
 Fld.comb_isP (λi hi=>by simp only[id];omega) (λj=>zA h _ _ _ _) 10 (ae _)
theorem Si{x:Nat->Nat}(h:∀i,x i<256)(L k i:Nat):bJ x L k i=oK id (dN x L ((L+9)/10)) k i:=by
 unfold bJ;split
 .rename_i hk;exact(Fld.comb_at (known:=id) (x:=dN x L ((L+9)/10)) (i:=i) (m:=k) (λi hi=>by simp only[id];omega) (λi j _ _ e=>e) (λj=>zA h _ _ _ _) hk).symm
 .rfl
theorem Uw{x:Nat->Nat}(h:∀i,x i<256)(L:Nat){kn:Nat->Nat}(hk:∀i,i<10->kn i<14)(lp:∀i j,i<10->j<10->kn i=kn j->i=j){k:Nat}(vx:k<14)(i:Nat):mO kn (bJ x L) k i=bJ x L k i:=by
 unfold mO;split
 .have hf:Fld.IsP 10 λk=>bJ x L k i:=by
   obtain⟨c,hc,he⟩:=Yj h L i;exact⟨c,hc,λy hy=>(Si h L y i).trans (he y hy)⟩
  exact Fld.comb_back (λi hi=>by have:=hk i hi;omega) lp hf (λk=>mR h L k i) k (by omega)
 .rfl
def oV(q:Nat->Option Addr):Nat->Nat
 |0=>0
 |i+1=>oV q i+if (q i).isSome=true then 1 else 0
theorem Yb(q:Nat->Option Addr)(i:Nat):(bD q i).1=min 10 (oV q i):=by
 induction i with
 |zero=>rfl
 |succ i ih=>
  unfold bD oV;by_cases h:(q i).isSome=true
  .by_cases oa:(bD q i).1<10
   .rw[ai ⟨h,oa⟩,ai h];show(bD q i).1+1=_;omega
   .rw[ah (λe=>oa e.2),ai h];omega
  .rw[ah (λe=>h e.1),ah h];exact ih
theorem O0{q:Nat->Option Addr}(h:10<=oV q 14):(bD q 14).1=10∧(∀i,i<10->(bD q 14).2 i<14)∧∀i j,i<10->j<10->(bD q 14).2 i=(bD q 14).2 j->i=j:=by
 have h1:(bD q 14).1=10:=by rw[Yb];omega
 have h2:=Hz q 14;rw[h1]at h2;refine⟨h1,λi hi=>(h2 i hi).1,λi j hi hj e=>?_⟩;rcases Nat.lt_trichotomy i j with dp|he|ZN
 .have:=(h2 j hj).2.2 i dp;omega
 .exact he
 .have:=(h2 i hi).2.2 j ZN;omega
theorem Vt(x:Nat->Nat)(L i:Nat)(h:i<L):bJ x L (i/((L+9)/10)) (i%((L+9)/10))=x i:=by
 have hm:0<(L+9)/10:=by omega
 have h1:i/((L+9)/10)<10:=by rw[Nat.div_lt_iff_lt_mul hm];omega
 have h2:i/((L+9)/10)*((L+9)/10)+i%((L+9)/10)=i:=Nat.div_add_mod' _ _;unfold bJ;rw[ai h1];unfold dN;rw[h2,ai h]
def eA(w:World)(B m:Nat)(y:Nat->Nat):Prop:=∃C:Array Value,w.heap[B]?=some (.cells C 5)∧∀j,j<m->C[j]?=some (.int .u8 (y j:Nat))
theorem eA.ext{w w':World}{B m:Nat}{y:Nat->Nat}(h:eA w B m y)(hE:Ext w w'):eA w' B m y:=let ⟨C,h1,h2⟩:=h;⟨C,hE.row h1,h2⟩
theorem eA.wr{w w':World}{B m g:Nat}{y:Nat->Nat}{o:Array Value}{c:Array Value}{t:TypeId}(h:eA w B m y)(hg:w.heap[g]?=some (.cells c t))(ht:t≠5)(hW:Wr w g (.cells o t) w'):eA w' B m y:=by obtain⟨C,h1,h2⟩:=h;exact⟨C,aO hW h1 (bP h1 hg (λe=>ht e.symm)),h2⟩
theorem eA.of{w:World}{B m:Nat}{y:Nat->Nat}(h:dD w B 0 m y)(hC:∃C,w.heap[B]?=some (.cells C 5)):eA w B m y:=by obtain⟨C,hC⟩:=hC;refine⟨C,hC,λj hj=>?_⟩;have:=h j hj;rw[an,ab _ _ _ _ _ _ hC]at this;exact this
theorem eA.bytes{w:World}{B m:Nat}{y:Nat->Nat}(h:eA w B m y):dD w B 0 m y:=by obtain⟨C,h1,h2⟩:=h;intro j hj;rw[an,ab _ _ _ _ _ _ h1];exact h2 j hj
def qL(V X D bx k slot id size turn m:Nat)(y:Nat->Nat)(j:Nat)(x:Value)(w:World):Prop:=
 match j with
 |0=>x=.pointer (some ⟨X,0,none⟩)
 |1=>x=.pointer (some ⟨X,0,none⟩)
 |2=>x=.pointer (some ⟨X,0,none⟩)
 |3=>x=.pointer (some ⟨D,0,none⟩)
 |4=>x=.int .i64 (k:Nat)
 |5=>x=.pointer (some ⟨bx,3,none⟩)
 |6=>x=.int .i64 (slot:Nat)
 |7=>∃B c,x=.tuple #[.agg (bK id size turn k (some ⟨B,0,none⟩) m c),.bool true]∧m<=c∧eA w B m y
 |8=>∃B c,x=.tuple #[.agg (bK id size turn k (some ⟨B,0,none⟩) m c),.bool true]∧m<=c∧eA w B m y
 |9=>∃B c,x=.agg (bK id size turn k (some ⟨B,0,none⟩) m c)∧m<=c∧eA w B m y
 |10=>x=.bool true
 |11=>∃g,x=.pointer (some ⟨g,0,none⟩)∧V<=g∧∃c:Array Value,c.size=5∧w.heap[g]?=some (.cells c 143)
 |_=>True
theorem Pr(V X D bx k slot id size turn m:Nat)(y:Nat->Nat):∀j x w w',qL V X D bx k slot id size turn m y j x w->Ext w w'->qL V X D bx k slot id size turn m y j x w':=by
 intro j x w w' h hE;unfold qL at h⊢;split at h<;>first|exact h|skip
 .obtain⟨B,c,e,h1,h2⟩:=h;exact⟨B,c,e,h1,h2.ext hE⟩
 .obtain⟨B,c,e,h1,h2⟩:=h;exact⟨B,c,e,h1,h2.ext hE⟩
 .obtain⟨B,c,e,h1,h2⟩:=h;exact⟨B,c,e,h1,h2.ext hE⟩
 .obtain⟨g,e,h1,c,h2,hg⟩:=h;exact⟨g,e,h1,c,h2,hE.row hg⟩
def GL(good:Nat->Bool)(PB CP:Nat->Nat)(m k i:Nat):Value:=if i<k∧good i=true then .slice (some ⟨PB i,0,none⟩) m (CP i) else .slice none 0 0
theorem Q_(good:Nat->Bool)(PB CP:Nat->Nat)(m k B c:Nat)(hk:good k=true):(allA (GL good PB CP m k)).setIfInBounds k (.slice (some ⟨B,0,none⟩) m c)=allA (GL good (λi=>if i=k then B else PB i) (λi=>if i=k then c else CP i) m (k+1)):=by
 rw[tI];refine mE λi _=>?_;unfold GL;by_cases e:i=k
 .subst e;simp[hk]
 .by_cases h:i<k
  .have:i<k+1:=by omega
   simp[e,h,this]
  .have:¬i<k+1:=by omega
   simp[e,h,this]
theorem Yt(good:Nat->Bool)(PB CP:Nat->Nat)(m k:Nat)(hk:good k=false):allA (GL good PB CP m k)=allA (GL good PB CP m (k+1)):=by
 refine mE λi _=>?_;unfold GL;by_cases e:i=k
 .subst e;simp[hk]
 .by_cases h:i<k
  .have:i<k+1:=by omega
   simp[h,this]
  .have:¬i<k+1:=by omega
   simp[h,this]
section
variable {X D DB DA M:Nat}{RB RA:Nat->Nat}{nd nb turn:Nat}{s:Dsk}{L:List Ent}{w w' v:World}{S:Nat->Prop}
theorem Cd{g:Nat->Bool}{o:Oper}{a:Act}{k:Nat}{u:World}{x y:Operand}(hk:k<14)(dm:o.op=.index 121 x y)(hx:a.eval x=.agg (jW g))(hy:a.eval y=.int .i64 (k:Nat)):(execOp a.eval o).run Tryz.prog u=.ok (.value (.bool (g k))) u:=by unfold execOp;simp only[dm,hx,hy];rcases(by omega:k=0∨k=1∨k=2∨k=3∨k=4∨k=5∨k=6∨k=7∨k=8∨k=9∨k=10∨k=11∨k=12∨k=13) with rfl|rfl|rfl|rfl|rfl|rfl|rfl|rfl|rfl|rfl|rfl|rfl|rfl|rfl<;>rfl
theorem vC{T:Nat}(e:Ent)(dx:EntOk nb T s.c e)(ht:T<18446744073709551616)(jb:14<=nd)(gh:nd<=18)(eu:nb<=64)(hX:StE X D DB DA M RB RA nd nb turn s L v):aJ Tryz.prog 64 #[.pointer (some ⟨X,0,none⟩),.agg (bN e)] S v λx S' v'=>S'=S∧Ext v v'∧∃BL PB CP,x=.slice (some ⟨BL,0,none⟩) 14 14∧v'.heap[BL]?=some (.cells (allA (GL e.good PB CP ((e.size+9)/10) 14)) 43)∧∀k,k<14->e.good k=true->(e.size+9)/10<=CP k∧eA v' (PB k) ((e.size+9)/10) (bJ e.val e.size k):=by
 refine cX Tryz.func64 rfl Tryz.ntmps64 λStop cc cs ret f g0 g1=>?_
 repeat refine rN ?_
 refine aN (Q:=λy w=>y=.pointer (some ⟨v.heap.size,0,none⟩)∧Ext v w∧w.heap[v.heap.size]?=some (.cells (bN e) 123)) aB rfl rfl (by kernel_rfl) (λu hu=>⟨_,_,.inl (gR (x:=.tmp 1) (y:=.agg (bN e)) rfl (by simp[g1]) u),by rw[hu.heap],(Ext.twin hu).trans _ _ _ (Ext.alloc _ _),by rw[<-hu.heap];exact bI _ _⟩) ?_;rintro _ w1 ⟨rfl,eh,fg⟩;simp only[stO_some];repeat refine rN ?_
 refine nU aB rfl rfl (by kernel_rfl) rfl (m:=14) (wd:=24) (z:=.slice none 0 0) (by simp) (by simp) (by omega) (by omega) (by omega) Tryz.underlying89 (by kernel_rfl) rfl λw2 ep pz pj=>?_;simp only[stO_some];have YF:w2.heap[w1.heap.size]?=some (.cells (allA (GL e.good (λ_=>0) (λ_=>0) ((e.size+9)/10) 0)) 43):=pz;have X5:v.heap.size<w1.heap.size:=(Array.getElem?_eq_some_iff.1 fg).1;generalize hBLd:w1.heap.size=BL at *
 have ko:=ep.row fg;generalize vb:v.heap.size=bx at *
 repeat refine rN ?_
 refine bV aB rfl rfl (by kernel_rfl) (λu hu=>sM (b:=bx) ((Ext.twin hu).row ko) (x:=.tmp 11) rfl (by simp)) ?_;simp only[stO_some];repeat refine rN ?_
 generalize zw:(e.size+9)/10=m at *
 have HM:=aP zw;clear zw;refine bF (λd f' S' w=>∃k PB CP,d=14-k∧k<=14∧S'=S∧Ext v w∧Ext w1 w∧w.heap[BL]?=some (.cells (allA (GL e.good PB CP m k)) 43)∧(∀i,i<k->e.good i=true->m<=CP i∧eA w (PB i) m (bJ e.val e.size i))∧f' 0=.pointer (some ⟨X,0,none⟩)∧f' 3=.pointer (some ⟨bx,0,none⟩)∧f' 5=.slice (some ⟨BL,0,none⟩) 14 14∧f' 12=.agg (jW e.good)∧f' 13=.int .i64 (k:Nat)) 14 ⟨0,λ_=>0,λ_=>0,by omega,by omega,rfl,eh.trans _ _ _ ep,ep,YF,λi hi=>by omega,by simp[g0],by simp,by simp,by simp,by simp⟩ ?_;clear g0 g1 f;rintro d f S' w ⟨k,PB,CP,rfl,hk,eS,fj,NI,du,YA,g0,g3,g5,g12,g13⟩ dj;subst S';have jq:=hX.ext fj;have OQ:=NI.row fg;repeat refine rN ?_
 by_cases dp:k<14
 .have ll:(k:Int)<14:=by omega
  refine rX (by simp[Act.eval,g13,ll]) ?_;repeat refine rN ?_
  refine bV aB rfl rfl (by kernel_rfl) (λu hu=>Cd (g:=e.good) dp (x:=.tmp 12) (y:=.tmp 13) rfl (by simp[g12]) (by simp[g13])) ?_;simp only[stO_some];obtain⟨gk,sj⟩:∃gk,e.good k=gk:=⟨_,rfl⟩;have HG:=aP sj;rw[sj];clear sj;cases gk with
  |false=>
   repeat refine rN ?_
   refine rX (by simp[Act.eval]) ?_;refine bC rfl ?_;repeat refine rN ?_
   refine dj _ _ _ (14-(k+1)) (by omega) ⟨k+1,PB,CP,rfl,by omega,rfl,fj,NI,by rw[<-Yt _ _ _ _ _ HG.out];exact du,λi hi ON=>?_,by simp[g0],by simp[g3],by simp[g5],by simp[g12],by simp⟩;by_cases e1:i=k
   .subst e1;rw[HG.out]at ON;cases ON
   .exact YA i (by omega) ON
  |true=>
  repeat refine rN ?_
  refine rZ (by simp[Act.eval]) ?_;repeat refine rN ?_
  refine iY (by kernel_rfl) (by kernel_rfl) (by kernel_rfl) 12 [0,1,2,3,4,5,6,7,8,9,11] (by kernel_rfl) (qL w.heap.size X D bx k e.slot e.id e.size e.turn m (bJ e.val e.size k)) (λS' w'=>S'=S∧Ext w w') (λS' f w'=>S'=S∧Ext w w'∧∃g B c,f 8=.pointer (some ⟨g,0,none⟩)∧w.heap.size<=g∧m<=c∧w'.heap[g]?=some (.cells (bK e.id e.size e.turn k (some ⟨B,0,none⟩) m c) 143)∧eA w' B m (bJ e.val e.size k)) (λS' w w' h hE=>⟨h.1,h.2.trans _ _ _ hE⟩) (λS' i f x w3 w4 hi hA jh h hE=>?_) (Pr _ _ _ _ _ _ _ _ _ _ _) ?_ ⟨rfl,.refl _⟩ ?_ ?_ ?_
  .obtain⟨h1,h2,g,B,c,q1,q2,q3,q4,q5⟩:=h;refine⟨h1,h2.trans _ _ _ hE,g,B,c,?_,q2,q3,hE.row q4,q5.ext hE⟩;have ft:i<14:=hi;simp at hA;rcases(by omega:i=10∨i=13) with rfl|rfl
   .exact q1
   .exact q1
  .intro j hj he x w h;have jo:j<14:=hj;rcases(by omega:j=0∨j=1∨j=2∨j=3∨j=4∨j=5∨j=6∨j=7∨j=8∨j=9∨j=10∨j=11∨j=12∨j=13) with rfl|rfl|rfl|rfl|rfl|rfl|rfl|rfl|rfl|rfl|rfl|rfl|rfl|rfl<;>first|exact trivial|cases he
  .intro i f' S1 w3 rest hi dy hB hf hd gj;have BI:f' 0=.pointer (some ⟨X,0,none⟩):=(hf 0 (aV (by kernel_rfl))).trans (by simp[g0]);have OY:f' 3=.pointer (some ⟨bx,0,none⟩):=(hf 3 (aV (by kernel_rfl))).trans (by simp[g3]);have v_:f' 6=.int .i64 (k:Nat):=(hf 6 (aV (by kernel_rfl))).trans (by simp);have ft:i<14:=hi;clear hf;rcases(by omega:i=0∨i=1∨i=2∨i=3∨i=4∨i=5∨i=6∨i=7∨i=8∨i=9∨i=10∨i=11∨i=12∨i=13) with rfl|rfl|rfl|rfl|rfl|rfl|rfl|rfl|rfl|rfl|rfl|rfl|rfl|rfl
   .clear hd;refine rY aB ?_;exact gj _ w3 (.refl w3) rfl
   .have d0:f' 20=.pointer (some ⟨X,0,none⟩):=hd 0 (aD (by kernel_rfl));clear hd;refine rY aB ?_;exact gj _ w3 (.refl w3) rfl
   .have d0:f' 21=.pointer (some ⟨X,0,none⟩):=hd 1 (aD (by kernel_rfl));clear hd;refine rY aB ?_;exact gj _ w3 (.refl w3) rfl
   .have d0:f' 22=.pointer (some ⟨X,0,none⟩):=hd 2 (aD (by kernel_rfl));obtain⟨eS,hE⟩:=hB (by simp);subst S1;have c0:=(jq.ext hE).c0;clear hd hB;(refine rO aB rfl ?_;intro _ dt K_ dr;(have hc:=(Ext.twin dt).cell c0);go_simp;(try rw[wI _]);(try rw[wU _]);refine dr _ ?_;clear dr K_ dt;simp only[sS,sN]);exact gj _ w3 (.refl w3) rfl
   .clear hd;refine rY aB ?_;exact gj _ w3 (.refl w3) rfl
   .clear hd;refine rY aB ?_;exact gj _ w3 (.refl w3) rfl
   .have d0:f' 25=.pointer (some ⟨bx,3,none⟩):=hd 5 (aD (by kernel_rfl));obtain⟨eS,hE⟩:=hB (by simp);subst S1;have c0:w3.cell? ⟨bx,3,none⟩=some (.int .i64 (e.slot:Nat)):=(ab _ _ _ _ _ _ (hE.row OQ)).trans rfl;clear hd hB;(refine rO aB rfl ?_;intro _ dt K_ dr;(have hc:=(Ext.twin dt).cell c0);go_simp;(try rw[wI _]);(try rw[wU _]);refine dr _ ?_;clear dr K_ dt;simp only[sS,sN]);exact gj _ w3 (.refl w3) rfl
   .have d0:f' 23=.pointer (some ⟨D,0,none⟩):=hd 3 (aD (by kernel_rfl));have d1:f' 24=.int .i64 (k:Nat):=hd 4 (aD (by kernel_rfl));have d2:f' 26=.int .i64 (e.slot:Nat):=hd 6 (aD (by kernel_rfl));obtain⟨eS,hE⟩:=hB (by simp);subst S1;clear hd hB;refine dV Tryz.func71 (Gs e.id e.size e.turn k m k e.slot (bJ e.val e.size k) dx.id2 dx.id1 dx.size dp (by have:=dx.turn;omega) (by have:=HM.out;omega) (mR dx.val _ _) (by omega) dx.slot gh eu (jq.ext hE).dk.old (λj hj=>by have h1:=dx.blk k dp HG.out j hj;rw[HM.out]at h1;exact h1)) ?_;rintro _ S1 w4 _ ⟨e1,gn,B,cp,rfl,yb,hB,I3,hC⟩;subst S1;exact gj _ w4 gn ⟨B,cp,rfl,yb,eA.of I3 hC⟩
   .obtain⟨B,cp,d0,yb,hr⟩:∃B c,f' 27=.tuple #[.agg (bK e.id e.size e.turn k (some ⟨B,0,none⟩) m c),.bool true]∧m<=c∧eA w3 B m (bJ e.val e.size k):=hd 7 (aD (by kernel_rfl));clear hd;refine rY aB ?_;exact gj _ w3 (.refl w3) ⟨B,cp,rfl,yb,hr⟩
   .obtain⟨B,cp,d0,yb,hr⟩:∃B c,f' 19=.tuple #[.agg (bK e.id e.size e.turn k (some ⟨B,0,none⟩) m c),.bool true]∧m<=c∧eA w3 B m (bJ e.val e.size k):=hd 8 (aD (by kernel_rfl));clear hd;refine rY aB ?_;exact gj _ w3 (.refl w3) ⟨B,cp,rfl,yb,hr⟩
   .obtain⟨B,cp,d0,yb,hr⟩:∃B c,f' 19=.tuple #[.agg (bK e.id e.size e.turn k (some ⟨B,0,none⟩) m c),.bool true]∧m<=c∧eA w3 B m (bJ e.val e.size k):=hd 8 (aD (by kernel_rfl));clear hd;refine rY aB ?_;exact gj _ w3 (.refl w3) rfl
   .obtain⟨eS,hE⟩:=hB (by simp);clear hd hB;refine cD aB rfl rfl (by kernel_rfl) (.agg iH) rfl (by kernel_rfl) λw4 gn kl AT=>?_;exact gj _ w4 gn ⟨_,rfl,hE.size,_,rfl,kl⟩
   .exact absurd rfl dy
   .have d0:f' 29=.bool true:=hd 10 (aD (by kernel_rfl));clear hd;refine rY aB ?_;exact gj _ w3 (.refl w3) trivial
  .rintro f' S1 w3 rest ⟨eS,hB⟩ hf hd gj;subst S1;obtain⟨g,d0,su,c5,qi,hg⟩:∃g,f' 8=.pointer (some ⟨g,0,none⟩)∧w.heap.size<=g∧∃c:Array Value,c.size=5∧w3.heap[g]?=some (.cells c 143):=hd 11 (by simp);obtain⟨B,cp,d1,yb,hr⟩:∃B c,f' 28=.agg (bK e.id e.size e.turn k (some ⟨B,0,none⟩) m c)∧m<=c∧eA w3 B m (bJ e.val e.size k):=hd 9 (by simp);clear hd;refine cS aB rfl rfl (by kernel_rfl) (x:=.tmp 8) (y:=.tmp 28) (g:=g) (c:=bK e.id e.size e.turn k (some ⟨B,0,none⟩) m cp) rfl (by simp[d0]) (by simp[d1]) hg (by kernel_rfl) qi (by simp[bK,Value.oneCell']) λw4 hW=>?_;refine gj undef S w4 ⟨rfl,bO hB su hW,g,B,cp,d0,su,yb,hW.at_,hr.wr hg (by decide) hW⟩ trivial λj x' hj h=>?_;unfold qL at h⊢;split at h<;>first|exact h|skip
   .obtain⟨B,c,e,h1,h2⟩:=h;exact⟨B,c,e,h1,h2.wr hg (by decide) hW⟩
   .obtain⟨B,c,e,h1,h2⟩:=h;exact⟨B,c,e,h1,h2.wr hg (by decide) hW⟩
   .obtain⟨B,c,e,h1,h2⟩:=h;exact⟨B,c,e,h1,h2.wr hg (by decide) hW⟩
   .obtain⟨g',e',lj,c',nu,ks⟩:=h;by_cases e:g'=g
    .subst e;exact⟨g',e',lj,_,rfl,hW.at_⟩
    .exact⟨g',e',lj,c',nu,aO hW ks e⟩
  .rintro f' S1 w3 ⟨eS,ef,g,B,cp,L6,su,yb,hg,hr⟩ hf hd;subst S1;have BI:f' 0=.pointer (some ⟨X,0,none⟩):=(hf 0 (aV (by kernel_rfl))).trans (by simp[g0]);have OY:f' 3=.pointer (some ⟨bx,0,none⟩):=(hf 3 (aV (by kernel_rfl))).trans (by simp[g3]);have UJ:f' 5=.slice (some ⟨BL,0,none⟩) 14 14:=(hf 5 (aV (by kernel_rfl))).trans (by simp[g5]);have v_:f' 6=.int .i64 (k:Nat):=(hf 6 (aV (by kernel_rfl))).trans (by simp);have w_:f' 12=.agg (jW e.good):=(hf 12 (aV (by kernel_rfl))).trans (by simp[g12]);have g13':f' 13=.int .i64 (k:Nat):=(hf 13 (aV (by kernel_rfl))).trans (by simp[g13]);clear hf hd;have c4:w3.cell? ⟨g,4,none⟩=some (.slice (some ⟨B,0,none⟩) m cp):=(ab _ _ _ _ _ _ hg).trans rfl;have ti:=ef.row du;repeat refine rM c4 ?_
   refine dQ aB rfl rfl (by kernel_rfl) (x:=.tmp 34) (y:=.tmp 33) (g:=BL) (j:=k) (z:=.slice (some ⟨B,0,none⟩) m cp) rfl (by simp) (by simp) rfl rfl ti (by rw[oI];exact dp) (by kernel_rfl) λw4 jd=>?_;simp only[stO_none];rw[Q_ _ _ _ _ _ _ _ HG.out]at jd;repeat refine rN ?_
   refine dj _ _ _ (14-(k+1)) (by omega) ⟨k+1,_,_,rfl,by omega,rfl,bO (fj.trans _ _ _ ef) (by omega) jd,bO (NI.trans _ _ _ ef) (by omega) jd,jd.at_,λi hi ON=>?_,by simp[BI],by simp[OY],by simp[UJ],by simp[w_],by simp⟩;by_cases e:i=k
   .subst e;simp only[if_true];exact⟨yb,hr.wr ti (by decide) jd⟩
   .obtain⟨h1,h2⟩:=YA i (by omega) ON;simp only[e,if_false];exact⟨h1,(h2.ext ef).wr ti (by decide) jd⟩
 .obtain rfl:k=14:=by omega
  refine rZ (by simp[Act.eval,g13]) ?_;refine bC rfl ?_;repeat refine rN ?_
  refine aM λtodo=>?_;refine ret _ _ S w (.slice (some ⟨BL,0,none⟩) 14 14) ?_ ⟨rfl,fj,BL,PB,CP,rfl,du,YA⟩;simp[results,Tryz.results64,g5]
end
theorem eA.kp{w w':World}{B m:Nat}{y:Nat->Nat}(h:eA w B m y)(hK:Kp w (λ_=>False) w'):eA w' B m y:=let ⟨C,h1,h2⟩:=h;⟨C,hK.cells _ _ _ _ (λx=>x) h1,h2⟩
def kU(e:Ent)(BL:Nat)(PB CP:Nat->Nat)(w:World):Prop:=w.heap[BL]?=some (.cells (allA (GL e.good PB CP ((e.size+9)/10) 14)) 43)∧∀k,k<14->e.good k=true->(e.size+9)/10<=CP k∧eA w (PB k) ((e.size+9)/10) (bJ e.val e.size k)
theorem kU.kp{e:Ent}{BL:Nat}{PB CP:Nat->Nat}{w w':World}(h:kU e BL PB CP w)(hK:Kp w (λ_=>False) w'):kU e BL PB CP w':=⟨hK.cells _ _ _ _ (λx=>x) h.1,λk hk hg=>⟨(h.2 k hk hg).1,(h.2 k hk hg).2.kp hK⟩⟩
def qG(good:Nat->Bool)(PB:Nat->Nat)(k:Nat):Option Addr:=if good k=true then some ⟨PB k,0,none⟩ else none
theorem kU.pl{e:Ent}{BL:Nat}{PB CP:Nat->Nat}{w:World}(h:kU e BL PB CP w):PL w BL 0 (qG e.good PB) (λk=>if e.good k=true then(e.size+9)/10 else 0) (λk=>if e.good k=true then CP k else 0) (bJ e.val e.size):=by
 refine⟨λk hk=>?_,λk hk=>?_⟩
 .rw[an,ab _ _ _ _ _ _ h.1,jC _ _ hk];unfold GL qG;by_cases hg:e.good k=true
  .rw[ai ⟨hk,hg⟩,ai hg,ai hg,ai hg]
  .rw[ah (λq=>hg q.2),ah hg,ah hg,ah hg]
 .unfold qG;by_cases hg:e.good k=true
  .rw[ai hg,ai hg,ai hg];exact .inr ⟨PB k,0,rfl,(h.2 k hk hg).1,(h.2 k hk hg).2.bytes⟩
  .rw[ah hg,ah hg,ah hg];exact .inl ⟨rfl,rfl,rfl⟩
theorem Yk(good:Nat->Bool)(PB:Nat->Nat)(n:Nat):oV (qG good PB) n=aT good n:=by
 induction n with
 |zero=>rfl
 |succ n ih=>unfold oV;rw[ih];unfold aT qG;rw[List.range_succ,List.filter_append,cd];cases hg:good n<;>simp[hg]
def uB(e:Ent)(V X bx:Nat)(j:Nat)(x:Value)(w:World):Prop:=
 match j with
 |0=>x=.pointer (some ⟨X,0,none⟩)
 |1=>x=.agg (bN e)
 |2=>∃BL PB CP,x=.slice (some ⟨BL,0,none⟩) 14 14∧kU e BL PB CP w
 |3=>x=.pointer (some ⟨bx,0,none⟩)
 |4=>x=.pointer (some ⟨bx,1,none⟩)
 |5=>x=.int .i64 (e.size:Nat)
 |6=>∃BV,x=.tuple #[sl BV e.size,.int .i64 0]∧V<=BV∧w.heap[BV]?=some (.cells (aE e.size e.val) 5)
 |7=>∃BV,x=sl BV e.size∧V<=BV∧w.heap[BV]?=some (.cells (aE e.size e.val) 5)
 |8=>x=.int .i64 0
 |9=>∃BV,x=sl BV e.size∧V<=BV∧w.heap[BV]?=some (.cells (aE e.size e.val) 5)
 |10=>x=.int .i64 0
 |_=>True
theorem Fc(e:Ent)(V X bx:Nat):∀j x w w',uB e V X bx j x w->Kp w (λ_=>False) w'->uB e V X bx j x w':=by
 intro j x w w' h hK;unfold uB at h⊢;split at h<;>first|exact h|skip
 .obtain⟨BL,PB,CP,q,h1⟩:=h;exact⟨BL,PB,CP,q,h1.kp hK⟩
 .obtain⟨BV,q,h1,h2⟩:=h;exact⟨BV,q,h1,hK.cells _ _ _ _ (λx=>x) h2⟩
 .obtain⟨BV,q,h1,h2⟩:=h;exact⟨BV,q,h1,hK.cells _ _ _ _ (λx=>x) h2⟩
 .obtain⟨BV,q,h1,h2⟩:=h;exact⟨BV,q,h1,hK.cells _ _ _ _ (λx=>x) h2⟩
section
variable {X D DB DA M:Nat}{RB RA:Nat->Nat}{nd nb turn:Nat}{s:Dsk}{L:List Ent}{w w' v:World}{S:Nat->Prop}
theorem yP(e:Ent)(BL:Nat)(PB CP:Nat->Nat)(fo:e.size<=400)(fh:∀i,e.val i<256)(oa:10<=aT e.good 14)(hg:Tryz.prog.globals.size<=v.heap.size)(hP:kU e BL PB CP v):aJ Tryz.prog 68 #[.slice (some ⟨BL,0,none⟩) 14 14] S v λx S' v'=>∃BA KQ,x=.tuple #[sl BA 14,.int .i64 0]∧Pieces v BA KQ ((e.size+9)/10) (bJ e.val e.size) v':=by
 obtain⟨k1,k2,k3⟩:=O0 (q:=qG e.good PB) (by rw[Yk];exact oa);refine(Zr BL 0 14 ((e.size+9)/10) _ _ _ (bJ e.val e.size) hP.pl (λk _ h=>?_) (by omega) k1 (mR fh _) hg).mono λy S' v' _ ⟨BA,KQ,e1,hQ⟩=>⟨BA,KQ,e1,hQ.kp,hQ.ba,λk hk=>?_,hQ.newA,hQ.newP,hQ.apart,hQ.inj⟩
 .unfold qG at h;by_cases hg:e.good k=true
  .rw[ai hg]
  .rw[ah hg]at h;cases h
 .rw[hQ.pb k hk,gP (g:=bJ e.val e.size k) λi _=>Uw fh e.size k2 k3 hk i]
theorem Xr(e:Ent)(BL:Nat)(PB CP:Nat->Nat)(fo:e.size<=400)(fh:∀i,e.val i<256)(oa:10<=aT e.good 14)(hg:Tryz.prog.globals.size<=v.heap.size)(hP:kU e BL PB CP v):aJ Tryz.prog 63 #[.slice (some ⟨BL,0,none⟩) 14 14,.int .i64 (e.size:Nat)] S v λx S' v'=>∃BV,x=.tuple #[sl BV e.size,.int .i64 0]∧v.heap.size<=BV∧Kp v (λ_=>False) v'∧v'.heap[BV]?=some (.cells (aE e.size e.val) 5):=by refine(Zy (.slice (some ⟨BL,0,none⟩) 14 14) ((e.size+9)/10) e.size _ (by omega) (by omega) (yP e BL PB CP fo fh oa hg hP)).mono λy S' v' _ ⟨BV,e1,e2,hJ⟩=>⟨BV,e1,e2,hJ.kp,?_⟩;rw[hJ.bv,gP (g:=e.val) λi hi=>Vt _ _ _ hi]
theorem T4(id n:Nat)(e:Ent)(hq:aQ id L 0=some (n,e))(po:1<=id)(hid:id<=9999)(hg:Tryz.prog.globals.size<=v.heap.size)(ht:turn<18446744073709551616)(jb:14<=nd)(gh:nd<=18)(eu:nb<=64)(hX:StE X D DB DA M RB RA nd nb turn s L v):aJ Tryz.prog 36 #[.pointer (some ⟨X,0,none⟩),.int .i64 (id:Nat)] S v λx S' v'=>Kp v (λ_=>False) v'∧∃BV,x=.tuple #[sl BV e.size,.int .i64 0]∧v.heap.size<=BV∧v'.heap[BV]?=some (.cells (aE e.size e.val) 5):=by
 refine cX Tryz.func36 rfl Tryz.ntmps36 λStop cc cs ret f g0 g1=>?_;obtain⟨n',hn,kg,LP⟩:=eJ hq;have he:e∈L:=al kg;have dx:=hX.ent e he;obtain⟨clock,hm,qp⟩:=hX.map;have c1:=hX.c1;repeat refine rN ?_
 refine rK Tryz.func59 (qJ id po hid) ?_;rintro _ S2 w2 _ ⟨rfl,e1,e2⟩;subst S2 w2;repeat refine rN ?_
 refine rZ (by simp[Act.eval]) ?_;repeat refine rM c1 ?_
 refine lY rfl rfl rfl (x:=.tmp 15) (y:=.tmp 16) (id:=id) (by simp) (by simp[g1]) hm ?_;rw[hq];simp only[stO_some,fF];repeat refine rN ?_
 refine cD aB rfl rfl (by kernel_rfl) (.agg (aL 0 0 0 0 λ_=>false)) rfl (by kernel_rfl) λw3 ef km ma=>?_;simp only[stO_some];refine cS aB rfl rfl (by kernel_rfl) (x:=.tmp 6) (y:=.tmp 18) (g:=v.heap.size) (c:=bN e) rfl (by simp) (by simp) km (by kernel_rfl) rfl (mF _) λw4 jd=>?_;simp only[stO_none];have gn:Ext v w4:=bO ef (ae _) jd;have pq:=hX.ext gn;have kl:=jd.at_;generalize vb:v.heap.size=bx at *
 repeat refine rN ?_
 refine rZ (by simp[Act.eval]) ?_;repeat refine rN ?_
 refine iY (by kernel_rfl) (by kernel_rfl) (by kernel_rfl) 6 [0,1,2,3,4,5] (by kernel_rfl) (uB e bx X bx) (λS' w=>S'=S∧Ext w4 w) (λS' f w=>Kp v (λ_=>False) w) (λS' w w' h hE=>⟨h.1,h.2.trans _ _ _ hE⟩) (λS' i f x w w' hi hA jh h hE=>h.ext hE) (λj x w w' h hE=>Fc _ _ _ _ _ _ _ _ h (aS hE)) ?_ ⟨rfl,.refl _⟩ ?_ ?_ ?_
 .intro j hj he x w h;have jo:j<11:=hj;rcases(by omega:j=0∨j=1∨j=2∨j=3∨j=4∨j=5∨j=6∨j=7∨j=8∨j=9∨j=10) with rfl|rfl|rfl|rfl|rfl|rfl|rfl|rfl|rfl|rfl|rfl<;>cases he
 .intro i f' S1 w5 rest hi dy hB hf hd dj;have BI:f' 0=.pointer (some ⟨X,0,none⟩):=(hf 0 (aV (by kernel_rfl))).trans (by simp[g0]);have v_:f' 6=.pointer (some ⟨bx,0,none⟩):=(hf 6 (aV (by kernel_rfl))).trans (by simp);have ft:i<11:=hi;clear hf;rcases(by omega:i=0∨i=1∨i=2∨i=3∨i=4∨i=5∨i=6∨i=7∨i=8∨i=9∨i=10) with rfl|rfl|rfl|rfl|rfl|rfl|rfl|rfl|rfl|rfl|rfl
  .clear hd;refine rY aB ?_;exact dj _ w5 (.refl w5) rfl
  .obtain⟨eS,hE⟩:=hB (by simp);subst S1;clear hd;refine gO aB rfl rfl (by kernel_rfl) (x:=.tmp 6) (b:=bx) (c:=bN e) rfl (by simp[v_]) (hE.row kl) (by kernel_rfl) (by kernel_rfl) ?_;exact dj _ w5 (.refl w5) rfl
  .have d0:f' 22=.pointer (some ⟨X,0,none⟩):=hd 0 (aD (by kernel_rfl));have d1:f' 23=.agg (bN e):=hd 1 (aD (by kernel_rfl));obtain⟨eS,hE⟩:=hB (by simp);subst S1;clear hd hB;refine dV Tryz.func64 (vC e dx ht jb gh eu (pq.ext hE)) ?_;rintro _ S1 w6 _ ⟨e1,ew,BL,PB,CP,rfl,du,OG⟩;subst S1;exact dj _ w6 ew ⟨BL,PB,CP,rfl,du,OG⟩
  .clear hd;refine rY aB ?_;exact dj _ w5 (.refl w5) rfl
  .have d0:f' 25=.pointer (some ⟨bx,0,none⟩):=hd 3 (aD (by kernel_rfl));clear hd;refine rY aB ?_;exact dj _ w5 (.refl w5) rfl
  .have d0:f' 26=.pointer (some ⟨bx,1,none⟩):=hd 4 (aD (by kernel_rfl));obtain⟨eS,hE⟩:=hB (by simp);subst S1;have c0:w5.cell? ⟨bx,1,none⟩=some (.int .i64 (e.size:Nat)):=(ab _ _ _ _ _ _ (hE.row kl)).trans rfl;clear hd hB;(refine rO aB rfl ?_;intro _ dt K_ dr;(have hc:=(Ext.twin dt).cell c0);go_simp;(try rw[wI _]);(try rw[wU _]);refine dr _ ?_;clear dr K_ dt;simp only[sS,sN]);exact dj _ w5 (.refl w5) rfl
  .exact absurd rfl dy
  .obtain⟨BV,d0,h1,h2⟩:∃BV,f' 28=.tuple #[sl BV e.size,.int .i64 0]∧bx<=BV∧w5.heap[BV]?=some (.cells (aE e.size e.val) 5):=hd 6 (aD (by kernel_rfl));clear hd;refine rY aB ?_;exact dj _ w5 (.refl w5) ⟨BV,rfl,h1,h2⟩
  .obtain⟨BV,d0,h1,h2⟩:∃BV,f' 28=.tuple #[sl BV e.size,.int .i64 0]∧bx<=BV∧w5.heap[BV]?=some (.cells (aE e.size e.val) 5):=hd 6 (aD (by kernel_rfl));clear hd;refine rY aB ?_;exact dj _ w5 (.refl w5) rfl
  .obtain⟨BV,d0,h1,h2⟩:∃BV,f' 29=sl BV e.size∧bx<=BV∧w5.heap[BV]?=some (.cells (aE e.size e.val) 5):=hd 7 (aD (by kernel_rfl));clear hd;refine rY aB ?_;exact dj _ w5 (.refl w5) ⟨BV,rfl,h1,h2⟩
  .have d0:f' 30=.int .i64 0:=hd 8 (aD (by kernel_rfl));clear hd;refine rY aB ?_;exact dj _ w5 (.refl w5) rfl
 .rintro f' S1 w5 rest ⟨eS,hB⟩ hf hd dj;subst S1;obtain⟨BL,PB,CP,d0,hP⟩:∃BL PB CP,f' 24=.slice (some ⟨BL,0,none⟩) 14 14∧kU e BL PB CP w5:=hd 2 (by simp);have d1:f' 27=.int .i64 (e.size:Nat):=hd 5 (by simp);have X9:bx<=w5.heap.size:=by have:=gn.size;have:=hB.size;omega
  clear hd hf;refine dV Tryz.func63 (Xr e BL PB CP dx.size dx.val dx.ten (by omega) hP) ?_;rintro _ S2 w6 _ ⟨BV,rfl,L1,qs,du⟩;exact dj _ S2 w6 (((Kp.refl v _).ext (gn.trans _ _ _ hB)).trans qs) ⟨BV,rfl,by omega,du⟩ λj y hj h=>Fc _ _ _ _ _ _ _ _ h qs
 .rintro f' S1 w5 hK hf hd;obtain⟨BV,d0,h1,h2⟩:∃BV,f' 4=sl BV e.size∧bx<=BV∧w5.heap[BV]?=some (.cells (aE e.size e.val) 5):=hd 9 (by decide);have d1:f' 5=.int .i64 0:=hd 10 (by decide);clear hf hd;repeat refine rN ?_
  refine aM λtodo=>?_;refine ret _ _ S1 w5 (.tuple #[sl BV e.size,.int .i64 0]) ?_ ⟨hK,BV,rfl,h1,h2⟩;simp[results,Tryz.results36,d0,d1]
theorem On(id:Nat)(hq:aQ id L 0=none)(po:1<=id)(hid:id<=9999)(hX:StE X D DB DA M RB RA nd nb turn s L v):aJ Tryz.prog 36 #[.pointer (some ⟨X,0,none⟩),.int .i64 (id:Nat)] S v λx S' v'=>S'=S∧Ext v v'∧x=.tuple #[.slice none 0 0,.int .i64 4]:=by
 refine cX Tryz.func36 rfl Tryz.ntmps36 λStop cc cs ret f g0 g1=>?_;obtain⟨clock,hm,qp⟩:=hX.map;have c1:=hX.c1;repeat refine rN ?_
 refine rK Tryz.func59 (qJ id po hid) ?_;rintro _ S2 w2 _ ⟨rfl,e1,e2⟩;subst S2 w2;repeat refine rN ?_
 refine rZ (by simp[Act.eval]) ?_;repeat refine rM c1 ?_
 refine lY rfl rfl rfl (x:=.tmp 15) (y:=.tmp 16) (id:=id) (by simp) (by simp[g1]) hm ?_;rw[hq];simp only[stO_some,fF];repeat refine rN ?_
 refine cD aB rfl rfl (by kernel_rfl) (.agg (aL 0 0 0 0 λ_=>false)) rfl (by kernel_rfl) λw3 ef km ma=>?_;simp only[stO_some];refine cS aB rfl rfl (by kernel_rfl) (x:=.tmp 6) (y:=.tmp 18) (g:=v.heap.size) (c:=aL 0 0 0 0 λ_=>false) rfl (by simp) (by simp) km (by kernel_rfl) rfl (by simp[aL,Value.oneCell']) λw4 jd=>?_;simp only[stO_none];have gn:Ext v w4:=bO ef (ae _) jd;repeat refine rN ?_
 refine rX (by simp[Act.eval]) ?_;repeat refine rN ?_
 refine aM λtodo=>?_;refine ret _ _ S w4 (.tuple #[.slice none 0 0,.int .i64 4]) ?_ ⟨rfl,gn,rfl⟩;simp[results,Tryz.results36]
theorem yB(L:List Ent)(id:Nat):(fH L id).Sublist L:=by
 unfold fH;cases aQ id L 0 with
 |none=>exact List.Sublist.refl _
 |some q=>exact List.eraseIdx_sublist ..
theorem Cv{α : Type} : ∀(L:List α)(n:Nat)(e:α),L[n]?=some e->L.Perm (e::L.eraseIdx n)
 |[],n,e,h=>by simp at h
 |x::L,0,e,h=>by simp at h;subst h;exact .refl _
 |x::L,n+1,e,h=>by simp at h;rw[List.eraseIdx_cons_succ];exact((Cv L n e h).cons x).trans (.swap _ _ _)
theorem El{L:List Ent}{id n:Nat}{e:Ent}(hq:aQ id L 0=some (n,e)):L.Perm (e::fH L id):=by
 obtain⟨n',hn,kg,_⟩:=eJ hq;obtain rfl:n=n':=by omega
 unfold fH;rw[hq];exact Cv L n e kg
theorem StE.del(h:StE X D DB DA M RB RA nd nb turn s L w){id clock:Nat}(hb:∀e∈L,e.born<clock)(hW:Wr w M (bL (fH L id) clock) w'):StE X D DB DA M RB RA nd nb turn s (fH L id) w':=
 have hs:=yB L id
 ⟨aO hW h.row (λe=>h.mn.2.1 e.symm),⟨clock,hW.at_,λe he=>hb e (hs.subset he)⟩,h.dk.kp ((Kp.refl w (λb=>b=M)).wr (.inl rfl) hW) (λe=>h.mn.1 (.inl e.symm)) (λe=>h.mn.2.2.1 e.symm) (λe=>h.mn.2.2.2 e.symm) (λd hd=>⟨λe=>h.mn.1 (.inr ⟨d,hd,.inl e.symm⟩),λe=>h.mn.1 (.inr ⟨d,hd,.inr e.symm⟩)⟩),λe he=>h.ent e (hs.subset he),List.Pairwise.sublist (hs.map _) h.ids,List.Pairwise.sublist (hs.map _) h.slots,List.Pairwise.sublist (hs.map _) h.borns⟩
theorem Se(id n:Nat)(e:Ent)(hq:aQ id L 0=some (n,e))(po:1<=id)(hid:id<=9999)(jb:14<=nd)(gh:nd<=18)(eu:nb<=64)(hX:StE X D DB DA M RB RA nd nb turn s L v):aJ Tryz.prog 48 #[.pointer (some ⟨X,0,none⟩),.int .i64 (id:Nat)] S v λx S' v'=>x=.int .i64 0∧S'=S∧Kp v (dG X D M RB RA nd) v'∧StE X D DB DA M RB RA nd nb turn (gW s e.slot e.good) (fH L id) v':=by
 refine cX Tryz.func48 rfl Tryz.ntmps48 λStop cc cs ret f g0 g1=>?_;obtain⟨n',hn,kg,LP⟩:=eJ hq;have he:e∈L:=al kg;have dx:=hX.ent e he;obtain⟨clock,hm,qp⟩:=hX.map;have c1:=hX.c1;repeat refine rN ?_
 refine rK Tryz.func59 (qJ id po hid) ?_;rintro _ S2 w2 _ ⟨rfl,e1,e2⟩;subst S2 w2;repeat refine rN ?_
 refine rZ (by simp[Act.eval]) ?_;repeat refine rM c1 ?_
 refine lY rfl rfl rfl (x:=.tmp 14) (y:=.tmp 15) (id:=id) (by simp) (by simp[g1]) hm ?_;rw[hq];simp only[stO_some,fF];repeat refine rN ?_
 refine cD aB rfl rfl (by kernel_rfl) (.agg (aL 0 0 0 0 λ_=>false)) rfl (by kernel_rfl) λw3 ef km ma=>?_;simp only[stO_some];refine cS aB rfl rfl (by kernel_rfl) (x:=.tmp 5) (y:=.tmp 17) (g:=v.heap.size) (c:=bN e) rfl (by simp) (by simp) km (by kernel_rfl) rfl (mF _) λw4 jd=>?_;simp only[stO_none];have gn:Ext v w4:=bO ef (ae _) jd;have pq:=hX.ext gn;have kl:=jd.at_;have c4:=pq.c1;have DF:w4.heap[M]?=some (bL L clock):=by rw[gn.block M (Array.getElem?_eq_some_iff.1 hm).1];exact hm
 generalize vb:v.heap.size=bx at *
 repeat refine rN ?_
 refine rZ (by simp[Act.eval]) ?_;repeat refine rM c4 ?_
 refine Kt rfl rfl rfl (x:=.tmp 24) (y:=.tmp 25) (id:=id) (by simp) (by simp[g1]) DF λw5 jc=>?_;simp only[stO_none];have AH:=pq.del qp jc;have FK:=aO jc kl (λh=>iP DF kl h.symm);have lz:Kp v (dG X D M RB RA nd) w5:=((Kp.refl v _).ext gn).wr (.inl (.inr (.inl rfl))) jc;have cs3:w5.cell? ⟨bx,3,none⟩=some (.int .i64 (e.slot:Nat)):=(ab _ _ _ _ _ _ FK).trans rfl;repeat refine rM cs3 ?_
 refine bV aB rfl rfl (by kernel_rfl) (λu hu=>sM (b:=bx) ((Ext.twin hu).row FK) (x:=.tmp 29) rfl (by simp)) ?_;simp only[stO_some];refine rK Tryz.func57 (yF e.good e.slot dx.slot jb gh eu AH.row AH.dk) ?_;rintro _ S2 w6 _ ⟨rfl,e1,qs,p5⟩;subst S2;repeat refine rN ?_
 refine aM λtodo=>?_;refine ret _ _ S w6 (.int .i64 0) ?_ ⟨rfl,rfl,lz.trans (qs.mono λb h=>.inr (.inr h)),AH.slotOff (p:=e.slot) (λe' sr h=>?_) qs p5 λd q qx=>kY qx⟩
 .simp[results,Tryz.results48]
 .have hp:=(El hq).map (·.slot);have:=(hp.nodup_iff).1 hX.slots;rw[List.map_cons,List.nodup_cons]at this;exact this.1 (List.mem_map.2 ⟨e',sr,h⟩)
end
