import Derived.Test.YtpiefebngnlfoabGreatDoorMe
set_option maxRecDepth 99999
set_option maxHeartbeats 0
set_option linter.unusedVariables false
set_option linter.unusedSimpArgs false
namespace Go.Proofs.YtpiefebngnlfoabGreatDoor
namespace Fld
def ev(c:Nat->Nat):Nat->Nat->Nat
 |0,_=>0
 |n+1,x=>c 0 ^^^ mul x (ev (fun i=>c (i+1)) n x)
theorem pI{x:Nat}(hx:x<256)(n:Nat):∀ {c:Nat->Nat},(∀ i,c i<256)->ev c n x<256:=by
 induction n with
 |zero=>intro c _;exact(by decide:0<256)
 |succ n ih=>intro c hc;exact xor_lt (hc 0) (mul_lt hx _)
theorem Ym{x:Nat}(n:Nat):∀ {c:Nat->Nat},(∀ i,i<n->c i=0)->ev c n x=0:=by
 induction n with
 |zero=>intro c _;rfl
 |succ n ih=>
  intro c hc;rw[ev,hc 0 (by omega),ih fun i hi=>hc (i+1) (by omega),mul_zero]
  rfl
theorem Jd{x:Nat}(hx:x<256)(n:Nat):∀ (c d:Nat->Nat),ev (fun i=>c i ^^^ d i) n x=ev c n x ^^^ ev d n x:=by
 induction n with
 |zero=>intro c d;simp[ev]
 |succ n ih=>
  intro c d;rw[ev,ev,ev,ih (fun i=>c (i+1)) (fun i=>d (i+1)),qZ];exact wH _ _ _ _
theorem Wn{a x:Nat}(ha:a<256)(hx:x<256)(n:Nat):∀ (c:Nat->Nat),(∀ i,c i<256)->ev (fun i=>mul a (c i)) n x=mul a (ev c n x):=by
 induction n with
 |zero=>intro c _;exact(mul_zero a).symm
 |succ n ih=>
  intro c hc;have h1:=pI hx n fun i=>hc (i+1)
  rw[ev,ev,ih (fun i=>c (i+1)) fun i=>hc (i+1),qZ,<-mul_assoc hx ha h1,<-mul_assoc ha hx h1,mul_comm ha hx]
theorem Yn{x:Nat}(n:Nat):∀ (c:Nat->Nat),ev (fun i=>if i<n then c i else 0) (n+1) x=ev c n x:=by
 induction n with
 |zero=>intro c;simp[ev,mul_zero]
 |succ n ih=>
  intro c;have h:=ih fun i=>c (i+1)
  show(if 0<n+1 then c 0 else 0) ^^^ mul x (ev (fun i=>if i+1<n+1 then c (i+1) else 0) (n+1) x)=c 0 ^^^ mul x (ev (fun i=>c (i+1)) n x)
  simp only[Nat.add_lt_add_iff_right,Nat.zero_lt_succ,if_true];rw[h]
theorem Wo{x:Nat}(n:Nat):∀ {c d:Nat->Nat},(∀ i,i<n->c i=d i)->ev c n x=ev d n x:=by
 induction n with
 |zero=>intro c d _;rfl
 |succ n ih=>
  intro c d h;rw[ev,ev,h 0 (by omega),ih fun i hi=>h (i+1) (by omega)]
theorem zaI{a:Nat}(ha:a<256)(n:Nat):∀ (c:Nat->Nat),(∀ i,c i<256)->∃ d:Nat->Nat,(∀ i,d i<256)∧(∀ x,x<256->ev c (n+1) x=mul (x ^^^ a) (ev d n x) ^^^ ev c (n+1) a)∧
  ((∀ i,i<n->d i=0)->ev c (n+1) a=0->∀ i,i<n+1->c i=0):=by
 induction n with
 |zero=>
  intro c hc;refine⟨fun _=>0,fun _=>Nat.zero_lt_succ _,fun x hx=>?_,fun _ h i hi=>?_⟩
  .simp[ev,mul_zero]
  .have:i=0:=by omega
   subst this;simpa [ev,mul_zero] using h
 |succ n ih=>
  intro c hc;obtain⟨d,hd,he,hz⟩:=ih (fun i=>c (i+1)) fun i=>hc (i+1)
  have hr:=pI ha (n+1) fun i=>hc (i+1)
  refine⟨fun i=>if i=0 then ev (fun i=>c (i+1)) (n+1) a else d (i - 1),fun i=>?_,fun x hx=>?_,fun h0 h1 i hi=>?_⟩
  .by_cases h:i=0<;>simp only[h,if_true,if_false]
   .exact hr
   .exact hd _
  .have hD:=pI hx n hd;have hxa:=xor_lt hx ha;have e:ev (fun i=>if i=0 then ev (fun i=>c (i+1)) (n+1) a else d (i - 1)) (n+1) x=ev (fun i=>c (i+1)) (n+1) a ^^^ mul x (ev d n x):=rfl
   show c 0 ^^^ mul x (ev (fun i=>c (i+1)) (n+1) x)=mul (x ^^^ a) (ev (fun i=>if i=0 then ev (fun i=>c (i+1)) (n+1) a else d (i - 1)) (n+1) x) ^^^ (c 0 ^^^ mul a (ev (fun i=>c (i+1)) (n+1) a))
   rw[e,he x hx];generalize ev (fun i=>c (i+1)) (n+1) a=r at hr;generalize ev d n x=D at hD;rw[qZ,qZ,<-mul_assoc hx hxa hD,mul_comm hx hxa,mul_assoc hxa hx hD,add_mul hx ha r];have e2:∀ p q z c:Nat,c ^^^ (z ^^^ p)=((p ^^^ q) ^^^ z) ^^^ (c ^^^ q):=fun p q z c=>by
    have:((p ^^^ q) ^^^ z) ^^^ (c ^^^ q)=(c ^^^ (z ^^^ p)) ^^^ (q ^^^ q):=by ac_rfl
    rw[this,Nat.xor_self,Nat.xor_zero]
   exact e2 _ _ _ _
  .have hr0:ev (fun i=>c (i+1)) (n+1) a=0:=by have:=h0 0 (by omega);simpa using this
   have hc':=hz (fun i hi=>by have:=h0 (i+1) (by omega);simpa using this) hr0;cases i with
   |zero=>
    rw[ev,hr0,mul_zero,Nat.xor_zero]at h1;exact h1
   |succ i=>exact hc' i (by omega)
theorem zbK(n:Nat):∀ (c:Nat->Nat) (p:Nat->Nat),(∀ i,c i<256)->(∀ i,i<n->p i<256)->(∀ i j,i<n->j<n->p i=p j->i=j)->(∀ i,i<n->ev c n (p i)=0)->∀ i,i<n->c i=0:=by
 induction n with
 |zero=>intro c p _ _ _ _ i hi;omega
 |succ n ih=>
  intro c p hc hp hinj hev;obtain⟨d,hd,he,hz⟩:=zaI (hp n (by omega)) n c hc;refine hz (ih d p hd (fun i hi=>hp i (by omega)) (fun i j hi hj=>hinj i j (by omega) (by omega)) fun i hi=>?_) (hev n (by omega))
  have h:=he (p i) (hp i (by omega));rw[hev i (by omega),hev n (by omega),Nat.xor_zero]at h;have hne:p i ^^^ p n≠0:=by
   intro e;have:p i=p n:=by
    have:=xM (p i) (p n);rw[e,Nat.zero_xor]at this;exact this.symm
   have:=hinj i n (by omega) (by omega) this;omega
  have hlt:=pI (hp i (by omega)) n hd;rcases(Np (xor_lt (hp i (by omega)) (hp n (by omega))) hlt).1 h.symm with e|e
  .exact absurd e hne
  .exact e
theorem Io{a b:Nat}(h:a ^^^ b=0):a=b:=by
 have:=xM a b;rw[h,Nat.zero_xor]at this;exact this.symm
def IsP(n:Nat)(f:Nat->Nat):Prop:=∃ c:Nat->Nat,(∀ i,c i<256)∧∀ x,x<256->f x=ev c n x
theorem IsP.weak{n:Nat}{f:Nat->Nat}(h:IsP n f):IsP (n+1) f:=by
 obtain⟨c,hc,he⟩:=h;refine⟨fun i=>if i<n then c i else 0,fun i=>?_,fun x hx=>by rw[he x hx,Yn]⟩
 by_cases e:i<n<;>simp[e,hc]
theorem IsP.add{n:Nat}{f g:Nat->Nat}(h:IsP n f)(h':IsP n g):IsP n fun x=>f x ^^^ g x:=by
 obtain⟨c,hc,he⟩:=h;obtain⟨d,hd,he'⟩:=h';exact⟨fun i=>c i ^^^ d i,fun i=>xor_lt (hc i) (hd i),fun x hx=>by rw[Jd hx,<-he x hx,<-he' x hx]⟩
theorem IsP.scale{n:Nat}{f:Nat->Nat}{a:Nat}(h:IsP n f)(ha:a<256):IsP n fun x=>mul (f x) a:=by
 obtain⟨c,hc,he⟩:=h;exact⟨fun i=>mul a (c i),fun i=>mul_lt ha _,fun x hx=>by rw[Wn ha hx n c hc,<-mul_comm (pI hx n hc) ha,<-he x hx]⟩
theorem IsP.times{n:Nat}{f:Nat->Nat}{a:Nat}(h:IsP n f)(ha:a<256):IsP (n+1) fun x=>mul (f x) (x ^^^ a):=by
 obtain⟨c,hc,he⟩:=h
 have h1:IsP (n+1) fun x=>mul x (ev c n x):=⟨fun i=>if i=0 then 0 else c (i - 1),fun i=>by by_cases e:i=0<;>simp[e,hc],fun x hx=>by
  show mul x (ev c n x)=0 ^^^ mul x (ev c n x)
  rw[Nat.zero_xor]⟩
 have h2:IsP (n+1) fun x=>mul (ev c n x) a:=(IsP.scale ⟨c,hc,fun _ _=>rfl⟩ ha).weak
 obtain⟨d,hd,hd'⟩:=h1.add h2;refine⟨d,hd,fun x hx=>?_⟩
 rw[<-hd' x hx];show mul (f x) (x ^^^ a)=mul x (ev c n x) ^^^ mul (ev c n x) a;rw[he x hx,qZ,mul_comm (pI hx n hc) hx]
theorem IsP.zero(n:Nat):IsP n fun _=>0:=⟨fun _=>0,fun _=>Nat.zero_lt_succ _,fun x hx=>(Ym n fun _ _=>rfl).symm⟩
theorem IsP.one:IsP 1 fun _=>1:=⟨fun _=>1,fun _=>(Nat.succ_lt_succ (Nat.zero_lt_succ _)),fun x hx=>by simp[ev,mul_zero]⟩
theorem Zi{n:Nat}{f g:Nat->Nat}(hf:IsP n f)(hg:IsP n g)(p:Nat->Nat)(hp:∀ i,i<n->p i<256)(hinj:∀ i j,i<n->j<n->p i=p j->i=j)(h:∀ i,i<n->f (p i)=g (p i))(x:Nat)(hx:x<256):f x=g x:=by
 obtain⟨c,hc,he⟩:=hf;obtain⟨d,hd,he'⟩:=hg;have hz:=zbK n (fun i=>c i ^^^ d i) p (fun i=>xor_lt (hc i) (hd i)) hp hinj fun i hi=>by
  rw[Jd (hp i hi),<-he _ (hp i hi),<-he' _ (hp i hi),h i hi,Nat.xor_self]
 rw[he x hx,he' x hx];exact Wo n fun i hi=>Io (hz i hi)
theorem Wq{known:Nat->Nat}{j:Nat}(m:Nat)(hk:∀ i,i<m->known i<256):IsP (if j<m then m else m+1) fun x=>dist known j x m:=by
 induction m with
 |zero=>exact IsP.one
 |succ m ih=>
  have ih:=ih fun i hi=>hk i (by omega)
  by_cases e:m=j
  .have h1:¬j<m:=by omega
   have h2:j<m+1:=by omega
   rw[if_neg h1]at ih;rw[if_pos h2];simpa only[dist,if_pos e] using ih
  .have h:IsP ((if j<m then m else m+1)+1) fun x=>mul (dist known j x m) (x ^^^ known m):=ih.times (hk m (by omega))
   have e2:(if j<m then m else m+1)+1=if j<m+1 then m+1 else m+1+1:=by
    by_cases h1:j<m
    .rw[if_pos h1,if_pos (by omega)]
    .rw[if_neg h1,if_neg (by omega)]
   rw[e2]at h;simpa only[dist,if_neg e] using h
theorem Xn{known:Nat->Nat}{j:Nat}(hj:j<10)(hk:∀ i,i<10->known i<256):IsP 10 fun x=>wgt known x j:=by
 have h:=Wq (j:=j) 10 hk;rw[if_pos hj]at h;exact h.scale (inv_lt _)
theorem comb_isP{known:Nat->Nat}(hk:∀ i,i<10->known i<256){x:Nat->Nat->Nat}{i:Nat}(hx:∀ j,x j i<256)(m:Nat)(hm:m<=10):IsP 10 fun k=>comb (wgt known k) x m i:=by
 induction m with
 |zero=>exact IsP.zero 10
 |succ m ih=>
  exact(ih (by omega)).add ((Xn (by omega) hk).scale (hx m))
theorem Tm{known:Nat->Nat}{j k:Nat}(m:Nat)(i:Nat)(hi:i<m)(hij:i≠j)(he:known i=k):dist known j k m=0:=by
 induction m with
 |zero=>omega
 |succ m ih=>
  unfold dist;split
  .exact ih (by omega)
  .rcases Nat.lt_or_ge i m with h|h
   .rw[ih h,jQ]
   .have:i=m:=by omega
    subst this;rw[he,Nat.xor_self,mul_zero]
theorem Yp{known:Nat->Nat}{j k:Nat}(hk:k<256)(m:Nat)(hkn:∀ i,i<m->known i<256)(h:∀ i,i<m->i≠j->known i≠k):dist known j k m≠0:=by
 induction m with
 |zero=>exact(by decide:(1:Nat)≠0)
 |succ m ih=>
  have ih:=ih (fun i hi=>hkn i (by omega)) fun i hi=>h i (by omega)
  unfold dist;split
  .exact ih
  .rename_i e;exact Iy (dist_lt _ _ _ _) (xor_lt hk (hkn m (by omega))) ih fun e2=>h m (by omega) e (Io e2).symm
theorem Zf{known:Nat->Nat}(hk:∀ i,i<10->known i<256)(hinj:∀ i j,i<10->j<10->known i=known j->i=j){m j:Nat}(hm:m<10)(hj:j<10):wgt known (known m) j=if m=j then 1 else 0:=by
 unfold wgt;by_cases e:m=j
 .subst e;rw[if_pos rfl];exact Yf (dist_lt _ _ _ _) (Yp (hk m hm) 10 hk fun i hi hne e2=>hne (hinj i m hi hm e2))
 .rw[if_neg e,Tm 10 m hm e rfl,jQ]
theorem Ts{wt:Nat->Nat}{x:Nat->Nat->Nat}{i j:Nat}(n:Nat)(hw:∀ m,m<n->wt m=if j=m then 1 else 0)(hx:∀ j,x j i<256):comb wt x n i=if j<n then x j i else 0:=by
 induction n with
 |zero=>simp[comb]
 |succ n ih=>
  rw[comb,ih fun m hm=>hw m (by omega),hw n (by omega)]
  by_cases e:j=n
  .subst e;simp[one_mul (hx j)]
  .by_cases h:j<n
   .rw[if_pos h,if_neg e,if_pos (by omega),jQ,Nat.xor_zero]
   .rw[if_neg h,if_neg e,if_neg (by omega),jQ,Nat.xor_zero]
theorem comb_at{known:Nat->Nat}(hk:∀ i,i<10->known i<256)(hinj:∀ i j,i<10->j<10->known i=known j->i=j){x:Nat->Nat->Nat}{i m:Nat}(hx:∀ j,x j i<256)(hm:m<10):comb (wgt known (known m)) x 10 i=x m i:=by
 rw[Ts (j:=m) 10 (fun q hq=>Zf hk hinj hm hq) hx,if_pos hm]
theorem comb_back{known:Nat->Nat}(hk:∀ i,i<10->known i<256)(hinj:∀ i j,i<10->j<10->known i=known j->i=j){f:Nat->Nat->Nat}{i:Nat}(hf:IsP 10 fun k=>f k i)(hlt:∀ k,f k i<256)(k:Nat)(h:k<256):comb (wgt known k) (fun j=>f (known j)) 10 i=f k i:=
 Zi (comb_isP hk (fun j=>hlt (known j)) 10 (Nat.le_refl _)) hf known hk hinj (fun m hm=>comb_at hk hinj (fun j=>hlt (known j)) hm) k h
end Fld
open Go.RowKit Go.Conc Go.Vw
theorem Yq{x:Nat->Nat}(h:∀ i,x i<256)(L i:Nat):Fld.IsP 10 fun k=>oY id (dI x L ((L+9) / 10)) k i:=
 Fld.comb_isP (fun i hi=>by simp only[id];omega) (fun j=>Al h _ _ _ _) 10 (Nat.le_refl _)
theorem Tq{x:Nat->Nat}(h:∀ i,x i<256)(L k i:Nat):bC x L k i=oY id (dI x L ((L+9) / 10)) k i:=by
 unfold bC;split
 .rename_i hk;exact(Fld.comb_at (known:=id) (x:=dI x L ((L+9) / 10)) (i:=i) (m:=k) (fun i hi=>by simp only[id];omega) (fun i j _ _ e=>e) (fun j=>Al h _ _ _ _) hk).symm
 .rfl
theorem Vv{x:Nat->Nat}(h:∀ i,x i<256)(L:Nat){kn:Nat->Nat}(hk:∀ i,i<10->kn i<14)(hinj:∀ i j,i<10->j<10->kn i=kn j->i=j){k:Nat}(hk14:k<14)(i:Nat):mY kn (bC x L) k i=bC x L k i:=by
 unfold mY;split
 .have hf:Fld.IsP 10 fun k=>bC x L k i:=by
   obtain⟨c,hc,he⟩:=Yq h L i;exact⟨c,hc,fun y hy=>(Tq h L y i).trans (he y hy)⟩
  exact Fld.comb_back (fun i hi=>by have:=hk i hi;omega) hinj hf (fun k=>lC h L k i) k (by omega)
 .rfl
def pN(q:Nat->Option Addr):Nat->Nat
 |0=>0
 |i+1=>pN q i+if (q i).isSome=true then 1 else 0
theorem Yi(q:Nat->Option Addr)(i:Nat):(aW q i).1=min 10 (pN q i):=by
 induction i with
 |zero=>rfl
 |succ i ih=>
  unfold aW pN;by_cases h:(q i).isSome=true
  .by_cases h10:(aW q i).1<10
   .rw[if_pos ⟨h,h10⟩,if_pos h];show(aW q i).1+1=_;omega
   .rw[if_neg (fun e=>h10 e.2),if_pos h];omega
  .rw[if_neg (fun e=>h e.1),if_neg h];exact ih
theorem zbV{q:Nat->Option Addr}(h:10<=pN q 14):(aW q 14).1=10∧(∀ i,i<10->(aW q 14).2 i<14)∧∀ i j,i<10->j<10->(aW q 14).2 i=(aW q 14).2 j->i=j:=by
 have h1:(aW q 14).1=10:=by rw[Yi];omega
 have h2:=Jc q 14;rw[h1]at h2;refine⟨h1,fun i hi=>(h2 i hi).1,fun i j hi hj e=>?_⟩
 rcases Nat.lt_trichotomy i j with hlt|he|hgt
 .have:=(h2 j hj).2.2 i hlt;omega
 .exact he
 .have:=(h2 i hi).2.2 j hgt;omega
theorem Wu(x:Nat->Nat)(L i:Nat)(h:i<L):bC x L (i / ((L+9) / 10)) (i % ((L+9) / 10))=x i:=by
 have hm:0<(L+9) / 10:=by omega
 have h1:i / ((L+9) / 10)<10:=by
  rw[Nat.div_lt_iff_lt_mul hm];omega
 have h2:i / ((L+9) / 10)*((L+9) / 10)+i % ((L+9) / 10)=i:=Nat.div_add_mod' _ _;unfold bC;rw[if_pos h1];unfold dI;rw[h2,if_pos h]
def dS(w:World)(B m:Nat)(y:Nat->Nat):Prop:=∃ C:Array Value,w.heap[B]?=some (.cells C 5)∧∀ j,j<m->C[j]?=some (.int .u8 (y j:Nat))
theorem dS.ext{w w':World}{B m:Nat}{y:Nat->Nat}(h:dS w B m y)(hE:Ext w w'):dS w' B m y:=let ⟨C,h1,h2⟩:=h;⟨C,hE.row h1,h2⟩
theorem dS.wr{w w':World}{B m g:Nat}{y:Nat->Nat}{o:Array Value}{c:Array Value}{t:TypeId}(h:dS w B m y)(hg:w.heap[g]?=some (.cells c t))(ht:t≠5)(hW:Wr w g (.cells o t) w'):dS w' B m y:=by
 obtain⟨C,h1,h2⟩:=h;exact⟨C,aO hW h1 (bQ h1 hg (fun e=>ht e.symm)),h2⟩
theorem dS.of{w:World}{B m:Nat}{y:Nat->Nat}(h:dX w B 0 m y)(hC:∃ C,w.heap[B]?=some (.cells C 5)):dS w B m y:=by
 obtain⟨C,hC⟩:=hC;refine⟨C,hC,fun j hj=>?_⟩
 have:=h j hj;rw[Nat.zero_add,cell_of_row _ _ _ _ _ _ hC]at this;exact this
theorem dS.bytes{w:World}{B m:Nat}{y:Nat->Nat}(h:dS w B m y):dX w B 0 m y:=by
 obtain⟨C,h1,h2⟩:=h;intro j hj;rw[Nat.zero_add,cell_of_row _ _ _ _ _ _ h1];exact h2 j hj
def rP(V X D bx k slot id size turn m:Nat)(y:Nat->Nat)(j:Nat)(x:Value)(w:World):Prop:=
 match j with
 |0=>x=.pointer (some ⟨X,0,none⟩)
 |1=>x=.pointer (some ⟨X,0,none⟩)
 |2=>x=.pointer (some ⟨X,0,none⟩)
 |3=>x=.pointer (some ⟨D,0,none⟩)
 |4=>x=.int .i64 (k:Nat)
 |5=>x=.pointer (some ⟨bx,3,none⟩)
 |6=>x=.int .i64 (slot:Nat)
 |7=>∃ B c,x=.tuple #[.agg (bI id size turn k (some ⟨B,0,none⟩) m c),.bool true]∧m<=c∧dS w B m y
 |8=>∃ B c,x=.tuple #[.agg (bI id size turn k (some ⟨B,0,none⟩) m c),.bool true]∧m<=c∧dS w B m y
 |9=>∃ B c,x=.agg (bI id size turn k (some ⟨B,0,none⟩) m c)∧m<=c∧dS w B m y
 |10=>x=.bool true
 |11=>∃ g,x=.pointer (some ⟨g,0,none⟩)∧V<=g∧∃ c:Array Value,c.size=5∧w.heap[g]?=some (.cells c 143)
 |_=>True
theorem Ra(V X D bx k slot id size turn m:Nat)(y:Nat->Nat):∀ j x w w',rP V X D bx k slot id size turn m y j x w->Ext w w'->rP V X D bx k slot id size turn m y j x w':=by
 intro j x w w' h hE;unfold rP at h ⊢;split at h<;>first|exact h|skip
 .obtain⟨B,c,e,h1,h2⟩:=h;exact⟨B,c,e,h1,h2.ext hE⟩
 .obtain⟨B,c,e,h1,h2⟩:=h;exact⟨B,c,e,h1,h2.ext hE⟩
 .obtain⟨B,c,e,h1,h2⟩:=h;exact⟨B,c,e,h1,h2.ext hE⟩
 .obtain⟨g,e,h1,c,h2,hg⟩:=h;exact⟨g,e,h1,c,h2,hE.row hg⟩
def GL(good:Nat->Bool)(PB CP:Nat->Nat)(m k i:Nat):Value:=if i<k∧good i=true then .slice (some ⟨PB i,0,none⟩) m (CP i) else .slice none 0 0
theorem zaS(good:Nat->Bool)(PB CP:Nat->Nat)(m k B c:Nat)(hk:good k=true):(allA (GL good PB CP m k)).setIfInBounds k (.slice (some ⟨B,0,none⟩) m c)=allA (GL good (fun i=>if i=k then B else PB i) (fun i=>if i=k then c else CP i) m (k+1)):=by
 rw[vD];refine mM fun i _=>?_
 unfold GL;by_cases e:i=k
 .subst e;simp[hk]
 .by_cases h:i<k
  .have:i<k+1:=by omega
   simp[e,h,this]
  .have:¬i<k+1:=by omega
   simp[e,h,this]
theorem Zc(good:Nat->Bool)(PB CP:Nat->Nat)(m k:Nat)(hk:good k=false):allA (GL good PB CP m k)=allA (GL good PB CP m (k+1)):=by
 refine mM fun i _=>?_
 unfold GL;by_cases e:i=k
 .subst e;simp[hk]
 .by_cases h:i<k
  .have:i<k+1:=by omega
   simp[h,this]
  .have:¬i<k+1:=by omega
   simp[h,this]
section
variable {X D DB DA M:Nat}{RB RA:Nat->Nat}{nd nb turn:Nat}{s:Dsk}{L:List Ent}{w w' v:World}{S:Nat->Prop}
theorem Dg{g:Nat->Bool}{o:Oper}{a:Act}{k:Nat}{u:World}{x y:Operand}(hk:k<14)(hop:o.op=.index 79 x y)(hx:a.eval x=.agg (kF g))(hy:a.eval y=.int .i64 (k:Nat)):(execOp a.eval o).run Tryz.prog u=.ok (.value (.bool (g k))) u:=by
 unfold execOp;simp only[hop,hx,hy];rcases(by omega:k=0∨k=1∨k=2∨k=3∨k=4∨k=5∨k=6∨k=7∨k=8∨k=9∨k=10∨k=11∨k=12∨k=13) with rfl|rfl|rfl|rfl|rfl|rfl|rfl|rfl|rfl|rfl|rfl|rfl|rfl|rfl<;>rfl
theorem wY{T:Nat}(e:Ent)(hok:EntOk nb T s.c e)(ht:T<18446744073709551616)(hn1:14<=nd)(hnd:nd<=18)(hnb:nb<=64)(hX:StE X D DB DA M RB RA nd nb turn s L v) :
  aJ Tryz.prog 52 #[.pointer (some ⟨X,0,none⟩),.agg (bN e)] S v fun x S' v'=>S'=S∧Ext v v'∧∃ BL PB CP,x=.slice (some ⟨BL,0,none⟩) 14 14∧v'.heap[BL]?=some (.cells (allA (GL e.good PB CP ((e.size+9) / 10) 14)) 48)∧∀ k,k<14->e.good k=true->(e.size+9) / 10<=CP k∧dS v' (PB k) ((e.size+9) / 10) (bC e.val e.size k):=by
 refine dH Tryz.func52 rfl Tryz.ntmps52 fun Stop cc cs ret f g0 g1=>?_
 repeat refine rN ?_
 refine bS (Q:=fun y w=>y=.pointer (some ⟨v.heap.size,0,none⟩)∧Ext v w∧w.heap[v.heap.size]?=some (.cells (bN e) 81)) aB rfl rfl (by kernel_rfl) (fun u hu=>⟨_,_,.inl (gK (x:=.tmp 1) (y:=.agg (bN e)) rfl (by simp[g1]) u),by rw[hu.heap],(Ext.twin hu).trans _ _ _ (Ext.alloc _ _),by rw[<-hu.heap];exact cN _ _⟩) ?_
 rintro _ w1 ⟨rfl,hE1,hb1⟩;simp only[stO_some];repeat refine rN ?_
 refine mK aB rfl rfl (by kernel_rfl) rfl (m:=14) (wd:=24) (z:=.slice none 0 0) (by simp) (by simp) (by omega) (by omega) (by omega) Tryz.underlying93 (by kernel_rfl) rfl fun w2 hE2 hr2 hs2=>?_
 simp only[stO_some];have hr2':w2.heap[w1.heap.size]?=some (.cells (allA (GL e.good (fun _=>0) (fun _=>0) ((e.size+9) / 10) 0)) 48):=hr2;have hvw:v.heap.size<w1.heap.size:=(Array.getElem?_eq_some_iff.1 hb1).1;generalize hBLd:w1.heap.size=BL at *
 have hb2:=hE2.row hb1;generalize hbx:v.heap.size=bx at *
 repeat refine rN ?_
 refine cR aB rfl rfl (by kernel_rfl) (fun u hu=>uD (b:=bx) ((Ext.twin hu).row hb2) (x:=.tmp 11) rfl (by simp)) ?_;simp only[stO_some];repeat refine rN ?_
 generalize hmm:(e.size+9) / 10=m at *
 have HM:=aG hmm;clear hmm;refine bP (fun d f' S' w=>∃ k PB CP,d=14 - k∧k<=14∧S'=S∧Ext v w∧Ext w1 w∧w.heap[BL]?=some (.cells (allA (GL e.good PB CP m k)) 48)∧(∀ i,i<k->e.good i=true->m<=CP i∧dS w (PB i) m (bC e.val e.size i))∧f' 0=.pointer (some ⟨X,0,none⟩)∧f' 3=.pointer (some ⟨bx,0,none⟩)∧f' 5=.slice (some ⟨BL,0,none⟩) 14 14∧f' 12=.agg (kF e.good)∧f' 13=.int .i64 (k:Nat)) 14 ⟨0,fun _=>0,fun _=>0,by omega,by omega,rfl,hE1.trans _ _ _ hE2,hE2,hr2',fun i hi=>by omega,by simp[g0],by simp,by simp,by simp,by simp⟩ ?_
 clear g0 g1 f;rintro d f S' w ⟨k,PB,CP,rfl,hk,eS,hEw,hE1w,hrow,hrb,g0,g3,g5,g12,g13⟩ nxt;subst S';have hXw:=hX.ext hEw;have hbw:=hE1w.row hb1;repeat refine rN ?_
 by_cases hlt:k<14
 .have hkI:(k:Int)<14:=by omega
  refine rX (by simp[Act.eval,g13,hkI]) ?_;repeat refine rN ?_
  refine cR aB rfl rfl (by kernel_rfl) (fun u hu=>Dg (g:=e.good) hlt (x:=.tmp 12) (y:=.tmp 13) rfl (by simp[g12]) (by simp[g13])) ?_;simp only[stO_some];obtain⟨gk,hgk⟩:∃ gk,e.good k=gk:=⟨_,rfl⟩;have HG:=aG hgk;rw[hgk];clear hgk;cases gk with
  |false=>
   repeat refine rN ?_
   refine rX (by simp[Act.eval]) ?_;refine bH rfl ?_;repeat refine rN ?_
   refine nxt _ _ _ (14 - (k+1)) (by omega) ⟨k+1,PB,CP,rfl,by omega,rfl,hEw,hE1w,by rw[<-Zc _ _ _ _ _ HG.out];exact hrow,fun i hi hgi=>?_,by simp[g0],by simp[g3],by simp[g5],by simp[g12],by simp⟩
   by_cases e1:i=k
   .subst e1;rw[HG.out]at hgi;cases hgi
   .exact hrb i (by omega) hgi
  |true=>
  repeat refine rN ?_
  refine rZ (by simp[Act.eval]) ?_;repeat refine rN ?_
  refine jO (by kernel_rfl) (by kernel_rfl) (by kernel_rfl) 12 [0,1,2,3,4,5,6,7,8,9,11] (by kernel_rfl) (rP w.heap.size X D bx k e.slot e.id e.size e.turn m (bC e.val e.size k)) (fun S' w'=>S'=S∧Ext w w') (fun S' f w'=>S'=S∧Ext w w'∧∃ g B c,f 8=.pointer (some ⟨g,0,none⟩)∧w.heap.size<=g∧m<=c∧w'.heap[g]?=some (.cells (bI e.id e.size e.turn k (some ⟨B,0,none⟩) m c) 143)∧dS w' B m (bC e.val e.size k)) (fun S' w w' h hE=>⟨h.1,h.2.trans _ _ _ hE⟩) (fun S' i f x w3 w4 hi hA hm' h hE=>?_) (Ra _ _ _ _ _ _ _ _ _ _ _) ?_ ⟨rfl,.refl _⟩ ?_ ?_ ?_
  .obtain⟨h1,h2,g,B,c,q1,q2,q3,q4,q5⟩:=h;refine⟨h1,h2.trans _ _ _ hE,g,B,c,?_,q2,q3,hE.row q4,q5.ext hE⟩;have hi':i<14:=hi;simp at hA;rcases(by omega:i=10∨i=13) with rfl|rfl
   .exact q1
   .exact q1
  .intro j hj he x w h;have hj':j<14:=hj;rcases(by omega:j=0∨j=1∨j=2∨j=3∨j=4∨j=5∨j=6∨j=7∨j=8∨j=9∨j=10∨j=11∨j=12∨j=13) with rfl|rfl|rfl|rfl|rfl|rfl|rfl|rfl|rfl|rfl|rfl|rfl|rfl|rfl<;>first|exact trivial|cases he
  .intro i f' S1 w3 rest hi hne hB hf hd nxt2;have g0':f' 0=.pointer (some ⟨X,0,none⟩):=(hf 0 (aS (by kernel_rfl))).trans (by simp[g0]);have g3':f' 3=.pointer (some ⟨bx,0,none⟩):=(hf 3 (aS (by kernel_rfl))).trans (by simp[g3]);have g6':f' 6=.int .i64 (k:Nat):=(hf 6 (aS (by kernel_rfl))).trans (by simp);have hi':i<14:=hi;clear hf;rcases(by omega:i=0∨i=1∨i=2∨i=3∨i=4∨i=5∨i=6∨i=7∨i=8∨i=9∨i=10∨i=11∨i=12∨i=13) with rfl|rfl|rfl|rfl|rfl|rfl|rfl|rfl|rfl|rfl|rfl|rfl|rfl|rfl
   .clear hd;refine rY aB ?_;exact nxt2 _ w3 (.refl w3) rfl
   .have d0:f' 20=.pointer (some ⟨X,0,none⟩):=hd 0 (aD (by kernel_rfl));clear hd;refine rY aB ?_;exact nxt2 _ w3 (.refl w3) rfl
   .have d0:f' 21=.pointer (some ⟨X,0,none⟩):=hd 1 (aD (by kernel_rfl));clear hd;refine rY aB ?_;exact nxt2 _ w3 (.refl w3) rfl
   .have d0:f' 22=.pointer (some ⟨X,0,none⟩):=hd 2 (aD (by kernel_rfl));obtain⟨eS,hE⟩:=hB (by simp);subst S1;have c0:=(hXw.ext hE).c0;clear hd hB;(refine rO aB rfl ?_;intro _ hu_ K_ hK_;(have hc:=(Ext.twin hu_).cell c0);go_simp;(try rw[wI _]);(try rw[wU _]);refine hK_ _ ?_;clear hK_ K_ hu_;simp only[sS,sN]);exact nxt2 _ w3 (.refl w3) rfl
   .clear hd;refine rY aB ?_;exact nxt2 _ w3 (.refl w3) rfl
   .clear hd;refine rY aB ?_;exact nxt2 _ w3 (.refl w3) rfl
   .have d0:f' 25=.pointer (some ⟨bx,3,none⟩):=hd 5 (aD (by kernel_rfl));obtain⟨eS,hE⟩:=hB (by simp);subst S1;have c0:w3.cell? ⟨bx,3,none⟩=some (.int .i64 (e.slot:Nat)):=(cell_of_row _ _ _ _ _ _ (hE.row hbw)).trans rfl;clear hd hB;(refine rO aB rfl ?_;intro _ hu_ K_ hK_;(have hc:=(Ext.twin hu_).cell c0);go_simp;(try rw[wI _]);(try rw[wU _]);refine hK_ _ ?_;clear hK_ K_ hu_;simp only[sS,sN]);exact nxt2 _ w3 (.refl w3) rfl
   .have d0:f' 23=.pointer (some ⟨D,0,none⟩):=hd 3 (aD (by kernel_rfl));have d1:f' 24=.int .i64 (k:Nat):=hd 4 (aD (by kernel_rfl));have d2:f' 26=.int .i64 (e.slot:Nat):=hd 6 (aD (by kernel_rfl));obtain⟨eS,hE⟩:=hB (by simp);subst S1;clear hd hB;refine cY Tryz.func78 (Ia e.id e.size e.turn k m k e.slot (bC e.val e.size k) hok.id2 hok.id1 hok.size hlt (by have:=hok.turn;omega) (by have:=HM.out;omega) (lC hok.val _ _) (by omega) hok.slot hnd hnb (hXw.ext hE).dk.old (fun j hj=>by have h1:=hok.blk k hlt HG.out j hj;rw[HM.out]at h1;exact h1)) ?_;rintro _ S1 w4 _ ⟨e1,hE4,B,cp,rfl,hcp,hB,hby,hC⟩;subst S1;exact nxt2 _ w4 hE4 ⟨B,cp,rfl,hcp,dS.of hby hC⟩
   .obtain⟨B,cp,d0,hcp,hr⟩:∃ B c,f' 27=.tuple #[.agg (bI e.id e.size e.turn k (some ⟨B,0,none⟩) m c),.bool true]∧m<=c∧dS w3 B m (bC e.val e.size k):=hd 7 (aD (by kernel_rfl));clear hd;refine rY aB ?_;exact nxt2 _ w3 (.refl w3) ⟨B,cp,rfl,hcp,hr⟩
   .obtain⟨B,cp,d0,hcp,hr⟩:∃ B c,f' 19=.tuple #[.agg (bI e.id e.size e.turn k (some ⟨B,0,none⟩) m c),.bool true]∧m<=c∧dS w3 B m (bC e.val e.size k):=hd 8 (aD (by kernel_rfl));clear hd;refine rY aB ?_;exact nxt2 _ w3 (.refl w3) ⟨B,cp,rfl,hcp,hr⟩
   .obtain⟨B,cp,d0,hcp,hr⟩:∃ B c,f' 19=.tuple #[.agg (bI e.id e.size e.turn k (some ⟨B,0,none⟩) m c),.bool true]∧m<=c∧dS w3 B m (bC e.val e.size k):=hd 8 (aD (by kernel_rfl));clear hd;refine rY aB ?_;exact nxt2 _ w3 (.refl w3) rfl
   .obtain⟨eS,hE⟩:=hB (by simp);clear hd hB;refine cM aB rfl rfl (by kernel_rfl) (.agg iU) rfl (by kernel_rfl) fun w4 hE4 hb4 hs4=>?_
    exact nxt2 _ w4 hE4 ⟨_,rfl,hE.size,_,rfl,hb4⟩
   .exact absurd rfl hne
   .have d0:f' 29=.bool true:=hd 10 (aD (by kernel_rfl));clear hd;refine rY aB ?_;exact nxt2 _ w3 (.refl w3) trivial
  .rintro f' S1 w3 rest ⟨eS,hB⟩ hf hd nxt2;subst S1;obtain⟨g,d0,hVg,c5,hc5,hg⟩:∃ g,f' 8=.pointer (some ⟨g,0,none⟩)∧w.heap.size<=g∧∃ c:Array Value,c.size=5∧w3.heap[g]?=some (.cells c 143):=hd 11 (by simp);obtain⟨B,cp,d1,hcp,hr⟩:∃ B c,f' 28=.agg (bI e.id e.size e.turn k (some ⟨B,0,none⟩) m c)∧m<=c∧dS w3 B m (bC e.val e.size k):=hd 9 (by simp);clear hd;refine cZ aB rfl rfl (by kernel_rfl) (x:=.tmp 8) (y:=.tmp 28) (g:=g) (c:=bI e.id e.size e.turn k (some ⟨B,0,none⟩) m cp) rfl (by simp[d0]) (by simp[d1]) hg (by kernel_rfl) hc5 (by simp[bI,Value.oneCell']) fun w4 hW=>?_
   refine nxt2 undef S w4 ⟨rfl,bJ hB hVg hW,g,B,cp,d0,hVg,hcp,hW.at_,hr.wr hg (by decide) hW⟩ trivial fun j x' hj h=>?_
   unfold rP at h ⊢;split at h<;>first|exact h|skip
   .obtain⟨B,c,e,h1,h2⟩:=h;exact⟨B,c,e,h1,h2.wr hg (by decide) hW⟩
   .obtain⟨B,c,e,h1,h2⟩:=h;exact⟨B,c,e,h1,h2.wr hg (by decide) hW⟩
   .obtain⟨B,c,e,h1,h2⟩:=h;exact⟨B,c,e,h1,h2.wr hg (by decide) hW⟩
   .obtain⟨g',e',h1',c',h2',hg'⟩:=h;by_cases e:g'=g
    .subst e;exact⟨g',e',h1',_,rfl,hW.at_⟩
    .exact⟨g',e',h1',c',h2',aO hW hg' e⟩
  .rintro f' S1 w3 ⟨eS,hE3,g,B,cp,g8',hVg,hcp,hg,hr⟩ hf hd;subst S1;have g0':f' 0=.pointer (some ⟨X,0,none⟩):=(hf 0 (aS (by kernel_rfl))).trans (by simp[g0]);have g3':f' 3=.pointer (some ⟨bx,0,none⟩):=(hf 3 (aS (by kernel_rfl))).trans (by simp[g3]);have g5':f' 5=.slice (some ⟨BL,0,none⟩) 14 14:=(hf 5 (aS (by kernel_rfl))).trans (by simp[g5]);have g6':f' 6=.int .i64 (k:Nat):=(hf 6 (aS (by kernel_rfl))).trans (by simp);have g12':f' 12=.agg (kF e.good):=(hf 12 (aS (by kernel_rfl))).trans (by simp[g12]);have g13':f' 13=.int .i64 (k:Nat):=(hf 13 (aS (by kernel_rfl))).trans (by simp[g13]);clear hf hd;have c4:w3.cell? ⟨g,4,none⟩=some (.slice (some ⟨B,0,none⟩) m cp):=(cell_of_row _ _ _ _ _ _ hg).trans rfl;have hrow3:=hE3.row hrow;repeat refine rM c4 ?_
   refine eR aB rfl rfl (by kernel_rfl) (x:=.tmp 34) (y:=.tmp 33) (g:=BL) (j:=k) (z:=.slice (some ⟨B,0,none⟩) m cp) rfl (by simp) (by simp) rfl rfl hrow3 (by rw[oU];exact hlt) (by kernel_rfl) fun w4 hW4=>?_
   simp only[stO_none];rw[zaS _ _ _ _ _ _ _ HG.out]at hW4;repeat refine rN ?_
   refine nxt _ _ _ (14 - (k+1)) (by omega) ⟨k+1,_,_,rfl,by omega,rfl,bJ (hEw.trans _ _ _ hE3) (by omega) hW4,bJ (hE1w.trans _ _ _ hE3) (by omega) hW4,hW4.at_,fun i hi hgi=>?_,by simp[g0'],by simp[g3'],by simp[g5'],by simp[g12'],by simp⟩
   by_cases e:i=k
   .subst e;simp only[if_true];exact⟨hcp,hr.wr hrow3 (by decide) hW4⟩
   .obtain⟨h1,h2⟩:=hrb i (by omega) hgi;simp only[e,if_false];exact⟨h1,(h2.ext hE3).wr hrow3 (by decide) hW4⟩
 .obtain rfl:k=14:=by omega
  refine rZ (by simp[Act.eval,g13]) ?_;refine bH rfl ?_;repeat refine rN ?_
  refine aP fun todo=>?_
  refine ret _ _ S w (.slice (some ⟨BL,0,none⟩) 14 14) ?_ ⟨rfl,hEw,BL,PB,CP,rfl,hrow,hrb⟩;simp[results,Tryz.results52,g5]
end
theorem dS.kp{w w':World}{B m:Nat}{y:Nat->Nat}(h:dS w B m y)(hK:Kp w (fun _=>False) w'):dS w' B m y:=let ⟨C,h1,h2⟩:=h;⟨C,hK.cells _ _ _ _ (fun x=>x) h1,h2⟩
def lJ(e:Ent)(BL:Nat)(PB CP:Nat->Nat)(w:World):Prop:=w.heap[BL]?=some (.cells (allA (GL e.good PB CP ((e.size+9) / 10) 14)) 48)∧∀ k,k<14->e.good k=true->(e.size+9) / 10<=CP k∧dS w (PB k) ((e.size+9) / 10) (bC e.val e.size k)
theorem lJ.kp{e:Ent}{BL:Nat}{PB CP:Nat->Nat}{w w':World}(h:lJ e BL PB CP w)(hK:Kp w (fun _=>False) w'):lJ e BL PB CP w':=⟨hK.cells _ _ _ _ (fun x=>x) h.1,fun k hk hg=>⟨(h.2 k hk hg).1,(h.2 k hk hg).2.kp hK⟩⟩
def qG(good:Nat->Bool)(PB:Nat->Nat)(k:Nat):Option Addr:=if good k=true then some ⟨PB k,0,none⟩ else none
theorem lJ.pl{e:Ent}{BL:Nat}{PB CP:Nat->Nat}{w:World}(h:lJ e BL PB CP w):PL w BL 0 (qG e.good PB) (fun k=>if e.good k=true then(e.size+9) / 10 else 0) (fun k=>if e.good k=true then CP k else 0) (bC e.val e.size):=by
 refine⟨fun k hk=>?_,fun k hk=>?_⟩
 .rw[Nat.zero_add,cell_of_row _ _ _ _ _ _ h.1,jR _ _ hk];unfold GL qG;by_cases hg:e.good k=true
  .rw[if_pos ⟨hk,hg⟩,if_pos hg,if_pos hg,if_pos hg]
  .rw[if_neg (fun q=>hg q.2),if_neg hg,if_neg hg,if_neg hg]
 .unfold qG;by_cases hg:e.good k=true
  .rw[if_pos hg,if_pos hg,if_pos hg];exact .inr ⟨PB k,0,rfl,(h.2 k hk hg).1,(h.2 k hk hg).2.bytes⟩
  .rw[if_neg hg,if_neg hg,if_neg hg];exact .inl ⟨rfl,rfl,rfl⟩
theorem Yr(good:Nat->Bool)(PB:Nat->Nat)(n:Nat):pN (qG good PB) n=aN good n:=by
 induction n with
 |zero=>rfl
 |succ n ih=>
  unfold pN;rw[ih];unfold aN qG;rw[List.range_succ,List.filter_append,List.length_append];cases hg:good n<;>simp[hg]
def vW(e:Ent)(V X bx:Nat)(j:Nat)(x:Value)(w:World):Prop:=
 match j with
 |0=>x=.pointer (some ⟨X,0,none⟩)
 |1=>x=.agg (bN e)
 |2=>∃ BL PB CP,x=.slice (some ⟨BL,0,none⟩) 14 14∧lJ e BL PB CP w
 |3=>x=.pointer (some ⟨bx,0,none⟩)
 |4=>x=.pointer (some ⟨bx,1,none⟩)
 |5=>x=.int .i64 (e.size:Nat)
 |6=>∃ BV,x=.tuple #[sl BV e.size,.int .i64 0]∧V<=BV∧w.heap[BV]?=some (.cells (aC e.size e.val) 5)
 |7=>∃ BV,x=sl BV e.size∧V<=BV∧w.heap[BV]?=some (.cells (aC e.size e.val) 5)
 |8=>x=.int .i64 0
 |9=>∃ BV,x=sl BV e.size∧V<=BV∧w.heap[BV]?=some (.cells (aC e.size e.val) 5)
 |10=>x=.int .i64 0
 |_=>True
theorem Gg(e:Ent)(V X bx:Nat):∀ j x w w',vW e V X bx j x w->Kp w (fun _=>False) w'->vW e V X bx j x w':=by
 intro j x w w' h hK;unfold vW at h ⊢;split at h<;>first|exact h|skip
 .obtain⟨BL,PB,CP,q,h1⟩:=h;exact⟨BL,PB,CP,q,h1.kp hK⟩
 .obtain⟨BV,q,h1,h2⟩:=h;exact⟨BV,q,h1,hK.cells _ _ _ _ (fun x=>x) h2⟩
 .obtain⟨BV,q,h1,h2⟩:=h;exact⟨BV,q,h1,hK.cells _ _ _ _ (fun x=>x) h2⟩
 .obtain⟨BV,q,h1,h2⟩:=h;exact⟨BV,q,h1,hK.cells _ _ _ _ (fun x=>x) h2⟩
section
variable {X D DB DA M:Nat}{RB RA:Nat->Nat}{nd nb turn:Nat}{s:Dsk}{L:List Ent}{w w' v:World}{S:Nat->Prop}
theorem zX(e:Ent)(BL:Nat)(PB CP:Nat->Nat)(hsz:e.size<=400)(hval:∀ i,e.val i<256)(h10:10<=aN e.good 14)(hg:Tryz.prog.globals.size<=v.heap.size)(hP:lJ e BL PB CP v) :
  aJ Tryz.prog 51 #[.slice (some ⟨BL,0,none⟩) 14 14] S v fun x S' v'=>∃ BA PB',x=.tuple #[sl BA 14,.int .i64 0]∧Pieces v BA PB' ((e.size+9) / 10) (bC e.val e.size) v':=by
 obtain⟨k1,k2,k3⟩:=zbV (q:=qG e.good PB) (by rw[Yr];exact h10);refine(Zy BL 0 14 ((e.size+9) / 10) _ _ _ (bC e.val e.size) hP.pl (fun k _ h=>?_) (by omega) k1 (lC hval _) hg).mono fun y S' v' _ ⟨BA,PB',e1,hQ⟩=>⟨BA,PB',e1,hQ.kp,hQ.ba,fun k hk=>?_,hQ.newA,hQ.newP,hQ.apart,hQ.inj⟩
 .unfold qG at h;by_cases hg:e.good k=true
  .rw[if_pos hg]
  .rw[if_neg hg]at h;cases h
 .rw[hQ.pb k hk,iD (g:=bC e.val e.size k) fun i _=>Vv hval e.size k2 k3 hk i]
theorem Ye(e:Ent)(BL:Nat)(PB CP:Nat->Nat)(hsz:e.size<=400)(hval:∀ i,e.val i<256)(h10:10<=aN e.good 14)(hg:Tryz.prog.globals.size<=v.heap.size)(hP:lJ e BL PB CP v) :
  aJ Tryz.prog 55 #[.slice (some ⟨BL,0,none⟩) 14 14,.int .i64 (e.size:Nat)] S v fun x S' v'=>∃ BV,x=.tuple #[sl BV e.size,.int .i64 0]∧v.heap.size<=BV∧Kp v (fun _=>False) v'∧v'.heap[BV]?=some (.cells (aC e.size e.val) 5):=by
 refine(zaC (.slice (some ⟨BL,0,none⟩) 14 14) ((e.size+9) / 10) e.size _ (by omega) (by omega) (zX e BL PB CP hsz hval h10 hg hP)).mono fun y S' v' _ ⟨BV,e1,e2,hJ⟩=>⟨BV,e1,e2,hJ.kp,?_⟩
 rw[hJ.bv,iD (g:=e.val) fun i hi=>Wu _ _ _ hi]
theorem zaE(id n:Nat)(e:Ent)(hq:aL id L 0=some (n,e))(hid1:1<=id)(hid:id<=9999)(hg:Tryz.prog.globals.size<=v.heap.size)(ht:turn<18446744073709551616)(hn1:14<=nd)(hnd:nd<=18)(hnb:nb<=64)(hX:StE X D DB DA M RB RA nd nb turn s L v) :
  aJ Tryz.prog 34 #[.pointer (some ⟨X,0,none⟩),.int .i64 (id:Nat)] S v fun x S' v'=>Kp v (fun _=>False) v'∧∃ BV,x=.tuple #[sl BV e.size,.int .i64 0]∧v.heap.size<=BV∧v'.heap[BV]?=some (.cells (aC e.size e.val) 5):=by
 refine dH Tryz.func34 rfl Tryz.ntmps34 fun Stop cc cs ret f g0 g1=>?_
 obtain⟨n',hn,hget,hoid⟩:=dY hq;have he:e∈L:=List.mem_of_getElem? hget;have hok:=hX.ent e he;obtain⟨clock,hm,hbn⟩:=hX.map;have c1:=hX.c1;repeat refine rN ?_
 refine rK Tryz.func40 (vQ id hid1 hid) ?_;rintro _ S2 w2 _ ⟨rfl,e1,e2⟩;subst S2 w2;repeat refine rN ?_
 refine rZ (by simp[Act.eval]) ?_;repeat refine rM c1 ?_
 refine oC rfl rfl rfl (x:=.tmp 15) (y:=.tmp 16) (id:=id) (by simp) (by simp[g1]) hm ?_;rw[hq];simp only[stO_some,fO];repeat refine rN ?_
 refine cM aB rfl rfl (by kernel_rfl) (.agg (aK 0 0 0 0 fun _=>false)) rfl (by kernel_rfl) fun w3 hE3 hb3 hs3=>?_
 simp only[stO_some];refine cZ aB rfl rfl (by kernel_rfl) (x:=.tmp 6) (y:=.tmp 18) (g:=v.heap.size) (c:=bN e) rfl (by simp) (by simp) hb3 (by kernel_rfl) rfl (mN _) fun w4 hW4=>?_
 simp only[stO_none];have hE4:Ext v w4:=bJ hE3 (Nat.le_refl _) hW4;have hX4:=hX.ext hE4;have hb4:=hW4.at_;generalize hbx:v.heap.size=bx at *
 repeat refine rN ?_
 refine rZ (by simp[Act.eval]) ?_;repeat refine rN ?_
 refine jO (by kernel_rfl) (by kernel_rfl) (by kernel_rfl) 6 [0,1,2,3,4,5] (by kernel_rfl) (vW e bx X bx) (fun S' w=>S'=S∧Ext w4 w) (fun S' f w=>Kp v (fun _=>False) w) (fun S' w w' h hE=>⟨h.1,h.2.trans _ _ _ hE⟩) (fun S' i f x w w' hi hA hm' h hE=>h.ext hE) (fun j x w w' h hE=>Gg _ _ _ _ _ _ _ _ h (dB hE)) ?_ ⟨rfl,.refl _⟩ ?_ ?_ ?_
 .intro j hj he x w h;have hj':j<11:=hj;rcases(by omega:j=0∨j=1∨j=2∨j=3∨j=4∨j=5∨j=6∨j=7∨j=8∨j=9∨j=10) with rfl|rfl|rfl|rfl|rfl|rfl|rfl|rfl|rfl|rfl|rfl<;>cases he
 .intro i f' S1 w5 rest hi hne hB hf hd nxt;have g0':f' 0=.pointer (some ⟨X,0,none⟩):=(hf 0 (aS (by kernel_rfl))).trans (by simp[g0]);have g6':f' 6=.pointer (some ⟨bx,0,none⟩):=(hf 6 (aS (by kernel_rfl))).trans (by simp);have hi':i<11:=hi;clear hf;rcases(by omega:i=0∨i=1∨i=2∨i=3∨i=4∨i=5∨i=6∨i=7∨i=8∨i=9∨i=10) with rfl|rfl|rfl|rfl|rfl|rfl|rfl|rfl|rfl|rfl|rfl
  .clear hd;refine rY aB ?_;exact nxt _ w5 (.refl w5) rfl
  .obtain⟨eS,hE⟩:=hB (by simp);subst S1;clear hd;refine iC aB rfl rfl (by kernel_rfl) (x:=.tmp 6) (b:=bx) (c:=bN e) rfl (by simp[g6']) (hE.row hb4) (by kernel_rfl) (by kernel_rfl) ?_;exact nxt _ w5 (.refl w5) rfl
  .have d0:f' 22=.pointer (some ⟨X,0,none⟩):=hd 0 (aD (by kernel_rfl));have d1:f' 23=.agg (bN e):=hd 1 (aD (by kernel_rfl));obtain⟨eS,hE⟩:=hB (by simp);subst S1;clear hd hB;refine cY Tryz.func52 (wY e hok ht hn1 hnd hnb (hX4.ext hE)) ?_;rintro _ S1 w6 _ ⟨e1,hE6,BL,PB,CP,rfl,hrow,hps⟩;subst S1;exact nxt _ w6 hE6 ⟨BL,PB,CP,rfl,hrow,hps⟩
  .clear hd;refine rY aB ?_;exact nxt _ w5 (.refl w5) rfl
  .have d0:f' 25=.pointer (some ⟨bx,0,none⟩):=hd 3 (aD (by kernel_rfl));clear hd;refine rY aB ?_;exact nxt _ w5 (.refl w5) rfl
  .have d0:f' 26=.pointer (some ⟨bx,1,none⟩):=hd 4 (aD (by kernel_rfl));obtain⟨eS,hE⟩:=hB (by simp);subst S1;have c0:w5.cell? ⟨bx,1,none⟩=some (.int .i64 (e.size:Nat)):=(cell_of_row _ _ _ _ _ _ (hE.row hb4)).trans rfl;clear hd hB;(refine rO aB rfl ?_;intro _ hu_ K_ hK_;(have hc:=(Ext.twin hu_).cell c0);go_simp;(try rw[wI _]);(try rw[wU _]);refine hK_ _ ?_;clear hK_ K_ hu_;simp only[sS,sN]);exact nxt _ w5 (.refl w5) rfl
  .exact absurd rfl hne
  .obtain⟨BV,d0,h1,h2⟩:∃ BV,f' 28=.tuple #[sl BV e.size,.int .i64 0]∧bx<=BV∧w5.heap[BV]?=some (.cells (aC e.size e.val) 5):=hd 6 (aD (by kernel_rfl));clear hd;refine rY aB ?_;exact nxt _ w5 (.refl w5) ⟨BV,rfl,h1,h2⟩
  .obtain⟨BV,d0,h1,h2⟩:∃ BV,f' 28=.tuple #[sl BV e.size,.int .i64 0]∧bx<=BV∧w5.heap[BV]?=some (.cells (aC e.size e.val) 5):=hd 6 (aD (by kernel_rfl));clear hd;refine rY aB ?_;exact nxt _ w5 (.refl w5) rfl
  .obtain⟨BV,d0,h1,h2⟩:∃ BV,f' 29=sl BV e.size∧bx<=BV∧w5.heap[BV]?=some (.cells (aC e.size e.val) 5):=hd 7 (aD (by kernel_rfl));clear hd;refine rY aB ?_;exact nxt _ w5 (.refl w5) ⟨BV,rfl,h1,h2⟩
  .have d0:f' 30=.int .i64 0:=hd 8 (aD (by kernel_rfl));clear hd;refine rY aB ?_;exact nxt _ w5 (.refl w5) rfl
 .rintro f' S1 w5 rest ⟨eS,hB⟩ hf hd nxt;subst S1;obtain⟨BL,PB,CP,d0,hP⟩:∃ BL PB CP,f' 24=.slice (some ⟨BL,0,none⟩) 14 14∧lJ e BL PB CP w5:=hd 2 (by simp);have d1:f' 27=.int .i64 (e.size:Nat):=hd 5 (by simp);have hsz5:bx<=w5.heap.size:=by have:=hE4.size;have:=hB.size;omega
  clear hd hf;refine cY Tryz.func55 (Ye e BL PB CP hok.size hok.val hok.ten (by omega) hP) ?_;rintro _ S2 w6 _ ⟨BV,rfl,hBV,hK6,hrow⟩;exact nxt _ S2 w6 (((Kp.refl v _).ext (hE4.trans _ _ _ hB)).trans hK6) ⟨BV,rfl,by omega,hrow⟩ fun j y hj h=>Gg _ _ _ _ _ _ _ _ h hK6
 .rintro f' S1 w5 hK hf hd;obtain⟨BV,d0,h1,h2⟩:∃ BV,f' 4=sl BV e.size∧bx<=BV∧w5.heap[BV]?=some (.cells (aC e.size e.val) 5):=hd 9 (by decide);have d1:f' 5=.int .i64 0:=hd 10 (by decide);clear hf hd;repeat refine rN ?_
  refine aP fun todo=>?_
  refine ret _ _ S1 w5 (.tuple #[sl BV e.size,.int .i64 0]) ?_ ⟨hK,BV,rfl,h1,h2⟩;simp[results,Tryz.results34,d0,d1]
theorem qR(L:List Ent)(id:Nat):(eY L id).Sublist L:=by
 unfold eY;cases aL id L 0 with
 |none=>exact List.Sublist.refl _
 |some q=>exact List.eraseIdx_sublist ..
theorem Ec{α : Type} : ∀ (L:List α) (n:Nat) (e:α),L[n]?=some e->L.Perm (e :: L.eraseIdx n)
 |[],n,e,h=>by simp at h
 |x :: L,0,e,h=>by
  simp at h;subst h;exact .refl _
 |x :: L,n+1,e,h=>by
  simp at h;rw[List.eraseIdx_cons_succ];exact((Ec L n e h).cons x).trans (.swap _ _ _)
theorem Fp{L:List Ent}{id n:Nat}{e:Ent}(hq:aL id L 0=some (n,e)):L.Perm (e :: eY L id):=by
 obtain⟨n',hn,hget,_⟩:=dY hq;obtain rfl:n=n':=by omega
 unfold eY;rw[hq];exact Ec L n e hget
theorem StE.del(h:StE X D DB DA M RB RA nd nb turn s L w){id clock:Nat}(hb:∀ e∈L,e.born<clock)(hW:Wr w M (bK (eY L id) clock) w'):StE X D DB DA M RB RA nd nb turn s (eY L id) w':=
 have hs:=qR L id
 ⟨aO hW h.row (fun e=>h.mn.2.1 e.symm),⟨clock,hW.at_,fun e he=>hb e (hs.subset he)⟩,h.dk.kp ((Kp.refl w (fun b=>b=M)).wr (.inl rfl) hW) (fun e=>h.mn.1 (.inl e.symm)) (fun e=>h.mn.2.2.1 e.symm) (fun e=>h.mn.2.2.2 e.symm) (fun d hd=>⟨fun e=>h.mn.1 (.inr ⟨d,hd,.inl e.symm⟩),fun e=>h.mn.1 (.inr ⟨d,hd,.inr e.symm⟩)⟩),fun e he=>h.ent e (hs.subset he),List.Pairwise.sublist (hs.map _) h.ids,List.Pairwise.sublist (hs.map _) h.slots,List.Pairwise.sublist (hs.map _) h.borns⟩
theorem To(id n:Nat)(e:Ent)(hq:aL id L 0=some (n,e))(hid1:1<=id)(hid:id<=9999)(hn1:14<=nd)(hnd:nd<=18)(hnb:nb<=64)(hX:StE X D DB DA M RB RA nd nb turn s L v) :
  aJ Tryz.prog 36 #[.pointer (some ⟨X,0,none⟩),.int .i64 (id:Nat)] S v fun x S' v'=>x=.int .i64 0∧S'=S∧Kp v (dG X D M RB RA nd) v'∧StE X D DB DA M RB RA nd nb turn (fU s e.slot e.good) (eY L id) v':=by
 refine dH Tryz.func36 rfl Tryz.ntmps36 fun Stop cc cs ret f g0 g1=>?_
 obtain⟨n',hn,hget,hoid⟩:=dY hq;have he:e∈L:=List.mem_of_getElem? hget;have hok:=hX.ent e he;obtain⟨clock,hm,hbn⟩:=hX.map;have c1:=hX.c1;repeat refine rN ?_
 refine rK Tryz.func40 (vQ id hid1 hid) ?_;rintro _ S2 w2 _ ⟨rfl,e1,e2⟩;subst S2 w2;repeat refine rN ?_
 refine rZ (by simp[Act.eval]) ?_;repeat refine rM c1 ?_
 refine oC rfl rfl rfl (x:=.tmp 14) (y:=.tmp 15) (id:=id) (by simp) (by simp[g1]) hm ?_;rw[hq];simp only[stO_some,fO];repeat refine rN ?_
 refine cM aB rfl rfl (by kernel_rfl) (.agg (aK 0 0 0 0 fun _=>false)) rfl (by kernel_rfl) fun w3 hE3 hb3 hs3=>?_
 simp only[stO_some];refine cZ aB rfl rfl (by kernel_rfl) (x:=.tmp 5) (y:=.tmp 17) (g:=v.heap.size) (c:=bN e) rfl (by simp) (by simp) hb3 (by kernel_rfl) rfl (mN _) fun w4 hW4=>?_
 simp only[stO_none];have hE4:Ext v w4:=bJ hE3 (Nat.le_refl _) hW4;have hX4:=hX.ext hE4;have hb4:=hW4.at_;have c4:=hX4.c1;have hm4:w4.heap[M]?=some (bK L clock):=by
  rw[hE4.block M (Array.getElem?_eq_some_iff.1 hm).1];exact hm
 generalize hbx:v.heap.size=bx at *
 repeat refine rN ?_
 refine rZ (by simp[Act.eval]) ?_;repeat refine rM c4 ?_
 refine Lt rfl rfl rfl (x:=.tmp 24) (y:=.tmp 25) (id:=id) (by simp) (by simp[g1]) hm4 fun w5 hW5=>?_
 simp only[stO_none];have hX5:=hX4.del hbn hW5;have hb5:=aO hW5 hb4 (fun h=>jC hm4 hb4 h.symm);have hK5:Kp v (dG X D M RB RA nd) w5:=((Kp.refl v _).ext hE4).wr (.inl (.inr (.inl rfl))) hW5;have cs3:w5.cell? ⟨bx,3,none⟩=some (.int .i64 (e.slot:Nat)):=(cell_of_row _ _ _ _ _ _ hb5).trans rfl;repeat refine rM cs3 ?_
 refine cR aB rfl rfl (by kernel_rfl) (fun u hu=>uD (b:=bx) ((Ext.twin hu).row hb5) (x:=.tmp 29) rfl (by simp)) ?_;simp only[stO_some];refine rK Tryz.func43 (zL e.good e.slot hok.slot hn1 hnd hnb hX5.row hX5.dk) ?_;rintro _ S2 w6 _ ⟨rfl,e1,hK6,hD6⟩;subst S2;repeat refine rN ?_
 refine aP fun todo=>?_
 refine ret _ _ S w6 (.int .i64 0) ?_ ⟨rfl,rfl,hK5.trans (hK6.mono fun b h=>.inr (.inr h)),hX5.slotOff (p:=e.slot) (fun e' he' h=>?_) hK6 hD6 fun d q hq'=>kS hq'⟩
 .simp[results,Tryz.results36]
 .have hp:=(Fp hq).map (·.slot);have:=(hp.nodup_iff).1 hX.slots;rw[List.map_cons,List.nodup_cons]at this;exact this.1 (List.mem_map.2 ⟨e',he',h⟩)
end
