import Derived.Test.YtpiefebngnlfoabGreatDoorMq
set_option maxRecDepth 100000
set_option maxHeartbeats 16000000
set_option linter.unusedVariables false
set_option linter.unusedSimpArgs false
namespace Go.Proofs.YtpiefebngnlfoabGreatDoor
open Go.RowKit Go.Conc Go.Vw
theorem oX(r i:Nat):(eX r).testBit i=((r.testBit (i+1)) ^^ (r.testBit 0&&(3988292384:Nat).testBit i)):=by
 unfold eX;rw[Nat.testBit_xor,Nat.testBit_succ];congr 1;rw[Nat.testBit_zero];by_cases h:r % 2=1
 .rw[if_pos h,show(3988292384&&&4294967295:Nat)=3988292384 by decide];simp[h]
 .rw[if_neg h];simp[h]
theorem Pe(a b:Nat):eX (a ^^^ b)=eX a ^^^ eX b:=by
 apply Nat.eq_of_testBit_eq;intro i;rw[Nat.testBit_xor,oX,oX,oX,Nat.testBit_xor,Nat.testBit_xor];cases a.testBit (i+1)<;>cases b.testBit (i+1)<;>cases a.testBit 0<;>cases b.testBit 0<;>cases(3988292384:Nat).testBit i<;>rfl
theorem Bc(a b n:Nat):bZ (a ^^^ b) n=bZ a n ^^^ bZ b n:=by
 induction n with
 |zero=>rfl
 |succ n ih=>
  unfold bZ;rw[ih,Pe]
theorem Ke(n:Nat):bZ 0 n=0:=by
 induction n with
 |zero=>rfl
 |succ n ih=>
  unfold bZ;rw[ih];decide
theorem Pf(m:Nat):eX (2*m)=m:=by
 unfold eX;rw[if_neg (by omega),Nat.and_zero,Nat.xor_zero];omega
theorem rsteps_succ'(r n:Nat):bZ r (n+1)=bZ (eX r) n:=by
 induction n with
 |zero=>rfl
 |succ n ih=>
  show eX (bZ r (n+1))=eX (bZ (eX r) n);rw[ih]
theorem Be(r m n:Nat):bZ r (m+n)=bZ (bZ r m) n:=by
 induction n with
 |zero=>rfl
 |succ n ih=>
  show eX (bZ r (m+n))=eX (bZ (bZ r m) n);rw[ih]
theorem vJ(m n:Nat):bZ (2 ^ n*m) n=m:=by
 induction n with
 |zero=>simp[bZ]
 |succ n ih=>
  rw[rsteps_succ',Nat.pow_succ,show 2 ^ n*2*m=2*(2 ^ n*m) by rw[Nat.mul_comm (2 ^ n) 2,Nat.mul_assoc],Pf,ih]
theorem Pg{r:Nat}(h:r<4294967296)(h0:eX r=0):r=0:=by
 have hb:r.testBit 0=false:=by
  have h1:=oX r 31;rw[h0,Nat.zero_testBit,Nat.testBit_lt_two_pow (x:=r) (i:=32) (by omega)]at h1;cases hb:r.testBit 0 with
  |false=>rfl
  |true=>
   rw[hb]at h1;simp at h1;exact absurd h1 (by decide)
 apply Nat.eq_of_testBit_eq;intro i;rw[Nat.zero_testBit];cases i with
 |zero=>exact hb
 |succ i=>
  have h1:=oX r i;rw[h0,Nat.zero_testBit,hb,Bool.false_and,Bool.xor_false]at h1;exact h1.symm
theorem Bd{r:Nat}(h:r<4294967296):∀ n,bZ r n=0->r=0
 |0,h0=>h0
 |n+1,h0=>Bd h n (Pg (wE h n) h0)
theorem Ey{x m:Nat}(hx:x<256):x+256*m=x ^^^ (2 ^ 8*m):=by
 apply Nat.eq_of_testBit_eq;intro i;rw[Nat.testBit_xor,show x+256*m=2 ^ 8*m+x by omega,Nat.testBit_two_pow_mul_add _ hx,Nat.testBit_two_pow_mul];by_cases h:i<8
 .rw[if_pos h,decide_eq_false (by omega)];simp
 .rw[if_neg h,decide_eq_true (by omega),Nat.testBit_lt_two_pow (x:=x) (i:=i) (Nat.lt_of_lt_of_le hx (Nat.pow_le_pow_right (n:=2) (by omega) (by omega:8<=i)))];simp
def lX(r:Nat)(x:Nat->Nat):Nat->Nat
 |0=>r
 |n+1=>lX (bZ (r ^^^ x 0) 8) (fun i=>x (i+1)) n
theorem Pn(n:Nat):∀ (r:Nat) {x:Nat->Nat},(∀ i,x i<256)->lX r x n=bZ (r ^^^ bQ x n) (8*n):=by
 induction n with
 |zero=>intro r x hx;simp[lX,bQ,bZ]
 |succ n ih=>
  intro r x hx;unfold lX bQ;rw[ih _ fun i=>hx (i+1),Ey (hx 0),<-Nat.xor_assoc,show 8*(n+1)=8+8*n by omega,Be,Bc (r ^^^ x 0),vJ]
theorem Kf(n:Nat):∀ (x:Nat->Nat),aY x n=lX 0 x n:=by
 have key:∀ (n m:Nat) (x:Nat->Nat),lX (aY x m) (fun i=>x (m+i)) n=aY x (m+n):=by
  intro n;induction n with
  |zero=>intro m x;rfl
  |succ n ih=>
   intro m x;unfold lX;have h:=ih (m+1) x;have e1:aY x (m+1)=bZ (aY x m ^^^ x (m+0)) 8:=rfl;have e2:(fun i=>x (m+1+i))=fun i=>x (m+(i+1)):=funext fun i=>by rw[show m+1+i=m+(i+1) by omega]
   rw[e1,e2]at h;rw[h,show m+1+n=m+(n+1) by omega]
 intro x;have:=key n 0 x;simp only[Nat.zero_add]at this;exact this.symm
theorem Pp{x:Nat->Nat}(hx:∀ i,x i<256)(n:Nat):aY x n=bZ (bQ x n) (8*n):=by
 rw[Kf,Pn n 0 hx,Nat.zero_xor]
theorem Po(x e:Nat->Nat)(n:Nat):aY (fun i=>x i ^^^ e i) n=aY x n ^^^ aY e n:=by
 induction n with
 |zero=>simp[aY]
 |succ n ih=>
  unfold aY;rw[ih,<-Bc];congr 1;rw[Nat.xor_assoc,Nat.xor_assoc];congr 1;rw[<-Nat.xor_assoc,Nat.xor_comm (aY e n) (x n),Nat.xor_assoc]
theorem Qk{n:Nat} : ∀ {x:Nat->Nat},(∀ i,x i<256)->bQ x n=0->∀ i,i<n->x i=0:=by
 intro x hx h i hi;rw[pA hx n i hi,h];unfold aU;simp
theorem zaG{e:Nat->Nat}(he:∀ i,e i<256){p w n:Nat}(hw:w<4294967296)(hp:p<=8*n)(hN:bQ e n=2 ^ p*w)(h:aY e n=0):∀ i,i<n->e i=0:=by
 have h1:=Pp he n;rw[h,hN,show 8*n=p+(8*n - p) by omega,Be,vJ]at h1;have hw0:=Bd hw _ h1.symm;refine Qk he ?_;rw[hN,hw0,Nat.mul_zero]
theorem sF(r:Nat):bZ (r ^^^ (r % 256)) 8=r / 256:=by
 have h:=Ey (x:=r % 256) (m:=r / 256) (Nat.mod_lt _ (by omega));have e:r % 256+256*(r / 256)=r:=by omega
 rw[e]at h;have h2:r ^^^ (r % 256)=2 ^ 8*(r / 256):=by
  rw[Nat.xor_comm];conv=>lhs;rhs;rw[h]
  rw[<-Nat.xor_assoc,Nat.xor_self,Nat.zero_xor]
 rw[h2,vJ]
theorem fE.rest{x:Nat->Nat}(hx:∀ i,x i<256)(h:fE x):aY x 96=0:=by
 obtain⟨_,_,_,_,h⟩:=h;generalize hB:dI (bQ x 2) (bQ (fun i=>x (2+i)) 2) (bQ (fun i=>x (5+i)) 8) (bQ (fun i=>x (4+i)) 1) ((bQ (fun i=>x (2+i)) 2+9) / 10) (fun i=>x (13+i))=B;unfold aS at h;rw[hB]at h;have hlt:∀ i,B i<256:=fun i=>by rw[<-hB];exact xC (fun i=>hx _) i
 have h1:aY x 92=aY B 92:=qP fun i hi=>by
  rw[<-h i (by omega)];unfold dX;rw[if_neg (by omega)]
 have hr:=wV hlt 92;have hb:∀ i,i<4->x (92+i)=aU (aY B 92) i:=fun i hi=>by
  rw[<-h (92+i) (by omega)];unfold dX;rw[if_pos (by omega),show 92+i - 92=i by omega]
 generalize aY B 92=r at h1 hr hb;have b0:=hb 0 (by omega);have b1:=hb 1 (by omega);have b2:=hb 2 (by omega);have b3:=hb 3 (by omega);unfold aU at b0 b1 b2 b3;simp only[Nat.add_zero,Nat.pow_zero,Nat.div_one,Nat.reduceAdd,Nat.reducePow]at b0 b1 b2 b3;have s0:aY x 93=r / 256:=by
  show bZ (aY x 92 ^^^ x 92) 8=_;rw[h1,b0,sF]
 have s1:aY x 94=r / 65536:=by
  show bZ (aY x 93 ^^^ x 93) 8=_;rw[s0,b1,sF,Nat.div_div_eq_div_mul]
 have s2:aY x 95=r / 16777216:=by
  show bZ (aY x 94 ^^^ x 94) 8=_;rw[s1,b2,sF,Nat.div_div_eq_div_mul]
 show bZ (aY x 95 ^^^ x 95) 8=0;rw[s2,b3,sF];omega
theorem Ms{x:Nat->Nat}{n:Nat}(h:∀ i,i<n->x i=0):aY x n=0:=by
 rw[qP (y:=fun _=>0) h]
 clear h;induction n with
 |zero=>rfl
 |succ n ih=>
  show bZ (aY (fun _=>0) n ^^^ 0) 8=0;rw[ih,Nat.xor_zero,Ke]
theorem kA{x:Nat->Nat}(h:∀ i,i<96->x i=0):¬fE x:=fun hs=>by
 have h1:=hs.1;have:bQ x 2=0:=by
  show x 0+256*(x 1+256*0)=0;rw[h 0 (by omega),h 1 (by omega)]
 omega
theorem Bz(N i j:Nat):(aU N i).testBit j=(decide (j<8)&&N.testBit (8*i+j)):=by
 unfold aU;rw[show(256:Nat)=2 ^ 8 from rfl,Nat.testBit_mod_two_pow,<-Nat.pow_mul,Nat.testBit_div_two_pow,Nat.add_comm]
theorem Nn(M N i:Nat):aU (M ^^^ N) i=aU M i ^^^ aU N i:=by
 apply Nat.eq_of_testBit_eq;intro j;simp only[Bz,Nat.testBit_xor];cases decide (j<8)<;>simp
theorem Lp(i:Nat):aU 0 i=0:=by unfold aU;simp
theorem No(q i:Nat):aU (2 ^ q) i=if i=q / 8 then 2 ^ (q % 8) else 0:=by
 apply Nat.eq_of_testBit_eq;intro j;rw[Bz,Nat.testBit_two_pow];split
 .rename_i h;rw[Nat.testBit_two_pow];by_cases hj:j<8
  .have:(q=8*i+j)↔(q % 8=j):=by omega
   simp[hj,this]
  .have:¬q % 8=j:=by omega
   simp[hj,this]
 .rename_i h;rw[Nat.zero_testBit];by_cases hj:j<8
  .have:¬q=8*i+j:=by omega
   simp[hj,this]
  .simp[hj]
theorem Np(N a i:Nat):aU N (a+i)=aU (N / 256 ^ a) i:=by
 unfold aU;rw[Nat.pow_add,Nat.div_div_eq_div_mul]
theorem Sx(at' W p m:Nat)(hm:32<m)(hW:W<4294967296):∃ q w,q<=m∧w<4294967296∧(2 ^ at'*W / 2 ^ p) % 2 ^ m=2 ^ q*w:=by
 by_cases h:p<=at'
 .have e:2 ^ at'*W / 2 ^ p=2 ^ (at' - p)*W:=by
   rw[show at'=p+(at' - p) by omega,Nat.pow_add,Nat.mul_assoc,Nat.mul_div_cancel_left _ (Nat.pow_pos (by omega)),show p+(at' - p) - p=at' - p by omega]
  rw[e];by_cases h2:m<=at' - p
  .refine⟨0,0,by omega,by omega,?_⟩;rw[show at' - p=m+(at' - p - m) by omega,Nat.pow_add,Nat.mul_assoc,Nat.mul_mod_right,Nat.mul_zero]
  .refine⟨at' - p,W % 2 ^ (m - (at' - p)),by omega,Nat.lt_of_le_of_lt (Nat.mod_le _ _) hW,?_⟩;rw[<-Nat.mul_mod_mul_left,<-Nat.pow_add,show at' - p+(m - (at' - p))=m by omega]
 .have e:2 ^ at'*W / 2 ^ p=W / 2 ^ (p - at'):=by
   rw[show 2 ^ p=2 ^ at'*2 ^ (p - at') by rw[<-Nat.pow_add];congr 1;omega,Nat.mul_div_mul_left _ _ (Nat.pow_pos (by omega))]
  have h1:W / 2 ^ (p - at')<4294967296:=Nat.lt_of_le_of_lt (Nat.div_le_self _ _) hW;have h3:4294967296<2 ^ m:=Nat.pow_lt_pow_right (a:=2) (by omega) hm;refine⟨0,W / 2 ^ (p - at'),by omega,h1,?_⟩;rw[e,Nat.mod_eq_of_lt (Nat.lt_trans h1 h3),Nat.pow_zero,Nat.one_mul]
theorem Iv{x y:Nat->Nat}{at' W p:Nat}(hW:W<4294967296)(hx:aY x 96=0)(hy:∀ i,i<96->y i=x i ^^^ aU (2 ^ at'*W) (p*96+i)):(∀ i,i<96->y i=x i)∨aY y 96≠0:=by
 by_cases h:aY y 96=0
 .refine .inl ?_;rw[qP hy,Po,hx,Nat.zero_xor]at h;obtain⟨q,w,hq,hw,hN⟩:=Sx at' W (8*(p*96)) (8*96) (by omega) hW;have hn:bQ (fun i=>aU (2 ^ at'*W) (p*96+i)) 96=2 ^ q*w:=by
   rw[pN (N:=2 ^ at'*W / 256 ^ (p*96)) fun i _=>Np _ _ _,<-hN,show(256:Nat)=2 ^ 8 from rfl,<-Nat.pow_mul,<-Nat.pow_mul]
  have:=zaG (e:=fun i=>aU (2 ^ at'*W) (p*96+i)) (fun i=>mV _ _) hw hq hn h
  intro i hi;rw[hy i hi,this i hi,Nat.xor_zero]
 .exact .inr h
def aN(s:Dsk)(n:Nat):Prop:=s.a=s.c∧n<=s.left
theorem aN.le{s:Dsk}{n m:Nat}(h:aN s n)(hm:m<=n):aN s m:=⟨h.1,Nat.le_trans hm h.2⟩
theorem aN.wr{s:Dsk}{n d p:Nat}{b:Nat->Nat}(h:aN s (n+1)):aN (s.wr d p b) n:=by
 have h2:=h.2;refine⟨?_,?_⟩
 .show(if 0<s.left then aO s.a d p b else s.a)=aO s.c d p b;rw[if_pos (by omega),h.1]
 .show n<=s.left - 1;omega
theorem aN.blk1{s:Dsk}{p:Nat}{good:Nat->Bool}{last:Bool} : ∀ (k:Nat) {n:Nat},aN s (n+k)->aN (blk1 s p good last k) n
 |0,n,h=>h
 |k+1,n,h=>by
  have ih:=aN.blk1 (p:=p) (good:=good) (last:=last) k (n:=n+1) (h.le (by omega));unfold Go.Proofs.YtpiefebngnlfoabGreatDoor.blk1;split
  .exact ih.wr
  .exact ih.le (by omega)
theorem aN.blank{s:Dsk}{p n:Nat}{good:Nat->Bool}(h:aN s (n+28)):aN (fD s p good) n:=aN.blk1 14 (aN.blk1 14 (h.le (by omega)))
theorem aN.lay{s:Dsk}{p:Nat}{B:Nat->Nat->Nat} : ∀ (k:Nat) {n:Nat},aN s (n+k)->aN (iO s p B k) n
 |0,n,h=>h
 |k+1,n,h=>aN.wr (aN.lay k (h.le (by omega)))
theorem aN.sweep{s:Dsk}{t:Nat->Bool} : ∀ (k:Nat) {n:Nat},aN s (n+28*k)->aN (bS s t k) n
 |0,n,h=>h
 |k+1,n,h=>by
  have ih:=aN.sweep (t:=t) k (n:=n+28) (h.le (by omega));unfold bS;split
  .exact ih.le (by omega)
  .exact ih.blank
theorem aN.put{s:Dsk}{L:List Ent}{p id size turn n:Nat}{val:Nat->Nat}(h:aN s (n+42)):aN (iC s L p id size turn val) n:=by
 unfold iC;split
 .exact aN.blank (aN.lay 14 (h.le (by omega)))
 .exact aN.lay 14 (h.le (by omega))
theorem aN.scrub1{x:Scb}{k n:Nat}(h:aN x.s (n+1)):aN (scrub1 k x).s n:=by
 unfold Go.Proofs.YtpiefebngnlfoabGreatDoor.scrub1;split
 .exact h.wr
 .exact h.le (by omega)
theorem aN.scrubN{x:Scb}{k:Nat} : ∀ (m:Nat) {n:Nat},aN x.s (n+m)->aN (scrubN k m x).s n
 |0,n,h=>h
 |m+1,n,h=>aN.scrub1 (aN.scrubN m (h.le (by omega)))
theorem xW{s:Dsk}{p:Nat}{good:Nat->Bool}{last:Bool}{d i:Nat}(hi:i<96):∀ n,(blk1 s p good last n).c d p i=if d<n∧good d=last then 0 else s.c d p i
 |0=>by rw[if_neg (by omega)];rfl
 |n+1=>by
  have ih:=xW (s:=s) (p:=p) (good:=good) (last:=last) (d:=d) hi n;unfold blk1;split
  .rename_i h;show aO (blk1 s p good last n).c n p (fun _=>0) d p i=_;unfold aO;by_cases e:d=n
   .subst e;rw[if_pos ⟨rfl,rfl⟩,if_pos ⟨by omega,h.1⟩]
   .rw[if_neg (fun q=>e q.1),ih];have:(d<n+1)↔d<n:=by omega
    simp only[this]
  .rename_i h;rw[ih];by_cases e:d=n
   .subst e;rw[if_neg (by omega)];split
    .rename_i h2;have hq:eqF ((blk1 s p good last d).c d p) (fun _=>0) 0 96=true:=by
      cases hq:eqF ((blk1 s p good last d).c d p) (fun _=>0) 0 96 with
      |true=>rfl
      |false=>exact absurd ⟨h2.2,hq⟩ h
     have:=(fZ _ _ 96 0).1 hq i (by omega) (by omega);rw[ih,if_neg (by omega)]at this;exact this
    .rfl
   .have:(d<n+1)↔d<n:=by omega
    simp only[this]
theorem wN{s:Dsk}{p:Nat}{good:Nat->Bool}{d i:Nat}(hd:d<14)(hi:i<96):(fD s p good).c d p i=0:=by
 unfold fD;rw[xW hi,xW hi];cases h:good d<;>simp[hd]
theorem sB{s:Dsk}{t:Nat->Bool}{d q:Nat}(h:t q=true):∀ n,(bS s t n).c d q=s.c d q
 |0=>rfl
 |n+1=>by
  unfold bS;split
  .exact sB h n
  .rename_i hn;rw[jH (fun e=>hn (by rw[<-e];exact h))];exact sB h n
theorem oU{s:Dsk}{t:Nat->Bool}{d q i:Nat}(h:t q=false)(hd:d<14)(hi:i<96):∀ n,q<n->(bS s t n).c d q i=0
 |n+1,hq=>by
  unfold bS;split
  .rename_i hn;exact oU h hd hi n (Nat.lt_of_le_of_ne (by omega) fun e=>by rw[e,hn]at h;cases h)
  .by_cases e:q=n
   .subst e;exact wN hd hi
   .rw[jH e];exact oU h hd hi n (by omega)
structure Neat(nb:Nat)(c:Nat->Nat->Nat->Nat)(L:List Ent):Prop where
 bad:∀ e∈L,∀ k,k<14->e.good k=false->¬fE (c k e.slot)
 free:∀ p,p<nb->(∀ e∈L,e.slot≠p)->∀ k,k<14->∀ j,j<96->c k p j=0
theorem oZ{L:List Ent}{e x:Ent}{clock:Nat}(hx:x∈L)(hne:x.id≠e.id):x∈bK L e clock:=by
 unfold bK;split
 .rename_i n old hf;obtain⟨m,h1,h2,h3⟩:=cW hf;obtain⟨i,hi⟩:=List.mem_iff_getElem?.1 hx;refine List.mem_iff_getElem?.2 ⟨i,?_⟩;rw[List.getElem?_set,if_neg,hi];rintro rfl;rw[show m=n by omega]at h2;rw[h2]at hi;cases hi
  exact hne h3
 .exact List.mem_append.2 (.inl hx)
theorem Neat.put{nb p id len turn clock:Nat}{val:Nat->Nat}{s:Dsk}{L:List Ent}(h:Neat nb s.c L)(hids:(L.map (·.id)).Nodup)(hsl:(L.map (·.slot)).Nodup)(hp:kR L nb p)(hP:PutOk L ⟨id,len,turn,p,val,fun _=>true,0⟩ clock):Neat nb (iC s L p id len turn val).c (bK L ⟨id,len,turn,p,val,fun _=>true,0⟩ clock):=by
 have hc:∀ d q,q≠p->(∀ e∈L,e.id=id->e.slot≠q)->(iC s L p id len turn val).c d q=s.c d q:=fun d q hq ho=>by
  unfold iC;split
  .rename_i n old hf;obtain⟨m,h1,h2,h3⟩:=cW hf;rw[jH (fun e=>ho old (List.mem_of_getElem? h2) h3 e.symm)];funext i;rw[pT,if_neg (fun e=>hq e.1)]
  .funext i;rw[pT,if_neg (fun e=>hq e.1)]
 refine⟨fun e he k hk hg=>?_,fun q hq hn k hk j hj=>?_⟩
 .rcases hP.mem e he with⟨b,rfl⟩|⟨he',hne⟩
  .cases hg
  .rw[hc k e.slot (hp.2.1 e he') (fun o ho hi hs=>hne (by rw[<-fX (f:=fun x:Ent=>x.slot) hsl ho he' hs];exact hi))]
   exact h.bad e he' k hk hg
 .have hqp:q≠p:=fun e=>by
   obtain⟨b,hb⟩:=hP.has;exact hn _ hb e.symm
  by_cases ho:∃ e∈L,e.id=id∧e.slot=q
  .obtain⟨old,hm,hi,hs⟩:=ho;obtain⟨n,hf⟩:=sI hids hm;rw[hi]at hf;unfold iC;rw[hf];show(fD _ old.slot old.good).c k q j=0;rw[<-hs];exact wN hk hj
  .rw[hc k q hqp (fun e he hi hs=>ho ⟨e,he,hi,hs⟩)];refine h.free q hq (fun e he hs=>?_) k hk j hj;exact hn e (oZ he (fun hi=>ho ⟨e,he,hi,hs⟩)) hs
theorem kE{L:List Ent}{id n:Nat}{e x:Ent}(hids:(L.map (·.id)).Nodup)(hq:aK id L 0=some (n,e)):x∈eE L id↔x∈L∧x.id≠id:=by
 have hp:=Dj hq;have hn:=(hp.map (·.id)).nodup_iff.1 hids;rw[List.map_cons,List.nodup_cons]at hn;obtain⟨m,h1,h2,h3⟩:=cW hq;constructor
 .intro hx;refine⟨hp.mem_iff.2 (List.mem_cons.2 (.inr hx)),fun hi=>hn.1 (List.mem_map.2 ⟨x,hx,?_⟩)⟩
  show x.id=e.id;rw[hi,h3]
 .rintro⟨hx,hi⟩;rcases List.mem_cons.1 (hp.mem_iff.1 hx) with h|h
  .subst h;exact absurd h3 hi
  .exact h
theorem Neat.del{nb id n:Nat}{s:Dsk}{L:List Ent}{e:Ent}(h:Neat nb s.c L)(hids:(L.map (·.id)).Nodup)(hsl:(L.map (·.slot)).Nodup)(hq:aK id L 0=some (n,e)):Neat nb (fD s e.slot e.good).c (eE L id):=by
 obtain⟨m,h1,h2,h3⟩:=cW hq;have hm:=List.mem_of_getElem? h2;refine⟨fun x hx k hk hg=>?_,fun q hq' hn k hk j hj=>?_⟩
 .obtain⟨hx,hi⟩:=(kE hids hq).1 hx;rw[jH (fun e'=>hi (by rw[fX (f:=fun x:Ent=>x.slot) hsl hx hm e'];exact h3))]
  exact h.bad x hx k hk hg
 .by_cases ho:q=e.slot
  .subst ho;exact wN hk hj
  .rw[jH ho];refine h.free q hq' (fun x hx hs=>?_) k hk j hj;by_cases hi:x.id=id
   .have:=fX (f:=fun x:Ent=>x.id) hids hx hm (hi.trans h3.symm)
    subst this;exact ho hs.symm
   .exact hn x ((kE hids hq).2 ⟨hx,hi⟩) hs
def eL(L:List Ent):Prop:=∀ e∈L,∀ k,k<14->e.good k=true
theorem eL.put{L:List Ent}{e:Ent}{clock:Nat}(h:eL L)(hP:PutOk L e clock)(he:∀ k,k<14->e.good k=true):eL (bK L e clock):=fun x hx=>by
 rcases hP.mem x hx with⟨b,rfl⟩|⟨hx,_⟩
 .exact he
 .exact h x hx
theorem eL.del{L:List Ent}{id:Nat}(h:eL L):eL (eE L id):=fun x hx=>h x ((pG L id).subset hx)
def Ent.lb(e:Ent):Lb:=⟨e.id,e.size,e.turn,e.val⟩
theorem EntOk.lb{nb turn:Nat}{c:Nat->Nat->Nat->Nat}{e:Ent}(h:EntOk nb turn c e)(ht:turn<18446744073709551616):e.lb.Ok:=⟨h.id1,h.id2,h.size,Nat.lt_of_le_of_lt h.turn ht,h.val⟩
theorem eL.rest{nb turn:Nat}{c:Nat->Nat->Nat->Nat}{L:List Ent}(h:eL L)(hN:Neat nb c L)(hE:∀ e∈L,EntOk nb turn c e)(ht:turn<18446744073709551616)(hb:∀ d p i,c d p i<256){k p:Nat}(hk:k<14)(hp:p<nb):aY (c k p) 96=0:=by
 by_cases ho:∃ e∈L,e.slot=p
 .obtain⟨e,he,rfl⟩:=ho;exact fE.rest (hb k _) (((hE e he).lb ht).sealed hk fun j hj=>(hE e he).blk k hk (h e he k hk) j hj)
 .exact Ms fun i hi=>hN.free p hp (fun e he hs=>ho ⟨e,he,hs⟩) k hk i hi
structure Harm(nd nb:Nat)(T T':Nat->ByteArray)(H:Nat->Bool):Prop where
 four:aE H nd<=4
 same:∀ d,d<nd->H d=false->T' d=T d
 hit:∀ d,d<nd->H d=true->(T' d).size=0∨((T' d).size=nb*96∧∃ at' W,W<4294967296∧∀ i,i<nb*96->byt (T' d) i=byt (T d) i ^^^ aU (2 ^ at'*W) i)
theorem Harm.blk{nd nb d p wr:Nat}{T T':Nat->ByteArray}{H:Nat->Bool}(h:Harm nd nb T T' H)(hd:d<nd)(hp:p<nb)(hr:aY (fun i=>byt (T d) (p*96+i)) 96=0):(∀ i,i<96->(aF T' wr).c d p i=byt (T d) (p*96+i))∨(¬fE ((aF T' wr).c d p)∧H d=true):=by
 cases hH:H d with
 |false=>exact .inl fun i _=>by show byt (T' d) _=_;rw[h.same d hd hH]
 |true=>
  rcases h.hit d hd hH with h0|⟨_,at',W,hW,hx⟩
  .exact .inr ⟨kA fun i hi=>xV (by omega),rfl⟩
  .have hy:∀ i,i<96->(aF T' wr).c d p i=byt (T d) (p*96+i) ^^^ aU (2 ^ at'*W) (p*96+i):=fun i hi=>hx _ (by
    have:(p+1)*96<=nb*96:=Nat.mul_le_mul_right _ hp
    omega)
   rcases Iv hW hr hy with h1|h1
   .exact .inl h1
   .exact .inr ⟨fun hs=>h1 (hs.rest fun i=>pU _ _),rfl⟩
theorem Nl(g:Nat->Bool):∀ n,aE g n<=n:=fun n=>by
 unfold aE;have:=List.length_filter_le g (List.range n);rwa [List.length_range]at this
theorem iS(g:Nat->Bool)(n:Nat):aE g (n+1)=aE g n+if g n=true then 1 else 0:=by
 unfold aE;rw[List.range_succ,List.filter_append,List.length_append];cases h:g n<;>simp[h]
theorem Nm(g:Nat->Bool){m n:Nat}(h:m<=n):aE g m<=aE g n:=by
 induction n with
 |zero=>rw[show m=0 by omega];exact Nat.le_refl _
 |succ n ih=>
  by_cases e:m=n+1
  .rw[e];exact Nat.le_refl _
  .rw[iS];have:=ih (by omega);omega
theorem vU{g h:Nat->Bool} : ∀ n,(∀ k,k<n->h k=false->g k=true)->n<=aE g n+aE h n
 |0,_=>Nat.zero_le _
 |n+1,H=>by
  have ih:=vU n fun k hk=>H k (by omega)
  rw[iS,iS];have:=H n (by omega);cases hh:h n with
  |true=>simp;omega
  |false=>rw[this hh];simp;omega
theorem Harm.texts{nd nb:Nat}{T T':Nat->ByteArray}{H:Nat->Bool}(h:Harm nd nb T T' H)(hn:14<=nd)(hT:∀ d,d<nd->(T d).size=nb*96):TextsOk nd nb T':=by
 refine⟨fun j hj=>?_,?_⟩
 .cases hH:H j with
  |false=>exact .inr (by rw[h.same j hj hH];exact hT j hj)
  |true=>exact(h.hit j hj hH).imp id fun q=>q.1
 .by_cases ho:∃ j,j<nd∧H j=false
  .obtain⟨j,hj,hH⟩:=ho;exact⟨j,hj,by rw[h.same j hj hH];exact hT j hj⟩
  .have h1:=vU (g:=H) (h:=fun _=>false) nd fun k hk _=>by
    cases hH:H k with
    |true=>rfl
    |false=>exact absurd ⟨k,hk,hH⟩ ho
   have h2:=h.four;have h3:aE (fun _=>false) nd=0:=by unfold aE;simp
   omega
def atP(L:List Ent)(p:Nat):Option Ent:=L.find? fun e=>e.slot == p
theorem sX{L:List Ent}{p:Nat}{e:Ent}(h:atP L p=some e):e∈L∧e.slot=p:=⟨List.mem_of_find?_eq_some h,by simpa using List.find?_some h⟩
theorem pQ{L:List Ent}{e:Ent}(hs:(L.map (·.slot)).Nodup)(he:e∈L):atP L e.slot=some e:=by
 cases h:atP L e.slot with
 |none=>exact absurd (List.find?_eq_none.1 h e he) (by simp)
 |some x=>
  obtain⟨h1,h2⟩:=sX h;rw[fX (f:=fun x:Ent=>x.slot) hs h1 he h2]
def eM(L:List Ent)(p:Nat):Lb:=match atP L p with|some e=>e.lb|none=>⟨0,0,0,fun _=>0⟩
def eC(L:List Ent)(c:Nat->Nat->Nat->Nat)(p k:Nat):Bool:=match atP L p with|some e=>eqF (c k p) (e.lb.blk k) 0 96|none=>false
theorem Df{nd nb turn wr:Nat}{c:Nat->Nat->Nat->Nat}{L:List Ent}{T':Nat->ByteArray}{H:Nat->Bool}(hS:eL L)(hN:Neat nb c L)(hE:∀ e∈L,EntOk nb turn c e)(ht:turn<18446744073709551616)(hb:∀ d p i,c d p i<256)(hn:14<=nd)(h:Harm nd nb (fun d=>txt nb (c d)) T' H){p:Nat}(hp:p<nb):SlotK (aF T' wr).c p (eM L p) (eC L (aF T' wr).c p)∧∀ e,atP L p=some e->∀ k,k<14->H k=false->eC L (aF T' wr).c p k=true:=by
 have hbt:∀ k i,i<96->byt (txt nb (c k)) (p*96+i)=c k p i:=fun k i hi=>by
  have:(p+1)*96<=nb*96:=Nat.mul_le_mul_right _ hp;rw[pK (fun q j=>hb k q j) (by omega)];show c k ((p*96+i) / 96) ((p*96+i) % 96)=_;rw[show(p*96+i) / 96=p by omega,show(p*96+i) % 96=i by omega]
 have hbl:∀ k,k<14->(∀ i,i<96->(aF T' wr).c k p i=c k p i)∨(¬fE ((aF T' wr).c k p)∧H k=true):=fun k hk=>
  (h.blk (wr:=wr) (d:=k) (p:=p) (by omega) hp (by
   rw[qP (y:=c k p) fun i hi=>hbt k i hi]
   exact hS.rest hN hE ht hb hk hp)).imp (fun q i hi=>(q i hi).trans (hbt k i hi)) id
 cases ha:atP L p with
 |none=>
  have hno:∀ e∈L,e.slot≠p:=fun e he hs=>by
   have:=List.find?_eq_none.1 ha e he;simp[hs]at this
  refine⟨⟨fun k hk hg=>?_,fun k hk hg=>?_,fun k hk _=>?_⟩,fun e he=>(by cases he)⟩
  .unfold eC at hg;rw[ha]at hg;cases hg
  .unfold eC at hg;rw[ha]at hg;cases hg
  .rcases hbl k hk with q|q
   .exact kA fun i hi=>by rw[q i hi];exact hN.free p hp hno k hk i hi
   .exact q.1
 |some e=>
  obtain⟨he,hs⟩:=sX ha;have hl:eM L p=e.lb:=by unfold eM;rw[ha]
  have hg:∀ k,eC L (aF T' wr).c p k=eqF ((aF T' wr).c k p) (e.lb.blk k) 0 96:=fun k=>by unfold eC;rw[ha]
  have hsame:∀ k,k<14->(∀ i,i<96->(aF T' wr).c k p i=c k p i)->eC L (aF T' wr).c p k=true:=fun k hk q=>by
   rw[hg];refine(fZ _ _ 96 0).2 fun j _ hj=>?_
   rw[q j (by omega),<-hs];exact(hE e he).blk k hk (hS e he k hk) j (by omega)
  refine⟨⟨fun k hk hq=>?_,fun k hk hq j hj=>?_,fun k hk hq=>?_⟩,fun e' he' k hk hH=>?_⟩
  .rw[hl];exact(hE e he).lb ht
  .rw[hl];rw[hg]at hq;exact(fZ _ _ 96 0).1 hq j (by omega) (by omega)
  .rcases hbl k hk with q|q
   .rw[hsame k hk q]at hq;cases hq
   .exact q.1
  .rcases hbl k hk with q|q
   .exact hsame k hk q
   .rw[hH]at q;cases q.2
theorem yB{G:Nat->Bool}{k n:Nat}(h:k<n):upG G n k=G k:=by simp[upG,h]
theorem sV(G:Nat->Bool)(n:Nat):∀ m,m<=n->aE (upG G n) m=aE G m
 |0,_=>rfl
 |m+1,h=>by rw[iS,iS,sV G n m (by omega),yB (by omega)]
structure nY(e e0:Ent):Prop where
 id:e.id=e0.id
 size:e.size=e0.size
 turn:e.turn=e0.turn
 slot:e.slot=e0.slot
 val:e.val=e0.val
theorem Dw{turn:Nat}{L0:List Ent}{c:Nat->Nat->Nat->Nat}(hids:(L0.map (·.id)).Nodup)(hsl:(L0.map (·.slot)).Nodup)(ht:∀ e∈L0,e.turn<=turn)(hten:∀ e∈L0,10<=aE (eC L0 c e.slot) 14):∀ {q:Nat} {L:List Ent} {t:Nat},Svs (eM L0) (eC L0 c) q L t->
  (∀ e∈L,∃ e0∈L0,e0.slot<q∧nY e e0∧e.good=upG (eC L0 c e0.slot) 14)∧(∀ e0∈L0,e0.slot<q->∃ e∈L,nY e e0)∧t<=turn
 |0,L,t,h=>by
  obtain⟨rfl,rfl⟩:=h;exact⟨fun e he=>(by cases he),fun e _ h=>(by omega),Nat.zero_le _⟩
 |q+1,L',t',⟨L,t,h1,h2⟩=>by
  obtain⟨i1,i2,i3⟩:=Dw hids hsl ht hten h1;unfold Sv at h2;cases ha:atP L0 q with
  |none=>
   have hg:eC L0 c q=fun _=>false:=by funext k;unfold eC;rw[ha]
   rw[if_neg (by rw[hg];simp[dA])]at h2;obtain⟨rfl,rfl⟩:=h2;refine⟨fun e he=>?_,fun e0 he0 hlt=>?_,i3⟩
   .obtain⟨e0,q1,q2,q3⟩:=i1 e he;exact⟨e0,q1,by omega,q3⟩
   .by_cases e:e0.slot=q
    .rw[<-e,pQ hsl he0]at ha;cases ha
    .exact i2 e0 he0 (by omega)
  |some e0=>
   obtain⟨he0,hs0⟩:=sX ha;have hl:eM L0 q=e0.lb:=by unfold eM;rw[ha]
   have h10:=hten e0 he0;rw[hs0]at h10;have hany:dA (eC L0 c q) 14=true:=by
    cases hx:dA (eC L0 c q) 14 with
    |true=>rfl
    |false=>
     have:aE (eC L0 c q) 14=0:=by
      unfold aE;rw[List.length_eq_zero_iff,List.filter_eq_nil_iff];intro a ha';unfold dA at hx;rw[List.any_eq_false]at hx;exact hx a ha'
     omega
   rw[if_pos hany]at h2;have hnew:aK (eM L0 q).id L 0=none:=by
    cases hf:aK (eM L0 q).id L 0 with
    |none=>rfl
    |some x=>
     obtain⟨m,q1,q2,q3⟩:=cW hf;obtain⟨e1,r1,r2,r3,_⟩:=i1 x.2 (List.mem_of_getElem? q2);rw[hl]at q3;have:=fX (f:=fun x:Ent=>x.id) hids r1 he0 (r3.id.symm.trans q3)
     subst this;omega
   have htk:eU L (eM L0 q) (eC L0 c q)=true:=by
    unfold eU;rw[hnew,sV _ _ _ (Nat.le_refl _)];simp[h10]
   rw[if_pos htk]at h2;obtain⟨rfl,clock,hP,rfl⟩:=h2;refine⟨fun e he=>?_,fun e1 he1 hlt=>?_,?_⟩
   .rcases hP.mem e he with⟨b,rfl⟩|⟨he,_⟩
    .refine⟨e0,he0,by omega,?_,?_⟩
     .rw[hl];exact⟨rfl,rfl,rfl,hs0.symm,rfl⟩
     .rw[hs0];rfl
    .obtain⟨e1,q1,q2,q3⟩:=i1 e he;exact⟨e1,q1,by omega,q3⟩
   .by_cases e:e1.slot=q
    .have:=fX (f:=fun x:Ent=>x.slot) hsl he1 he0 (e.trans hs0.symm)
     subst this;obtain⟨b,hb⟩:=hP.has;refine⟨_,hb,?_⟩;rw[hl];exact⟨rfl,rfl,rfl,hs0.symm,rfl⟩
    .obtain⟨x,hx,hS⟩:=i2 e1 he1 (by omega);refine⟨x,oZ hx (fun hi=>?_),hS⟩;have hi':x.id=e0.id:=by rw[hi,hl];rfl
     have:=fX (f:=fun x:Ent=>x.id) hids he1 he0 (hS.id.symm.trans hi')
     subst this;exact e hs0
   .rw[hl];have:=ht e0 he0;show max t e0.turn<=turn;omega
structure It where
 id:Nat
 size:Nat
 val:Nat->Nat
def eB(e:Ent):It:=⟨e.id,e.size,e.val⟩
def Srt(M:List It):Prop:=M.Pairwise fun a b=>a.id<b.id
structure Rep(L:List Ent)(M:List It):Prop where
 srt:Srt M
 mem:∀ x,x∈M↔∃ e∈L,eB e=x
theorem Srt.uniq:∀ {M M':List It},Srt M->Srt M'->(∀ x,x∈M↔x∈M')->M=M'
 |[],[],_,_,_=>rfl
 |[],y :: M',_,_,h=>absurd ((h y).2 (List.mem_cons_self ..)) (by simp)
 |x :: M,[],_,_,h=>absurd ((h x).1 (List.mem_cons_self ..)) (by simp)
 |x :: M,y :: M',hM,hM',h=>by
  have h1:=List.pairwise_cons.1 hM;have h2:=List.pairwise_cons.1 hM';have e:x=y:=by
   rcases List.mem_cons.1 ((h x).1 (List.mem_cons_self ..)) with q|q
   .exact q
   .rcases List.mem_cons.1 ((h y).2 (List.mem_cons_self ..)) with q'|q'
    .exact q'.symm
    .have:=h2.1 x q;have:=h1.1 y q';omega
  subst e;rw[Srt.uniq h1.2 h2.2 fun z=>⟨fun hz=>?_,fun hz=>?_⟩]
  .rcases List.mem_cons.1 ((h z).1 (List.mem_cons_of_mem _ hz)) with q|q
   .subst q;exact absurd (h1.1 z hz) (by omega)
   .exact q
  .rcases List.mem_cons.1 ((h z).2 (List.mem_cons_of_mem _ hz)) with q|q
   .subst q;exact absurd (h2.1 z hz) (by omega)
   .exact q
theorem Rep.uniq{L:List Ent}{M M':List It}(h:Rep L M)(h':Rep L M'):M=M':=h.srt.uniq h'.srt fun x=>(h.mem x).trans (h'.mem x).symm
def bC(x:It):Bool->List It->List It
 |inn,[]=>if inn then [] else [x]
 |inn,y :: M=>if x.id<=y.id∧inn=false then x :: (if y.id=x.id then bC x true M else y :: bC x true M) else(if y.id=x.id then bC x inn M else y :: bC x inn M)
theorem mX(x:It):∀ (M:List It) (z:It),z∈bC x true M↔z∈M∧z.id≠x.id
 |[],z=>by simp[bC]
 |y :: M,z=>by
  unfold bC;rw[if_neg (by simp)];by_cases e:y.id=x.id
  .rw[if_pos e,mX x M z,List.mem_cons];constructor
   .rintro⟨h1,h2⟩;exact⟨.inr h1,h2⟩
   .rintro⟨h1|h1,h2⟩
    .subst h1;exact absurd e h2
    .exact⟨h1,h2⟩
  .rw[if_neg e,List.mem_cons,mX x M z,List.mem_cons];constructor
   .rintro(h1|⟨h1,h2⟩)
    .subst h1;exact⟨.inl rfl,e⟩
    .exact⟨.inr h1,h2⟩
   .rintro⟨h1|h1,h2⟩
    .exact .inl h1
    .exact .inr ⟨h1,h2⟩
theorem qJ(x:It):∀ {M:List It},Srt M->Srt (bC x true M)
 |[],_=>by unfold bC;exact List.Pairwise.nil
 |y :: M,h=>by
  have h1:=List.pairwise_cons.1 h;unfold bC;rw[if_neg (by simp)];have ih:=qJ x (M:=M) h1.2;split
  .exact ih
  .exact List.pairwise_cons.2 ⟨fun z hz=>h1.1 z ((mX x M z).1 hz).1,ih⟩
theorem wA(x:It):∀ {M:List It},Srt M->Srt (bC x false M)∧∀ z,z∈bC x false M↔z=x∨(z∈M∧z.id≠x.id)
 |[],_=>by
  unfold bC;exact⟨List.pairwise_singleton _ _,fun z=>by simp⟩
 |y :: M,h=>by
  have h1:=List.pairwise_cons.1 h;have hT:=mX x M;have hTs:=qJ x h1.2;obtain⟨ih1,ih2⟩:=wA x h1.2;unfold bC;by_cases hle:x.id<=y.id
  .rw[if_pos ⟨hle,rfl⟩];by_cases e:y.id=x.id
   .rw[if_pos e];refine⟨List.pairwise_cons.2 ⟨fun z hz=>?_,hTs⟩,fun z=>?_⟩
    .have:=h1.1 z ((hT z).1 hz).1;omega
    .rw[List.mem_cons,hT,List.mem_cons];constructor
     .rintro(h|⟨h,h'⟩)
      .exact .inl h
      .exact .inr ⟨.inr h,h'⟩
     .rintro(h|⟨h|h,h'⟩)
      .exact .inl h
      .subst h;exact absurd e h'
      .exact .inr ⟨h,h'⟩
   .rw[if_neg e];refine⟨List.pairwise_cons.2 ⟨fun z hz=>?_,List.pairwise_cons.2 ⟨fun z hz=>h1.1 z ((hT z).1 hz).1,hTs⟩⟩,fun z=>?_⟩
    .rcases List.mem_cons.1 hz with hz|hz
     .subst hz;omega
     .have:=h1.1 z ((hT z).1 hz).1;omega
    .rw[List.mem_cons,List.mem_cons,hT,List.mem_cons];constructor
     .rintro(h|h|⟨h,h'⟩)
      .exact .inl h
      .subst h;exact .inr ⟨.inl rfl,e⟩
      .exact .inr ⟨.inr h,h'⟩
     .rintro(h|⟨h|h,h'⟩)
      .exact .inl h
      .exact .inr (.inl h)
      .exact .inr (.inr ⟨h,h'⟩)
  .rw[if_neg (fun q=>hle q.1),if_neg (by omega)];refine⟨List.pairwise_cons.2 ⟨fun z hz=>?_,ih1⟩,fun z=>?_⟩
   .rcases(ih2 z).1 hz with h|⟨h,_⟩
    .subst h;omega
    .exact h1.1 z h
   .rw[List.mem_cons,ih2,List.mem_cons];constructor
    .rintro(h|h|⟨h,h'⟩)
     .subst h;exact .inr ⟨.inl rfl,by omega⟩
     .exact .inl h
     .exact .inr ⟨.inr h,h'⟩
    .rintro(h|⟨h|h,h'⟩)
     .exact .inr (.inl h)
     .exact .inl h
     .exact .inr (.inr ⟨h,h'⟩)
theorem Rep.put{L:List Ent}{M:List It}{e:Ent}{clock:Nat}(h:Rep L M)(hP:PutOk L e clock):Rep (bK L e clock) (bC (eB e) false M):=by
 obtain⟨h1,h2⟩:=wA (eB e) h.srt;refine⟨h1,fun x=>(h2 x).trans ⟨?_,?_⟩⟩
 .rintro(rfl|⟨hx,hne⟩)
  .obtain⟨b,hb⟩:=hP.has;exact⟨_,hb,rfl⟩
  .obtain⟨y,hy,rfl⟩:=(h.mem x).1 hx;exact⟨y,oZ hy hne,rfl⟩
 .rintro⟨y,hy,rfl⟩;rcases hP.mem y hy with⟨b,rfl⟩|⟨hy',hne⟩
  .exact .inl rfl
  .exact .inr ⟨(h.mem _).2 ⟨y,hy',rfl⟩,hne⟩
theorem Rep.del{L:List Ent}{M:List It}{id n:Nat}{e:Ent}(x:It)(hx:x.id=id)(h:Rep L M)(hids:(L.map (·.id)).Nodup)(hq:aK id L 0=some (n,e)):Rep (eE L id) (bC x true M):=by
 refine⟨qJ x h.srt,fun z=>(mX x M z).trans ⟨?_,?_⟩⟩
 .rintro⟨hz,hne⟩;obtain⟨y,hy,rfl⟩:=(h.mem z).1 hz;exact⟨y,(kE hids hq).2 ⟨hy,fun q=>hne (by rw[hx];exact q)⟩,rfl⟩
 .rintro⟨y,hy,rfl⟩;obtain⟨h1,h2⟩:=(kE hids hq).1 hy;exact⟨(h.mem _).2 ⟨y,h1,rfl⟩,fun q=>h2 (by rw[<-hx];exact q)⟩
theorem mI{l:List Nat} : ∀ {m:List Nat},l.Nodup->(∀ x∈l,x∈m)->l.length<=m.length:=by
 induction l with
 |nil=>intro m _ _;exact Nat.zero_le _
 |cons a l ih=>
  intro m hn hs;have h1:=List.nodup_cons.1 hn;have ha:=hs a (List.mem_cons_self ..);have:=ih (m:=m.erase a) h1.2 fun x hx=>(List.mem_erase_of_ne (a:=x) (b:=a) (fun e=>h1.1 (by rw[<-e];exact hx))).2 (hs x (List.mem_cons_of_mem _ hx))
  have h2:=List.length_erase_of_mem ha;have h3:0<m.length:=List.length_pos_of_mem ha;rw[List.length_cons];omega
def Few(L:List Ent):Prop:=∀ e∈L,e.id∈[1,301,1201,2701,4801,7501]
theorem Few.len{L:List Ent}(h:Few L)(hids:(L.map (·.id)).Nodup):L.length<=6:=by
 have:=mI (m:=[1,301,1201,2701,4801,7501]) hids fun x hx=>by
  obtain⟨e,he,rfl⟩:=List.mem_map.1 hx;exact h e he
 simpa using this
theorem Few.put{L:List Ent}{e:Ent}{clock:Nat}(h:Few L)(hP:PutOk L e clock)(he:e.id∈[1,301,1201,2701,4801,7501]):Few (bK L e clock):=fun x hx=>by
 rcases hP.mem x hx with⟨b,rfl⟩|⟨hx,_⟩
 .exact he
 .exact h x hx
theorem Few.del{L:List Ent}{id:Nat}(h:Few L):Few (eE L id):=fun x hx=>h x ((pG L id).subset hx)
theorem Few.same{L L0:List Ent}(h:Few L0)(hs:∀ e∈L,∃ e0∈L0,e.id=e0.id):Few L:=fun x hx=>by
 obtain⟨e0,h1,h2⟩:=hs x hx;rw[h2];exact h e0 h1
theorem Tf{L:List Ent}{e:Ent}{clock:Nat} : (bK L e clock).length=L.length+if (aK e.id L 0).isSome then 0 else 1:=by
 unfold bK;split
 .rename_i h;rw[h];simp
 .rename_i h;rw[h];simp
theorem Eh{L:List Ent}{e:Ent}{nb clock:Nat}(hL:L.length<=nb - 2)(h:fQ L nb e.id=false):(bK L e clock).length<=nb - 2:=by
 rw[Tf];unfold fQ at h;have:=of_decide_eq_false h;cases hf:(aK e.id L 0).isSome<;>simp[hf]at this ⊢<;>omega
theorem Rep.same{L L0:List Ent}{M:List It}(h:Rep L0 M)(h1:∀ e∈L,∃ e0∈L0,eB e=eB e0)(h2:∀ e0∈L0,∃ e∈L,eB e=eB e0):Rep L M:=by
 refine⟨h.srt,fun x=>(h.mem x).trans ⟨?_,?_⟩⟩
 .rintro⟨e0,q1,rfl⟩;obtain⟨e,q2,q3⟩:=h2 e0 q1;exact⟨e,q2,q3⟩
 .rintro⟨e,q1,rfl⟩;obtain⟨e0,q2,q3⟩:=h1 e q1;exact⟨e0,q2,q3.symm⟩
