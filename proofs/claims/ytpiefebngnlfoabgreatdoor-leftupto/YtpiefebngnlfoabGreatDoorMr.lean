import Derived.Test.YtpiefebngnlfoabGreatDoorMq
set_option maxRecDepth 99999
set_option maxHeartbeats 0
set_option linter.unusedVariables false
set_option linter.unusedSimpArgs false
namespace Go.Proofs.YtpiefebngnlfoabGreatDoor
open Go.RowKit Go.Conc Go.Vw
theorem qP(r i:Nat):(fT r).testBit i=((r.testBit (i+1)) ^^ (r.testBit 0&&(3988292384:Nat).testBit i)):=by
 unfold fT;rw[Nat.testBit_xor,Nat.testBit_succ];congr 1;rw[Nat.testBit_zero];by_cases h:r % 2=1
 .rw[if_pos h,show(3988292384&&&4294967295:Nat)=3988292384 by decide];simp[h]
 .rw[if_neg h];simp[h]
theorem Rf(a b:Nat):fT (a ^^^ b)=fT a ^^^ fT b:=by
 apply Nat.eq_of_testBit_eq;intro i;rw[Nat.testBit_xor,qP,qP,qP,Nat.testBit_xor,Nat.testBit_xor];cases a.testBit (i+1)<;>cases b.testBit (i+1)<;>cases a.testBit 0<;>cases b.testBit 0<;>cases(3988292384:Nat).testBit i<;>rfl
theorem Cz(a b n:Nat):cM (a ^^^ b) n=cM a n ^^^ cM b n:=by
 induction n with
 |zero=>rfl
 |succ n ih=>
  unfold cM;rw[ih,Rf]
theorem Md(n:Nat):cM 0 n=0:=by
 induction n with
 |zero=>rfl
 |succ n ih=>
  unfold cM;rw[ih];decide
theorem Rg(m:Nat):fT (2*m)=m:=by
 unfold fT;rw[if_neg (by omega),Nat.and_zero,Nat.xor_zero];omega
theorem rsteps_succ'(r n:Nat):cM r (n+1)=cM (fT r) n:=by
 induction n with
 |zero=>rfl
 |succ n ih=>
  show fT (cM r (n+1))=fT (cM (fT r) n);rw[ih]
theorem Db(r m n:Nat):cM r (m+n)=cM (cM r m) n:=by
 induction n with
 |zero=>rfl
 |succ n ih=>
  show fT (cM r (m+n))=fT (cM (cM r m) n);rw[ih]
theorem xI(m n:Nat):cM (2 ^ n*m) n=m:=by
 induction n with
 |zero=>simp[cM]
 |succ n ih=>
  rw[rsteps_succ',Nat.pow_succ,show 2 ^ n*2*m=2*(2 ^ n*m) by rw[Nat.mul_comm (2 ^ n) 2,Nat.mul_assoc],Rg,ih]
theorem Rh{r:Nat}(h:r<4294967296)(h0:fT r=0):r=0:=by
 have hb:r.testBit 0=false:=by
  have h1:=qP r 31;rw[h0,Nat.zero_testBit,Nat.testBit_lt_two_pow (x:=r) (i:=32) (by omega)]at h1;cases hb:r.testBit 0 with
  |false=>rfl
  |true=>
   rw[hb]at h1;simp at h1;exact absurd h1 (by decide)
 apply Nat.eq_of_testBit_eq;intro i;rw[Nat.zero_testBit];cases i with
 |zero=>exact hb
 |succ i=>
  have h1:=qP r i;rw[h0,Nat.zero_testBit,hb,Bool.false_and,Bool.xor_false]at h1;exact h1.symm
theorem Da{r:Nat}(h:r<4294967296):∀ n,cM r n=0->r=0
 |0,h0=>h0
 |n+1,h0=>Da h n (Rh (yB h n) h0)
theorem Gz{x m:Nat}(hx:x<256):x+256*m=x ^^^ (2 ^ 8*m):=by
 apply Nat.eq_of_testBit_eq;intro i;rw[Nat.testBit_xor,show x+256*m=2 ^ 8*m+x by omega,Nat.testBit_two_pow_mul_add _ hx,Nat.testBit_two_pow_mul];by_cases h:i<8
 .rw[if_pos h,decide_eq_false (by omega)];simp
 .rw[if_neg h,decide_eq_true (by omega),Nat.testBit_lt_two_pow (x:=x) (i:=i) (Nat.lt_of_lt_of_le hx (Nat.pow_le_pow_right (n:=2) (by omega) (by omega:8<=i)))];simp
def nN(r:Nat)(x:Nat->Nat):Nat->Nat
 |0=>r
 |n+1=>nN (cM (r ^^^ x 0) 8) (fun i=>x (i+1)) n
theorem Rl(n:Nat):∀ (r:Nat) {x:Nat->Nat},(∀ i,x i<256)->nN r x n=cM (r ^^^ bY x n) (8*n):=by
 induction n with
 |zero=>intro r x hx;simp[nN,bY,cM]
 |succ n ih=>
  intro r x hx;unfold nN bY;rw[ih _ fun i=>hx (i+1),Gz (hx 0),<-Nat.xor_assoc,show 8*(n+1)=8+8*n by omega,Db,Cz (r ^^^ x 0),xI]
theorem Me(n:Nat):∀ (x:Nat->Nat),bF x n=nN 0 x n:=by
 have key:∀ (n m:Nat) (x:Nat->Nat),nN (bF x m) (fun i=>x (m+i)) n=bF x (m+n):=by
  intro n;induction n with
  |zero=>intro m x;rfl
  |succ n ih=>
   intro m x;unfold nN;have h:=ih (m+1) x;have e1:bF x (m+1)=cM (bF x m ^^^ x (m+0)) 8:=rfl;have e2:(fun i=>x (m+1+i))=fun i=>x (m+(i+1)):=funext fun i=>by rw[show m+1+i=m+(i+1) by omega]
   rw[e1,e2]at h;rw[h,show m+1+n=m+(n+1) by omega]
 intro x;have:=key n 0 x;simp only[Nat.zero_add]at this;exact this.symm
theorem Rn{x:Nat->Nat}(hx:∀ i,x i<256)(n:Nat):bF x n=cM (bY x n) (8*n):=by
 rw[Me,Rl n 0 hx,Nat.zero_xor]
theorem Rm(x e:Nat->Nat)(n:Nat):bF (fun i=>x i ^^^ e i) n=bF x n ^^^ bF e n:=by
 induction n with
 |zero=>simp[bF]
 |succ n ih=>
  unfold bF;rw[ih,<-Cz];congr 1;rw[Nat.xor_assoc,Nat.xor_assoc];congr 1;rw[<-Nat.xor_assoc,Nat.xor_comm (bF e n) (x n),Nat.xor_assoc]
theorem Sk{n:Nat} : ∀ {x:Nat->Nat},(∀ i,x i<256)->bY x n=0->∀ i,i<n->x i=0:=by
 intro x hx h i hi;rw[qS hx n i hi,h];unfold bA;simp
theorem zcB{e:Nat->Nat}(he:∀ i,e i<256){p w n:Nat}(hw:w<4294967296)(hp:p<=8*n)(hN:bY e n=2 ^ p*w)(h:bF e n=0):∀ i,i<n->e i=0:=by
 have h1:=Rn he n;rw[h,hN,show 8*n=p+(8*n - p) by omega,Db,xI]at h1;have hw0:=Da hw _ h1.symm;refine Sk he ?_;rw[hN,hw0,Nat.mul_zero]
theorem uG(r:Nat):cM (r ^^^ (r % 256)) 8=r / 256:=by
 have h:=Gz (x:=r % 256) (m:=r / 256) (Nat.mod_lt _ (by omega));have e:r % 256+256*(r / 256)=r:=by omega
 rw[e]at h;have h2:r ^^^ (r % 256)=2 ^ 8*(r / 256):=by
  rw[Nat.xor_comm];conv=>lhs;rhs;rw[h]
  rw[<-Nat.xor_assoc,Nat.xor_self,Nat.zero_xor]
 rw[h2,xI]
theorem gD.rest{x:Nat->Nat}(hx:∀ i,x i<256)(h:gD x):bF x 96=0:=by
 obtain⟨_,_,_,_,h⟩:=h;generalize hB:eB (bY x 2) (bY (fun i=>x (2+i)) 2) (bY (fun i=>x (5+i)) 8) (bY (fun i=>x (4+i)) 1) ((bY (fun i=>x (2+i)) 2+9) / 10) (fun i=>x (13+i))=B;unfold aY at h;rw[hB]at h;have hlt:∀ i,B i<256:=fun i=>by rw[<-hB];exact yX (fun i=>hx _) i
 have h1:bF x 92=bF B 92:=tI fun i hi=>by
  rw[<-h i (by omega)];unfold eQ;rw[if_neg (by omega)]
 have hr:=yQ hlt 92;have hb:∀ i,i<4->x (92+i)=bA (bF B 92) i:=fun i hi=>by
  rw[<-h (92+i) (by omega)];unfold eQ;rw[if_pos (by omega),show 92+i - 92=i by omega]
 generalize bF B 92=r at h1 hr hb;have b0:=hb 0 (by omega);have b1:=hb 1 (by omega);have b2:=hb 2 (by omega);have b3:=hb 3 (by omega);unfold bA at b0 b1 b2 b3;simp only[Nat.add_zero,Nat.pow_zero,Nat.div_one,Nat.reduceAdd,Nat.reducePow]at b0 b1 b2 b3;have s0:bF x 93=r / 256:=by
  show cM (bF x 92 ^^^ x 92) 8=_;rw[h1,b0,uG]
 have s1:bF x 94=r / 65536:=by
  show cM (bF x 93 ^^^ x 93) 8=_;rw[s0,b1,uG,Nat.div_div_eq_div_mul]
 have s2:bF x 95=r / 16777216:=by
  show cM (bF x 94 ^^^ x 94) 8=_;rw[s1,b2,uG,Nat.div_div_eq_div_mul]
 show cM (bF x 95 ^^^ x 95) 8=0;rw[s2,b3,uG];omega
theorem Or{x:Nat->Nat}{n:Nat}(h:∀ i,i<n->x i=0):bF x n=0:=by
 rw[tI (y:=fun _=>0) h]
 clear h;induction n with
 |zero=>rfl
 |succ n ih=>
  show cM (bF (fun _=>0) n ^^^ 0) 8=0;rw[ih,Nat.xor_zero,Md]
theorem lL{x:Nat->Nat}(h:∀ i,i<96->x i=0):¬gD x:=fun hs=>by
 have h1:=hs.1;have:bY x 2=0:=by
  show x 0+256*(x 1+256*0)=0;rw[h 0 (by omega),h 1 (by omega)]
 omega
theorem Dw(N i j:Nat):(bA N i).testBit j=(decide (j<8)&&N.testBit (8*i+j)):=by
 unfold bA;rw[show(256:Nat)=2 ^ 8 from rfl,Nat.testBit_mod_two_pow,<-Nat.pow_mul,Nat.testBit_div_two_pow,Nat.add_comm]
theorem Po(M N i:Nat):bA (M ^^^ N) i=bA M i ^^^ bA N i:=by
 apply Nat.eq_of_testBit_eq;intro j;simp only[Dw,Nat.testBit_xor];cases decide (j<8)<;>simp
theorem Nn(i:Nat):bA 0 i=0:=by unfold bA;simp
theorem Pp(q i:Nat):bA (2 ^ q) i=if i=q / 8 then 2 ^ (q % 8) else 0:=by
 apply Nat.eq_of_testBit_eq;intro j;rw[Dw,Nat.testBit_two_pow];split
 .rename_i h;rw[Nat.testBit_two_pow];by_cases hj:j<8
  .have:(q=8*i+j)↔(q % 8=j):=by omega
   simp[hj,this]
  .have:¬q % 8=j:=by omega
   simp[hj,this]
 .rename_i h;rw[Nat.zero_testBit];by_cases hj:j<8
  .have:¬q=8*i+j:=by omega
   simp[hj,this]
  .simp[hj]
theorem Pq(N a i:Nat):bA N (a+i)=bA (N / 256 ^ a) i:=by
 unfold bA;rw[Nat.pow_add,Nat.div_div_eq_div_mul]
theorem Uw(at' W p m:Nat)(hm:32<m)(hW:W<4294967296):∃ q w,q<=m∧w<4294967296∧(2 ^ at'*W / 2 ^ p) % 2 ^ m=2 ^ q*w:=by
 by_cases h:p<=at'
 .have e:2 ^ at'*W / 2 ^ p=2 ^ (at' - p)*W:=by
   rw[show at'=p+(at' - p) by omega,Nat.pow_add,Nat.mul_assoc,Nat.mul_div_cancel_left _ (Nat.pow_pos (by omega)),show p+(at' - p) - p=at' - p by omega]
  rw[e];by_cases h2:m<=at' - p
  .refine⟨0,0,by omega,by omega,?_⟩;rw[show at' - p=m+(at' - p - m) by omega,Nat.pow_add,Nat.mul_assoc,Nat.mul_mod_right,Nat.mul_zero]
  .refine⟨at' - p,W % 2 ^ (m - (at' - p)),by omega,Nat.lt_of_le_of_lt (Nat.mod_le _ _) hW,?_⟩;rw[<-Nat.mul_mod_mul_left,<-Nat.pow_add,show at' - p+(m - (at' - p))=m by omega]
 .have e:2 ^ at'*W / 2 ^ p=W / 2 ^ (p - at'):=by
   rw[show 2 ^ p=2 ^ at'*2 ^ (p - at') by rw[<-Nat.pow_add];congr 1;omega,Nat.mul_div_mul_left _ _ (Nat.pow_pos (by omega))]
  have h1:W / 2 ^ (p - at')<4294967296:=Nat.lt_of_le_of_lt (Nat.div_le_self _ _) hW;have h3:4294967296<2 ^ m:=Nat.pow_lt_pow_right (a:=2) (by omega) hm;refine⟨0,W / 2 ^ (p - at'),by omega,h1,?_⟩;rw[e,Nat.mod_eq_of_lt (Nat.lt_trans h1 h3),Nat.pow_zero,Nat.one_mul]
theorem Kr{x y:Nat->Nat}{at' W p:Nat}(hW:W<4294967296)(hx:bF x 96=0)(hy:∀ i,i<96->y i=x i ^^^ bA (2 ^ at'*W) (p*96+i)):(∀ i,i<96->y i=x i)∨bF y 96≠0:=by
 by_cases h:bF y 96=0
 .refine .inl ?_;rw[tI hy,Rm,hx,Nat.zero_xor]at h;obtain⟨q,w,hq,hw,hN⟩:=Uw at' W (8*(p*96)) (8*96) (by omega) hW;have hn:bY (fun i=>bA (2 ^ at'*W) (p*96+i)) 96=2 ^ q*w:=by
   rw[rL (N:=2 ^ at'*W / 256 ^ (p*96)) fun i _=>Pq _ _ _,<-hN,show(256:Nat)=2 ^ 8 from rfl,<-Nat.pow_mul,<-Nat.pow_mul]
  have:=zcB (e:=fun i=>bA (2 ^ at'*W) (p*96+i)) (fun i=>oR _ _) hw hq hn h
  intro i hi;rw[hy i hi,this i hi,Nat.xor_zero]
 .exact .inr h
def aQ(s:Dsk)(n:Nat):Prop:=s.a=s.c∧n<=s.left
theorem aQ.le{s:Dsk}{n m:Nat}(h:aQ s n)(hm:m<=n):aQ s m:=⟨h.1,Nat.le_trans hm h.2⟩
theorem aQ.wr{s:Dsk}{n d p:Nat}{b:Nat->Nat}(h:aQ s (n+1)):aQ (s.wr d p b) n:=by
 have h2:=h.2;refine⟨?_,?_⟩
 .show(if 0<s.left then aT s.a d p b else s.a)=aT s.c d p b;rw[if_pos (by omega),h.1]
 .show n<=s.left - 1;omega
theorem aQ.blk1{s:Dsk}{p:Nat}{good:Nat->Bool}{last:Bool} : ∀ (k:Nat) {n:Nat},aQ s (n+k)->aQ (blk1 s p good last k) n
 |0,n,h=>h
 |k+1,n,h=>by
  have ih:=aQ.blk1 (p:=p) (good:=good) (last:=last) k (n:=n+1) (h.le (by omega));unfold Go.Proofs.YtpiefebngnlfoabGreatDoor.blk1;split
  .exact ih.wr
  .exact ih.le (by omega)
theorem aQ.blank{s:Dsk}{p n:Nat}{good:Nat->Bool}(h:aQ s (n+28)):aQ (gC s p good) n:=aQ.blk1 14 (aQ.blk1 14 (h.le (by omega)))
theorem aQ.lay{s:Dsk}{p:Nat}{B:Nat->Nat->Nat} : ∀ (k:Nat) {n:Nat},aQ s (n+k)->aQ (jU s p B k) n
 |0,n,h=>h
 |k+1,n,h=>aQ.wr (aQ.lay k (h.le (by omega)))
theorem aQ.sweep{s:Dsk}{t:Nat->Bool} : ∀ (k:Nat) {n:Nat},aQ s (n+28*k)->aQ (cD s t k) n
 |0,n,h=>h
 |k+1,n,h=>by
  have ih:=aQ.sweep (t:=t) k (n:=n+28) (h.le (by omega));unfold cD;split
  .exact ih.le (by omega)
  .exact ih.blank
theorem aQ.put{s:Dsk}{L:List Ent}{p id size turn n:Nat}{val:Nat->Nat}(h:aQ s (n+42)):aQ (jG s L p id size turn val) n:=by
 unfold jG;split
 .exact aQ.blank (aQ.lay 14 (h.le (by omega)))
 .exact aQ.lay 14 (h.le (by omega))
theorem aQ.scrub1{x:Scb}{k n:Nat}(h:aQ x.s (n+1)):aQ (scrub1 k x).s n:=by
 unfold Go.Proofs.YtpiefebngnlfoabGreatDoor.scrub1;split
 .exact h.wr
 .exact h.le (by omega)
theorem aQ.scrubN{x:Scb}{k:Nat} : ∀ (m:Nat) {n:Nat},aQ x.s (n+m)->aQ (scrubN k m x).s n
 |0,n,h=>h
 |m+1,n,h=>aQ.scrub1 (aQ.scrubN m (h.le (by omega)))
theorem zS{s:Dsk}{p:Nat}{good:Nat->Bool}{last:Bool}{d i:Nat}(hi:i<96):∀ n,(blk1 s p good last n).c d p i=if d<n∧good d=last then 0 else s.c d p i
 |0=>by rw[if_neg (by omega)];rfl
 |n+1=>by
  have ih:=zS (s:=s) (p:=p) (good:=good) (last:=last) (d:=d) hi n;unfold blk1;split
  .rename_i h;show aT (blk1 s p good last n).c n p (fun _=>0) d p i=_;unfold aT;by_cases e:d=n
   .subst e;rw[if_pos ⟨rfl,rfl⟩,if_pos ⟨by omega,h.1⟩]
   .rw[if_neg (fun q=>e q.1),ih];have:(d<n+1)↔d<n:=by omega
    simp only[this]
  .rename_i h;rw[ih];by_cases e:d=n
   .subst e;rw[if_neg (by omega)];split
    .rename_i h2;have hq:cC ((blk1 s p good last d).c d p) (fun _=>0) 0 96=true:=by
      cases hq:cC ((blk1 s p good last d).c d p) (fun _=>0) 0 96 with
      |true=>rfl
      |false=>exact absurd ⟨h2.2,hq⟩ h
     have:=(iC _ _ 96 0).1 hq i (by omega) (by omega);rw[ih,if_neg (by omega)]at this;exact this
    .rfl
   .have:(d<n+1)↔d<n:=by omega
    simp only[this]
theorem yJ{s:Dsk}{p:Nat}{good:Nat->Bool}{d i:Nat}(hd:d<14)(hi:i<96):(gC s p good).c d p i=0:=by
 unfold gC;rw[zS hi,zS hi];cases h:good d<;>simp[hd]
theorem uD{s:Dsk}{t:Nat->Bool}{d q:Nat}(h:t q=true):∀ n,(cD s t n).c d q=s.c d q
 |0=>rfl
 |n+1=>by
  unfold cD;split
  .exact uD h n
  .rename_i hn;rw[kQ (fun e=>hn (by rw[<-e];exact h))];exact uD h n
theorem qM{s:Dsk}{t:Nat->Bool}{d q i:Nat}(h:t q=false)(hd:d<14)(hi:i<96):∀ n,q<n->(cD s t n).c d q i=0
 |n+1,hq=>by
  unfold cD;split
  .rename_i hn;exact qM h hd hi n (Nat.lt_of_le_of_ne (by omega) fun e=>by rw[e,hn]at h;cases h)
  .by_cases e:q=n
   .subst e;exact yJ hd hi
   .rw[kQ e];exact qM h hd hi n (by omega)
structure Neat(nb:Nat)(c:Nat->Nat->Nat->Nat)(L:List Ent):Prop where
 bad:∀ e∈L,∀ k,k<14->e.good k=false->¬gD (c k e.slot)
 free:∀ p,p<nb->(∀ e∈L,e.slot≠p)->∀ k,k<14->∀ j,j<96->c k p j=0
theorem qR{L:List Ent}{e x:Ent}{clock:Nat}(hx:x∈L)(hne:x.id≠e.id):x∈bR L e clock:=by
 unfold bR;split
 .rename_i n old hf;obtain⟨m,h1,h2,h3⟩:=dN hf;obtain⟨i,hi⟩:=List.mem_iff_getElem?.1 hx;refine List.mem_iff_getElem?.2 ⟨i,?_⟩;rw[List.getElem?_set,if_neg,hi];rintro rfl;rw[show m=n by omega]at h2;rw[h2]at hi;cases hi
  exact hne h3
 .exact List.mem_append.2 (.inl hx)
theorem Neat.put{nb p id len turn clock:Nat}{val:Nat->Nat}{s:Dsk}{L:List Ent}(h:Neat nb s.c L)(hids:(L.map (·.id)).Nodup)(hsl:(L.map (·.slot)).Nodup)(hp:mC L nb p)(hP:PutOk L ⟨id,len,turn,p,val,fun _=>true,0⟩ clock):Neat nb (jG s L p id len turn val).c (bR L ⟨id,len,turn,p,val,fun _=>true,0⟩ clock):=by
 have hc:∀ d q,q≠p->(∀ e∈L,e.id=id->e.slot≠q)->(jG s L p id len turn val).c d q=s.c d q:=fun d q hq ho=>by
  unfold jG;split
  .rename_i n old hf;obtain⟨m,h1,h2,h3⟩:=dN hf;rw[kQ (fun e=>ho old (List.mem_of_getElem? h2) h3 e.symm)];funext i;rw[sD,if_neg (fun e=>hq e.1)]
  .funext i;rw[sD,if_neg (fun e=>hq e.1)]
 refine⟨fun e he k hk hg=>?_,fun q hq hn k hk j hj=>?_⟩
 .rcases hP.mem e he with⟨b,rfl⟩|⟨he',hne⟩
  .cases hg
  .rw[hc k e.slot (hp.2.1 e he') (fun o ho hi hs=>hne (by rw[<-iA (f:=fun x:Ent=>x.slot) hsl ho he' hs];exact hi))]
   exact h.bad e he' k hk hg
 .have hqp:q≠p:=fun e=>by
   obtain⟨b,hb⟩:=hP.has;exact hn _ hb e.symm
  by_cases ho:∃ e∈L,e.id=id∧e.slot=q
  .obtain⟨old,hm,hi,hs⟩:=ho;obtain⟨n,hf⟩:=uJ hids hm;rw[hi]at hf;unfold jG;rw[hf];show(gC _ old.slot old.good).c k q j=0;rw[<-hs];exact yJ hk hj
  .rw[hc k q hqp (fun e he hi hs=>ho ⟨e,he,hi,hs⟩)];refine h.free q hq (fun e he hs=>?_) k hk j hj;exact hn e (qR he (fun hi=>ho ⟨e,he,hi,hs⟩)) hs
theorem lP{L:List Ent}{id n:Nat}{e x:Ent}(hids:(L.map (·.id)).Nodup)(hq:aM id L 0=some (n,e)):x∈fA L id↔x∈L∧x.id≠id:=by
 have hp:=Fi hq;have hn:=(hp.map (·.id)).nodup_iff.1 hids;rw[List.map_cons,List.nodup_cons]at hn;obtain⟨m,h1,h2,h3⟩:=dN hq;constructor
 .intro hx;refine⟨hp.mem_iff.2 (List.mem_cons.2 (.inr hx)),fun hi=>hn.1 (List.mem_map.2 ⟨x,hx,?_⟩)⟩
  show x.id=e.id;rw[hi,h3]
 .rintro⟨hx,hi⟩;rcases List.mem_cons.1 (hp.mem_iff.1 hx) with h|h
  .subst h;exact absurd h3 hi
  .exact h
theorem Neat.del{nb id n:Nat}{s:Dsk}{L:List Ent}{e:Ent}(h:Neat nb s.c L)(hids:(L.map (·.id)).Nodup)(hsl:(L.map (·.slot)).Nodup)(hq:aM id L 0=some (n,e)):Neat nb (gC s e.slot e.good).c (fA L id):=by
 obtain⟨m,h1,h2,h3⟩:=dN hq;have hm:=List.mem_of_getElem? h2;refine⟨fun x hx k hk hg=>?_,fun q hq' hn k hk j hj=>?_⟩
 .obtain⟨hx,hi⟩:=(lP hids hq).1 hx;rw[kQ (fun e'=>hi (by rw[iA (f:=fun x:Ent=>x.slot) hsl hx hm e'];exact h3))]
  exact h.bad x hx k hk hg
 .by_cases ho:q=e.slot
  .subst ho;exact yJ hk hj
  .rw[kQ ho];refine h.free q hq' (fun x hx hs=>?_) k hk j hj;by_cases hi:x.id=id
   .have:=iA (f:=fun x:Ent=>x.id) hids hx hm (hi.trans h3.symm)
    subst this;exact ho hs.symm
   .exact hn x ((lP hids hq).2 ⟨hx,hi⟩) hs
def fJ(L:List Ent):Prop:=∀ e∈L,∀ k,k<14->e.good k=true
theorem fJ.put{L:List Ent}{e:Ent}{clock:Nat}(h:fJ L)(hP:PutOk L e clock)(he:∀ k,k<14->e.good k=true):fJ (bR L e clock):=fun x hx=>by
 rcases hP.mem x hx with⟨b,rfl⟩|⟨hx,_⟩
 .exact he
 .exact h x hx
theorem fJ.del{L:List Ent}{id:Nat}(h:fJ L):fJ (fA L id):=fun x hx=>h x ((qY L id).subset hx)
def Ent.lb(e:Ent):Lb:=⟨e.id,e.size,e.turn,e.val⟩
theorem EntOk.lb{nb turn:Nat}{c:Nat->Nat->Nat->Nat}{e:Ent}(h:EntOk nb turn c e)(ht:turn<18446744073709551616):e.lb.Ok:=⟨h.id1,h.id2,h.size,Nat.lt_of_le_of_lt h.turn ht,h.val⟩
theorem fJ.rest{nb turn:Nat}{c:Nat->Nat->Nat->Nat}{L:List Ent}(h:fJ L)(hN:Neat nb c L)(hE:∀ e∈L,EntOk nb turn c e)(ht:turn<18446744073709551616)(hb:∀ d p i,c d p i<256){k p:Nat}(hk:k<14)(hp:p<nb):bF (c k p) 96=0:=by
 by_cases ho:∃ e∈L,e.slot=p
 .obtain⟨e,he,rfl⟩:=ho;exact gD.rest (hb k _) (((hE e he).lb ht).sealed hk fun j hj=>(hE e he).blk k hk (h e he k hk) j hj)
 .exact Or fun i hi=>hN.free p hp (fun e he hs=>ho ⟨e,he,hs⟩) k hk i hi
structure Harm(nd nb:Nat)(T T':Nat->ByteArray)(H:Nat->Bool):Prop where
 four:aF H nd<=4
 same:∀ d,d<nd->H d=false->T' d=T d
 hit:∀ d,d<nd->H d=true->(T' d).size=0∨((T' d).size=nb*96∧∃ at' W,W<4294967296∧∀ i,i<nb*96->aS (T' d) i=aS (T d) i ^^^ bA (2 ^ at'*W) i)
theorem Harm.blk{nd nb d p wr:Nat}{T T':Nat->ByteArray}{H:Nat->Bool}(h:Harm nd nb T T' H)(hd:d<nd)(hp:p<nb)(hr:bF (fun i=>aS (T d) (p*96+i)) 96=0):(∀ i,i<96->(aH T' wr).c d p i=aS (T d) (p*96+i))∨(¬gD ((aH T' wr).c d p)∧H d=true):=by
 cases hH:H d with
 |false=>exact .inl fun i _=>by show aS (T' d) _=_;rw[h.same d hd hH]
 |true=>
  rcases h.hit d hd hH with h0|⟨_,at',W,hW,hx⟩
  .exact .inr ⟨lL fun i hi=>zR (by omega),rfl⟩
  .have hy:∀ i,i<96->(aH T' wr).c d p i=aS (T d) (p*96+i) ^^^ bA (2 ^ at'*W) (p*96+i):=fun i hi=>hx _ (by
    have:(p+1)*96<=nb*96:=Nat.mul_le_mul_right _ hp
    omega)
   rcases Kr hW hr hy with h1|h1
   .exact .inl h1
   .exact .inr ⟨fun hs=>h1 (hs.rest fun i=>sF _ _),rfl⟩
theorem Pm(g:Nat->Bool):∀ n,aF g n<=n:=fun n=>by
 unfold aF;have:=List.length_filter_le g (List.range n);rwa [List.length_range]at this
theorem kA(g:Nat->Bool)(n:Nat):aF g (n+1)=aF g n+if g n=true then 1 else 0:=by
 unfold aF;rw[List.range_succ,List.filter_append,List.length_append];cases h:g n<;>simp[h]
theorem Pn(g:Nat->Bool){m n:Nat}(h:m<=n):aF g m<=aF g n:=by
 induction n with
 |zero=>rw[show m=0 by omega];exact Nat.le_refl _
 |succ n ih=>
  by_cases e:m=n+1
  .rw[e];exact Nat.le_refl _
  .rw[kA];have:=ih (by omega);omega
theorem xR{g h:Nat->Bool} : ∀ n,(∀ k,k<n->h k=false->g k=true)->n<=aF g n+aF h n
 |0,_=>Nat.zero_le _
 |n+1,H=>by
  have ih:=xR n fun k hk=>H k (by omega)
  rw[kA,kA];have:=H n (by omega);cases hh:h n with
  |true=>simp;omega
  |false=>rw[this hh];simp;omega
theorem Harm.texts{nd nb:Nat}{T T':Nat->ByteArray}{H:Nat->Bool}(h:Harm nd nb T T' H)(hn:14<=nd)(hT:∀ d,d<nd->(T d).size=nb*96):TextsOk nd nb T':=by
 refine⟨fun j hj=>?_,?_⟩
 .cases hH:H j with
  |false=>exact .inr (by rw[h.same j hj hH];exact hT j hj)
  |true=>exact(h.hit j hj hH).imp id fun q=>q.1
 .by_cases ho:∃ j,j<nd∧H j=false
  .obtain⟨j,hj,hH⟩:=ho;exact⟨j,hj,by rw[h.same j hj hH];exact hT j hj⟩
  .have h1:=xR (g:=H) (h:=fun _=>false) nd fun k hk _=>by
    cases hH:H k with
    |true=>rfl
    |false=>exact absurd ⟨k,hk,hH⟩ ho
   have h2:=h.four;have h3:aF (fun _=>false) nd=0:=by unfold aF;simp
   omega
def jW(L:List Ent)(p:Nat):Option Ent:=L.find? fun e=>e.slot == p
theorem uT{L:List Ent}{p:Nat}{e:Ent}(h:jW L p=some e):e∈L∧e.slot=p:=⟨List.mem_of_find?_eq_some h,by simpa using List.find?_some h⟩
theorem rV{L:List Ent}{e:Ent}(hs:(L.map (·.slot)).Nodup)(he:e∈L):jW L e.slot=some e:=by
 cases h:jW L e.slot with
 |none=>exact absurd (List.find?_eq_none.1 h e he) (by simp)
 |some x=>
  obtain⟨h1,h2⟩:=uT h;rw[iA (f:=fun x:Ent=>x.slot) hs h1 he h2]
def fK(L:List Ent)(p:Nat):Lb:=match jW L p with|some e=>e.lb|none=>⟨0,0,0,fun _=>0⟩
def eY(L:List Ent)(c:Nat->Nat->Nat->Nat)(p k:Nat):Bool:=match jW L p with|some e=>cC (c k p) (e.lb.blk k) 0 96|none=>false
theorem Fe{nd nb turn wr:Nat}{c:Nat->Nat->Nat->Nat}{L:List Ent}{T':Nat->ByteArray}{H:Nat->Bool}(hS:fJ L)(hN:Neat nb c L)(hE:∀ e∈L,EntOk nb turn c e)(ht:turn<18446744073709551616)(hb:∀ d p i,c d p i<256)(hn:14<=nd)(h:Harm nd nb (fun d=>bS nb (c d)) T' H){p:Nat}(hp:p<nb):SlotK (aH T' wr).c p (fK L p) (eY L (aH T' wr).c p)∧∀ e,jW L p=some e->∀ k,k<14->H k=false->eY L (aH T' wr).c p k=true:=by
 have hbt:∀ k i,i<96->aS (bS nb (c k)) (p*96+i)=c k p i:=fun k i hi=>by
  have:(p+1)*96<=nb*96:=Nat.mul_le_mul_right _ hp;rw[rH (fun q j=>hb k q j) (by omega)];show c k ((p*96+i) / 96) ((p*96+i) % 96)=_;rw[show(p*96+i) / 96=p by omega,show(p*96+i) % 96=i by omega]
 have hbl:∀ k,k<14->(∀ i,i<96->(aH T' wr).c k p i=c k p i)∨(¬gD ((aH T' wr).c k p)∧H k=true):=fun k hk=>
  (h.blk (wr:=wr) (d:=k) (p:=p) (by omega) hp (by
   rw[tI (y:=c k p) fun i hi=>hbt k i hi]
   exact hS.rest hN hE ht hb hk hp)).imp (fun q i hi=>(q i hi).trans (hbt k i hi)) id
 cases ha:jW L p with
 |none=>
  have hno:∀ e∈L,e.slot≠p:=fun e he hs=>by
   have:=List.find?_eq_none.1 ha e he;simp[hs]at this
  refine⟨⟨fun k hk hg=>?_,fun k hk hg=>?_,fun k hk _=>?_⟩,fun e he=>(by cases he)⟩
  .unfold eY at hg;rw[ha]at hg;cases hg
  .unfold eY at hg;rw[ha]at hg;cases hg
  .rcases hbl k hk with q|q
   .exact lL fun i hi=>by rw[q i hi];exact hN.free p hp hno k hk i hi
   .exact q.1
 |some e=>
  obtain⟨he,hs⟩:=uT ha;have hl:fK L p=e.lb:=by unfold fK;rw[ha]
  have hg:∀ k,eY L (aH T' wr).c p k=cC ((aH T' wr).c k p) (e.lb.blk k) 0 96:=fun k=>by unfold eY;rw[ha]
  have hsame:∀ k,k<14->(∀ i,i<96->(aH T' wr).c k p i=c k p i)->eY L (aH T' wr).c p k=true:=fun k hk q=>by
   rw[hg];refine(iC _ _ 96 0).2 fun j _ hj=>?_
   rw[q j (by omega),<-hs];exact(hE e he).blk k hk (hS e he k hk) j (by omega)
  refine⟨⟨fun k hk hq=>?_,fun k hk hq j hj=>?_,fun k hk hq=>?_⟩,fun e' he' k hk hH=>?_⟩
  .rw[hl];exact(hE e he).lb ht
  .rw[hl];rw[hg]at hq;exact(iC _ _ 96 0).1 hq j (by omega) (by omega)
  .rcases hbl k hk with q|q
   .rw[hsame k hk q]at hq;cases hq
   .exact q.1
  .rcases hbl k hk with q|q
   .exact hsame k hk q
   .rw[hH]at q;cases q.2
theorem zX{G:Nat->Bool}{k n:Nat}(h:k<n):aN G n k=G k:=by simp[aN,h]
theorem uR(G:Nat->Bool)(n:Nat):∀ m,m<=n->aF (aN G n) m=aF G m
 |0,_=>rfl
 |m+1,h=>by rw[kA,kA,uR G n m (by omega),zX (by omega)]
structure pN(e e0:Ent):Prop where
 id:e.id=e0.id
 size:e.size=e0.size
 turn:e.turn=e0.turn
 slot:e.slot=e0.slot
 val:e.val=e0.val
theorem Ft{turn:Nat}{L0:List Ent}{c:Nat->Nat->Nat->Nat}(hids:(L0.map (·.id)).Nodup)(hsl:(L0.map (·.slot)).Nodup)(ht:∀ e∈L0,e.turn<=turn)(hten:∀ e∈L0,10<=aF (eY L0 c e.slot) 14):∀ {q:Nat} {L:List Ent} {t:Nat},fB (fK L0) (eY L0 c) q L t->
  (∀ e∈L,∃ e0∈L0,e0.slot<q∧pN e e0∧e.good=aN (eY L0 c e0.slot) 14)∧(∀ e0∈L0,e0.slot<q->∃ e∈L,pN e e0)∧t<=turn
 |0,L,t,h=>by
  obtain⟨rfl,rfl⟩:=h;exact⟨fun e he=>(by cases he),fun e _ h=>(by omega),Nat.zero_le _⟩
 |q+1,L',t',⟨L,t,h1,h2⟩=>by
  obtain⟨i1,i2,i3⟩:=Ft hids hsl ht hten h1;unfold Sv at h2;cases ha:jW L0 q with
  |none=>
   have hg:eY L0 c q=fun _=>false:=by funext k;unfold eY;rw[ha]
   rw[if_neg (by rw[hg];simp[dR])]at h2;obtain⟨rfl,rfl⟩:=h2;refine⟨fun e he=>?_,fun e0 he0 hlt=>?_,i3⟩
   .obtain⟨e0,q1,q2,q3⟩:=i1 e he;exact⟨e0,q1,by omega,q3⟩
   .by_cases e:e0.slot=q
    .rw[<-e,rV hsl he0]at ha;cases ha
    .exact i2 e0 he0 (by omega)
  |some e0=>
   obtain⟨he0,hs0⟩:=uT ha;have hl:fK L0 q=e0.lb:=by unfold fK;rw[ha]
   have h10:=hten e0 he0;rw[hs0]at h10;have hany:dR (eY L0 c q) 14=true:=by
    cases hx:dR (eY L0 c q) 14 with
    |true=>rfl
    |false=>
     have:aF (eY L0 c q) 14=0:=by
      unfold aF;rw[List.length_eq_zero_iff,List.filter_eq_nil_iff];intro a ha';unfold dR at hx;rw[List.any_eq_false]at hx;exact hx a ha'
     omega
   rw[if_pos hany]at h2;have hnew:aM (fK L0 q).id L 0=none:=by
    cases hf:aM (fK L0 q).id L 0 with
    |none=>rfl
    |some x=>
     obtain⟨m,q1,q2,q3⟩:=dN hf;obtain⟨e1,r1,r2,r3,_⟩:=i1 x.2 (List.mem_of_getElem? q2);rw[hl]at q3;have:=iA (f:=fun x:Ent=>x.id) hids r1 he0 (r3.id.symm.trans q3)
     subst this;omega
   have htk:fS L (fK L0 q) (eY L0 c q)=true:=by
    unfold fS;rw[hnew,uR _ _ _ (Nat.le_refl _)];simp[h10]
   rw[if_pos htk]at h2;obtain⟨rfl,clock,hP,rfl⟩:=h2;refine⟨fun e he=>?_,fun e1 he1 hlt=>?_,?_⟩
   .rcases hP.mem e he with⟨b,rfl⟩|⟨he,_⟩
    .refine⟨e0,he0,by omega,?_,?_⟩
     .rw[hl];exact⟨rfl,rfl,rfl,hs0.symm,rfl⟩
     .rw[hs0];rfl
    .obtain⟨e1,q1,q2,q3⟩:=i1 e he;exact⟨e1,q1,by omega,q3⟩
   .by_cases e:e1.slot=q
    .have:=iA (f:=fun x:Ent=>x.slot) hsl he1 he0 (e.trans hs0.symm)
     subst this;obtain⟨b,hb⟩:=hP.has;refine⟨_,hb,?_⟩;rw[hl];exact⟨rfl,rfl,rfl,hs0.symm,rfl⟩
    .obtain⟨x,hx,hS⟩:=i2 e1 he1 (by omega);refine⟨x,qR hx (fun hi=>?_),hS⟩;have hi':x.id=e0.id:=by rw[hi,hl];rfl
     have:=iA (f:=fun x:Ent=>x.id) hids he1 he0 (hS.id.symm.trans hi')
     subst this;exact e hs0
   .rw[hl];have:=ht e0 he0;show max t e0.turn<=turn;omega
structure It where
 id:Nat
 size:Nat
 val:Nat->Nat
def eX(e:Ent):It:=⟨e.id,e.size,e.val⟩
def jB(M:List It):Prop:=M.Pairwise fun a b=>a.id<b.id
structure Rep(L:List Ent)(M:List It):Prop where
 srt:jB M
 mem:∀ x,x∈M↔∃ e∈L,eX e=x
theorem jB.uniq:∀ {M M':List It},jB M->jB M'->(∀ x,x∈M↔x∈M')->M=M'
 |[],[],_,_,_=>rfl
 |[],y :: M',_,_,h=>absurd ((h y).2 (List.mem_cons_self ..)) (by simp)
 |x :: M,[],_,_,h=>absurd ((h x).1 (List.mem_cons_self ..)) (by simp)
 |x :: M,y :: M',hM,hM',h=>by
  have h1:=List.pairwise_cons.1 hM;have h2:=List.pairwise_cons.1 hM';have e:x=y:=by
   rcases List.mem_cons.1 ((h x).1 (List.mem_cons_self ..)) with q|q
   .exact q
   .rcases List.mem_cons.1 ((h y).2 (List.mem_cons_self ..)) with q'|q'
    .exact q'.symm
    .have:=h2.1 x q;have:=h1.1 y q';omega
  subst e;rw[jB.uniq h1.2 h2.2 fun z=>⟨fun hz=>?_,fun hz=>?_⟩]
  .rcases List.mem_cons.1 ((h z).1 (List.mem_cons_of_mem _ hz)) with q|q
   .subst q;exact absurd (h1.1 z hz) (by omega)
   .exact q
  .rcases List.mem_cons.1 ((h z).2 (List.mem_cons_of_mem _ hz)) with q|q
   .subst q;exact absurd (h2.1 z hz) (by omega)
   .exact q
theorem Rep.uniq{L:List Ent}{M M':List It}(h:Rep L M)(h':Rep L M'):M=M':=h.srt.uniq h'.srt fun x=>(h.mem x).trans (h'.mem x).symm
def bJ(x:It):Bool->List It->List It
 |dE,[]=>if dE then [] else [x]
 |dE,y :: M=>if x.id<=y.id∧dE=false then x :: (if y.id=x.id then bJ x true M else y :: bJ x true M) else(if y.id=x.id then bJ x dE M else y :: bJ x dE M)
theorem oT(x:It):∀ (M:List It) (z:It),z∈bJ x true M↔z∈M∧z.id≠x.id
 |[],z=>by simp[bJ]
 |y :: M,z=>by
  unfold bJ;rw[if_neg (by simp)];by_cases e:y.id=x.id
  .rw[if_pos e,oT x M z,List.mem_cons];constructor
   .rintro⟨h1,h2⟩;exact⟨.inr h1,h2⟩
   .rintro⟨h1|h1,h2⟩
    .subst h1;exact absurd e h2
    .exact⟨h1,h2⟩
  .rw[if_neg e,List.mem_cons,oT x M z,List.mem_cons];constructor
   .rintro(h1|⟨h1,h2⟩)
    .subst h1;exact⟨.inl rfl,e⟩
    .exact⟨.inr h1,h2⟩
   .rintro⟨h1|h1,h2⟩
    .exact .inl h1
    .exact .inr ⟨h1,h2⟩
theorem tC(x:It):∀ {M:List It},jB M->jB (bJ x true M)
 |[],_=>by unfold bJ;exact List.Pairwise.nil
 |y :: M,h=>by
  have h1:=List.pairwise_cons.1 h;unfold bJ;rw[if_neg (by simp)];have ih:=tC x (M:=M) h1.2;split
  .exact ih
  .exact List.pairwise_cons.2 ⟨fun z hz=>h1.1 z ((oT x M z).1 hz).1,ih⟩
theorem xX(x:It):∀ {M:List It},jB M->jB (bJ x false M)∧∀ z,z∈bJ x false M↔z=x∨(z∈M∧z.id≠x.id)
 |[],_=>by
  unfold bJ;exact⟨List.pairwise_singleton _ _,fun z=>by simp⟩
 |y :: M,h=>by
  have h1:=List.pairwise_cons.1 h;have hT:=oT x M;have hTs:=tC x h1.2;obtain⟨ih1,ih2⟩:=xX x h1.2;unfold bJ;by_cases hle:x.id<=y.id
  .rw[if_pos ⟨hle,rfl⟩];by_cases e:y.id=x.id
   .rw[if_pos e];refine⟨List.pairwise_cons.2 ⟨fun z hz=>?_,hTs⟩,fun z=>?_⟩
    .have:=h1.1 z ((hT z).1 hz).1;omega
    .rw[List.mem_cons,hT,List.mem_cons];constructor
     .rintro(h|⟨h,h'⟩)
      .exact .inl h
      .exact .inr ⟨.inr h,h'⟩
     .rintro(h|⟨h|h,h'⟩)
      .exact .inl h
      .subst h;exact absurd e h'
      .exact .inr ⟨h,h'⟩
   .rw[if_neg e];refine⟨List.pairwise_cons.2 ⟨fun z hz=>?_,List.pairwise_cons.2 ⟨fun z hz=>h1.1 z ((hT z).1 hz).1,hTs⟩⟩,fun z=>?_⟩
    .rcases List.mem_cons.1 hz with hz|hz
     .subst hz;omega
     .have:=h1.1 z ((hT z).1 hz).1;omega
    .rw[List.mem_cons,List.mem_cons,hT,List.mem_cons];constructor
     .rintro(h|h|⟨h,h'⟩)
      .exact .inl h
      .subst h;exact .inr ⟨.inl rfl,e⟩
      .exact .inr ⟨.inr h,h'⟩
     .rintro(h|⟨h|h,h'⟩)
      .exact .inl h
      .exact .inr (.inl h)
      .exact .inr (.inr ⟨h,h'⟩)
  .rw[if_neg (fun q=>hle q.1),if_neg (by omega)];refine⟨List.pairwise_cons.2 ⟨fun z hz=>?_,ih1⟩,fun z=>?_⟩
   .rcases(ih2 z).1 hz with h|⟨h,_⟩
    .subst h;omega
    .exact h1.1 z h
   .rw[List.mem_cons,ih2,List.mem_cons];constructor
    .rintro(h|h|⟨h,h'⟩)
     .subst h;exact .inr ⟨.inl rfl,by omega⟩
     .exact .inl h
     .exact .inr ⟨.inr h,h'⟩
    .rintro(h|⟨h|h,h'⟩)
     .exact .inr (.inl h)
     .exact .inl h
     .exact .inr (.inr ⟨h,h'⟩)
theorem Rep.put{L:List Ent}{M:List It}{e:Ent}{clock:Nat}(h:Rep L M)(hP:PutOk L e clock):Rep (bR L e clock) (bJ (eX e) false M):=by
 obtain⟨h1,h2⟩:=xX (eX e) h.srt;refine⟨h1,fun x=>(h2 x).trans ⟨?_,?_⟩⟩
 .rintro(rfl|⟨hx,hne⟩)
  .obtain⟨b,hb⟩:=hP.has;exact⟨_,hb,rfl⟩
  .obtain⟨y,hy,rfl⟩:=(h.mem x).1 hx;exact⟨y,qR hy hne,rfl⟩
 .rintro⟨y,hy,rfl⟩;rcases hP.mem y hy with⟨b,rfl⟩|⟨hy',hne⟩
  .exact .inl rfl
  .exact .inr ⟨(h.mem _).2 ⟨y,hy',rfl⟩,hne⟩
theorem Rep.del{L:List Ent}{M:List It}{id n:Nat}{e:Ent}(x:It)(hx:x.id=id)(h:Rep L M)(hids:(L.map (·.id)).Nodup)(hq:aM id L 0=some (n,e)):Rep (fA L id) (bJ x true M):=by
 refine⟨tC x h.srt,fun z=>(oT x M z).trans ⟨?_,?_⟩⟩
 .rintro⟨hz,hne⟩;obtain⟨y,hy,rfl⟩:=(h.mem z).1 hz;exact⟨y,(lP hids hq).2 ⟨hy,fun q=>hne (by rw[hx];exact q)⟩,rfl⟩
 .rintro⟨y,hy,rfl⟩;obtain⟨h1,h2⟩:=(lP hids hq).1 hy;exact⟨(h.mem _).2 ⟨y,h1,rfl⟩,fun q=>h2 (by rw[<-hx];exact q)⟩
theorem oE{l:List Nat} : ∀ {m:List Nat},l.Nodup->(∀ x∈l,x∈m)->l.length<=m.length:=by
 induction l with
 |nil=>intro m _ _;exact Nat.zero_le _
 |cons a l ih=>
  intro m hn hs;have h1:=List.nodup_cons.1 hn;have ha:=hs a (List.mem_cons_self ..);have:=ih (m:=m.erase a) h1.2 fun x hx=>(List.mem_erase_of_ne (a:=x) (b:=a) (fun e=>h1.1 (by rw[<-e];exact hx))).2 (hs x (List.mem_cons_of_mem _ hx))
  have h2:=List.length_erase_of_mem ha;have h3:0<m.length:=List.length_pos_of_mem ha;rw[List.length_cons];omega
def iQ(L:List Ent):Prop:=∀ e∈L,e.id∈[1,301,1201,2701,4801,7501]
theorem iQ.len{L:List Ent}(h:iQ L)(hids:(L.map (·.id)).Nodup):L.length<=6:=by
 have:=oE (m:=[1,301,1201,2701,4801,7501]) hids fun x hx=>by
  obtain⟨e,he,rfl⟩:=List.mem_map.1 hx;exact h e he
 simpa using this
theorem iQ.put{L:List Ent}{e:Ent}{clock:Nat}(h:iQ L)(hP:PutOk L e clock)(he:e.id∈[1,301,1201,2701,4801,7501]):iQ (bR L e clock):=fun x hx=>by
 rcases hP.mem x hx with⟨b,rfl⟩|⟨hx,_⟩
 .exact he
 .exact h x hx
theorem iQ.del{L:List Ent}{id:Nat}(h:iQ L):iQ (fA L id):=fun x hx=>h x ((qY L id).subset hx)
theorem iQ.same{L L0:List Ent}(h:iQ L0)(hs:∀ e∈L,∃ e0∈L0,e.id=e0.id):iQ L:=fun x hx=>by
 obtain⟨e0,h1,h2⟩:=hs x hx;rw[h2];exact h e0 h1
theorem Ve{L:List Ent}{e:Ent}{clock:Nat} : (bR L e clock).length=L.length+if (aM e.id L 0).isSome then 0 else 1:=by
 unfold bR;split
 .rename_i h;rw[h];simp
 .rename_i h;rw[h];simp
theorem Ge{L:List Ent}{e:Ent}{nb clock:Nat}(hL:L.length<=nb - 2)(h:gR L nb e.id=false):(bR L e clock).length<=nb - 2:=by
 rw[Ve];unfold gR at h;have:=of_decide_eq_false h;cases hf:(aM e.id L 0).isSome<;>simp[hf]at this ⊢<;>omega
theorem Rep.same{L L0:List Ent}{M:List It}(h:Rep L0 M)(h1:∀ e∈L,∃ e0∈L0,eX e=eX e0)(h2:∀ e0∈L0,∃ e∈L,eX e=eX e0):Rep L M:=by
 refine⟨h.srt,fun x=>(h.mem x).trans ⟨?_,?_⟩⟩
 .rintro⟨e0,q1,rfl⟩;obtain⟨e,q2,q3⟩:=h2 e0 q1;exact⟨e,q2,q3⟩
 .rintro⟨e,q1,rfl⟩;obtain⟨e0,q2,q3⟩:=h1 e q1;exact⟨e0,q2,q3.symm⟩
