import Derived.Test.YtpiefebngnlfoabGreatDoorMq
set_option maxRecDepth 99999
set_option maxHeartbeats 0
set_option linter.unusedVariables false
set_option linter.unusedSimpArgs false
namespace Go.Proofs.YtpiefebngnlfoabGreatDoor
open Go.RowKit Go.Conc Go.Vw
theorem qO(r i:Nat):(fQ r).testBit i=((r.testBit (i+1)) ^^ (r.testBit 0&&(3988292384:Nat).testBit i)):=by
 unfold fQ;rw[Nat.testBit_xor,Nat.testBit_succ];congr 1;rw[Nat.testBit_zero];by_cases h:r % 2=1
 .rw[if_pos h,show(3988292384&&&4294967295:Nat)=3988292384 by decide];simp[h]
 .rw[if_neg h];simp[h]
theorem Qz(a b:Nat):fQ (a ^^^ b)=fQ a ^^^ fQ b:=by
 apply Nat.eq_of_testBit_eq;intro i;rw[Nat.testBit_xor,qO,qO,qO,Nat.testBit_xor,Nat.testBit_xor];cases a.testBit (i+1)<;>cases b.testBit (i+1)<;>cases a.testBit 0<;>cases b.testBit 0<;>cases(3988292384:Nat).testBit i<;>rfl
theorem Cv(a b n:Nat):cM (a ^^^ b) n=cM a n ^^^ cM b n:=by
 induction n with
 |zero=>rfl
 |succ n ih=>
  unfold cM;rw[ih,Qz]
theorem Lw(n:Nat):cM 0 n=0:=by
 induction n with
 |zero=>rfl
 |succ n ih=>
  unfold cM;rw[ih];decide
theorem Ra(m:Nat):fQ (2*m)=m:=by
 unfold fQ;rw[if_neg (by omega),Nat.and_zero,Nat.xor_zero];omega
theorem rsteps_succ'(r n:Nat):cM r (n+1)=cM (fQ r) n:=by
 induction n with
 |zero=>rfl
 |succ n ih=>
  show fQ (cM r (n+1))=fQ (cM (fQ r) n);rw[ih]
theorem Cx(r m n:Nat):cM r (m+n)=cM (cM r m) n:=by
 induction n with
 |zero=>rfl
 |succ n ih=>
  show fQ (cM r (m+n))=fQ (cM (cM r m) n);rw[ih]
theorem xF(m n:Nat):cM (2 ^ n*m) n=m:=by
 induction n with
 |zero=>simp[cM]
 |succ n ih=>
  rw[rsteps_succ',Nat.pow_succ,show 2 ^ n*2*m=2*(2 ^ n*m) by rw[Nat.mul_comm (2 ^ n) 2,Nat.mul_assoc],Ra,ih]
theorem Rb{r:Nat}(h:r<4294967296)(h0:fQ r=0):r=0:=by
 have hb:r.testBit 0=false:=by
  have h1:=qO r 31;rw[h0,Nat.zero_testBit,Nat.testBit_lt_two_pow (x:=r) (i:=32) (by omega)]at h1;cases hb:r.testBit 0 with
  |false=>rfl
  |true=>
   rw[hb]at h1;simp at h1;exact absurd h1 (by decide)
 apply Nat.eq_of_testBit_eq;intro i;rw[Nat.zero_testBit];cases i with
 |zero=>exact hb
 |succ i=>
  have h1:=qO r i;rw[h0,Nat.zero_testBit,hb,Bool.false_and,Bool.xor_false]at h1;exact h1.symm
theorem Cw{r:Nat}(h:r<4294967296):∀ n,cM r n=0->r=0
 |0,h0=>h0
 |n+1,h0=>Cw h n (Rb (xX h n) h0)
theorem Gt{x m:Nat}(hx:x<256):x+256*m=x ^^^ (2 ^ 8*m):=by
 apply Nat.eq_of_testBit_eq;intro i;rw[Nat.testBit_xor,show x+256*m=2 ^ 8*m+x by omega,Nat.testBit_two_pow_mul_add _ hx,Nat.testBit_two_pow_mul];by_cases h:i<8
 .rw[if_pos h,decide_eq_false (by omega)];simp
 .rw[if_neg h,decide_eq_true (by omega),Nat.testBit_lt_two_pow (x:=x) (i:=i) (Nat.lt_of_lt_of_le hx (Nat.pow_le_pow_right (n:=2) (by omega) (by omega:8<=i)))];simp
def nH(r:Nat)(x:Nat->Nat):Nat->Nat
 |0=>r
 |n+1=>nH (cM (r ^^^ x 0) 8) (fun i=>x (i+1)) n
theorem Rg(n:Nat):∀ (r:Nat) {x:Nat->Nat},(∀ i,x i<256)->nH r x n=cM (r ^^^ bY x n) (8*n):=by
 induction n with
 |zero=>intro r x hx;simp[nH,bY,cM]
 |succ n ih=>
  intro r x hx;unfold nH bY;rw[ih _ fun i=>hx (i+1),Gt (hx 0),<-Nat.xor_assoc,show 8*(n+1)=8+8*n by omega,Cx,Cv (r ^^^ x 0),xF]
theorem Lx(n:Nat):∀ (x:Nat->Nat),bC x n=nH 0 x n:=by
 have key:∀ (n m:Nat) (x:Nat->Nat),nH (bC x m) (fun i=>x (m+i)) n=bC x (m+n):=by
  intro n;induction n with
  |zero=>intro m x;rfl
  |succ n ih=>
   intro m x;unfold nH;have h:=ih (m+1) x;have e1:bC x (m+1)=cM (bC x m ^^^ x (m+0)) 8:=rfl;have e2:(fun i=>x (m+1+i))=fun i=>x (m+(i+1)):=funext fun i=>by rw[show m+1+i=m+(i+1) by omega]
   rw[e1,e2]at h;rw[h,show m+1+n=m+(n+1) by omega]
 intro x;have:=key n 0 x;simp only[Nat.zero_add]at this;exact this.symm
theorem Ri{x:Nat->Nat}(hx:∀ i,x i<256)(n:Nat):bC x n=cM (bY x n) (8*n):=by
 rw[Lx,Rg n 0 hx,Nat.zero_xor]
theorem Rh(x e:Nat->Nat)(n:Nat):bC (fun i=>x i ^^^ e i) n=bC x n ^^^ bC e n:=by
 induction n with
 |zero=>simp[bC]
 |succ n ih=>
  unfold bC;rw[ih,<-Cv];congr 1;rw[Nat.xor_assoc,Nat.xor_assoc];congr 1;rw[<-Nat.xor_assoc,Nat.xor_comm (bC e n) (x n),Nat.xor_assoc]
theorem Sf{n:Nat} : ∀ {x:Nat->Nat},(∀ i,x i<256)->bY x n=0->∀ i,i<n->x i=0:=by
 intro x hx h i hi;rw[qR hx n i hi,h];unfold aW;simp
theorem zbN{e:Nat->Nat}(he:∀ i,e i<256){p w n:Nat}(hw:w<4294967296)(hp:p<=8*n)(hN:bY e n=2 ^ p*w)(h:bC e n=0):∀ i,i<n->e i=0:=by
 have h1:=Ri he n;rw[h,hN,show 8*n=p+(8*n - p) by omega,Cx,xF]at h1;have hw0:=Cw hw _ h1.symm;refine Sf he ?_;rw[hN,hw0,Nat.mul_zero]
theorem uF(r:Nat):cM (r ^^^ (r % 256)) 8=r / 256:=by
 have h:=Gt (x:=r % 256) (m:=r / 256) (Nat.mod_lt _ (by omega));have e:r % 256+256*(r / 256)=r:=by omega
 rw[e]at h;have h2:r ^^^ (r % 256)=2 ^ 8*(r / 256):=by
  rw[Nat.xor_comm];conv=>lhs;rhs;rw[h]
  rw[<-Nat.xor_assoc,Nat.xor_self,Nat.zero_xor]
 rw[h2,xF]
theorem gC.rest{x:Nat->Nat}(hx:∀ i,x i<256)(h:gC x):bC x 96=0:=by
 obtain⟨_,_,_,_,h⟩:=h;generalize hB:eD (bY x 2) (bY (fun i=>x (2+i)) 2) (bY (fun i=>x (5+i)) 8) (bY (fun i=>x (4+i)) 1) ((bY (fun i=>x (2+i)) 2+9) / 10) (fun i=>x (13+i))=B;unfold aU at h;rw[hB]at h;have hlt:∀ i,B i<256:=fun i=>by rw[<-hB];exact yS (fun i=>hx _) i
 have h1:bC x 92=bC B 92:=tJ fun i hi=>by
  rw[<-h i (by omega)];unfold eO;rw[if_neg (by omega)]
 have hr:=yM hlt 92;have hb:∀ i,i<4->x (92+i)=aW (bC B 92) i:=fun i hi=>by
  rw[<-h (92+i) (by omega)];unfold eO;rw[if_pos (by omega),show 92+i - 92=i by omega]
 generalize bC B 92=r at h1 hr hb;have b0:=hb 0 (by omega);have b1:=hb 1 (by omega);have b2:=hb 2 (by omega);have b3:=hb 3 (by omega);unfold aW at b0 b1 b2 b3;simp only[Nat.add_zero,Nat.pow_zero,Nat.div_one,Nat.reduceAdd,Nat.reducePow]at b0 b1 b2 b3;have s0:bC x 93=r / 256:=by
  show cM (bC x 92 ^^^ x 92) 8=_;rw[h1,b0,uF]
 have s1:bC x 94=r / 65536:=by
  show cM (bC x 93 ^^^ x 93) 8=_;rw[s0,b1,uF,Nat.div_div_eq_div_mul]
 have s2:bC x 95=r / 16777216:=by
  show cM (bC x 94 ^^^ x 94) 8=_;rw[s1,b2,uF,Nat.div_div_eq_div_mul]
 show cM (bC x 95 ^^^ x 95) 8=0;rw[s2,b3,uF];omega
theorem Ol{x:Nat->Nat}{n:Nat}(h:∀ i,i<n->x i=0):bC x n=0:=by
 rw[tJ (y:=fun _=>0) h]
 clear h;induction n with
 |zero=>rfl
 |succ n ih=>
  show cM (bC (fun _=>0) n ^^^ 0) 8=0;rw[ih,Nat.xor_zero,Lw]
theorem lF{x:Nat->Nat}(h:∀ i,i<96->x i=0):¬gC x:=fun hs=>by
 have h1:=hs.1;have:bY x 2=0:=by
  show x 0+256*(x 1+256*0)=0;rw[h 0 (by omega),h 1 (by omega)]
 omega
theorem Ds(N i j:Nat):(aW N i).testBit j=(decide (j<8)&&N.testBit (8*i+j)):=by
 unfold aW;rw[show(256:Nat)=2 ^ 8 from rfl,Nat.testBit_mod_two_pow,<-Nat.pow_mul,Nat.testBit_div_two_pow,Nat.add_comm]
theorem Pg(M N i:Nat):aW (M ^^^ N) i=aW M i ^^^ aW N i:=by
 apply Nat.eq_of_testBit_eq;intro j;simp only[Ds,Nat.testBit_xor];cases decide (j<8)<;>simp
theorem Ng(i:Nat):aW 0 i=0:=by unfold aW;simp
theorem Pi(q i:Nat):aW (2 ^ q) i=if i=q / 8 then 2 ^ (q % 8) else 0:=by
 apply Nat.eq_of_testBit_eq;intro j;rw[Ds,Nat.testBit_two_pow];split
 .rename_i h;rw[Nat.testBit_two_pow];by_cases hj:j<8
  .have:(q=8*i+j)↔(q % 8=j):=by omega
   simp[hj,this]
  .have:¬q % 8=j:=by omega
   simp[hj,this]
 .rename_i h;rw[Nat.zero_testBit];by_cases hj:j<8
  .have:¬q=8*i+j:=by omega
   simp[hj,this]
  .simp[hj]
theorem Pj(N a i:Nat):aW N (a+i)=aW (N / 256 ^ a) i:=by
 unfold aW;rw[Nat.pow_add,Nat.div_div_eq_div_mul]
theorem Ur(at' W p m:Nat)(hm:32<m)(hW:W<4294967296):∃ q w,q<=m∧w<4294967296∧(2 ^ at'*W / 2 ^ p) % 2 ^ m=2 ^ q*w:=by
 by_cases h:p<=at'
 .have e:2 ^ at'*W / 2 ^ p=2 ^ (at' - p)*W:=by
   rw[show at'=p+(at' - p) by omega,Nat.pow_add,Nat.mul_assoc,Nat.mul_div_cancel_left _ (Nat.pow_pos (by omega)),show p+(at' - p) - p=at' - p by omega]
  rw[e];by_cases h2:m<=at' - p
  .refine⟨0,0,by omega,by omega,?_⟩;rw[show at' - p=m+(at' - p - m) by omega,Nat.pow_add,Nat.mul_assoc,Nat.mul_mod_right,Nat.mul_zero]
  .refine⟨at' - p,W % 2 ^ (m - (at' - p)),by omega,Nat.lt_of_le_of_lt (Nat.mod_le _ _) hW,?_⟩;rw[<-Nat.mul_mod_mul_left,<-Nat.pow_add,show at' - p+(m - (at' - p))=m by omega]
 .have e:2 ^ at'*W / 2 ^ p=W / 2 ^ (p - at'):=by
   rw[show 2 ^ p=2 ^ at'*2 ^ (p - at') by rw[<-Nat.pow_add];congr 1;omega,Nat.mul_div_mul_left _ _ (Nat.pow_pos (by omega))]
  have h1:W / 2 ^ (p - at')<4294967296:=Nat.lt_of_le_of_lt (Nat.div_le_self _ _) hW;have h3:4294967296<2 ^ m:=Nat.pow_lt_pow_right (a:=2) (by omega) hm;refine⟨0,W / 2 ^ (p - at'),by omega,h1,?_⟩;rw[e,Nat.mod_eq_of_lt (Nat.lt_trans h1 h3),Nat.pow_zero,Nat.one_mul]
theorem Kj{x y:Nat->Nat}{at' W p:Nat}(hW:W<4294967296)(hx:bC x 96=0)(hy:∀ i,i<96->y i=x i ^^^ aW (2 ^ at'*W) (p*96+i)):(∀ i,i<96->y i=x i)∨bC y 96≠0:=by
 by_cases h:bC y 96=0
 .refine .inl ?_;rw[tJ hy,Rh,hx,Nat.zero_xor]at h;obtain⟨q,w,hq,hw,hN⟩:=Ur at' W (8*(p*96)) (8*96) (by omega) hW;have hn:bY (fun i=>aW (2 ^ at'*W) (p*96+i)) 96=2 ^ q*w:=by
   rw[rH (N:=2 ^ at'*W / 256 ^ (p*96)) fun i _=>Pj _ _ _,<-hN,show(256:Nat)=2 ^ 8 from rfl,<-Nat.pow_mul,<-Nat.pow_mul]
  have:=zbN (e:=fun i=>aW (2 ^ at'*W) (p*96+i)) (fun i=>oN _ _) hw hq hn h
  intro i hi;rw[hy i hi,this i hi,Nat.xor_zero]
 .exact .inr h
def aP(s:Dsk)(n:Nat):Prop:=s.a=s.c∧n<=s.left
theorem aP.le{s:Dsk}{n m:Nat}(h:aP s n)(hm:m<=n):aP s m:=⟨h.1,Nat.le_trans hm h.2⟩
theorem aP.wr{s:Dsk}{n d p:Nat}{b:Nat->Nat}(h:aP s (n+1)):aP (s.wr d p b) n:=by
 have h2:=h.2;refine⟨?_,?_⟩
 .show(if 0<s.left then aX s.a d p b else s.a)=aX s.c d p b;rw[if_pos (by omega),h.1]
 .show n<=s.left - 1;omega
theorem aP.blk1{s:Dsk}{p:Nat}{good:Nat->Bool}{last:Bool} : ∀ (k:Nat) {n:Nat},aP s (n+k)->aP (blk1 s p good last k) n
 |0,n,h=>h
 |k+1,n,h=>by
  have ih:=aP.blk1 (p:=p) (good:=good) (last:=last) k (n:=n+1) (h.le (by omega));unfold Go.Proofs.YtpiefebngnlfoabGreatDoor.blk1;split
  .exact ih.wr
  .exact ih.le (by omega)
theorem aP.blank{s:Dsk}{p n:Nat}{good:Nat->Bool}(h:aP s (n+28)):aP (gA s p good) n:=aP.blk1 14 (aP.blk1 14 (h.le (by omega)))
theorem aP.lay{s:Dsk}{p:Nat}{B:Nat->Nat->Nat} : ∀ (k:Nat) {n:Nat},aP s (n+k)->aP (jP s p B k) n
 |0,n,h=>h
 |k+1,n,h=>aP.wr (aP.lay k (h.le (by omega)))
theorem aP.sweep{s:Dsk}{t:Nat->Bool} : ∀ (k:Nat) {n:Nat},aP s (n+28*k)->aP (cD s t k) n
 |0,n,h=>h
 |k+1,n,h=>by
  have ih:=aP.sweep (t:=t) k (n:=n+28) (h.le (by omega));unfold cD;split
  .exact ih.le (by omega)
  .exact ih.blank
theorem aP.put{s:Dsk}{L:List Ent}{p id size turn n:Nat}{val:Nat->Nat}(h:aP s (n+42)):aP (jD s L p id size turn val) n:=by
 unfold jD;split
 .exact aP.blank (aP.lay 14 (h.le (by omega)))
 .exact aP.lay 14 (h.le (by omega))
theorem aP.scrub1{x:Scb}{k n:Nat}(h:aP x.s (n+1)):aP (scrub1 k x).s n:=by
 unfold Go.Proofs.YtpiefebngnlfoabGreatDoor.scrub1;split
 .exact h.wr
 .exact h.le (by omega)
theorem aP.scrubN{x:Scb}{k:Nat} : ∀ (m:Nat) {n:Nat},aP x.s (n+m)->aP (scrubN k m x).s n
 |0,n,h=>h
 |m+1,n,h=>aP.scrub1 (aP.scrubN m (h.le (by omega)))
theorem zM{s:Dsk}{p:Nat}{good:Nat->Bool}{last:Bool}{d i:Nat}(hi:i<96):∀ n,(blk1 s p good last n).c d p i=if d<n∧good d=last then 0 else s.c d p i
 |0=>by rw[if_neg (by omega)];rfl
 |n+1=>by
  have ih:=zM (s:=s) (p:=p) (good:=good) (last:=last) (d:=d) hi n;unfold blk1;split
  .rename_i h;show aX (blk1 s p good last n).c n p (fun _=>0) d p i=_;unfold aX;by_cases e:d=n
   .subst e;rw[if_pos ⟨rfl,rfl⟩,if_pos ⟨by omega,h.1⟩]
   .rw[if_neg (fun q=>e q.1),ih];have:(d<n+1)↔d<n:=by omega
    simp only[this]
  .rename_i h;rw[ih];by_cases e:d=n
   .subst e;rw[if_neg (by omega)];split
    .rename_i h2;have hq:cV ((blk1 s p good last d).c d p) (fun _=>0) 0 96=true:=by
      cases hq:cV ((blk1 s p good last d).c d p) (fun _=>0) 0 96 with
      |true=>rfl
      |false=>exact absurd ⟨h2.2,hq⟩ h
     have:=(kN _ _ 96 0).1 hq i (by omega) (by omega);rw[ih,if_neg (by omega)]at this;exact this
    .rfl
   .have:(d<n+1)↔d<n:=by omega
    simp only[this]
theorem yF{s:Dsk}{p:Nat}{good:Nat->Bool}{d i:Nat}(hd:d<14)(hi:i<96):(gA s p good).c d p i=0:=by
 unfold gA;rw[zM hi,zM hi];cases h:good d<;>simp[hd]
theorem uC{s:Dsk}{t:Nat->Bool}{d q:Nat}(h:t q=true):∀ n,(cD s t n).c d q=s.c d q
 |0=>rfl
 |n+1=>by
  unfold cD;split
  .exact uC h n
  .rename_i hn;rw[kL (fun e=>hn (by rw[<-e];exact h))];exact uC h n
theorem qL{s:Dsk}{t:Nat->Bool}{d q i:Nat}(h:t q=false)(hd:d<14)(hi:i<96):∀ n,q<n->(cD s t n).c d q i=0
 |n+1,hq=>by
  unfold cD;split
  .rename_i hn;exact qL h hd hi n (Nat.lt_of_le_of_ne (by omega) fun e=>by rw[e,hn]at h;cases h)
  .by_cases e:q=n
   .subst e;exact yF hd hi
   .rw[kL e];exact qL h hd hi n (by omega)
structure Neat(nb:Nat)(c:Nat->Nat->Nat->Nat)(L:List Ent):Prop where
 bad:∀ e∈L,∀ k,k<14->e.good k=false->¬gC (c k e.slot)
 free:∀ p,p<nb->(∀ e∈L,e.slot≠p)->∀ k,k<14->∀ j,j<96->c k p j=0
theorem qQ{L:List Ent}{e x:Ent}{clock:Nat}(hx:x∈L)(hne:x.id≠e.id):x∈bQ L e clock:=by
 unfold bQ;split
 .rename_i n old hf;obtain⟨m,h1,h2,h3⟩:=dL hf;obtain⟨i,hi⟩:=List.mem_iff_getElem?.1 hx;refine List.mem_iff_getElem?.2 ⟨i,?_⟩;rw[List.getElem?_set,if_neg,hi];rintro rfl;rw[show m=n by omega]at h2;rw[h2]at hi;cases hi
  exact hne h3
 .exact List.mem_append.2 (.inl hx)
theorem Neat.put{nb p id len turn clock:Nat}{val:Nat->Nat}{s:Dsk}{L:List Ent}(h:Neat nb s.c L)(hids:(L.map (·.id)).Nodup)(hsl:(L.map (·.slot)).Nodup)(hp:lT L nb p)(hP:PutOk L ⟨id,len,turn,p,val,fun _=>true,0⟩ clock):Neat nb (jD s L p id len turn val).c (bQ L ⟨id,len,turn,p,val,fun _=>true,0⟩ clock):=by
 have hc:∀ d q,q≠p->(∀ e∈L,e.id=id->e.slot≠q)->(jD s L p id len turn val).c d q=s.c d q:=fun d q hq ho=>by
  unfold jD;split
  .rename_i n old hf;obtain⟨m,h1,h2,h3⟩:=dL hf;rw[kL (fun e=>ho old (List.mem_of_getElem? h2) h3 e.symm)];funext i;rw[sC,if_neg (fun e=>hq e.1)]
  .funext i;rw[sC,if_neg (fun e=>hq e.1)]
 refine⟨fun e he k hk hg=>?_,fun q hq hn k hk j hj=>?_⟩
 .rcases hP.mem e he with⟨b,rfl⟩|⟨he',hne⟩
  .cases hg
  .rw[hc k e.slot (hp.2.1 e he') (fun o ho hi hs=>hne (by rw[<-gX (f:=fun x:Ent=>x.slot) hsl ho he' hs];exact hi))]
   exact h.bad e he' k hk hg
 .have hqp:q≠p:=fun e=>by
   obtain⟨b,hb⟩:=hP.has;exact hn _ hb e.symm
  by_cases ho:∃ e∈L,e.id=id∧e.slot=q
  .obtain⟨old,hm,hi,hs⟩:=ho;obtain⟨n,hf⟩:=uI hids hm;rw[hi]at hf;unfold jD;rw[hf];show(gA _ old.slot old.good).c k q j=0;rw[<-hs];exact yF hk hj
  .rw[hc k q hqp (fun e he hi hs=>ho ⟨e,he,hi,hs⟩)];refine h.free q hq (fun e he hs=>?_) k hk j hj;exact hn e (qQ he (fun hi=>ho ⟨e,he,hi,hs⟩)) hs
theorem lH{L:List Ent}{id n:Nat}{e x:Ent}(hids:(L.map (·.id)).Nodup)(hq:aL id L 0=some (n,e)):x∈eY L id↔x∈L∧x.id≠id:=by
 have hp:=Fe hq;have hn:=(hp.map (·.id)).nodup_iff.1 hids;rw[List.map_cons,List.nodup_cons]at hn;obtain⟨m,h1,h2,h3⟩:=dL hq;constructor
 .intro hx;refine⟨hp.mem_iff.2 (List.mem_cons.2 (.inr hx)),fun hi=>hn.1 (List.mem_map.2 ⟨x,hx,?_⟩)⟩
  show x.id=e.id;rw[hi,h3]
 .rintro⟨hx,hi⟩;rcases List.mem_cons.1 (hp.mem_iff.1 hx) with h|h
  .subst h;exact absurd h3 hi
  .exact h
theorem Neat.del{nb id n:Nat}{s:Dsk}{L:List Ent}{e:Ent}(h:Neat nb s.c L)(hids:(L.map (·.id)).Nodup)(hsl:(L.map (·.slot)).Nodup)(hq:aL id L 0=some (n,e)):Neat nb (gA s e.slot e.good).c (eY L id):=by
 obtain⟨m,h1,h2,h3⟩:=dL hq;have hm:=List.mem_of_getElem? h2;refine⟨fun x hx k hk hg=>?_,fun q hq' hn k hk j hj=>?_⟩
 .obtain⟨hx,hi⟩:=(lH hids hq).1 hx;rw[kL (fun e'=>hi (by rw[gX (f:=fun x:Ent=>x.slot) hsl hx hm e'];exact h3))]
  exact h.bad x hx k hk hg
 .by_cases ho:q=e.slot
  .subst ho;exact yF hk hj
  .rw[kL ho];refine h.free q hq' (fun x hx hs=>?_) k hk j hj;by_cases hi:x.id=id
   .have:=gX (f:=fun x:Ent=>x.id) hids hx hm (hi.trans h3.symm)
    subst this;exact ho hs.symm
   .exact hn x ((lH hids hq).2 ⟨hx,hi⟩) hs
def gD(L:List Ent):Prop:=∀ e∈L,∀ k,k<14->e.good k=true
theorem gD.put{L:List Ent}{e:Ent}{clock:Nat}(h:gD L)(hP:PutOk L e clock)(he:∀ k,k<14->e.good k=true):gD (bQ L e clock):=fun x hx=>by
 rcases hP.mem x hx with⟨b,rfl⟩|⟨hx,_⟩
 .exact he
 .exact h x hx
theorem gD.del{L:List Ent}{id:Nat}(h:gD L):gD (eY L id):=fun x hx=>h x ((qX L id).subset hx)
def Ent.lb(e:Ent):Lb:=⟨e.id,e.size,e.turn,e.val⟩
theorem EntOk.lb{nb turn:Nat}{c:Nat->Nat->Nat->Nat}{e:Ent}(h:EntOk nb turn c e)(ht:turn<18446744073709551616):e.lb.Ok:=⟨h.id1,h.id2,h.size,Nat.lt_of_le_of_lt h.turn ht,h.val⟩
theorem gD.rest{nb turn:Nat}{c:Nat->Nat->Nat->Nat}{L:List Ent}(h:gD L)(hN:Neat nb c L)(hE:∀ e∈L,EntOk nb turn c e)(ht:turn<18446744073709551616)(hb:∀ d p i,c d p i<256){k p:Nat}(hk:k<14)(hp:p<nb):bC (c k p) 96=0:=by
 by_cases ho:∃ e∈L,e.slot=p
 .obtain⟨e,he,rfl⟩:=ho;exact gC.rest (hb k _) (((hE e he).lb ht).sealed hk fun j hj=>(hE e he).blk k hk (h e he k hk) j hj)
 .exact Ol fun i hi=>hN.free p hp (fun e he hs=>ho ⟨e,he,hs⟩) k hk i hi
structure Harm(nd nb:Nat)(T T':Nat->ByteArray)(H:Nat->Bool):Prop where
 four:aE H nd<=4
 same:∀ d,d<nd->H d=false->T' d=T d
 hit:∀ d,d<nd->H d=true->(T' d).size=0∨((T' d).size=nb*96∧∃ at' W,W<4294967296∧∀ i,i<nb*96->bI (T' d) i=bI (T d) i ^^^ aW (2 ^ at'*W) i)
theorem Harm.blk{nd nb d p wr:Nat}{T T':Nat->ByteArray}{H:Nat->Bool}(h:Harm nd nb T T' H)(hd:d<nd)(hp:p<nb)(hr:bC (fun i=>bI (T d) (p*96+i)) 96=0):(∀ i,i<96->(aR T' wr).c d p i=bI (T d) (p*96+i))∨(¬gC ((aR T' wr).c d p)∧H d=true):=by
 cases hH:H d with
 |false=>exact .inl fun i _=>by show bI (T' d) _=_;rw[h.same d hd hH]
 |true=>
  rcases h.hit d hd hH with h0|⟨_,at',W,hW,hx⟩
  .exact .inr ⟨lF fun i hi=>zL (by omega),rfl⟩
  .have hy:∀ i,i<96->(aR T' wr).c d p i=bI (T d) (p*96+i) ^^^ aW (2 ^ at'*W) (p*96+i):=fun i hi=>hx _ (by
    have:(p+1)*96<=nb*96:=Nat.mul_le_mul_right _ hp
    omega)
   rcases Kj hW hr hy with h1|h1
   .exact .inl h1
   .exact .inr ⟨fun hs=>h1 (hs.rest fun i=>sD _ _),rfl⟩
theorem Pe(g:Nat->Bool):∀ n,aE g n<=n:=fun n=>by
 unfold aE;have:=List.length_filter_le g (List.range n);rwa [List.length_range]at this
theorem jU(g:Nat->Bool)(n:Nat):aE g (n+1)=aE g n+if g n=true then 1 else 0:=by
 unfold aE;rw[List.range_succ,List.filter_append,List.length_append];cases h:g n<;>simp[h]
theorem Pf(g:Nat->Bool){m n:Nat}(h:m<=n):aE g m<=aE g n:=by
 induction n with
 |zero=>rw[show m=0 by omega];exact Nat.le_refl _
 |succ n ih=>
  by_cases e:m=n+1
  .rw[e];exact Nat.le_refl _
  .rw[jU];have:=ih (by omega);omega
theorem xO{g h:Nat->Bool} : ∀ n,(∀ k,k<n->h k=false->g k=true)->n<=aE g n+aE h n
 |0,_=>Nat.zero_le _
 |n+1,H=>by
  have ih:=xO n fun k hk=>H k (by omega)
  rw[jU,jU];have:=H n (by omega);cases hh:h n with
  |true=>simp;omega
  |false=>rw[this hh];simp;omega
theorem Harm.texts{nd nb:Nat}{T T':Nat->ByteArray}{H:Nat->Bool}(h:Harm nd nb T T' H)(hn:14<=nd)(hT:∀ d,d<nd->(T d).size=nb*96):TextsOk nd nb T':=by
 refine⟨fun j hj=>?_,?_⟩
 .cases hH:H j with
  |false=>exact .inr (by rw[h.same j hj hH];exact hT j hj)
  |true=>exact(h.hit j hj hH).imp id fun q=>q.1
 .by_cases ho:∃ j,j<nd∧H j=false
  .obtain⟨j,hj,hH⟩:=ho;exact⟨j,hj,by rw[h.same j hj hH];exact hT j hj⟩
  .have h1:=xO (g:=H) (h:=fun _=>false) nd fun k hk _=>by
    cases hH:H k with
    |true=>rfl
    |false=>exact absurd ⟨k,hk,hH⟩ ho
   have h2:=h.four;have h3:aE (fun _=>false) nd=0:=by unfold aE;simp
   omega
def jQ(L:List Ent)(p:Nat):Option Ent:=L.find? fun e=>e.slot == p
theorem uT{L:List Ent}{p:Nat}{e:Ent}(h:jQ L p=some e):e∈L∧e.slot=p:=⟨List.mem_of_find?_eq_some h,by simpa using List.find?_some h⟩
theorem rP{L:List Ent}{e:Ent}(hs:(L.map (·.slot)).Nodup)(he:e∈L):jQ L e.slot=some e:=by
 cases h:jQ L e.slot with
 |none=>exact absurd (List.find?_eq_none.1 h e he) (by simp)
 |some x=>
  obtain⟨h1,h2⟩:=uT h;rw[gX (f:=fun x:Ent=>x.slot) hs h1 he h2]
def fI(L:List Ent)(p:Nat):Lb:=match jQ L p with|some e=>e.lb|none=>⟨0,0,0,fun _=>0⟩
def eU(L:List Ent)(c:Nat->Nat->Nat->Nat)(p k:Nat):Bool:=match jQ L p with|some e=>cV (c k p) (e.lb.blk k) 0 96|none=>false
theorem Ez{nd nb turn wr:Nat}{c:Nat->Nat->Nat->Nat}{L:List Ent}{T':Nat->ByteArray}{H:Nat->Bool}(hS:gD L)(hN:Neat nb c L)(hE:∀ e∈L,EntOk nb turn c e)(ht:turn<18446744073709551616)(hb:∀ d p i,c d p i<256)(hn:14<=nd)(h:Harm nd nb (fun d=>cC nb (c d)) T' H){p:Nat}(hp:p<nb):SlotK (aR T' wr).c p (fI L p) (eU L (aR T' wr).c p)∧∀ e,jQ L p=some e->∀ k,k<14->H k=false->eU L (aR T' wr).c p k=true:=by
 have hbt:∀ k i,i<96->bI (cC nb (c k)) (p*96+i)=c k p i:=fun k i hi=>by
  have:(p+1)*96<=nb*96:=Nat.mul_le_mul_right _ hp;rw[uV (fun q j=>hb k q j) (by omega)];show c k ((p*96+i) / 96) ((p*96+i) % 96)=_;rw[show(p*96+i) / 96=p by omega,show(p*96+i) % 96=i by omega]
 have hbl:∀ k,k<14->(∀ i,i<96->(aR T' wr).c k p i=c k p i)∨(¬gC ((aR T' wr).c k p)∧H k=true):=fun k hk=>
  (h.blk (wr:=wr) (d:=k) (p:=p) (by omega) hp (by
   rw[tJ (y:=c k p) fun i hi=>hbt k i hi]
   exact hS.rest hN hE ht hb hk hp)).imp (fun q i hi=>(q i hi).trans (hbt k i hi)) id
 cases ha:jQ L p with
 |none=>
  have hno:∀ e∈L,e.slot≠p:=fun e he hs=>by
   have:=List.find?_eq_none.1 ha e he;simp[hs]at this
  refine⟨⟨fun k hk hg=>?_,fun k hk hg=>?_,fun k hk _=>?_⟩,fun e he=>(by cases he)⟩
  .unfold eU at hg;rw[ha]at hg;cases hg
  .unfold eU at hg;rw[ha]at hg;cases hg
  .rcases hbl k hk with q|q
   .exact lF fun i hi=>by rw[q i hi];exact hN.free p hp hno k hk i hi
   .exact q.1
 |some e=>
  obtain⟨he,hs⟩:=uT ha;have hl:fI L p=e.lb:=by unfold fI;rw[ha]
  have hg:∀ k,eU L (aR T' wr).c p k=cV ((aR T' wr).c k p) (e.lb.blk k) 0 96:=fun k=>by unfold eU;rw[ha]
  have hsame:∀ k,k<14->(∀ i,i<96->(aR T' wr).c k p i=c k p i)->eU L (aR T' wr).c p k=true:=fun k hk q=>by
   rw[hg];refine(kN _ _ 96 0).2 fun j _ hj=>?_
   rw[q j (by omega),<-hs];exact(hE e he).blk k hk (hS e he k hk) j (by omega)
  refine⟨⟨fun k hk hq=>?_,fun k hk hq j hj=>?_,fun k hk hq=>?_⟩,fun e' he' k hk hH=>?_⟩
  .rw[hl];exact(hE e he).lb ht
  .rw[hl];rw[hg]at hq;exact(kN _ _ 96 0).1 hq j (by omega) (by omega)
  .rcases hbl k hk with q|q
   .rw[hsame k hk q]at hq;cases hq
   .exact q.1
  .rcases hbl k hk with q|q
   .exact hsame k hk q
   .rw[hH]at q;cases q.2
theorem zR{G:Nat->Bool}{k n:Nat}(h:k<n):aM G n k=G k:=by simp[aM,h]
theorem uQ(G:Nat->Bool)(n:Nat):∀ m,m<=n->aE (aM G n) m=aE G m
 |0,_=>rfl
 |m+1,h=>by rw[jU,jU,uQ G n m (by omega),zR (by omega)]
structure pL(e e0:Ent):Prop where
 id:e.id=e0.id
 size:e.size=e0.size
 turn:e.turn=e0.turn
 slot:e.slot=e0.slot
 val:e.val=e0.val
theorem Fp{turn:Nat}{L0:List Ent}{c:Nat->Nat->Nat->Nat}(hids:(L0.map (·.id)).Nodup)(hsl:(L0.map (·.slot)).Nodup)(ht:∀ e∈L0,e.turn<=turn)(hten:∀ e∈L0,10<=aE (eU L0 c e.slot) 14):∀ {q:Nat} {L:List Ent} {t:Nat},eZ (fI L0) (eU L0 c) q L t->
  (∀ e∈L,∃ e0∈L0,e0.slot<q∧pL e e0∧e.good=aM (eU L0 c e0.slot) 14)∧(∀ e0∈L0,e0.slot<q->∃ e∈L,pL e e0)∧t<=turn
 |0,L,t,h=>by
  obtain⟨rfl,rfl⟩:=h;exact⟨fun e he=>(by cases he),fun e _ h=>(by omega),Nat.zero_le _⟩
 |q+1,L',t',⟨L,t,h1,h2⟩=>by
  obtain⟨i1,i2,i3⟩:=Fp hids hsl ht hten h1;unfold Sv at h2;cases ha:jQ L0 q with
  |none=>
   have hg:eU L0 c q=fun _=>false:=by funext k;unfold eU;rw[ha]
   rw[if_neg (by rw[hg];simp[dU])]at h2;obtain⟨rfl,rfl⟩:=h2;refine⟨fun e he=>?_,fun e0 he0 hlt=>?_,i3⟩
   .obtain⟨e0,q1,q2,q3⟩:=i1 e he;exact⟨e0,q1,by omega,q3⟩
   .by_cases e:e0.slot=q
    .rw[<-e,rP hsl he0]at ha;cases ha
    .exact i2 e0 he0 (by omega)
  |some e0=>
   obtain⟨he0,hs0⟩:=uT ha;have hl:fI L0 q=e0.lb:=by unfold fI;rw[ha]
   have h10:=hten e0 he0;rw[hs0]at h10;have hany:dU (eU L0 c q) 14=true:=by
    cases hx:dU (eU L0 c q) 14 with
    |true=>rfl
    |false=>
     have:aE (eU L0 c q) 14=0:=by
      unfold aE;rw[List.length_eq_zero_iff,List.filter_eq_nil_iff];intro a ha';unfold dU at hx;rw[List.any_eq_false]at hx;exact hx a ha'
     omega
   rw[if_pos hany]at h2;have hnew:aL (fI L0 q).id L 0=none:=by
    cases hf:aL (fI L0 q).id L 0 with
    |none=>rfl
    |some x=>
     obtain⟨m,q1,q2,q3⟩:=dL hf;obtain⟨e1,r1,r2,r3,_⟩:=i1 x.2 (List.mem_of_getElem? q2);rw[hl]at q3;have:=gX (f:=fun x:Ent=>x.id) hids r1 he0 (r3.id.symm.trans q3)
     subst this;omega
   have htk:fP L (fI L0 q) (eU L0 c q)=true:=by
    unfold fP;rw[hnew,uQ _ _ _ (Nat.le_refl _)];simp[h10]
   rw[if_pos htk]at h2;obtain⟨rfl,clock,hP,rfl⟩:=h2;refine⟨fun e he=>?_,fun e1 he1 hlt=>?_,?_⟩
   .rcases hP.mem e he with⟨b,rfl⟩|⟨he,_⟩
    .refine⟨e0,he0,by omega,?_,?_⟩
     .rw[hl];exact⟨rfl,rfl,rfl,hs0.symm,rfl⟩
     .rw[hs0];rfl
    .obtain⟨e1,q1,q2,q3⟩:=i1 e he;exact⟨e1,q1,by omega,q3⟩
   .by_cases e:e1.slot=q
    .have:=gX (f:=fun x:Ent=>x.slot) hsl he1 he0 (e.trans hs0.symm)
     subst this;obtain⟨b,hb⟩:=hP.has;refine⟨_,hb,?_⟩;rw[hl];exact⟨rfl,rfl,rfl,hs0.symm,rfl⟩
    .obtain⟨x,hx,hS⟩:=i2 e1 he1 (by omega);refine⟨x,qQ hx (fun hi=>?_),hS⟩;have hi':x.id=e0.id:=by rw[hi,hl];rfl
     have:=gX (f:=fun x:Ent=>x.id) hids he1 he0 (hS.id.symm.trans hi')
     subst this;exact e hs0
   .rw[hl];have:=ht e0 he0;show max t e0.turn<=turn;omega
structure It where
 id:Nat
 size:Nat
 val:Nat->Nat
def eT(e:Ent):It:=⟨e.id,e.size,e.val⟩
def iY(M:List It):Prop:=M.Pairwise fun a b=>a.id<b.id
structure Rep(L:List Ent)(M:List It):Prop where
 srt:iY M
 mem:∀ x,x∈M↔∃ e∈L,eT e=x
theorem iY.uniq:∀ {M M':List It},iY M->iY M'->(∀ x,x∈M↔x∈M')->M=M'
 |[],[],_,_,_=>rfl
 |[],y :: M',_,_,h=>absurd ((h y).2 (List.mem_cons_self ..)) (by simp)
 |x :: M,[],_,_,h=>absurd ((h x).1 (List.mem_cons_self ..)) (by simp)
 |x :: M,y :: M',hM,hM',h=>by
  have h1:=List.pairwise_cons.1 hM;have h2:=List.pairwise_cons.1 hM';have e:x=y:=by
   rcases List.mem_cons.1 ((h x).1 (List.mem_cons_self ..)) with q|q
   .exact q
   .rcases List.mem_cons.1 ((h y).2 (List.mem_cons_self ..)) with q'|q'
    .exact q'.symm
    .have:=h2.1 x q;have:=h1.1 y q';omega
  subst e;rw[iY.uniq h1.2 h2.2 fun z=>⟨fun hz=>?_,fun hz=>?_⟩]
  .rcases List.mem_cons.1 ((h z).1 (List.mem_cons_of_mem _ hz)) with q|q
   .subst q;exact absurd (h1.1 z hz) (by omega)
   .exact q
  .rcases List.mem_cons.1 ((h z).2 (List.mem_cons_of_mem _ hz)) with q|q
   .subst q;exact absurd (h2.1 z hz) (by omega)
   .exact q
theorem Rep.uniq{L:List Ent}{M M':List It}(h:Rep L M)(h':Rep L M'):M=M':=h.srt.uniq h'.srt fun x=>(h.mem x).trans (h'.mem x).symm
def bH(x:It):Bool->List It->List It
 |dA,[]=>if dA then [] else [x]
 |dA,y :: M=>if x.id<=y.id∧dA=false then x :: (if y.id=x.id then bH x true M else y :: bH x true M) else(if y.id=x.id then bH x dA M else y :: bH x dA M)
theorem oP(x:It):∀ (M:List It) (z:It),z∈bH x true M↔z∈M∧z.id≠x.id
 |[],z=>by simp[bH]
 |y :: M,z=>by
  unfold bH;rw[if_neg (by simp)];by_cases e:y.id=x.id
  .rw[if_pos e,oP x M z,List.mem_cons];constructor
   .rintro⟨h1,h2⟩;exact⟨.inr h1,h2⟩
   .rintro⟨h1|h1,h2⟩
    .subst h1;exact absurd e h2
    .exact⟨h1,h2⟩
  .rw[if_neg e,List.mem_cons,oP x M z,List.mem_cons];constructor
   .rintro(h1|⟨h1,h2⟩)
    .subst h1;exact⟨.inl rfl,e⟩
    .exact⟨.inr h1,h2⟩
   .rintro⟨h1|h1,h2⟩
    .exact .inl h1
    .exact .inr ⟨h1,h2⟩
theorem tD(x:It):∀ {M:List It},iY M->iY (bH x true M)
 |[],_=>by unfold bH;exact List.Pairwise.nil
 |y :: M,h=>by
  have h1:=List.pairwise_cons.1 h;unfold bH;rw[if_neg (by simp)];have ih:=tD x (M:=M) h1.2;split
  .exact ih
  .exact List.pairwise_cons.2 ⟨fun z hz=>h1.1 z ((oP x M z).1 hz).1,ih⟩
theorem xU(x:It):∀ {M:List It},iY M->iY (bH x false M)∧∀ z,z∈bH x false M↔z=x∨(z∈M∧z.id≠x.id)
 |[],_=>by
  unfold bH;exact⟨List.pairwise_singleton _ _,fun z=>by simp⟩
 |y :: M,h=>by
  have h1:=List.pairwise_cons.1 h;have hT:=oP x M;have hTs:=tD x h1.2;obtain⟨ih1,ih2⟩:=xU x h1.2;unfold bH;by_cases hle:x.id<=y.id
  .rw[if_pos ⟨hle,rfl⟩];by_cases e:y.id=x.id
   .rw[if_pos e];refine⟨List.pairwise_cons.2 ⟨fun z hz=>?_,hTs⟩,fun z=>?_⟩
    .have:=h1.1 z ((hT z).1 hz).1;omega
    .rw[List.mem_cons,hT,List.mem_cons];constructor
     .rintro(h|⟨h,h'⟩)
      .exact .inl h
      .exact .inr ⟨.inr h,h'⟩
     .rintro(h|⟨h|h,h'⟩)
      .exact .inl h
      .subst h;exact absurd e h'
      .exact .inr ⟨h,h'⟩
   .rw[if_neg e];refine⟨List.pairwise_cons.2 ⟨fun z hz=>?_,List.pairwise_cons.2 ⟨fun z hz=>h1.1 z ((hT z).1 hz).1,hTs⟩⟩,fun z=>?_⟩
    .rcases List.mem_cons.1 hz with hz|hz
     .subst hz;omega
     .have:=h1.1 z ((hT z).1 hz).1;omega
    .rw[List.mem_cons,List.mem_cons,hT,List.mem_cons];constructor
     .rintro(h|h|⟨h,h'⟩)
      .exact .inl h
      .subst h;exact .inr ⟨.inl rfl,e⟩
      .exact .inr ⟨.inr h,h'⟩
     .rintro(h|⟨h|h,h'⟩)
      .exact .inl h
      .exact .inr (.inl h)
      .exact .inr (.inr ⟨h,h'⟩)
  .rw[if_neg (fun q=>hle q.1),if_neg (by omega)];refine⟨List.pairwise_cons.2 ⟨fun z hz=>?_,ih1⟩,fun z=>?_⟩
   .rcases(ih2 z).1 hz with h|⟨h,_⟩
    .subst h;omega
    .exact h1.1 z h
   .rw[List.mem_cons,ih2,List.mem_cons];constructor
    .rintro(h|h|⟨h,h'⟩)
     .subst h;exact .inr ⟨.inl rfl,by omega⟩
     .exact .inl h
     .exact .inr ⟨.inr h,h'⟩
    .rintro(h|⟨h|h,h'⟩)
     .exact .inr (.inl h)
     .exact .inl h
     .exact .inr (.inr ⟨h,h'⟩)
theorem Rep.put{L:List Ent}{M:List It}{e:Ent}{clock:Nat}(h:Rep L M)(hP:PutOk L e clock):Rep (bQ L e clock) (bH (eT e) false M):=by
 obtain⟨h1,h2⟩:=xU (eT e) h.srt;refine⟨h1,fun x=>(h2 x).trans ⟨?_,?_⟩⟩
 .rintro(rfl|⟨hx,hne⟩)
  .obtain⟨b,hb⟩:=hP.has;exact⟨_,hb,rfl⟩
  .obtain⟨y,hy,rfl⟩:=(h.mem x).1 hx;exact⟨y,qQ hy hne,rfl⟩
 .rintro⟨y,hy,rfl⟩;rcases hP.mem y hy with⟨b,rfl⟩|⟨hy',hne⟩
  .exact .inl rfl
  .exact .inr ⟨(h.mem _).2 ⟨y,hy',rfl⟩,hne⟩
theorem Rep.del{L:List Ent}{M:List It}{id n:Nat}{e:Ent}(x:It)(hx:x.id=id)(h:Rep L M)(hids:(L.map (·.id)).Nodup)(hq:aL id L 0=some (n,e)):Rep (eY L id) (bH x true M):=by
 refine⟨tD x h.srt,fun z=>(oP x M z).trans ⟨?_,?_⟩⟩
 .rintro⟨hz,hne⟩;obtain⟨y,hy,rfl⟩:=(h.mem z).1 hz;exact⟨y,(lH hids hq).2 ⟨hy,fun q=>hne (by rw[hx];exact q)⟩,rfl⟩
 .rintro⟨y,hy,rfl⟩;obtain⟨h1,h2⟩:=(lH hids hq).1 hy;exact⟨(h.mem _).2 ⟨y,h1,rfl⟩,fun q=>h2 (by rw[<-hx];exact q)⟩
theorem oB{l:List Nat} : ∀ {m:List Nat},l.Nodup->(∀ x∈l,x∈m)->l.length<=m.length:=by
 induction l with
 |nil=>intro m _ _;exact Nat.zero_le _
 |cons a l ih=>
  intro m hn hs;have h1:=List.nodup_cons.1 hn;have ha:=hs a (List.mem_cons_self ..);have:=ih (m:=m.erase a) h1.2 fun x hx=>(List.mem_erase_of_ne (a:=x) (b:=a) (fun e=>h1.1 (by rw[<-e];exact hx))).2 (hs x (List.mem_cons_of_mem _ hx))
  have h2:=List.length_erase_of_mem ha;have h3:0<m.length:=List.length_pos_of_mem ha;rw[List.length_cons];omega
def iO(L:List Ent):Prop:=∀ e∈L,e.id∈[1,301,1201,2701,4801,7501]
theorem iO.len{L:List Ent}(h:iO L)(hids:(L.map (·.id)).Nodup):L.length<=6:=by
 have:=oB (m:=[1,301,1201,2701,4801,7501]) hids fun x hx=>by
  obtain⟨e,he,rfl⟩:=List.mem_map.1 hx;exact h e he
 simpa using this
theorem iO.put{L:List Ent}{e:Ent}{clock:Nat}(h:iO L)(hP:PutOk L e clock)(he:e.id∈[1,301,1201,2701,4801,7501]):iO (bQ L e clock):=fun x hx=>by
 rcases hP.mem x hx with⟨b,rfl⟩|⟨hx,_⟩
 .exact he
 .exact h x hx
theorem iO.del{L:List Ent}{id:Nat}(h:iO L):iO (eY L id):=fun x hx=>h x ((qX L id).subset hx)
theorem iO.same{L L0:List Ent}(h:iO L0)(hs:∀ e∈L,∃ e0∈L0,e.id=e0.id):iO L:=fun x hx=>by
 obtain⟨e0,h1,h2⟩:=hs x hx;rw[h2];exact h e0 h1
theorem Uy{L:List Ent}{e:Ent}{clock:Nat} : (bQ L e clock).length=L.length+if (aL e.id L 0).isSome then 0 else 1:=by
 unfold bQ;split
 .rename_i h;rw[h];simp
 .rename_i h;rw[h];simp
theorem Fz{L:List Ent}{e:Ent}{nb clock:Nat}(hL:L.length<=nb - 2)(h:gQ L nb e.id=false):(bQ L e clock).length<=nb - 2:=by
 rw[Uy];unfold gQ at h;have:=of_decide_eq_false h;cases hf:(aL e.id L 0).isSome<;>simp[hf]at this ⊢<;>omega
theorem Rep.same{L L0:List Ent}{M:List It}(h:Rep L0 M)(h1:∀ e∈L,∃ e0∈L0,eT e=eT e0)(h2:∀ e0∈L0,∃ e∈L,eT e=eT e0):Rep L M:=by
 refine⟨h.srt,fun x=>(h.mem x).trans ⟨?_,?_⟩⟩
 .rintro⟨e0,q1,rfl⟩;obtain⟨e,q2,q3⟩:=h2 e0 q1;exact⟨e,q2,q3⟩
 .rintro⟨e,q1,rfl⟩;obtain⟨e0,q2,q3⟩:=h1 e q1;exact⟨e0,q2,q3.symm⟩
