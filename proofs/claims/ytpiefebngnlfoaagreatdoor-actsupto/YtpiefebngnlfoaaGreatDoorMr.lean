import Derived.Test.YtpiefebngnlfoaaGreatDoorMq
set_option maxRecDepth 99999
set_option maxHeartbeats 0
set_option linter.unusedVariables false
set_option linter.unusedSimpArgs false
namespace Go.Proofs.YtpiefebngnlfoaaGreatDoor
open Go.RowKit Go.Conc Go.Vw
theorem pP(r i:Nat):(fP r).testBit i=((r.testBit (i+1)) ^^ (r.testBit 0&&(3988292384:Nat).testBit i)):=by
 unfold fP;rw[Nat.testBit_xor,Nat.testBit_succ];congr 1;rw[Nat.testBit_zero];by_cases h:r%2=1
 .rw[ai h,show(3988292384&&&4294967295:Nat)=3988292384 by decide];simp[h]
 .rw[ah h];simp[h]
theorem Qe(a b:Nat):fP (a^^^b)=fP a^^^fP b:=by apply Nat.eq_of_testBit_eq;intro i;rw[Nat.testBit_xor,pP,pP,pP,Nat.testBit_xor,Nat.testBit_xor];cases a.testBit (i+1)<;>cases b.testBit (i+1)<;>cases a.testBit 0<;>cases b.testBit 0<;>cases(3988292384:Nat).testBit i<;>rfl
theorem Cg(a b n:Nat):cE (a^^^b) n=cE a n^^^cE b n:=by
 induction n with
 |zero=>rfl
 |succ n ih=>unfold cE;rw[ih,Qe]
theorem Ls(n:Nat):cE 0 n=0:=by
 induction n with
 |zero=>rfl
 |succ n ih=>unfold cE;rw[ih];decide
theorem Qf(m:Nat):fP (2*m)=m:=by unfold fP;rw[ah (by omega),Nat.and_zero,Nat.xor_zero];omega
theorem rsteps_succ'(r n:Nat):cE r (n+1)=cE (fP r) n:=by
 induction n with
 |zero=>rfl
 |succ n ih=>show fP (cE r (n+1))=fP (cE (fP r) n);rw[ih]
theorem Ci(r m n:Nat):cE r (m+n)=cE (cE r m) n:=by
 induction n with
 |zero=>rfl
 |succ n ih=>show fP (cE r (m+n))=fP (cE (cE r m) n);rw[ih]
theorem wF(m n:Nat):cE (2^n*m) n=m:=by
 induction n with
 |zero=>simp[cE]
 |succ n ih=>rw[rsteps_succ',Nat.pow_succ,show 2^n*2*m=2*(2^n*m) by rw[Nat.mul_comm (2^n) 2,Nat.mul_assoc],Qf,ih]
theorem Qg{r:Nat}(h:r<4294967296)(h0:fP r=0):r=0:=by
 have hb:r.testBit 0=false:=by
  have h1:=pP r 31;rw[h0,Nat.zero_testBit,Nat.testBit_lt_two_pow (x:=r) (i:=32) (by omega)]at h1;cases hb:r.testBit 0 with
  |false=>rfl
  |true=>rw[hb]at h1;simp at h1;exact absurd h1 (by decide)
 apply Nat.eq_of_testBit_eq;intro i;rw[Nat.zero_testBit];cases i with
 |zero=>exact hb
 |succ i=>have h1:=pP r i;rw[h0,Nat.zero_testBit,hb,Bool.false_and,Bool.xor_false]at h1;exact h1.symm
theorem Ch{r:Nat}(h:r<4294967296):∀n,cE r n=0->r=0
 |0,h0=>h0
 |n+1,h0=>Ch h n (Qg (xC h n) h0)
theorem Fy{x m:Nat}(hx:x<256):x+256*m=x^^^(2^8*m):=by
 apply Nat.eq_of_testBit_eq;intro i;rw[Nat.testBit_xor,show x+256*m=2^8*m+x by omega,Nat.testBit_two_pow_mul_add _ hx,Nat.testBit_two_pow_mul];by_cases h:i<8
 .rw[ai h,decide_eq_false (by omega)];simp
 .rw[ah h,decide_eq_true (by omega),Nat.testBit_lt_two_pow (x:=x) (i:=i) (bg hx (Nat.pow_le_pow_right (n:=2) (by omega) (by omega:8<=i)))];simp
def nD(r:Nat)(x:Nat->Nat):Nat->Nat
 |0=>r
 |n+1=>nD (cE (r^^^x 0) 8) (λi=>x (i+1)) n
theorem Qk(n:Nat):∀(r:Nat){x:Nat->Nat},(∀i,x i<256)->nD r x n=cE (r^^^bY x n) (8*n):=by
 induction n with
 |zero=>intro r x hx;simp[nD,bY,cE]
 |succ n ih=>intro r x hx;unfold nD bY;rw[ih _ λi=>hx (i+1),Fy (hx 0),<-Nat.xor_assoc,show 8*(n+1)=8+8*n by omega,Ci,Cg (r^^^x 0),wF]
theorem Lt(n:Nat):∀(x:Nat->Nat),bH x n=nD 0 x n:=by
 have key:∀(n m:Nat)(x:Nat->Nat),nD (bH x m) (λi=>x (m+i)) n=bH x (m+n):=by
  intro n;induction n with
  |zero=>intro m x;rfl
  |succ n ih=>
   intro m x;unfold nD;have h:=ih (m+1) x;have e1:bH x (m+1)=cE (bH x m^^^x (m+0)) 8:=rfl;have e2:(λi=>x (m+1+i))=λi=>x (m+(i+1)):=funext λi=>by rw[show m+1+i=m+(i+1) by omega]
   rw[e1,e2]at h;rw[h,show m+1+n=m+(n+1) by omega]
 intro x;have:=key n 0 x;simp only[an]at this;exact this.symm
theorem Qm{x:Nat->Nat}(hx:∀i,x i<256)(n:Nat):bH x n=cE (bY x n) (8*n):=by rw[Lt,Qk n 0 hx,Nat.zero_xor]
theorem Ql(x e:Nat->Nat)(n:Nat):bH (λi=>x i^^^e i) n=bH x n^^^bH e n:=by
 induction n with
 |zero=>simp[bH]
 |succ n ih=>unfold bH;rw[ih,<-Cg];congr 1;rw[Nat.xor_assoc,Nat.xor_assoc];congr 1;rw[<-Nat.xor_assoc,Nat.xor_comm (bH e n) (x n),Nat.xor_assoc]
theorem Rl{n:Nat} : ∀{x:Nat->Nat},(∀i,x i<256)->bY x n=0->∀i,i<n->x i=0:=by intro x hx h i hi;rw[pS hx n i hi,h];unfold bX;simp
theorem N8{e:Nat->Nat}(he:∀i,e i<256){p w n:Nat}(hw:w<4294967296)(hp:p<=8*n)(hN:bY e n=2^p*w)(h:bH e n=0):∀i,i<n->e i=0:=by have h1:=Qm he n;rw[h,hN,show 8*n=p+(8*n-p) by omega,Ci,wF]at h1;have X4:=Ch hw _ h1.symm;refine Rl he ?_;rw[hN,X4,Nat.mul_zero]
theorem sY(r:Nat):cE (r^^^(r%256)) 8=r/256:=by
 have h:=Fy (x:=r%256) (m:=r/256) (Nat.mod_lt _ (by omega));have e:r%256+256*(r/256)=r:=by omega
 rw[e]at h;have h2:r^^^(r%256)=2^8*(r/256):=by
  rw[Nat.xor_comm];conv=>lhs;rhs;rw[h]
  rw[<-Nat.xor_assoc,Nat.xor_self,Nat.zero_xor]
 rw[h2,wF]
theorem gX.rest{x:Nat->Nat}(hx:∀i,x i<256)(h:gX x):bH x 96=0:=by
 obtain⟨_,_,_,_,h⟩:=h;generalize hB:eQ (bY x 2) (bY (λi=>x (2+i)) 2) (bY (λi=>x (5+i)) 8) (bY (λi=>x (4+i)) 1) ((bY (λi=>x (2+i)) 2+9)/10) (λi=>x (13+i))=B;unfold bB at h;rw[hB]at h;have dp:∀i,B i<256:=λi=>by rw[<-hB];exact yE (λi=>hx _) i
 have h1:bH x 92=bH B 92:=rV λi hi=>by rw[<-h i (by omega)];unfold eN;rw[ah (by omega)]
 have hr:=xU dp 92;have hb:∀i,i<4->x (92+i)=bX (bH B 92) i:=λi hi=>by rw[<-h (92+i) (by omega)];unfold eN;rw[ai (by omega),show 92+i-92=i by omega]
 generalize bH B 92=r at h1 hr hb;have b0:=hb 0 (by omega);have b1:=hb 1 (by omega);have b2:=hb 2 (by omega);have b3:=hb 3 (by omega);unfold bX at b0 b1 b2 b3;simp only[Nat.add_zero,Nat.pow_zero,Nat.div_one,Nat.reduceAdd,Nat.reducePow]at b0 b1 b2 b3;have s0:bH x 93=r/256:=by show cE (bH x 92^^^x 92) 8=_;rw[h1,b0,sY]
 have s1:bH x 94=r/65536:=by show cE (bH x 93^^^x 93) 8=_;rw[s0,b1,sY,Nat.div_div_eq_div_mul]
 have s2:bH x 95=r/16777216:=by show cE (bH x 94^^^x 94) 8=_;rw[s1,b2,sY,Nat.div_div_eq_div_mul]
 show cE (bH x 95^^^x 95) 8=0;rw[s2,b3,sY];omega
theorem Nu{x:Nat->Nat}{n:Nat}(h:∀i,i<n->x i=0):bH x n=0:=by
 rw[rV (y:=λ_=>0) h];clear h;induction n with
 |zero=>rfl
 |succ n ih=>show cE (bH (λ_=>0) n^^^0) 8=0;rw[ih,Nat.xor_zero,Ls]
theorem xM{x:Nat->Nat}(h:∀i,i<96->x i=0):¬gX x:=λhs=>by
 have h1:=hs.1;have:bY x 2=0:=by show x 0+256*(x 1+256*0)=0;rw[h 0 (by omega),h 1 (by omega)]
 omega
theorem Oq(N a i:Nat):bX N (a+i)=bX (N/256^a) i:=by unfold bX;rw[Nat.pow_add,Nat.div_div_eq_div_mul]
theorem Uf(at' W p m:Nat)(hm:32<m)(hW:W<4294967296):∃q w,q<=m∧w<4294967296∧(2^at'*W/2^p)%2^m=2^q*w:=by
 by_cases h:p<=at'
 .have e:2^at'*W/2^p=2^(at'-p)*W:=by
   rw[show at'=p+(at'-p) by omega,Nat.pow_add,Nat.mul_assoc,Nat.mul_div_cancel_left _ (Nat.pow_pos (by omega)),show p+(at'-p)-p=at'-p by omega]
  rw[e];by_cases h2:m<=at'-p
  .refine⟨0,0,by omega,by omega,?_⟩;rw[show at'-p=m+(at'-p-m) by omega,Nat.pow_add,Nat.mul_assoc,Nat.mul_mod_right,Nat.mul_zero]
  .refine⟨at'-p,W%2^(m-(at'-p)),by omega,Nat.lt_of_le_of_lt (Nat.mod_le _ _) hW,?_⟩;rw[<-Nat.mul_mod_mul_left,<-Nat.pow_add,show at'-p+(m-(at'-p))=m by omega]
 .have e:2^at'*W/2^p=W/2^(p-at'):=by
   rw[show 2^p=2^at'*2^(p-at') by rw[<-Nat.pow_add];congr 1;omega,Nat.mul_div_mul_left _ _ (Nat.pow_pos (by omega))]
  have h1:W/2^(p-at')<4294967296:=Nat.lt_of_le_of_lt (Nat.div_le_self _ _) hW;have h3:4294967296<2^m:=Nat.pow_lt_pow_right (a:=2) (by omega) hm;refine⟨0,W/2^(p-at'),by omega,h1,?_⟩;rw[e,Nat.mod_eq_of_lt (Nat.lt_trans h1 h3),Nat.pow_zero,Nat.one_mul]
theorem Kf{x y:Nat->Nat}{at' W p:Nat}(hW:W<4294967296)(hx:bH x 96=0)(hy:∀i,i<96->y i=x i^^^bX (2^at'*W) (p*96+i)):(∀i,i<96->y i=x i)∨bH y 96≠0:=by
 by_cases h:bH y 96=0
 .refine .inl ?_;rw[rV hy,Ql,hx,Nat.zero_xor]at h;obtain⟨q,w,hq,hw,hN⟩:=Uf at' W (8*(p*96)) (8*96) (by omega) hW;have hn:bY (λi=>bX (2^at'*W) (p*96+i)) 96=2^q*w:=by
   rw[qE (N:=2^at'*W/256^(p*96)) λi _=>Oq _ _ _,<-hN,show(256:Nat)=2^8 from rfl,<-Nat.pow_mul,<-Nat.pow_mul]
  have:=N8 (e:=λi=>bX (2^at'*W) (p*96+i)) (λi=>tC _ _) hw hq hn h;intro i hi;rw[hy i hi,this i hi,Nat.xor_zero]
 .exact .inr h
def bA(s:Dsk)(n:Nat):Prop:=s.a=s.c∧n<=s.left
theorem bA.le{s:Dsk}{n m:Nat}(h:bA s n)(hm:m<=n):bA s m:=⟨h.1,ak hm h.2⟩
theorem bA.wr{s:Dsk}{n d p:Nat}{b:Nat->Nat}(h:bA s (n+1)):bA (s.wr d p b) n:=by
 have h2:=h.2;refine⟨?_,?_⟩
 .show(if 0<s.left then dF s.a d p b else s.a)=dF s.c d p b;rw[ai (by omega),h.1]
 .show n<=s.left-1;omega
theorem bA.blk1{s:Dsk}{p:Nat}{good:Nat->Bool}{last:Bool} : ∀(k:Nat){n:Nat},bA s (n+k)->bA (blk1 s p good last k) n
 |0,n,h=>h
 |k+1,n,h=>by
  have ih:=bA.blk1 (p:=p) (good:=good) (last:=last) k (n:=n+1) (h.le (by omega));unfold Go.Proofs.YtpiefebngnlfoaaGreatDoor.blk1;split
  .exact ih.wr
  .exact ih.le (by omega)
theorem bA.blank{s:Dsk}{p n:Nat}{good:Nat->Bool}(h:bA s (n+28)):bA (gW s p good) n:=bA.blk1 14 (bA.blk1 14 (h.le (by omega)))
theorem bA.lay{s:Dsk}{p:Nat}{B:Nat->Nat->Nat} : ∀(k:Nat){n:Nat},bA s (n+k)->bA (lP s p B k) n
 |0,n,h=>h
 |k+1,n,h=>bA.wr (bA.lay k (h.le (by omega)))
theorem bA.sweep{s:Dsk}{t:Nat->Bool} : ∀(k:Nat){n:Nat},bA s (n+28*k)->bA (eY s t k) n
 |0,n,h=>h
 |k+1,n,h=>by
  have ih:=bA.sweep (t:=t) k (n:=n+28) (h.le (by omega));unfold eY;split
  .exact ih.le (by omega)
  .exact ih.blank
theorem bA.put{s:Dsk}{L:List Ent}{p id size turn n:Nat}{val:Nat->Nat}(h:bA s (n+42)):bA (jI s L p id size turn val) n:=by
 unfold jI;split
 .exact bA.blank (bA.lay 14 (h.le (by omega)))
 .exact bA.lay 14 (h.le (by omega))
theorem yU{s:Dsk}{p:Nat}{good:Nat->Bool}{last:Bool}{d i:Nat}(hi:i<96):∀n,(blk1 s p good last n).c d p i=if d<n∧good d=last then 0 else s.c d p i
 |0=>by rw[ah (by omega)];rfl
 |n+1=>by
  have ih:=yU (s:=s) (p:=p) (good:=good) (last:=last) (d:=d) hi n;unfold blk1;split
  .rename_i h;show dF (blk1 s p good last n).c n p (λ_=>0) d p i=_;unfold dF;by_cases e:d=n
   .subst e;rw[ai ⟨rfl,rfl⟩,ai ⟨by omega,h.1⟩]
   .rw[ah (λq=>e q.1),ih];have:(d<n+1)↔d<n:=by omega
    simp only[this]
  .rename_i h;rw[ih];by_cases e:d=n
   .subst e;rw[ah (by omega)];split
    .rename_i h2;have hq:dI ((blk1 s p good last d).c d p) (λ_=>0) 0 96=true:=by
      cases hq:dI ((blk1 s p good last d).c d p) (λ_=>0) 0 96 with
      |true=>rfl
      |false=>exact absurd ⟨h2.2,hq⟩ h
     have:=(lG _ _ 96 0).1 hq i (by omega) (by omega);rw[ih,ah (by omega)]at this;exact this
    .rfl
   .have:(d<n+1)↔d<n:=by omega
    simp only[this]
theorem xN{s:Dsk}{p:Nat}{good:Nat->Bool}{d i:Nat}(hd:d<14)(hi:i<96):(gW s p good).c d p i=0:=by unfold gW;rw[yU hi,yU hi];cases h:good d<;>simp[hd]
theorem xB{s:Dsk}{t:Nat->Bool}{d q:Nat}(h:t q=true):∀n,(eY s t n).c d q=s.c d q
 |0=>rfl
 |n+1=>by
  unfold eY;split
  .exact xB h n
  .rename_i hn;rw[kY (λe=>hn (by rw[<-e];exact h))];exact xB h n
theorem sX{s:Dsk}{t:Nat->Bool}{d q i:Nat}(h:t q=false)(hd:d<14)(hi:i<96):∀n,q<n->(eY s t n).c d q i=0
 |n+1,hq=>by
  unfold eY;split
  .rename_i hn;exact sX h hd hi n (Nat.lt_of_le_of_ne (by omega) λe=>by rw[e,hn]at h;cases h)
  .by_cases e:q=n
   .subst e;exact xN hd hi
   .rw[kY e];exact sX h hd hi n (by omega)
structure Neat(nb:Nat)(c:Nat->Nat->Nat->Nat)(L:List Ent):Prop where
 bad:∀e∈L,∀k,k<14->e.good k=false->¬gX (c k e.slot)
 free:∀p,p<nb->(∀e∈L,e.slot≠p)->∀k,k<14->∀j,j<96->c k p j=0
theorem xE{L:List Ent}{e x:Ent}{clock:Nat}(hx:x∈L)(dy:x.id≠e.id):x∈bS L e clock:=by
 unfold bS;split
 .rename_i n old hf;obtain⟨m,h1,h2,h3⟩:=eJ hf;obtain⟨i,hi⟩:=List.mem_iff_getElem?.1 hx;refine List.mem_iff_getElem?.2 ⟨i,?_⟩;rw[List.getElem?_set,ah,hi];rintro rfl;rw[show m=n by omega]at h2;rw[h2]at hi;cases hi;exact dy h3
 .exact List.mem_append.2 (.inl hx)
theorem Neat.put{nb p id len turn clock:Nat}{val:Nat->Nat}{s:Dsk}{L:List Ent}(h:Neat nb s.c L)(jr:(L.map (·.id)).Nodup)(qo:(L.map (·.slot)).Nodup)(hp:zQ L nb p)(hP:PutOk L ⟨id,len,turn,p,val,λ_=>true,0⟩ clock):Neat nb (jI s L p id len turn val).c (bS L ⟨id,len,turn,p,val,λ_=>true,0⟩ clock):=by
 have hc:∀d q,q≠p->(∀e∈L,e.id=id->e.slot≠q)->(jI s L p id len turn val).c d q=s.c d q:=λd q hq ho=>by
  unfold jI;split
  .rename_i n old hf;obtain⟨m,h1,h2,h3⟩:=eJ hf;rw[kY (λe=>ho old (al h2) h3 e.symm)];funext i;rw[tX,ah (λe=>hq e.1)]
  .funext i;rw[tX,ah (λe=>hq e.1)]
 refine⟨λe he k hk hg=>?_,λq hq hn k hk j hj=>?_⟩
 .rcases hP.mem e he with⟨b,rfl⟩|⟨sr,dy⟩
  .cases hg
  .rw[hc k e.slot (hp.2.1 e sr) (λo ho hi hs=>dy (by rw[<-iF (f:=λx:Ent=>x.slot) qo ho sr hs];exact hi))];exact h.bad e sr k hk hg
 .have Z1:q≠p:=λe=>by
   obtain⟨b,hb⟩:=hP.has;exact hn _ hb e.symm
  by_cases ho:∃e∈L,e.id=id∧e.slot=q
  .obtain⟨old,hm,hi,hs⟩:=ho;obtain⟨n,hf⟩:=Ek jr hm;rw[hi]at hf;unfold jI;rw[hf];show(gW _ old.slot old.good).c k q j=0;rw[<-hs];exact xN hk hj
  .rw[hc k q Z1 (λe he hi hs=>ho ⟨e,he,hi,hs⟩)];refine h.free q hq (λe he hs=>?_) k hk j hj;exact hn e (xE he (λhi=>ho ⟨e,he,hi,hs⟩)) hs
theorem tH{L:List Ent}{id n:Nat}{e x:Ent}(jr:(L.map (·.id)).Nodup)(hq:aQ id L 0=some (n,e)):x∈fH L id↔x∈L∧x.id≠id:=by
 have hp:=El hq;have hn:=(hp.map (·.id)).nodup_iff.1 jr;rw[List.map_cons,List.nodup_cons]at hn;obtain⟨m,h1,h2,h3⟩:=eJ hq;constructor
 .intro hx;refine⟨hp.mem_iff.2 (List.mem_cons.2 (.inr hx)),λhi=>hn.1 (List.mem_map.2 ⟨x,hx,?_⟩)⟩;show x.id=e.id;rw[hi,h3]
 .rintro⟨hx,hi⟩;rcases List.mem_cons.1 (hp.mem_iff.1 hx) with h|h
  .subst h;exact absurd h3 hi
  .exact h
theorem Neat.del{nb id n:Nat}{s:Dsk}{L:List Ent}{e:Ent}(h:Neat nb s.c L)(jr:(L.map (·.id)).Nodup)(qo:(L.map (·.slot)).Nodup)(hq:aQ id L 0=some (n,e)):Neat nb (gW s e.slot e.good).c (fH L id):=by
 obtain⟨m,h1,h2,h3⟩:=eJ hq;have hm:=al h2;refine⟨λx hx k hk hg=>?_,λq qx hn k hk j hj=>?_⟩
 .obtain⟨hx,hi⟩:=(tH jr hq).1 hx;rw[kY (λe'=>hi (by rw[iF (f:=λx:Ent=>x.slot) qo hx hm e'];exact h3))];exact h.bad x hx k hk hg
 .by_cases ho:q=e.slot
  .subst ho;exact xN hk hj
  .rw[kY ho];refine h.free q qx (λx hx hs=>?_) k hk j hj;by_cases hi:x.id=id
   .have:=iF (f:=λx:Ent=>x.id) jr hx hm (hi.trans h3.symm);subst this;exact ho hs.symm
   .exact hn x ((tH jr hq).2 ⟨hx,hi⟩) hs
def jY(L:List Ent):Prop:=∀e∈L,∀k,k<14->e.good k=true
theorem jY.put{L:List Ent}{e:Ent}{clock:Nat}(h:jY L)(hP:PutOk L e clock)(he:∀k,k<14->e.good k=true):jY (bS L e clock):=λx hx=>by
 rcases hP.mem x hx with⟨b,rfl⟩|⟨hx,_⟩
 .exact he
 .exact h x hx
theorem jY.del{L:List Ent}{id:Nat}(h:jY L):jY (fH L id):=λx hx=>h x ((yB L id).subset hx)
def Ent.lb(e:Ent):Lb:=⟨e.id,e.size,e.turn,e.val⟩
theorem EntOk.lb{nb turn:Nat}{c:Nat->Nat->Nat->Nat}{e:Ent}(h:EntOk nb turn c e)(ht:turn<18446744073709551616):e.lb.Ok:=⟨h.id1,h.id2,h.size,Nat.lt_of_le_of_lt h.turn ht,h.val⟩
theorem jY.rest{nb turn:Nat}{c:Nat->Nat->Nat->Nat}{L:List Ent}(h:jY L)(hN:Neat nb c L)(hE:∀e∈L,EntOk nb turn c e)(ht:turn<18446744073709551616)(hb:∀d p i,c d p i<256){k p:Nat}(hk:k<14)(hp:p<nb):bH (c k p) 96=0:=by
 by_cases ho:∃e∈L,e.slot=p
 .obtain⟨e,he,rfl⟩:=ho;exact gX.rest (hb k _) (((hE e he).lb ht).sealed hk λj hj=>(hE e he).blk k hk (h e he k hk) j hj)
 .exact Nu λi hi=>hN.free p hp (λe he hs=>ho ⟨e,he,hs⟩) k hk i hi
structure Harm(nd nb:Nat)(T T':Nat->ByteArray)(H:Nat->Bool):Prop where
 four:aT H nd<=4
 same:∀d,d<nd->H d=false->T' d=T d
 hit:∀d,d<nd->H d=true->(T' d).size=0∨((T' d).size=nb*96∧∃at' W,W<4294967296∧∀i,i<nb*96->cJ (T' d) i=cJ (T d) i^^^bX (2^at'*W) i)
theorem Harm.blk{nd nb d p wr:Nat}{T T':Nat->ByteArray}{H:Nat->Bool}(h:Harm nd nb T T' H)(hd:d<nd)(hp:p<nb)(hr:bH (λi=>cJ (T d) (p*96+i)) 96=0):(∀i,i<96->(dA T' wr).c d p i=cJ (T d) (p*96+i))∨(¬gX ((dA T' wr).c d p)∧H d=true):=by
 cases hH:H d with
 |false=>exact .inl λi _=>by show cJ (T' d) _=_;rw[h.same d hd hH]
 |true=>
  rcases h.hit d hd hH with h0|⟨_,at',W,hW,hx⟩
  .exact .inr ⟨xM λi hi=>yT (by omega),rfl⟩
  .have hy:∀i,i<96->(dA T' wr).c d p i=cJ (T d) (p*96+i)^^^bX (2^at'*W) (p*96+i):=λi hi=>hx _ (by
    have:(p+1)*96<=nb*96:=Nat.mul_le_mul_right _ hp
    omega)
   rcases Kf hW hr hy with h1|h1
   .exact .inl h1
   .exact .inr ⟨λhs=>h1 (hs.rest λi=>Ie _ _),rfl⟩
theorem pT(g:Nat->Bool)(n:Nat):aT g (n+1)=aT g n+if g n=true then 1 else 0:=by unfold aT;rw[List.range_succ,List.filter_append,cd];cases h:g n<;>simp[h]
theorem Cw{g h:Nat->Bool} : ∀n,(∀k,k<n->h k=false->g k=true)->n<=aT g n+aT h n
 |0,_=>Nat.zero_le _
 |n+1,H=>by
  have ih:=Cw n λk hk=>H k (by omega)
  rw[pT,pT];have:=H n (by omega);cases hh:h n with
  |true=>simp;omega
  |false=>rw[this hh];simp;omega
def lV(L:List Ent)(p:Nat):Option Ent:=L.find? λe=>e.slot==p
theorem yH{L:List Ent}{p:Nat}{e:Ent}(h:lV L p=some e):e∈L∧e.slot=p:=⟨List.mem_of_find?_eq_some h,by simpa using List.find?_some h⟩
theorem Hh{L:List Ent}{e:Ent}(hs:(L.map (·.slot)).Nodup)(he:e∈L):lV L e.slot=some e:=by
 cases h:lV L e.slot with
 |none=>exact absurd (List.find?_eq_none.1 h e he) (by simp)
 |some x=>obtain⟨h1,h2⟩:=yH h;rw[iF (f:=λx:Ent=>x.slot) hs h1 he h2]
def iR(L:List Ent)(p:Nat):Lb:=match lV L p with|some e=>e.lb|none=>⟨0,0,0,λ_=>0⟩
def eO(L:List Ent)(c:Nat->Nat->Nat->Nat)(p k:Nat):Bool:=match lV L p with|some e=>dI (c k p) (e.lb.blk k) 0 96|none=>false
theorem Eg{nd nb turn wr:Nat}{c:Nat->Nat->Nat->Nat}{L:List Ent}{T':Nat->ByteArray}{H:Nat->Bool}(hS:jY L)(hN:Neat nb c L)(hE:∀e∈L,EntOk nb turn c e)(ht:turn<18446744073709551616)(hb:∀d p i,c d p i<256)(hn:14<=nd)(h:Harm nd nb (λd=>eD nb (c d)) T' H){p:Nat}(hp:p<nb):SlotK (dA T' wr).c p (iR L p) (eO L (dA T' wr).c p)∧∀e,lV L p=some e->∀k,k<14->H k=false->eO L (dA T' wr).c p k=true:=by
 have I4:∀k i,i<96->cJ (eD nb (c k)) (p*96+i)=c k p i:=λk i hi=>by have:(p+1)*96<=nb*96:=Nat.mul_le_mul_right _ hp;rw[Wy (λq j=>hb k q j) (by omega)];show c k ((p*96+i)/96) ((p*96+i)%96)=_;rw[show(p*96+i)/96=p by omega,show(p*96+i)%96=i by omega]
 have JU:∀k,k<14->(∀i,i<96->(dA T' wr).c k p i=c k p i)∨(¬gX ((dA T' wr).c k p)∧H k=true):=λk hk=>
  (h.blk (wr:=wr) (d:=k) (p:=p) (by omega) hp (by
   rw[rV (y:=c k p) λi hi=>I4 k i hi]
   exact hS.rest hN hE ht hb hk hp)).imp (λq i hi=>(q i hi).trans (I4 k i hi)) id
 cases ha:lV L p with
 |none=>
  have fe:∀e∈L,e.slot≠p:=λe he hs=>by have:=List.find?_eq_none.1 ha e he;simp[hs]at this
  refine⟨⟨λk hk hg=>?_,λk hk hg=>?_,λk hk _=>?_⟩,λe he=>(by cases he)⟩
  .unfold eO at hg;rw[ha]at hg;cases hg
  .unfold eO at hg;rw[ha]at hg;cases hg
  .rcases JU k hk with q|q
   .exact xM λi hi=>by rw[q i hi];exact hN.free p hp fe k hk i hi
   .exact q.1
 |some e=>
  obtain⟨he,hs⟩:=yH ha;have hl:iR L p=e.lb:=by unfold iR;rw[ha]
  have hg:∀k,eO L (dA T' wr).c p k=dI ((dA T' wr).c k p) (e.lb.blk k) 0 96:=λk=>by unfold eO;rw[ha]
  have vm:∀k,k<14->(∀i,i<96->(dA T' wr).c k p i=c k p i)->eO L (dA T' wr).c p k=true:=λk hk q=>by rw[hg];refine(lG _ _ 96 0).2 λj _ hj=>?_;rw[q j (by omega),<-hs];exact(hE e he).blk k hk (hS e he k hk) j (by omega)
  refine⟨⟨λk hk hq=>?_,λk hk hq j hj=>?_,λk hk hq=>?_⟩,λe' sr k hk hH=>?_⟩
  .rw[hl];exact(hE e he).lb ht
  .rw[hl];rw[hg]at hq;exact(lG _ _ 96 0).1 hq j (by omega) (by omega)
  .rcases JU k hk with q|q
   .rw[vm k hk q]at hq;cases hq
   .exact q.1
  .rcases JU k hk with q|q
   .exact vm k hk q
   .rw[hH]at q;cases q.2
theorem yX{G:Nat->Bool}{k n:Nat}(h:k<n):aR G n k=G k:=by simp[aR,h]
theorem Fv(G:Nat->Bool)(n:Nat):∀m,m<=n->aT (aR G n) m=aT G m
 |0,_=>rfl
 |m+1,h=>by rw[pT,pT,Fv G n m (by omega),yX (by omega)]
structure oX(e e0:Ent):Prop where
 id:e.id=e0.id
 size:e.size=e0.size
 turn:e.turn=e0.turn
 slot:e.slot=e0.slot
 val:e.val=e0.val
theorem Fa{turn:Nat}{L0:List Ent}{c:Nat->Nat->Nat->Nat}(jr:(L0.map (·.id)).Nodup)(qo:(L0.map (·.slot)).Nodup)(ht:∀e∈L0,e.turn<=turn)(GA:∀e∈L0,10<=aT (eO L0 c e.slot) 14):∀{q:Nat}{L:List Ent}{t:Nat},kA (iR L0) (eO L0 c) q L t->(∀e∈L,∃e0∈L0,e0.slot<q∧oX e e0∧e.good=aR (eO L0 c e0.slot) 14)∧(∀e0∈L0,e0.slot<q->∃e∈L,oX e e0)∧t<=turn
 |0,L,t,h=>by obtain⟨rfl,rfl⟩:=h;exact⟨λe he=>(by cases he),λe _ h=>(by omega),Nat.zero_le _⟩
 |q+1,L',t',⟨L,t,h1,h2⟩=>by
  obtain⟨i1,i2,i3⟩:=Fa jr qo ht GA h1;unfold Sv at h2;cases ha:lV L0 q with
  |none=>
   have hg:eO L0 c q=λ_=>false:=by funext k;unfold eO;rw[ha]
   rw[ah (by rw[hg];simp[iA])]at h2;obtain⟨rfl,rfl⟩:=h2;refine⟨λe he=>?_,λe0 BB dp=>?_,i3⟩
   .obtain⟨e0,q1,q2,q3⟩:=i1 e he;exact⟨e0,q1,by omega,q3⟩
   .by_cases e:e0.slot=q
    .rw[<-e,Hh qo BB]at ha;cases ha
    .exact i2 e0 BB (by omega)
  |some e0=>
   obtain⟨BB,xr⟩:=yH ha;have hl:iR L0 q=e0.lb:=by unfold iR;rw[ha]
   have oa:=GA e0 BB;rw[xr]at oa;have qk:iA (eO L0 c q) 14=true:=by
    cases hx:iA (eO L0 c q) 14 with
    |true=>rfl
    |false=>
     have:aT (eO L0 c q) 14=0:=by unfold aT;rw[List.length_eq_zero_iff,List.filter_eq_nil_iff];intro a VP;unfold iA at hx;rw[List.any_eq_false]at hx;exact hx a VP
     omega
   rw[ai qk]at h2;have sd:aQ (iR L0 q).id L 0=none:=by
    cases hf:aQ (iR L0 q).id L 0 with
    |none=>rfl
    |some x=>
     obtain⟨m,q1,q2,q3⟩:=eJ hf;obtain⟨e1,r1,r2,r3,_⟩:=i1 x.2 (al q2);rw[hl]at q3;have:=iF (f:=λx:Ent=>x.id) jr r1 BB (r3.id.symm.trans q3)
     subst this;omega
   have zn:jD L (iR L0 q) (eO L0 c q)=true:=by unfold jD;rw[sd,Fv _ _ _ (ae _)];simp[oa]
   rw[ai zn]at h2;obtain⟨rfl,clock,hP,rfl⟩:=h2;refine⟨λe he=>?_,λe1 ZW dp=>?_,?_⟩
   .rcases hP.mem e he with⟨b,rfl⟩|⟨he,_⟩
    .refine⟨e0,BB,by omega,?_,?_⟩
     .rw[hl];exact⟨rfl,rfl,rfl,xr.symm,rfl⟩
     .rw[xr];rfl
    .obtain⟨e1,q1,q2,q3⟩:=i1 e he;exact⟨e1,q1,by omega,q3⟩
   .by_cases e:e1.slot=q
    .have:=iF (f:=λx:Ent=>x.slot) qo ZW BB (e.trans xr.symm)
     subst this;obtain⟨b,hb⟩:=hP.has;refine⟨_,hb,?_⟩;rw[hl];exact⟨rfl,rfl,rfl,xr.symm,rfl⟩
    .obtain⟨x,hx,hS⟩:=i2 e1 ZW (by omega);refine⟨x,xE hx (λhi=>?_),hS⟩;have ft:x.id=e0.id:=by rw[hi,hl];rfl
     have:=iF (f:=λx:Ent=>x.id) jr ZW BB (hS.id.symm.trans ft)
     subst this;exact e xr
   .rw[hl];have:=ht e0 BB;show max t e0.turn<=turn;omega
structure It where
 id:Nat
 size:Nat
 val:Nat->Nat
def fR(e:Ent):It:=⟨e.id,e.size,e.val⟩
def kS(M:List It):Prop:=M.Pairwise λa b=>a.id<b.id
structure Rep(L:List Ent)(M:List It):Prop where
 srt:kS M
 mem:∀x,x∈M↔∃e∈L,fR e=x
def aZ(x:It):Bool->List It->List It
 |cW,[]=>if cW then [] else [x]
 |cW,y::M=>if x.id<=y.id∧cW=false then x::(if y.id=x.id then aZ x true M else y::aZ x true M) else(if y.id=x.id then aZ x cW M else y::aZ x cW M)
theorem pV(x:It):∀(M:List It)(z:It),z∈aZ x true M↔z∈M∧z.id≠x.id
 |[],z=>by simp[aZ]
 |y::M,z=>by
  unfold aZ;rw[ah (by simp)];by_cases e:y.id=x.id
  .rw[ai e,pV x M z,az];constructor
   .rintro⟨h1,h2⟩;exact⟨.inr h1,h2⟩
   .rintro⟨h1|h1,h2⟩
    .subst h1;exact absurd e h2
    .exact⟨h1,h2⟩
  .rw[ah e,az,pV x M z,az];constructor
   .rintro(h1|⟨h1,h2⟩)
    .subst h1;exact⟨.inl rfl,e⟩
    .exact⟨.inr h1,h2⟩
   .rintro⟨h1|h1,h2⟩
    .exact .inl h1
    .exact .inr ⟨h1,h2⟩
theorem vD(x:It):∀{M:List It},kS M->kS (aZ x true M)
 |[],_=>by unfold aZ;exact List.Pairwise.nil
 |y::M,h=>by
  have h1:=List.pairwise_cons.1 h;unfold aZ;rw[ah (by simp)];have ih:=vD x (M:=M) h1.2;split
  .exact ih
  .exact List.pairwise_cons.2 ⟨λz hz=>h1.1 z ((pV x M z).1 hz).1,ih⟩
theorem Df(x:It):∀{M:List It},kS M->kS (aZ x false M)∧∀z,z∈aZ x false M↔z=x∨(z∈M∧z.id≠x.id)
 |[],_=>by unfold aZ;exact⟨List.pairwise_singleton _ _,λz=>by simp⟩
 |y::M,h=>by
  have h1:=List.pairwise_cons.1 h;have hT:=pV x M;have KB:=vD x h1.2;obtain⟨V9,C_⟩:=Df x h1.2;unfold aZ;by_cases hle:x.id<=y.id
  .rw[ai ⟨hle,rfl⟩];by_cases e:y.id=x.id
   .rw[ai e];refine⟨List.pairwise_cons.2 ⟨λz hz=>?_,KB⟩,λz=>?_⟩
    .have:=h1.1 z ((hT z).1 hz).1;omega
    .rw[az,hT,az];constructor
     .rintro(h|⟨h,h'⟩)
      .exact .inl h
      .exact .inr ⟨.inr h,h'⟩
     .rintro(h|⟨h|h,h'⟩)
      .exact .inl h
      .subst h;exact absurd e h'
      .exact .inr ⟨h,h'⟩
   .rw[ah e];refine⟨List.pairwise_cons.2 ⟨λz hz=>?_,List.pairwise_cons.2 ⟨λz hz=>h1.1 z ((hT z).1 hz).1,KB⟩⟩,λz=>?_⟩
    .rcases List.mem_cons.1 hz with hz|hz
     .subst hz;omega
     .have:=h1.1 z ((hT z).1 hz).1;omega
    .rw[az,az,hT,az];constructor
     .rintro(h|h|⟨h,h'⟩)
      .exact .inl h
      .subst h;exact .inr ⟨.inl rfl,e⟩
      .exact .inr ⟨.inr h,h'⟩
     .rintro(h|⟨h|h,h'⟩)
      .exact .inl h
      .exact .inr (.inl h)
      .exact .inr (.inr ⟨h,h'⟩)
  .rw[ah (λq=>hle q.1),ah (by omega)];refine⟨List.pairwise_cons.2 ⟨λz hz=>?_,V9⟩,λz=>?_⟩
   .rcases(C_ z).1 hz with h|⟨h,_⟩
    .subst h;omega
    .exact h1.1 z h
   .rw[az,C_,az];constructor
    .rintro(h|h|⟨h,h'⟩)
     .subst h;exact .inr ⟨.inl rfl,by omega⟩
     .exact .inl h
     .exact .inr ⟨.inr h,h'⟩
    .rintro(h|⟨h|h,h'⟩)
     .exact .inr (.inl h)
     .exact .inl h
     .exact .inr (.inr ⟨h,h'⟩)
theorem Rep.put{L:List Ent}{M:List It}{e:Ent}{clock:Nat}(h:Rep L M)(hP:PutOk L e clock):Rep (bS L e clock) (aZ (fR e) false M):=by
 obtain⟨h1,h2⟩:=Df (fR e) h.srt;refine⟨h1,λx=>(h2 x).trans ⟨?_,?_⟩⟩
 .rintro(rfl|⟨hx,dy⟩)
  .obtain⟨b,hb⟩:=hP.has;exact⟨_,hb,rfl⟩
  .obtain⟨y,hy,rfl⟩:=(h.mem x).1 hx;exact⟨y,xE hy dy,rfl⟩
 .rintro⟨y,hy,rfl⟩;rcases hP.mem y hy with⟨b,rfl⟩|⟨CJ,dy⟩
  .exact .inl rfl
  .exact .inr ⟨(h.mem _).2 ⟨y,CJ,rfl⟩,dy⟩
theorem Rep.del{L:List Ent}{M:List It}{id n:Nat}{e:Ent}(x:It)(hx:x.id=id)(h:Rep L M)(jr:(L.map (·.id)).Nodup)(hq:aQ id L 0=some (n,e)):Rep (fH L id) (aZ x true M):=by
 refine⟨vD x h.srt,λz=>(pV x M z).trans ⟨?_,?_⟩⟩
 .rintro⟨hz,dy⟩;obtain⟨y,hy,rfl⟩:=(h.mem z).1 hz;exact⟨y,(tH jr hq).2 ⟨hy,λq=>dy (by rw[hx];exact q)⟩,rfl⟩
 .rintro⟨y,hy,rfl⟩;obtain⟨h1,h2⟩:=(tH jr hq).1 hy;exact⟨(h.mem _).2 ⟨y,h1,rfl⟩,λq=>h2 (by rw[<-hx];exact q)⟩
theorem vG{l:List Nat} : ∀{m:List Nat},l.Nodup->(∀x∈l,x∈m)->l.length<=m.length:=by
 induction l with
 |nil=>intro m _ _;exact Nat.zero_le _
 |cons a l ih=>intro m hn hs;have h1:=List.nodup_cons.1 hn;have ha:=hs a (bw ..);have:=ih (m:=m.erase a) h1.2 λx hx=>(List.mem_erase_of_ne (a:=x) (b:=a) (λe=>h1.1 (by rw[<-e];exact hx))).2 (hs x (List.mem_cons_of_mem _ hx));have h2:=List.length_erase_of_mem ha;have h3:0<m.length:=List.length_pos_of_mem ha;rw[av];omega
theorem Uq{L:List Ent}{e:Ent}{clock:Nat} : (bS L e clock).length=L.length+if (aQ e.id L 0).isSome then 0 else 1:=by
 unfold bS;split
 .rename_i h;rw[h];simp
 .rename_i h;rw[h];simp
theorem Uo{L:List Ent}{e:Ent}{nb clock:Nat}(hL:L.length<=nb-2)(h:gL L nb e.id=false):(bS L e clock).length<=nb-2:=by rw[Uq];unfold gL at h;have:=of_decide_eq_false h;cases hf:(aQ e.id L 0).isSome<;>simp[hf]at this⊢<;>omega
theorem Rep.same{L L0:List Ent}{M:List It}(h:Rep L0 M)(h1:∀e∈L,∃e0∈L0,fR e=fR e0)(h2:∀e0∈L0,∃e∈L,fR e=fR e0):Rep L M:=by
 refine⟨h.srt,λx=>(h.mem x).trans ⟨?_,?_⟩⟩
 .rintro⟨e0,q1,rfl⟩;obtain⟨e,q2,q3⟩:=h2 e0 q1;exact⟨e,q2,q3⟩
 .rintro⟨e,q1,rfl⟩;obtain⟨e0,q2,q3⟩:=h1 e q1;exact⟨e0,q2,q3.symm⟩
