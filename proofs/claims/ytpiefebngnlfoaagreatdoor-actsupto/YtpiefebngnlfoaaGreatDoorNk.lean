import Derived.Test.YtpiefebngnlfoaaGreatDoorNj
set_option maxRecDepth 99999
set_option maxHeartbeats 0
set_option linter.unusedVariables false
set_option linter.unusedSimpArgs false
namespace Go.Proofs.YtpiefebngnlfoaaGreatDoor
open Go.RowKit Go.Conc Go.Vw
section
variable {N W n m q k:Nat}{x:Nat->Sx}{T:Nat->List It}{g:Wv}{v w w':World}{S:Nat->Prop}
def RwX(v:World)(p':Option Addr)(len gz:Nat)(w:World):Prop:=(p'=none∧len=0)∨∃RB cur,p'=some ⟨RB,0,none⟩∧v.heap.size<=RB∧w.heap[RB]?=some (.cells cur 5)∧cur.size=gz∧len<gz
theorem kT.rw{p p':Option Addr}{len gz:Nat}{val:Nat->Nat}(h:kT v p len val p' gz w):RwX v p' len gz w:=by
 rcases h with⟨_,h1,h2,_⟩|⟨RB,ad,_,h1,h2,cur,h3,h4,h5,_⟩
 .exact .inl ⟨h1,h2⟩
 .exact .inr ⟨RB,cur,h1,h2,h3,h4,h5⟩
def PutE(x:Sx)(id:Int)(len e:Nat):Prop:=((id<1∨9999<id∨400<len)∧e=1)∨(∃d:Nat,id=(d:Int)∧1<=d∧d<=9999∧len<=400∧((gL x.L x.nb d=true∧e=5)∨(gL x.L x.nb d=false∧e=0)))
def PutS(N n m:Nat)(x y:Sx)(T:List It)(id:Int)(len:Nat)(val:Nat->Nat)(e:Nat)(w:World):Prop:=Ho N n (m+1) y (if e=0 then aZ ⟨id.toNat,len,val⟩ false T else T) w∧y.X=x.X∧(∀b,y.own b↔x.own b)∧y.nb=x.nb∧y.nd=x.nd
theorem Zg(id:Int)(len cap:Nat)(p:Option Addr)(val:Nat->Nat){X:Sx}{U:List It}(h:Ho N (n+42) m X U v)(hl:len<140737488355328)(fh:∀i,val i<256)(hs:fV v p len cap val)(hm:m<1152921504606846976)(hg:Tryz.prog.globals.size<=v.heap.size):aJ Tryz.prog 29 #[.pointer (some ⟨X.X,0,none⟩),.int .i64 id,.slice p len cap] S v λy S' v'=>∃e Y,y=.int .i64 ((e:Nat):Int)∧PutE X id len e∧PutS N n m X Y U id len val e v'∧Kp v X.own v':=by
 have AE:=h.b23;have E3:=h.turn;by_cases lq:id<1∨9999<id∨400<len
 .exact λStop c cs hr=>Ur _ id len cap p val lq (by omega) fh hs hg Stop c cs λy S' v' hv ⟨q1,q2⟩=>hr y S' v' hv ⟨1,X,q1,.inl ⟨lq,rfl⟩,⟨(h.kp0 q2).le (by omega) (by omega),rfl,λ_=>Iff.rfl,rfl,rfl⟩,q2.mono λ_ h=>h.elim⟩
 .obtain⟨d,rfl⟩:∃d:Nat,id=(d:Int):=⟨id.toNat,by omega⟩;exact λStop c cs hr=>Zh d len cap p val (by omega) (by omega) (by omega) fh hs hg (by omega) h.b4 h.n14 h.n18 (by omega) h.st h.len Stop c cs λy S' v' hv hq=>by
   dsimp only at hq;by_cases hf:gL X.L X.nb d=true
   .rw[ai hf]at hq;obtain⟨q1,q2⟩:=hq;exact hr y S' v' hv ⟨5,X,q1,.inr ⟨d,rfl,by omega,by omega,by omega,.inl ⟨hf,rfl⟩⟩,⟨(h.kp0 q2).le (by omega) (by omega),rfl,λ_=>Iff.rfl,rfl,rfl⟩,q2.mono λ_ h=>h.elim⟩
   .rw[ah hf]at hq;obtain⟨q1,q2,pp,clock,q3,q4,q5⟩:=hq;have jk:gL X.L X.nb d=false:=by simpa using hf
    exact hr y S' v' hv ⟨0,_,q1,.inr ⟨d,rfl,by omega,by omega,by omega,.inr ⟨jk,rfl⟩⟩,⟨h.put jk q3 q4 q5,rfl,λ_=>Iff.rfl,rfl,rfl⟩,q2⟩
theorem Hs(id:Int)(len cap:Nat)(p:Option Addr)(val:Nat->Nat)(h:Wd N W (n+42) m q x T g v)(hk:k<2)(hs:fA N v p len cap val)(fh:∀i,val i<256)(hl:len<140737488355328)(hm:m<1152921504606846976)(hg:Tryz.prog.globals.size<=v.heap.size)(hN:N<=v.heap.size):aJ Tryz.prog 9 #[.pointer (some ⟨W,0,none⟩),.int .i64 (k:Nat),.int .i64 id,.slice p len cap] S v λy S' v'=>y=.bool true∧∃x' T' g',Wd N W n (m+1) q x' T' g' v'∧Fr N v v':=by
 refine pU Tryz.func9 rfl Tryz.ntmps9 λStop cc cs ret f g0 g1 g2 g3=>?_;have hH:=h.st k hk;have ll:(k:Int)<2:=by omega
 have FM:=hH.tl;have gm:∀b,(x k).own b->b<v.heap.size:=by
  rintro b (rfl|rfl|rfl|⟨d,hd,rfl|rfl⟩)
  .exact(Array.getElem?_eq_some_iff.1 hH.st.row).1
  .obtain⟨cl,hm,_⟩:=hH.st.map;exact(Array.getElem?_eq_some_iff.1 hm).1
  .exact(Array.getElem?_eq_some_iff.1 hH.st.dk.row).1
  .exact(Array.getElem?_eq_some_iff.1 (hH.st.dk.rb d hd)).1
  .exact(Array.getElem?_eq_some_iff.1 (hH.st.dk.ra d hd)).1
 repeat refine rN ?_
 refine rK Tryz.func28 (Ui hs.1 hl) ?_;rintro _ S1 w1 _ ⟨e1,eh,p',gz,rfl,k9⟩;subst S1;obtain⟨bs,AO,es,ns,sc,sk⟩:=h.mem.sC;have sc:=eh.cell sc;have sk:=eh.cell (sk k hk);repeat refine rM sc ?_
 repeat refine rM sk ?_
 refine rK Tryz.func29 (Zg id len gz p' val (hH.kp0 (aS eh)) hl fh k9.slice hm (ak hg eh.size)) ?_;rintro _ S2 w2 _ ⟨e,y,rfl,hPE,⟨NV,y1,y2,y3,y4⟩,iu⟩;have k8:=k9.kp iu gm;have AJ:Kp v (x k).own w2:=((aS eh).mono λ_ h=>h.elim).trans iu;have pj:=hs.kp hH.off AJ;repeat refine rN ?_
 refine rK Tryz.func30 (Xq pj.1 hl k8) ?_;rintro _ S3 w3 _ ⟨rfl,e1,e2⟩;subst S3 w3;repeat refine rN ?_
 refine bF (λd f' S' w=>∃i,d=len-i∧i<=len∧S'=S2∧Kp v (x k).own w∧Ho N n (m+1) y (if e=0 then aZ ⟨id.toNat,len,val⟩ false (T k) else T k) w∧RwX v p' len gz w∧f' 0=.pointer (some ⟨W,0,none⟩)∧f' 1=.int .i64 (k:Nat)∧f' 2=.int .i64 id∧f' 3=.slice p len cap∧f' 9=.slice p' len gz∧f' 10=.int .i64 ((e:Nat):Int)∧f' 11=.bool true∧f' 12=.int .i64 (i:Nat)) len ⟨0,by omega,by omega,rfl,AJ,NV,k8.rw,by simp[g0],by simp[g1],by simp[g2],by simp[g3],by simp,by simp,by simp,by simp⟩ ?_;clear g0 g1 g2 g3 f k9 k8 NV AJ pj iu sc sk;rintro d f S' w ⟨i,rfl,hi,eS,rp,hy,hR,g0,g1,g2,g3,g9,g10,g11,g12⟩ dj;subst S';repeat refine rN ?_
 by_cases dp:i<len
 .have pd:(i:Int)<(len:Int):=by omega
  obtain⟨RB,cur,r1,r2,r3,r4,r5⟩:∃RB cur,p'=some ⟨RB,0,none⟩∧v.heap.size<=RB∧w.heap[RB]?=some (.cells cur 5)∧cur.size=gz∧len<gz:=by
   rcases hR with⟨_,h⟩|h
   .omega
   .exact h
  subst r1;refine rX (by simp[Act.eval,pd,dp]) ?_;repeat refine rN ?_
  refine dQ aB rfl rfl (by kernel_rfl) (x:=.tmp 37) (y:=.const (.int .u8 77)) (g:=RB) (j:=i) (z:=.int .u8 77) rfl (by simp) rfl rfl rfl r3 (by omega) (by kernel_rfl) λw4 hW=>?_;simp only[stO_none];repeat refine rN ?_
  refine dj _ _ _ (len-(i+1)) (by omega) ⟨i+1,rfl,by omega,rfl,rp.new (fO hW) λb hb=>.inl (by rw[hb];exact r2),hy.kpB r3 (by decide) (fO hW),.inr ⟨RB,_,rfl,r2,hW.at_,by simpa using r4,r5⟩,by simp[g0],by simp[g1],by simp[g2],by simp[g3],by simp[g9],by simp[g10],by simp[g11],by simp⟩
 obtain rfl:i=len:=by omega
 clear dj;refine rZ (by simp[Act.eval,g12,g9]) ?_;refine bC rfl ?_;obtain⟨a1,a2,a3⟩:=h.act (n':=n) (m':=m+1) hk (by omega) (by omega) rp hy y1 y2 y3;have pw:Fr N v w:=.of hH.off rp;rcases hPE with⟨lq,rfl⟩|⟨d,rfl,d1,d2,d3,hc⟩
 .
  have ij:Wd N W n (m+1) q (cR x k y) T g w:=⟨a1,λj hj=>by
   have:=a2 j hj;rw[ah (by decide)]at this
   rwa [Dg]at this,a3,h.cnt⟩
  by_cases h1:id<1
  .skip;repeat refine rN ?_
   refine rX (by simp[Act.eval]) ?_;repeat refine rN ?_
   refine aM λtodo=>?_;refine ret _ _ S2 w (.bool true) ?_ ⟨rfl,_,_,_,ij,pw⟩;simp[results,Tryz.results9]
  .by_cases h2:9999<id
   .skip;repeat refine rN ?_
    refine rX (by simp[Act.eval]) ?_;repeat refine rN ?_
    refine aM λtodo=>?_;refine ret _ _ S2 w (.bool true) ?_ ⟨rfl,_,_,_,ij,pw⟩;simp[results,Tryz.results9]
   .have h3:400<i:=by omega
    have h3I:(400:Int)<(i:Int):=by omega
    repeat refine rN ?_
    refine rX (by simp[Act.eval,h3I,h3]) ?_;repeat refine rN ?_
    refine aM λtodo=>?_;refine ret _ _ S2 w (.bool true) ?_ ⟨rfl,_,_,_,ij,pw⟩;simp[results,Tryz.results9]
 .have i1:¬((d:Nat):Int)<1:=by omega
  have i2:¬(9999:Int)<((d:Nat):Int):=by omega
  have i3:¬(400:Int)<((i:Nat):Int):=by omega
  obtain⟨bl,cl,cur,el,ml,lc,uk,hcs2,lk⟩:=a1.lC;have lk:=lk k hk;obtain⟨Q,qq,hQ⟩:=a1.k k hk;obtain⟨pv,cv,tg⟩:=hQ.form;have HQ:Hid (Q.length=(T k).length):=aP (by rw[<-qq,bz]);rw[tg]at lk;have YG:Q.length<=21:=by rw[HQ.out];exact FM
  generalize LL:Q.length=ql at *
  repeat refine rN ?_
  refine rZ (by simp[Act.eval,i1,i2,i3]) ?_;repeat refine rM lc ?_
  repeat refine rM lk ?_
  repeat refine rM lc ?_
  repeat refine rM lk ?_
  refine rK Tryz.func31 (mQ N (T k) (.slice pv ql cv) ((d:Nat):Int) (by rw[<-tg];exact a1.k k hk) (by omega)) ?_;rintro yf S3 w3 _ ⟨e1,e2,IV⟩;subst S3 w3;have za:(∃i0:Nat,yf=.int .i64 (i0:Nat)∧(aQ d (x k).L 0).isSome=true)∨(yf=.int .i64 (-1)∧(aQ d (x k).L 0).isSome=false):=by
   rcases IV with⟨i0,t,q1,q2,q3⟩|⟨q1,q2⟩
   .obtain⟨kk,e',q4,_⟩:=hH.rep.some (al q2) (show t.id=d by omega);exact .inl ⟨i0,q1,by rw[q4];rfl⟩
   .exact .inr ⟨q1,by rw[hH.rep.none λt ht e=>q2 t ht (by omega)];rfl⟩
  have my:gL (x k).L (x k).nb d=decide ((x k).nb-2<=ql-(if (aQ d (x k).L 0).isSome then 1 else 0)):=by unfold gL;rw[<-hH.tlen,<-HQ.out]
  have me:(aQ d (x k).L 0).isSome=true->1<=ql:=λhb=>by
   rw[HQ.out,hH.tlen];cases hq:aQ d (x k).L 0 with
   |none=>rw[hq]at hb;cases hb
   |some q=>obtain⟨j,_,hj,_⟩:=eJ (e:=q.2) (j:=q.1) hq;have:=(List.getElem?_eq_some_iff.1 hj).1;omega
  clear IV;generalize OR:(aQ d (x k).L 0).isSome=fb at za my me;have kl:=hH.b4;have AE:=hH.b23;refine uO (λf' S' w'=>S'=S2∧w'=w∧f' 71=.bool fb∧f' 0=.pointer (some ⟨W,0,none⟩)∧f' 1=.int .i64 (k:Nat)∧f' 2=.int .i64 ((d:Nat):Int)∧f' 3=.slice p i cap∧f' 10=.int .i64 ((e:Nat):Int)∧f' 11=.bool true∧f' 13=.int .i64 (ql:Nat)) ?_ ?_
  .intro next
   rcases za with⟨i0,rfl,rfl⟩|⟨rfl,rfl⟩
   .skip;repeat refine rN ?_
    refine next _ _ _ ⟨rfl,rfl,by simp,by simp[g0],by simp[g1],by simp[g2],by simp[g3],by simp[g10],by simp[g11],by simp⟩
   .skip;repeat refine rN ?_
    refine next _ _ _ ⟨rfl,rfl,by simp,by simp[g0],by simp[g1],by simp[g2],by simp[g3],by simp[g10],by simp[g11],by simp⟩
  clear za g0 g1 g2 g3 g9 g10 g11 g12 f;rintro f S' w' ⟨eS,eW,u_,g0,g1,g2,g3,g10,g11,g13⟩;subst S' w';refine uO (λf' S' w'=>S'=S2∧w'=w∧f' 0=.pointer (some ⟨W,0,none⟩)∧f' 1=.int .i64 (k:Nat)∧f' 2=.int .i64 ((d:Nat):Int)∧f' 3=.slice p i cap∧f' 10=.int .i64 ((e:Nat):Int)∧f' 11=.bool true∧f' 13=.int .i64 ((ql-(if fb then 1 else 0):Nat):Int)) ?_ ?_
  .intro next
   cases fb with
   |true=>
    have h1:=me rfl;have GC:((ql-1:Nat):Int)=(ql:Int)-1:=by omega
    refine rX (by simp[Act.eval,u_]) ?_;refine rR ?_;simp only[tO,Nat.reduceAdd];refine rY aB ?_;refine rY aB ?_;refine rY aB ?_;refine rE ?_;refine next _ _ _ ⟨rfl,rfl,by simp[g0],by simp[g1],by simp[g2],by simp[g3],by simp[g10],by simp[g11],by simp[GC]⟩
   |false=>refine rZ (by simp[Act.eval,u_]) ?_;refine wG ?_;refine next _ _ _ ⟨rfl,rfl,g0,g1,g2,g3,g10,g11,by simpa using g13⟩
  clear u_ g0 g1 g2 g3 g10 g11 g13 f;rintro f S' w' ⟨eS,eW,g0,g1,g2,g3,g10,g11,g13⟩;subst S' w';have Z8:ql-(if fb then 1 else 0)<=21:=by omega
  refine Un d i cap e _ p val h hk hs hN d2 d3 rp y3 a1 a2 a3 my Z8 hc g0 g1 g2 g3 g10 g11 g13 λf' todo S' v' r8 hP=>?_;refine ret _ _ S' v' (.bool true) ?_ ⟨rfl,hP⟩;simp[results,Tryz.results9,r8]
end
