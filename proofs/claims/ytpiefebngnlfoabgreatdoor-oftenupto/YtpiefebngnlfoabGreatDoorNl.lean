import Derived.Test.YtpiefebngnlfoabGreatDoorNk
set_option maxRecDepth 99999
set_option maxHeartbeats 0
set_option linter.unusedVariables false
set_option linter.unusedSimpArgs false
namespace Go.Proofs.YtpiefebngnlfoabGreatDoor
open Go.RowKit Go.Conc Go.Vw
structure Wt where
 d:Nat
 p:Nat
 b:Nat->Nat
def app(c:Nat->Nat->Nat->Nat):List Wt->Nat->Nat->Nat->Nat
 |[]=>c
 |x :: W=>app (aX c x.d x.p x.b) W
def Dsk.wrs(s:Dsk):List Wt->Dsk
 |[]=>s
 |x :: W=>(s.wr x.d x.p x.b).wrs W
theorem qK:∀ (V W:List Wt) (c:Nat->Nat->Nat->Nat),app c (V++W)=app (app c V) W
 |[],_,_=>rfl
 |x :: V,W,c=>qK V W _
theorem mD:∀ (V W:List Wt) (s:Dsk),s.wrs (V++W)=(s.wrs V).wrs W
 |[],_,_=>rfl
 |x :: V,W,s=>mD V W _
theorem fX:∀ (W:List Wt) (s:Dsk),s.wrs W=⟨app s.c W,app s.a (W.take s.left),s.left - W.length⟩
 |[],s=>by
  rw[List.take_nil];rfl
 |x :: W,s=>by
  show(s.wr x.d x.p x.b).wrs W=_;rw[fX W];obtain⟨c,a,l⟩:=s;cases l with
  |zero=>
   show Dsk.mk (app (aX c x.d x.p x.b) W) (app (if 0<0 then aX a x.d x.p x.b else a) (W.take (0 - 1))) (0 - 1 - W.length)=_;rw[if_neg (by omega),show 0 - 1=0 from rfl,List.take_zero,List.take_zero,Nat.zero_sub,Nat.zero_sub];rfl
  |succ n=>
   show Dsk.mk (app (aX c x.d x.p x.b) W) (app (if 0<n+1 then aX a x.d x.p x.b else a) (W.take (n+1 - 1))) (n+1 - 1 - W.length)=_;rw[if_pos (by omega),show n+1 - 1=n by omega,List.take_succ_cons,List.length_cons,show n+1 - (W.length+1)=n - W.length by omega];rfl
theorem zN:∀ (W:List Wt) (c:Nat->Nat->Nat->Nat) {d p:Nat},(∀ x∈W,¬(x.d=d∧x.p=p))->app c W d p=c d p
 |[],_,_,_,_=>rfl
 |x :: W,c,d,p,h=>by
  show app (aX c x.d x.p x.b) W d p=_;rw[zN W _ fun y hy=>h y (List.mem_cons_of_mem _ hy)]
  funext i;unfold aX;rw[if_neg fun q=>h x (List.mem_cons_self ..) ⟨q.1.symm,q.2.symm⟩]
def zB:Nat->Nat:=fun _=>0
def jF(c:Nat->Nat->Nat->Nat)(p:Nat)(good:Nat->Bool)(last:Bool):Nat->List Wt
 |0=>[]
 |k+1=>jF c p good last k++if good k=last∧cV (c k p) zB 0 96=false then [⟨k,p,zB⟩] else []
theorem yE{s:Dsk}{p:Nat}{good:Nat->Bool}{last:Bool}{d:Nat} : ∀ n,(good d≠last∨n<=d)->(blk1 s p good last n).c d p=s.c d p
 |0,_=>rfl
 |n+1,h=>by
  have ih:=yE (s:=s) (p:=p) n (h.imp id fun q=>by omega)
  unfold blk1;split
  .rename_i hq;rw[<-ih];funext i;show aX (blk1 s p good last n).c n p (fun _=>0) d p i=_;unfold aX;rw[if_neg];rintro⟨rfl,_⟩;rcases h with h|h
   .exact h hq.1
   .omega
  .exact ih
theorem uS{s:Dsk}{p:Nat}{good:Nat->Bool}{last:Bool} : ∀ n,blk1 s p good last n=s.wrs (jF s.c p good last n)
 |0=>rfl
 |n+1=>by
  unfold blk1 jF;rw[yE n (.inr (Nat.le_refl n))];show(if good n=last∧cV (s.c n p) zB 0 96=false then _ else _)=_;split
  .rw[mD,<-uS n];rfl
  .rw[List.append_nil,uS n]
theorem tY{c c':Nat->Nat->Nat->Nat}{p:Nat}{good:Nat->Bool}{last:Bool} : ∀ n,(∀ k,k<n->good k=last->c k p=c' k p)->jF c p good last n=jF c' p good last n
 |0,_=>rfl
 |n+1,h=>by
  unfold jF;rw[tY n fun k hk=>h k (by omega)]
  by_cases q:good n=last
  .rw[h n (by omega) q]
  .rw[if_neg fun r=>q r.1,if_neg fun r=>q r.1]
def iJ(c:Nat->Nat->Nat->Nat)(p:Nat)(good:Nat->Bool):List Wt:=jF c p good false 14++jF c p good true 14
theorem tZ{s:Dsk}{p:Nat}{good:Nat->Bool} : gA s p good=s.wrs (iJ s.c p good):=by
 unfold gA iJ;rw[uS,mD,tY (c':=s.c) 14 fun k _ hg=>yE 14 (.inl (by rw[hg];decide)),<-uS]
theorem Bm{c c':Nat->Nat->Nat->Nat}{p:Nat}{good:Nat->Bool}(h:∀ k,k<14->c k p=c' k p):iJ c p good=iJ c' p good:=by
 unfold iJ;rw[tY 14 fun k hk _=>h k hk,tY 14 fun k hk _=>h k hk]
def fJ(p:Nat)(B:Nat->Nat->Nat):Nat->List Wt
 |0=>[]
 |n+1=>fJ p B n++[⟨n,p,B n⟩]
theorem yO{s:Dsk}{p:Nat}{B:Nat->Nat->Nat} : ∀ n,jP s p B n=s.wrs (fJ p B n)
 |0=>rfl
 |n+1=>by
  unfold jP fJ;rw[mD,<-yO n];rfl
def Ak(id size turn:Nat)(val:Nat->Nat)(k:Nat):Nat->Nat:=aU id size turn k ((size+9) / 10) (bD val size k)
def pI(c:Nat->Nat->Nat->Nat)(L:List Ent)(p id size turn:Nat)(val:Nat->Nat):List Wt:=
 fJ p (Ak id size turn val) 14++match aL id L 0 with
  |some (_,old)=>iJ c old.slot old.good
  |none=>[]
theorem Gb{s:Dsk}{L:List Ent}{p id size turn:Nat}{val:Nat->Nat}(hp:∀ e∈L,e.slot≠p):jD s L p id size turn val=s.wrs (pI s.c L p id size turn val):=by
 unfold jD pI;cases h:aL id L 0 with
 |none=>
  rw[List.append_nil];exact yO 14
 |some q=>
  obtain⟨n,old⟩:=q;obtain⟨m,h1,h2,h3⟩:=dL h;show gA (jP s p (Ak id size turn val) 14) old.slot old.good=_;rw[tZ,mD,<-yO,Bm fun k hk=>?_]
  funext i;rw[sC,if_neg fun q=>hp old (List.mem_of_getElem? h2) q.1]
def fF(c:Nat->Nat->Nat->Nat)(t:Nat->Bool):Nat->List Wt
 |0=>[]
 |p+1=>fF c t p++if t p=true then [] else iJ c p fun _=>false
theorem Ed{s:Dsk}{t:Nat->Bool}{d q:Nat} : ∀ n,n<=q->(cD s t n).c d q=s.c d q
 |0,_=>rfl
 |n+1,h=>by
  have ih:=Ed (s:=s) (t:=t) (d:=d) (q:=q) n (by omega);unfold cD;split
  .exact ih
  .rw[kL (by omega)];exact ih
theorem qC{s:Dsk}{t:Nat->Bool} : ∀ n,cD s t n=s.wrs (fF s.c t n)
 |0=>rfl
 |n+1=>by
  unfold cD fF;split
  .rw[List.append_nil];exact qC n
  .rw[tZ,mD,<-qC n,Bm fun k _=>Ed n (Nat.le_refl n)]
theorem Be{c:Nat->Nat->Nat->Nat}{t t':Nat->Bool} : ∀ n,(∀ p,p<n->t p=t' p)->fF c t n=fF c t' n
 |0,_=>rfl
 |n+1,h=>by
  unfold fF;rw[Be n fun p hp=>h p (by omega),h n (by omega)]
def Ent.bare(e:Ent):Ent:={e with born:=0}
def Tw(L L':List Ent):Prop:=∀ x,x∈L.map Ent.bare↔x∈L'.map Ent.bare
theorem Tw.symm{L L':List Ent}(h:Tw L L'):Tw L' L:=fun x=>(h x).symm
theorem Tw.get{L L':List Ent}(h:Tw L L'){e:Ent}(he:e∈L):∃ e'∈L',e'.bare=e.bare:=List.mem_map.1 ((h e.bare).1 (List.mem_map.2 ⟨e,he,rfl⟩))
theorem Tw.of{L L':List Ent}(h1:∀ e∈L,∃ e'∈L',e'.bare=e.bare)(h2:∀ e∈L',∃ e'∈L,e'.bare=e.bare):Tw L L':=fun x=>by
 constructor
 .intro hx;obtain⟨e,he,rfl⟩:=List.mem_map.1 hx;obtain⟨e',q1,q2⟩:=h1 e he;exact List.mem_map.2 ⟨e',q1,q2⟩
 .intro hx;obtain⟨e,he,rfl⟩:=List.mem_map.1 hx;obtain⟨e',q1,q2⟩:=h2 e he;exact List.mem_map.2 ⟨e',q1,q2⟩
theorem fA{e e':Ent}(h:e'.bare=e.bare):e'.id=e.id∧e'.size=e.size∧e'.turn=e.turn∧e'.slot=e.slot∧e'.val=e.val∧e'.good=e.good:=by
 have h':Ent.mk e'.id e'.size e'.turn e'.slot e'.val e'.good 0=Ent.mk e.id e.size e.turn e.slot e.val e.good 0:=h;simpa using h'
theorem Tw.find{L L':List Ent}(h:Tw L L')(hn':(L'.map (·.id)).Nodup){id n:Nat}{e:Ent}(hf:aL id L 0=some (n,e)):∃ n' e',aL id L' 0=some (n',e')∧e'.bare=e.bare:=by
 obtain⟨m,h1,h2,h3⟩:=dL hf;obtain⟨e',q1,q2⟩:=h.get (List.mem_of_getElem? h2);obtain⟨n',q3⟩:=uI hn' q1;rw[(fA q2).1,h3]at q3;exact⟨n',e',q3,q2⟩
theorem Tw.findN{L L':List Ent}(h:Tw L L')(hn:(L.map (·.id)).Nodup){id:Nat}(hf:aL id L 0=none):aL id L' 0=none:=by
 cases q:aL id L' 0 with
 |none=>rfl
 |some x=>
  obtain⟨n',e',h1,_⟩:=h.symm.find hn (show aL id L' 0=some (x.1,x.2) from q);rw[hf]at h1;cases h1
theorem Tw.len{L L':List Ent}(h:Tw L L')(hn:(L.map (·.id)).Nodup)(hn':(L'.map (·.id)).Nodup):L.length=L'.length:=by
 have key:∀ {A B:List Ent},Tw A B->(A.map (·.id)).Nodup->A.length<=B.length:=fun {A B} hT hA=>by
  have:=oB (l:=A.map (·.id)) (m:=B.map (·.id)) hA fun x hx=>by
   obtain⟨e,he,rfl⟩:=List.mem_map.1 hx;obtain⟨e',q1,q2⟩:=hT.get he;exact List.mem_map.2 ⟨e',q1,(fA q2).1⟩
  rwa [List.length_map,List.length_map]at this
 exact Nat.le_antisymm (key h hn) (key h.symm hn')
theorem Tw.full{L L':List Ent}(h:Tw L L')(hn:(L.map (·.id)).Nodup)(hn':(L'.map (·.id)).Nodup)(nb id:Nat):gQ L nb id=gQ L' nb id:=by
 unfold gQ;rw[h.len hn hn'];cases q:aL id L 0 with
 |none=>rw[h.findN hn q]
 |some x=>
  obtain⟨n',e',h1,_⟩:=h.find hn' (show aL id L 0=some (x.1,x.2) from q);rw[h1];rfl
theorem Tw.free{L L':List Ent}(h:Tw L L'){nb p p':Nat}(hp:lT L nb p)(hp':lT L' nb p'):p=p':=by
 have key:∀ {A B:List Ent} {a b:Nat},Tw A B->lT A nb a->lT B nb b->¬a<b:=fun {A B a b} hT hA hB hlt=>by
  obtain⟨e,he,q⟩:=hB.2.2 a hlt;obtain⟨e',q1,q2⟩:=hT.symm.get he;exact hA.2.1 e' q1 ((fA q2).2.2.2.1.trans q)
 have h1:=key h hp hp';have h2:=key h.symm hp' hp;omega
theorem Tw.tak{L L':List Ent}(h:Tw L L')(p:Nat):aS L p=aS L' p:=by
 have key:∀ {A B:List Ent},Tw A B->aS A p=true->aS B p=true:=fun {A B} hT hA=>by
  obtain⟨e,he,q⟩:=eE.1 hA;obtain⟨e',q1,q2⟩:=hT.get he;exact eE.2 ⟨e',q1,(fA q2).2.2.2.1.trans q⟩
 cases h1:aS L p with
 |true=>exact(key h h1).symm
 |false=>
  cases h2:aS L' p with
  |false=>rfl
  |true=>rw[key h.symm h2]at h1;cases h1
theorem Tw.put{L L':List Ent}(h:Tw L L'){e:Ent}{c c':Nat}(hP:PutOk L e c)(hP':PutOk L' e c'):Tw (bQ L e c) (bQ L' e c'):=by
 have key:∀ {A B:List Ent} {a b:Nat},Tw A B->PutOk A e a->PutOk B e b->∀ x∈bQ A e a,∃ y∈bQ B e b,y.bare=x.bare:=fun {A B a b} hT hA hB x hx=>by
  rcases hA.mem x hx with⟨b',rfl⟩|⟨q1,q2⟩
  .obtain⟨b',hb⟩:=hB.has;exact⟨_,hb,rfl⟩
  .obtain⟨y,q3,q4⟩:=hT.get q1;exact⟨y,qQ q3 (by rw[(fA q4).1];exact q2),q4⟩
 exact Tw.of (key h hP hP') (key h.symm hP' hP)
theorem Tw.del{L L':List Ent}(h:Tw L L')(hn:(L.map (·.id)).Nodup)(hn':(L'.map (·.id)).Nodup){id n:Nat}{e:Ent}(hf:aL id L 0=some (n,e)):Tw (eY L id) (eY L' id):=by
 obtain⟨n',e',hf',_⟩:=h.find hn' hf;refine Tw.of (fun x hx=>?_) fun x hx=>?_
 .obtain⟨q1,q2⟩:=(lH hn hf).1 hx;obtain⟨y,q3,q4⟩:=h.get q1;exact⟨y,(lH hn' hf').2 ⟨q3,by rw[(fA q4).1];exact q2⟩,q4⟩
 .obtain⟨q1,q2⟩:=(lH hn' hf').1 hx;obtain⟨y,q3,q4⟩:=h.symm.get q1;exact⟨y,(lH hn hf).2 ⟨q3,by rw[(fA q4).1];exact q2⟩,q4⟩
def Wk(nb:Nat)(c:Nat->Nat->Nat->Nat)(L:List Ent)(turn:Nat)(a:Ac)(W:List Wt):Prop:=
 W=[]∨(∃ n e,a.gone=true∧aL (aQ a.c) L 0=some (n,e)∧W=iJ c e.slot e.good)∨(a.gone=false∧gQ L nb (aQ a.c)=false∧∃ p,lT L nb p∧W=pI c L p (aQ a.c) (min a.len 400) (turn+1) a.val)
theorem dK.twin{nb turn err err' t t':Nat}{s1 s2 s1' s2':Dsk}{L1 L2 L1' L2':List Ent}{a:Ac}(hc:s1.c=s2.c)(hT:Tw L1 L2)(hn1:(L1.map (·.id)).Nodup)(hn2:(L2.map (·.id)).Nodup)(h1:dK nb s1 L1 turn a err s1' L1' t)(h2:dK nb s2 L2 turn a err' s2' L2' t') :
  err=err'∧t=t'∧Tw L1' L2'∧∃ W,s1'=s1.wrs W∧s2'=s2.wrs W∧Wk nb s1.c L1 turn a W:=by
 unfold dK at h1 h2;by_cases hg:a.gone=true
 .rw[if_pos hg]at h1 h2;cases hf:aL (aQ a.c) L1 0 with
  |none=>
   rw[hf]at h1;rw[hT.findN hn1 hf]at h2;obtain⟨rfl,rfl,rfl,rfl⟩:=h1;obtain⟨rfl,rfl,rfl,rfl⟩:=h2;exact⟨rfl,rfl,hT,[],rfl,rfl,.inl rfl⟩
  |some q=>
   obtain⟨n,e⟩:=q;obtain⟨n',e',hf',hb⟩:=hT.find hn2 hf;rw[hf]at h1;rw[hf']at h2;obtain⟨rfl,rfl,rfl,rfl⟩:=h1;obtain⟨rfl,rfl,rfl,rfl⟩:=h2;obtain⟨_,_,_,b4,_,b6⟩:=fA hb;refine⟨rfl,rfl,hT.del hn1 hn2 hf,iJ s1.c e.slot e.good,tZ,?_,.inr (.inl ⟨n,e,hg,hf,rfl⟩)⟩;show gA s2 e'.slot e'.good=_;rw[b4,b6,hc];exact tZ
 .rw[if_neg hg]at h1 h2;rw[<-hT.full hn1 hn2]at h2;by_cases hf:gQ L1 nb (aQ a.c)=true
  .rw[if_pos hf]at h1 h2;obtain⟨rfl,rfl,rfl,rfl⟩:=h1;obtain⟨rfl,rfl,rfl,rfl⟩:=h2;exact⟨rfl,rfl,hT,[],rfl,rfl,.inl rfl⟩
  .rw[if_neg hf]at h1 h2;obtain⟨rfl,rfl,p,c,hF,hP,rfl,rfl⟩:=h1;obtain⟨rfl,rfl,p',c',hF',hP',rfl,rfl⟩:=h2;obtain rfl:=hT.free hF hF';refine⟨rfl,rfl,hT.put hP hP',_,Gb hF.2.1,?_,.inr (.inr ⟨by simpa using hg,by simpa using hf,p,hF,rfl⟩)⟩;rw[Gb hF'.2.1];congr 1;unfold pI;rw[hc];cases hf:aL (aQ a.c) L1 0 with
   |none=>rw[hT.findN hn1 hf]
   |some q=>
    obtain⟨n,e⟩:=q;obtain⟨n',e',hf',hb⟩:=hT.find hn2 hf;obtain⟨_,_,_,b4,_,b6⟩:=fA hb;rw[hf'];show _++iJ s2.c e'.slot e'.good=_++iJ s2.c e.slot e.good;rw[b4,b6]
theorem eZ.twin{lf:Nat->Lb}{Gf:Nat->Nat->Bool} : ∀ {q:Nat} {L L':List Ent} {t t':Nat},eZ lf Gf q L t->eZ lf Gf q L' t'->(L.map (·.id)).Nodup->(L'.map (·.id)).Nodup->Tw L L'∧t=t'
 |0,L,L',t,t',h,h',_,_=>by
  obtain⟨rfl,rfl⟩:=h;obtain⟨rfl,rfl⟩:=h';exact⟨fun _=>Iff.rfl,rfl⟩
 |q+1,L',M',t',u',⟨L,t,h1,h2⟩,⟨M,u,h3,h4⟩,n1,n2=>by
  have nod:∀ {A B:List Ent} {a b:Nat},eZ lf Gf q A a->Sv A a q (lf q) (Gf q) B b->(B.map (·.id)).Nodup->(A.map (·.id)).Nodup:=fun {A B a b} _ hS hB=>by
   unfold Sv at hS;split at hS
   .obtain⟨_,hS⟩:=hS;split at hS
    .obtain⟨c,hP,rfl⟩:=hS;rw[hP.ids]at hB;split at hB
     .exact hB
     .exact(List.nodup_append.1 hB).1
    .rw[hS]at hB;exact hB
   .rw[hS.2]at hB;exact hB
  have m1:=nod h1 h2 n1;have m2:=nod h3 h4 n2;obtain⟨hT,rfl⟩:=eZ.twin h1 h3 m1 m2;have htk:fP L (lf q) (Gf q)=fP M (lf q) (Gf q):=by
   unfold fP;cases hf:aL (lf q).id L 0 with
   |none=>rw[hT.findN m1 hf]
   |some x=>
    obtain⟨n',e',hf',hb⟩:=hT.find m2 (show aL (lf q).id L 0=some (x.1,x.2) from hf);rw[hf'];show _=(_&&decide (e'.turn<_));rw[(fA hb).2.2.1]
  unfold Sv at h2 h4;by_cases ha:dU (Gf q) 14=true
  .rw[if_pos ha]at h2 h4;obtain⟨rfl,h2⟩:=h2;obtain⟨rfl,h4⟩:=h4;rw[<-htk]at h4;by_cases hk:fP L (lf q) (Gf q)=true
   .rw[if_pos hk]at h2 h4;obtain⟨c,hP,rfl⟩:=h2;obtain⟨c',hP',rfl⟩:=h4;exact⟨hT.put hP hP',rfl⟩
   .rw[if_neg hk]at h2 h4;rw[h2,h4];exact⟨hT,rfl⟩
  .rw[if_neg ha]at h2 h4;rw[h2.1,h2.2,h4.1,h4.2];exact⟨hT,rfl⟩
theorem qE:∀ {n:Nat} {x y:Nat->Nat},(∀ i,i<n->x i=y i)->bY x n=bY y n
 |0,_,_,_=>rfl
 |n+1,x,y,h=>by
  unfold bY;rw[h 0 (by omega),qE (x:=fun i=>x (i+1)) (y:=fun i=>y (i+1)) fun i hi=>h (i+1) (by omega)]
theorem Lq{id size turn k m:Nat}{p q:Nat->Nat}(h:∀ i,i<m->p i=q i):aU id size turn k m p=aU id size turn k m q:=by
 have e:eD id size turn k m p=eD id size turn k m q:=by
  funext i;unfold eD;split
  .exact h _ (by omega)
  .rfl
 unfold aU;rw[e]
theorem gC.congr{x y:Nat->Nat}(h:∀ i,i<96->x i=y i)(hx:gC x):gC y:=by
 unfold gC at hx ⊢;rw[qE (x:=x) (y:=y) fun i hi=>h i (by omega),qE (x:=fun i=>x (2+i)) (y:=fun i=>y (2+i)) fun i hi=>h _ (by omega),qE (x:=fun i=>x (4+i)) (y:=fun i=>y (4+i)) fun i hi=>h _ (by omega),qE (x:=fun i=>x (5+i)) (y:=fun i=>y (5+i)) fun i hi=>h _ (by omega)]at hx
 obtain⟨h1,h2,h3,h4,h5⟩:=hx;refine⟨h1,h2,h3,h4,fun j hj=>?_⟩
 rw[<-h j hj,<-h5 j hj];exact congrFun (Lq fun i hi=>(h (13+i) (by omega)).symm) j
theorem SlotK.congr{c c':Nat->Nat->Nat->Nat}{p:Nat}{l:Lb}{G:Nat->Bool}(h:SlotK c p l G)(hc:∀ k,k<14->∀ i,i<96->c' k p i=c k p i):SlotK c' p l G:=
 ⟨h.ok,fun k hk hg j hj=>by rw[hc k hk j hj];exact h.yes k hk hg j hj,fun k hk hg hs=>h.no k hk hg (hs.congr fun i hi=>hc k hk i hi)⟩
def Lb.it(l:Lb):It:=⟨l.id,l.size,l.val⟩
structure MidW(nb m:Nat)(c:Nat->Nat->Nat->Nat)(T:List It)(lb:Nat->Lb)(G:Nat->Nat->Bool)(E:Nat->Bool):Prop where
 byte:∀ d p i,c d p i<256
 slot:∀ p,p<nb->SlotK c p (lb p) (G p)
 ten:∀ p,p<nb->E p=true->10<=aE (G p) 14
 one:∀ p q,p<nb->q<nb->E p=true->E q=true->(lb p).id=(lb q).id->p=q
 max:∀ p,p<nb->E p=false->10<=aE (G p) 14->∃ q,q<nb∧E q=true∧(lb q).id=(lb p).id∧(lb p).turn<(lb q).turn
 turn:∀ p,p<nb->dU (G p) 14=true->(lb p).turn<=m
 few:∀ p,p<nb->E p=true->(lb p).id∈[1,301,1201,2701,4801,7501]
 rep:∀ x,x∈T↔∃ p,p<nb∧E p=true∧(lb p).it=x
 srt:iY T
 len:T.length<=nb - 2
def dQ(nb m:Nat)(c:Nat->Nat->Nat->Nat)(T:List It):Prop:=∃ lb G E,MidW nb m c T lb G E
theorem dQ.le{nb m m':Nat}{c:Nat->Nat->Nat->Nat}{T:List It}(h:dQ nb m c T)(hm:m<=m'):dQ nb m' c T:=by
 obtain⟨lb,G,E,h⟩:=h;exact⟨lb,G,E,h.byte,h.slot,h.ten,h.one,h.max,fun p hp ha=>Nat.le_trans (h.turn p hp ha) hm,h.few,h.rep,h.srt,h.len⟩
theorem dQ.texts{nb m wr:Nat}{c:Nat->Nat->Nat->Nat}{T:List It}(h:dQ nb m c T):dQ nb m (aR (fun d=>cC nb (c d)) wr).c T:=by
 obtain⟨lb,G,E,h⟩:=h;refine⟨lb,G,E,fun d p i=>sD _ _,fun p hp=>(h.slot p hp).congr fun k hk i hi=>?_,h.ten,h.one,h.max,h.turn,h.few,h.rep,h.srt,h.len⟩
 have:(p+1)*96<=nb*96:=Nat.mul_le_mul_right _ hp;show bI (cC nb (c k)) (p*96+i)=_;rw[uV (fun q j=>h.byte k q j) (by omega)];show c k ((p*96+i) / 96) ((p*96+i) % 96)=_;rw[show(p*96+i) / 96=p by omega,show(p*96+i) % 96=i by omega]
theorem zO{G:Nat->Bool} : ∀ {n:Nat},dU G n=false->aE G n=0
 |0,_=>rfl
 |n+1,h=>by
  rw[yH]at h;simp only[Bool.or_eq_false_iff]at h;rw[jU,zO h.1,h.2];rfl
theorem yX{G H:Nat->Bool}{n:Nat}(h:∀ k,G k=true->H k=true)(ha:dU G n=true):dU H n=true:=by
 unfold dU at ha ⊢;obtain⟨k,q1,q2⟩:=List.any_eq_true.1 ha;exact List.any_eq_true.2 ⟨k,q1,h k q2⟩
theorem Fq{lb:Nat->Lb}{G:Nat->Nat->Bool} : ∀ {q:Nat} {L:List Ent} {t:Nat},eZ lb G q L t->
  (∀ e∈L,∃ p,p<q∧e.bare=(lb p).ent p (aM (G p) 14)∧10<=aE (G p) 14∧∀ p',p'<q->10<=aE (G p') 14->(lb p').id=(lb p).id->(lb p').turn<=(lb p).turn)∧
  (∀ p,p<q->10<=aE (G p) 14->∃ e∈L,e.id=(lb p).id)∧(∀ m,(∀ p,p<q->dU (G p) 14=true->(lb p).turn<=m)->t<=m)
 |0,L,t,h=>by
  obtain⟨rfl,rfl⟩:=h;exact⟨fun e he=>(by cases he),fun p hp=>(by omega),fun m _=>Nat.zero_le _⟩
 |q+1,L',t',⟨L,t,h1,h2⟩=>by
  obtain⟨i1,i2,i3⟩:=Fq h1;unfold Sv at h2;cases ha:dU (G q) 14 with
  |false=>
   rw[if_neg (by rw[ha];decide)]at h2;obtain⟨rfl,rfl⟩:=h2;have h0:=zO ha;refine⟨fun e he=>?_,fun p hp h10=>?_,fun m hm=>i3 m fun p hp=>hm p (by omega)⟩
   .obtain⟨p,q1,q2,q3,q4⟩:=i1 e he;refine⟨p,by omega,q2,q3,fun p' hp' h10=>?_⟩
    have:p'≠q:=fun e=>by subst e;omega
    exact q4 p' (by omega) h10
   .have:p≠q:=fun e=>by subst e;omega
    exact i2 p (by omega) h10
  |true=>
   rw[if_pos ha]at h2;obtain⟨rfl,h2⟩:=h2;have ht:∀ m,(∀ p,p<q+1->dU (G p) 14=true->(lb p).turn<=m)->max t (lb q).turn<=m:=fun m hm=>Nat.max_le.2 ⟨i3 m fun p hp=>hm p (by omega),hm q (by omega) ha⟩
   cases hk:fP L (lb q) (G q) with
   |true=>
    rw[if_pos hk]at h2;obtain⟨clock,hP,rfl⟩:=h2;unfold fP at hk;rw[Bool.and_eq_true]at hk;obtain⟨k1,k2⟩:=hk;have k1:=of_decide_eq_true k1;rw[uQ _ _ _ (Nat.le_refl _)]at k1;refine⟨fun e he=>?_,fun p hp h10=>?_,ht⟩
    .rcases hP.mem e he with⟨b,rfl⟩|⟨he,hne⟩
     .refine⟨q,by omega,rfl,k1,fun p' hp' h10 hid=>?_⟩
      by_cases e:p'=q
      .rw[e];exact Nat.le_refl _
      .obtain⟨e0,r1,r2⟩:=i2 p' (by omega) h10;cases hf:aL (lb q).id L 0 with
       |none=>exact absurd (r2.trans hid) (tX hf e0 r1)
       |some x=>
        rw[hf]at k2;have k2:=of_decide_eq_true k2;obtain⟨n,_,s2,s3⟩:=dL (show aL (lb q).id L 0=some (x.1,x.2) from hf);obtain⟨p1,t1,t2,t3,t4⟩:=i1 x.2 (List.mem_of_getElem? s2);obtain⟨b1,_,b3,_⟩:=fA (e:=(lb p1).ent p1 (aM (G p1) 14)) t2;have b1':x.2.id=(lb p1).id:=b1;have b3':x.2.turn=(lb p1).turn:=b3;have:=t4 p' (by omega) h10 (by rw[hid,<-b1',s3]);omega
     .obtain⟨p,q1,q2,q3,q4⟩:=i1 e he;refine⟨p,by omega,q2,q3,fun p' hp' h10 hid=>?_⟩
      by_cases e':p'=q
      .subst e';exact absurd ((fA (e:=(lb p).ent p (aM (G p) 14)) q2).1.trans hid.symm) hne
      .exact q4 p' (by omega) h10 hid
    .obtain⟨b,hb⟩:=hP.has;by_cases e:p=q
     .subst e;exact⟨_,hb,rfl⟩
     .obtain⟨e0,r1,r2⟩:=i2 p (by omega) h10;by_cases hi:e0.id=(lb q).id
      .exact⟨_,hb,hi.symm.trans r2⟩
      .exact⟨e0,qQ r1 hi,r2⟩
   |false=>
    rw[if_neg (by rw[hk];decide)]at h2;subst h2;have hno:10<=aE (G q) 14->∃ x∈L',x.id=(lb q).id∧(lb q).turn<=x.turn:=fun h10=>by
     unfold fP at hk;rw[uQ _ _ _ (Nat.le_refl _),decide_eq_true h10,Bool.true_and]at hk;cases hf:aL (lb q).id L' 0 with
     |none=>rw[hf]at hk;cases hk
     |some x=>
      rw[hf]at hk;have hk:=of_decide_eq_false hk;obtain⟨n,_,s2,s3⟩:=dL (show aL (lb q).id L' 0=some (x.1,x.2) from hf);exact⟨x.2,List.mem_of_getElem? s2,s3,by omega⟩
    refine⟨fun e he=>?_,fun p hp h10=>?_,ht⟩
    .obtain⟨p,q1,q2,q3,q4⟩:=i1 e he;refine⟨p,by omega,q2,q3,fun p' hp' h10 hid=>?_⟩
     by_cases e':p'=q
     .subst e';obtain⟨x,x1,x2,x3⟩:=hno h10;obtain⟨p1,t1,t2,t3,t4⟩:=i1 x x1;obtain⟨b1,_,b3,_⟩:=fA (e:=(lb p1).ent p1 (aM (G p1) 14)) t2;have b1':x.id=(lb p1).id:=b1;have b3':x.turn=(lb p1).turn:=b3;have:=q4 p1 t1 t3 (by rw[<-b1',x2,hid]);omega
     .exact q4 p' (by omega) h10 hid
    .by_cases e:p=q
     .subst e;obtain⟨x,x1,x2,_⟩:=hno h10;exact⟨x,x1,x2⟩
     .exact i2 p (by omega) h10
section
variable {nb m:Nat}{c:Nat->Nat->Nat->Nat}{T T':List It}{lb:Nat->Lb}{G:Nat->Nat->Bool}{E:Nat->Bool}
theorem MidW.win(h:MidW nb m c T lb G E){L:List Ent}{t:Nat}(hS:eZ lb G nb L t):(∀ e∈L,∃ p,p<nb∧E p=true∧e.bare=(lb p).ent p (aM (G p) 14))∧(∀ p,p<nb->E p=true->∃ e∈L,e.bare=(lb p).ent p (aM (G p) 14))∧t<=m:=by
 obtain⟨i1,i2,i3⟩:=Fq hS;have key:∀ e∈L,∃ p,p<nb∧E p=true∧e.bare=(lb p).ent p (aM (G p) 14):=fun e he=>by
  obtain⟨p,q1,q2,q3,q4⟩:=i1 e he;cases hE:E p with
  |true=>exact⟨p,q1,hE,q2⟩
  |false=>
   obtain⟨q,r1,r2,r3,r4⟩:=h.max p q1 hE q3;have:=q4 q r1 (h.ten q r1 r2) r3;omega
 refine⟨key,fun p hp hE=>?_,i3 m fun p hp=>h.turn p hp⟩
 obtain⟨e,he,hid⟩:=i2 p hp (h.ten p hp hE);obtain⟨q,r1,r2,r3⟩:=key e he;have:q=p:=h.one q p r1 hp r2 hE ((fA (e:=(lb q).ent q (aM (G q) 14)) r3).1.symm.trans hid);subst this;exact⟨e,he,r3⟩
theorem MidW.blank(h:MidW nb m c T lb G E){k p:Nat}(hk:E p=false∨G p k=false):MidW nb m (aX c k p zB) T lb (fun q j=>if q=p∧j=k then false else G q j) E:=by
 have hle:∀ q j,(if q=p∧j=k then false else G q j)=true->G q j=true:=fun q j hq=>by
  split at hq
  .cases hq
  .exact hq
 have hsame:∀ q,E q=true->(fun j=>if q=p∧j=k then false else G q j)=G q:=fun q hE=>by
  funext j;split
  .rename_i hq;rcases hk with hk|hk
   .rw[hq.1,hk]at hE;cases hE
   .rw[hq.1,hq.2,hk]
  .rfl
 refine⟨zD h.byte fun _=>by show(0:Nat)<256;omega,fun q hq=>⟨fun j hj hg=>(h.slot q hq).ok j hj (hle q j hg),fun j hj hg i hi=>?_,fun j hj hg=>?_⟩,fun q hq hE=>?_,h.one,fun q hq hE h10=>h.max q hq hE (Nat.le_trans h10 (uK (hle q) 14)),fun q hq ha=>h.turn q hq (yX (hle q) ha),h.few,h.rep,h.srt,h.len⟩
 .have hg':=hle q j hg;unfold aX;rw[if_neg]
  .exact(h.slot q hq).yes j hj hg' i hi
  .rintro⟨rfl,rfl⟩;simp at hg
 .by_cases e:j=k∧q=p
  .refine lF fun i hi=>?_
   unfold aX;rw[if_pos e];rfl
  .rw[if_neg fun r=>e ⟨r.2,r.1⟩]at hg
   have:aX c k p zB j q=c j q:=by
    funext i;unfold aX;rw[if_neg e]
   rw[this];exact(h.slot q hq).no j hj hg
 .show 10<=aE (fun j=>if q=p∧j=k then false else G q j) 14
  rw[hsame q hE];exact h.ten q hq hE
theorem MidW.blanks:∀ (W:List Wt) {c:Nat->Nat->Nat->Nat} {G:Nat->Nat->Bool},MidW nb m c T lb G E->(∀ x∈W,x.b=zB∧(E x.p=false∨G x.p x.d=false))->∃ G',MidW nb m (app c W) T lb G' E
 |[],c,G,h,_=>⟨G,h⟩
 |x :: W,c,G,h,hW=>by
  obtain⟨hb,hx⟩:=hW x (List.mem_cons_self ..);have h1:=h.blank hx;rw[<-hb]at h1;refine MidW.blanks W h1 fun y hy=>⟨(hW y (List.mem_cons_of_mem _ hy)).1,(hW y (List.mem_cons_of_mem _ hy)).2.imp id fun q=>?_⟩
  split
  .rfl
  .exact q
theorem Td{g:Nat->Bool}{k:Nat}(hk:k<14)(hg:g k=true):aE g 14=aE (fun j=>if j=k then false else g j) 14+1:=by
 have h1:=Gs (g:=fun j=>if j=k then false else g j) hk (by simp)
 rw[<-h1];congr 1;funext j;by_cases e:j=k
 .rw[if_pos e,e,hg]
 .rw[if_neg e,if_neg e]
theorem MidW.off{p:Nat}(hp:p<nb)(hE:E p=true)(hT':∀ x,x∈T'↔∃ q,q<nb∧(E q=true∧q≠p)∧(lb q).it=x)(hs:iY T')(hl:T'.length<=nb - 2):∀ (W:List Wt) {c:Nat->Nat->Nat->Nat} {G:Nat->Nat->Bool},MidW nb m c T lb G E->(∀ q,q<nb->E q=false->aE (G q) 14<10)->(∀ x∈W,x.b=zB∧x.p=p∧x.d<14)->dQ nb m (app c W) T∨dQ nb m (app c W) T'
 |[],c,G,h,_,_=>.inl ⟨lb,G,E,h⟩
 |x :: W,c,G,h,hno,hW=>by
  obtain⟨hb,hxp,hxd⟩:=hW x (List.mem_cons_self ..);have hW':∀ y∈W,y.b=zB∧y.p=p∧y.d<14:=fun y hy=>hW y (List.mem_cons_of_mem _ hy)
  have hle:∀ q j,(if q=x.p∧j=x.d then false else G q j)=true->G q j=true:=fun q j hq=>by
   split at hq
   .cases hq
   .exact hq
  have hno':∀ q,q<nb->E q=false->aE (fun j=>if q=x.p∧j=x.d then false else G q j) 14<10:=fun q hq hEq=>Nat.lt_of_le_of_lt (uK (hle q) 14) (hno q hq hEq)
  cases hg:G x.p x.d with
  |false=>
   have h1:=h.blank (.inr hg);rw[<-hb]at h1;exact MidW.off hp hE hT' hs hl W h1 hno' hW'
  |true=>
   have hcnt:aE (G p) 14=aE (fun j=>if p=x.p∧j=x.d then false else G p j) 14+1:=by
    have e:(fun j=>if p=x.p∧j=x.d then false else G p j)=fun j=>if j=x.d then false else G p j:=by
     funext j;simp[hxp]
    rw[e];exact Td hxd (by rw[<-hxp];exact hg)
   have h10:=h.ten p hp hE;have hbyte:∀ d q i,aX c x.d x.p x.b d q i<256:=zD h.byte fun i=>by rw[hb];show(0:Nat)<256;omega
   have hslot:∀ q,q<nb->SlotK (aX c x.d x.p x.b) q (lb q) (fun j=>if q=x.p∧j=x.d then false else G q j):=fun q hq=>by
    refine⟨fun j hj hg=>(h.slot q hq).ok j hj (hle q j hg),fun j hj hg i hi=>?_,fun j hj hg=>?_⟩
    .have hg':=hle q j hg;unfold aX;rw[if_neg]
     .exact(h.slot q hq).yes j hj hg' i hi
     .rintro⟨r1,r2⟩;rw[if_pos ⟨r2,r1⟩]at hg;cases hg
    .by_cases e:j=x.d∧q=x.p
     .refine lF fun i hi=>?_
      unfold aX;rw[if_pos e,hb];rfl
     .rw[if_neg fun r=>e ⟨r.2,r.1⟩]at hg
      have:aX c x.d x.p x.b j q=c j q:=by
       funext i;unfold aX;rw[if_neg e]
      rw[this];exact(h.slot q hq).no j hj hg
   by_cases h11:11<=aE (G p) 14
   .refine MidW.off hp hE hT' hs hl W (c:=aX c x.d x.p x.b) (G:=fun q j=>if q=x.p∧j=x.d then false else G q j) ⟨hbyte,hslot,fun q hq hEq=>?_,h.one,fun q hq hEq hq10=>h.max q hq hEq (Nat.le_trans hq10 (uK (hle q) 14)),fun q hq ha=>h.turn q hq (yX (hle q) ha),h.few,h.rep,h.srt,h.len⟩ hno' hW'
    by_cases e:q=p
    .rw[e];show 10<=aE (fun j=>if p=x.p∧j=x.d then false else G p j) 14
     omega
    .have:(fun j=>if q=x.p∧j=x.d then false else G q j)=G q:=by
      funext j;rw[if_neg fun r=>e (r.1.trans hxp)]
     show 10<=aE (fun j=>if q=x.p∧j=x.d then false else G q j) 14
     rw[this];exact h.ten q hq hEq
   .have h9:aE (fun j=>if p=x.p∧j=x.d then false else G p j) 14<10:=by omega
    have hM:MidW nb m (aX c x.d x.p x.b) T' lb (fun q j=>if q=x.p∧j=x.d then false else G q j) (fun q=>E q&&decide (q≠p)):=by
     refine⟨hbyte,hslot,fun q hq hEq=>?_,fun a b ha hb' h1 h2=>?_,fun q hq hEq hq10=>?_,fun q hq ha=>h.turn q hq (yX (hle q) ha),fun q hq hEq=>?_,fun y=>(hT' y).trans ⟨?_,?_⟩,hs,hl⟩
     .simp only[Bool.and_eq_true,decide_eq_true_eq]at hEq;have:(fun j=>if q=x.p∧j=x.d then false else G q j)=G q:=by
       funext j;rw[if_neg fun r=>hEq.2 (r.1.trans hxp)]
      show 10<=aE (fun j=>if q=x.p∧j=x.d then false else G q j) 14
      rw[this];exact h.ten q hq hEq.1
     .simp only[Bool.and_eq_true,decide_eq_true_eq]at h1 h2;exact h.one a b ha hb' h1.1 h2.1
     .exfalso;by_cases e:q=p
      .subst e;have:10<=aE (fun j=>if q=x.p∧j=x.d then false else G q j) 14:=hq10
       omega
      .have hEq':E q=false:=by
        cases hh:E q with
        |false=>rfl
        |true=>simp[hh,e]at hEq
       have:=hno' q hq hEq';have hq10':10<=aE (fun j=>if q=x.p∧j=x.d then false else G q j) 14:=hq10
       omega
     .simp only[Bool.and_eq_true,decide_eq_true_eq]at hEq;exact h.few q hq hEq.1
     .rintro⟨q,q1,q2,q3⟩;exact⟨q,q1,by simp[q2.1,q2.2],q3⟩
     .rintro⟨q,q1,q2,q3⟩;simp only[Bool.and_eq_true,decide_eq_true_eq]at q2;exact⟨q,q1,q2,q3⟩
    obtain⟨G',hG'⟩:=MidW.blanks W hM fun y hy=>⟨(hW' y hy).1,.inl (by simp[(hW' y hy).2.1])⟩
    exact .inr ⟨_,_,_,hG'⟩
theorem uP(c:Nat->Nat->Nat->Nat)(p:Nat)(B:Nat->Nat->Nat):∀ n d q i,app c (fJ p B n) d q i=if q=p∧d<n then B d i else c d q i
 |0,d,q,i=>by
  rw[if_neg fun r=>by omega]
  rfl
 |n+1,d,q,i=>by
  unfold fJ;rw[qK];show aX (app c (fJ p B n)) n p (B n) d q i=_;unfold aX;by_cases e:d=n∧q=p
  .rw[if_pos e,if_pos ⟨e.2,by omega⟩,e.1]
  .rw[if_neg e,uP c p B n];by_cases e2:q=p∧d<n
   .rw[if_pos e2,if_pos ⟨e2.1,by omega⟩]
   .rw[if_neg e2,if_neg];rintro⟨r1,r2⟩;have:d≠n:=fun r=>e ⟨r,r1⟩
    exact e2 ⟨r1,by omega⟩
theorem zJ(j:Nat):∀ n,aE (fun k=>decide (k<j)) n=min n j
 |0=>by simp[aE]
 |n+1=>by
  rw[jU,zJ j n];by_cases h:n<j
  .rw[if_pos (by simpa using h)];omega
  .rw[if_neg (by simpa using h)];omega
theorem MidW.lay(h:MidW nb m c T lb G E){p j:Nat}(hp:p<nb)(hEp:E p=false)(hb:∀ k,k<14->∀ i,i<96->c k p i=0){l:Lb}(hl:l.Ok)(hlt:l.turn=m+1)(hfew:l.id∈[1,301,1201,2701,4801,7501])(hj:j<=14)(hT':∀ x,x∈T'↔x=l.it∨(x∈T∧x.id≠l.id))(hs:iY T')(hlen:T'.length<=nb - 2) :
  MidW nb (m+1) (app c (fJ p l.blk j)) (if j<10 then T else T') (fun q=>if q=p then l else lb q) (fun q k=>if q=p then decide (k<j) else G q k) (fun q=>if j<10 then E q else decide (q=p)||(E q&&decide ((lb q).id≠l.id))):=by
 have hcp:∀ k,k<14->∀ i,i<96->app c (fJ p l.blk j) k p i=if k<j then l.blk k i else 0:=fun k hk i hi=>by
  rw[uP];by_cases e:k<j
  .rw[if_pos ⟨rfl,e⟩,if_pos e]
  .rw[if_neg fun r=>e r.2,if_neg e]
   exact hb k hk i hi
 have hcq:∀ k q,q≠p->app c (fJ p l.blk j) k q=c k q:=fun k q hq=>by
  funext i;rw[uP,if_neg fun r=>hq r.1]
 have hlb:∀ q,q≠p->(if q=p then l else lb q)=lb q:=fun q hq=>if_neg hq
 have hGq:∀ q,q≠p->(fun k=>if q=p then decide (k<j) else G q k)=G q:=fun q hq=>by
  funext k;rw[if_neg hq]
 have hGp:(fun k=>if p=p then decide (k<j) else G p k)=fun k=>decide (k<j):=by
  funext k;rw[if_pos rfl]
 have hblt:∀ k i,l.blk k i<256:=fun k i=>Fv (lM hl.val _ _) _
 refine⟨fun d q i=>?_,fun q hq=>?_,fun q hq hE=>?_,fun a b ha hb' h1 h2 hid=>?_,fun q hq hE h10=>?_,fun q hq ha=>?_,fun q hq hE=>?_,fun x=>?_,?_,?_⟩
 .rw[uP];split
  .exact hblt _ _
  .exact h.byte d q i
 .by_cases e:q=p
  .subst e;rw[if_pos rfl,hGp];refine⟨fun _ _ _=>hl,fun k hk hg i hi=>?_,fun k hk hg=>lF fun i hi=>?_⟩
   .rw[hcp k hk i hi,if_pos (of_decide_eq_true hg)]
   .rw[hcp k hk i hi,if_neg (of_decide_eq_false hg)]
  .rw[if_neg e,hGq q e];exact(h.slot q hq).congr fun k hk i hi=>by rw[hcq k q e]
 .by_cases e:q=p
  .subst e;show 10<=aE (fun k=>if q=q then decide (k<j) else G q k) 14
   rw[hGp,zJ];by_cases h10:j<10
   .rw[if_pos h10,hEp]at hE;cases hE
   .omega
  .show 10<=aE (fun k=>if q=p then decide (k<j) else G q k) 14
   rw[hGq q e];refine h.ten q hq ?_;by_cases h10:j<10
   .rw[if_pos h10]at hE;exact hE
   .rw[if_neg h10]at hE;simp[e]at hE;exact hE.1
 .by_cases h10:j<10
  .rw[if_pos h10]at h1 h2;have ea:a≠p:=fun r=>by rw[r,hEp]at h1;cases h1
   have eb:b≠p:=fun r=>by rw[r,hEp]at h2;cases h2
   rw[hlb a ea,hlb b eb]at hid;exact h.one a b ha hb' h1 h2 hid
  .rw[if_neg h10]at h1 h2;simp only[Bool.or_eq_true,Bool.and_eq_true,decide_eq_true_eq]at h1 h2;by_cases ea:a=p
   .by_cases eb:b=p
    .rw[ea,eb]
    .rcases h2 with h2|h2
     .exact absurd h2 eb
     .rw[if_pos ea,hlb b eb]at hid;exact absurd hid.symm h2.2
   .by_cases eb:b=p
    .rcases h1 with h1|h1
     .exact absurd h1 ea
     .rw[if_pos eb,hlb a ea]at hid;exact absurd hid h1.2
    .rw[hlb a ea,hlb b eb]at hid;exact h.one a b ha hb' (h1.resolve_left ea).1 (h2.resolve_left eb).1 hid
 .by_cases e:q=p
  .subst e;have h10':10<=aE (fun k=>if q=q then decide (k<j) else G q k) 14:=h10
   rw[hGp,zJ]at h10';rw[if_neg (by omega)]at hE;simp at hE
  .have h10':10<=aE (fun k=>if q=p then decide (k<j) else G q k) 14:=h10
   rw[hGq q e]at h10';rw[hlb q e]
   have htq:(lb q).turn<=m:=h.turn q hq (by
    cases ha:dU (G q) 14 with
    |true=>rfl
    |false=>
     have:=zO ha
     omega)
   by_cases hj10:j<10
   .rw[if_pos hj10]at hE;obtain⟨r,r1,r2,r3,r4⟩:=h.max q hq hE h10';have er:r≠p:=fun x=>by rw[x,hEp]at r2;cases r2
    exact⟨r,r1,by rw[if_pos hj10];exact r2,by rw[hlb r er];exact r3,by rw[hlb r er];exact r4⟩
   .by_cases hid:(lb q).id=l.id
    .exact⟨p,hp,by rw[if_neg hj10];simp,by rw[if_pos rfl];exact hid.symm,by rw[if_pos rfl];omega⟩
    .have hEq:E q=false:=by
      rw[if_neg hj10]at hE;cases hh:E q with
      |false=>rfl
      |true=>simp[hh,e,hid]at hE
     obtain⟨r,r1,r2,r3,r4⟩:=h.max q hq hEq h10';have er:r≠p:=fun x=>by rw[x,hEp]at r2;cases r2
     exact⟨r,r1,by rw[if_neg hj10];simp[r2,r3,hid],by rw[hlb r er];exact r3,by rw[hlb r er];exact r4⟩
 .by_cases e:q=p
  .rw[if_pos e,hlt];exact Nat.le_refl _
  .rw[hlb q e];have ha':dU (fun k=>if q=p then decide (k<j) else G q k) 14=true:=ha
   rw[hGq q e]at ha';have:=h.turn q hq ha';omega
 .by_cases e:q=p
  .rw[if_pos e];exact hfew
  .rw[hlb q e];refine h.few q hq ?_;by_cases h10:j<10
   .rw[if_pos h10]at hE;exact hE
   .rw[if_neg h10]at hE;simp[e]at hE;exact hE.1
 .by_cases h10:j<10
  .simp only[if_pos h10];refine(h.rep x).trans ⟨?_,?_⟩
   .rintro⟨q,q1,q2,q3⟩;have e:q≠p:=fun r=>by rw[r,hEp]at q2;cases q2
    exact⟨q,q1,q2,by rw[hlb q e];exact q3⟩
   .rintro⟨q,q1,q2,q3⟩;have e:q≠p:=fun r=>by rw[r,hEp]at q2;cases q2
    exact⟨q,q1,q2,by rw[hlb q e]at q3;exact q3⟩
  .simp only[if_neg h10];refine(hT' x).trans ⟨?_,?_⟩
   .rintro(rfl|⟨h1,h2⟩)
    .exact⟨p,hp,by simp,by rw[if_pos rfl]⟩
    .obtain⟨q,q1,q2,rfl⟩:=(h.rep x).1 h1;have e:q≠p:=fun r=>by rw[r,hEp]at q2;cases q2
     have h2':(lb q).id≠l.id:=h2;exact⟨q,q1,by simp[q2,h2'],by rw[hlb q e]⟩
   .rintro⟨q,q1,q2,q3⟩;simp only[Bool.or_eq_true,Bool.and_eq_true,decide_eq_true_eq]at q2;by_cases e:q=p
    .rw[if_pos e]at q3;exact .inl q3.symm
    .rw[hlb q e]at q3;have q2:=q2.resolve_left e;subst q3;exact .inr ⟨(h.rep _).2 ⟨q,q1,q2.1,rfl⟩,q2.2⟩
 .split
  .exact h.srt
  .exact hs
 .split
  .exact h.len
  .exact hlen
end
