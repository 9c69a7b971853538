import Derived.Test.YtpiefebngnlfoabGreatDoorNk
set_option maxRecDepth 99999
set_option maxHeartbeats 0
set_option linter.unusedVariables false
set_option linter.unusedSimpArgs false
namespace Go.Proofs.YtpiefebngnlfoabGreatDoor
open Go.RowKit Go.Conc Go.Vw
structure Wt where
 d:Nat
 p:Nat
 b:Nat->Nat
def app(c:Nat->Nat->Nat->Nat):List Wt->Nat->Nat->Nat->Nat
 |[]=>c
 |x :: W=>app (bR c x.d x.p x.b) W
def Dsk.wrs(s:Dsk):List Wt->Dsk
 |[]=>s
 |x :: W=>(s.wr x.d x.p x.b).wrs W
theorem Ej:∀ (V W:List Wt) (c:Nat->Nat->Nat->Nat),app c (V++W)=app (app c V) W
 |[],_,_=>rfl
 |x :: V,W,c=>Ej V W _
theorem jP:∀ (V W:List Wt) (s:Dsk),s.wrs (V++W)=(s.wrs V).wrs W
 |[],_,_=>rfl
 |x :: V,W,s=>jP V W _
theorem jB:∀ (W:List Wt) (s:Dsk),s.wrs W=⟨app s.c W,app s.a (W.take s.left),s.left - W.length⟩
 |[],s=>by
  rw[List.take_nil];rfl
 |x :: W,s=>by
  show(s.wr x.d x.p x.b).wrs W=_;rw[jB W];obtain⟨c,a,l⟩:=s;cases l with
  |zero=>
   show Dsk.mk (app (bR c x.d x.p x.b) W) (app (if 0<0 then bR a x.d x.p x.b else a) (W.take (0 - 1))) (0 - 1 - W.length)=_;rw[if_neg (by omega),show 0 - 1=0 from rfl,List.take_zero,List.take_zero,Nat.zero_sub,Nat.zero_sub];rfl
  |succ n=>
   show Dsk.mk (app (bR c x.d x.p x.b) W) (app (if 0<n+1 then bR a x.d x.p x.b else a) (W.take (n+1 - 1))) (n+1 - 1 - W.length)=_;rw[if_pos (by omega),show n+1 - 1=n by omega,List.take_succ_cons,List.length_cons,show n+1 - (W.length+1)=n - W.length by omega];rfl
def zB:Nat->Nat:=fun _=>0
def kI(c:Nat->Nat->Nat->Nat)(p:Nat)(good:Nat->Bool)(last:Bool):Nat->List Wt
 |0=>[]
 |k+1=>kI c p good last k++if good k=last∧bT (c k p) zB 0 96=false then [⟨k,p,zB⟩] else []
theorem yQ{s:Dsk}{p:Nat}{good:Nat->Bool}{last:Bool}{d:Nat} : ∀ n,(good d≠last∨n<=d)->(blk1 s p good last n).c d p=s.c d p
 |0,_=>rfl
 |n+1,h=>by
  have ih:=yQ (s:=s) (p:=p) n (h.imp id fun q=>by omega)
  unfold blk1;split
  .rename_i hq;rw[<-ih];funext i;show bR (blk1 s p good last n).c n p (fun _=>0) d p i=_;unfold bR;rw[if_neg];rintro⟨rfl,_⟩;rcases h with h|h
   .exact h hq.1
   .omega
  .exact ih
theorem vC{s:Dsk}{p:Nat}{good:Nat->Bool}{last:Bool} : ∀ n,blk1 s p good last n=s.wrs (kI s.c p good last n)
 |0=>rfl
 |n+1=>by
  unfold blk1 kI;rw[yQ n (.inr (Nat.le_refl n))];show(if good n=last∧bT (s.c n p) zB 0 96=false then _ else _)=_;split
  .rw[jP,<-vC n];rfl
  .rw[List.append_nil,vC n]
theorem uI{c c':Nat->Nat->Nat->Nat}{p:Nat}{good:Nat->Bool}{last:Bool} : ∀ n,(∀ k,k<n->good k=last->c k p=c' k p)->kI c p good last n=kI c' p good last n
 |0,_=>rfl
 |n+1,h=>by
  unfold kI;rw[uI n fun k hk=>h k (by omega)]
  by_cases q:good n=last
  .rw[h n (by omega) q]
  .rw[if_neg fun r=>q r.1,if_neg fun r=>q r.1]
def jE(c:Nat->Nat->Nat->Nat)(p:Nat)(good:Nat->Bool):List Wt:=kI c p good false 14++kI c p good true 14
theorem uJ{s:Dsk}{p:Nat}{good:Nat->Bool} : fU s p good=s.wrs (jE s.c p good):=by
 unfold fU jE;rw[vC,jP,uI (c':=s.c) 14 fun k _ hg=>yQ 14 (.inl (by rw[hg];decide)),<-vC]
theorem By{c c':Nat->Nat->Nat->Nat}{p:Nat}{good:Nat->Bool}(h:∀ k,k<14->c k p=c' k p):jE c p good=jE c' p good:=by
 unfold jE;rw[uI 14 fun k hk _=>h k hk,uI 14 fun k hk _=>h k hk]
def pM(p:Nat)(B:Nat->Nat->Nat):Nat->List Wt
 |0=>[]
 |n+1=>pM p B n++[⟨n,p,B n⟩]
theorem zD{s:Dsk}{p:Nat}{B:Nat->Nat->Nat} : ∀ n,jV s p B n=s.wrs (pM p B n)
 |0=>rfl
 |n+1=>by
  unfold jV pM;rw[jP,<-zD n];rfl
def Jx(id size turn:Nat)(val:Nat->Nat)(k:Nat):Nat->Nat:=aV id size turn k ((size+9) / 10) (bC val size k)
def wJ(c:Nat->Nat->Nat->Nat)(L:List Ent)(p id size turn:Nat)(val:Nat->Nat):List Wt:=
 pM p (Jx id size turn val) 14++match aL id L 0 with
  |some (_,old)=>jE c old.slot old.good
  |none=>[]
theorem Gp{s:Dsk}{L:List Ent}{p id size turn:Nat}{val:Nat->Nat}(hp:∀ e∈L,e.slot≠p):jG s L p id size turn val=s.wrs (wJ s.c L p id size turn val):=by
 unfold jG wJ;cases h:aL id L 0 with
 |none=>
  rw[List.append_nil];exact zD 14
 |some q=>
  obtain⟨n,old⟩:=q;obtain⟨m,h1,h2,h3⟩:=dY h;show fU (jV s p (Jx id size turn val) 14) old.slot old.good=_;rw[uJ,jP,<-zD,By fun k hk=>?_]
  funext i;rw[rI,if_neg fun q=>hp old (List.mem_of_getElem? h2) q.1]
def kZ(c:Nat->Nat->Nat->Nat)(t:Nat->Bool):Nat->List Wt
 |0=>[]
 |p+1=>kZ c t p++if t p=true then [] else jE c p fun _=>false
theorem Es{s:Dsk}{t:Nat->Bool}{d q:Nat} : ∀ n,n<=q->(dE s t n).c d q=s.c d q
 |0,_=>rfl
 |n+1,h=>by
  have ih:=Es (s:=s) (t:=t) (d:=d) (q:=q) n (by omega);unfold dE;split
  .exact ih
  .rw[kS (by omega)];exact ih
theorem qC{s:Dsk}{t:Nat->Bool} : ∀ n,dE s t n=s.wrs (kZ s.c t n)
 |0=>rfl
 |n+1=>by
  unfold dE kZ;split
  .rw[List.append_nil];exact qC n
  .rw[uJ,jP,<-qC n,By fun k _=>Es n (Nat.le_refl n)]
theorem Bs{c:Nat->Nat->Nat->Nat}{t t':Nat->Bool} : ∀ n,(∀ p,p<n->t p=t' p)->kZ c t n=kZ c t' n
 |0,_=>rfl
 |n+1,h=>by
  unfold kZ;rw[Bs n fun p hp=>h p (by omega),h n (by omega)]
def nI(n:Nat)(x:Scb):List Wt:=match aL (x.h (bY (fun j=>(x.h j).bad) n)).id x.L 0 with
 |some (_,e)=>[⟨bF e.good,e.slot,e.blk (bF e.good)⟩]
 |none=>[]
theorem On{n:Nat}{x:Scb} : (scrub1 n x).s=x.s.wrs (nI n x):=by
 unfold scrub1 nI;cases aL (x.h (bY (fun j=>(x.h j).bad) n)).id x.L 0 with
 |none=>rfl
 |some q=>rfl
def lT(n:Nat):Nat->Scb->List Wt
 |0,_=>[]
 |m+1,x=>lT n m x++nI n (scrubN n m x)
theorem tU{n:Nat}{x:Scb} : ∀ m,(scrubN n m x).s=x.s.wrs (lT n m x)
 |0=>rfl
 |m+1=>by
  unfold scrubN lT;rw[On,tU m,jP]
def Ent.bare(e:Ent):Ent:={e with born:=0}
def Tw(L L':List Ent):Prop:=∀ x,x∈L.map Ent.bare↔x∈L'.map Ent.bare
theorem Tw.symm{L L':List Ent}(h:Tw L L'):Tw L' L:=fun x=>(h x).symm
theorem Tw.get{L L':List Ent}(h:Tw L L'){e:Ent}(he:e∈L):∃ e'∈L',e'.bare=e.bare:=List.mem_map.1 ((h e.bare).1 (List.mem_map.2 ⟨e,he,rfl⟩))
theorem Tw.of{L L':List Ent}(h1:∀ e∈L,∃ e'∈L',e'.bare=e.bare)(h2:∀ e∈L',∃ e'∈L,e'.bare=e.bare):Tw L L':=fun x=>by
 constructor
 .intro hx;obtain⟨e,he,rfl⟩:=List.mem_map.1 hx;obtain⟨e',q1,q2⟩:=h1 e he;exact List.mem_map.2 ⟨e',q1,q2⟩
 .intro hx;obtain⟨e,he,rfl⟩:=List.mem_map.1 hx;obtain⟨e',q1,q2⟩:=h2 e he;exact List.mem_map.2 ⟨e',q1,q2⟩
theorem dZ{e e':Ent}(h:e'.bare=e.bare):e'.id=e.id∧e'.size=e.size∧e'.turn=e.turn∧e'.slot=e.slot∧e'.val=e.val∧e'.good=e.good:=by
 have h':Ent.mk e'.id e'.size e'.turn e'.slot e'.val e'.good 0=Ent.mk e.id e.size e.turn e.slot e.val e.good 0:=h;simpa using h'
theorem Tw.find{L L':List Ent}(h:Tw L L')(hn':(L'.map (·.id)).Nodup){id n:Nat}{e:Ent}(hf:aL id L 0=some (n,e)):∃ n' e',aL id L' 0=some (n',e')∧e'.bare=e.bare:=by
 obtain⟨m,h1,h2,h3⟩:=dY hf;obtain⟨e',q1,q2⟩:=h.get (List.mem_of_getElem? h2);obtain⟨n',q3⟩:=uU hn' q1;rw[(dZ q2).1,h3]at q3;exact⟨n',e',q3,q2⟩
theorem Tw.findN{L L':List Ent}(h:Tw L L')(hn:(L.map (·.id)).Nodup){id:Nat}(hf:aL id L 0=none):aL id L' 0=none:=by
 cases q:aL id L' 0 with
 |none=>rfl
 |some x=>
  obtain⟨n',e',h1,_⟩:=h.symm.find hn (show aL id L' 0=some (x.1,x.2) from q);rw[hf]at h1;cases h1
theorem Tw.len{L L':List Ent}(h:Tw L L')(hn:(L.map (·.id)).Nodup)(hn':(L'.map (·.id)).Nodup):L.length=L'.length:=by
 have key:∀ {A B:List Ent},Tw A B->(A.map (·.id)).Nodup->A.length<=B.length:=fun {A B} hT hA=>by
  have:=pU (l:=A.map (·.id)) (m:=B.map (·.id)) hA fun x hx=>by
   obtain⟨e,he,rfl⟩:=List.mem_map.1 hx;obtain⟨e',q1,q2⟩:=hT.get he;exact List.mem_map.2 ⟨e',q1,(dZ q2).1⟩
  rwa [List.length_map,List.length_map]at this
 exact Nat.le_antisymm (key h hn) (key h.symm hn')
theorem Tw.full{L L':List Ent}(h:Tw L L')(hn:(L.map (·.id)).Nodup)(hn':(L'.map (·.id)).Nodup)(nb id:Nat):gQ L nb id=gQ L' nb id:=by
 unfold gQ;rw[h.len hn hn'];cases q:aL id L 0 with
 |none=>rw[h.findN hn q]
 |some x=>
  obtain⟨n',e',h1,_⟩:=h.find hn' (show aL id L 0=some (x.1,x.2) from q);rw[h1];rfl
theorem Tw.free{L L':List Ent}(h:Tw L L'){nb p p':Nat}(hp:mA L nb p)(hp':mA L' nb p'):p=p':=by
 have key:∀ {A B:List Ent} {a b:Nat},Tw A B->mA A nb a->mA B nb b->¬a<b:=fun {A B a b} hT hA hB hlt=>by
  obtain⟨e,he,q⟩:=hB.2.2 a hlt;obtain⟨e',q1,q2⟩:=hT.symm.get he;exact hA.2.1 e' q1 ((dZ q2).2.2.2.1.trans q)
 have h1:=key h hp hp';have h2:=key h.symm hp' hp;omega
theorem Tw.tak{L L':List Ent}(h:Tw L L')(p:Nat):cD L p=cD L' p:=by
 have key:∀ {A B:List Ent},Tw A B->cD A p=true->cD B p=true:=fun {A B} hT hA=>by
  obtain⟨e,he,q⟩:=fE.1 hA;obtain⟨e',q1,q2⟩:=hT.get he;exact fE.2 ⟨e',q1,(dZ q2).2.2.2.1.trans q⟩
 cases h1:cD L p with
 |true=>exact(key h h1).symm
 |false=>
  cases h2:cD L' p with
  |false=>rfl
  |true=>rw[key h.symm h2]at h1;cases h1
theorem Tw.put{L L':List Ent}(h:Tw L L'){e:Ent}{c c':Nat}(hP:PutOk L e c)(hP':PutOk L' e c'):Tw (bO L e c) (bO L' e c'):=by
 have key:∀ {A B:List Ent} {a b:Nat},Tw A B->PutOk A e a->PutOk B e b->∀ x∈bO A e a,∃ y∈bO B e b,y.bare=x.bare:=fun {A B a b} hT hA hB x hx=>by
  rcases hA.mem x hx with⟨b',rfl⟩|⟨q1,q2⟩
  .obtain⟨b',hb⟩:=hB.has;exact⟨_,hb,rfl⟩
  .obtain⟨y,q3,q4⟩:=hT.get q1;exact⟨y,uR q3 (by rw[(dZ q4).1];exact q2),q4⟩
 exact Tw.of (key h hP hP') (key h.symm hP' hP)
theorem Tw.del{L L':List Ent}(h:Tw L L')(hn:(L.map (·.id)).Nodup)(hn':(L'.map (·.id)).Nodup){id n:Nat}{e:Ent}(hf:aL id L 0=some (n,e)):Tw (eY L id) (eY L' id):=by
 obtain⟨n',e',hf',_⟩:=h.find hn' hf;refine Tw.of (fun x hx=>?_) fun x hx=>?_
 .obtain⟨q1,q2⟩:=(lP hn hf).1 hx;obtain⟨y,q3,q4⟩:=h.get q1;exact⟨y,(lP hn' hf').2 ⟨q3,by rw[(dZ q4).1];exact q2⟩,q4⟩
 .obtain⟨q1,q2⟩:=(lP hn' hf').1 hx;obtain⟨y,q3,q4⟩:=h.symm.get q1;exact⟨y,(lP hn hf).2 ⟨q3,by rw[(dZ q4).1];exact q2⟩,q4⟩
theorem yN{e e':Ent}(h:e'.bare=e.bare):bZ e'=bZ e:=by
 obtain⟨h1,h2,_,_,_,h6⟩:=dZ h;unfold bZ;rw[h1,h2,h6]
theorem Tells.tw{L L':List Ent}{n:Nat}{h:Nat->Hl}(H:Tells L n h)(hT:Tw L L'):Tells L' n h:=by
 refine⟨fun i hi=>?_,fun e he=>?_,H.sort⟩
 .obtain⟨e,he,q⟩:=H.yes i hi;obtain⟨e',q1,q2⟩:=hT.get he;exact⟨e',q1,by rw[q,yN q2]⟩
 .obtain⟨e',q1,q2⟩:=hT.symm.get he;obtain⟨i,hi,q⟩:=H.all e' q1;exact⟨i,hi,by rw[q,yN q2]⟩
def Wk(nb:Nat)(c:Nat->Nat->Nat->Nat)(L:List Ent)(turn:Nat)(a:Ac)(W:List Wt):Prop:=
 W=[]∨(∃ n e,a.gone=true∧aL (aX a.c) L 0=some (n,e)∧W=jE c e.slot e.good)∨(a.gone=false∧gQ L nb (aX a.c)=false∧∃ p,mA L nb p∧W=wJ c L p (aX a.c) (min a.len 400) (turn+1) a.val)
theorem dK.twin{nb turn err err' t t':Nat}{s1 s2 s1' s2':Dsk}{L1 L2 L1' L2':List Ent}{a:Ac}(hc:s1.c=s2.c)(hT:Tw L1 L2)(hn1:(L1.map (·.id)).Nodup)(hn2:(L2.map (·.id)).Nodup)(h1:dK nb s1 L1 turn a err s1' L1' t)(h2:dK nb s2 L2 turn a err' s2' L2' t') :
  err=err'∧t=t'∧Tw L1' L2'∧∃ W,s1'=s1.wrs W∧s2'=s2.wrs W∧Wk nb s1.c L1 turn a W:=by
 unfold dK at h1 h2;by_cases hg:a.gone=true
 .rw[if_pos hg]at h1 h2;cases hf:aL (aX a.c) L1 0 with
  |none=>
   rw[hf]at h1;rw[hT.findN hn1 hf]at h2;obtain⟨rfl,rfl,rfl,rfl⟩:=h1;obtain⟨rfl,rfl,rfl,rfl⟩:=h2;exact⟨rfl,rfl,hT,[],rfl,rfl,.inl rfl⟩
  |some q=>
   obtain⟨n,e⟩:=q;obtain⟨n',e',hf',hb⟩:=hT.find hn2 hf;rw[hf]at h1;rw[hf']at h2;obtain⟨rfl,rfl,rfl,rfl⟩:=h1;obtain⟨rfl,rfl,rfl,rfl⟩:=h2;obtain⟨_,_,_,b4,_,b6⟩:=dZ hb;refine⟨rfl,rfl,hT.del hn1 hn2 hf,jE s1.c e.slot e.good,uJ,?_,.inr (.inl ⟨n,e,hg,hf,rfl⟩)⟩;show fU s2 e'.slot e'.good=_;rw[b4,b6,hc];exact uJ
 .rw[if_neg hg]at h1 h2;rw[<-hT.full hn1 hn2]at h2;by_cases hf:gQ L1 nb (aX a.c)=true
  .rw[if_pos hf]at h1 h2;obtain⟨rfl,rfl,rfl,rfl⟩:=h1;obtain⟨rfl,rfl,rfl,rfl⟩:=h2;exact⟨rfl,rfl,hT,[],rfl,rfl,.inl rfl⟩
  .rw[if_neg hf]at h1 h2;obtain⟨rfl,rfl,p,c,hF,hP,rfl,rfl⟩:=h1;obtain⟨rfl,rfl,p',c',hF',hP',rfl,rfl⟩:=h2;obtain rfl:=hT.free hF hF';refine⟨rfl,rfl,hT.put hP hP',_,Gp hF.2.1,?_,.inr (.inr ⟨by simpa using hg,by simpa using hf,p,hF,rfl⟩)⟩;rw[Gp hF'.2.1];congr 1;unfold wJ;rw[hc];cases hf:aL (aX a.c) L1 0 with
   |none=>rw[hT.findN hn1 hf]
   |some q=>
    obtain⟨n,e⟩:=q;obtain⟨n',e',hf',hb⟩:=hT.find hn2 hf;obtain⟨_,_,_,b4,_,b6⟩:=dZ hb;rw[hf'];show _++jE s2.c e'.slot e'.good=_++jE s2.c e.slot e.good;rw[b4,b6]
theorem fZ.twin{lf:Nat->Lb}{Gf:Nat->Nat->Bool} : ∀ {q:Nat} {L L':List Ent} {t t':Nat},fZ lf Gf q L t->fZ lf Gf q L' t'->(L.map (·.id)).Nodup->(L'.map (·.id)).Nodup->Tw L L'∧t=t'
 |0,L,L',t,t',h,h',_,_=>by
  obtain⟨rfl,rfl⟩:=h;obtain⟨rfl,rfl⟩:=h';exact⟨fun _=>Iff.rfl,rfl⟩
 |q+1,L',M',t',u',⟨L,t,h1,h2⟩,⟨M,u,h3,h4⟩,n1,n2=>by
  have nod:∀ {A B:List Ent} {a b:Nat},fZ lf Gf q A a->Sv A a q (lf q) (Gf q) B b->(B.map (·.id)).Nodup->(A.map (·.id)).Nodup:=fun {A B a b} _ hS hB=>by
   unfold Sv at hS;split at hS
   .obtain⟨_,hS⟩:=hS;split at hS
    .obtain⟨c,hP,rfl⟩:=hS;rw[hP.ids]at hB;split at hB
     .exact hB
     .exact(List.nodup_append.1 hB).1
    .rw[hS]at hB;exact hB
   .rw[hS.2]at hB;exact hB
  have m1:=nod h1 h2 n1;have m2:=nod h3 h4 n2;obtain⟨hT,rfl⟩:=fZ.twin h1 h3 m1 m2;have htk:gL L (lf q) (Gf q)=gL M (lf q) (Gf q):=by
   unfold gL;cases hf:aL (lf q).id L 0 with
   |none=>rw[hT.findN m1 hf]
   |some x=>
    obtain⟨n',e',hf',hb⟩:=hT.find m2 (show aL (lf q).id L 0=some (x.1,x.2) from hf);rw[hf'];show _=(_&&decide (e'.turn<_));rw[(dZ hb).2.2.1]
  unfold Sv at h2 h4;by_cases ha:fQ (Gf q) 14=true
  .rw[if_pos ha]at h2 h4;obtain⟨rfl,h2⟩:=h2;obtain⟨rfl,h4⟩:=h4;rw[<-htk]at h4;by_cases hk:gL L (lf q) (Gf q)=true
   .rw[if_pos hk]at h2 h4;obtain⟨c,hP,rfl⟩:=h2;obtain⟨c',hP',rfl⟩:=h4;exact⟨hT.put hP hP',rfl⟩
   .rw[if_neg hk]at h2 h4;rw[h2,h4];exact⟨hT,rfl⟩
  .rw[if_neg ha]at h2 h4;rw[h2.1,h2.2,h4.1,h4.2];exact⟨hT,rfl⟩
theorem Cs{b b':Nat->Nat} : ∀ n,(∀ i,i<n->b i=b' i)->bY b n=bY b' n
 |0,_=>rfl
 |n+1,h=>by
  unfold bY;have ih:=Cs n fun i hi=>h i (by omega)
  rw[ih,h n (by omega)];by_cases q:0<n
  .rw[h (bY b' n) (by have:=oW b' n q;omega)]
  .obtain rfl:n=0:=by omega
   have e:bY b' 0=0:=rfl;rw[e,h 0 (by omega)]
theorem oX{L:List Ent}(hn:(L.map (·.id)).Nodup){n:Nat}{e x:Ent}(he:L[n]?=some e){y:Ent} : y∈L.set n x↔y=x∨(y∈L∧y.id≠e.id):=by
 constructor
 .intro hy;obtain⟨i,hi⟩:=List.mem_iff_getElem?.1 hy;rw[List.getElem?_set]at hi;by_cases q:n=i
  .rw[if_pos q]at hi;split at hi
   .exact .inl (Option.some.inj hi).symm
   .cases hi
  .rw[if_neg q]at hi;refine .inr ⟨List.mem_of_getElem? hi,fun r=>q ?_⟩
   have e1:(L.map (·.id))[n]?=(L.map (·.id))[i]?:=by rw[List.getElem?_map,List.getElem?_map,hi,he];exact congrArg some r.symm
   exact(List.getElem?_inj (by rw[List.length_map];exact(List.getElem?_eq_some_iff.1 he).1) hn).1 e1
 .rintro(rfl|⟨h1,h2⟩)
  .exact List.mem_set (List.getElem?_eq_some_iff.1 he).1 _
  .obtain⟨i,hi⟩:=List.mem_iff_getElem?.1 h1;refine List.mem_iff_getElem?.2 ⟨i,?_⟩;rw[List.getElem?_set,if_neg,hi];rintro rfl;rw[he]at hi;cases hi
   exact h2 rfl
theorem Ci{n:Nat}{s1 s2:Dsk}{h1 h2:Nat->Hl}{L1 L2:List Ent}(hh:∀ i,i<n->h1 i=h2 i)(hT:Tw L1 L2)(hn1:(L1.map (·.id)).Nodup)(hn2:(L2.map (·.id)).Nodup)(hz:Tells L1 n h1):∀ m,m<=bE h1 n->lT n m ⟨h1,s1,L1⟩=lT n m ⟨h2,s2,L2⟩∧(∀ i,i<n->(scrubN n m ⟨h1,s1,L1⟩).h i=(scrubN n m ⟨h2,s2,L2⟩).h i)∧Tw (scrubN n m ⟨h1,s1,L1⟩).L (scrubN n m ⟨h2,s2,L2⟩).L∧((scrubN n m ⟨h1,s1,L1⟩).L.map (·.id)).Nodup∧((scrubN n m ⟨h2,s2,L2⟩).L.map (·.id)).Nodup∧Tells (scrubN n m ⟨h1,s1,L1⟩).L n (scrubN n m ⟨h1,s1,L1⟩).h∧bE (scrubN n m ⟨h1,s1,L1⟩).h n+m=bE h1 n
 |0,_=>⟨rfl,hh,hT,hn1,hn2,hz,rfl⟩
 |m+1,hm=>by
  obtain⟨i1,i2,i3,i4,i5,i6,i7⟩:=Ci (s1:=s1) (s2:=s2) hh hT hn1 hn2 hz m (by omega);generalize hx1:scrubN n m ⟨h1,s1,L1⟩=x1 at i2 i3 i4 i6 i7;generalize hx2:scrubN n m ⟨h2,s2,L2⟩=x2 at i2 i3 i5;obtain⟨hn0,hb⟩:=yW (show 0<bE x1.h n by omega);have hmo:bY (fun j=>(x2.h j).bad) n=bY (fun j=>(x1.h j).bad) n:=Cs n fun i hi=>by rw[i2 i hi]
  have hlt:=oW (fun j=>(x1.h j).bad) n hn0;have hh1:x2.h (bY (fun j=>(x2.h j).bad) n)=x1.h (bY (fun j=>(x1.h j).bad) n):=by rw[hmo,i2 _ hlt]
  have hb2:0<(x2.h (bY (fun j=>(x2.h j).bad) n)).bad:=by rw[hh1];exact hb
  obtain⟨k1,e1,q1,q2,q3,q4,q5,q6,q7,q8,q9⟩:=uP i4 i6 hn0 hb;have T2:Tells x2.L n x2.h:=by
   have:=i6.tw i3;exact⟨fun i hi=>by rw[<-i2 i hi];exact this.yes i hi,fun e he=>let ⟨i,hi,q⟩:=this.all e he;⟨i,hi,by rw[<-i2 i hi];exact q⟩,fun a b h1 h2=>by rw[<-i2 a (by omega),<-i2 b h2];exact this.sort a b h1 h2⟩
  obtain⟨k2,e2,r1,r2,r3,r4,r5,r6,r7,r8,r9⟩:=uP i5 T2 hn0 hb2;have hbe:e2.bare=e1.bare:=by
   obtain⟨n',e',hf',hb'⟩:=i3.find i5 q1;rw[<-hh1,r1]at hf';cases hf'
   exact hb'
  obtain⟨b1,b2,b3,b4,b5,b6⟩:=dZ hbe;have hid1:e1.id=e2.id:=b1.symm;refine⟨?_,?_,?_,?_,?_,?_,?_⟩
  .show lT n m _++nI n (scrubN n m _)=lT n m _++nI n (scrubN n m _);rw[i1,hx1,hx2];unfold nI;rw[q1,r1];show _++[Wt.mk (bF e1.good) e1.slot (e1.blk (bF e1.good))]=_++[Wt.mk (bF e2.good) e2.slot (e2.blk (bF e2.good))];unfold Ent.blk;rw[b1,b2,b3,b4,b5,b6]
  .intro i hi;show(scrub1 n (scrubN n m _)).h i=(scrub1 n (scrubN n m _)).h i;rw[hx1,hx2,q8,r8];show bL x1.h _ _ i=bL x2.h _ _ i;unfold bL;rw[hmo];split
   .rw[oP q5 q6,oP r5 r6,yN hbe,b1,b2]
   .exact i2 i hi
  .show Tw (scrub1 n (scrubN n m _)).L (scrub1 n (scrubN n m _)).L;rw[hx1,hx2,q8,r8];have hme:(e2.mend (bF e2.good)).bare=(e1.mend (bF e1.good)).bare:=by
    unfold Ent.mend Ent.bare;simp only[b1,b2,b3,b4,b5,b6]
   refine Tw.of (fun y hy=>?_) fun y hy=>?_
   .rcases(oX i4 q3).1 hy with rfl|⟨y1,y2⟩
    .exact⟨_,(oX i5 r3).2 (.inl rfl),hme⟩
    .obtain⟨z,z1,z2⟩:=i3.get y1;exact⟨z,(oX i5 r3).2 (.inr ⟨z1,by rw[(dZ z2).1,b1];exact y2⟩),z2⟩
   .rcases(oX i5 r3).1 hy with rfl|⟨y1,y2⟩
    .exact⟨_,(oX i4 q3).2 (.inl rfl),hme.symm⟩
    .obtain⟨z,z1,z2⟩:=i3.symm.get y1;exact⟨z,(oX i4 q3).2 (.inr ⟨z1,by rw[(dZ z2).1,<-b1];exact y2⟩),z2⟩
  .show((scrub1 n (scrubN n m _)).L.map (·.id)).Nodup;rw[hx1,q8];have e:(x1.L.set k1 (e1.mend (bF e1.good))).map (·.id)=x1.L.map (·.id):=lK q3 rfl;show((x1.L.set k1 (e1.mend (bF e1.good))).map (·.id)).Nodup;rw[e];exact i4
  .show((scrub1 n (scrubN n m _)).L.map (·.id)).Nodup;rw[hx2,r8];have e:(x2.L.set k2 (e2.mend (bF e2.good))).map (·.id)=x2.L.map (·.id):=lK r3 rfl;show((x2.L.set k2 (e2.mend (bF e2.good))).map (·.id)).Nodup;rw[e];exact i5
  .show Tells (scrub1 n (scrubN n m _)).L n (scrub1 n (scrubN n m _)).h;rw[hx1];exact q9
  .show bE (scrub1 n (scrubN n m _)).h n+(m+1)=_;rw[hx1,q8];have hu:=yV x1.h (bY (fun j=>(x1.h j).bad) n) (bZ (e1.mend (bF e1.good))) n hlt;rw[oP q5 q6]at hu ⊢;rw[q4]at hb hu;simp only at hu ⊢;omega
def dN(c c':Nat->Nat->Nat->Nat)(d p:Nat):Nat:=if bT (c d p) (c' d p) 0 96=true then 0 else 1
def eO(f:Nat->Nat):Nat->Nat
 |0=>0
 |n+1=>eO f n+f n
def dO(nd nb:Nat)(c c':Nat->Nat->Nat->Nat):Nat:=eO (fun d=>eO (dN c c' d) nb) nd
theorem oF{f g:Nat->Nat} : ∀ n,(∀ i,i<n->f i=g i)->eO f n=eO g n
 |0,_=>rfl
 |n+1,h=>by
  unfold eO;rw[oF n fun i hi=>h i (by omega),h n (by omega)]
theorem yI{f g:Nat->Nat}{k m:Nat} : ∀ n,(∀ i,i≠k->f i=g i)->f k<=g k+m->eO f n<=eO g n+m
 |0,_,_=>Nat.zero_le _
 |n+1,h,hk=>by
  unfold eO;by_cases e:n=k
  .subst e;rw[oF n fun i hi=>h i (by omega)]
   omega
  .rw[h n e];have:=yI n h hk;omega
theorem Ww(nd nb:Nat)(c c':Nat->Nat->Nat->Nat)(d p:Nat)(b:Nat->Nat):dO nd nb c (bR c' d p b)<=dO nd nb c c'+1:=by
 unfold dO;refine yI (k:=d) nd (fun i hi=>?_) (yI (k:=p) nb (fun j hj=>?_) ?_)
 .show eO (dN c (bR c' d p b) i) nb=_;congr 1;funext j;unfold dN;rw[show bR c' d p b i j=c' i j from by funext x;unfold bR;rw[if_neg fun q=>hi q.1]]
 .unfold dN;rw[show bR c' d p b d j=c' d j from by funext x;unfold bR;rw[if_neg fun q=>hj q.2]]
 .unfold dN;repeat' split
  all_goals omega
theorem qL(nd nb:Nat)(c:Nat->Nat->Nat->Nat):dO nd nb c c=0:=by
 have h0:∀ n,eO (fun _=>0) n=0:=fun n=>by
  induction n with
  |zero=>rfl
  |succ n ih=>unfold eO;rw[ih]
 have h1:∀ d,dN c c d=fun _=>0:=fun d=>by
  funext p;unfold dN;rw[if_pos ((fL _ _ 96 0).2 fun _ _ _=>rfl)]
 unfold dO;simp only[h1,h0]
theorem zH(nd nb:Nat)(c0:Nat->Nat->Nat->Nat):∀ (W:List Wt) (c:Nat->Nat->Nat->Nat),dO nd nb c0 (app c W)<=dO nd nb c0 c+W.length
 |[],c=>Nat.le_refl _
 |x :: W,c=>by
  have h1:=zH nd nb c0 W (bR c x.d x.p x.b);have h2:=Ww nd nb c0 c x.d x.p x.b;show dO nd nb c0 (app (bR c x.d x.p x.b) W)<=_;rw[List.length_cons];omega
theorem Tv(nd nb:Nat)(c:Nat->Nat->Nat->Nat)(W:List Wt)(k:Nat):dO nd nb (app c (W.take k)) (app c (W.take (k+1)))<=1:=by
 by_cases h:k<W.length
 .have e:W.take (k+1)=W.take k++[W[k]]:=by simp
  rw[e,Ej];have:=zH nd nb (app c (W.take k)) [W[k]] (app c (W.take k));rw[qL]at this;simpa using this
 .rw[List.take_of_length_le (by omega),List.take_of_length_le (by omega),qL];omega
def Lb.it(l:Lb):It:=⟨l.id,l.size,l.val⟩
structure MidW(nb m:Nat)(c:Nat->Nat->Nat->Nat)(T:List It)(lb:Nat->Lb)(G:Nat->Nat->Bool)(E:Nat->Bool):Prop where
 byte:∀ d p i,c d p i<256
 slot:∀ p,p<nb->SlotK c p (lb p) (G p)
 ten:∀ p,p<nb->E p=true->10<=aN (G p) 14
 one:∀ p q,p<nb->q<nb->E p=true->E q=true->(lb p).id=(lb q).id->p=q
 max:∀ p,p<nb->E p=false->10<=aN (G p) 14->∃ q,q<nb∧E q=true∧(lb q).id=(lb p).id∧(lb p).turn<(lb q).turn
 turn:∀ p,p<nb->fQ (G p) 14=true->(lb p).turn<=m
 few:∀ p,p<nb->E p=true->(lb p).id∈[1,301,1201,2701,4801,7501]
 rep:∀ x,x∈T↔∃ p,p<nb∧E p=true∧(lb p).it=x
 srt:jW T
 len:T.length<=nb - 2
theorem Ik{G:Nat->Bool} : ∀ {n:Nat},fQ G n=false->aN G n=0
 |0,_=>rfl
 |n+1,h=>by
  rw[yT]at h;simp only[Bool.or_eq_false_iff]at h;rw[kU,Ik h.1,h.2];rfl
theorem Gc{lb:Nat->Lb}{G:Nat->Nat->Bool} : ∀ {q:Nat} {L:List Ent} {t:Nat},fZ lb G q L t->
  (∀ e∈L,∃ p,p<q∧e.bare=(lb p).ent p (aM (G p) 14)∧10<=aN (G p) 14∧∀ p',p'<q->10<=aN (G p') 14->(lb p').id=(lb p).id->(lb p').turn<=(lb p).turn)∧
  (∀ p,p<q->10<=aN (G p) 14->∃ e∈L,e.id=(lb p).id)∧(∀ m,(∀ p,p<q->fQ (G p) 14=true->(lb p).turn<=m)->t<=m)
 |0,L,t,h=>by
  obtain⟨rfl,rfl⟩:=h;exact⟨fun e he=>(by cases he),fun p hp=>(by omega),fun m _=>Nat.zero_le _⟩
 |q+1,L',t',⟨L,t,h1,h2⟩=>by
  obtain⟨i1,i2,i3⟩:=Gc h1;unfold Sv at h2;cases ha:fQ (G q) 14 with
  |false=>
   rw[if_neg (by rw[ha];decide)]at h2;obtain⟨rfl,rfl⟩:=h2;have h0:=Ik ha;refine⟨fun e he=>?_,fun p hp h10=>?_,fun m hm=>i3 m fun p hp=>hm p (by omega)⟩
   .obtain⟨p,q1,q2,q3,q4⟩:=i1 e he;refine⟨p,by omega,q2,q3,fun p' hp' h10=>?_⟩
    have:p'≠q:=fun e=>by subst e;omega
    exact q4 p' (by omega) h10
   .have:p≠q:=fun e=>by subst e;omega
    exact i2 p (by omega) h10
  |true=>
   rw[if_pos ha]at h2;obtain⟨rfl,h2⟩:=h2;have ht:∀ m,(∀ p,p<q+1->fQ (G p) 14=true->(lb p).turn<=m)->max t (lb q).turn<=m:=fun m hm=>Nat.max_le.2 ⟨i3 m fun p hp=>hm p (by omega),hm q (by omega) ha⟩
   cases hk:gL L (lb q) (G q) with
   |true=>
    rw[if_pos hk]at h2;obtain⟨clock,hP,rfl⟩:=h2;unfold gL at hk;rw[Bool.and_eq_true]at hk;obtain⟨k1,k2⟩:=hk;have k1:=of_decide_eq_true k1;rw[zG _ _ _ (Nat.le_refl _)]at k1;refine⟨fun e he=>?_,fun p hp h10=>?_,ht⟩
    .rcases hP.mem e he with⟨b,rfl⟩|⟨he,hne⟩
     .refine⟨q,by omega,rfl,k1,fun p' hp' h10 hid=>?_⟩
      by_cases e:p'=q
      .rw[e];exact Nat.le_refl _
      .obtain⟨e0,r1,r2⟩:=i2 p' (by omega) h10;cases hf:aL (lb q).id L 0 with
       |none=>exact absurd (r2.trans hid) (uG hf e0 r1)
       |some x=>
        rw[hf]at k2;have k2:=of_decide_eq_true k2;obtain⟨n,_,s2,s3⟩:=dY (show aL (lb q).id L 0=some (x.1,x.2) from hf);obtain⟨p1,t1,t2,t3,t4⟩:=i1 x.2 (List.mem_of_getElem? s2);obtain⟨b1,_,b3,_⟩:=dZ (e:=(lb p1).ent p1 (aM (G p1) 14)) t2;have b1':x.2.id=(lb p1).id:=b1;have b3':x.2.turn=(lb p1).turn:=b3;have:=t4 p' (by omega) h10 (by rw[hid,<-b1',s3]);omega
     .obtain⟨p,q1,q2,q3,q4⟩:=i1 e he;refine⟨p,by omega,q2,q3,fun p' hp' h10 hid=>?_⟩
      by_cases e':p'=q
      .subst e';exact absurd ((dZ (e:=(lb p).ent p (aM (G p) 14)) q2).1.trans hid.symm) hne
      .exact q4 p' (by omega) h10 hid
    .obtain⟨b,hb⟩:=hP.has;by_cases e:p=q
     .subst e;exact⟨_,hb,rfl⟩
     .obtain⟨e0,r1,r2⟩:=i2 p (by omega) h10;by_cases hi:e0.id=(lb q).id
      .exact⟨_,hb,hi.symm.trans r2⟩
      .exact⟨e0,uR r1 hi,r2⟩
   |false=>
    rw[if_neg (by rw[hk];decide)]at h2;subst h2;have hno:10<=aN (G q) 14->∃ x∈L',x.id=(lb q).id∧(lb q).turn<=x.turn:=fun h10=>by
     unfold gL at hk;rw[zG _ _ _ (Nat.le_refl _),decide_eq_true h10,Bool.true_and]at hk;cases hf:aL (lb q).id L' 0 with
     |none=>rw[hf]at hk;cases hk
     |some x=>
      rw[hf]at hk;have hk:=of_decide_eq_false hk;obtain⟨n,_,s2,s3⟩:=dY (show aL (lb q).id L' 0=some (x.1,x.2) from hf);exact⟨x.2,List.mem_of_getElem? s2,s3,by omega⟩
    refine⟨fun e he=>?_,fun p hp h10=>?_,ht⟩
    .obtain⟨p,q1,q2,q3,q4⟩:=i1 e he;refine⟨p,by omega,q2,q3,fun p' hp' h10 hid=>?_⟩
     by_cases e':p'=q
     .subst e';obtain⟨x,x1,x2,x3⟩:=hno h10;obtain⟨p1,t1,t2,t3,t4⟩:=i1 x x1;obtain⟨b1,_,b3,_⟩:=dZ (e:=(lb p1).ent p1 (aM (G p1) 14)) t2;have b1':x.id=(lb p1).id:=b1;have b3':x.turn=(lb p1).turn:=b3;have:=q4 p1 t1 t3 (by rw[<-b1',x2,hid]);omega
     .exact q4 p' (by omega) h10 hid
    .by_cases e:p=q
     .subst e;obtain⟨x,x1,x2,_⟩:=hno h10;exact⟨x,x1,x2⟩
     .exact i2 p (by omega) h10
section
variable {nb m:Nat}{c:Nat->Nat->Nat->Nat}{T T':List It}{lb:Nat->Lb}{G:Nat->Nat->Bool}{E:Nat->Bool}
theorem MidW.win(h:MidW nb m c T lb G E){L:List Ent}{t:Nat}(hS:fZ lb G nb L t):(∀ e∈L,∃ p,p<nb∧E p=true∧e.bare=(lb p).ent p (aM (G p) 14))∧(∀ p,p<nb->E p=true->∃ e∈L,e.bare=(lb p).ent p (aM (G p) 14))∧t<=m:=by
 obtain⟨i1,i2,i3⟩:=Gc hS;have key:∀ e∈L,∃ p,p<nb∧E p=true∧e.bare=(lb p).ent p (aM (G p) 14):=fun e he=>by
  obtain⟨p,q1,q2,q3,q4⟩:=i1 e he;cases hE:E p with
  |true=>exact⟨p,q1,hE,q2⟩
  |false=>
   obtain⟨q,r1,r2,r3,r4⟩:=h.max p q1 hE q3;have:=q4 q r1 (h.ten q r1 r2) r3;omega
 refine⟨key,fun p hp hE=>?_,i3 m fun p hp=>h.turn p hp⟩
 obtain⟨e,he,hid⟩:=i2 p hp (h.ten p hp hE);obtain⟨q,r1,r2,r3⟩:=key e he;have:q=p:=h.one q p r1 hp r2 hE ((dZ (e:=(lb q).ent q (aM (G q) 14)) r3).1.symm.trans hid);subst this;exact⟨e,he,r3⟩
end
