import Derived.Test.YtpiefebngnlfoabGreatDoorNk
set_option maxRecDepth 100000
set_option maxHeartbeats 16000000
set_option linter.unusedVariables false
set_option linter.unusedSimpArgs false
namespace Go.Proofs.YtpiefebngnlfoabGreatDoor
open Go.RowKit Go.Conc Go.Vw
structure Wt where
 d:Nat
 p:Nat
 b:Nat->Nat
def app(c:Nat->Nat->Nat->Nat):List Wt->Nat->Nat->Nat->Nat
 |[]=>c
 |x :: W=>app (bK c x.d x.p x.b) W
def Dsk.wrs(s:Dsk):List Wt->Dsk
 |[]=>s
 |x :: W=>(s.wr x.d x.p x.b).wrs W
theorem Cs:∀ (V W:List Wt) (c:Nat->Nat->Nat->Nat),app c (V++W)=app (app c V) W
 |[],_,_=>rfl
 |x :: V,W,c=>Cs V W _
theorem iR:∀ (V W:List Wt) (s:Dsk),s.wrs (V++W)=(s.wrs V).wrs W
 |[],_,_=>rfl
 |x :: V,W,s=>iR V W _
theorem iG:∀ (W:List Wt) (s:Dsk),s.wrs W=⟨app s.c W,app s.a (W.take s.left),s.left - W.length⟩
 |[],s=>by
  rw[List.take_nil];rfl
 |x :: W,s=>by
  show(s.wr x.d x.p x.b).wrs W=_;rw[iG W];obtain⟨c,a,l⟩:=s;cases l with
  |zero=>
   show Dsk.mk (app (bK c x.d x.p x.b) W) (app (if 0<0 then bK a x.d x.p x.b else a) (W.take (0 - 1))) (0 - 1 - W.length)=_;rw[if_neg (by omega),show 0 - 1=0 from rfl,List.take_zero,List.take_zero,Nat.zero_sub,Nat.zero_sub];rfl
  |succ n=>
   show Dsk.mk (app (bK c x.d x.p x.b) W) (app (if 0<n+1 then bK a x.d x.p x.b else a) (W.take (n+1 - 1))) (n+1 - 1 - W.length)=_;rw[if_pos (by omega),show n+1 - 1=n by omega,List.take_succ_cons,List.length_cons,show n+1 - (W.length+1)=n - W.length by omega];rfl
def zB:Nat->Nat:=fun _=>0
def jI(c:Nat->Nat->Nat->Nat)(p:Nat)(good:Nat->Bool)(last:Bool):Nat->List Wt
 |0=>[]
 |k+1=>jI c p good last k++if good k=last∧eqF (c k p) zB 0 96=false then [⟨k,p,zB⟩] else []
theorem xB{s:Dsk}{p:Nat}{good:Nat->Bool}{last:Bool}{d:Nat} : ∀ n,(good d≠last∨n<=d)->(blk1 s p good last n).c d p=s.c d p
 |0,_=>rfl
 |n+1,h=>by
  have ih:=xB (s:=s) (p:=p) n (h.imp id fun q=>by omega)
  unfold blk1;split
  .rename_i hq;rw[<-ih];funext i;show bK (blk1 s p good last n).c n p (fun _=>0) d p i=_;unfold bK;rw[if_neg];rintro⟨rfl,_⟩;rcases h with h|h
   .exact h hq.1
   .omega
  .exact ih
theorem tG{s:Dsk}{p:Nat}{good:Nat->Bool}{last:Bool} : ∀ n,blk1 s p good last n=s.wrs (jI s.c p good last n)
 |0=>rfl
 |n+1=>by
  unfold blk1 jI;rw[xB n (.inr (Nat.le_refl n))];show(if good n=last∧eqF (s.c n p) zB 0 96=false then _ else _)=_;split
  .rw[iR,<-tG n];rfl
  .rw[List.append_nil,tG n]
theorem rJ{c c':Nat->Nat->Nat->Nat}{p:Nat}{good:Nat->Bool}{last:Bool} : ∀ n,(∀ k,k<n->good k=last->c k p=c' k p)->jI c p good last n=jI c' p good last n
 |0,_=>rfl
 |n+1,h=>by
  unfold jI;rw[rJ n fun k hk=>h k (by omega)]
  by_cases q:good n=last
  .rw[h n (by omega) q]
  .rw[if_neg fun r=>q r.1,if_neg fun r=>q r.1]
def iJ(c:Nat->Nat->Nat->Nat)(p:Nat)(good:Nat->Bool):List Wt:=jI c p good false 14++jI c p good true 14
theorem rL{s:Dsk}{p:Nat}{good:Nat->Bool} : fD s p good=s.wrs (iJ s.c p good):=by
 unfold fD iJ;rw[tG,iR,rJ (c':=s.c) 14 fun k _ hg=>xB 14 (.inl (by rw[hg];decide)),<-tG]
theorem Ag{c c':Nat->Nat->Nat->Nat}{p:Nat}{good:Nat->Bool}(h:∀ k,k<14->c k p=c' k p):iJ c p good=iJ c' p good:=by
 unfold iJ;rw[rJ 14 fun k hk _=>h k hk,rJ 14 fun k hk _=>h k hk]
def oE(p:Nat)(B:Nat->Nat->Nat):Nat->List Wt
 |0=>[]
 |n+1=>oE p B n++[⟨n,p,B n⟩]
theorem xN{s:Dsk}{p:Nat}{B:Nat->Nat->Nat} : ∀ n,iX s p B n=s.wrs (oE p B n)
 |0=>rfl
 |n+1=>by
  unfold iX oE;rw[iR,<-xN n];rfl
def Ih(id size turn:Nat)(val:Nat->Nat)(k:Nat):Nat->Nat:=aR id size turn k ((size+9) / 10) (aW val size k)
def uR(c:Nat->Nat->Nat->Nat)(L:List Ent)(p id size turn:Nat)(val:Nat->Nat):List Wt:=
 oE p (Ih id size turn val) 14++match aJ id L 0 with
  |some (_,old)=>iJ c old.slot old.good
  |none=>[]
theorem Ev{s:Dsk}{L:List Ent}{p id size turn:Nat}{val:Nat->Nat}(hp:∀ e∈L,e.slot≠p):iL s L p id size turn val=s.wrs (uR s.c L p id size turn val):=by
 unfold iL uR;cases h:aJ id L 0 with
 |none=>
  rw[List.append_nil];exact xN 14
 |some q=>
  obtain⟨n,old⟩:=q;obtain⟨m,h1,h2,h3⟩:=dJ h;show fD (iX s p (Ih id size turn val) 14) old.slot old.good=_;rw[rL,iR,<-xN,Ag fun k hk=>?_]
  funext i;rw[pS,if_neg fun q=>hp old (List.mem_of_getElem? h2) q.1]
def jV(c:Nat->Nat->Nat->Nat)(t:Nat->Bool):Nat->List Wt
 |0=>[]
 |p+1=>jV c t p++if t p=true then [] else iJ c p fun _=>false
theorem Db{s:Dsk}{t:Nat->Bool}{d q:Nat} : ∀ n,n<=q->(cQ s t n).c d q=s.c d q
 |0,_=>rfl
 |n+1,h=>by
  have ih:=Db (s:=s) (t:=t) (d:=d) (q:=q) n (by omega);unfold cQ;split
  .exact ih
  .rw[jO (by omega)];exact ih
theorem oS{s:Dsk}{t:Nat->Bool} : ∀ n,cQ s t n=s.wrs (jV s.c t n)
 |0=>rfl
 |n+1=>by
  unfold cQ jV;split
  .rw[List.append_nil];exact oS n
  .rw[rL,iR,<-oS n,Ag fun k _=>Db n (Nat.le_refl n)]
theorem zZ{c:Nat->Nat->Nat->Nat}{t t':Nat->Bool} : ∀ n,(∀ p,p<n->t p=t' p)->jV c t n=jV c t' n
 |0,_=>rfl
 |n+1,h=>by
  unfold jV;rw[zZ n fun p hp=>h p (by omega),h n (by omega)]
def lZ(n:Nat)(x:Scb):List Wt:=match aJ (x.h (bQ (fun j=>(x.h j).bad) n)).id x.L 0 with
 |some (_,e)=>[⟨aZ e.good,e.slot,e.blk (aZ e.good)⟩]
 |none=>[]
theorem Mw{n:Nat}{x:Scb} : (scrub1 n x).s=x.s.wrs (lZ n x):=by
 unfold scrub1 lZ;cases aJ (x.h (bQ (fun j=>(x.h j).bad) n)).id x.L 0 with
 |none=>rfl
 |some q=>rfl
def kN(n:Nat):Nat->Scb->List Wt
 |0,_=>[]
 |m+1,x=>kN n m x++lZ n (scrubN n m x)
theorem qV{n:Nat}{x:Scb} : ∀ m,(scrubN n m x).s=x.s.wrs (kN n m x)
 |0=>rfl
 |m+1=>by
  unfold scrubN kN;rw[Mw,qV m,iR]
def Ent.bare(e:Ent):Ent:={e with born:=0}
def Tw(L L':List Ent):Prop:=∀ x,x∈L.map Ent.bare↔x∈L'.map Ent.bare
theorem Tw.symm{L L':List Ent}(h:Tw L L'):Tw L' L:=fun x=>(h x).symm
theorem Tw.get{L L':List Ent}(h:Tw L L'){e:Ent}(he:e∈L):∃ e'∈L',e'.bare=e.bare:=List.mem_map.1 ((h e.bare).1 (List.mem_map.2 ⟨e,he,rfl⟩))
theorem Tw.of{L L':List Ent}(h1:∀ e∈L,∃ e'∈L',e'.bare=e.bare)(h2:∀ e∈L',∃ e'∈L,e'.bare=e.bare):Tw L L':=fun x=>by
 constructor
 .intro hx;obtain⟨e,he,rfl⟩:=List.mem_map.1 hx;obtain⟨e',q1,q2⟩:=h1 e he;exact List.mem_map.2 ⟨e',q1,q2⟩
 .intro hx;obtain⟨e,he,rfl⟩:=List.mem_map.1 hx;obtain⟨e',q1,q2⟩:=h2 e he;exact List.mem_map.2 ⟨e',q1,q2⟩
theorem dK{e e':Ent}(h:e'.bare=e.bare):e'.id=e.id∧e'.size=e.size∧e'.turn=e.turn∧e'.slot=e.slot∧e'.val=e.val∧e'.good=e.good:=by
 have h':Ent.mk e'.id e'.size e'.turn e'.slot e'.val e'.good 0=Ent.mk e.id e.size e.turn e.slot e.val e.good 0:=h;simpa using h'
theorem Tw.find{L L':List Ent}(h:Tw L L')(hn':(L'.map (·.id)).Nodup){id n:Nat}{e:Ent}(hf:aJ id L 0=some (n,e)):∃ n' e',aJ id L' 0=some (n',e')∧e'.bare=e.bare:=by
 obtain⟨m,h1,h2,h3⟩:=dJ hf;obtain⟨e',q1,q2⟩:=h.get (List.mem_of_getElem? h2);obtain⟨n',q3⟩:=sQ hn' q1;rw[(dK q2).1,h3]at q3;exact⟨n',e',q3,q2⟩
theorem Tw.findN{L L':List Ent}(h:Tw L L')(hn:(L.map (·.id)).Nodup){id:Nat}(hf:aJ id L 0=none):aJ id L' 0=none:=by
 cases q:aJ id L' 0 with
 |none=>rfl
 |some x=>
  obtain⟨n',e',h1,_⟩:=h.symm.find hn (show aJ id L' 0=some (x.1,x.2) from q);rw[hf]at h1;cases h1
theorem Tw.len{L L':List Ent}(h:Tw L L')(hn:(L.map (·.id)).Nodup)(hn':(L'.map (·.id)).Nodup):L.length=L'.length:=by
 have key:∀ {A B:List Ent},Tw A B->(A.map (·.id)).Nodup->A.length<=B.length:=fun {A B} hT hA=>by
  have:=oK (l:=A.map (·.id)) (m:=B.map (·.id)) hA fun x hx=>by
   obtain⟨e,he,rfl⟩:=List.mem_map.1 hx;obtain⟨e',q1,q2⟩:=hT.get he;exact List.mem_map.2 ⟨e',q1,(dK q2).1⟩
  rwa [List.length_map,List.length_map]at this
 exact Nat.le_antisymm (key h hn) (key h.symm hn')
theorem Tw.full{L L':List Ent}(h:Tw L L')(hn:(L.map (·.id)).Nodup)(hn':(L'.map (·.id)).Nodup)(nb id:Nat):fQ L nb id=fQ L' nb id:=by
 unfold fQ;rw[h.len hn hn'];cases q:aJ id L 0 with
 |none=>rw[h.findN hn q]
 |some x=>
  obtain⟨n',e',h1,_⟩:=h.find hn' (show aJ id L 0=some (x.1,x.2) from q);rw[h1];rfl
theorem Tw.free{L L':List Ent}(h:Tw L L'){nb p p':Nat}(hp:kU L nb p)(hp':kU L' nb p'):p=p':=by
 have key:∀ {A B:List Ent} {a b:Nat},Tw A B->kU A nb a->kU B nb b->¬a<b:=fun {A B a b} hT hA hB hlt=>by
  obtain⟨e,he,q⟩:=hB.2.2 a hlt;obtain⟨e',q1,q2⟩:=hT.symm.get he;exact hA.2.1 e' q1 ((dK q2).2.2.2.1.trans q)
 have h1:=key h hp hp';have h2:=key h.symm hp' hp;omega
theorem Tw.tak{L L':List Ent}(h:Tw L L')(p:Nat):bT L p=bT L' p:=by
 have key:∀ {A B:List Ent},Tw A B->bT A p=true->bT B p=true:=fun {A B} hT hA=>by
  obtain⟨e,he,q⟩:=eL.1 hA;obtain⟨e',q1,q2⟩:=hT.get he;exact eL.2 ⟨e',q1,(dK q2).2.2.2.1.trans q⟩
 cases h1:bT L p with
 |true=>exact(key h h1).symm
 |false=>
  cases h2:bT L' p with
  |false=>rfl
  |true=>rw[key h.symm h2]at h1;cases h1
theorem Tw.put{L L':List Ent}(h:Tw L L'){e:Ent}{c c':Nat}(hP:PutOk L e c)(hP':PutOk L' e c'):Tw (bH L e c) (bH L' e c'):=by
 have key:∀ {A B:List Ent} {a b:Nat},Tw A B->PutOk A e a->PutOk B e b->∀ x∈bH A e a,∃ y∈bH B e b,y.bare=x.bare:=fun {A B a b} hT hA hB x hx=>by
  rcases hA.mem x hx with⟨b',rfl⟩|⟨q1,q2⟩
  .obtain⟨b',hb⟩:=hB.has;exact⟨_,hb,rfl⟩
  .obtain⟨y,q3,q4⟩:=hT.get q1;exact⟨y,sL q3 (by rw[(dK q4).1];exact q2),q4⟩
 exact Tw.of (key h hP hP') (key h.symm hP' hP)
theorem Tw.del{L L':List Ent}(h:Tw L L')(hn:(L.map (·.id)).Nodup)(hn':(L'.map (·.id)).Nodup){id n:Nat}{e:Ent}(hf:aJ id L 0=some (n,e)):Tw (eG L id) (eG L' id):=by
 obtain⟨n',e',hf',_⟩:=h.find hn' hf;refine Tw.of (fun x hx=>?_) fun x hx=>?_
 .obtain⟨q1,q2⟩:=(kJ hn hf).1 hx;obtain⟨y,q3,q4⟩:=h.get q1;exact⟨y,(kJ hn' hf').2 ⟨q3,by rw[(dK q4).1];exact q2⟩,q4⟩
 .obtain⟨q1,q2⟩:=(kJ hn' hf').1 hx;obtain⟨y,q3,q4⟩:=h.symm.get q1;exact⟨y,(kJ hn hf).2 ⟨q3,by rw[(dK q4).1];exact q2⟩,q4⟩
theorem wY{e e':Ent}(h:e'.bare=e.bare):bR e'=bR e:=by
 obtain⟨h1,h2,_,_,_,h6⟩:=dK h;unfold bR;rw[h1,h2,h6]
theorem Tells.tw{L L':List Ent}{n:Nat}{h:Nat->Hl}(H:Tells L n h)(hT:Tw L L'):Tells L' n h:=by
 refine⟨fun i hi=>?_,fun e he=>?_,H.sort⟩
 .obtain⟨e,he,q⟩:=H.yes i hi;obtain⟨e',q1,q2⟩:=hT.get he;exact⟨e',q1,by rw[q,wY q2]⟩
 .obtain⟨e',q1,q2⟩:=hT.symm.get he;obtain⟨i,hi,q⟩:=H.all e' q1;exact⟨i,hi,by rw[q,wY q2]⟩
def Wk(nb:Nat)(c:Nat->Nat->Nat->Nat)(L:List Ent)(turn:Nat)(a:Ac)(W:List Wt):Prop:=
 W=[]∨(∃ n e,a.gone=true∧aJ (idN a.c) L 0=some (n,e)∧W=iJ c e.slot e.good)∨(a.gone=false∧fQ L nb (idN a.c)=false∧∃ p,kU L nb p∧W=uR c L p (idN a.c) (min a.len 400) (turn+1) a.val)
theorem Did.twin{nb turn err err' t t':Nat}{s1 s2 s1' s2':Dsk}{L1 L2 L1' L2':List Ent}{a:Ac}(hc:s1.c=s2.c)(hT:Tw L1 L2)(hn1:(L1.map (·.id)).Nodup)(hn2:(L2.map (·.id)).Nodup)(h1:Did nb s1 L1 turn a err s1' L1' t)(h2:Did nb s2 L2 turn a err' s2' L2' t') :
  err=err'∧t=t'∧Tw L1' L2'∧∃ W,s1'=s1.wrs W∧s2'=s2.wrs W∧Wk nb s1.c L1 turn a W:=by
 unfold Did at h1 h2;by_cases hg:a.gone=true
 .rw[if_pos hg]at h1 h2;cases hf:aJ (idN a.c) L1 0 with
  |none=>
   rw[hf]at h1;rw[hT.findN hn1 hf]at h2;obtain⟨rfl,rfl,rfl,rfl⟩:=h1;obtain⟨rfl,rfl,rfl,rfl⟩:=h2;exact⟨rfl,rfl,hT,[],rfl,rfl,.inl rfl⟩
  |some q=>
   obtain⟨n,e⟩:=q;obtain⟨n',e',hf',hb⟩:=hT.find hn2 hf;rw[hf]at h1;rw[hf']at h2;obtain⟨rfl,rfl,rfl,rfl⟩:=h1;obtain⟨rfl,rfl,rfl,rfl⟩:=h2;obtain⟨_,_,_,b4,_,b6⟩:=dK hb;refine⟨rfl,rfl,hT.del hn1 hn2 hf,iJ s1.c e.slot e.good,rL,?_,.inr (.inl ⟨n,e,hg,hf,rfl⟩)⟩;show fD s2 e'.slot e'.good=_;rw[b4,b6,hc];exact rL
 .rw[if_neg hg]at h1 h2;rw[<-hT.full hn1 hn2]at h2;by_cases hf:fQ L1 nb (idN a.c)=true
  .rw[if_pos hf]at h1 h2;obtain⟨rfl,rfl,rfl,rfl⟩:=h1;obtain⟨rfl,rfl,rfl,rfl⟩:=h2;exact⟨rfl,rfl,hT,[],rfl,rfl,.inl rfl⟩
  .rw[if_neg hf]at h1 h2;obtain⟨rfl,rfl,p,c,hF,hP,rfl,rfl⟩:=h1;obtain⟨rfl,rfl,p',c',hF',hP',rfl,rfl⟩:=h2;obtain rfl:=hT.free hF hF';refine⟨rfl,rfl,hT.put hP hP',_,Ev hF.2.1,?_,.inr (.inr ⟨by simpa using hg,by simpa using hf,p,hF,rfl⟩)⟩;rw[Ev hF'.2.1];congr 1;unfold uR;rw[hc];cases hf:aJ (idN a.c) L1 0 with
   |none=>rw[hT.findN hn1 hf]
   |some q=>
    obtain⟨n,e⟩:=q;obtain⟨n',e',hf',hb⟩:=hT.find hn2 hf;obtain⟨_,_,_,b4,_,b6⟩:=dK hb;rw[hf'];show _++iJ s2.c e'.slot e'.good=_++iJ s2.c e.slot e.good;rw[b4,b6]
theorem Svs.twin{lf:Nat->Lb}{Gf:Nat->Nat->Bool} : ∀ {q:Nat} {L L':List Ent} {t t':Nat},Svs lf Gf q L t->Svs lf Gf q L' t'->(L.map (·.id)).Nodup->(L'.map (·.id)).Nodup->Tw L L'∧t=t'
 |0,L,L',t,t',h,h',_,_=>by
  obtain⟨rfl,rfl⟩:=h;obtain⟨rfl,rfl⟩:=h';exact⟨fun _=>Iff.rfl,rfl⟩
 |q+1,L',M',t',u',⟨L,t,h1,h2⟩,⟨M,u,h3,h4⟩,n1,n2=>by
  have nod:∀ {A B:List Ent} {a b:Nat},Svs lf Gf q A a->Sv A a q (lf q) (Gf q) B b->(B.map (·.id)).Nodup->(A.map (·.id)).Nodup:=fun {A B a b} _ hS hB=>by
   unfold Sv at hS;split at hS
   .obtain⟨_,hS⟩:=hS;split at hS
    .obtain⟨c,hP,rfl⟩:=hS;rw[hP.ids]at hB;split at hB
     .exact hB
     .exact(List.nodup_append.1 hB).1
    .rw[hS]at hB;exact hB
   .rw[hS.2]at hB;exact hB
  have m1:=nod h1 h2 n1;have m2:=nod h3 h4 n2;obtain⟨hT,rfl⟩:=Svs.twin h1 h3 m1 m2;have htk:fM L (lf q) (Gf q)=fM M (lf q) (Gf q):=by
   unfold fM;cases hf:aJ (lf q).id L 0 with
   |none=>rw[hT.findN m1 hf]
   |some x=>
    obtain⟨n',e',hf',hb⟩:=hT.find m2 (show aJ (lf q).id L 0=some (x.1,x.2) from hf);rw[hf'];show _=(_&&decide (e'.turn<_));rw[(dK hb).2.2.1]
  unfold Sv at h2 h4;by_cases ha:eZ (Gf q) 14=true
  .rw[if_pos ha]at h2 h4;obtain⟨rfl,h2⟩:=h2;obtain⟨rfl,h4⟩:=h4;rw[<-htk]at h4;by_cases hk:fM L (lf q) (Gf q)=true
   .rw[if_pos hk]at h2 h4;obtain⟨c,hP,rfl⟩:=h2;obtain⟨c',hP',rfl⟩:=h4;exact⟨hT.put hP hP',rfl⟩
   .rw[if_neg hk]at h2 h4;rw[h2,h4];exact⟨hT,rfl⟩
  .rw[if_neg ha]at h2 h4;rw[h2.1,h2.2,h4.1,h4.2];exact⟨hT,rfl⟩
theorem Bb{b b':Nat->Nat} : ∀ n,(∀ i,i<n->b i=b' i)->bQ b n=bQ b' n
 |0,_=>rfl
 |n+1,h=>by
  unfold bQ;have ih:=Bb n fun i hi=>h i (by omega)
  rw[ih,h n (by omega)];by_cases q:0<n
  .rw[h (bQ b' n) (by have:=nJ b' n q;omega)]
  .obtain rfl:n=0:=by omega
   have e:bQ b' 0=0:=rfl;rw[e,h 0 (by omega)]
theorem nL{L:List Ent}(hn:(L.map (·.id)).Nodup){n:Nat}{e x:Ent}(he:L[n]?=some e){y:Ent} : y∈L.set n x↔y=x∨(y∈L∧y.id≠e.id):=by
 constructor
 .intro hy;obtain⟨i,hi⟩:=List.mem_iff_getElem?.1 hy;rw[List.getElem?_set]at hi;by_cases q:n=i
  .rw[if_pos q]at hi;split at hi
   .exact .inl (Option.some.inj hi).symm
   .cases hi
  .rw[if_neg q]at hi;refine .inr ⟨List.mem_of_getElem? hi,fun r=>q ?_⟩
   have e1:(L.map (·.id))[n]?=(L.map (·.id))[i]?:=by rw[List.getElem?_map,List.getElem?_map,hi,he];exact congrArg some r.symm
   exact(List.getElem?_inj (by rw[List.length_map];exact(List.getElem?_eq_some_iff.1 he).1) hn).1 e1
 .rintro(rfl|⟨h1,h2⟩)
  .exact List.mem_set (List.getElem?_eq_some_iff.1 he).1 _
  .obtain⟨i,hi⟩:=List.mem_iff_getElem?.1 h1;refine List.mem_iff_getElem?.2 ⟨i,?_⟩;rw[List.getElem?_set,if_neg,hi];rintro rfl;rw[he]at hi;cases hi
   exact h2 rfl
theorem Aq{n:Nat}{s1 s2:Dsk}{h1 h2:Nat->Hl}{L1 L2:List Ent}(hh:∀ i,i<n->h1 i=h2 i)(hT:Tw L1 L2)(hn1:(L1.map (·.id)).Nodup)(hn2:(L2.map (·.id)).Nodup)(hz:Tells L1 n h1):∀ m,m<=aY h1 n->kN n m ⟨h1,s1,L1⟩=kN n m ⟨h2,s2,L2⟩∧(∀ i,i<n->(scrubN n m ⟨h1,s1,L1⟩).h i=(scrubN n m ⟨h2,s2,L2⟩).h i)∧Tw (scrubN n m ⟨h1,s1,L1⟩).L (scrubN n m ⟨h2,s2,L2⟩).L∧((scrubN n m ⟨h1,s1,L1⟩).L.map (·.id)).Nodup∧((scrubN n m ⟨h2,s2,L2⟩).L.map (·.id)).Nodup∧Tells (scrubN n m ⟨h1,s1,L1⟩).L n (scrubN n m ⟨h1,s1,L1⟩).h∧aY (scrubN n m ⟨h1,s1,L1⟩).h n+m=aY h1 n
 |0,_=>⟨rfl,hh,hT,hn1,hn2,hz,rfl⟩
 |m+1,hm=>by
  obtain⟨i1,i2,i3,i4,i5,i6,i7⟩:=Aq (s1:=s1) (s2:=s2) hh hT hn1 hn2 hz m (by omega);generalize hx1:scrubN n m ⟨h1,s1,L1⟩=x1 at i2 i3 i4 i6 i7;generalize hx2:scrubN n m ⟨h2,s2,L2⟩=x2 at i2 i3 i5;obtain⟨hn0,hb⟩:=xH (show 0<aY x1.h n by omega);have hmo:bQ (fun j=>(x2.h j).bad) n=bQ (fun j=>(x1.h j).bad) n:=Bb n fun i hi=>by rw[i2 i hi]
  have hlt:=nJ (fun j=>(x1.h j).bad) n hn0;have hh1:x2.h (bQ (fun j=>(x2.h j).bad) n)=x1.h (bQ (fun j=>(x1.h j).bad) n):=by rw[hmo,i2 _ hlt]
  have hb2:0<(x2.h (bQ (fun j=>(x2.h j).bad) n)).bad:=by rw[hh1];exact hb
  obtain⟨k1,e1,q1,q2,q3,q4,q5,q6,q7,q8,q9⟩:=sJ i4 i6 hn0 hb;have T2:Tells x2.L n x2.h:=by
   have:=i6.tw i3;exact⟨fun i hi=>by rw[<-i2 i hi];exact this.yes i hi,fun e he=>let ⟨i,hi,q⟩:=this.all e he;⟨i,hi,by rw[<-i2 i hi];exact q⟩,fun a b h1 h2=>by rw[<-i2 a (by omega),<-i2 b h2];exact this.sort a b h1 h2⟩
  obtain⟨k2,e2,r1,r2,r3,r4,r5,r6,r7,r8,r9⟩:=sJ i5 T2 hn0 hb2;have hbe:e2.bare=e1.bare:=by
   obtain⟨n',e',hf',hb'⟩:=i3.find i5 q1;rw[<-hh1,r1]at hf';cases hf'
   exact hb'
  obtain⟨b1,b2,b3,b4,b5,b6⟩:=dK hbe;have hid1:e1.id=e2.id:=b1.symm;refine⟨?_,?_,?_,?_,?_,?_,?_⟩
  .show kN n m _++lZ n (scrubN n m _)=kN n m _++lZ n (scrubN n m _);rw[i1,hx1,hx2];unfold lZ;rw[q1,r1];show _++[Wt.mk (aZ e1.good) e1.slot (e1.blk (aZ e1.good))]=_++[Wt.mk (aZ e2.good) e2.slot (e2.blk (aZ e2.good))];unfold Ent.blk;rw[b1,b2,b3,b4,b5,b6]
  .intro i hi;show(scrub1 n (scrubN n m _)).h i=(scrub1 n (scrubN n m _)).h i;rw[hx1,hx2,q8,r8];show bE x1.h _ _ i=bE x2.h _ _ i;unfold bE;rw[hmo];split
   .rw[mZ q5 q6,mZ r5 r6,wY hbe,b1,b2]
   .exact i2 i hi
  .show Tw (scrub1 n (scrubN n m _)).L (scrub1 n (scrubN n m _)).L;rw[hx1,hx2,q8,r8];have hme:(e2.mend (aZ e2.good)).bare=(e1.mend (aZ e1.good)).bare:=by
    unfold Ent.mend Ent.bare;simp only[b1,b2,b3,b4,b5,b6]
   refine Tw.of (fun y hy=>?_) fun y hy=>?_
   .rcases(nL i4 q3).1 hy with rfl|⟨y1,y2⟩
    .exact⟨_,(nL i5 r3).2 (.inl rfl),hme⟩
    .obtain⟨z,z1,z2⟩:=i3.get y1;exact⟨z,(nL i5 r3).2 (.inr ⟨z1,by rw[(dK z2).1,b1];exact y2⟩),z2⟩
   .rcases(nL i5 r3).1 hy with rfl|⟨y1,y2⟩
    .exact⟨_,(nL i4 q3).2 (.inl rfl),hme.symm⟩
    .obtain⟨z,z1,z2⟩:=i3.symm.get y1;exact⟨z,(nL i4 q3).2 (.inr ⟨z1,by rw[(dK z2).1,<-b1];exact y2⟩),z2⟩
  .show((scrub1 n (scrubN n m _)).L.map (·.id)).Nodup;rw[hx1,q8];have e:(x1.L.set k1 (e1.mend (aZ e1.good))).map (·.id)=x1.L.map (·.id):=kE q3 rfl;show((x1.L.set k1 (e1.mend (aZ e1.good))).map (·.id)).Nodup;rw[e];exact i4
  .show((scrub1 n (scrubN n m _)).L.map (·.id)).Nodup;rw[hx2,r8];have e:(x2.L.set k2 (e2.mend (aZ e2.good))).map (·.id)=x2.L.map (·.id):=kE r3 rfl;show((x2.L.set k2 (e2.mend (aZ e2.good))).map (·.id)).Nodup;rw[e];exact i5
  .show Tells (scrub1 n (scrubN n m _)).L n (scrub1 n (scrubN n m _)).h;rw[hx1];exact q9
  .show aY (scrub1 n (scrubN n m _)).h n+(m+1)=_;rw[hx1,q8];have hu:=xG x1.h (bQ (fun j=>(x1.h j).bad) n) (bR (e1.mend (aZ e1.good))) n hlt;rw[mZ q5 q6]at hu ⊢;rw[q4]at hb hu;simp only at hu ⊢;omega
def dA(c c':Nat->Nat->Nat->Nat)(d p:Nat):Nat:=if eqF (c d p) (c' d p) 0 96=true then 0 else 1
def dS(f:Nat->Nat):Nat->Nat
 |0=>0
 |n+1=>dS f n+f n
def dB(nd nb:Nat)(c c':Nat->Nat->Nat->Nat):Nat:=dS (fun d=>dS (dA c c' d) nb) nd
theorem mP{f g:Nat->Nat} : ∀ n,(∀ i,i<n->f i=g i)->dS f n=dS g n
 |0,_=>rfl
 |n+1,h=>by
  unfold dS;rw[mP n fun i hi=>h i (by omega),h n (by omega)]
theorem wS{f g:Nat->Nat}{k m:Nat} : ∀ n,(∀ i,i≠k->f i=g i)->f k<=g k+m->dS f n<=dS g n+m
 |0,_,_=>Nat.zero_le _
 |n+1,h,hk=>by
  unfold dS;by_cases e:n=k
  .subst e;rw[mP n fun i hi=>h i (by omega)]
   omega
  .rw[h n e];have:=wS n h hk;omega
theorem Vb(nd nb:Nat)(c c':Nat->Nat->Nat->Nat)(d p:Nat)(b:Nat->Nat):dB nd nb c (bK c' d p b)<=dB nd nb c c'+1:=by
 unfold dB;refine wS (k:=d) nd (fun i hi=>?_) (wS (k:=p) nb (fun j hj=>?_) ?_)
 .show dS (dA c (bK c' d p b) i) nb=_;congr 1;funext j;unfold dA;rw[show bK c' d p b i j=c' i j from by funext x;unfold bK;rw[if_neg fun q=>hi q.1]]
 .unfold dA;rw[show bK c' d p b d j=c' d j from by funext x;unfold bK;rw[if_neg fun q=>hj q.2]]
 .unfold dA;repeat' split
  all_goals omega
theorem pA(nd nb:Nat)(c:Nat->Nat->Nat->Nat):dB nd nb c c=0:=by
 have h0:∀ n,dS (fun _=>0) n=0:=fun n=>by
  induction n with
  |zero=>rfl
  |succ n ih=>unfold dS;rw[ih]
 have h1:∀ d,dA c c d=fun _=>0:=fun d=>by
  funext p;unfold dA;rw[if_pos ((eR _ _ 96 0).2 fun _ _ _=>rfl)]
 unfold dB;simp only[h1,h0]
theorem xR(nd nb:Nat)(c0:Nat->Nat->Nat->Nat):∀ (W:List Wt) (c:Nat->Nat->Nat->Nat),dB nd nb c0 (app c W)<=dB nd nb c0 c+W.length
 |[],c=>Nat.le_refl _
 |x :: W,c=>by
  have h1:=xR nd nb c0 W (bK c x.d x.p x.b);have h2:=Vb nd nb c0 c x.d x.p x.b;show dB nd nb c0 (app (bK c x.d x.p x.b) W)<=_;rw[List.length_cons];omega
theorem Sd(nd nb:Nat)(c:Nat->Nat->Nat->Nat)(W:List Wt)(k:Nat):dB nd nb (app c (W.take k)) (app c (W.take (k+1)))<=1:=by
 by_cases h:k<W.length
 .have e:W.take (k+1)=W.take k++[W[k]]:=by simp
  rw[e,Cs];have:=xR nd nb (app c (W.take k)) [W[k]] (app c (W.take k));rw[pA]at this;simpa using this
 .rw[List.take_of_length_le (by omega),List.take_of_length_le (by omega),pA];omega
def Lb.it(l:Lb):It:=⟨l.id,l.size,l.val⟩
structure MidW(nb m:Nat)(c:Nat->Nat->Nat->Nat)(T:List It)(lb:Nat->Lb)(G:Nat->Nat->Bool)(E:Nat->Bool):Prop where
 byte:∀ d p i,c d p i<256
 slot:∀ p,p<nb->SlotK c p (lb p) (G p)
 ten:∀ p,p<nb->E p=true->10<=aK (G p) 14
 one:∀ p q,p<nb->q<nb->E p=true->E q=true->(lb p).id=(lb q).id->p=q
 max:∀ p,p<nb->E p=false->10<=aK (G p) 14->∃ q,q<nb∧E q=true∧(lb q).id=(lb p).id∧(lb p).turn<(lb q).turn
 turn:∀ p,p<nb->eZ (G p) 14=true->(lb p).turn<=m
 few:∀ p,p<nb->E p=true->(lb p).id∈[1,301,1201,2701,4801,7501]
 rep:∀ x,x∈T↔∃ p,p<nb∧E p=true∧(lb p).it=x
 srt:Srt T
 len:T.length<=nb - 2
theorem Gq{G:Nat->Bool} : ∀ {n:Nat},eZ G n=false->aK G n=0
 |0,_=>rfl
 |n+1,h=>by
  rw[xE]at h;simp only[Bool.or_eq_false_iff]at h;rw[jQ,Gq h.1,h.2];rfl
theorem El{lb:Nat->Lb}{G:Nat->Nat->Bool} : ∀ {q:Nat} {L:List Ent} {t:Nat},Svs lb G q L t->
  (∀ e∈L,∃ p,p<q∧e.bare=(lb p).ent p (upG (G p) 14)∧10<=aK (G p) 14∧∀ p',p'<q->10<=aK (G p') 14->(lb p').id=(lb p).id->(lb p').turn<=(lb p).turn)∧
  (∀ p,p<q->10<=aK (G p) 14->∃ e∈L,e.id=(lb p).id)∧(∀ m,(∀ p,p<q->eZ (G p) 14=true->(lb p).turn<=m)->t<=m)
 |0,L,t,h=>by
  obtain⟨rfl,rfl⟩:=h;exact⟨fun e he=>(by cases he),fun p hp=>(by omega),fun m _=>Nat.zero_le _⟩
 |q+1,L',t',⟨L,t,h1,h2⟩=>by
  obtain⟨i1,i2,i3⟩:=El h1;unfold Sv at h2;cases ha:eZ (G q) 14 with
  |false=>
   rw[if_neg (by rw[ha];decide)]at h2;obtain⟨rfl,rfl⟩:=h2;have h0:=Gq ha;refine⟨fun e he=>?_,fun p hp h10=>?_,fun m hm=>i3 m fun p hp=>hm p (by omega)⟩
   .obtain⟨p,q1,q2,q3,q4⟩:=i1 e he;refine⟨p,by omega,q2,q3,fun p' hp' h10=>?_⟩
    have:p'≠q:=fun e=>by subst e;omega
    exact q4 p' (by omega) h10
   .have:p≠q:=fun e=>by subst e;omega
    exact i2 p (by omega) h10
  |true=>
   rw[if_pos ha]at h2;obtain⟨rfl,h2⟩:=h2;have ht:∀ m,(∀ p,p<q+1->eZ (G p) 14=true->(lb p).turn<=m)->max t (lb q).turn<=m:=fun m hm=>Nat.max_le.2 ⟨i3 m fun p hp=>hm p (by omega),hm q (by omega) ha⟩
   cases hk:fM L (lb q) (G q) with
   |true=>
    rw[if_pos hk]at h2;obtain⟨clock,hP,rfl⟩:=h2;unfold fM at hk;rw[Bool.and_eq_true]at hk;obtain⟨k1,k2⟩:=hk;have k1:=of_decide_eq_true k1;rw[xQ _ _ _ (Nat.le_refl _)]at k1;refine⟨fun e he=>?_,fun p hp h10=>?_,ht⟩
    .rcases hP.mem e he with⟨b,rfl⟩|⟨he,hne⟩
     .refine⟨q,by omega,rfl,k1,fun p' hp' h10 hid=>?_⟩
      by_cases e:p'=q
      .rw[e];exact Nat.le_refl _
      .obtain⟨e0,r1,r2⟩:=i2 p' (by omega) h10;cases hf:aJ (lb q).id L 0 with
       |none=>exact absurd (r2.trans hid) (rI hf e0 r1)
       |some x=>
        rw[hf]at k2;have k2:=of_decide_eq_true k2;obtain⟨n,_,s2,s3⟩:=dJ (show aJ (lb q).id L 0=some (x.1,x.2) from hf);obtain⟨p1,t1,t2,t3,t4⟩:=i1 x.2 (List.mem_of_getElem? s2);obtain⟨b1,_,b3,_⟩:=dK (e:=(lb p1).ent p1 (upG (G p1) 14)) t2;have b1':x.2.id=(lb p1).id:=b1;have b3':x.2.turn=(lb p1).turn:=b3;have:=t4 p' (by omega) h10 (by rw[hid,<-b1',s3]);omega
     .obtain⟨p,q1,q2,q3,q4⟩:=i1 e he;refine⟨p,by omega,q2,q3,fun p' hp' h10 hid=>?_⟩
      by_cases e':p'=q
      .subst e';exact absurd ((dK (e:=(lb p).ent p (upG (G p) 14)) q2).1.trans hid.symm) hne
      .exact q4 p' (by omega) h10 hid
    .obtain⟨b,hb⟩:=hP.has;by_cases e:p=q
     .subst e;exact⟨_,hb,rfl⟩
     .obtain⟨e0,r1,r2⟩:=i2 p (by omega) h10;by_cases hi:e0.id=(lb q).id
      .exact⟨_,hb,hi.symm.trans r2⟩
      .exact⟨e0,sL r1 hi,r2⟩
   |false=>
    rw[if_neg (by rw[hk];decide)]at h2;subst h2;have hno:10<=aK (G q) 14->∃ x∈L',x.id=(lb q).id∧(lb q).turn<=x.turn:=fun h10=>by
     unfold fM at hk;rw[xQ _ _ _ (Nat.le_refl _),decide_eq_true h10,Bool.true_and]at hk;cases hf:aJ (lb q).id L' 0 with
     |none=>rw[hf]at hk;cases hk
     |some x=>
      rw[hf]at hk;have hk:=of_decide_eq_false hk;obtain⟨n,_,s2,s3⟩:=dJ (show aJ (lb q).id L' 0=some (x.1,x.2) from hf);exact⟨x.2,List.mem_of_getElem? s2,s3,by omega⟩
    refine⟨fun e he=>?_,fun p hp h10=>?_,ht⟩
    .obtain⟨p,q1,q2,q3,q4⟩:=i1 e he;refine⟨p,by omega,q2,q3,fun p' hp' h10 hid=>?_⟩
     by_cases e':p'=q
     .subst e';obtain⟨x,x1,x2,x3⟩:=hno h10;obtain⟨p1,t1,t2,t3,t4⟩:=i1 x x1;obtain⟨b1,_,b3,_⟩:=dK (e:=(lb p1).ent p1 (upG (G p1) 14)) t2;have b1':x.id=(lb p1).id:=b1;have b3':x.turn=(lb p1).turn:=b3;have:=q4 p1 t1 t3 (by rw[<-b1',x2,hid]);omega
     .exact q4 p' (by omega) h10 hid
    .by_cases e:p=q
     .subst e;obtain⟨x,x1,x2,_⟩:=hno h10;exact⟨x,x1,x2⟩
     .exact i2 p (by omega) h10
section
variable {nb m:Nat}{c:Nat->Nat->Nat->Nat}{T T':List It}{lb:Nat->Lb}{G:Nat->Nat->Bool}{E:Nat->Bool}
theorem MidW.win(h:MidW nb m c T lb G E){L:List Ent}{t:Nat}(hS:Svs lb G nb L t):(∀ e∈L,∃ p,p<nb∧E p=true∧e.bare=(lb p).ent p (upG (G p) 14))∧(∀ p,p<nb->E p=true->∃ e∈L,e.bare=(lb p).ent p (upG (G p) 14))∧t<=m:=by
 obtain⟨i1,i2,i3⟩:=El hS;have key:∀ e∈L,∃ p,p<nb∧E p=true∧e.bare=(lb p).ent p (upG (G p) 14):=fun e he=>by
  obtain⟨p,q1,q2,q3,q4⟩:=i1 e he;cases hE:E p with
  |true=>exact⟨p,q1,hE,q2⟩
  |false=>
   obtain⟨q,r1,r2,r3,r4⟩:=h.max p q1 hE q3;have:=q4 q r1 (h.ten q r1 r2) r3;omega
 refine⟨key,fun p hp hE=>?_,i3 m fun p hp=>h.turn p hp⟩
 obtain⟨e,he,hid⟩:=i2 p hp (h.ten p hp hE);obtain⟨q,r1,r2,r3⟩:=key e he;have:q=p:=h.one q p r1 hp r2 hE ((dK (e:=(lb q).ent q (upG (G q) 14)) r3).1.symm.trans hid);subst this;exact⟨e,he,r3⟩
end
