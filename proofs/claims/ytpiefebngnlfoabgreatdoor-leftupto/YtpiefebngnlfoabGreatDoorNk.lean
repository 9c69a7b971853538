import Derived.Test.YtpiefebngnlfoabGreatDoorNi
set_option maxRecDepth 99999
set_option maxHeartbeats 0
set_option linter.unusedVariables false
set_option linter.unusedSimpArgs false
namespace Go.Proofs.YtpiefebngnlfoabGreatDoor
open Go.RowKit Go.Conc Go.Vw
section
variable {X D DB DA M X' D' DB' DA' M':Nat}{RB RA RB' RA':Nat->Nat}{nd nb turn turn' N N' n m wr:Nat}{s:Dsk}{L L':List Ent}{T:List It}{w w' v:World}{S:Nat->Prop}{T':Nat->ByteArray}{H:Nat->Bool}
theorem Hv.slots(h:Hv N nd nb n m X D DB DA M RB RA turn s L T w)(hS:fJ L)(ht:turn<18446744073709551616)(hn:14<=nd)(hH:Harm nd nb (fun d=>bS nb (s.a d)) T' H):(∀ p,p<nb->SlotK (aH T' wr).c p (fK L p) (eY L (aH T' wr).c p))∧∀ e∈L,10<=aF (eY L (aH T' wr).c e.slot) 14:=by
 rw[show s.a=s.c from h.kept.1]at hH;refine⟨fun p hp=>(Fe hS h.neat h.st.ent ht h.st.dk.byte hn hH hp).1,fun e he=>?_⟩
 have h1:=(Fe (wr:=wr) hS h.neat h.st.ent ht h.st.dk.byte hn hH (h.st.ent e he).slot).2 e (rV h.st.slots he);have h2:=xR (g:=eY L (aH T' wr).c e.slot) (h:=H) 14 h1;have h3:=Pn H hn;have h4:=hH.four;omega
theorem Hv.remount{n':Nat}(h:Hv N nd nb n m X D DB DA M RB RA turn s L T w)(hS:fJ L)(ht:turn<18446744073709551616)(hn:14<=nd)(hH:Harm nd nb (fun d=>bS nb (s.a d)) T' H)(hSv:fB (fK L) (eY L (aH T' wr).c) nb L' turn')(hX:StE X' D' DB' DA' M' RB' RA' nd nb turn' (cD (aH T' wr) (aU L') nb) L' w')(hown:∀ b,bN X' D' M' RB' RA' nd b->N'<=b)(hwr:n'+28*nb<=wr):Hv N' nd nb n' m X' D' DB' DA' M' RB' RA' turn' (cD (aH T' wr) (aU L') nb) L' T w'∧L'.length<=L.length:=by
 obtain⟨hsl,hten⟩:=h.slots (wr:=wr) hS ht hn hH;obtain⟨i1,i2,i3⟩:=Ft h.st.ids h.st.slots (fun e he=>(h.st.ent e he).turn) hten hSv;have hle:L'.length<=L.length:=by
  have:=oE (l:=L'.map (·.id)) (m:=L.map (·.id)) hX.ids fun x hx=>by
   obtain⟨e,he,rfl⟩:=List.mem_map.1 hx;obtain⟨e0,q1,_,q3,_⟩:=i1 e he;exact List.mem_map.2 ⟨e0,q1,q3.id.symm⟩
  rwa [List.length_map,List.length_map]at this
 refine⟨⟨hX,hown,⟨fun e he k hk hg=>?_,fun p hp hno k hk j hj=>?_⟩,h.few.same fun e he=>?_,Nat.le_trans hle h.len,aQ.sweep nb ⟨rfl,hwr⟩,Nat.le_trans i3 h.turn,h.rep.same (fun e he=>?_) fun e0 he0=>?_⟩,hle⟩
 .obtain⟨e0,q1,q2,q3,q4⟩:=i1 e he;have htk:aU L' e.slot=true:=eD.2 ⟨e,he,rfl⟩;rw[uD htk];rw[q4,zX hk]at hg;rw[q3.slot];exact(hsl e0.slot q2).no k hk hg
 .have htk:aU L' p=false:=by
   cases hq:aU L' p with
   |false=>rfl
   |true=>
    obtain⟨e,he,hs⟩:=eD.1 hq;exact absurd hs (hno e he)
  exact qM htk hk hj nb hp
 .obtain⟨e0,q1,_,q3,_⟩:=i1 e he;exact⟨e0,q1,q3.id⟩
 .obtain⟨e0,q1,_,q3,_⟩:=i1 e he;refine⟨e0,q1,?_⟩;unfold eX;rw[q3.id,q3.size,q3.val]
 .obtain⟨e,q1,q3⟩:=i2 e0 he0 (h.st.ent e0 he0).slot;refine⟨e,q1,?_⟩;unfold eX;rw[q3.id,q3.size,q3.val]
end
structure Scrd(nb n m:Nat)(x0 x:Scb):Prop where
 tells:Tells x.L n x.h
 sum:bI x.h n+m=bI x0.h n
 ids:x.L.map (·.id)=x0.L.map (·.id)
 slots:x.L.map (·.slot)=x0.L.map (·.slot)
 its:x.L.map eX=x0.L.map eX
 neat:Neat nb x0.s.c x0.L->Neat nb x.s.c x.L
theorem Qu{nb n m:Nat}{x0 x:Scb}(hids:(x0.L.map (·.id)).Nodup)(hsl:(x0.L.map (·.slot)).Nodup)(h:Scrd nb n m x0 x)(hm:m<bI x0.h n):Scrd nb n (m+1) x0 (scrub1 n x):=by
 have hs:=h.sum;obtain⟨hn,hb⟩:=Fw (show 0<bI x.h n by omega);obtain⟨k,e,q1,q2,q3,q4,q5,q6,q7,q8,q9⟩:=Em (by rw[h.ids];exact hids) h.tells hn hb;refine⟨q9,?_,?_,?_,?_,fun hN=>?_⟩
 .rw[q8];have hu:=Fv x.h (dC (fun j=>(x.h j).bad) n) (cN (e.mend (cO e.good))) n (qV _ n hn);rw[yE q5 q6]at hu ⊢;rw[q4]at hb hu;simp only at hu ⊢;omega
 .rw[q8,<-h.ids];exact oF q3 rfl
 .rw[q8,<-h.slots];exact oF q3 rfl
 .rw[q8,<-h.its];exact oF q3 rfl
 .have hN':=h.neat hN;have hsl':(x.L.map (·.slot)).Nodup:=by rw[h.slots];exact hsl
  rw[q8];have hoff:∀ d p,¬(d=cO e.good∧p=e.slot)->(x.s.wr (cO e.good) e.slot (e.blk (cO e.good))).c d p=x.s.c d p:=fun d p hq=>by
   funext i;show aT x.s.c (cO e.good) e.slot (e.blk (cO e.good)) d p i=_;unfold aT;rw[if_neg hq]
  refine⟨fun y hy j hj hg=>?_,fun p hp hno j hj i hi=>?_⟩
  .obtain⟨i,hi⟩:=List.mem_iff_getElem?.1 hy;rw[List.getElem?_set]at hi;by_cases ei:k=i
   .rw[if_pos ei]at hi;split at hi
    .cases hi
     have hg':(if j=cO e.good then true else e.good j)=false:=hg;have hne:j≠cO e.good:=fun q=>by rw[if_pos q]at hg';cases hg'
     rw[if_neg hne]at hg';rw[show(e.mend (cO e.good)).slot=e.slot from rfl,hoff j e.slot (fun q=>hne q.1)];exact hN'.bad e q2 j hj hg'
    .cases hi
   .rw[if_neg ei]at hi;have hyL:=List.mem_of_getElem? hi;rw[hoff j y.slot (fun q=>ei ?_)]
    .exact hN'.bad y hyL j hj hg
    .have e1:(x.L.map (·.slot))[i]?=(x.L.map (·.slot))[k]?:=by
      rw[List.getElem?_map,List.getElem?_map,hi,q3];show some y.slot=some e.slot;rw[q.2]
     exact((List.getElem?_inj (by rw[List.length_map];exact(List.getElem?_eq_some_iff.1 hi).1) hsl').1 e1).symm
  .have hpe:p≠e.slot:=fun q=>hno (e.mend (cO e.good)) (List.mem_set (List.getElem?_eq_some_iff.1 q3).1 _) q.symm
   rw[hoff j p (fun q=>hpe q.2)];refine hN'.free p hp (fun y hy hs=>?_) j hj i hi;obtain⟨i',hi'⟩:=List.mem_iff_getElem?.1 hy;by_cases ei:k=i'
   .subst ei;rw[q3]at hi';cases hi'
    exact hpe hs.symm
   .exact hno y (List.mem_iff_getElem?.2 ⟨i',by rw[List.getElem?_set,if_neg ei];exact hi'⟩) hs
theorem An{nb n:Nat}{x0:Scb}(hids:(x0.L.map (·.id)).Nodup)(hsl:(x0.L.map (·.slot)).Nodup)(hT:Tells x0.L n x0.h):∀ m,m<=bI x0.h n->Scrd nb n m x0 (scrubN n m x0)
 |0,_=>⟨hT,rfl,rfl,rfl,rfl,id⟩
 |m+1,h=>Qu hids hsl (An hids hsl hT m (by omega)) (by omega)
theorem Scrd.rep{nb n m:Nat}{x0 x:Scb}{T:List It}(h:Scrd nb n m x0 x)(hR:Rep x0.L T):Rep x.L T:=by
 refine hR.same (fun e he=>?_) fun e0 he0=>?_
 .have:eX e∈x.L.map eX:=List.mem_map.2 ⟨e,he,rfl⟩;rw[h.its]at this;obtain⟨e0,q1,q2⟩:=List.mem_map.1 this;exact⟨e0,q1,q2.symm⟩
 .have:eX e0∈x0.L.map eX:=List.mem_map.2 ⟨e0,he0,rfl⟩;rw[<-h.its]at this;obtain⟨e,q1,q2⟩:=List.mem_map.1 this;exact⟨e,q1,q2⟩
section
variable {X D DB DA M:Nat}{RB RA:Nat->Nat}{nd nb turn N n m:Nat}{s:Dsk}{L:List Ent}{T:List It}{w w':World}
theorem Hv.scrub{k j:Nat}{h:Nat->Hl}(H:Hv N nd nb (n+j) m X D DB DA M RB RA turn s L T w)(hT:Tells L k h)(hj:j<=bI h k)(hX:StE X D DB DA M RB RA nd nb turn (scrubN k j ⟨h,s,L⟩).s (scrubN k j ⟨h,s,L⟩).L w'):Hv N nd nb n m X D DB DA M RB RA turn (scrubN k j ⟨h,s,L⟩).s (scrubN k j ⟨h,s,L⟩).L T w':=by
 have hS:=An (nb:=nb) (x0:=⟨h,s,L⟩) H.st.ids H.st.slots hT j hj;refine⟨hX,H.own,hS.neat H.neat,fun e he=>?_,?_,aQ.scrubN j H.kept,H.turn,hS.rep H.rep⟩
 .have:e.id∈(scrubN k j ⟨h,s,L⟩).L.map (·.id):=List.mem_map.2 ⟨e,he,rfl⟩;rw[hS.ids]at this;obtain⟨e0,q1,q2⟩:=List.mem_map.1 this;rw[<-q2];exact H.few e0 q1
 .have:=congrArg List.length hS.ids;rw[List.length_map,List.length_map]at this;rw[this];exact H.len
end
theorem Tells.bad14{L:List Ent}{n:Nat}{h:Nat->Hl}(H:Tells L n h){i:Nat}(hi:i<n):(h i).bad<=14:=by
 obtain⟨e,_,q⟩:=H.yes i hi;rw[q];show 14 - aF e.good 14<=14;omega
section
variable {w w' v:World}{S:Nat->Prop}
end
theorem Ei{h:Nat->Hl} : ∀ {n:Nat},bI h n=0->∀ i,i<n->(h i).bad=0
 |n+1,hs,i,hi=>by
  have hs':bI h n+(h n).bad=0:=hs;by_cases e:i=n
  .subst e;omega
  .exact Ei (n:=n) (by omega) i (by omega)
theorem Ti{g:Nat->Bool}(h:14<=aF g 14){k:Nat}(hk:k<14):g k=true:=by
 cases hg:g k with
 |true=>rfl
 |false=>
  have h1:=yV hg 14 hk;have h2:=Pm (fun j=>if j=k then true else g j) 14
  omega
theorem Tells.sound{L:List Ent}{n:Nat}{h:Nat->Hl}(H:Tells L n h)(hs:bI h n=0):fJ L:=fun e he k hk=>by
 obtain⟨i,hi,q⟩:=H.all e he;have:=Ei hs i hi;rw[q]at this;have h1:14 - aF e.good 14=0:=this;exact Ti (by omega) hk
section
variable {X D DB DA M X' D' DB' DA' M':Nat}{RB RA RB' RA':Nat->Nat}{nd nb turn turn' N N' n m wr:Nat}{s:Dsk}{L L':List Ent}{T:List It}{w w' v:World}{S:Nat->Prop}{T':Nat->ByteArray}{H:Nat->Bool}
theorem Hv.le{n' m':Nat}(h:Hv N nd nb n m X D DB DA M RB RA turn s L T w)(h1:n'<=n)(h2:m<=m'):Hv N nd nb n' m' X D DB DA M RB RA turn s L T w:=⟨h.st,h.own,h.neat,h.few,h.len,h.kept.le h1,Nat.le_trans h.turn h2,h.rep⟩
end
def nS:Code->List Code
 |.seq a b=>nS a++nS b
 |.cond _ a b=>nS a++nS b
 |.block _ c=>nS c
 |.loop c=>.loop c :: nS c
 |_=>[]
def pA(n:Nat)(c:Code):Code:=(nS c).getD n .skip
