import Derived.Test.YtpiefebngnlfoabGreatDoorNi
set_option maxRecDepth 99999
set_option maxHeartbeats 0
set_option linter.unusedVariables false
set_option linter.unusedSimpArgs false
namespace Go.Proofs.YtpiefebngnlfoabGreatDoor
open Go.RowKit Go.Conc Go.Vw
section
variable {X D DB DA M X' D' DB' DA' M':Nat}{RB RA RB' RA':Nat->Nat}{nd nb turn turn' N N' n m wr:Nat}{s:Dsk}{L L':List Ent}{T:List It}{w w' v:World}{S:Nat->Prop}{T':Nat->ByteArray}{H:Nat->Bool}
theorem Hv.slots(h:Hv N nd nb n m X D DB DA M RB RA turn s L T w)(hS:gY L)(ht:turn<18446744073709551616)(hn:14<=nd)(hH:Harm nd nb (fun d=>bG nb (s.a d)) T' H):(∀ p,p<nb->SlotK (aH T' wr).c p (jH L p) (gZ L (aH T' wr).c p))∧∀ e∈L,10<=aN (gZ L (aH T' wr).c e.slot) 14:=by
 rw[show s.a=s.c from h.kept.1]at hH;refine⟨fun p hp=>(Fl hS h.neat h.st.ent ht h.st.dk.byte hn hH hp).1,fun e he=>?_⟩
 have h1:=(Fl (wr:=wr) hS h.neat h.st.ent ht h.st.dk.byte hn hH (h.st.ent e he).slot).2 e (Af h.st.slots he);have h2:=xZ (g:=gZ L (aH T' wr).c e.slot) (h:=H) 14 h1;have h3:=Px H hn;have h4:=hH.four;omega
end
theorem Ge{α : Type}(key:α->Nat):∀ {A B:List α},A.Pairwise (fun a b=>key a<key b)->B.Pairwise (fun a b=>key a<key b)->(∀ x,x∈A↔x∈B)->A=B
 |[],[],_,_,_=>rfl
 |[],y :: B,_,_,h=>absurd ((h y).2 (List.mem_cons_self ..)) (by simp)
 |x :: A,[],_,_,h=>absurd ((h x).1 (List.mem_cons_self ..)) (by simp)
 |x :: A,y :: B,hA,hB,h=>by
  have h1:=List.pairwise_cons.1 hA;have h2:=List.pairwise_cons.1 hB;have e:x=y:=by
   rcases List.mem_cons.1 ((h x).1 (List.mem_cons_self ..)) with q|q
   .exact q
   .rcases List.mem_cons.1 ((h y).2 (List.mem_cons_self ..)) with q'|q'
    .exact q'.symm
    .have:=h2.1 x q;have:=h1.1 y q';omega
  subst e;rw[Ge key h1.2 h2.2 fun z=>⟨fun hz=>?_,fun hz=>?_⟩]
  .rcases List.mem_cons.1 ((h z).1 (List.mem_cons_of_mem _ hz)) with q|q
   .subst q;exact absurd (h1.1 z hz) (by omega)
   .exact q
  .rcases List.mem_cons.1 ((h z).2 (List.mem_cons_of_mem _ hz)) with q|q
   .subst q;exact absurd (h2.1 z hz) (by omega)
   .exact q
theorem Tells.list{L:List Ent}{n:Nat}{h:Nat->Hl}(H:Tells L n h):((List.range n).map h).Pairwise (fun a b=>a.id<b.id)∧∀ x,x∈(List.range n).map h↔∃ e∈L,bZ e=x:=by
 refine⟨?_,fun x=>⟨fun hx=>?_,?_⟩⟩
 .rw[List.pairwise_map];refine List.Pairwise.imp_of_mem ?_ (List.pairwise_lt_range (n:=n));intro a b ha hb hlt;exact H.sort a b hlt (List.mem_range.1 hb)
 .obtain⟨i,hi,rfl⟩:=List.mem_map.1 hx;obtain⟨e,he,q⟩:=H.yes i (List.mem_range.1 hi);exact⟨e,he,q.symm⟩
 .rintro⟨e,he,rfl⟩;obtain⟨i,hi,q⟩:=H.all e he;exact List.mem_map.2 ⟨i,List.mem_range.2 hi,q⟩
theorem Tells.uniq{L:List Ent}{n n':Nat}{h h':Nat->Hl}(H:Tells L n h)(H':Tells L n' h'):n=n'∧∀ i,i<n->h i=h' i:=by
 obtain⟨a1,a2⟩:=H.list;obtain⟨b1,b2⟩:=H'.list;have e:=Ge (fun x:Hl=>x.id) a1 b1 fun x=>(a2 x).trans (b2 x).symm
 have hn:n=n':=by
  have:=congrArg List.length e;simpa using this
 subst hn;refine⟨rfl,fun i hi=>?_⟩
 have:=congrArg (fun l=>l[i]?) e;simpa [hi] using this
theorem Da{h h':Nat->Hl} : ∀ {n:Nat},(∀ i,i<n->h i=h' i)->bE h n=bE h' n
 |0,_=>rfl
 |n+1,H=>by
  unfold bE;rw[Da fun i hi=>H i (by omega),H n (by omega)]
structure Scrd(nb n m:Nat)(x0 x:Scb):Prop where
 tells:Tells x.L n x.h
 sum:bE x.h n+m=bE x0.h n
 ids:x.L.map (·.id)=x0.L.map (·.id)
 slots:x.L.map (·.slot)=x0.L.map (·.slot)
 its:x.L.map fG=x0.L.map fG
 neat:Neat nb x0.s.c x0.L->Neat nb x.s.c x.L
theorem Rf{nb n m:Nat}{x0 x:Scb}(hids:(x0.L.map (·.id)).Nodup)(hsl:(x0.L.map (·.slot)).Nodup)(h:Scrd nb n m x0 x)(hm:m<bE x0.h n):Scrd nb n (m+1) x0 (scrub1 n x):=by
 have hs:=h.sum;obtain⟨hn,hb⟩:=yW (show 0<bE x.h n by omega);obtain⟨k,e,q1,q2,q3,q4,q5,q6,q7,q8,q9⟩:=uP (by rw[h.ids];exact hids) h.tells hn hb;refine⟨q9,?_,?_,?_,?_,fun hN=>?_⟩
 .rw[q8];have hu:=yV x.h (bY (fun j=>(x.h j).bad) n) (bZ (e.mend (bF e.good))) n (oW _ n hn);rw[oP q5 q6]at hu ⊢;rw[q4]at hb hu;simp only at hu ⊢;omega
 .rw[q8,<-h.ids];exact lK q3 rfl
 .rw[q8,<-h.slots];exact lK q3 rfl
 .rw[q8,<-h.its];exact lK q3 rfl
 .have hN':=h.neat hN;have hsl':(x.L.map (·.slot)).Nodup:=by rw[h.slots];exact hsl
  rw[q8];have hoff:∀ d p,¬(d=bF e.good∧p=e.slot)->(x.s.wr (bF e.good) e.slot (e.blk (bF e.good))).c d p=x.s.c d p:=fun d p hq=>by
   funext i;show bR x.s.c (bF e.good) e.slot (e.blk (bF e.good)) d p i=_;unfold bR;rw[if_neg hq]
  refine⟨fun y hy j hj hg=>?_,fun p hp hno j hj i hi=>?_⟩
  .obtain⟨i,hi⟩:=List.mem_iff_getElem?.1 hy;rw[List.getElem?_set]at hi;by_cases ei:k=i
   .rw[if_pos ei]at hi;split at hi
    .cases hi
     have hg':(if j=bF e.good then true else e.good j)=false:=hg;have hne:j≠bF e.good:=fun q=>by rw[if_pos q]at hg';cases hg'
     rw[if_neg hne]at hg';rw[show(e.mend (bF e.good)).slot=e.slot from rfl,hoff j e.slot (fun q=>hne q.1)];exact hN'.bad e q2 j hj hg'
    .cases hi
   .rw[if_neg ei]at hi;have hyL:=List.mem_of_getElem? hi;rw[hoff j y.slot (fun q=>ei ?_)]
    .exact hN'.bad y hyL j hj hg
    .have e1:(x.L.map (·.slot))[i]?=(x.L.map (·.slot))[k]?:=by
      rw[List.getElem?_map,List.getElem?_map,hi,q3];show some y.slot=some e.slot;rw[q.2]
     exact((List.getElem?_inj (by rw[List.length_map];exact(List.getElem?_eq_some_iff.1 hi).1) hsl').1 e1).symm
  .have hpe:p≠e.slot:=fun q=>hno (e.mend (bF e.good)) (List.mem_set (List.getElem?_eq_some_iff.1 q3).1 _) q.symm
   rw[hoff j p (fun q=>hpe q.2)];refine hN'.free p hp (fun y hy hs=>?_) j hj i hi;obtain⟨i',hi'⟩:=List.mem_iff_getElem?.1 hy;by_cases ei:k=i'
   .subst ei;rw[q3]at hi';cases hi'
    exact hpe hs.symm
   .exact hno y (List.mem_iff_getElem?.2 ⟨i',by rw[List.getElem?_set,if_neg ei];exact hi'⟩) hs
theorem Jv{nb n:Nat}{x0:Scb}(hids:(x0.L.map (·.id)).Nodup)(hsl:(x0.L.map (·.slot)).Nodup)(hT:Tells x0.L n x0.h):∀ m,m<=bE x0.h n->Scrd nb n m x0 (scrubN n m x0)
 |0,_=>⟨hT,rfl,rfl,rfl,rfl,id⟩
 |m+1,h=>Rf hids hsl (Jv hids hsl hT m (by omega)) (by omega)
theorem Scrd.rep{nb n m:Nat}{x0 x:Scb}{T:List It}(h:Scrd nb n m x0 x)(hR:Rep x0.L T):Rep x.L T:=by
 refine hR.same (fun e he=>?_) fun e0 he0=>?_
 .have:fG e∈x.L.map fG:=List.mem_map.2 ⟨e,he,rfl⟩;rw[h.its]at this;obtain⟨e0,q1,q2⟩:=List.mem_map.1 this;exact⟨e0,q1,q2.symm⟩
 .have:fG e0∈x0.L.map fG:=List.mem_map.2 ⟨e0,he0,rfl⟩;rw[<-h.its]at this;obtain⟨e,q1,q2⟩:=List.mem_map.1 this;exact⟨e,q1,q2⟩
section
variable {X D DB DA M:Nat}{RB RA:Nat->Nat}{nd nb turn N n m:Nat}{s:Dsk}{L:List Ent}{T:List It}{w w':World}
end
section
variable {w w' v:World}{S:Nat->Prop}
end
section
variable {X D DB DA M X' D' DB' DA' M':Nat}{RB RA RB' RA':Nat->Nat}{nd nb turn turn' N N' n m wr:Nat}{s:Dsk}{L L':List Ent}{T:List It}{w w' v:World}{S:Nat->Prop}{T':Nat->ByteArray}{H:Nat->Bool}
end
def nQ:Code->List Code
 |.seq a b=>nQ a++nQ b
 |.cond _ a b=>nQ a++nQ b
 |.block _ c=>nQ c
 |.loop c=>.loop c :: nQ c
 |_=>[]
def Iz(n:Nat)(c:Code):Code:=(nQ c).getD n .skip
