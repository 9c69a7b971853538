import Derived.Test.YtpiefebngnlfoabGreatDoorNj
set_option maxRecDepth 100000
set_option maxHeartbeats 16000000
set_option linter.unusedVariables false
set_option linter.unusedSimpArgs false
namespace Go.Proofs.YtpiefebngnlfoabGreatDoor
open Go.RowKit Go.Conc Go.Vw
section
variable {X D DB DA M X' D' DB' DA' M':Nat}{RB RA RB' RA':Nat→Nat}{nd nb turn turn' N N' n m wr:Nat}{s:Dsk}{L L':List Ent}{T:List It}{w w' v:World}{S:Nat→Prop}{T':Nat→ByteArray}{H:Nat→Bool}
theorem Hv.slots(h:Hv N nd nb n m X D DB DA M RB RA turn s L T w)(hS:zjD L)(ht:turn<18446744073709551616)(hn:14≤nd)(hH:Harm nd nb (fun d=>txt nb (s.a d)) T' H):(∀ p,p<nb→SlotK (zdO T' wr).c p (lbAt L p) (gdAt L (zdO T' wr).c p))∧∀ e∈L,10≤cntG (gdAt L (zdO T' wr).c e.slot) 14:=by
 rw[show s.a=s.c from h.kept.1]at hH;refine⟨fun p hp=>(zsX hS h.neat h.st.ent ht h.st.dk.byte hn hH hp).1,fun e he=>?_⟩
 have h1:=(zsX (wr:=wr) hS h.neat h.st.ent ht h.st.dk.byte hn hH (h.st.ent e he).slot).2 e (yeK h.st.slots he);have h2:=zkZ (g:=gdAt L (zdO T' wr).c e.slot) (h:=H) 14 h1;have h3:=zzO H hn;have h4:=hH.four;omega
theorem Hv.remount{n':Nat}(h:Hv N nd nb n m X D DB DA M RB RA turn s L T w)(hS:zjD L)(ht:turn<18446744073709551616)(hn:14≤nd)(hH:Harm nd nb (fun d=>txt nb (s.a d)) T' H)(hSv:Svs (lbAt L) (gdAt L (zdO T' wr).c) nb L' turn')(hX:StE X' D' DB' DA' M' RB' RA' nd nb turn' (zdY (zdO T' wr) (takB L') nb) L' w')(hown:∀ b,SOwn X' D' M' RB' RA' nd b→N'≤b)(hwr:n'+28*nb≤wr):Hv N' nd nb n' m X' D' DB' DA' M' RB' RA' turn' (zdY (zdO T' wr) (takB L') nb) L' T w'∧L'.length≤L.length:=by
 obtain⟨hsl,hten⟩:=h.slots (wr:=wr) hS ht hn hH;obtain⟨i1,i2,i3⟩:=zwP h.st.ids h.st.slots (fun e he=>(h.st.ent e he).turn) hten hSv;have hle:L'.length≤L.length:=by
  have:=zhR (l:=L'.map (·.id)) (m:=L.map (·.id)) hX.ids fun x hx=>by
   obtain⟨e,he,rfl⟩:=List.mem_map.1 hx;obtain⟨e0,q1,_,q3,_⟩:=i1 e he;exact List.mem_map.2 ⟨e0,q1,q3.id.symm⟩
  rwa [List.length_map,List.length_map]at this
 refine⟨⟨hX,hown,⟨fun e he k hk hg=>?_,fun p hp hno k hk j hj=>?_⟩,h.few.same fun e he=>?_,Nat.le_trans hle h.len,Kept.sweep nb ⟨rfl,hwr⟩,Nat.le_trans i3 h.turn,h.rep.same (fun e he=>?_) fun e0 he0=>?_⟩,hle⟩
 ·obtain⟨e0,q1,q2,q3,q4⟩:=i1 e he;have htk:takB L' e.slot=true:=zjH.2 ⟨e,he,rfl⟩;rw[zmE htk];rw[q4,yiG hk]at hg;rw[q3.slot];exact(hsl e0.slot q2).no k hk hg
 ·have htk:takB L' p=false:=by
   cases hq:takB L' p with
   |false=>rfl
   |true=>
    obtain⟨e,he,hs⟩:=zjH.1 hq;exact absurd hs (hno e he)
  exact zjI htk hk hj nb hp
 ·obtain⟨e0,q1,_,q3,_⟩:=i1 e he;exact⟨e0,q1,q3.id⟩
 ·obtain⟨e0,q1,_,q3,_⟩:=i1 e he;refine⟨e0,q1,?_⟩;unfold itOf;rw[q3.id,q3.size,q3.val]
 ·obtain⟨e,q1,q3⟩:=i2 e0 he0 (h.st.ent e0 he0).slot;refine⟨e,q1,?_⟩;unfold itOf;rw[q3.id,q3.size,q3.val]
end
theorem zwS{α : Type}(key:α→Nat):∀ {A B:List α},A.Pairwise (fun a b=>key a<key b)→B.Pairwise (fun a b=>key a<key b)→(∀ x,x∈A↔x∈B)→A=B
 |[],[],_,_,_=>rfl
 |[],y :: B,_,_,h=>absurd ((h y).2 (List.mem_cons_self ..)) (by simp)
 |x :: A,[],_,_,h=>absurd ((h x).1 (List.mem_cons_self ..)) (by simp)
 |x :: A,y :: B,hA,hB,h=>by
  have h1:=List.pairwise_cons.1 hA;have h2:=List.pairwise_cons.1 hB;have e:x=y:=by
   rcases List.mem_cons.1 ((h x).1 (List.mem_cons_self ..)) with q|q
   ·exact q
   ·rcases List.mem_cons.1 ((h y).2 (List.mem_cons_self ..)) with q'|q'
    ·exact q'.symm
    ·have:=h2.1 x q;have:=h1.1 y q';omega
  subst e;rw[zwS key h1.2 h2.2 fun z=>⟨fun hz=>?_,fun hz=>?_⟩]
  ·rcases List.mem_cons.1 ((h z).1 (List.mem_cons_of_mem _ hz)) with q|q
   ·subst q;exact absurd (h1.1 z hz) (by omega)
   ·exact q
  ·rcases List.mem_cons.1 ((h z).2 (List.mem_cons_of_mem _ hz)) with q|q
   ·subst q;exact absurd (h2.1 z hz) (by omega)
   ·exact q
theorem Tells.list{L:List Ent}{n:Nat}{h:Nat→Hl}(H:Tells L n h):((List.range n).map h).Pairwise (fun a b=>a.id<b.id)∧∀ x,x∈(List.range n).map h↔∃ e∈L,hlOf e=x:=by
 refine⟨?_,fun x=>⟨fun hx=>?_,?_⟩⟩
 ·rw[List.pairwise_map];refine List.Pairwise.imp_of_mem ?_ (List.pairwise_lt_range (n:=n));intro a b ha hb hlt;exact H.sort a b hlt (List.mem_range.1 hb)
 ·obtain⟨i,hi,rfl⟩:=List.mem_map.1 hx;obtain⟨e,he,q⟩:=H.yes i (List.mem_range.1 hi);exact⟨e,he,q.symm⟩
 ·rintro⟨e,he,rfl⟩;obtain⟨i,hi,q⟩:=H.all e he;exact List.mem_map.2 ⟨i,List.mem_range.2 hi,q⟩
theorem Tells.uniq{L:List Ent}{n n':Nat}{h h':Nat→Hl}(H:Tells L n h)(H':Tells L n' h'):n=n'∧∀ i,i<n→h i=h' i:=by
 obtain⟨a1,a2⟩:=H.list;obtain⟨b1,b2⟩:=H'.list;have e:=zwS (fun x:Hl=>x.id) a1 b1 fun x=>(a2 x).trans (b2 x).symm
 have hn:n=n':=by
  have:=congrArg List.length e;simpa using this
 subst hn;refine⟨rfl,fun i hi=>?_⟩
 have:=congrArg (fun l=>l[i]?) e;simpa [hi] using this
theorem zdP{h h':Nat→Hl} : ∀ {n:Nat},(∀ i,i<n→h i=h' i)→sumB h n=sumB h' n
 |0,_=>rfl
 |n+1,H=>by
  unfold sumB;rw[zdP fun i hi=>H i (by omega),H n (by omega)]
def mxB(h:Nat→Hl):Nat→Nat
 |0=>0
 |n+1=>if mxB h n<(h n).bad then(h n).bad else mxB h n
theorem yiN(h:Nat→Hl):∀ n i,i<n→(h i).bad≤mxB h n
 |n+1,i,hi=>by
  unfold mxB;by_cases e:i=n
  ·subst e;split<;>omega
  ·have:=yiN h n i (by omega);split<;>omega
theorem ydC(h:Nat→Hl):∀ n,mxB h n=0∨∃ i,i<n∧mxB h n=(h i).bad
 |0=>.inl rfl
 |n+1=>by
  unfold mxB;split
  ·exact .inr ⟨n,by omega,rfl⟩
  ·exact(ydC h n).imp id fun⟨i,hi,e⟩=>⟨i,by omega,e⟩
theorem ymA(h:Nat→Hl){n:Nat}(hn:0<n):mxB h n=(h (zdW (fun j=>(h j).bad) n)).bad:=by
 have h1:=yiN h n _ (ziE (fun j=>(h j).bad) n hn);rcases ydC h n with e|⟨i,hi,e⟩
 ·omega
 ·have:(h i).bad≤(h (zdW (fun j=>(h j).bad) n)).bad:=znD (fun j=>(h j).bad) n i hi;omega
theorem zsO{h h':Nat→Hl} : ∀ {n:Nat},(∀ i,i<n→h i=h' i)→mxB h n=mxB h' n
 |0,_=>rfl
 |n+1,H=>by
  unfold mxB;rw[zsO fun i hi=>H i (by omega),H n (by omega)]
structure Scrd(nb n m:Nat)(x0 x:Scb):Prop where
 tells:Tells x.L n x.h
 sum:sumB x.h n+m=sumB x0.h n
 ids:x.L.map (·.id)=x0.L.map (·.id)
 slots:x.L.map (·.slot)=x0.L.map (·.slot)
 its:x.L.map itOf=x0.L.map itOf
 neat:Neat nb x0.s.c x0.L→Neat nb x.s.c x.L
theorem ybE{nb n m:Nat}{x0 x:Scb}(hids:(x0.L.map (·.id)).Nodup)(hsl:(x0.L.map (·.slot)).Nodup)(h:Scrd nb n m x0 x)(hm:m<sumB x0.h n):Scrd nb n (m+1) x0 (scrub1 n x):=by
 have hs:=h.sum;obtain⟨hn,hb⟩:=zpV (show 0<sumB x.h n by omega);obtain⟨k,e,q1,q2,q3,q4,q5,q6,q7,q8,q9⟩:=zmL (by rw[h.ids];exact hids) h.tells hn hb;refine⟨q9,?_,?_,?_,?_,fun hN=>?_⟩
 ·rw[q8];have hu:=zwQ x.h (zdW (fun j=>(x.h j).bad) n) (hlOf (e.mend (fstF e.good))) n (ziE _ n hn);rw[zjW q5 q6]at hu ⊢;rw[q4]at hb hu;simp only at hu ⊢;omega
 ·rw[q8,←h.ids];exact zdU q3 rfl
 ·rw[q8,←h.slots];exact zdU q3 rfl
 ·rw[q8,←h.its];exact zdU q3 rfl
 ·have hN':=h.neat hN;have hsl':(x.L.map (·.slot)).Nodup:=by rw[h.slots];exact hsl
  rw[q8];have hoff:∀ d p,¬(d=fstF e.good∧p=e.slot)→(x.s.wr (fstF e.good) e.slot (e.blk (fstF e.good))).c d p=x.s.c d p:=fun d p hq=>by
   funext i;show updC x.s.c (fstF e.good) e.slot (e.blk (fstF e.good)) d p i=_;unfold updC;rw[if_neg hq]
  refine⟨fun y hy j hj hg=>?_,fun p hp hno j hj i hi=>?_⟩
  ·obtain⟨i,hi⟩:=List.mem_iff_getElem?.1 hy;rw[List.getElem?_set]at hi;by_cases ei:k=i
   ·rw[if_pos ei]at hi;split at hi
    ·cases hi
     have hg':(if j=fstF e.good then true else e.good j)=false:=hg;have hne:j≠fstF e.good:=fun q=>by rw[if_pos q]at hg';cases hg'
     rw[if_neg hne]at hg';rw[show(e.mend (fstF e.good)).slot=e.slot from rfl,hoff j e.slot (fun q=>hne q.1)];exact hN'.bad e q2 j hj hg'
    ·cases hi
   ·rw[if_neg ei]at hi;have hyL:=List.mem_of_getElem? hi;rw[hoff j y.slot (fun q=>ei ?_)]
    ·exact hN'.bad y hyL j hj hg
    ·have e1:(x.L.map (·.slot))[i]?=(x.L.map (·.slot))[k]?:=by
      rw[List.getElem?_map,List.getElem?_map,hi,q3];show some y.slot=some e.slot;rw[q.2]
     exact((List.getElem?_inj (by rw[List.length_map];exact(List.getElem?_eq_some_iff.1 hi).1) hsl').1 e1).symm
  ·have hpe:p≠e.slot:=fun q=>hno (e.mend (fstF e.good)) (List.mem_set (List.getElem?_eq_some_iff.1 q3).1 _) q.symm
   rw[hoff j p (fun q=>hpe q.2)];refine hN'.free p hp (fun y hy hs=>?_) j hj i hi;obtain⟨i',hi'⟩:=List.mem_iff_getElem?.1 hy;by_cases ei:k=i'
   ·subst ei;rw[q3]at hi';cases hi'
    exact hpe hs.symm
   ·exact hno y (List.mem_iff_getElem?.2 ⟨i',by rw[List.getElem?_set,if_neg ei];exact hi'⟩) hs
theorem scrd{nb n:Nat}{x0:Scb}(hids:(x0.L.map (·.id)).Nodup)(hsl:(x0.L.map (·.slot)).Nodup)(hT:Tells x0.L n x0.h):∀ m,m≤sumB x0.h n→Scrd nb n m x0 (scrubN n m x0)
 |0,_=>⟨hT,rfl,rfl,rfl,rfl,id⟩
 |m+1,h=>ybE hids hsl (scrd hids hsl hT m (by omega)) (by omega)
theorem Scrd.rep{nb n m:Nat}{x0 x:Scb}{T:List It}(h:Scrd nb n m x0 x)(hR:Rep x0.L T):Rep x.L T:=by
 refine hR.same (fun e he=>?_) fun e0 he0=>?_
 ·have:itOf e∈x.L.map itOf:=List.mem_map.2 ⟨e,he,rfl⟩;rw[h.its]at this;obtain⟨e0,q1,q2⟩:=List.mem_map.1 this;exact⟨e0,q1,q2.symm⟩
 ·have:itOf e0∈x0.L.map itOf:=List.mem_map.2 ⟨e0,he0,rfl⟩;rw[←h.its]at this;obtain⟨e,q1,q2⟩:=List.mem_map.1 this;exact⟨e,q1,q2⟩
section
variable {X D DB DA M:Nat}{RB RA:Nat→Nat}{nd nb turn N n m:Nat}{s:Dsk}{L:List Ent}{T:List It}{w w':World}
theorem Hv.scrub{k j:Nat}{h:Nat→Hl}(H:Hv N nd nb (n+j) m X D DB DA M RB RA turn s L T w)(hT:Tells L k h)(hj:j≤sumB h k)(hX:StE X D DB DA M RB RA nd nb turn (scrubN k j ⟨h,s,L⟩).s (scrubN k j ⟨h,s,L⟩).L w'):Hv N nd nb n m X D DB DA M RB RA turn (scrubN k j ⟨h,s,L⟩).s (scrubN k j ⟨h,s,L⟩).L T w':=by
 have hS:=scrd (nb:=nb) (x0:=⟨h,s,L⟩) H.st.ids H.st.slots hT j hj;refine⟨hX,H.own,hS.neat H.neat,fun e he=>?_,?_,Kept.scrubN j H.kept,H.turn,hS.rep H.rep⟩
 ·have:e.id∈(scrubN k j ⟨h,s,L⟩).L.map (·.id):=List.mem_map.2 ⟨e,he,rfl⟩;rw[hS.ids]at this;obtain⟨e0,q1,q2⟩:=List.mem_map.1 this;rw[←q2];exact H.few e0 q1
 ·have:=congrArg List.length hS.ids;rw[List.length_map,List.length_map]at this;rw[this];exact H.len
end
theorem zkT{w:World}{g n:Nat}{h:Nat→Hl}(hr:w.heap[g]?=some (.cells (hA n h) 38)){i:Nat}(hi:i<n):w.cell? ⟨g,i*3,none⟩=some (.int .i64 ((h i).id:Nat))∧w.cell? ⟨g,i*3+1,none⟩=some (.int .i64 ((h i).size:Nat))∧w.cell? ⟨g,i*3+2,none⟩=some (.int .i64 ((h i).bad:Nat)):=by
 refine⟨?_,?_,?_⟩
 ·rw[cell_of_row _ _ _ _ _ _ hr,zeR (by omega),show i*3 / 3=i by omega,show i*3 % 3=0 by omega];rfl
 ·rw[cell_of_row _ _ _ _ _ _ hr,zeR (by omega),show(i*3+1) / 3=i by omega,show(i*3+1) % 3=1 by omega];rfl
 ·rw[cell_of_row _ _ _ _ _ _ hr,zeR (by omega),show(i*3+2) / 3=i by omega,show(i*3+2) % 3=2 by omega];rfl
theorem Tells.bad14{L:List Ent}{n:Nat}{h:Nat→Hl}(H:Tells L n h){i:Nat}(hi:i<n):(h i).bad≤14:=by
 obtain⟨e,_,q⟩:=H.yes i hi;rw[q];show 14 - cntG e.good 14≤14;omega
section
variable {w w' v:World}{S:Nat→Prop}
theorem ylG(g n c:Nat)(h:Nat→Hl)(hn:n≤64)(hb:∀ i,i<n→(h i).bad≤14)(hg:v.heap[g]?=some (.cells (hA n h) 38)) :
  zaP Tryz.prog 12 #[.slice (some ⟨g,0,none⟩) n c] S v fun x S' v'=>x=.tuple #[.int .i64 (sumB h n:Nat),.int .i64 (mxB h n:Nat)]∧S'=S∧v'=v:=by
 refine zaF Tryz.func12 rfl Tryz.ntmps12 (by simp) fun Stop cc cs ret=>?_
 have g0:argF #[.slice (some ⟨g,0,none⟩) n c] 0=.slice (some ⟨g,0,none⟩) n c:=rfl;generalize argF #[.slice (some ⟨g,0,none⟩) n c]=f at g0;repeat (first|refine rQ rfl ?_|refine rY zaA ?_|refine rW ?_)
 refine zaI (fun d f' S' w=>∃ j sm mx,d=n - j∧j≤n∧S'=S∧w=v∧Hid (sm=sumB h j)∧sm≤j*14∧Hid (mx=mxB h j)∧f' 0=.slice (some ⟨g,0,none⟩) n c∧f' 4=.int .i64 (sm:Nat)∧f' 5=.int .i64 (mx:Nat)∧f' 6=.int .i64 (j:Nat)) n ⟨0,0,0,by omega,by omega,rfl,rfl,hide rfl,by omega,hide rfl,by simp[g0],by simp,by simp,by simp⟩ ?_;clear g0 f;rintro d f S' w ⟨j,sm,mx,rfl,hj,eS,eW,HS,hsm,HM,g0,g4,g5,g6⟩ nxt;subst S' w;repeat (first|refine rQ rfl ?_|refine rY zaA ?_|refine rW ?_)
 by_cases hlt:j<n
 ·have hjI:(j:Int)<(n:Int):=by omega
  have hbj:=hb j hlt;obtain⟨_,_,c2⟩:=zkT hg hlt;obtain⟨b,hbb⟩:∃ b,b=(h j).bad:=⟨_,rfl⟩;rw[←hbb]at hbj c2;have HS2:Hid (sm+b=sumB h (j+1)):=hide (by unfold sumB;rw[HS.out,hbb]);have HB:=hide hbb;clear hbb;(refine zaB (t:=true) (by simp[Act.eval,g6,g0,hjI,hlt]) ?_;simp only[if_true,if_false,reduceIte,Bool.false_eq_true]);repeat (first|refine rQ rfl ?_|(refine rO zaA rfl ?_;intro _ hu_ K_ hK_;(have hc:=(Ext.twin hu_).cell c2);go_simp;(try rw[wI _]);(try rw[wU _]);refine hK_ _ ?_;clear hK_ K_ hu_;simp only[sS,sN])|refine rW ?_)
  by_cases hgt:mx<b
  ·have hgI:((mx:Nat):Int)<((b:Nat):Int):=by omega
   have HM2:Hid (b=mxB h (j+1)):=hide (by unfold mxB;rw[←HM.out,←HB.out,if_pos hgt]);(refine zaB (t:=true) (by simp[Act.eval,hgI,hgt]) ?_;simp only[if_true,if_false,reduceIte,Bool.false_eq_true]);repeat (first|refine rQ rfl ?_|(refine rO zaA rfl ?_;intro _ hu_ K_ hK_;(have hc:=(Ext.twin hu_).cell c2);go_simp;(try rw[wI _]);(try rw[wU _]);refine hK_ _ ?_;clear hK_ K_ hu_;simp only[sS,sN])|refine rW ?_)
   refine nxt _ _ _ (n - (j+1)) (by omega) ⟨j+1,sm+b,b,rfl,by omega,rfl,rfl,HS2,by omega,HM2,by simp[g0],by simp,by simp,by simp⟩
  ·have hgI:¬((mx:Nat):Int)<((b:Nat):Int):=by omega
   have HM2:Hid (mx=mxB h (j+1)):=hide (by unfold mxB;rw[←HM.out,←HB.out,if_neg hgt]);(refine zaB (t:=false) (by simp[Act.eval,hgI,hgt]) ?_;simp only[if_true,if_false,reduceIte,Bool.false_eq_true]);repeat (first|refine rQ rfl ?_|refine rY zaA ?_|refine rW ?_)
   refine nxt _ _ _ (n - (j+1)) (by omega) ⟨j+1,sm+b,mx,rfl,by omega,rfl,rfl,HS2,by omega,HM2,by simp[g0],by simp,by simp[g5],by simp⟩
 ·obtain rfl:j=n:=by omega
  (refine zaB (t:=false) (by simp[Act.eval,g6,g0]) ?_;simp only[if_true,if_false,reduceIte,Bool.false_eq_true]);refine zaK rfl ?_;repeat (first|refine rQ rfl ?_|refine rY zaA ?_|refine rW ?_)
  refine zaH fun todo=>?_
  refine ret _ _ _ _ (.tuple #[.int .i64 (sm:Nat),.int .i64 (mx:Nat)]) ?_ ⟨by rw[HS.out,HM.out],rfl,rfl⟩;simp[results,Tryz.results12,g4,g5]
end
structure Stp(n mi:Nat)(h h':Nat→Hl):Prop where
 lt:mi<n
 ids:∀ i,i<n→(h' i).id=(h i).id
 sizes:∀ i,i<n→(h' i).size=(h i).size
 same:∀ i,i<n→i≠mi→(h' i).bad=(h i).bad
 less:(h' mi).bad+1=(h mi).bad
 most:(h mi).bad=mxB h n
theorem ylH{L:List Ent}{n n2 n3:Nat}{s:Dsk}{h h2 h3:Nat→Hl}(hids:(L.map (·.id)).Nodup)(H:Tells L n h)(H2:Tells L n2 h2)(hp:0<sumB h n)(H3:Tells (scrubN n2 1 ⟨h2,s,L⟩).L n3 h3):n2=n∧n3=n∧sumB h2 n2=sumB h n∧∃ mi,Stp n mi h h3:=by
 obtain⟨rfl,e2⟩:=H.uniq H2;have hs:=zdP e2;obtain⟨hn,hb⟩:=zpV (show 0<sumB h2 n by omega);obtain⟨k,e,q1,q2,q3,q4,q5,q6,q7,q8,q9⟩:=zmL (x:=⟨h2,s,L⟩) hids H2 hn hb;obtain⟨rfl,e3⟩:=H3.uniq (n':=n) (h':=(scrub1 n ⟨h2,s,L⟩).h) q9;rw[q8]at e3;simp only at e3 q4 hb;have hml:=ziE (fun j=>(h2 j).bad) n3 hn;have hmx:=ymA h2 hn;rw[←zsO e2]at hmx;generalize zdW (fun j=>(h2 j).bad) n3=mi at e3 q4 hb hml hmx;have hmend:=zjW q5 q6;refine⟨rfl,rfl,hs.symm,mi,hml,fun i hi=>?_,fun i hi=>?_,fun i hi hne=>?_,?_,?_⟩
 ·rw[e3 i hi,e2 i hi];unfold updH;split
  ·rename_i ei;rw[ei,q4,hmend];rfl
  ·rfl
 ·rw[e3 i hi,e2 i hi];unfold updH;split
  ·rename_i ei;rw[ei,q4,hmend];rfl
  ·rfl
 ·rw[e3 i hi,e2 i hi];unfold updH;rw[if_neg hne]
 ·rw[e3 mi hml,e2 mi hml];unfold updH;rw[if_pos rfl,hmend];rw[q4]at hb ⊢;show(hlOf e).bad - 1+1=(hlOf e).bad;omega
 ·rw[e2 mi hml,hmx]
end Go.Proofs.YtpiefebngnlfoabGreatDoor
