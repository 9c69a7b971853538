import Derived.Test.YtpiefebngnlfoaaGreatDoorNj
set_option maxRecDepth 100000
set_option maxHeartbeats 16000000
set_option linter.unusedVariables false
set_option linter.unusedSimpArgs false
namespace Go.Proofs.YtpiefebngnlfoaaGreatDoor
open Go.RowKit Go.Conc Go.Vw
section
variable {X D DB DA M X' D' DB' DA' M':Nat}{RB RA RB' RA':Nat→Nat}{nd nb turn turn' N N' n m wr:Nat}{s:Dsk}{L L':List Ent}{T:List It}{w w' v:World}{S:Nat→Prop}{T':Nat→ByteArray}{H:Nat→Bool}
theorem Hv.slots(h:Hv N nd nb n m X D DB DA M RB RA turn s L T w)(hS:zgM L)(ht:turn<18446744073709551616)(hn:14≤nd)(hH:Harm nd nb (fun d=>txt nb (s.a d)) T' H):(∀ p,p<nb→SlotK (zdF T' wr).c p (lbAt L p) (gdAt L (zdF T' wr).c p))∧∀ e∈L,10≤cntG (gdAt L (zdF T' wr).c e.slot) 14:=by
 rw[show s.a=s.c from h.kept.1]at hH;refine⟨fun p hp=>(znH hS h.neat h.st.ent ht h.st.dk.byte hn hH hp).1,fun e he=>?_⟩
 have h1:=(znH (wr:=wr) hS h.neat h.st.ent ht h.st.dk.byte hn hH (h.st.ent e he).slot).2 e (zwE h.st.slots he);have h2:=ziH (g:=gdAt L (zdF T' wr).c e.slot) (h:=H) 14 h1;have h3:=zzR H hn;have h4:=hH.four;omega
theorem Hv.remount{n':Nat}(h:Hv N nd nb n m X D DB DA M RB RA turn s L T w)(hS:zgM L)(ht:turn<18446744073709551616)(hn:14≤nd)(hH:Harm nd nb (fun d=>txt nb (s.a d)) T' H)(hSv:Svs (lbAt L) (gdAt L (zdF T' wr).c) nb L' turn')(hX:StE X' D' DB' DA' M' RB' RA' nd nb turn' (zdP (zdF T' wr) (takB L') nb) L' w')(hown:∀ b,SOwn X' D' M' RB' RA' nd b→N'≤b)(hwr:n'+28*nb≤wr):Hv N' nd nb n' m X' D' DB' DA' M' RB' RA' turn' (zdP (zdF T' wr) (takB L') nb) L' T w'∧L'.length≤L.length:=by
 obtain⟨hsl,hten⟩:=h.slots (wr:=wr) hS ht hn hH;obtain⟨i1,i2,i3⟩:=zpW h.st.ids h.st.slots (fun e he=>(h.st.ent e he).turn) hten hSv;have hle:L'.length≤L.length:=by
  have:=zhR (l:=L'.map (·.id)) (m:=L.map (·.id)) hX.ids fun x hx=>by
   obtain⟨e,he,rfl⟩:=List.mem_map.1 hx;obtain⟨e0,q1,_,q3,_⟩:=i1 e he;exact List.mem_map.2 ⟨e0,q1,q3.id.symm⟩
  rwa [List.length_map,List.length_map]at this
 refine⟨⟨hX,hown,⟨fun e he k hk hg=>?_,fun p hp hno k hk j hj=>?_⟩,h.few.same fun e he=>?_,Nat.le_trans hle h.len,Kept.sweep nb ⟨rfl,hwr⟩,Nat.le_trans i3 h.turn,h.rep.same (fun e he=>?_) fun e0 he0=>?_⟩,hle⟩
 ·obtain⟨e0,q1,q2,q3,q4⟩:=i1 e he;have htk:takB L' e.slot=true:=zjF.2 ⟨e,he,rfl⟩;rw[zmG htk];rw[q4,yaJ hk]at hg;rw[q3.slot];exact(hsl e0.slot q2).no k hk hg
 ·have htk:takB L' p=false:=by
   cases hq:takB L' p with
   |false=>rfl
   |true=>
    obtain⟨e,he,hs⟩:=zjF.1 hq;exact absurd hs (hno e he)
  exact zjG htk hk hj nb hp
 ·obtain⟨e0,q1,_,q3,_⟩:=i1 e he;exact⟨e0,q1,q3.id⟩
 ·obtain⟨e0,q1,_,q3,_⟩:=i1 e he;refine⟨e0,q1,?_⟩;unfold itOf;rw[q3.id,q3.size,q3.val]
 ·obtain⟨e,q1,q3⟩:=i2 e0 he0 (h.st.ent e0 he0).slot;refine⟨e,q1,?_⟩;unfold itOf;rw[q3.id,q3.size,q3.val]
end
structure Scrd(nb n m:Nat)(x0 x:Scb):Prop where
 tells:Tells x.L n x.h
 sum:sumB x.h n+m=sumB x0.h n
 ids:x.L.map (·.id)=x0.L.map (·.id)
 slots:x.L.map (·.slot)=x0.L.map (·.slot)
 its:x.L.map itOf=x0.L.map itOf
 neat:Neat nb x0.s.c x0.L→Neat nb x.s.c x.L
theorem ybH{nb n m:Nat}{x0 x:Scb}(hids:(x0.L.map (·.id)).Nodup)(hsl:(x0.L.map (·.slot)).Nodup)(h:Scrd nb n m x0 x)(hm:m<sumB x0.h n):Scrd nb n (m+1) x0 (scrub1 n x):=by
 have hs:=h.sum;obtain⟨hn,hb⟩:=zwS (show 0<sumB x.h n by omega);obtain⟨k,e,q1,q2,q3,q4,q5,q6,q7,q8,q9⟩:=zrT (by rw[h.ids];exact hids) h.tells hn hb;refine⟨q9,?_,?_,?_,?_,fun hN=>?_⟩
 ·rw[q8];have hu:=zwR x.h (zeI (fun j=>(x.h j).bad) n) (hlOf (e.mend (fstF e.good))) n (zlU _ n hn);rw[znG q5 q6]at hu ⊢;rw[q4]at hb hu;simp only at hu ⊢;omega
 ·rw[q8,←h.ids];exact zdU q3 rfl
 ·rw[q8,←h.slots];exact zdU q3 rfl
 ·rw[q8,←h.its];exact zdU q3 rfl
 ·have hN':=h.neat hN;have hsl':(x.L.map (·.slot)).Nodup:=by rw[h.slots];exact hsl
  rw[q8];have hoff:∀ d p,¬(d=fstF e.good∧p=e.slot)→(x.s.wr (fstF e.good) e.slot (e.blk (fstF e.good))).c d p=x.s.c d p:=fun d p hq=>by
   funext i;show updC x.s.c (fstF e.good) e.slot (e.blk (fstF e.good)) d p i=_;unfold updC;rw[if_neg hq]
  refine⟨fun y hy j hj hg=>?_,fun p hp hno j hj i hi=>?_⟩
  ·obtain⟨i,hi⟩:=List.mem_iff_getElem?.1 hy;rw[List.getElem?_set]at hi;by_cases ei:k=i
   ·rw[if_pos ei]at hi;split at hi
    ·cases hi
     have hg':(if j=fstF e.good then true else e.good j)=false:=hg;have hne:j≠fstF e.good:=fun q=>by rw[if_pos q]at hg';cases hg'
     rw[if_neg hne]at hg';rw[show(e.mend (fstF e.good)).slot=e.slot from rfl,hoff j e.slot (fun q=>hne q.1)];exact hN'.bad e q2 j hj hg'
    ·cases hi
   ·rw[if_neg ei]at hi;have hyL:=List.mem_of_getElem? hi;rw[hoff j y.slot (fun q=>ei ?_)]
    ·exact hN'.bad y hyL j hj hg
    ·have e1:(x.L.map (·.slot))[i]?=(x.L.map (·.slot))[k]?:=by
      rw[List.getElem?_map,List.getElem?_map,hi,q3];show some y.slot=some e.slot;rw[q.2]
     exact((List.getElem?_inj (by rw[List.length_map];exact(List.getElem?_eq_some_iff.1 hi).1) hsl').1 e1).symm
  ·have hpe:p≠e.slot:=fun q=>hno (e.mend (fstF e.good)) (List.mem_set (List.getElem?_eq_some_iff.1 q3).1 _) q.symm
   rw[hoff j p (fun q=>hpe q.2)];refine hN'.free p hp (fun y hy hs=>?_) j hj i hi;obtain⟨i',hi'⟩:=List.mem_iff_getElem?.1 hy;by_cases ei:k=i'
   ·subst ei;rw[q3]at hi';cases hi'
    exact hpe hs.symm
   ·exact hno y (List.mem_iff_getElem?.2 ⟨i',by rw[List.getElem?_set,if_neg ei];exact hi'⟩) hs
theorem scrd{nb n:Nat}{x0:Scb}(hids:(x0.L.map (·.id)).Nodup)(hsl:(x0.L.map (·.slot)).Nodup)(hT:Tells x0.L n x0.h):∀ m,m≤sumB x0.h n→Scrd nb n m x0 (scrubN n m x0)
 |0,_=>⟨hT,rfl,rfl,rfl,rfl,id⟩
 |m+1,h=>ybH hids hsl (scrd hids hsl hT m (by omega)) (by omega)
theorem Scrd.rep{nb n m:Nat}{x0 x:Scb}{T:List It}(h:Scrd nb n m x0 x)(hR:Rep x0.L T):Rep x.L T:=by
 refine hR.same (fun e he=>?_) fun e0 he0=>?_
 ·have:itOf e∈x.L.map itOf:=List.mem_map.2 ⟨e,he,rfl⟩;rw[h.its]at this;obtain⟨e0,q1,q2⟩:=List.mem_map.1 this;exact⟨e0,q1,q2.symm⟩
 ·have:itOf e0∈x0.L.map itOf:=List.mem_map.2 ⟨e0,he0,rfl⟩;rw[←h.its]at this;obtain⟨e,q1,q2⟩:=List.mem_map.1 this;exact⟨e,q1,q2⟩
section
variable {X D DB DA M:Nat}{RB RA:Nat→Nat}{nd nb turn N n m:Nat}{s:Dsk}{L:List Ent}{T:List It}{w w':World}
theorem Hv.scrub{k j:Nat}{h:Nat→Hl}(H:Hv N nd nb (n+j) m X D DB DA M RB RA turn s L T w)(hT:Tells L k h)(hj:j≤sumB h k)(hX:StE X D DB DA M RB RA nd nb turn (scrubN k j ⟨h,s,L⟩).s (scrubN k j ⟨h,s,L⟩).L w'):Hv N nd nb n m X D DB DA M RB RA turn (scrubN k j ⟨h,s,L⟩).s (scrubN k j ⟨h,s,L⟩).L T w':=by
 have hS:=scrd (nb:=nb) (x0:=⟨h,s,L⟩) H.st.ids H.st.slots hT j hj;refine⟨hX,H.own,hS.neat H.neat,fun e he=>?_,?_,Kept.scrubN j H.kept,H.turn,hS.rep H.rep⟩
 ·have:e.id∈(scrubN k j ⟨h,s,L⟩).L.map (·.id):=List.mem_map.2 ⟨e,he,rfl⟩;rw[hS.ids]at this;obtain⟨e0,q1,q2⟩:=List.mem_map.1 this;rw[←q2];exact H.few e0 q1
 ·have:=congrArg List.length hS.ids;rw[List.length_map,List.length_map]at this;rw[this];exact H.len
end
theorem zzL{w:World}{g n:Nat}{h:Nat→Hl}(hr:w.heap[g]?=some (.cells (hA n h) 94)){i:Nat}(hi:i<n):w.cell? ⟨g,i*3,none⟩=some (.int .i64 ((h i).id:Nat))∧w.cell? ⟨g,i*3+1,none⟩=some (.int .i64 ((h i).size:Nat))∧w.cell? ⟨g,i*3+2,none⟩=some (.int .i64 ((h i).bad:Nat)):=by
 refine⟨?_,?_,?_⟩
 ·rw[cell_of_row _ _ _ _ _ _ hr,zeQ (by omega),show i*3 / 3=i by omega,show i*3 % 3=0 by omega];rfl
 ·rw[cell_of_row _ _ _ _ _ _ hr,zeQ (by omega),show(i*3+1) / 3=i by omega,show(i*3+1) % 3=1 by omega];rfl
 ·rw[cell_of_row _ _ _ _ _ _ hr,zeQ (by omega),show(i*3+2) / 3=i by omega,show(i*3+2) % 3=2 by omega];rfl
theorem Tells.bad14{L:List Ent}{n:Nat}{h:Nat→Hl}(H:Tells L n h){i:Nat}(hi:i<n):(h i).bad≤14:=by
 obtain⟨e,_,q⟩:=H.yes i hi;rw[q];show 14 - cntG e.good 14≤14;omega
section
variable {w w' v:World}{S:Nat→Prop}
end
theorem zrN{h:Nat→Hl} : ∀ {n:Nat},sumB h n=0→∀ i,i<n→(h i).bad=0
 |n+1,hs,i,hi=>by
  have hs':sumB h n+(h n).bad=0:=hs;by_cases e:i=n
  ·subst e;omega
  ·exact zrN (n:=n) (by omega) i (by omega)
theorem yeG{g:Nat→Bool}(h:14≤cntG g 14){k:Nat}(hk:k<14):g k=true:=by
 cases hg:g k with
 |true=>rfl
 |false=>
  have h1:=zqX hg 14 hk;have h2:=zzQ (fun j=>if j=k then true else g j) 14
  omega
theorem Tells.sound{L:List Ent}{n:Nat}{h:Nat→Hl}(H:Tells L n h)(hs:sumB h n=0):zgM L:=fun e he k hk=>by
 obtain⟨i,hi,q⟩:=H.all e he;have:=zrN hs i hi;rw[q]at this;have h1:14 - cntG e.good 14=0:=this;exact yeG (by omega) hk
section
variable {X D DB DA M X' D' DB' DA' M':Nat}{RB RA RB' RA':Nat→Nat}{nd nb turn turn' N N' n m wr:Nat}{s:Dsk}{L L':List Ent}{T:List It}{w w' v:World}{S:Nat→Prop}{T':Nat→ByteArray}{H:Nat→Bool}
theorem Hv.resound(h:Hv N nd nb n m X D DB DA M RB RA turn s L T w)(hS:zgM L)(ht:turn<18446744073709551616)(hn:14≤nd)(hH:Harm nd nb (fun d=>txt nb (s.a d)) T' H)(hSv:Svs (lbAt L) (gdAt L (zdF T' wr).c) nb L' turn')(hno:∀ k,k<14→H k=false):zgM L':=fun e he k hk=>by
 obtain⟨_,hten⟩:=h.slots (wr:=wr) hS ht hn hH;obtain⟨i1,_,_⟩:=zpW h.st.ids h.st.slots (fun e he=>(h.st.ent e he).turn) hten hSv;obtain⟨e0,q1,q2,q3,q4⟩:=i1 e he;rw[show s.a=s.c from h.kept.1]at hH;rw[q4,yaJ hk];exact(znH hS h.neat h.st.ent ht h.st.dk.byte hn hH q2).2 e0 (zwE h.st.slots q1) k hk (hno k hk)
theorem ydM(T:Nat→ByteArray):Harm nd nb T T fun _=>false:=⟨by rw[zjY];omega,fun _ _ _=>rfl,fun _ _ h=>(by cases h)⟩
theorem Hv.le{n' m':Nat}(h:Hv N nd nb n m X D DB DA M RB RA turn s L T w)(h1:n'≤n)(h2:m≤m'):Hv N nd nb n' m' X D DB DA M RB RA turn s L T w:=⟨h.st,h.own,h.neat,h.few,h.len,h.kept.le h1,Nat.le_trans h.turn h2,h.rep⟩
end
section
variable {X D DB DA M:Nat}{RB RA:Nat→Nat}{nd nb turn:Nat}{s:Dsk}{L:List Ent}{w w' v:World}{S:Nat→Prop}
theorem yjH(hL:L.length≤12)(hS:zgM L)(hX:StE X D DB DA M RB RA nd nb turn s L v) :
  zaP Tryz.prog 21 #[.pointer (some ⟨X,0,none⟩)] S v fun x S' v'=>x=.bool true∧S'=S∧Kp v (fun _=>False) v':=by
 refine zaF Tryz.func21 rfl Tryz.ntmps21 (by simp) fun Stop cc cs ret=>?_
 have g0:argF #[.pointer (some ⟨X,0,none⟩)] 0=.pointer (some ⟨X,0,none⟩):=rfl;generalize argF #[.pointer (some ⟨X,0,none⟩)]=f at g0;repeat (first|refine rQ rfl ?_|refine rY zaA ?_|refine rW ?_)
 (refine zaC rfl (by first|rfl|simp[Region.wanted,yielded,zaG, *]) rfl Tryz.func39 (by kernel_rfl) rfl (by simp[Act.eval, *];try rfl) (zvP hL hX) ?_)
 rintro _ S1 w1 _ ⟨e1,n,g,h,rfl,hl⟩;subst S1;simp only[stO_some];have H:=hl.tells hX.ids;have hr:=hl.row;have hK:=hl.kp;have Hn:=hide hl.len;have hn12:n≤12:=by rw[Hn.out];exact hL
 have hz:∀ i,i<n→(h i).bad=0:=fun i hi=>by
  obtain⟨e,he,q⟩:=H.yes i hi;rw[q];have h1:=ziH (g:=e.good) (h:=fun _=>false) 14 fun k hk _=>hS e he k hk
  rw[zjY]at h1;show 14 - cntG e.good 14=0;omega
 clear hl;repeat (first|refine rQ rfl ?_|refine rY zaA ?_|refine rW ?_)
 refine zaI (fun d f' S' w=>∃ j,d=n - j∧j≤n∧S'=S∧w=w1∧f' 3=.slice (some ⟨g,0,none⟩) n n∧f' 4=.int .i64 (j:Nat)) n ⟨0,by omega,by omega,rfl,rfl,by simp,by simp⟩ ?_;clear g0 f;rintro d f S' w ⟨j,rfl,hj,eS,eW,g3,g4⟩ nxt;subst S' w;by_cases hlt:j<n
 ·have hjI:(j:Int)<(n:Int):=by omega
  obtain⟨_,_,c2⟩:=zzL hr hlt;rw[hz j hlt]at c2;repeat (first|refine rQ rfl ?_|refine rY zaA ?_|refine rW ?_)
  (refine zaB (t:=true) (by simp[Act.eval,g4,g3,hjI,hlt]) ?_;simp only[if_true,if_false,reduceIte,Bool.false_eq_true]);repeat (first|refine rQ rfl ?_|(refine rO zaA rfl ?_;intro _ hu_ K_ hK_;(have hc:=(Ext.twin hu_).cell c2);go_simp;(try rw[wI _]);(try rw[wU _]);refine hK_ _ ?_;clear hK_ K_ hu_;simp only[sS,sN])|refine rW ?_)
  (refine zaB (t:=false) (by simp[Act.eval]) ?_;simp only[if_true,if_false,reduceIte,Bool.false_eq_true]);repeat (first|refine rQ rfl ?_|refine rY zaA ?_|refine rW ?_)
  refine nxt _ _ _ (n - (j+1)) (by omega) ⟨j+1,rfl,by omega,rfl,rfl,by simp[g3],by simp⟩
 ·obtain rfl:j=n:=by omega
  repeat (first|refine rQ rfl ?_|refine rY zaA ?_|refine rW ?_)
  (refine zaB (t:=false) (by simp[Act.eval,g4,g3]) ?_;simp only[if_true,if_false,reduceIte,Bool.false_eq_true]);refine zaK rfl ?_;repeat (first|refine rQ rfl ?_|refine rY zaA ?_|refine rW ?_)
  refine zaH fun todo=>?_
  refine ret _ _ S w1 (.bool true) ?_ ⟨rfl,rfl,hK⟩;simp[results,Tryz.results21]
end
end Go.Proofs.YtpiefebngnlfoaaGreatDoor
