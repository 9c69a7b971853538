import Derived.Test.YtpiefebngnlfoaaGreatDoorMm
set_option maxRecDepth 100000
set_option maxHeartbeats 16000000
set_option linter.unusedVariables false
set_option linter.unusedSimpArgs false
namespace Go.Proofs.YtpiefebngnlfoaaGreatDoor
open Go.RowKit Go.Conc Go.Vw
section
variable {X D DB DA M:Nat}{RB RA:Nat→Nat}{nd nb turn:Nat}{s:Dsk}{L:List Ent}{w w' v:World}{S:Nat→Prop}
def Sv(L:List Ent)(turn p:Nat)(l:Lb)(G:Nat→Bool)(L':List Ent)(turn':Nat):Prop:=
 if anyG G 14=true then turn'=max turn l.turn∧(if zhJ L l G=true then ∃ clock,PutOk L (l.ent p (upG G 14)) clock∧L'=putL L (l.ent p (upG G 14)) clock else L'=L) else turn'=turn∧L'=L
def VOwn(X M b:Nat):Prop:=b=X∨b=M
theorem StE.turned{t':Nat}{w1:World}(h:StE X D DB DA M RB RA nd nb turn s L w)(ht:turn≤t')(hK:Kp w (fun _=>False) w1)(hW:Wr w1 X (.cells #[.pointer (some ⟨D,0,none⟩),.map (some M),.int .u64 (t':Nat)] 80) w'):StE X D DB DA M RB RA nd nb t' s L w':=(h.kp hK).wrX ht hW
theorem yaT(t:TypeId)(e:Value)(p:Nat)(l:Lb)(G':Nat→Bool)(hg0:v.cell? ⟨0,0,none⟩=some (.iface t e))(hg:Tryz.prog.globals.size≤v.heap.size)(hp:p<nb)(hn1:14≤nd)(hnd:nd≤18)(hnb:nb≤64)(hK:SlotK s.c p l G')(hX:StE X D DB DA M RB RA nd nb turn s L v)(hpf:∀ e∈L,e.slot≠p) :
  zaP Tryz.prog 26 #[.pointer (some ⟨X,0,none⟩),.int .i64 (p:Nat)] S v fun x S' v'=>x=.tuple #[]∧Kp v (VOwn X M) v'∧∃ L' turn',Sv L turn p l G' L' turn'∧StE X D DB DA M RB RA nd nb turn' s L' v':=by
 refine zaF Tryz.func26 rfl Tryz.ntmps26 (by simp) fun Stop cc cs ret=>?_
 have g0:argF #[.pointer (some ⟨X,0,none⟩),.int .i64 (p:Nat)] 0=.pointer (some ⟨X,0,none⟩):=rfl;have g1:argF #[.pointer (some ⟨X,0,none⟩),.int .i64 (p:Nat)] 1=.int .i64 (p:Nat):=rfl;generalize argF #[.pointer (some ⟨X,0,none⟩),.int .i64 (p:Nat)]=f at g0 g1;repeat (first|refine rQ rfl ?_|refine rY zaA ?_|refine rW ?_)
 (refine zaC rfl (by first|rfl|simp[Region.wanted,yielded,zaG, *]) rfl Tryz.func53 (by kernel_rfl) rfl (by simp[Act.eval, *];try rfl) (ycO t e p l G' hg0 hp hn1 hnd hnb hK hX) ?_)
 rintro _ S1 w1 _ ⟨e1,hE1,m,rfl,hmn,hm1⟩;subst S1;simp only[stO_some];have hX1:=hX.ext hE1;cases hany:anyG G' 14 with
 |false=>
  have hf0:fdAt l G' p 14=none:=by unfold fdAt;rw[hany];rfl
  rw[hf0]at hm1;refine zgS rfl rfl rfl (m:=m) (by simp) Tryz.underlying117 hm1 fun w2 hE2 hi2=>?_
  simp only[stO_some];repeat (first|refine rQ rfl ?_|refine rY zaA ?_|refine rW ?_)
  refine zaI (fun d f' S' w=>S'=S∧w=w2∧f' 11=.pointer (some ⟨w1.heap.size,0,none⟩)) 0 ⟨rfl,rfl,by simp⟩ ?_;clear g0 g1 f;rintro d f S' w ⟨eS,eW,g11⟩ nxt;subst S' w;repeat (first|refine rQ rfl ?_|refine rY zaA ?_|refine rW ?_)
  refine zuL rfl rfl rfl (r:=w1.heap.size) (m:=m) (by simp[g11]) hi2 (hE2.row hm1) ?_;simp only[stO_some];repeat (first|refine rQ rfl ?_|refine rY zaA ?_|refine rW ?_)
  (refine zaB (t:=false) (by simp[Act.eval]) ?_;simp only[if_true,if_false,reduceIte,Bool.false_eq_true]);refine zaK rfl ?_;repeat (first|refine rQ rfl ?_|refine rY zaA ?_|refine rW ?_)
  refine zcQ ?_;have hE:=hE1.trans _ _ _ hE2;refine ret _ _ S w2 (.tuple #[]) ?_ ⟨rfl,(Kp.refl v _).ext hE,L,turn,?_,hX.ext hE⟩
  ·simp[results,Tryz.results26]
  ·unfold Sv;rw[if_neg (by rw[hany];exact Bool.false_ne_true)];exact⟨rfl,rfl⟩
 |true=>
  have hl:l.Ok:=by
   obtain⟨k,hk,hgk⟩:=List.any_eq_true.1 hany;exact hK.ok k (List.mem_range.1 hk) hgk
  have hf1:fdAt l G' p 14=some ⟨l.id,l.size,l.turn,p,upG G' 14⟩:=by unfold fdAt;rw[hany];rfl
  rw[hf1]at hm1;refine zgS rfl rfl rfl (m:=m) (by simp) Tryz.underlying117 hm1 fun w2 hE2 hi2=>?_
  simp only[stO_some];repeat (first|refine rQ rfl ?_|refine rY zaA ?_|refine rW ?_)
  have hE12:=hE1.trans _ _ _ hE2;have hm2:w2.heap[m]?=some (fndO (some ⟨l.id,l.size,l.turn,p,upG G' 14⟩)):=by
   rw[hE2.block m (Array.getElem?_eq_some_iff.1 hm1).1];exact hm1
  have hmlt:m<w1.heap.size:=(Array.getElem?_eq_some_iff.1 hm1).1;have hrn:v.heap.size≤w1.heap.size:=hE1.size;generalize hrd:w1.heap.size=r at *
  refine zaI (fun d f' S' w=>(d=1∧S'=S∧w=w2∨d=0∧Kp v (VOwn X M) w∧(∃ L' turn',Sv L turn p l G' L' turn'∧StE X D DB DA M RB RA nd nb turn' s L' w)∧w.heap[r]?=some (.mapIter (some m) 1 #[0] 1)∧w.heap[m]?=some (fndO (some ⟨l.id,l.size,l.turn,p,upG G' 14⟩)))∧f' 0=.pointer (some ⟨X,0,none⟩)∧f' 11=.pointer (some ⟨r,0,none⟩)) 1 ⟨.inl ⟨rfl,rfl,rfl⟩,by simp[g0],by simp⟩ ?_;clear g0 g1 f;rintro d f S' w ⟨hcase,g0,g11⟩ nxt;rcases hcase with⟨ed,eS,eW⟩|⟨ed,hKw,hfin,hit,hmw⟩
  ·subst S' w;have hX2:=hX.ext hE12;obtain⟨clock,hmv,hbn⟩:=hX2.map;repeat (first|refine rQ rfl ?_|refine rY zaA ?_|refine rW ?_)
   refine zsG rfl rfl rfl (r:=r) (m:=m) (d:=⟨l.id,l.size,l.turn,p,upG G' 14⟩) (by simp[g11]) hi2 hm2 fun w3 hW3=>?_
   simp only[stO_some];have hE3:Ext v w3:=zbD hE12 hrn hW3;have hm3:=zaQ hW3 hm2 (by omega);repeat (first|refine rQ rfl ?_|refine rY zaA ?_|refine rW ?_)
   (refine zaB (t:=true) (by simp[Act.eval]) ?_;simp only[if_true,if_false,reduceIte,Bool.false_eq_true]);repeat (first|refine rQ rfl ?_|refine rY zaA ?_|refine rW ?_)
   refine zsI rfl rfl rfl (r:=r) (m:=m) (d:=⟨l.id,l.size,l.turn,p,upG G' 14⟩) (by simp[g11]) hW3.at_ hm3 ?_;simp only[stO_some];repeat (first|refine rQ rfl ?_|refine rY zaA ?_|refine rW ?_)
   refine zaN zaA rfl rfl (by kernel_rfl) (.agg ydG) rfl (by kernel_rfl) fun w4 hE4 hb4 hs4=>?_
   simp only[stO_some];refine zaN zaA rfl rfl (by kernel_rfl) (.agg (zaU 0 0 0 0 fun _=>false)) rfl (by kernel_rfl) fun w5 hE5 hb5 hs5=>?_
   simp only[stO_some];refine zaL zaA rfl rfl (by kernel_rfl) (x:=.tmp 4) (y:=.tmp 15) (g:=w3.heap.size) (c:=zbA l.id l.size l.turn) rfl (by simp) (by simp) (hE5.row hb4) (by kernel_rfl) rfl (by simp[zbA,Value.oneCell']) fun w6 hW6=>?_
   simp only[stO_none];have hb5':=zaQ hW6 hb5 (by omega);refine zaL zaA rfl rfl (by kernel_rfl) (x:=.tmp 5) (y:=.tmp 16) (g:=w4.heap.size) (c:=zaU l.id l.size l.turn p (upG G' 14)) rfl (by simp) (by simp) hb5' (by kernel_rfl) rfl (by simp[zaU,Value.oneCell']) fun w7 hW7=>?_
   simp only[stO_none];have hE7:Ext w3 w7:=zbD (zbD (hE4.trans _ _ _ hE5) (Nat.le_refl _) hW6) (by omega) hW7;have hlb7:=zaQ hW7 hW6.at_ (by omega);have hkb7:=hW7.at_;have hX7:=hX.ext (hE3.trans _ _ _ hE7);have hit7:=hE7.row hW3.at_;have hm7:w7.heap[m]?=some (fndO (some ⟨l.id,l.size,l.turn,p,upG G' 14⟩)):=by
    rw[hE7.block m (Array.getElem?_eq_some_iff.1 hm3).1];exact hm3
   have hM0:M<v.heap.size:=by
    obtain⟨cl,q,_⟩:=hX.map;exact(Array.getElem?_eq_some_iff.1 q).1
   have hmv7:w7.heap[M]?=some (mapO L clock):=by
    rw[hE7.block M (by have:=hE3.size;omega),hE3.block M hM0,←hE12.block M hM0];exact hmv
   have hg7:Tryz.prog.globals.size≤w7.heap.size:=by have:=(hE3.trans _ _ _ hE7).size;omega
   have hv7:=(hE3.trans _ _ _ hE7).size;generalize hlbd:w3.heap.size=lb at *
   generalize hkbd:w4.heap.size=kb at *
   repeat (first|refine rQ rfl ?_|refine rY zaA ?_|refine rW ?_)
   refine ztS lb l.id l.size l.turn clock hX7.c1 hmv7 hlb7 (by simp[g0]) (by simp) fun w8 f8 g hE8 hVg hog g6 g7 hf8=>?_
   have k0:f8 0=.pointer (some ⟨X,0,none⟩):=(hf8 0 (by omega)).trans (by simp[g0]);have k4:f8 4=.pointer (some ⟨lb,0,none⟩):=(hf8 4 (by omega)).trans (by simp);have k5:f8 5=.pointer (some ⟨kb,0,none⟩):=(hf8 5 (by omega)).trans (by simp);have k11:f8 11=.pointer (some ⟨r,0,none⟩):=(hf8 11 (by omega)).trans (by simp[g11]);have hkb8:=hE8.row hkb7;have hlb8:=hE8.row hlb7;clear hf8;repeat (first|refine rQ rfl ?_|refine rY zaA ?_|refine rW ?_)
   refine zaO zaA rfl rfl (by kernel_rfl) (fun u hu=>zcC (x:=.tmp 5) (b:=kb) rfl (by simp[k5]) ((Ext.twin hu).row hkb8)) ?_;simp only[stO_some];(refine zaC rfl (by first|rfl|simp[Region.wanted,yielded,zaG, *]) rfl Tryz.func54 (by kernel_rfl) rfl (by simp[Act.eval, *];try rfl) (zlL (l.ent p (upG G' 14))) ?_)
   rintro _ S1 w9 _ ⟨rfl,e1,hE9⟩;subst S1;simp only[stO_some];have hEv9:=hE3.trans _ _ _ (hE7.trans _ _ _ (hE8.trans _ _ _ hE9));have hX9:=hX.ext hEv9;have hlb9:=hE9.row hlb8;have hkb9:=hE9.row hkb8;have hog9:=hE9.row hog;have hE79:=hE8.trans _ _ _ hE9;have hit9:=hE79.row hit7;have hm9:w9.heap[m]?=some (fndO (some ⟨l.id,l.size,l.turn,p,upG G' 14⟩)):=by
    rw[hE79.block m (Array.getElem?_eq_some_iff.1 hm7).1];exact hm7
   have hmv9:w9.heap[M]?=some (mapO L clock):=by
    rw[hE79.block M (Array.getElem?_eq_some_iff.1 hmv7).1];exact hmv7
   have hg9:Tryz.prog.globals.size≤w9.heap.size:=Nat.le_trans hg7 hE79.size;have hXlt:X<v.heap.size:=(Array.getElem?_eq_some_iff.1 hX.row).1;have hlbn:v.heap.size≤lb:=by have:=hE3.size;omega
   have hlt9:lb<w9.heap.size:=(Array.getElem?_eq_some_iff.1 hlb9).1;have no:∀ (f:Nat→Value) (S':Nat→Prop) (kk:List Item),zhJ L l G'=false→f 0=.pointer (some ⟨X,0,none⟩)→f 4=.pointer (some ⟨lb,0,none⟩)→f 11=.pointer (some ⟨r,0,none⟩)→(∀ w' f',(∀ s,s<51→f' s=f s)→(0=1∧S'=S∧w'=w2∨0=0∧Kp v (VOwn X M) w'∧(∃ L' turn',Sv L turn p l G' L' turn'∧StE X D DB DA M RB RA nd nb turn' s L' w')∧w'.heap[r]?=some (.mapIter (some m) 1 #[0] 1)∧w'.heap[m]?=some (fndO (some ⟨l.id,l.size,l.turn,p,upG G' 14⟩)))→Vw.Reach Tryz.prog Stop (G ((base 26).at ⟨TA 61 f',[]⟩ (.inRegion ((zcR 6 (Tryz.f26.body.getD .skip)).getD #[]) [] :: kk)) (cc :: cs)) S' w')→Vw.Reach Tryz.prog Stop (G ((base 26).at ⟨TA 61 f,[]⟩ (.code (.region 6 ((zcR 6 (Tryz.f26.body.getD .skip)).getD #[]) true) :: kk)) (cc :: cs)) S' w9:=by
    intro f S' kk ht q0 q4 q11 hnx;refine ziS (D:=D) lb turn l.id l.size l.turn _ rfl hX9.row hlb9 q0 q4 fun wa wb f' hEa hWb hf'=>?_
    refine hnx wb f' hf' (.inr ⟨rfl,(((Kp.refl v _).ext (hEv9.trans _ _ _ hEa)).wr (.inl (.inl rfl)) hWb),⟨L,_,?_,hX9.turned (Nat.le_max_left _ _) (zcA hEa) hWb⟩,zaQ hWb (hEa.row hit9) (by omega),zaQ hWb (by rw[hEa.block m (Array.getElem?_eq_some_iff.1 hm9).1];exact hm9) (by omega)⟩);unfold Sv;rw[if_pos hany];exact⟨rfl,by rw[if_neg (by rw[ht];exact Bool.false_ne_true)]⟩
   have hcl:cntG (upG G' 14) 14≤14:=zvX _ _;have hce:cntG (l.ent p (upG G' 14)).good 14=cntG (upG G' 14) 14:=rfl;rw[hce];by_cases h10:10≤cntG (upG G' 14) 14
   ·have h10I:(10:Int)≤(cntG (upG G' 14) 14:Nat):=by omega
    have ht0:zhJ L l G'=(match zbF l.id L 0 with|some q=>decide (q.2.turn<l.turn)|none=>true):=by
     unfold zhJ;rw[decide_eq_true h10,Bool.true_and];cases zbF l.id L 0<;>rfl
    have HT:=hide ht0;clear ht0;obtain⟨cg,hcg⟩:∃ cg,cntG (upG G' 14) 14=cg:=⟨_,rfl⟩;have hc10:10≤cg:=by omega
    have hc14:cg≤14:=by omega
    have hcI:(10:Int)≤(cg:Int):=by omega
    rw[hcg];clear hcg h10I hce hcl;cases hq:zbF l.id L 0 with
    |none=>
     rw[hq]at g7 hog9;have htk:zhJ L l G'=true:=by rw[HT.out,hq]
     clear hq;repeat (first|refine rQ rfl ?_|refine rY zaA ?_|refine rW ?_)
     (refine zaB (t:=true) (by simp[Act.eval,hcI,hc10]) ?_;simp only[if_true,if_false,reduceIte,Bool.false_eq_true]);repeat (first|refine rQ rfl ?_|refine rY zaA ?_|refine rW ?_)
     refine zmH lb kb p clock l G' hl h10 hp hn1 hnd hnb hg9 hK hX9 hmv9 hlb9 hkb9 (by simp[k0]) (by simp[k4]) (by simp[k5]) fun wa wb fb Sb hKa hma hWb hfb=>?_
     have b0:fb 0=.pointer (some ⟨X,0,none⟩):=(hfb 0 (by omega)).trans (by simp[k0]);have b4:fb 4=.pointer (some ⟨lb,0,none⟩):=(hfb 4 (by omega)).trans (by simp[k4]);have b11:fb 11=.pointer (some ⟨r,0,none⟩):=(hfb 11 (by omega)).trans (by simp[k11]);have hXa:=hX9.kp hKa;have hPO:PutOk L (l.ent p (upG G' 14)) clock:=zvA hX.ids hX.slots hX.borns hbn hpf;have hxb:=zaQ hWb hXa.row (fun e=>hXa.mn.2.1 e.symm);have hlba:=hKa.cells _ _ _ _ (fun x=>x) hlb9;have hlbb:=zaQ hWb hlba (fun e=>zhF hma hlba e.symm);repeat (first|refine rQ rfl ?_|refine rY zaA ?_|refine rW ?_)
     refine ziS (D:=D) lb turn l.id l.size l.turn _ rfl hxb hlbb (by simp[b0]) (by simp[b4]) fun wc wd fd hEc hWd hfd=>?_
     have d0:fd 0=.pointer (some ⟨X,0,none⟩):=(hfd 0 (by omega)).trans (by simp[b0]);have d11:fd 11=.pointer (some ⟨r,0,none⟩):=(hfd 11 (by omega)).trans (by simp[b11]);repeat (first|refine rQ rfl ?_|refine rY zaA ?_|refine rW ?_)
     refine nxt _ _ _ 0 (by omega) ⟨.inr ⟨rfl,(((((Kp.refl v _).ext hEv9).trans (hKa.mono fun _ q=>q.elim)).wr (.inl (.inr rfl)) hWb).ext hEc).wr (.inl (.inl rfl)) hWd,⟨putL L (l.ent p (upG G' 14)) clock,max turn l.turn,?_,?_⟩,?_,?_⟩,by simp[d0],by simp[d11]⟩
     ·unfold Sv;rw[if_pos hany];refine⟨rfl,?_⟩;rw[if_pos htk];exact⟨clock,hPO,rfl⟩
     ·exact hX9.took hKa hWb hPO hEc hWd (Nat.le_max_left _ _) ((hK.entOk hl hp h10).turns (Nat.le_max_right _ _))
     ·exact zaQ hWd (hEc.row (zaQ hWb (hKa.objs _ _ (fun x=>x) hit9 trivial) (by omega))) (by omega)
     ·have q1:=zaQ hWb (hKa.objs _ _ (fun x=>x) hm9 trivial) (by omega);exact zaQ hWd (by rw[hEc.block m (Array.getElem?_eq_some_iff.1 q1).1];exact q1) (by omega)
    |some q=>
     rw[hq]at g7 hog9;have ct:w9.cell? ⟨g,2,none⟩=some (.int .u64 (q.2.turn:Nat)):=(cell_of_row _ _ _ _ _ _ hog9).trans rfl;have cl2:w9.cell? ⟨lb,2,none⟩=some (.int .u64 (l.turn:Nat)):=(cell_of_row _ _ _ _ _ _ hlb9).trans rfl;by_cases hlt:q.2.turn<l.turn
     ·have htk:zhJ L l G'=true:=by rw[HT.out,hq];simp[hlt]
      clear hq;have hltI:(q.2.turn:Int)<(l.turn:Int):=by omega
      repeat (first|refine rQ rfl ?_|(refine rO zaA rfl ?_;intro _ hu_ K_ hK_;(have hc:=(Ext.twin hu_).cell ct;have hc':=(Ext.twin hu_).cell cl2);go_simp;(try rw[wI _]);(try rw[wU _]);refine hK_ _ ?_;clear hK_ K_ hu_;simp only[sS,sN])|refine rW ?_)
      (refine zaB (t:=true) (by simp[Act.eval,hcI,hc10,hlt]) ?_;simp only[if_true,if_false,reduceIte,Bool.false_eq_true]);repeat (first|refine rQ rfl ?_|refine rY zaA ?_|refine rW ?_)
      refine zmH lb kb p clock l G' hl h10 hp hn1 hnd hnb hg9 hK hX9 hmv9 hlb9 hkb9 (by simp[k0]) (by simp[k4]) (by simp[k5]) fun wa wb fb Sb hKa hma hWb hfb=>?_
      have b0:fb 0=.pointer (some ⟨X,0,none⟩):=(hfb 0 (by omega)).trans (by simp[k0]);have b4:fb 4=.pointer (some ⟨lb,0,none⟩):=(hfb 4 (by omega)).trans (by simp[k4]);have b11:fb 11=.pointer (some ⟨r,0,none⟩):=(hfb 11 (by omega)).trans (by simp[k11]);have hXa:=hX9.kp hKa;have hPO:PutOk L (l.ent p (upG G' 14)) clock:=zvA hX.ids hX.slots hX.borns hbn hpf;have hxb:=zaQ hWb hXa.row (fun e=>hXa.mn.2.1 e.symm);have hlba:=hKa.cells _ _ _ _ (fun x=>x) hlb9;have hlbb:=zaQ hWb hlba (fun e=>zhF hma hlba e.symm);repeat (first|refine rQ rfl ?_|refine rY zaA ?_|refine rW ?_)
      refine ziS (D:=D) lb turn l.id l.size l.turn _ rfl hxb hlbb (by simp[b0]) (by simp[b4]) fun wc wd fd hEc hWd hfd=>?_
      have d0:fd 0=.pointer (some ⟨X,0,none⟩):=(hfd 0 (by omega)).trans (by simp[b0]);have d11:fd 11=.pointer (some ⟨r,0,none⟩):=(hfd 11 (by omega)).trans (by simp[b11]);repeat (first|refine rQ rfl ?_|refine rY zaA ?_|refine rW ?_)
      refine nxt _ _ _ 0 (by omega) ⟨.inr ⟨rfl,(((((Kp.refl v _).ext hEv9).trans (hKa.mono fun _ q=>q.elim)).wr (.inl (.inr rfl)) hWb).ext hEc).wr (.inl (.inl rfl)) hWd,⟨putL L (l.ent p (upG G' 14)) clock,max turn l.turn,?_,?_⟩,?_,?_⟩,by simp[d0],by simp[d11]⟩
      ·unfold Sv;rw[if_pos hany];refine⟨rfl,?_⟩;rw[if_pos htk];exact⟨clock,hPO,rfl⟩
      ·exact hX9.took hKa hWb hPO hEc hWd (Nat.le_max_left _ _) ((hK.entOk hl hp h10).turns (Nat.le_max_right _ _))
      ·exact zaQ hWd (hEc.row (zaQ hWb (hKa.objs _ _ (fun x=>x) hit9 trivial) (by omega))) (by omega)
      ·have q1:=zaQ hWb (hKa.objs _ _ (fun x=>x) hm9 trivial) (by omega);exact zaQ hWd (by rw[hEc.block m (Array.getElem?_eq_some_iff.1 q1).1];exact q1) (by omega)
     ·have htk:zhJ L l G'=false:=by rw[HT.out,hq];simp;omega
      clear hq;have hlt':l.turn≤q.2.turn:=by omega
      repeat (first|refine rQ rfl ?_|(refine rO zaA rfl ?_;intro _ hu_ K_ hK_;(have hc:=(Ext.twin hu_).cell ct;have hc':=(Ext.twin hu_).cell cl2);go_simp;(try rw[wI _]);(try rw[wU _]);refine hK_ _ ?_;clear hK_ K_ hu_;simp only[sS,sN])|refine rW ?_)
      (refine zaB (t:=false) (by simp[Act.eval,hcI,hc10,hlt']) ?_;simp only[if_true,if_false,reduceIte,Bool.false_eq_true]);repeat (first|refine rQ rfl ?_|refine rY zaA ?_|refine rW ?_)
      refine no _ S _ htk (by simp[k0]) (by simp[k4]) (by simp[k11]) fun w' f' hf' hc'=>?_
      have d0:f' 0=.pointer (some ⟨X,0,none⟩):=(hf' 0 (by omega)).trans (by simp[k0]);have d11:f' 11=.pointer (some ⟨r,0,none⟩):=(hf' 11 (by omega)).trans (by simp[k11]);repeat (first|refine rQ rfl ?_|refine rY zaA ?_|refine rW ?_)
      exact nxt _ _ _ 0 (by omega) ⟨hc',by simp[d0],by simp[d11]⟩
   ·have h10I:¬(10:Int)≤(cntG (upG G' 14) 14:Nat):=by omega
    have htk:zhJ L l G'=false:=by
     unfold zhJ;rw[decide_eq_false h10,Bool.false_and]
    have h10':cntG (upG G' 14) 14<10:=by omega
    repeat (first|refine rQ rfl ?_|refine rY zaA ?_|refine rW ?_)
    (refine zaB (t:=false) (by simp[Act.eval,h10I,h10']) ?_;simp only[if_true,if_false,reduceIte,Bool.false_eq_true]);repeat (first|refine rQ rfl ?_|refine rY zaA ?_|refine rW ?_)
    refine no _ S _ htk (by simp[k0]) (by simp[k4]) (by simp[k11]) fun w' f' hf' hc'=>?_
    have d0:f' 0=.pointer (some ⟨X,0,none⟩):=(hf' 0 (by omega)).trans (by simp[k0]);have d11:f' 11=.pointer (some ⟨r,0,none⟩):=(hf' 11 (by omega)).trans (by simp[k11]);repeat (first|refine rQ rfl ?_|refine rY zaA ?_|refine rW ?_)
    exact nxt _ _ _ 0 (by omega) ⟨hc',by simp[d0],by simp[d11]⟩
  ·skip;repeat (first|refine rQ rfl ?_|refine rY zaA ?_|refine rW ?_)
   refine zsF rfl rfl rfl (r:=r) (m:=m) (d:=⟨l.id,l.size,l.turn,p,upG G' 14⟩) (by simp[g11]) hit hmw ?_;simp only[stO_some];repeat (first|refine rQ rfl ?_|refine rY zaA ?_|refine rW ?_)
   (refine zaB (t:=false) (by simp[Act.eval]) ?_;simp only[if_true,if_false,reduceIte,Bool.false_eq_true]);refine zaK rfl ?_;repeat (first|refine rQ rfl ?_|refine rY zaA ?_|refine rW ?_)
   refine zcQ ?_;refine ret _ _ S' w (.tuple #[]) ?_ ⟨rfl,hKw,hfin⟩;simp[results,Tryz.results26]
end
def takB(L:List Ent)(j:Nat):Bool:=L.any fun e=>e.slot == j
theorem zjF{L:List Ent}{j:Nat} : takB L j=true↔∃ e∈L,e.slot=j:=by simp[takB]
def zdP(s:Dsk)(t:Nat→Bool):Nat→Dsk
 |0=>s
 |p+1=>if t p=true then zdP s t p else zgK (zdP s t p) p fun _=>false
section
variable {X D DB DA M:Nat}{RB RA:Nat→Nat}{nd nb turn:Nat}{s:Dsk}{L:List Ent}{w w' v:World}{S:Nat→Prop}
theorem yfL(hb4:4≤nb)(hn1:14≤nd)(hnd:nd≤18)(hnb:nb≤64)(hX:StE X D DB DA M RB RA nd nb turn s L v) :
  zaP Tryz.prog 27 #[.pointer (some ⟨X,0,none⟩)] S v fun x S' v'=>x=.tuple #[]∧S'=S∧Kp v (DOwn D RB RA nd) v'∧StE X D DB DA M RB RA nd nb turn (zdP s (takB L) nb) L v':=by
 refine zaF Tryz.func27 rfl Tryz.ntmps27 (by simp) fun Stop cc cs ret=>?_
 have g0:argF #[.pointer (some ⟨X,0,none⟩)] 0=.pointer (some ⟨X,0,none⟩):=rfl;generalize argF #[.pointer (some ⟨X,0,none⟩)]=f at g0;repeat (first|refine rQ rfl ?_|refine rY zaA ?_|refine rW ?_)
 (refine zaC rfl (by first|rfl|simp[Region.wanted,yielded,zaG, *]) rfl Tryz.func56 (by kernel_rfl) rfl (by simp[Act.eval, *];try rfl) (zwQ hb4 hn1 hnd hnb hX) ?_)
 rintro _ S1 w1 _ ⟨e1,hE1,g,t,rfl,hg,ht1,ht2⟩;subst S1;obtain rfl:t=takB L:=by
  funext j;cases h:t j with
  |true=>exact(zjF.2 (ht2 j h)).symm
  |false=>
   cases h':takB L j with
   |false=>rfl
   |true=>
    obtain⟨e,he,rfl⟩:=zjF.1 h';rw[ht1 e he]at h;cases h
 simp only[stO_some];have hX1:=hX.ext hE1;have hgn:¬DOwn D RB RA nd g:=by
  rintro(h|⟨d,hd,h|h⟩)
  ·exact zaM hg hX1.dk.row (by decide) h
  ·exact zaM hg (hX1.dk.rb d hd) (by decide) h
  ·exact zaM hg (hX1.dk.ra d hd) (by decide) h
 have hKv:Kp v (DOwn D RB RA nd) w1:=(Kp.refl v _).ext hE1;repeat (first|refine rQ rfl ?_|refine rY zaA ?_|refine rW ?_)
 refine zaI (fun d f' S' w=>∃ j,d=nb - j∧j≤nb∧S'=S∧Kp v (DOwn D RB RA nd) w∧w.heap[g]?=some (.cells (zeT nb (takB L)) 4)∧StE X D DB DA M RB RA nd nb turn (zdP s (takB L) j) L w∧f' 0=.pointer (some ⟨X,0,none⟩)∧f' 5=.slice (some ⟨g,0,none⟩) nb nb∧f' 6=.int .i64 (nb:Nat)∧f' 7=.int .i64 (j:Nat)) nb ⟨0,by omega,by omega,rfl,hKv,hg,hX1,by simp[g0],by simp,by simp,by simp⟩ ?_;clear g0 f;rintro d f S' w ⟨j,rfl,hj,eS,hK,hgw,hXw,g0,g5,g6,g7⟩ nxt;subst S';repeat (first|refine rQ rfl ?_|refine rY zaA ?_|refine rW ?_)
 by_cases hlt:j<nb
 ·have hjI:(j:Int)<(nb:Int):=by omega
  have hcj:w.cell? ⟨g,j,none⟩=some (.bool (takB L j)):=(cell_of_row _ _ _ _ _ _ hgw).trans (zlD hlt);(refine zaB (t:=true) (by simp[Act.eval,g7,g6,hjI,hlt]) ?_;simp only[if_true,if_false,reduceIte,Bool.false_eq_true]);cases htj:takB L j with
  |true=>
   rw[htj]at hcj;repeat (first|refine rQ rfl ?_|(refine rO zaA rfl ?_;intro _ hu_ K_ hK_;(have hc:=(Ext.twin hu_).cell hcj);go_simp;(try rw[wI _]);(try rw[wU _]);refine hK_ _ ?_;clear hK_ K_ hu_;simp only[sS,sN])|refine rW ?_)
   (refine zaB (t:=false) (by simp[Act.eval]) ?_;simp only[if_true,if_false,reduceIte,Bool.false_eq_true]);repeat (first|refine rQ rfl ?_|refine rY zaA ?_|refine rW ?_)
   refine nxt _ _ _ (nb - (j+1)) (by omega) ⟨j+1,rfl,by omega,rfl,hK,hgw,?_,by simp[g0],by simp[g5],by simp[g6],by simp⟩;unfold zdP;rw[if_pos htj];exact hXw
  |false=>
   rw[htj]at hcj;repeat (first|refine rQ rfl ?_|(refine rO zaA rfl ?_;intro _ hu_ K_ hK_;(have hc:=(Ext.twin hu_).cell hcj);go_simp;(try rw[wI _]);(try rw[wU _]);refine hK_ _ ?_;clear hK_ K_ hu_;simp only[sS,sN])|refine rW ?_)
   (refine zaB (t:=true) (by simp[Act.eval]) ?_;simp only[if_true,if_false,reduceIte,Bool.false_eq_true]);repeat (first|refine rQ rfl ?_|refine rY zaA ?_|refine rW ?_)
   (refine zaC rfl (by first|rfl|simp[Region.wanted,yielded,zaG, *]) rfl Tryz.func57 (by kernel_rfl) rfl (by simp[Act.eval, *];try rfl) (zrB (fun _=>false) j hlt hn1 hnd hnb hXw.row hXw.dk) ?_)
   rintro _ S1 w2 _ ⟨rfl,e1,hK2,hD2⟩;subst S1;simp only[stO_some];repeat (first|refine rQ rfl ?_|refine rY zaA ?_|refine rW ?_)
   refine nxt _ _ _ (nb - (j+1)) (by omega) ⟨j+1,rfl,by omega,rfl,hK.trans hK2,hK2.cells _ _ _ _ hgn hgw,?_,by simp[g0],by simp[g5],by simp[g6],by simp⟩;unfold zdP;rw[if_neg (by rw[htj];exact Bool.false_ne_true)];exact hXw.slotOff (p:=j) (fun e he h=>by rw[zjF.2 ⟨e,he,h⟩]at htj;cases htj) hK2 hD2 fun d q hq=>zdV hq
 ·obtain rfl:j=nb:=by omega
  (refine zaB (t:=false) (by simp[Act.eval,g7,g6]) ?_;simp only[if_true,if_false,reduceIte,Bool.false_eq_true]);refine zaK rfl ?_;repeat (first|refine rQ rfl ?_|refine rY zaA ?_|refine rW ?_)
  refine zcQ ?_;refine ret _ _ S w (.tuple #[]) ?_ ⟨rfl,rfl,hK,hXw⟩;simp[results,Tryz.results27]
end
end Go.Proofs.YtpiefebngnlfoaaGreatDoor
