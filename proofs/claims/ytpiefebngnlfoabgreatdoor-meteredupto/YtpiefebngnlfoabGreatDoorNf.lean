import Derived.Test.YtpiefebngnlfoabGreatDoorNe
set_option maxRecDepth 99999
set_option maxHeartbeats 0
set_option linter.unusedVariables false
set_option linter.unusedSimpArgs false
namespace Go.Proofs.YtpiefebngnlfoabGreatDoor
open Go.RowKit Go.Conc Go.Vw
def lE(n:Nat)(T:Nat->ByteArray):List Value:=(List.range n).map fun j=>.string (T j)
theorem uN(n:Nat)(T:Nat->ByteArray):(lE n T).length=n:=by simp[lE]
theorem uO{n j:Nat}{T:Nat->ByteArray}(h:j<n):(lE n T)[j]?=some (.string (T j)):=by simp[lE,h]
theorem Qu{w:World}{base g n c:Nat}{T:Nat->ByteArray}(h:w.ownsRow base 9 1 (.slice (some ⟨g,0,none⟩) n c) n (lE n T)):cC w g n T:=fun j hj=>by
 obtain⟨g',c',cur,q1,q2,q3,q4,q5,q6⟩:=mR h (.inl (by omega));cases q1
 rw[cell_of_row _ _ _ _ _ _ q3,q6 j hj,uO hj]
section
variable {nd nb:Nat}{w w' v:World}{S:Nat->Prop}
theorem Du(t:TypeId)(e:Value)(hg0:v.cell? ⟨0,0,none⟩=some (.iface t e))(hg:Tryz.prog.globals.size<=v.heap.size)(B c wr:Nat)(T:Nat->ByteArray)(lf:Nat->Lb)(Gf:Nat->Nat->Bool)(hw:wr<=1099511627776)(hb4:4<=nb)(hn1:14<=nd)(hnd:nd<=18)(hnb:nb<=64)(hO:TextsOk nd nb T)(hT:cC v B nd T)(hS:∀ p,p<nb->SlotK (aH T wr).c p (lf p) (Gf p)) :
  aJ Tryz.prog 8 #[.slice (some ⟨B,0,none⟩) nd c,.int .i64 (wr:Nat)] S v fun x S' v'=>Kp v (fun _=>False) v'∧∃ X D DB DA M RB RA L turn,x=.pointer (some ⟨X,0,none⟩)∧fZ lf Gf nb L turn∧StE X D DB DA M RB RA nd nb turn (dE (aH T wr) (cD L) nb) L v'∧∀ b,dG X D M RB RA nd b->v.heap.size<=b:=by
 obtain⟨is,zz,is1,is2,is3,is4,is5⟩:=zZ;refine dH Tryz.func8 rfl Tryz.ntmps8 fun Stop cc cs ret f g0 g1=>?_
 repeat refine rN ?_
 refine bS aB rfl rfl (by kernel_rfl) (fun u hu=>Fn (s:=.tmp 8) (x:=.tmp 9) (p:=none) (n:=0) (cap:=0) (olds:=[]) (ad:=⟨B,0,none⟩) (m:=nd) (c:=c) (news:=lE nd T) hu Tryz.underlying29 is1 is2 is3 is4 (by rw[is5];rfl) (.inl ⟨rfl,rfl,rfl⟩) rfl (fun b h=>by cases h) (by omega) (uN _ _) (fun j y hy=>?_) (fun y hy=>?_) (by unfold maxLen;omega) (by omega) rfl (by simp) (by simp[g0])) ?_
 .have hj:j<nd:=by
   have:=(List.getElem?_eq_some_iff.1 hy).1;rwa [uN]at this
  rw[uO hj]at hy;cases hy
  rw[Addr.add_lit,Nat.zero_add];exact hT j hj
 .unfold lE at hy;obtain⟨j,_,rfl⟩:=List.mem_map.1 hy;rfl
 rintro y w1 ⟨ho,hE1⟩;rw[Nat.zero_add,List.nil_append]at ho;obtain⟨g',c',cur,q1,_⟩:=mR ho (.inl (by omega));subst q1;simp only[stO_some];have hT1:=Qu ho;repeat refine rN ?_
 refine rK Tryz.func25 (Vt t e (hE1.cell hg0) (Nat.le_trans hg hE1.size) g' c' wr T lf Gf hw hb4 hn1 hnd hnb hO hT1 hS) ?_;rintro _ S1 w2 _ ⟨hK2,X,D,DB,DA,M,RB,RA,L,turn,rfl,hSv,hX,hown⟩;repeat refine rN ?_
 refine rZ (by simp[Act.eval]) ?_;repeat refine rN ?_
 refine aP fun todo=>?_
 refine ret _ _ S1 w2 (.pointer (some ⟨X,0,none⟩)) ?_ ⟨(dB hE1).trans hK2,X,D,DB,DA,M,RB,RA,L,turn,rfl,hSv,hX,fun b hb=>Nat.le_trans hE1.size (hown b hb)⟩
 simp[results,Tryz.results8]
end
theorem Im(m i:Nat):aR (zs m) i=0:=by
 unfold aR zs;rw[<-Array.getElem?_toList,strOfNums_data,List.map_replicate,List.getElem?_replicate];split<;>rfl
theorem zS(m:Nat):(zs m).size=m:=by
 have h:(zs m).data.toList.length=m:=by
  unfold zs;rw[strOfNums_data];simp
 rw[Array.length_toList]at h;exact h
theorem Et{lf:Nat->Lb}{Gf:Nat->Nat->Bool}(h:∀ p k,Gf p k=false):∀ {q:Nat} {L:List Ent} {t:Nat},fZ lf Gf q L t->L=[]∧t=0
 |0,L,t,hs=>hs
 |q+1,L',t',⟨L,t,h1,h2⟩=>by
  obtain⟨rfl,rfl⟩:=Et h h1;unfold Sv at h2;rw[if_neg]at h2
  .exact⟨h2.2,h2.1⟩
  .have:Gf q=fun _=>false:=funext fun k=>h q k
   rw[this];simp[fQ]
structure Hv(N nd nb n m:Nat)(X D DB DA M:Nat)(RB RA:Nat->Nat)(turn:Nat)(s:Dsk)(L:List Ent)(T:List It)(w:World):Prop where
 st:StE X D DB DA M RB RA nd nb turn s L w
 own:∀ b,dG X D M RB RA nd b->N<=b
 neat:Neat nb s.c L
 few:jX L
 len:L.length<=nb - 2
 kept:aQ s n
 turn:turn<=m
 rep:Rep L T
theorem If(c:Int):aX c∈[1,301,1201,2701,4801,7501]:=by
 have h:=iR c (n:=6) (by omega);unfold aX;generalize bB c 6=k at h;rcases(by omega:k=0∨k=1∨k=2∨k=3∨k=4∨k=5) with rfl|rfl|rfl|rfl|rfl|rfl<;>simp
section
variable {X D DB DA M:Nat}{RB RA:Nat->Nat}{nd nb turn N n m:Nat}{s:Dsk}{L:List Ent}{T:List It}{w w' v:World}{S:Nat->Prop}
theorem Hv.kp0(h:Hv N nd nb n m X D DB DA M RB RA turn s L T w)(hK:Kp w (fun _=>False) w'):Hv N nd nb n m X D DB DA M RB RA turn s L T w':=⟨h.st.kp hK,h.own,h.neat,h.few,h.len,h.kept,h.turn,h.rep⟩
theorem Hv.off(h:Hv N nd nb n m X D DB DA M RB RA turn s L T w):kN N w (dG X D M RB RA nd):=dG.off h.st h.own
theorem Hv.did{a:Ac}{err turn':Nat}{s':Dsk}{L':List Ent}(h:Hv N nd nb (n+42) m X D DB DA M RB RA turn s L T w)(hd:dK nb s L turn a err s' L' turn')(hX:StE X D DB DA M RB RA nd nb turn' s' L' w'):Hv N nd nb n (m+1) X D DB DA M RB RA turn' s' L' (if err=0 then cW a.it a.gone T else T) w':=by
 have ht:=h.turn;unfold dK at hd;cases hg:a.gone with
 |true=>
  rw[if_pos hg]at hd;cases hq:aL (aX a.c) L 0 with
  |none=>
   rw[hq]at hd;obtain⟨rfl,rfl,rfl,rfl⟩:=hd;exact⟨hX,h.own,h.neat,h.few,h.len,h.kept.le (by omega),by omega,h.rep⟩
  |some q=>
   obtain⟨k,e⟩:=q;rw[hq]at hd;obtain⟨rfl,rfl,rfl,rfl⟩:=hd;refine⟨hX,h.own,h.neat.del h.st.ids h.st.slots hq,h.few.del,Nat.le_trans (qR L _).length_le h.len,(h.kept.le (by omega)).blank,by omega,?_⟩;rw[if_pos rfl];exact h.rep.del a.it rfl h.st.ids hq
 |false=>
  rw[if_neg (by rw[hg];decide)]at hd;cases hf:gQ L nb (aX a.c) with
  |true=>
   rw[if_pos hf]at hd;obtain⟨rfl,rfl,rfl,rfl⟩:=hd;exact⟨hX,h.own,h.neat,h.few,h.len,h.kept.le (by omega),by omega,h.rep⟩
  |false=>
   rw[if_neg (by rw[hf];decide)]at hd;obtain⟨rfl,rfl,p,clock,hF,hP,rfl,rfl⟩:=hd;refine⟨hX,h.own,h.neat.put h.st.ids h.st.slots hF hP,h.few.put hP (If _),Gm h.len hf,h.kept.put,by omega,?_⟩;rw[if_pos rfl];exact h.rep.put hP
theorem dK.sound{a:Ac}{err turn':Nat}{s':Dsk}{L':List Ent}(h:gY L)(hd:dK nb s L turn a err s' L' turn'):gY L':=by
 unfold dK at hd;split at hd
 .split at hd
  .rw[hd.2.2.1];exact h
  .rw[hd.2.2.1];exact h.del
 .split at hd
  .rw[hd.2.2.1];exact h
  .obtain⟨_,_,p,clock,_,hP,_,rfl⟩:=hd;exact h.put hP fun _ _=>rfl
theorem dK.err{a:Ac}{err turn':Nat}{s':Dsk}{L':List Ent}(hd:dK nb s L turn a err s' L' turn'):err<=5∧(a.gone=true->err=0∨err=4)∧(a.gone=false->err=0∨err=5):=by
 unfold dK at hd;split at hd
 .rename_i hg;split at hd
  .rw[hd.1];simp[hg]
  .rw[hd.1];simp[hg]
 .rename_i hg;split at hd
  .rw[hd.1];simp[hg]
  .rw[hd.1];simp[hg]
theorem Hv.few6(h:Hv N nd nb n m X D DB DA M RB RA turn s L T w):L.length<=6:=h.few.len h.st.ids
theorem Rep.size{T:List It}(h:Rep L T)(hE:∀ e∈L,EntOk nb turn s.c e):∀ t∈T,t.size<=400:=fun t ht=>by
 obtain⟨e,he,rfl⟩:=(h.mem t).1 ht;exact(hE e he).size
end
def iK(N:Nat)(w:World)(p:Option Addr)(na:Nat)(A:Nat->Ac):Prop:=∀ i,i<na->(∃ B off,p=some ⟨B,off,none⟩∧B<N∧∀ k y,(A i).agg[k]?=some y->w.cell? ⟨B,off+i*3+k,none⟩=some y)∧(A i).Ok N w
theorem iK.kp{N:Nat}{w w':World}{Y:Nat->Prop}{p:Option Addr}{na:Nat}{A:Nat->Ac}(h:iK N w p na A)(hY:kN N w Y)(hK:Kp w Y w'):iK N w' p na A:=fun i hi=>by
 obtain⟨⟨B,off,h1,h2,h3⟩,h4⟩:=h i hi;exact⟨⟨B,off,h1,h2,fun k y hy=>hK.cell (fun hb=>by have:=(hY B hb).1;omega) (h3 k y hy)⟩,h4.kp hY hK⟩
theorem yJ{o:Oper}{a:Act}{x:Operand}{b off:Nat}{c:Ac}{u:World}(hop:o.op=.load 50 x)(hx:a.eval x=.pointer (some ⟨b,off,none⟩))(h:∀ k y,c.agg[k]?=some y->u.cell? ⟨b,off+k,none⟩=some y):(execOp a.eval o).run Tryz.prog u=.ok (.value (.agg c.agg)) u:=by
 have hl:=run_loadAt_mid (P:=Tryz.prog) u b off 50 c.agg.toList _ (fun i r hy=>h i r (by rw[<-Array.getElem?_toList];exact hy)) Tryz.underlying50 rfl (by kernel_rfl);unfold execOp;simp only[hop,hx,Sem.run_bind,hl,Result.andThen_ok,Sem.run_pure]
def fH(i:Nat):Nat:=if i=0 then 102 else if i=1 then 105 else if i=2 then 114 else if i=3 then 115 else if i=4 then 116 else 0
theorem Yj(i:Nat):fH i<256:=by
 unfold fH;repeat' split
 all_goals omega
theorem Cu{u:World}{o:Oper}{a:Act}(hop:o.op=Op.buildSlice 48 5 #[(0,.const (.int .u8 102)),(1,.const (.int .u8 105)),(2,.const (.int .u8 114)),(3,.const (.int .u8 115)),(4,.const (.int .u8 116))]):(execOp a.eval o).run Tryz.prog u=.ok (.value (.slice (some ⟨u.heap.size,0,none⟩) 5 5)) (u.alloc (.cells (aC 5 fH) 5)):=by
 obtain⟨inf,hq,h3,h1,_⟩:=Fj;have e:(aC 5 fH)=#[.int .u8 102,.int .u8 105,.int .u8 114,.int .u8 115,.int .u8 116]:=by
  apply Array.ext_getElem?;intro c;match c with
  |0=>simp[aC,fH]
  |1=>simp[aC,fH]
  |2=>simp[aC,fH]
  |3=>simp[aC,fH]
  |4=>simp[aC,fH]
  |c+5=>simp[aC,fH]
 rw[e];simp[execOp,hop,Act.eval,Instr.buildSlice,run_underlying Tryz.underlying48,sizeOf,typeInfo,hq,h1,zeroValue,h3,Value.cells,Instr.fill,newRow];refine congrArg (fun c=>u.alloc (Obj.cells c 5)) ?_;apply Array.ext_getElem?;intro c;match c with
 |0=>simp
 |1=>simp
 |2=>simp
 |3=>simp
 |4=>simp
 |c+5=>simp
theorem Rep.len6{L:List Ent}{T:List It}(h:Rep L T)(hf:jX L):T.length<=6:=by
 have hn:(T.map (·.id)).Nodup:=by
  unfold List.Nodup;rw[List.pairwise_map];exact h.srt.imp fun {a b} q=>by
   show a.id≠b.id;omega
 have:=pU (m:=[1,301,1201,2701,4801,7501]) hn fun x hx=>by
  obtain⟨t,ht,rfl⟩:=List.mem_map.1 hx;obtain⟨e,he,rfl⟩:=(h.mem t).1 ht;exact hf e he
 simpa using this
theorem Rep.nil:Rep [] []:=⟨List.Pairwise.nil,fun x=>by simp⟩
def sK(B:Nat):Ac:=⟨0,false,some ⟨B,0,none⟩,5,5,fH⟩
section
variable {w w' v:World}{S:Nat->Prop}
theorem Wm(t:TypeId)(e:Value)(hg0:v.cell? ⟨0,0,none⟩=some (.iface t e))(hg:Tryz.prog.globals.size<=v.heap.size)(n b:Int)(hn1:-9223372036854775808<=n)(hn2:n<=9223372036854775807)(hb1:-9223372036854775808<=b)(hb2:b<=9223372036854775807)(p:Option Addr)(na cap:Nat)(A:Nat->Ac)(hA:iK v.heap.size v p na A)(hna:na<=1048576) :
  aJ Tryz.prog 7 #[.int .i64 n,.int .i64 b,.slice p na cap] S v fun x S' v'=>Kp v (fun _=>False) v'∧∃ X D DB DA M RB RA turn s L T sv,x=.tuple #[.pointer (some ⟨X,0,none⟩),sv]∧Hv v.heap.size (14+bB n 5) (4+bB b 12) 549755813888 2097152 X D DB DA M RB RA turn s L T v'∧gY L∧fC v.heap.size v.heap.size v' sv T∧T.length=L.length:=by
 refine kV Tryz.func7 rfl Tryz.ntmps7 fun Stop cc cs ret f g0 g1 g2=>?_
 have hp5:=iR n (n:=5) (by omega);have hp12:=iR b (n:=12) (by omega);repeat refine rN ?_
 refine rK Tryz.func16 (iS n 5 (by omega) (by omega) hn1 hn2) ?_;rintro _ S1 w1 _ ⟨rfl,e1,e2⟩;subst S1 w1;obtain⟨nd,hnd⟩:∃ nd,nd=14+bB n 5:=⟨_,rfl⟩;obtain⟨nb,hnb⟩:∃ nb,nb=4+bB b 12:=⟨_,rfl⟩;rw[<-hnd,<-hnb]at ret;have hndI:(14:Int)+((bB n 5:Nat):Int)=(nd:Int):=by omega
 have hnbI:(4:Int)+((bB b 12:Nat):Int)=(nb:Int):=by omega
 have n14:14<=nd:=by omega
 have n18:nd<=18:=by omega
 have b4:4<=nb:=by omega
 have b15:nb<=15:=by omega
 clear hnd hnb;generalize bB n 5=k5 at *
 repeat refine rN ?_
 refine rK Tryz.func16 (iS b 12 (by omega) (by omega) hb1 hb2) ?_;rintro _ S1 w1 _ ⟨rfl,e1,e2⟩;subst S1 w1;generalize bB b 12=k12 at *
 repeat refine rN ?_
 refine rK Tryz.func23 (Xa nd nb n14 n18 b4 b15) ?_;rintro _ S1 w1 _ ⟨e1,hE1,g,c,rfl,hz⟩;subst S1;have hT0:cC w1 g nd fun _=>zs (nb*96):=hz
 have hO0:TextsOk nd nb fun _=>zs (nb*96):=⟨fun j _=>.inr (zS _),0,by omega,zS _⟩
 have hSl:∀ q,q<nb->SlotK (aH (fun _=>zs (nb*96)) 1099511627776).c q ⟨0,0,0,fun _=>0⟩ fun _=>false:=fun q _=>⟨fun k hk h=>(by cases h),fun k hk h=>(by cases h),fun k hk _=>vA fun i hi=>Im _ _⟩
 clear hz;repeat refine rN ?_
 refine rK Tryz.func8 (Du t e (hE1.cell hg0) (Nat.le_trans hg hE1.size) g c 1099511627776 (fun _=>zs (nb*96)) (fun _=>⟨0,0,0,fun _=>0⟩) (fun _ _=>false) (Nat.le_refl _) b4 n14 n18 (by omega) hO0 hT0 hSl) ?_
 rintro _ S1 w2 _ ⟨hK2,X,D,DB,DA,M,RB,RA,L,turn,rfl,hSv,hX,hown⟩;obtain⟨rfl,rfl⟩:=Et (fun _ _=>rfl) hSv;have hKv2:=(dB hE1).trans hK2;have hHv:Hv v.heap.size nd nb (549755813888+42*na+42) 0 X D DB DA M RB RA 0 (dE (aH (fun _=>zs (nb*96)) 1099511627776) (cD []) nb) [] [] w2:=⟨hX,fun b hb=>Nat.le_trans hE1.size (hown b hb),⟨fun e he=>(by cases he),fun q hq _ k hk j hj=>uM rfl hk hj nb hq⟩,fun e he=>(by cases he),by simp,aQ.sweep nb ⟨rfl,by show _<=1099511627776;omega⟩,Nat.le_refl _,.nil⟩
 generalize (dE (aH (fun _=>zs (nb*96)) 1099511627776) (cD []) nb)=s0 at hHv;clear hX hSv hown;have hKs:Kp v (fun _=>False) w2:=hKv2;clear hK2 hKv2 hT0 hO0 hSl hE1;repeat refine rN ?_
 refine rZ (by simp[Act.eval]) ?_;repeat refine rN ?_
 refine bS (Q:=fun y w=>y=.slice (some ⟨w2.heap.size,0,none⟩) 5 5∧Ext w2 w∧w.heap[w2.heap.size]?=some (.cells (aC 5 fH) 5)) aB rfl rfl (by kernel_rfl) (fun u hu=>⟨_,_,.inl (Cu rfl),by rw[hu.heap],(Ext.twin hu).trans _ _ _ (Ext.alloc _ _),by rw[<-hu.heap];exact cN _ _⟩) ?_
 rintro _ w2' ⟨rfl,hE2',hb2'⟩;simp only[stO_some];refine Dp rfl rfl rfl Tryz.underlying48 Tryz.underlying5 (g:=w2.heap.size) (o':=0) (m:=5) (c:=5) (by simp) hb2' fun w3 fr3 hW3=>?_
 simp only[stO_some];have hb3:=hW3.at_;have hE3:Ext w2 w3:=bJ hE2' (Nat.le_refl _) hW3;repeat refine rN ?_
 have hH3:=hHv.kp0 (dB hE3);have hK3:=hKs.ext hE3;have sl5:∀ {w:World} {B:Nat} {fr:Nat×Nat},w.heap[B]?=some (.cells (aC 5 fH) 5 fr)->iM v.heap.size w (some ⟨B,0,none⟩) 5 5 fH:=fun {w B fr} hB=>⟨.inl (.inr ⟨B,0,rfl,Nat.le_refl _,fun i hi=>by rw[cell_of_row _ _ _ _ _ _ hB,Nat.zero_add];exact dV _ _ _ hi⟩),fun _ a ha=>by cases ha;exact⟨(Array.getElem?_eq_some_iff.1 hB).1,.inr ⟨_,_,hB⟩⟩⟩
 refine rK Tryz.func24 (Iv 1 5 5 (some ⟨w2.heap.size,0,none⟩) fH (by omega) (by omega) (by omega) Yj (sl5 hb3).1 (Nat.le_trans hg hK3.size) (by omega) b4 n14 n18 (by omega) hH3.st (by simp)) ?_;rintro y S2 w4 _ hpost;rw[if_neg (by simp[gQ,aL];omega)]at hpost;obtain⟨rfl,hK4,p0,clock,hF,hP,hX4⟩:=hpost;obtain⟨s4,L4,t4,hdid,hX4'⟩:∃ s4 L4 t4,dK nb s0 [] 0 (sK w2.heap.size) 0 s4 L4 t4∧StE X D DB DA M RB RA nd nb t4 s4 L4 w4:=by
  refine⟨_,_,_,?_,hX4⟩;unfold dK;rw[if_neg (by simp[sK]),if_neg (by simp[sK,gQ,aL];omega)];exact⟨rfl,rfl,p0,clock,hF,hP,rfl,rfl⟩
 have hH4:=hH3.did hdid hX4';have hSo:=dK.sound (L:=[]) (fun e he=>(by cases he)) hdid
 have hT4:(if 0=0 then cW (sK w2.heap.size).it (sK w2.heap.size).gone [] else [])=[⟨1,5,fH⟩]:=rfl;rw[hT4]at hH4;clear hdid hX4 hX4' hP hF hT4 hHv;have hK4':Kp v (fun _=>False) w4:=oZ ((hK3.mono fun _ h=>h.elim).trans hK4) hH4.own
 clear hK4 hb3 hW3 hb2' hE2' hE3 hH3 hK3 hKs;repeat refine rN ?_
 refine bS (Q:=fun y w=>y=.slice (some ⟨w4.heap.size,0,none⟩) 5 5∧Ext w4 w∧w.heap[w4.heap.size]?=some (.cells (aC 5 fH) 5)) aB rfl rfl (by kernel_rfl) (fun u hu=>⟨_,_,.inl (Cu rfl),by rw[hu.heap],(Ext.twin hu).trans _ _ _ (Ext.alloc _ _),by rw[<-hu.heap];exact cN _ _⟩) ?_
 rintro _ w5' ⟨rfl,hE5',hb5'⟩;simp only[stO_some];refine Dp rfl rfl rfl Tryz.underlying48 Tryz.underlying5 (g:=w4.heap.size) (o':=0) (m:=5) (c:=5) (by simp) hb5' fun w5 fr5 hW5=>?_
 simp only[stO_some];have hb5:=hW5.at_;have hE5:Ext w4 w5:=bJ hE5' (Nat.le_refl _) hW5;repeat refine rN ?_
 refine bS (Q:=fun x w6=>x=.slice (some ⟨w5.heap.size,0,none⟩) 1 1∧Ext w5 w6∧w6.heap[w5.heap.size]?=some (.cells #[.int .i64 1,.slice (some ⟨w4.heap.size,0,none⟩) 5 5] 65)) aB rfl rfl (by kernel_rfl) (fun u hu=>⟨_,_,.inl (qB (x:=.tmp 31) (y:=.int .i64 1) (z:=.slice (some ⟨w4.heap.size,0,none⟩) 5 5) rfl (by simp)),by rw[hu.heap],(Ext.twin hu).trans _ _ _ (Ext.alloc _ _),by rw[<-hu.heap];exact cN _ _⟩) ?_
 rintro _ w6 ⟨rfl,hE6,hr6⟩;simp only[stO_some];have hK6:=(hK4'.ext hE5).ext hE6;have hH6:=(hH4.kp0 (dB hE5)).kp0 (dB hE6);have hI6:fC v.heap.size v.heap.size w6 (.slice (some ⟨w5.heap.size,0,none⟩) 1 1) [⟨1,5,fH⟩]:=by
  refine⟨[⟨⟨1,5,fH⟩,some ⟨w4.heap.size,0,none⟩,5⟩],rfl,⟨rfl,.inr ⟨_,1,_,rfl,Nat.le_trans hK4'.size hE5.size,hr6,Nat.le_refl _,by decide,rfl,rfl⟩⟩,fun q hq=>?_⟩
  rw[List.mem_singleton.1 hq];exact sl5 (hE6.row hb5)
 have hA6:=hA.kp (dM _ v) hK6;clear hb5 hW5 hE5 hE5' hb5' hH4 hK4' hr6 hE6 sl5;repeat refine rN ?_
 refine rZ (by simp[Act.eval]) ?_;repeat refine rN ?_
 refine bP (fun d f' S' w=>∃ j turn s L T sv,d=na - j∧j<=na∧Kp v (fun _=>False) w∧Hv v.heap.size nd nb (549755813888+42*(na - j)) (1+j) X D DB DA M RB RA turn s L T w∧gY L∧fC v.heap.size v.heap.size w sv T∧f' 2=.slice p na cap∧f' 8=.pointer (some ⟨X,0,none⟩)∧f' 10=sv∧f' 11=.int .i64 (j:Nat)) na ⟨0,t4,s4,L4,_,_,by omega,by omega,hK6,hH6,hSo,hI6,by simp[g2],by simp,by simp,by simp⟩ ?_;clear g0 g1 g2 f hK6 hH6 hSo hI6 hA6;rintro d f S' w ⟨j,turn,s,L,T,sv,rfl,hj,hK,hH,hSo,hI,g2,g8,g10,g11⟩ nxt;repeat refine rN ?_
 by_cases hlt:j<na
 .have hjI:(j:Int)<(na:Int):=by omega
  have hAw:=hA.kp (dM _ v) hK;obtain⟨⟨B,off,rfl,hBN,hcell⟩,haOk⟩:=hAw j hlt;have htu:=hH.turn;refine rX (by simp[Act.eval,g11,g2,hjI,hlt]) ?_;repeat refine rN ?_
  refine cR aB rfl rfl (by kernel_rfl) (fun u hu=>yJ (b:=B) (off:=off+j*3) (x:=.tmp 44) (c:=A j) rfl (by simp) fun k y hy=>(Ext.twin hu).cell (hcell k y hy)) ?_
  simp only[stO_some];refine rK Tryz.func18 (Jg v.heap.size (A j) haOk (Nat.le_trans hg hK.size) (by omega) b4 n14 n18 (by omega) hH.len hH.st) ?_;rintro _ S2 w2 _ ⟨err,s',L',turn',rfl,hd,hK2,hX2⟩;obtain⟨k',hk'⟩:∃ k',k'=549755813888+42*(na - (j+1)):=⟨_,rfl⟩;have hH':Hv v.heap.size nd nb (k'+42) (1+j) X D DB DA M RB RA turn s L T w:=⟨hH.st,hH.own,hH.neat,hH.few,hH.len,hH.kept.le (by omega),hH.turn,hH.rep⟩;have hH2:=hH'.did hd hX2;have hSo2:=dK.sound hSo hd;obtain⟨he5,_,_⟩:=dK.err hd;have hI2:=hI.kp hH.off hK2;have ha2:=haOk.kp hH.off hK2;have hc2:∀ k y,(A j).agg[k]?=some y->w2.cell? ⟨B,off+j*3+k,none⟩=some y:=fun k y hy=>hK2.cell (fun hb=>by have:=hH.own B hb;omega) (hcell k y hy)
  have hK2':Kp v (fun _=>False) w2:=oZ ((hK.mono fun _ h=>h.elim).trans hK2) hH.own
  have hT6:=hH.rep.len6 hH.few;have HK:=aG hk';clear hk' hd hX2 hH';repeat refine rN ?_
  refine cR aB rfl rfl (by kernel_rfl) (fun u hu=>yJ (b:=B) (off:=off+j*3) (x:=.tmp 50) (c:=A j) rfl (by simp) fun k y hy=>(Ext.twin hu).cell (hc2 k y hy)) ?_
  simp only[stO_some];repeat refine rN ?_
  refine rK Tryz.func19 (Yz v.heap.size hK2'.size T sv (A j) err (by omega) hI2 ha2 (by omega)) ?_;rintro y S3 w3 _ ⟨eS,hE3,hI3⟩;subst S3;have hH3:=hH2.kp0 (dB hE3);repeat refine rN ?_
  refine nxt _ _ _ (na - (j+1)) (by omega) ⟨j+1,turn',s',L',_,y,rfl,by omega,hK2'.ext hE3,?_,hSo2,hI3,by simp[g2],by simp[g8],by simp,by simp⟩;rw[<-HK.out];exact hH3
 .obtain rfl:j=na:=by omega
  have htu:=hH.turn;refine rZ (by simp[Act.eval,g11,g2]) ?_;refine bH rfl ?_;repeat refine rN ?_
  refine rK Tryz.func14 (Pw v.heap.size hK.size (by have:=hH.few6;omega) (Nat.le_trans hg hK.size) (by omega) n14 n18 (by omega) hH.st) ?_;rintro _ S2 w2 _ ⟨hK2,sv2,T2,rfl,hR2,hl2,hI2⟩;obtain rfl:=hR2.uniq hH.rep;have hz:=hR2.size hH.st.ent;have hT6:=hR2.len6 hH.few;have hI':=hI.kp0 hK2;have hal:pO T2 T2=true:=zQ.2 (.refl _);repeat refine rN ?_
  refine rK Tryz.func15 (Yy v.heap.size v.heap.size w.heap.size v.heap.size sv2 sv T2 T2 hI2 hI' hz hz (by omega) (by omega)) ?_;rintro _ S3 w3 _ ⟨rfl,eS,eW⟩;subst S3 w3;rw[hal];repeat refine rN ?_
  refine rZ (by simp[Act.eval]) ?_;repeat refine rN ?_
  refine aP fun todo=>?_
  refine ret _ _ _ w2 (.tuple #[.pointer (some ⟨X,0,none⟩),sv]) ?_ ⟨hK.trans hK2,X,D,DB,DA,M,RB,RA,turn,s,L,T2,sv,rfl,?_,hSo,hI',hl2⟩
  .simp[results,Tryz.results7,g8,g10]
  .exact⟨hH.st.kp hK2,hH.own,hH.neat,hH.few,hH.len,hH.kept.le (by omega),by omega,hH.rep⟩
end
