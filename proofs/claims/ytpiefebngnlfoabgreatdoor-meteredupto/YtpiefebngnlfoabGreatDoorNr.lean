import Derived.Test.YtpiefebngnlfoabGreatDoorNm
import Derived.Test.YtpiefebngnlfoabGreatDoorNn
set_option maxRecDepth 99999
set_option maxHeartbeats 0
set_option linter.unusedVariables false
set_option linter.unusedSimpArgs false
namespace Go.Proofs.YtpiefebngnlfoabGreatDoor
open Go.RowKit Go.Conc Go.Vw
def Scr(sc:Nat)(s:Dsk)(L:List Ent)(s1:Dsk)(L1:List Ent):Prop:=∃ k h,Tells L k h∧s1=(scrubN k (min sc (bE h k)) ⟨h,s,L⟩).s∧L1=(scrubN k (min sc (bE h k)) ⟨h,s,L⟩).L
def jN(nb:Nat)(Tx:Nat->ByteArray)(lf:Nat->Lb)(Gf:Nat->Nat->Bool)(A:Nat->Ac)(half sc wr:Nat):Nat->Dsk->List Ent->Nat->Prop
 |0,s,L,t=>fZ lf Gf nb L t∧s=dE (aH Tx wr) (cD L) nb∧(L.map (·.id)).Nodup
 |i+1,s',L',t'=>∃ s L t s1 L1 err,jN nb Tx lf Gf A half sc wr i s L t∧(if i=half then Scr sc s L s1 L1 else s1=s∧L1=L)∧dK nb s1 L1 t (A i) err s' L' t'∧(L1.map (·.id)).Nodup∧(L'.map (·.id)).Nodup
theorem jN.nodup{nb:Nat}{Tx:Nat->ByteArray}{lf:Nat->Lb}{Gf:Nat->Nat->Bool}{A:Nat->Ac}{half sc wr:Nat} : ∀ {i:Nat} {s:Dsk} {L:List Ent} {t:Nat},jN nb Tx lf Gf A half sc wr i s L t->(L.map (·.id)).Nodup
 |0,_,_,_,h=>h.2.2
 |i+1,_,_,_,⟨_,_,_,_,_,_,_,_,_,_,h⟩=>h
theorem jN.twin{nb:Nat}{Tx:Nat->ByteArray}{lf:Nat->Lb}{Gf:Nat->Nat->Bool}{A:Nat->Ac}{half sc w1 w2:Nat} : ∀ {i:Nat} {s1 s2:Dsk} {L1 L2:List Ent} {t1 t2:Nat},jN nb Tx lf Gf A half sc w1 i s1 L1 t1->jN nb Tx lf Gf A half sc w2 i s2 L2 t2->Tw L1 L2∧t1=t2∧∃ W,s1=(aH Tx w1).wrs W∧s2=(aH Tx w2).wrs W
 |0,s1,s2,L1,L2,t1,t2,⟨a1,a2,a3⟩,⟨b1,b2,b3⟩=>by
  obtain⟨hT,ht⟩:=a1.twin b1 a3 b3;refine⟨hT,ht,kZ (aH Tx w1).c (cD L1) nb,by rw[a2,qC],?_⟩;rw[b2,qC,Bs nb fun p _=>hT.tak p]
  rfl
 |i+1,s1,s2,L1,L2,t1,t2,⟨s,L,t,x,K,err,a1,a2,a3,a4,a5⟩,⟨s',L',t',x',K',err',b1,b2,b3,b4,b5⟩=>by
  obtain⟨hT,rfl,W,rfl,rfl⟩:=jN.twin a1 b1;have n1:=a1.nodup;have n2:=b1.nodup;have key:Tw K K'∧∃ V,x=((aH Tx w1).wrs W).wrs V∧x'=((aH Tx w2).wrs W).wrs V:=by
   by_cases e:i=half
   .rw[if_pos e]at a2 b2;obtain⟨k,h,c1,rfl,rfl⟩:=a2;obtain⟨k',h',d1,rfl,rfl⟩:=b2;obtain⟨rfl,hh⟩:=(c1.tw hT).uniq d1;have hs:bE h k=bE h' k:=Da hh;rw[<-hs];obtain⟨i1,_,i3,_⟩:=Ci (s1:=(aH Tx w1).wrs W) (s2:=(aH Tx w2).wrs W) hh hT n1 n2 c1 (min sc (bE h k)) (Nat.min_le_right _ _);refine⟨i3,_,tU _,?_⟩;rw[i1];exact tU _
   .rw[if_neg e]at a2 b2;obtain⟨rfl,rfl⟩:=a2;obtain⟨rfl,rfl⟩:=b2;exact⟨hT,[],rfl,rfl⟩
  obtain⟨hT',V,rfl,rfl⟩:=key;have hc:(((aH Tx w1).wrs W).wrs V).c=(((aH Tx w2).wrs W).wrs V).c:=by
   rw[jB,jB,jB,jB];rfl
  obtain⟨_,rfl,hT2,U,e1,e2,_⟩:=dK.twin hc hT' a4 b4 a3 b3;refine⟨hT2,rfl,W++V++U,?_,?_⟩
  .rw[e1,jP,jP]
  .rw[e2,jP,jP]
theorem dK.kept{nb turn err turn' n:Nat}{s s':Dsk}{L L':List Ent}{a:Ac}(hd:dK nb s L turn a err s' L' turn')(h:aQ s (n+42)):aQ s' n:=by
 unfold dK at hd;split at hd
 .split at hd
  .rw[hd.2.1];exact h.le (by omega)
  .rw[hd.2.1];exact(h.le (by omega)).blank
 .split at hd
  .rw[hd.2.1];exact h.le (by omega)
  .obtain⟨_,_,p,clock,_,_,rfl,_⟩:=hd;exact h.put
theorem Jh:∀ (W:List Wt) {c:Nat->Nat->Nat->Nat},(∀ d p i,c d p i<256)->(∀ x∈W,∀ i,x.b i<256)->∀ d p i,app c W d p i<256
 |[],_,h,_=>h
 |x :: W,c,h,hW=>Jh W (Ho h (hW x (List.mem_cons_self ..))) fun y hy=>hW y (List.mem_cons_of_mem _ hy)
theorem Ai{s:Dsk}{W:List Wt}(h:∀ d p i,s.a d p i<256)(hW:∀ x∈W,∀ i,x.b i<256):∀ d p i,(s.wrs W).a d p i<256:=by
 rw[jB];exact Jh _ h fun x hx=>hW x (List.mem_of_mem_take hx)
theorem Wk.byte{nb turn:Nat}{c:Nat->Nat->Nat->Nat}{L:List Ent}{a:Ac}{W:List Wt}(h:Wk nb c L turn a W)(hv:∀ i,a.val i<256):∀ x∈W,∀ i,x.b i<256:=by
 have hz:∀ i,zB i<256:=fun _=>by show(0:Nat)<256;omega
 rcases h with rfl|⟨n,e,_,_,rfl⟩|⟨_,_,p,_,rfl⟩
 .intro x hx;cases hx
 .intro x hx;rw[(yC hx).2.2.1];exact hz
 .intro x hx;rcases List.mem_append.1 hx with hx|hx
  .rw[(Gw 14 hx).2.2];exact fun i=>zA (lC hv _ _) _
  .cases hq:aL (aX a.c) L 0 with
   |none=>rw[hq]at hx;cases hx
   |some q=>
    rw[hq]at hx;rw[(yC hx).2.2.1];exact hz
theorem Gj{n:Nat}{x:Scb}(hv:∀ e∈x.L,∀ i,e.val i<256):∀ m,(∀ y∈lT n m x,∀ i,y.b i<256)∧∀ e∈(scrubN n m x).L,∀ i,e.val i<256
 |0=>⟨fun y hy=>(by cases hy),hv⟩
 |m+1=>by
  obtain⟨i1,i2⟩:=Gj hv m;constructor
  .intro y hy;rcases List.mem_append.1 hy with hy|hy
   .exact i1 y hy
   .unfold nI at hy;cases hq:aL ((scrubN n m x).h (bY (fun j=>((scrubN n m x).h j).bad) n)).id (scrubN n m x).L 0 with
    |none=>rw[hq]at hy;cases hy
    |some q=>
     rw[hq]at hy;obtain⟨k,e⟩:=q;obtain⟨_,_,h2,_⟩:=dY hq;have:y=⟨bF e.good,e.slot,e.blk (bF e.good)⟩:=List.mem_singleton.1 hy;subst this;exact fun i=>zA (lC (i2 e (List.mem_of_getElem? h2)) _ _) _
  .intro e he;have he':e∈(scrub1 n (scrubN n m x)).L:=he;unfold scrub1 at he';cases hq:aL ((scrubN n m x).h (bY (fun j=>((scrubN n m x).h j).bad) n)).id (scrubN n m x).L 0 with
   |none=>rw[hq]at he';exact i2 e he'
   |some q=>
    rw[hq]at he';obtain⟨k,e0⟩:=q;obtain⟨_,_,h2,_⟩:=dY hq;rcases List.mem_or_eq_of_mem_set he' with h|h
    .exact i2 e h
    .rw[h];exact i2 e0 (List.mem_of_getElem? h2)
section
variable {nd nb:Nat}{w w' v:World}{S:Nat->Prop}
theorem oN(t:TypeId)(e:Value)(hg0:v.cell? ⟨0,0,none⟩=some (.iface t e))(hg:Tryz.prog.globals.size<=v.heap.size)(N B c wr m:Nat)(Tx:Nat->ByteArray)(T:List It)(lb:Nat->Lb)(Gf:Nat->Nat->Bool)(E:Nat->Bool)(hM:MidW nb m (aH Tx wr).c T lb Gf E)(hm:m<=2097152)(hw:wr<=1099511627776)(b4:4<=nb)(b15:nb<=15)(n14:14<=nd)(n18:nd<=18)(hO:TextsOk nd nb Tx)(hTx:cC v B nd Tx)(hN:N<=v.heap.size)(p:Option Addr)(na cap:Nat)(A:Nat->Ac)(hA:iK N v p na A)(hna:na<=1048576)(sc:Nat)(hsc:sc<=8) :
  aJ Tryz.prog 21 #[.slice (some ⟨B,0,none⟩) nd c,.slice p na cap,.int .i64 (sc:Nat),.int .i64 (wr:Nat)] S v fun x S' v'=>Kp v (fun _=>False) v'∧∃ g s L t,x=.slice (some ⟨g,0,none⟩) nd nd∧cC v' g nd (fun d=>bG nb (s.a d))∧jN nb Tx lb Gf A (na / 2) sc wr na s L t∧(∀ d p i,s.a d p i<256)∧(549755813888<=wr->s.a=s.c):=by
 refine oR Tryz.func21 rfl Tryz.ntmps21 fun Stop cc cs ret f g0 g1 g2 g3=>?_
 repeat refine rN ?_
 refine rK Tryz.func8 (Du t e hg0 hg B c wr Tx lb Gf hw b4 n14 n18 (by omega) hO hTx hM.slot) ?_;rintro _ S1 w1 _ ⟨hK1,X,D,DB,DA,M,RB,RA,L,turn,rfl,hSv,hX,hown⟩;have hH:Hw N nd nb m X D DB DA M RB RA turn (dE (aH Tx wr) (cD L) nb) L T w1:=hM.mount hSv hX fun b hb=>Nat.le_trans hN (hown b hb)
 have hMs:jN nb Tx lb Gf A (na / 2) sc wr 0 (dE (aH Tx wr) (cD L) nb) L turn:=⟨hSv,rfl,hX.ids⟩
 have hKp:549755813888<=wr->aQ (dE (aH Tx wr) (cD L) nb) ((if 0<=na / 2 then 400 else 200)+42*(na - 0)):=fun h=>aQ.sweep nb ⟨rfl,by
  show _<=wr;rw[if_pos (by omega)]
  omega⟩
 have hab:∀ d p i,(dE (aH Tx wr) (cD L) nb).a d p i<256:=by
  rw[qC];refine Ai hM.byte fun x hx i=>?_
  rw[(Cz nb hx).2.2.2.1];show(0:Nat)<256;omega
 generalize dE (aH Tx wr) (cD L) nb=s at hH hMs hKp hab;clear hSv hX hM hO hTx hg0;repeat refine rN ?_
 refine rZ (by simp[Act.eval]) ?_;repeat refine rN ?_
 refine bP (fun d f' S' w'=>∃ j turn s L T,d=na - j∧j<=na∧Kp v (fun _=>False) w'∧Hw N nd nb (m+j) X D DB DA M RB RA turn s L T w'∧jN nb Tx lb Gf A (na / 2) sc wr j s L turn∧(549755813888<=wr->aQ s ((if j<=na / 2 then 400 else 200)+42*(na - j)))∧(∀ d p i,s.a d p i<256)∧f' 1=.slice p na cap∧f' 2=.int .i64 (sc:Nat)∧f' 9=.pointer (some ⟨X,0,none⟩)∧f' 10=.int .i64 (j:Nat)) na ⟨0,turn,s,L,T,by omega,by omega,hK1,hH,hMs,hKp,hab,by simp[g1],by simp[g2],by simp,by simp⟩ ?_;clear g0 g1 g2 g3 f hKp hMs hH hK1 hab s L T turn;rintro d f S' w ⟨j,turn,s,L,T,rfl,hj,hK,hH,hMs,hKp,hab,g1,g2,g9,g10⟩ nxt;repeat refine rN ?_
 by_cases hlt:j<na
 .have hjI:(j:Int)<(na:Int):=by omega
  have hl6:=hH.few6;have htu:=hH.turn;refine rX (by simp[Act.eval,g10,g1,hjI,hlt]) ?_;refine rQ rfl ?_;refine rQ rfl ?_;refine rQ rfl ?_;refine rQ rfl ?_;refine sL (fun f' S' w'=>∃ s1 L1,Kp v (fun _=>False) w'∧Hw N nd nb (m+j) X D DB DA M RB RA turn s1 L1 T w'∧(if j=na / 2 then Scr sc s L s1 L1 else s1=s∧L1=L)∧(549755813888<=wr->aQ s1 (200+(if j<na / 2 then 200 else 0)+42*(na - j)))∧(∀ d p i,s1.a d p i<256)∧f' 1=.slice p na cap∧f' 2=.int .i64 (sc:Nat)∧f' 9=.pointer (some ⟨X,0,none⟩)∧f' 10=.int .i64 (j:Nat)) ?_ ?_
  .intro nx2;repeat refine rN ?_
   by_cases hh:j=na / 2
   .have hhI:(j:Int)=(na:Int) / 2:=by omega
    refine rX (by simp[Act.eval,hhI]) ?_;repeat refine rN ?_
    refine cY Tryz.func13 (Uz (sc:Nat) (by omega) (by omega) (by omega) (Nat.le_trans hg hK.size) (by omega) n14 n18 (by omega) hH.st) ?_;rintro _ S8 w8 _ ⟨k2,h2,hT2,hk2,rfl,hK8,hX8⟩;have hmin:min ((sc:Nat):Int).toNat (bE h2 k2)=min sc (bE h2 k2):=by rw[Int.toNat_natCast]
    rw[hmin]at hX8;refine rE ?_
    exact nx2 _ _ _ ⟨_,_,oZ ((hK.mono fun _ h=>h.elim).trans hK8) hown,hH.scrub hT2 (Nat.min_le_right _ _) hX8,by rw[if_pos hh];exact⟨k2,h2,hT2,rfl,rfl⟩,fun h=>aQ.scrubN _ ((hKp h).le (by
     have:=Nat.min_le_left sc (bE h2 k2)
     split<;>split<;>omega)),by rw[tU];exact Ai hab (Gj (fun e he=>(hH.st.ent e he).val) _).1,by simp[g1],by simp[g2],by simp[g9],by simp[g10]⟩
   .have hhI:¬(j:Int)=(na:Int) / 2:=by omega
    refine rZ (by simp[Act.eval,hhI]) ?_;refine rB ?_;exact nx2 _ _ _ ⟨s,L,hK,hH,by rw[if_neg hh];exact⟨rfl,rfl⟩,fun h=>(hKp h).le (by split<;>split<;>omega),hab,by simp[g1],by simp[g2],by simp[g9],by simp[g10]⟩
  .rintro f S1 w ⟨s1,L1,hK,hH,hSc,hKp,hab,g1,g2,g9,g10⟩;obtain⟨⟨B,off,rfl,hBN,hcell⟩,haOk⟩:=(hA.kp (dM _ v) hK) j hlt;repeat refine rN ?_
   refine cR aB rfl rfl (by kernel_rfl) (fun u hu=>yJ (b:=B) (off:=off+j*3) (x:=.tmp 33) (c:=A j) rfl (by simp) fun k y hy=>(Ext.twin hu).cell (hcell k y hy)) ?_
   simp only[stO_some];refine cY Tryz.func18 (Jg N (A j) haOk (Nat.le_trans hg hK.size) (by omega) b4 n14 n18 (by omega) hH.len hH.st) ?_;rintro _ S2 w2 _ ⟨err,s',L',turn',rfl,hd,hK2,hX2⟩
   have hKe:549755813888<=wr->aQ s' ((if j+1<=na / 2 then 400 else 200)+42*(na - (j+1))):=fun h=>hd.kept ((hKp h).le (by
    have:na - j=na - (j+1)+1:=by omega
    split<;>split<;>omega))
   have hMs2:jN nb Tx lb Gf A (na / 2) sc wr (j+1) s' L' turn':=⟨s,L,turn,s1,L1,err,hMs,hSc,hd,hH.st.ids,hX2.ids⟩;have hab2:∀ d p i,s'.a d p i<256:=by
    obtain⟨_,_,_,W,e1,_,hW⟩:=dK.twin rfl (fun _=>Iff.rfl) hH.st.ids hH.st.ids hd hd;rw[e1];exact Ai hab (hW.byte haOk.val)
   have hH2:=hH.did hd hX2;have hKv2:Kp v (fun _=>False) w2:=oZ ((hK.mono fun _ h=>h.elim).trans hK2) hown
   repeat refine rN ?_
   exact nxt _ _ _ (na - (j+1)) (by omega) ⟨j+1,turn',s',L',_,rfl,by omega,hKv2,hH2,hMs2,hKe,hab2,by simp[g1],by simp[g2],by simp[g9],by simp⟩
 .obtain rfl:j=na:=by omega
  refine rZ (by simp[Act.eval,g10,g1]) ?_;refine bH rfl ?_;repeat refine rN ?_
  refine rK Tryz.func10 (Hd b4 n14 n18 (by omega) hH.st) ?_;rintro _ S2 w2 _ ⟨e1,hE2,gd,rfl,hgd,hTx⟩;subst S2;repeat refine rN ?_
  refine aP fun todo=>?_
  refine ret _ _ _ w2 (.slice (some ⟨gd,0,none⟩) nd nd) ?_ ⟨hK.ext hE2,gd,s,L,turn,rfl,hTx,hMs,hab,fun h=>(hKp h).1⟩
  simp[results,Tryz.results21]
end
