import Derived.Test.YtpiefebngnlfoabGreatDoorNt
import Derived.Test.YtpiefebngnlfoabGreatDoorNq
set_option maxRecDepth 99999
set_option maxHeartbeats 0
set_option linter.unusedVariables false
set_option linter.unusedSimpArgs false
namespace Go.Proofs.YtpiefebngnlfoabGreatDoor
open Go.RowKit Go.Conc Go.Vw
theorem fH.val{v:World}{p:Option Addr}{len cap:Nat}{x y:Nat->Nat}(h:fH v p len cap x)(he:∀ k,k<len->y k=x k):fH v p len cap y:=by
 rcases h with(h|⟨B,off,h1,h2,h3⟩)|h
 .exact .inl (.inl h)
 .refine .inl (.inr ⟨B,off,h1,h2,fun j hj=>?_⟩)
  rw[he j hj];exact h3 j hj
 .exact .inr h
theorem Hj:∀ {Q:List Itp} {A:List It},nT A (Q.map (·.it))->∃ Q':List Itp,Q'.map (·.it)=A∧gZ Q'=gZ Q∧Q'.length=Q.length∧∀ q'∈Q',∃ q∈Q,q'.p=q.p∧q'.cap=q.cap∧q'.it.size=q.it.size∧∀ k,k<q.it.size->q'.it.val k=q.it.val k
 |[],[],_=>⟨[],rfl,rfl,rfl,fun _ h=>(by cases h)⟩
 |[],_ :: _,h=>by have:=h.1;simp at this
 |_ :: _,[],h=>by have:=h.1;simp at this
 |q :: Q,a :: A,h=>by
  have h0:=h.2 0 a q.it rfl rfl;obtain⟨Q',e1,e2,e3,e4⟩:=Hj (Q:=Q) (A:=A) ⟨by have:=h.1;simpa using this,fun i x y hx hy=>h.2 (i+1) x y hx hy⟩
  refine⟨⟨a,q.p,q.cap⟩ :: Q',by simp[e1],?_,by simp[e3],fun q' hq'=>?_⟩
  .show Value.int .i64 (a.id:Nat) :: Value.slice q.p a.size q.cap :: gZ Q'=Value.int .i64 (q.it.id:Nat) :: Value.slice q.p q.it.size q.cap :: gZ Q;rw[h0.2,h0.1.1,e2]
  .rcases List.mem_cons.1 hq' with rfl|hq'
   .exact⟨q,List.mem_cons_self ..,rfl,rfl,h0.1.1,fun k hk=>h0.1.2 k (by rw[h0.1.1];exact hk)⟩
   .obtain⟨r,r1,r2⟩:=e4 q' hq';exact⟨r,List.mem_cons_of_mem _ r1,r2⟩
theorem bO.alk{N base:Nat}{w:World}{sv:Value}{A B:List It}(h:bO N base w sv B)(ha:nT A B):bO N base w sv A:=by
 obtain⟨Q,rfl,hQ⟩:=h;obtain⟨Q',e1,e2,e3,e4⟩:=Hj ha;refine⟨Q',e1,by rw[e2,e3];exact hQ.own,fun q' hq'=>?_⟩
 obtain⟨q,r1,r2,r3,r4,r5⟩:=e4 q' hq';have hs:=hQ.sl q r1;rw[r2,r3,r4];exact⟨hs.1.val r5,hs.2⟩
structure Rnd where
 p:Option Addr
 n:Nat
 cap:Nat
 A:Nat->Ac
 wr:Int
def Rnd.agg(r:Rnd):Array Value:=#[.slice r.p r.n r.cap,.int .i64 r.wr]
structure Rnd.Ok(N:Nat)(w:World)(r:Rnd):Prop where
 acts:kD N w r.p r.n r.A
 n:r.n<=1048576
 lo:-9223372036854775808<=r.wr
 hi:r.wr<=9223372036854775807
def nM(N:Nat)(w:World)(p:Option Addr)(nr:Nat)(R:Nat->Rnd):Prop:=∀ i,i<nr->(∃ B off,p=some ⟨B,off,none⟩∧B<N∧∀ k y,(R i).agg[k]?=some y->w.cell? ⟨B,off+i*2+k,none⟩=some y)∧(R i).Ok N w
theorem nM.kp{N:Nat}{w w':World}{Y:Nat->Prop}{p:Option Addr}{nr:Nat}{R:Nat->Rnd}(h:nM N w p nr R)(hY:gJ N w Y)(hK:Kp w Y w'):nM N w' p nr R:=fun i hi=>by
 obtain⟨⟨B,off,h1,h2,h3⟩,h4⟩:=h i hi;exact⟨⟨B,off,h1,h2,fun k y hy=>hK.cell (fun hb=>by have:=(hY B hb).1;omega) (h3 k y hy)⟩,h4.acts.kp hY hK,h4.n,h4.lo,h4.hi⟩
theorem Qv{o:Oper}{a:Act}{x:Operand}{b off:Nat}{c:Rnd}{u:World}(hop:o.op=.load 60 x)(hx:a.eval x=.pointer (some ⟨b,off,none⟩))(h:∀ k y,c.agg[k]?=some y->u.cell? ⟨b,off+k,none⟩=some y):(execOp a.eval o).run Tryz.prog u=.ok (.value (.agg c.agg)) u:=by
 have hl:=run_loadAt_mid (P:=Tryz.prog) u b off 60 c.agg.toList _ (fun i r hy=>h i r (by rw[<-Array.getElem?_toList];exact hy)) Tryz.underlying60 rfl (by kernel_rfl);unfold execOp;simp only[hop,hx,Sem.run_bind,hl,Result.andThen_ok,Sem.run_pure]
section
variable {w w' v:World}{S:Nat->Prop}
theorem Xj{f:Nat->Value}{Stop:Goroutine->(Nat->Prop)->World->Prop}{cs:List Frame}{k0:List Item}{X D DB DA M X' D' DB' DA' M':Nat}{RB RA RB' RA':Nat->Nat}{nd nb turn wr m n:Nat}{s t:Dsk}{L L':List Ent}{c0:Nat->Nat->Nat->Nat}{lost:Bool}{Ts:List (List It)}(T:List It)(sv mv:Value)(N:Nat)(hN:N<=v.heap.size)(hg:Tryz.prog.globals.size<=v.heap.size)(n14:14<=nd)(n18:nd<=18)(b4:4<=nb)(b15:nb<=15)(hK:Kp v (fun _=>False) w)(bx B off na cap j:Nat)(A:Nat->Ac)(hbv:v.cell? ⟨bx,0,none⟩=some (.slice (some ⟨B,off,none⟩) na cap))(hlt:j<na)(hBN:B<N)(hcell:∀ k y,(A j).agg[k]?=some y->w.cell? ⟨B,off+j*3+k,none⟩=some y)(haOk:(A j).Ok N w)(hm:m<=2199023255552)
  (hD:Duo v.heap.size nd nb (n+42) m wr c0 X D DB DA M X' D' DB' DA' M' RB RA RB' RA' turn s t L L' T w) (hM:dE N v.heap.size w mv Ts) (hI:bO N N w sv T)
  (g5:f 5=.pointer (some ⟨bx,0,none⟩)) (g15:f 9=.pointer (some ⟨X,0,none⟩)) (g16:f 1=sv) (g19:f 10=.pointer (some ⟨X',0,none⟩)) (g20:f 11=mv) (g21:f 12=.bool lost) (g22:f 13=.int .i64 (j:Nat))
  (next:∀ f' S' w' err turn1 s1 t2 L1 L2 y,Kp v (fun _=>False) w'->Duo v.heap.size nd nb n (m+1) wr c0 X D DB DA M X' D' DB' DA' M' RB RA RB' RA' turn1 s1 t2 L1 L2 (if err=0 then bH (A j).it (A j).gone T else T) w'->dE N v.heap.size w' mv Ts->bO N N w' y (if err=0 then bH (A j).it (A j).gone T else T)->(∀ x∈(if err=0 then bH (A j).it (A j).gone T else T),x.size<=400)->(if err=0 then bH (A j).it (A j).gone T else T).length<=6->(∀ Ts,dJ true nb m t Ts T->dJ true nb (m+1) t2 Ts (if err=0 then bH (A j).it (A j).gone T else T))->(t.a=t.c->∀ b:Bool,(b=true↔∀ d,d<nd->cC nb (s1.a d)=cC nb (t2.a d))->14<=nd->dJ (!b) nb (m+1) t2 (if b=true then [(if err=0 then bH (A j).it (A j).gone T else T)] else [T,(if err=0 then bH (A j).it (A j).gone T else T)]) (if err=0 then bH (A j).it (A j).gone T else T))->f' 5=.pointer (some ⟨bx,0,none⟩)->f' 9=.pointer (some ⟨X,0,none⟩)->f' 1=y->f' 10=.pointer (some ⟨X',0,none⟩)->f' 11=mv->f' 12=.bool lost->f' 13=.int .i64 (j:Nat)->Vw.Reach Tryz.prog Stop (G ((base 22).at ⟨TA 86 f',[]⟩ (.code (sq 4 ((fT 1 (Tryz.f22.body.getD .skip)).getD .skip)) :: k0)) cs) S' w') :
  Vw.Reach Tryz.prog Stop (G ((base 22).at ⟨TA 86 f,[]⟩ (.code ((fT 1 (Tryz.f22.body.getD .skip)).getD .skip) :: k0)) cs) S w:=by
 have e0:fT 1 (Tryz.f22.body.getD .skip)=some _:=rfl;rw[e0]at next ⊢
 simp only[sq,Option.getD_some]at next ⊢
 clear e0;have hjI:(j:Int)<(na:Int):=by omega
 have htu:=hD.hs.turn;have hb0:=hK.cell (fun h=>h) hbv;repeat refine rM hb0 ?_
 refine bV aB rfl rfl (by kernel_rfl) (fun u hu=>qN (b:=B) (off:=off+j*3) (x:=.tmp 48) (c:=A j) rfl (by simp) fun k y hy=>(Ext.twin hu).cell (hcell k y hy)) ?_
 simp only[stO_some];refine rK Tryz.func18 (zY N (A j) haOk (Nat.le_trans hg hK.size) (by omega) b4 n14 n18 (by omega) hD.hs.len hD.hs.st) ?_;rintro _ S1 w1 _ ⟨err,s1,L1,turn1,rfl,hd1,hK1,hX1⟩;have hO1:=hD.hs.off.le hN;have ht1:=hD.ht.st.two hD.hs.st (fun b h1 h2=>hD.ap b h2 h1) hK1;have hM1:=hM.kpS hD.hs.st (fun b hb=>Nat.le_trans hN (hD.hs.own b hb)) hK1;have hI1:=hI.kp hO1 hK1;have ha1:=haOk.kp hO1 hK1;have hc1:∀ k y,(A j).agg[k]?=some y->w1.cell? ⟨B,off+j*3+k,none⟩=some y:=fun k y hy=>hK1.cell (fun hb=>by have:=hD.hs.own B hb;omega) (hcell k y hy)
 have hKv1:Kp v (fun _=>False) w1:=lK ((hK.mono fun _ h=>h.elim).trans hK1) hD.hs.own
 clear hO1 hcell haOk hM hI;have hb1:=hKv1.cell (fun h=>h) hbv;repeat refine rM hb1 ?_
 refine bV aB rfl rfl (by kernel_rfl) (fun u hu=>qN (b:=B) (off:=off+j*3) (x:=.tmp 55) (c:=A j) rfl (by simp) fun k y hy=>(Ext.twin hu).cell (hc1 k y hy)) ?_
 simp only[stO_some];refine rK Tryz.func18 (zY N (A j) ha1 (Nat.le_trans hg hKv1.size) (by omega) b4 n14 n18 (by omega) hD.ht.len ht1) ?_;rintro _ S2 w2 _ ⟨err',t2,L2,turn2,rfl,hd2,hK2,hX2⟩;have hO2:gJ N w1 (bU X' D' M' RB' RA' nd):=bU.off ht1 fun b hb=>Nat.le_trans hN (hD.ht.own b hb)
 obtain⟨he5,_,_⟩:=dK.err hd1;obtain⟨ee,hD2,hSt1,hSt2⟩:=hD.act hd1 hX1 hd2 hK2 ht1 hX2 (by omega) ha1.val;replace ee:=ee.symm;subst ee;have hM2:=hM1.kpS ht1 (fun b hb=>Nat.le_trans hN (hD.ht.own b hb)) hK2;have hI2:=hI1.kp hO2 hK2;have ha2:=ha1.kp hO2 hK2;have hc2:∀ k y,(A j).agg[k]?=some y->w2.cell? ⟨B,off+j*3+k,none⟩=some y:=fun k y hy=>hK2.cell (fun hb=>by have:=hD.ht.own B hb;omega) (hc1 k y hy)
 have hKv2:Kp v (fun _=>False) w2:=lK ((hKv1.mono fun _ h=>h.elim).trans hK2) hD.ht.own
 have hT6:=hD.hs.rep.len6 hD.hs.few;have hz2:=hD2.hs.rep.size hD2.hs.st.ent;have hT62:=hD2.hs.rep.len6 hD2.hs.few;clear hd1 hX1 hd2 hX2 hc1 hM1 hI1 ha1 ht1 hK1 hK2 hO2 hKv1;repeat refine rN ?_
 refine rZ (by simp[Act.eval]) ?_;have hb2:=hKv2.cell (fun h=>h) hbv;repeat refine rM hb2 ?_
 refine bV aB rfl rfl (by kernel_rfl) (fun u hu=>qN (b:=B) (off:=off+j*3) (x:=.tmp 65) (c:=A j) rfl (by simp) fun k y hy=>(Ext.twin hu).cell (hc2 k y hy)) ?_
 simp only[stO_some];repeat refine rN ?_
 refine rK Tryz.func19 (Ht N (Nat.le_trans hN hKv2.size) T sv (A j) err (by omega) hI2 ha2 (by omega)) ?_;rintro y S3 w3 _ ⟨eS,hE3,hI3⟩;subst S3;have hD3:=hD2.kp0 (bF hE3);have hM3:=hM2.kp0 (bF hE3);have hKv3:=hKv2.ext hE3;clear hD2 hM2 hKv2 hc2 ha2 hI2;refine rY aB ?_;refine rE ?_;exact next _ _ w3 err turn1 s1 t2 L1 L2 y hKv3 hD3 hM3 hI3 hz2 hT62 hSt1 hSt2 (by simp[g5]) (by simp[g15]) (by simp) (by simp[g19]) (by simp[g20]) (by simp[g21]) (by simp[g22])
theorem Xi{f:Nat->Value}{Stop:Goroutine->(Nat->Prop)->World->Prop}{cs:List Frame}{k0:List Item}{X D DB DA M X' D' DB' DA' M':Nat}{RB RA RB' RA':Nat->Nat}{nd nb turn wr m n:Nat}{s t:Dsk}{L L':List Ent}{c0:Nat->Nat->Nat->Nat}{lost:Bool}{Ts:List (List It)}(T:List It)(sv mv:Value)(N:Nat)(hN:N<=v.heap.size)(hg:Tryz.prog.globals.size<=v.heap.size)(n14:14<=nd)(n18:nd<=18)(b4:4<=nb)(b15:nb<=15)(hK:Kp v (fun _=>False) w){T0:List It}{m0:Nat}{t0:Dsk}(bx j:Nat)
  (hD:Duo v.heap.size nd nb n m wr c0 X D DB DA M X' D' DB' DA' M' RB RA RB' RA' turn s t L L' T w) (hM:dE N v.heap.size w mv Ts) (hI:bO N N w sv T) (hz:∀ x∈T,x.size<=400) (hl:T.length<=6) (hS:dJ lost nb m0 t0 Ts T0) (hS1:∀ Ts,dJ true nb m0 t0 Ts T0->dJ true nb m t Ts T) (hS2:t0.a=t0.c->∀ b:Bool,(b=true↔∀ d,d<nd->cC nb (s.a d)=cC nb (t.a d))->14<=nd->dJ (!b) nb m t (if b=true then [T] else [T0,T]) T)
  (g5:f 5=.pointer (some ⟨bx,0,none⟩)) (g15:f 9=.pointer (some ⟨X,0,none⟩)) (g16:f 1=sv) (g19:f 10=.pointer (some ⟨X',0,none⟩)) (g20:f 11=mv) (g21:f 12=.bool lost) (g22:f 13=.int .i64 (j:Nat))
  (next:∀ f' S' w' lost' Ts' mv',Kp v (fun _=>False) w'->Duo v.heap.size nd nb n m wr c0 X D DB DA M X' D' DB' DA' M' RB RA RB' RA' turn s t L L' T w'->dE N v.heap.size w' mv' Ts'->bO N N w' sv T->dJ lost' nb m t Ts' T->f' 5=.pointer (some ⟨bx,0,none⟩)->f' 9=.pointer (some ⟨X,0,none⟩)->f' 1=sv->f' 10=.pointer (some ⟨X',0,none⟩)->f' 11=mv'->f' 12=.bool lost'->f' 13=.int .i64 (j:Nat)->Vw.Reach Tryz.prog Stop (G ((base 22).at ⟨TA 86 f',[]⟩ (k0)) cs) S' w') :
  Vw.Reach Tryz.prog Stop (G ((base 22).at ⟨TA 86 f,[]⟩ (.code (sq 4 ((fT 1 (Tryz.f22.body.getD .skip)).getD .skip)) :: .inBlock 1 :: k0)) cs) S w:=by
 obtain⟨is,zz,is1,is2,is3,is4,is5⟩:=Hm;have e0:fT 1 (Tryz.f22.body.getD .skip)=some _:=rfl;rw[e0];simp only[sq,Option.getD_some];clear e0;cases lost with
 |true=>
  repeat refine rN ?_
  refine rX (by simp[Act.eval,g21]) ?_;refine bB rfl ?_;exact next _ _ w true Ts mv hK hD hM hI (hS1 Ts hS) (by simp[g5]) (by simp[g15]) (by simp[g16]) (by simp[g19]) (by simp[g20]) (by simp[g21]) (by simp[g22])
 |false=>
  obtain⟨hac,hTs⟩:=hS.not;subst hTs;have hSt:=hS2 hac;clear hS1 hS2 hac hS;repeat refine rN ?_
  refine rZ (by simp[Act.eval,g21]) ?_;repeat refine rN ?_
  refine rK Tryz.func10 (mN b4 n14 n18 (by omega) hD.hs.st) ?_;rintro _ S4 w4 _ ⟨e1,hE4,gs,rfl,hgs,hTs⟩;subst S4;have hD4:=hD.kp0 (bF hE4);repeat refine rN ?_
  refine rK Tryz.func10 (mN b4 n14 n18 (by omega) hD4.ht.st) ?_;rintro _ S5 w5 _ ⟨e1,hE5,gt,rfl,hgt,hTt⟩;subst S5;repeat refine rN ?_
  refine rK Tryz.func17 (Gk gs gt nd nd nd (fun d=>cC nb (s.a d)) (fun d=>cC nb (t.a d)) n18 (hTs.ext hE5) hTt) ?_;rintro _ S6 w6 _ ⟨e1,e2,bb,rfl,hbb⟩;subst S6 w6;have hSn:=hSt bb hbb n14;have hE45:=hE4.trans _ _ _ hE5;have hD5:=hD4.kp0 (bF hE5);have hM5:=hM.kp0 (bF hE45);have hI5:=hI.kp0 (bF hE45);have hKv5:=hK.ext hE45;clear hSt hbb hTs hTt hD hD4 hM hI hE4 hE5 hE45;cases bb with
  |true=>
   repeat refine rN ?_
   refine rZ (by simp[Act.eval]) ?_;repeat refine rN ?_
   refine bJ (Q:=fun x w2=>x=.slice (some ⟨w5.heap.size,0,none⟩) 1 1∧Ext w5 w2∧w2.heap[w5.heap.size]?=some (.cells #[sv] 25)) aB rfl rfl (by kernel_rfl) (fun u hu=>⟨_,_,.inl (tQ (x:=.tmp 81) (y:=sv) rfl Tryz.underlying44 is1 is2 is3 is5 (by simp) (hI5.one) u),by rw[hu.heap],(Ext.twin hu).trans _ _ _ (Ext.alloc _ _),by rw[<-hu.heap];exact cF _ _⟩) ?_
   rintro _ w7 ⟨rfl,hE7,hr7⟩;simp only[stO_some];have hI7:=hI5.kp0 (bF hE7);refine rY aB ?_;refine rE ?_;refine rQ rfl ?_;exact next _ _ w7 false [T] _ (hKv5.ext hE7) (hD5.kp0 (bF hE7)) (dE.one hr7 hKv5.size hI7 hz hl) hI7 hSn (by simp[g5]) (by simp[g15]) (by simp[g16]) (by simp[g19]) (by simp) (by simp) (by simp[g22])
  |false=>
   repeat refine rN ?_
   refine rX (by simp[Act.eval]) ?_;repeat refine rN ?_
   refine bJ (Q:=fun x w2=>x=.slice (some ⟨w5.heap.size,0,none⟩) 1 1∧Ext w5 w2∧w2.heap[w5.heap.size]?=some (.cells #[sv] 25)) aB rfl rfl (by kernel_rfl) (fun u hu=>⟨_,_,.inl (tQ (x:=.tmp 78) (y:=sv) rfl Tryz.underlying44 is1 is2 is3 is5 (by simp) (hI5.one) u),by rw[hu.heap],(Ext.twin hu).trans _ _ _ (Ext.alloc _ _),by rw[<-hu.heap];exact cF _ _⟩) ?_
   rintro _ w7 ⟨rfl,hE7,hr7⟩;simp only[stO_some];have hI7:=hI5.kp0 (bF hE7);obtain⟨svs,ho,hIs⟩:=hM5.kp0 (bF hE7);refine bJ aB rfl rfl (by kernel_rfl) (fun u hu=>qB (s:=.tmp 77) (x:=.tmp 79) (ad:=⟨w5.heap.size,0,none⟩) (m:=1) (c:=1) (news:=[sv]) hu v.heap.size Tryz.underlying44 is1 is2 is3 is4 (by rw[is5];rfl) ho rfl (Ep hr7) (fun y hy=>by rw[List.mem_singleton]at hy;subst hy;exact hI5.cell1) (by show 1+1<=100000;omega) (by omega) (Nat.le_trans hKv5.size hE7.size) rfl (by simp[g20]) (by simp)) ?_;rintro mv' w8 ⟨ho8,hg8,_⟩;simp only[stO_some];obtain⟨hM8,g,C,fr,hgC,hgN,hK8⟩:=dE.two hN ho (fun sv' h=>hIs 0 sv' T0 h rfl) hI7 hz hl ho8 hg8;have hKv8:Kp v (fun _=>False) w8:=lK (((hKv5.ext hE7).mono fun _ h=>h.elim).trans hK8) (by rintro b rfl;exact hgN)
   have hD7:=hD5.kp0 (bF hE7);have hD8:Duo v.heap.size nd nb n m wr c0 X D DB DA M X' D' DB' DA' M' RB RA RB' RA' turn s t L L' T w8:=⟨⟨hD7.hs.st.kpB hgC hK8,hD7.hs.own,hD7.hs.neat,hD7.hs.few,hD7.hs.len,hD7.hs.kept,hD7.hs.turn,hD7.hs.rep⟩,hD7.ht.put (hD7.ht.st.kpB hgC hK8),hD7.hc,hD7.tw,hD7.ap,hD7.wrs⟩;refine rY aB ?_;refine rE ?_;refine rQ rfl ?_;exact next _ _ w8 true [T0,T] _ hKv8 hD8 hM8 (hI7.kp (Er hgC (Nat.le_trans hN hgN)) hK8) hSn (by simp[g5]) (by simp[g15]) (by simp[g16]) (by simp[g19]) (by simp) (by simp) (by simp[g22])
theorem Oj{f:Nat->Value}{Stop:Goroutine->(Nat->Prop)->World->Prop}{cs:List Frame}{k0:List Item}{X D DB DA M X' D' DB' DA' M':Nat}{RB RA RB' RA':Nat->Nat}{nd nb turn wr m:Nat}{s t:Dsk}{L L':List Ent}{c0:Nat->Nat->Nat->Nat}{lost:Bool}{Ts:List (List It)}(T:List It)(sv mv:Value)(N:Nat)(hN:N<=v.heap.size)(hg:Tryz.prog.globals.size<=v.heap.size)(n14:14<=nd)(n18:nd<=18)(b4:4<=nb)(b15:nb<=15)(hKv:Kp v (fun _=>False) w)(bx:Nat)(p:Option Addr)(na cap:Nat)(A:Nat->Ac)(hbv:v.cell? ⟨bx,0,none⟩=some (.slice p na cap))(hA:kD N v p na A)(hna:na<=1048576)(hm:m+na<=2199023255552)
  (hD:Duo v.heap.size nd nb (549755813888+42*na) m wr c0 X D DB DA M X' D' DB' DA' M' RB RA RB' RA' turn s t L L' T w) (hS:dJ lost nb m t Ts T) (hM:dE N v.heap.size w mv Ts) (hI:bO N N w sv T)
  (g5:f 5=.pointer (some ⟨bx,0,none⟩)) (g15:f 9=.pointer (some ⟨X,0,none⟩)) (g16:f 1=sv) (g19:f 10=.pointer (some ⟨X',0,none⟩)) (g20:f 11=mv) (g21:f 12=.bool lost) (g22:f 13=.int .i64 0)
  (next:∀ f' S' w' turn s t L L' T lost Ts sv mv,Kp v (fun _=>False) w'->Duo v.heap.size nd nb 549755813888 (m+na) wr c0 X D DB DA M X' D' DB' DA' M' RB RA RB' RA' turn s t L L' T w'->dJ lost nb (m+na) t Ts T->dE N v.heap.size w' mv Ts->bO N N w' sv T->f' 10=.pointer (some ⟨X',0,none⟩)->f' 11=mv->Vw.Reach Tryz.prog Stop (G ((base 22).at ⟨TA 86 f',[]⟩ k0) cs) S' w') :
  Vw.Reach Tryz.prog Stop (G ((base 22).at ⟨TA 86 f,[]⟩ (.code (oY 0 (Tryz.f22.body.getD .skip)) :: .inBlock 0 :: k0)) cs) S w:=by
 have e:oY 0 (Tryz.f22.body.getD .skip)=.loop _:=rfl;rw[e];clear e;refine bR (fun d f' S' w'=>∃ j turn s t L L' T lost Ts sv mv,d=na - j∧j<=na∧Kp v (fun _=>False) w'∧Duo v.heap.size nd nb (549755813888+42*(na - j)) (m+j) wr c0 X D DB DA M X' D' DB' DA' M' RB RA RB' RA' turn s t L L' T w'∧dJ lost nb (m+j) t Ts T∧dE N v.heap.size w' mv Ts∧bO N N w' sv T∧f' 5=.pointer (some ⟨bx,0,none⟩)∧f' 9=.pointer (some ⟨X,0,none⟩)∧f' 1=sv∧f' 10=.pointer (some ⟨X',0,none⟩)∧f' 11=mv∧f' 12=.bool lost∧f' 13=.int .i64 (j:Nat)) na ⟨0,turn,s,t,L,L',T,lost,Ts,sv,mv,by omega,by omega,hKv,hD,hS,hM,hI,g5,g15,g16,g19,g20,g21,by simp[g22]⟩ ?_;clear g5 g15 g16 g19 g20 g21 g22 f hI hM hS hD hKv s t L L' T sv mv turn lost Ts;rintro d f S' w ⟨j,turn,s,t,L,L',T,lost,Ts,sv,mv,rfl,hj,hK,hD,hS,hM,hI,g5,g15,g16,g19,g20,g21,g22⟩ nxt;have hbw:=hK.cell (fun h=>h) hbv;repeat refine rM hbw ?_
 by_cases hlt:j<na
 .have hjI:(j:Int)<(na:Int):=by omega
  obtain⟨⟨B,off,rfl,hBN,hcell⟩,haOk⟩:=(hA.kp (eF _ v) hK) j hlt;refine rX (by simp[Act.eval,g22,hjI,hlt]) ?_;refine rQ rfl ?_;refine rQ rfl ?_;refine rQ rfl ?_;refine Xj (lost:=lost) T sv mv N hN hg n14 n18 b4 b15 hK bx B off na cap j A hbv hlt hBN hcell haOk (by omega) (hD.le (n':=549755813888+42*(na - (j+1))+42) (by omega) (Nat.le_refl _)) hM hI (by simp[g5]) (by simp[g15]) (by simp[g16]) (by simp[g19]) (by simp[g20]) (by simp[g21]) (by simp[g22]) fun f1 S1 w1 err turn1 s1 t2 L1 L2 y hK1 hD1 hM1 hI1 hz1 hl1 hSt1 hSt2 q5 q15 q16 q19 q20 q21 q22=>?_
  clear g5 g15 g16 g19 g20 g21 g22 hD hM hI hK;refine Xi _ y mv N hN hg n14 n18 b4 b15 hK1 bx j hD1 hM1 hI1 hz1 hl1 hS hSt1 hSt2 q5 q15 q16 q19 q20 q21 q22 fun f2 S2 w2 lost' Ts' mv' hK2 hD2 hM2 hI2 hS2 g5 g15 g16 g19 g20 g21 g22=>?_
  repeat refine rN ?_
  exact nxt _ _ _ (na - (j+1)) (by omega) ⟨j+1,turn1,s1,t2,L1,L2,_,lost',Ts',y,mv',rfl,by omega,hK2,hD2,hS2,hM2,hI2,by simp[g5],by simp[g15],by simp[g16],by simp[g19],by simp[g20],by simp[g21],by simp⟩
 .obtain rfl:j=na:=by omega
  refine rZ (by simp[Act.eval,g22]) ?_;refine bB rfl ?_;exact next _ _ _ turn s t L L' T lost Ts sv mv hK (hD.le (by omega) (Nat.le_refl _)) hS hM hI (by simp[g19]) (by simp[g20])
end
section
variable {nd nb:Nat}{w w' v:World}{S:Nat->Prop}
theorem Xk(t:TypeId)(e:Value)(hg0:v.cell? ⟨0,0,none⟩=some (.iface t e))(hg:Tryz.prog.globals.size<=v.heap.size)(N B c m:Nat)(a:Nat->Nat->Nat->Nat)(T:List It)(sv:Value)(r:Rnd)(hN:N<=v.heap.size)(n14:14<=nd)(n18:nd<=18)(b4:4<=nb)(b15:nb<=15)(hMid:dQ nb m a T)(hTx:dS v B nd fun d=>cC nb (a d))(hI:bO N N v sv T)(hr:r.Ok N v)(hm:m+r.n<=2199023255552) :
  aI Tryz.prog 22 #[.slice (some ⟨B,0,none⟩) nd c,sv,.agg r.agg] S v fun x S' v'=>Kp v (fun _=>False) v'∧∃ g mv a' Ts T0,x=.tuple #[.slice (some ⟨g,0,none⟩) nd nd,mv,.bool true]∧dS v' g nd (fun d=>cC nb (a' d))∧dE N N v' mv Ts∧T0∈Ts∧(Ts.length=1∨Ts.length=2)∧dQ nb (m+r.n) a' T0:=by
 refine jV Tryz.func22 rfl Tryz.ntmps22 fun Stop cc cs ret f g0 g1 g2=>?_
 repeat refine rN ?_
 refine bJ (Q:=fun y w=>y=.pointer (some ⟨v.heap.size,0,none⟩)∧Ext v w∧w.heap[v.heap.size]?=some (.cells r.agg 60)) aB rfl rfl (by kernel_rfl) (fun u hu=>⟨_,_,.inl (fW (x:=.tmp 2) (y:=.agg r.agg) rfl (by simp[g2]) u),by rw[hu.heap],(Ext.twin hu).trans _ _ _ (Ext.alloc _ _),by rw[<-hu.heap];exact cF _ _⟩) ?_
 rintro _ w1 ⟨rfl,hE1,hb1⟩;simp only[stO_some];obtain⟨bx,hbx⟩:∃ bx,bx=v.heap.size:=⟨_,rfl⟩;rw[<-hbx]at hb1 ⊢;have hN1:N<=w1.heap.size:=Nat.le_trans hN hE1.size;have hg1:Tryz.prog.globals.size<=w1.heap.size:=Nat.le_trans hg hE1.size;have hbv:w1.cell? ⟨bx,0,none⟩=some (.slice r.p r.n r.cap):=(cell_of_row _ _ _ _ _ _ hb1).trans rfl;have hbw:w1.cell? ⟨bx,1,none⟩=some (.int .i64 r.wr):=(cell_of_row _ _ _ _ _ _ hb1).trans rfl;have hI1:=hI.kp0 (bF hE1);have hr1:=hr.acts.kp (eF _ v) (bF hE1);have hTx1:=hTx.ext hE1;have hwk:=jW r.wr (n:=60) (by omega);obtain⟨lb,Gf,E,hW⟩:=hMid.texts (wr:=cX r.wr 60);have hO:TextsOk nd nb fun d=>cC nb (a d):=⟨fun j _=>.inr (oR _ _),0,by omega,oR _ _⟩
 generalize (fun d=>cC nb (a d))=Tx at hTx1 hW hO;have hg01:=hE1.cell hg0;clear hI hTx hb1 hbx;repeat refine rN ?_
 refine rK Tryz.func8 (qF t e hg01 hg1 B c 1099511627776 Tx lb Gf (Nat.le_refl _) b4 n14 n18 (by omega) hO hTx1 hW.slot) ?_;rintro _ S5 w5 _ ⟨hK5,X,D,DB,DA,M,RB,RA,L,turn,rfl,hSv,hX,hown⟩;have hTx5:dS w5 B nd Tx:=fun j hj=>hK5.cell (fun h=>h) (hTx1 j hj)
 have hbw5:=hK5.cell (fun h=>h) hbw;repeat refine rM hbw5 ?_
 refine rK Tryz.func16 (mQ r.wr 60 (by omega) (by omega) hr.lo hr.hi) ?_;rintro _ S4 w4 _ ⟨rfl,eS,eW⟩;subst S4 w4;generalize cX r.wr 60=wr at hwk hW;repeat refine rN ?_
 refine rK Tryz.func8 (qF t e (hK5.cell (fun h=>h) hg01) (Nat.le_trans hg1 hK5.size) B c wr Tx lb Gf (by omega) b4 n14 n18 (by omega) hO hTx5 hW.slot) ?_;rintro _ S6 w6 _ ⟨hK6,X',D',DB',DA',M',RB',RA',L',turn',rfl,hSv',hX',hown'⟩;obtain⟨hD,hfl⟩:=hW.duo (n:=549755813888+42*r.n) hSv hX hown hSv' hX' hown' hK5.size hK6 (by have:=hr.n;omega);generalize cD (aR Tx 1099511627776) (aS L) nb=s at hD hfl;generalize cD (aR Tx wr) (aS L') nb=t1 at hD hfl;have hz:=hD.hs.rep.size hD.hs.st.ent;have hT6:=hD.hs.rep.len6 hD.hs.few;have hKw6:Kp w1 (fun _=>False) w6:=hK5.trans hK6;have hI6:=hI1.kp0 hKw6;clear hSv hX hSv' hX' hown hown' hTx5 hK5 hK6 hW hO hTx1 hI1;repeat refine rN ?_
 refine rZ (by simp[Act.eval]) ?_;repeat refine rN ?_
 obtain⟨is,zz,is1,is2,is3,is4,is5⟩:=Hm;refine bJ (Q:=fun x w7=>x=.slice (some ⟨w6.heap.size,0,none⟩) 1 1∧Ext w6 w7∧w7.heap[w6.heap.size]?=some (.cells #[sv] 25)) aB rfl rfl (by kernel_rfl) (fun u hu=>⟨_,_,.inl (tQ (x:=.tmp 29) (y:=sv) rfl Tryz.underlying44 is1 is2 is3 is5 (by simp[g1]) (hI6.one) u),by rw[hu.heap],(Ext.twin hu).trans _ _ _ (Ext.alloc _ _),by rw[<-hu.heap];exact cF _ _⟩) ?_
 rintro _ w7 ⟨rfl,hE7,hr7⟩;simp only[stO_some];have hI7:=hI6.kp0 (bF hE7);have hM7:dE N w1.heap.size w7 (.slice (some ⟨w6.heap.size,0,none⟩) 1 1) [T]:=dE.one hr7 hKw6.size hI7 hz hT6;have hD7:=hD.kp0 (bF hE7);have hKw7:=hKw6.ext hE7;clear hD hI6 hKw6 hr7 hE7;repeat refine rN ?_
 refine rK Tryz.func10 (mN b4 n14 n18 (by omega) hD7.hs.st) ?_;rintro _ S8 w8 _ ⟨e1,hE8,gs,rfl,hgs,hTs⟩;subst S8;have hD8:=hD7.kp0 (bF hE8);repeat refine rN ?_
 refine rK Tryz.func10 (mN b4 n14 n18 (by omega) hD8.ht.st) ?_;rintro _ S9 w9 _ ⟨e1,hE9,gt,rfl,hgt,hTt⟩;subst S9;repeat refine rN ?_
 refine rK Tryz.func17 (Gk gs gt nd nd nd (fun d=>cC nb (s.a d)) (fun d=>cC nb (t1.a d)) n18 (hTs.ext hE9) hTt) ?_;rintro _ S10 w10 _ ⟨e1,e2,bb,rfl,hbb⟩;subst S10 w10;have hSn:=hfl bb hbb n14;have hE89:=hE8.trans _ _ _ hE9;have hD9:=hD8.kp0 (bF hE9);have hM9:=hM7.kp0 (bF hE89);have hI9:=hI7.kp0 (bF hE89);have hKw9:=hKw7.ext hE89;clear hfl hbb hTs hTt hD7 hD8 hM7 hI7 hE8 hE9 hE89 hKw7;repeat refine rN ?_
 refine Oj (v:=w1) T sv _ N hN1 hg1 n14 n18 b4 b15 hKw9 bx r.p r.n r.cap r.A hbv hr1 hr.n hm hD9 hSn hM9 hI9 (by simp) (by simp) (by simp[g1]) (by simp) (by simp) (by simp) (by simp) fun f1 S11 w11 turn s t1 L L' T lost Ts sv mv hK11 hD11 hS11 hM11 hI11 q10 q11=>?_
 obtain⟨⟨T0,hT0,hMid'⟩,hlen⟩:=hS11.mid hD11 (by omega);repeat refine rN ?_
 refine rK Tryz.func10 (mN b4 n14 n18 (by omega) hD11.ht.st) ?_;rintro _ S12 w12 _ ⟨e1,hE12,gt,rfl,hgt,hTt⟩;subst S12;repeat refine rN ?_
 refine aO fun todo=>?_
 refine ret _ _ _ w12 (.tuple #[.slice (some ⟨gt,0,none⟩) nd nd,mv,.bool true]) ?_ ⟨?_,gt,mv,t1.a,Ts,T0,rfl,hTt,((hM11.kp0 (bF hE12)).lower hN1),hT0,hlen,hMid'⟩
 .simp[results,Tryz.results22,q11]
 .exact(((Kp.refl v fun _=>False).ext hE1).trans hK11).ext hE12
end
