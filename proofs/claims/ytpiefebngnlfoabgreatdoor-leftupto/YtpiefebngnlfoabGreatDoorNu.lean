import Derived.Test.YtpiefebngnlfoabGreatDoorNt
import Derived.Test.YtpiefebngnlfoabGreatDoorNq
set_option maxRecDepth 99999
set_option maxHeartbeats 0
set_option linter.unusedVariables false
set_option linter.unusedSimpArgs false
namespace Go.Proofs.YtpiefebngnlfoabGreatDoor
open Go.RowKit Go.Conc Go.Vw
theorem cX.le{lost:Bool}{nb m m':Nat}{t:Dsk}{Ts:List (List It)}{T:List It}(h:cX lost nb m t Ts T)(hm:m<=m'):cX lost nb m' t Ts T:=by
 unfold cX at h ⊢;split
 .rename_i q;rw[if_pos q]at h;obtain⟨h1,⟨T0,h2,h3⟩,h4⟩:=h;exact⟨h1,⟨T0,h2,h3.le hm⟩,h4⟩
 .rename_i q;rw[if_neg q]at h;exact h
theorem cX.not{nb m:Nat}{t:Dsk}{Ts:List (List It)}{T:List It}(h:cX false nb m t Ts T):t.a=t.c∧Ts=[T]:=by
 unfold cX at h;rwa [if_neg (by decide)]at h
section
variable {w w' v:World}{S:Nat->Prop}
theorem zaD{f:Nat->Value}{Stop:Goroutine->(Nat->Prop)->World->Prop}{cs:List Frame}{k0:List Item}{X D DB DA M X' D' DB' DA' M':Nat}{RB RA RB' RA':Nat->Nat}{nd nb turn wr m n:Nat}{s t:Dsk}{L L':List Ent}{c0:Nat->Nat->Nat->Nat}{lost:Bool}{Ts:List (List It)}(T:List It)(sv mv x5 x6 x17 x18:Value)(N:Nat)(hN:N<=v.heap.size)(hg:Tryz.prog.globals.size<=v.heap.size)(n14:14<=nd)(n18:nd<=18)(b4:4<=nb)(b15:nb<=15)(hK:Kp v (fun _=>False) w)(B off na cap j:Nat)(A:Nat->Ac)(hlt:j<na)(hBN:B<N)(hcell:∀ k y,(A j).agg[k]?=some y->w.cell? ⟨B,off+j*3+k,none⟩=some y)(haOk:(A j).Ok N w)(hm:m<=4194304)
  (hD:Duo v.heap.size nd nb (n+42) m wr c0 X D DB DA M X' D' DB' DA' M' RB RA RB' RA' turn s t L L' T w) (hM:dB N v.heap.size w mv Ts) (hI:aV N N w sv T)
  (g3:f 3=.slice (some ⟨B,off,none⟩) na cap) (g5:f 5=x5) (g6:f 6=x6) (g15:f 15=.pointer (some ⟨X,0,none⟩)) (g16:f 16=sv) (g17:f 17=x17) (g18:f 18=x18) (g19:f 19=.pointer (some ⟨X',0,none⟩)) (g20:f 20=mv) (g21:f 21=.bool lost) (g22:f 22=.int .i64 (j:Nat))
  (next:∀ f' S' w' err turn1 s1 t2 L1 L2 y,Kp v (fun _=>False) w'->Duo v.heap.size nd nb n (m+1) wr c0 X D DB DA M X' D' DB' DA' M' RB RA RB' RA' turn1 s1 t2 L1 L2 (if err=0 then bJ (A j).it (A j).gone T else T) w'->dB N v.heap.size w' mv Ts->aV N N w' y (if err=0 then bJ (A j).it (A j).gone T else T)->(∀ x∈(if err=0 then bJ (A j).it (A j).gone T else T),x.size<=400)->(if err=0 then bJ (A j).it (A j).gone T else T).length<=6->(∀ Ts,cX true nb m t Ts T->cX true nb (m+1) t2 Ts (if err=0 then bJ (A j).it (A j).gone T else T))->(t.a=t.c->∀ b:Bool,(b=true↔∀ d,d<nd->bS nb (s1.a d)=bS nb (t2.a d))->14<=nd->cX (!b) nb (m+1) t2 (if b=true then [(if err=0 then bJ (A j).it (A j).gone T else T)] else [T,(if err=0 then bJ (A j).it (A j).gone T else T)]) (if err=0 then bJ (A j).it (A j).gone T else T))->f' 3=.slice (some ⟨B,off,none⟩) na cap->f' 5=x5->f' 6=x6->f' 15=.pointer (some ⟨X,0,none⟩)->f' 16=y->f' 17=x17->f' 18=x18->f' 19=.pointer (some ⟨X',0,none⟩)->f' 20=mv->f' 21=.bool lost->f' 22=.int .i64 (j:Nat)->Vw.Reach Tryz.prog Stop (G ((base 4).at ⟨TA 241 f',[]⟩ (.code (sq 4 ((jV 1 (LB Tryz.f4)).getD .skip)) :: k0)) cs) S' w') :
  Vw.Reach Tryz.prog Stop (G ((base 4).at ⟨TA 241 f,[]⟩ (.code ((jV 1 (LB Tryz.f4)).getD .skip) :: k0)) cs) S w:=by
 have e0:jV 1 (LB Tryz.f4)=some _:=rfl;rw[e0]at next ⊢
 simp only[sq,Option.getD_some]at next ⊢
 clear e0;have hjI:(j:Int)<(na:Int):=by omega
 have htu:=hD.hs.turn;repeat refine rN ?_
 refine cH aB rfl rfl (by kernel_rfl) (fun u hu=>qO (b:=B) (off:=off+j*3) (x:=.tmp 79) (c:=A j) rfl (by simp) fun k y hy=>(Ext.twin hu).cell (hcell k y hy)) ?_
 simp only[stO_some];refine rK Tryz.func18 (Af N (A j) haOk (Nat.le_trans hg hK.size) (by omega) b4 n14 n18 (by omega) hD.hs.len hD.hs.st) ?_;rintro _ S1 w1 _ ⟨err,s1,L1,turn1,rfl,hd1,hK1,hX1⟩;have hO1:=hD.hs.off.le hN;have ht1:=hD.ht.st.two hD.hs.st (fun b h1 h2=>hD.ap b h2 h1) hK1;have hM1:=hM.kpS hD.hs.st (fun b hb=>Nat.le_trans hN (hD.hs.own b hb)) hK1;have hI1:=hI.kp hO1 hK1;have ha1:=haOk.kp hO1 hK1;have hc1:∀ k y,(A j).agg[k]?=some y->w1.cell? ⟨B,off+j*3+k,none⟩=some y:=fun k y hy=>hK1.cell (fun hb=>by have:=hD.hs.own B hb;omega) (hcell k y hy)
 have hKv1:Kp v (fun _=>False) w1:=lT ((hK.mono fun _ h=>h.elim).trans hK1) hD.hs.own
 clear hO1 hcell haOk hM hI;repeat refine rN ?_
 refine cH aB rfl rfl (by kernel_rfl) (fun u hu=>qO (b:=B) (off:=off+j*3) (x:=.tmp 85) (c:=A j) rfl (by simp) fun k y hy=>(Ext.twin hu).cell (hc1 k y hy)) ?_
 simp only[stO_some];refine rK Tryz.func18 (Af N (A j) ha1 (Nat.le_trans hg hKv1.size) (by omega) b4 n14 n18 (by omega) hD.ht.len ht1) ?_;rintro _ S2 w2 _ ⟨err',t2,L2,turn2,rfl,hd2,hK2,hX2⟩;have hO2:gW N w1 (bN X' D' M' RB' RA' nd):=bN.off ht1 fun b hb=>Nat.le_trans hN (hD.ht.own b hb)
 obtain⟨he5,_,_⟩:=dM.err hd1;obtain⟨ee,hD2,hSt1,hSt2⟩:=hD.act hd1 hX1 hd2 hK2 ht1 hX2 (by omega) ha1.val;replace ee:=ee.symm;subst ee;have hM2:=hM1.kpS ht1 (fun b hb=>Nat.le_trans hN (hD.ht.own b hb)) hK2;have hI2:=hI1.kp hO2 hK2;have ha2:=ha1.kp hO2 hK2;have hc2:∀ k y,(A j).agg[k]?=some y->w2.cell? ⟨B,off+j*3+k,none⟩=some y:=fun k y hy=>hK2.cell (fun hb=>by have:=hD.ht.own B hb;omega) (hc1 k y hy)
 have hKv2:Kp v (fun _=>False) w2:=lT ((hKv1.mono fun _ h=>h.elim).trans hK2) hD.ht.own
 have hT6:=hD.hs.rep.len6 hD.hs.few;have hz2:=hD2.hs.rep.size hD2.hs.st.ent;have hT62:=hD2.hs.rep.len6 hD2.hs.few;clear hd1 hX1 hd2 hX2 hc1 hM1 hI1 ha1 ht1 hK1 hK2 hO2 hKv1;repeat refine rN ?_
 refine rZ (by simp[Act.eval]) ?_;repeat refine rN ?_
 refine cH aB rfl rfl (by kernel_rfl) (fun u hu=>qO (b:=B) (off:=off+j*3) (x:=.tmp 94) (c:=A j) rfl (by simp) fun k y hy=>(Ext.twin hu).cell (hc2 k y hy)) ?_
 simp only[stO_some];repeat refine rN ?_
 refine rK Tryz.func19 (Ib N (Nat.le_trans hN hKv2.size) T sv (A j) err (by omega) hI2 ha2 (by omega)) ?_;rintro y S3 w3 _ ⟨eS,hE3,hI3⟩;subst S3;have hD3:=hD2.kp0 (aX hE3);have hM3:=hM2.kp0 (aX hE3);have hKv3:=hKv2.ext hE3;clear hD2 hM2 hKv2 hc2 ha2 hI2;refine rY aB ?_;refine rE ?_;exact next _ _ w3 err turn1 s1 t2 L1 L2 y hKv3 hD3 hM3 hI3 hz2 hT62 hSt1 hSt2 (by simp[g3]) (by simp[g5]) (by simp[g6]) (by simp[g15]) (by simp) (by simp[g17]) (by simp[g18]) (by simp[g19]) (by simp[g20]) (by simp[g21]) (by simp[g22])
theorem zaC{f:Nat->Value}{Stop:Goroutine->(Nat->Prop)->World->Prop}{cs:List Frame}{k0:List Item}{X D DB DA M X' D' DB' DA' M':Nat}{RB RA RB' RA':Nat->Nat}{nd nb turn wr m n:Nat}{s t:Dsk}{L L':List Ent}{c0:Nat->Nat->Nat->Nat}{lost:Bool}{Ts:List (List It)}(T:List It)(sv mv x5 x6 x17 x18:Value)(N:Nat)(hN:N<=v.heap.size)(hg:Tryz.prog.globals.size<=v.heap.size)(n14:14<=nd)(n18:nd<=18)(b4:4<=nb)(b15:nb<=15)(hK:Kp v (fun _=>False) w){T0:List It}{m0:Nat}{t0:Dsk}(B off na cap j:Nat)
  (hD:Duo v.heap.size nd nb n m wr c0 X D DB DA M X' D' DB' DA' M' RB RA RB' RA' turn s t L L' T w) (hM:dB N v.heap.size w mv Ts) (hI:aV N N w sv T) (hz:∀ x∈T,x.size<=400) (hl:T.length<=6) (hS:cX lost nb m0 t0 Ts T0) (hS1:∀ Ts,cX true nb m0 t0 Ts T0->cX true nb m t Ts T) (hS2:t0.a=t0.c->∀ b:Bool,(b=true↔∀ d,d<nd->bS nb (s.a d)=bS nb (t.a d))->14<=nd->cX (!b) nb m t (if b=true then [T] else [T0,T]) T)
  (g3:f 3=.slice (some ⟨B,off,none⟩) na cap) (g5:f 5=x5) (g6:f 6=x6) (g15:f 15=.pointer (some ⟨X,0,none⟩)) (g16:f 16=sv) (g17:f 17=x17) (g18:f 18=x18) (g19:f 19=.pointer (some ⟨X',0,none⟩)) (g20:f 20=mv) (g21:f 21=.bool lost) (g22:f 22=.int .i64 (j:Nat))
  (next:∀ f' S' w' lost' Ts' mv',Kp v (fun _=>False) w'->Duo v.heap.size nd nb n m wr c0 X D DB DA M X' D' DB' DA' M' RB RA RB' RA' turn s t L L' T w'->dB N v.heap.size w' mv' Ts'->aV N N w' sv T->cX lost' nb m t Ts' T->f' 3=.slice (some ⟨B,off,none⟩) na cap->f' 5=x5->f' 6=x6->f' 15=.pointer (some ⟨X,0,none⟩)->f' 16=sv->f' 17=x17->f' 18=x18->f' 19=.pointer (some ⟨X',0,none⟩)->f' 20=mv'->f' 21=.bool lost'->f' 22=.int .i64 (j:Nat)->Vw.Reach Tryz.prog Stop (G ((base 4).at ⟨TA 241 f',[]⟩ (k0)) cs) S' w') :
  Vw.Reach Tryz.prog Stop (G ((base 4).at ⟨TA 241 f,[]⟩ (.code (sq 4 ((jV 1 (LB Tryz.f4)).getD .skip)) :: .inBlock 1 :: k0)) cs) S w:=by
 obtain⟨is,zz,is1,is2,is3,is4,is5⟩:=Ht;have e0:jV 1 (LB Tryz.f4)=some _:=rfl;rw[e0];simp only[sq,Option.getD_some];clear e0;cases lost with
 |true=>
  repeat refine rN ?_
  refine rX (by simp[Act.eval,g21]) ?_;refine bD rfl ?_;exact next _ _ w true Ts mv hK hD hM hI (hS1 Ts hS) (by simp[g3]) (by simp[g5]) (by simp[g6]) (by simp[g15]) (by simp[g16]) (by simp[g17]) (by simp[g18]) (by simp[g19]) (by simp[g20]) (by simp[g21]) (by simp[g22])
 |false=>
  obtain⟨hac,hTs⟩:=hS.not;subst hTs;have hSt:=hS2 hac;clear hS1 hS2 hac hS;repeat refine rN ?_
  refine rZ (by simp[Act.eval,g21]) ?_;repeat refine rN ?_
  refine rK Tryz.func10 (kB b4 n14 n18 (by omega) hD.hs.st) ?_;rintro _ S4 w4 _ ⟨e1,hE4,gs,rfl,hgs,hTs⟩;subst S4;have hD4:=hD.kp0 (aX hE4);repeat refine rN ?_
  refine rK Tryz.func10 (kB b4 n14 n18 (by omega) hD4.ht.st) ?_;rintro _ S5 w5 _ ⟨e1,hE5,gt,rfl,hgt,hTt⟩;subst S5;repeat refine rN ?_
  refine rK Tryz.func17 (Gq gs gt nd nd nd (fun d=>bS nb (s.a d)) (fun d=>bS nb (t.a d)) n18 (hTs.ext hE5) hTt) ?_;rintro _ S6 w6 _ ⟨e1,e2,bb,rfl,hbb⟩;subst S6 w6;have hSn:=hSt bb hbb n14;have hE45:=hE4.trans _ _ _ hE5;have hD5:=hD4.kp0 (aX hE5);have hM5:=hM.kp0 (aX hE45);have hI5:=hI.kp0 (aX hE45);have hKv5:=hK.ext hE45;clear hSt hbb hTs hTt hD hD4 hM hI hE4 hE5 hE45;cases bb with
  |true=>
   repeat refine rN ?_
   refine rZ (by simp[Act.eval]) ?_;repeat refine rN ?_
   refine bO (Q:=fun x w2=>x=.slice (some ⟨w5.heap.size,0,none⟩) 1 1∧Ext w5 w2∧w2.heap[w5.heap.size]?=some (.cells #[sv] 25)) aB rfl rfl (by kernel_rfl) (fun u hu=>⟨_,_,.inl (tQ (x:=.tmp 110) (y:=sv) rfl Tryz.underlying44 is1 is2 is3 is5 (by simp) (hI5.one) u),by rw[hu.heap],(Ext.twin hu).trans _ _ _ (Ext.alloc _ _),by rw[<-hu.heap];exact cI _ _⟩) ?_
   rintro _ w7 ⟨rfl,hE7,hr7⟩;simp only[stO_some];have hI7:=hI5.kp0 (aX hE7);refine rY aB ?_;refine rE ?_;refine rQ rfl ?_;exact next _ _ w7 false [T] _ (hKv5.ext hE7) (hD5.kp0 (aX hE7)) (dB.one hr7 hKv5.size hI7 hz hl) hI7 hSn (by simp[g3]) (by simp[g5]) (by simp[g6]) (by simp[g15]) (by simp[g16]) (by simp[g17]) (by simp[g18]) (by simp[g19]) (by simp) (by simp) (by simp[g22])
  |false=>
   repeat refine rN ?_
   refine rX (by simp[Act.eval]) ?_;repeat refine rN ?_
   refine bO (Q:=fun x w2=>x=.slice (some ⟨w5.heap.size,0,none⟩) 1 1∧Ext w5 w2∧w2.heap[w5.heap.size]?=some (.cells #[sv] 25)) aB rfl rfl (by kernel_rfl) (fun u hu=>⟨_,_,.inl (tQ (x:=.tmp 107) (y:=sv) rfl Tryz.underlying44 is1 is2 is3 is5 (by simp) (hI5.one) u),by rw[hu.heap],(Ext.twin hu).trans _ _ _ (Ext.alloc _ _),by rw[<-hu.heap];exact cI _ _⟩) ?_
   rintro _ w7 ⟨rfl,hE7,hr7⟩;simp only[stO_some];have hI7:=hI5.kp0 (aX hE7);obtain⟨svs,ho,hIs⟩:=hM5.kp0 (aX hE7);refine bO aB rfl rfl (by kernel_rfl) (fun u hu=>qC (s:=.tmp 106) (x:=.tmp 108) (ad:=⟨w5.heap.size,0,none⟩) (m:=1) (c:=1) (news:=[sv]) hu v.heap.size Tryz.underlying44 is1 is2 is3 is4 (by rw[is5];rfl) ho rfl (Et hr7) (fun y hy=>by rw[List.mem_singleton]at hy;subst hy;exact hI5.cell1) (by show 1+1<=100000;omega) (by omega) (Nat.le_trans hKv5.size hE7.size) rfl (by simp[g20]) (by simp)) ?_;rintro mv' w8 ⟨ho8,hg8,_⟩;simp only[stO_some];obtain⟨hM8,g,C,fr,hgC,hgN,hK8⟩:=dB.two hN ho (fun sv' h=>hIs 0 sv' T0 h rfl) hI7 hz hl ho8 hg8;have hKv8:Kp v (fun _=>False) w8:=lT (((hKv5.ext hE7).mono fun _ h=>h.elim).trans hK8) (by rintro b rfl;exact hgN)
   have hD7:=hD5.kp0 (aX hE7);have hD8:Duo v.heap.size nd nb n m wr c0 X D DB DA M X' D' DB' DA' M' RB RA RB' RA' turn s t L L' T w8:=⟨⟨hD7.hs.st.kpB hgC hK8,hD7.hs.own,hD7.hs.neat,hD7.hs.few,hD7.hs.len,hD7.hs.kept,hD7.hs.turn,hD7.hs.rep⟩,hD7.ht.put (hD7.ht.st.kpB hgC hK8),hD7.hc,hD7.tw,hD7.ap,hD7.wrs⟩;refine rY aB ?_;refine rE ?_;refine rQ rfl ?_;exact next _ _ w8 true [T0,T] _ hKv8 hD8 hM8 (hI7.kp (Ev hgC (Nat.le_trans hN hgN)) hK8) hSn (by simp[g3]) (by simp[g5]) (by simp[g6]) (by simp[g15]) (by simp[g16]) (by simp[g17]) (by simp[g18]) (by simp[g19]) (by simp) (by simp) (by simp[g22])
theorem Sm{f:Nat->Value}{Stop:Goroutine->(Nat->Prop)->World->Prop}{cs:List Frame}{k0:List Item}{X D DB DA M X' D' DB' DA' M':Nat}{RB RA RB' RA':Nat->Nat}{nd nb turn wr m:Nat}{s t:Dsk}{L L':List Ent}{c0:Nat->Nat->Nat->Nat}{lost:Bool}{Ts:List (List It)}(T:List It)(sv mv x5 x6 x17 x18:Value)(N:Nat)(hN:N<=v.heap.size)(hg:Tryz.prog.globals.size<=v.heap.size)(n14:14<=nd)(n18:nd<=18)(b4:4<=nb)(b15:nb<=15)(hKv:Kp v (fun _=>False) w)(p:Option Addr)(na cap:Nat)(A:Nat->Ac)(hA:iY N v p na A)(hna:na<=1048576)(hm:m<=2097152)
  (hD:Duo v.heap.size nd nb (549755813888+42*na) m wr c0 X D DB DA M X' D' DB' DA' M' RB RA RB' RA' turn s t L L' T w) (hS:cX lost nb m t Ts T) (hM:dB N v.heap.size w mv Ts) (hI:aV N N w sv T)
  (g3:f 3=.slice p na cap) (g5:f 5=x5) (g6:f 6=x6) (g15:f 15=.pointer (some ⟨X,0,none⟩)) (g16:f 16=sv) (g17:f 17=x17) (g18:f 18=x18) (g19:f 19=.pointer (some ⟨X',0,none⟩)) (g20:f 20=mv) (g21:f 21=.bool lost) (g22:f 22=.int .i64 0)
  (next:∀ f' S' w' turn s t L L' T lost Ts sv mv,Kp v (fun _=>False) w'->Duo v.heap.size nd nb 549755813888 4194304 wr c0 X D DB DA M X' D' DB' DA' M' RB RA RB' RA' turn s t L L' T w'->cX lost nb 4194304 t Ts T->dB N v.heap.size w' mv Ts->aV N N w' sv T->f' 5=x5->f' 6=x6->f' 15=.pointer (some ⟨X,0,none⟩)->f' 16=sv->f' 17=x17->f' 18=x18->f' 19=.pointer (some ⟨X',0,none⟩)->f' 20=mv->Vw.Reach Tryz.prog Stop (G ((base 4).at ⟨TA 241 f',[]⟩ k0) cs) S' w') :
  Vw.Reach Tryz.prog Stop (G ((base 4).at ⟨TA 241 f,[]⟩ (.code (pA 0 (LB Tryz.f4)) :: .inBlock 0 :: k0)) cs) S w:=by
 have e:pA 0 (LB Tryz.f4)=.loop _:=rfl;rw[e];clear e;refine bT (fun d f' S' w'=>∃ j turn s t L L' T lost Ts sv mv,d=na - j∧j<=na∧Kp v (fun _=>False) w'∧Duo v.heap.size nd nb (549755813888+42*(na - j)) (m+j) wr c0 X D DB DA M X' D' DB' DA' M' RB RA RB' RA' turn s t L L' T w'∧cX lost nb (m+j) t Ts T∧dB N v.heap.size w' mv Ts∧aV N N w' sv T∧f' 3=.slice p na cap∧f' 5=x5∧f' 6=x6∧f' 15=.pointer (some ⟨X,0,none⟩)∧f' 16=sv∧f' 17=x17∧f' 18=x18∧f' 19=.pointer (some ⟨X',0,none⟩)∧f' 20=mv∧f' 21=.bool lost∧f' 22=.int .i64 (j:Nat)) na ⟨0,turn,s,t,L,L',T,lost,Ts,sv,mv,by omega,by omega,hKv,hD,hS,hM,hI,g3,g5,g6,g15,g16,g17,g18,g19,g20,g21,by simp[g22]⟩ ?_;clear g3 g5 g6 g15 g16 g17 g18 g19 g20 g21 g22 f hI hM hS hD hKv s t L L' T sv mv turn lost Ts;rintro d f S' w ⟨j,turn,s,t,L,L',T,lost,Ts,sv,mv,rfl,hj,hK,hD,hS,hM,hI,g3,g5,g6,g15,g16,g17,g18,g19,g20,g21,g22⟩ nxt;repeat refine rN ?_
 by_cases hlt:j<na
 .have hjI:(j:Int)<(na:Int):=by omega
  obtain⟨⟨B,off,rfl,hBN,hcell⟩,haOk⟩:=(hA.kp (eM _ v) hK) j hlt;refine rX (by simp[Act.eval,g22,g3,hjI,hlt]) ?_;refine rQ rfl ?_;refine rQ rfl ?_;refine rQ rfl ?_;refine zaD (lost:=lost) T sv mv x5 x6 x17 x18 N hN hg n14 n18 b4 b15 hK B off na cap j A hlt hBN hcell haOk (by omega) (hD.le (n':=549755813888+42*(na - (j+1))+42) (by omega) (Nat.le_refl _)) hM hI (by simp[g3]) (by simp[g5]) (by simp[g6]) (by simp[g15]) (by simp[g16]) (by simp[g17]) (by simp[g18]) (by simp[g19]) (by simp[g20]) (by simp[g21]) (by simp[g22]) fun f1 S1 w1 err turn1 s1 t2 L1 L2 y hK1 hD1 hM1 hI1 hz1 hl1 hSt1 hSt2 q3 q5 q6 q15 q16 q17 q18 q19 q20 q21 q22=>?_
  clear g3 g5 g6 g15 g16 g17 g18 g19 g20 g21 g22 hD hM hI hK;refine zaC _ y mv x5 x6 x17 x18 N hN hg n14 n18 b4 b15 hK1 B off na cap j hD1 hM1 hI1 hz1 hl1 hS hSt1 hSt2 q3 q5 q6 q15 q16 q17 q18 q19 q20 q21 q22 fun f2 S2 w2 lost' Ts' mv' hK2 hD2 hM2 hI2 hS2 g3 g5 g6 g15 g16 g17 g18 g19 g20 g21 g22=>?_
  repeat refine rN ?_
  exact nxt _ _ _ (na - (j+1)) (by omega) ⟨j+1,turn1,s1,t2,L1,L2,_,lost',Ts',y,mv',rfl,by omega,hK2,hD2,hS2,hM2,hI2,by simp[g3],by simp[g5],by simp[g6],by simp[g15],by simp[g16],by simp[g17],by simp[g18],by simp[g19],by simp[g20],by simp[g21],by simp⟩
 .obtain rfl:j=na:=by omega
  refine rZ (by simp[Act.eval,g22,g3]) ?_;refine bD rfl ?_;exact next _ _ _ turn s t L L' T lost Ts sv mv hK (hD.le (by omega) (by omega)) (hS.le (by omega)) hM hI (by simp[g5]) (by simp[g6]) (by simp[g15]) (by simp[g16]) (by simp[g17]) (by simp[g18]) (by simp[g19]) (by simp[g20])
end
