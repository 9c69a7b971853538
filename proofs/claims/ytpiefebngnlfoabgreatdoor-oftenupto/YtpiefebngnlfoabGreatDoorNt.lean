import Derived.Test.YtpiefebngnlfoabGreatDoorNm
import Derived.Test.YtpiefebngnlfoabGreatDoorNn
set_option maxRecDepth 99999
set_option maxHeartbeats 0
set_option linter.unusedVariables false
set_option linter.unusedSimpArgs false
namespace Go.Proofs.YtpiefebngnlfoabGreatDoor
open Go.RowKit Go.Conc Go.Vw
def dE(N base:Nat)(w:World)(mv:Value)(Ts:List (List It)):Prop:=∃ svs:List Value,w.ownsRow base 25 1 mv Ts.length svs∧∀ (i:Nat) sv T,svs[i]?=some sv->Ts[i]?=some T->bO N N w sv T∧(∀ x∈T,x.size<=400)∧T.length<=6
section
variable {X D DB DA M X' D' DB' DA' M':Nat}{RB RA RB' RA':Nat->Nat}{nd nb turn turn' N n m wr:Nat}{s t s' t':Dsk}{L L' L1 L1':List Ent}{T:List It}{w w' w1 w2 v:World}{S:Nat->Prop}{c:Nat->Nat->Nat->Nat}
theorem dE.kp{B0:Nat}{Y:Nat->Prop}{mv:Value}{Ts:List (List It)}(h:dE N B0 w mv Ts)(hY:gJ N w Y)(hY2:∀ b,Y b->∀ C fr,w.heap[b]?≠some (.cells C 25 fr))(hK:Kp w Y w'):dE N B0 w' mv Ts:=by
 obtain⟨svs,ho,hI⟩:=h;refine⟨svs,⟨ho.1,ho.2.imp id fun⟨b,cap,cur,q1,q2,q3,q4⟩=>⟨b,cap,cur,q1,q2,hK.cells _ _ _ _ (fun hy=>hY2 b hy _ _ q3) q3,q4⟩⟩,fun i sv T h1 h2=>?_⟩
 obtain⟨a1,a2⟩:=hI i sv T h1 h2;exact⟨a1.kp hY hK,a2⟩
theorem dE.kp0{B0:Nat}{mv:Value}{Ts:List (List It)}(h:dE N B0 w mv Ts)(hK:Kp w (fun _=>False) w'):dE N B0 w' mv Ts:=h.kp (eF N w) (fun _ h=>h.elim) hK
theorem StE.noT(h:StE X D DB DA M RB RA nd nb turn s L w){ty:TypeId}(h1:ty≠76)(h2:ty≠104)(h3:ty≠107):∀ b,bU X D M RB RA nd b->∀ C fr,w.heap[b]?≠some (.cells C ty fr):=by
 rintro b (rfl|rfl|rfl|⟨d,hd,rfl|rfl⟩) C fr hq
 .rw[h.row]at hq;cases hq;exact h1 rfl
 .obtain⟨cl,hm,_⟩:=h.map;rw[hm]at hq;cases hq
 .rw[h.dk.row]at hq;cases hq;exact h2 rfl
 .rw[h.dk.rb d hd]at hq;cases hq;exact h3 rfl
 .rw[h.dk.ra d hd]at hq;cases hq;exact h3 rfl
theorem dE.lower{B0 B1:Nat}{mv:Value}{Ts:List (List It)}(h:dE N B0 w mv Ts)(hb:B1<=B0):dE N B1 w mv Ts:=let ⟨svs,ho,hI⟩:=h;⟨svs,Rw ho hb,hI⟩
theorem gJ.le{N':Nat}{Y:Nat->Prop}(h:gJ N w Y)(hn:N'<=N):gJ N' w Y:=fun b hb=>⟨Nat.le_trans hn (h b hb).1,(h b hb).2⟩
theorem dE.kpS{B0:Nat}{mv:Value}{Ts:List (List It)}(h:dE N B0 w mv Ts)(hX:StE X D DB DA M RB RA nd nb turn s L w)(hown:∀ b,bU X D M RB RA nd b->N<=b)(hK:Kp w (bU X D M RB RA nd) w'):dE N B0 w' mv Ts:=h.kp (bU.off hX hown) (hX.noT (by decide) (by decide) (by decide)) hK
theorem StE.two(h:StE X D DB DA M RB RA nd nb turn s L w)(h':StE X' D' DB' DA' M' RB' RA' nd nb turn' t L' w)(hap:∀ b,bU X D M RB RA nd b->¬bU X' D' M' RB' RA' nd b)(hK:Kp w (bU X' D' M' RB' RA' nd) w'):StE X D DB DA M RB RA nd nb turn s L w':=
 ⟨hK.cells _ _ _ _ (hap X (.inl rfl)) h.row,let ⟨cl,q1,q2⟩:=h.map;⟨cl,hK.objs _ _ (hap M (.inr (.inl rfl))) q1 trivial,q2⟩,h.dk.kp hK (hap D (.inr (.inr (.inl rfl)))) (fun q=>h'.noT (ty:=105) (by decide) (by decide) (by decide) DB q _ _ h.dk.db) (fun q=>h'.noT (ty:=105) (by decide) (by decide) (by decide) DA q _ _ h.dk.da) fun d hd=>⟨hap _ (.inr (.inr (.inr ⟨d,hd,.inl rfl⟩))),hap _ (.inr (.inr (.inr ⟨d,hd,.inr rfl⟩)))⟩,h.ent,h.ids,h.slots,h.borns⟩
theorem StE.lt(h:StE X D DB DA M RB RA nd nb turn s L w):∀ b,bU X D M RB RA nd b->b<w.heap.size:=by
 rintro b (rfl|rfl|rfl|⟨d,hd,rfl|rfl⟩)
 .exact(Array.getElem?_eq_some_iff.1 h.row).1
 .obtain⟨cl,hm,_⟩:=h.map;exact(Array.getElem?_eq_some_iff.1 hm).1
 .exact(Array.getElem?_eq_some_iff.1 h.dk.row).1
 .exact(Array.getElem?_eq_some_iff.1 (h.dk.rb d hd)).1
 .exact(Array.getElem?_eq_some_iff.1 (h.dk.ra d hd)).1
end
structure Duo(N nd nb n m wr:Nat)(c0:Nat->Nat->Nat->Nat)(X D DB DA M X' D' DB' DA' M':Nat)(RB RA RB' RA':Nat->Nat)(turn:Nat)(s t:Dsk)(L L':List Ent)(T:List It)(w:World):Prop where
 hs:Hv N nd nb n m X D DB DA M RB RA turn s L T w
 ht:Hw N nd nb m X' D' DB' DA' M' RB' RA' turn t L' T w
 hc:s.c=t.c
 tw:Tw L L'
 ap:∀ b,bU X D M RB RA nd b->¬bU X' D' M' RB' RA' nd b
 wrs:∃ W,t=(⟨c0,c0,wr⟩:Dsk).wrs W
def dJ(lost:Bool)(nb m:Nat)(t:Dsk)(Ts:List (List It))(T:List It):Prop:=if lost=true then t.left=0∧(∃ T0∈Ts,dQ nb m t.a T0)∧(Ts.length=1∨Ts.length=2) else t.a=t.c∧Ts=[T]
section
variable {X D DB DA M X' D' DB' DA' M':Nat}{RB RA RB' RA':Nat->Nat}{nd nb turn turn1 turn1' N n m wr:Nat}{s t s' t':Dsk}{L L' L1 L1':List Ent}{T:List It}{w w' w1 w2 v:World}{c0:Nat->Nat->Nat->Nat}
theorem Duo.kp0(h:Duo N nd nb n m wr c0 X D DB DA M X' D' DB' DA' M' RB RA RB' RA' turn s t L L' T w)(hK:Kp w (fun _=>False) w'):Duo N nd nb n m wr c0 X D DB DA M X' D' DB' DA' M' RB RA RB' RA' turn s t L L' T w':=⟨h.hs.kp0 hK,h.ht.put (h.ht.st.kp hK),h.hc,h.tw,h.ap,h.wrs⟩
theorem Duo.le{n' m':Nat}(h:Duo N nd nb n m wr c0 X D DB DA M X' D' DB' DA' M' RB RA RB' RA' turn s t L L' T w)(hn:n'<=n)(hm:m<=m'):Duo N nd nb n' m' wr c0 X D DB DA M X' D' DB' DA' M' RB RA RB' RA' turn s t L L' T w:=⟨h.hs.le hn hm,h.ht.le hm,h.hc,h.tw,h.ap,h.wrs⟩
theorem Duo.act{a:Ac}{err err':Nat}(h:Duo N nd nb (n+42) m wr c0 X D DB DA M X' D' DB' DA' M' RB RA RB' RA' turn s t L L' T w)(hd:dK nb s L turn a err s' L1 turn1)(hX1:StE X D DB DA M RB RA nd nb turn1 s' L1 w1)(hd':dK nb t L' turn a err' t' L1' turn1')(hK2:Kp w1 (bU X' D' M' RB' RA' nd) w2)(ht1:StE X' D' DB' DA' M' RB' RA' nd nb turn t L' w1)(hX2:StE X' D' DB' DA' M' RB' RA' nd nb turn1' t' L1' w2)(hm:m<9223372036854775807)(hv:∀ i,a.val i<256) :
  err'=err∧Duo N nd nb n (m+1) wr c0 X D DB DA M X' D' DB' DA' M' RB RA RB' RA' turn1 s' t' L1 L1' (if err=0 then bH a.it a.gone T else T) w2∧
   (∀ Ts,dJ true nb m t Ts T->dJ true nb (m+1) t' Ts (if err=0 then bH a.it a.gone T else T))∧
   (t.a=t.c->∀ b:Bool,(b=true↔∀ d,d<nd->cC nb (s'.a d)=cC nb (t'.a d))->14<=nd->dJ (!b) nb (m+1) t' (if b=true then [if err=0 then bH a.it a.gone T else T] else [T,if err=0 then bH a.it a.gone T else T]) (if err=0 then bH a.it a.gone T else T)):=by
 have htm:=h.hs.turn;obtain⟨e1,e2,hT,W,rfl,rfl,hW⟩:=dK.twin h.hc h.tw h.hs.st.ids h.ht.st.ids hd hd';subst e1 e2;have hH1:=h.hs.did hd hX1;have hH2:=h.ht.did hd' hX2;have hc':(s.wrs W).c=(t.wrs W).c:=by rw[fX,fX,h.hc]
 refine⟨rfl,⟨⟨h.hs.did hd hX1|>.st.two ht1 h.ap hK2|> fun q=>?_,hH1.own,hH1.neat,hH1.few,hH1.len,hH1.kept,hH1.turn,hH1.rep⟩,hH2,hc',hT,h.ap,?_⟩,fun Ts hS=>?_,fun hac b hb hn=>?_⟩
 .exact q
 .obtain⟨V,hV⟩:=h.wrs;exact⟨V++W,by rw[mD,<-hV]⟩
 .unfold dJ at hS ⊢;rw[if_pos rfl]at hS ⊢;obtain⟨h1,⟨T0,q1,q2⟩,h3⟩:=hS;have e:(t.wrs W).a=t.a:=by rw[fX,h1,List.take_zero];rfl
  refine⟨by rw[fX,h1];exact Nat.zero_sub _,⟨T0,q1,?_⟩,h3⟩;rw[e];exact q2.le (by omega)
 .have hlen:(if err=0 then bH a.it a.gone T else T).length<=nb - 2:=Nat.le_trans hH1.rep.len hH1.len;have hsa:(s.wrs W).a=(s.wrs W).c:=hH1.kept.1;by_cases hl:W.length<=t.left
  .have e:(t.wrs W).a=(t.wrs W).c:=by rw[fX,List.take_of_length_le hl,hac]
   have hbt:b=true:=hb.2 fun d _=>by rw[hsa,e,hc']
   subst hbt;unfold dJ;rw[if_neg (by decide),if_pos rfl];exact⟨e,rfl⟩
  .have ea:(t.wrs W).a=app s.c (W.take t.left):=by rw[fX,hac,<-h.hc]
   have hmid:=h.hs.hw.midact (by omega) hv hd hlen hW t.left;obtain⟨d,p,i,hd14,hp,hi,hne⟩:=(h.hs.hw.chg (by omega) hv hW).ne (show t.left<W.length by omega);have hbf:b=false:=by
    cases hbq:b with
    |false=>rfl
    |true=>
     have:=hb.1 hbq d (by omega);rw[ea,hsa]at this;have hb1:∀ d p i,app s.c (W.take t.left) d p i<256:=by
      rcases hmid with⟨_,_,_,q⟩|⟨_,_,_,q⟩
      .exact q.byte
      .exact q.byte
     refine absurd this (Ib hH1.st.dk.byte hb1 hp hi ?_);rw[fX];exact fun q=>hne q.symm
   subst hbf;show dJ true nb (m+1) (t.wrs W) [T,if err=0 then bH a.it a.gone T else T] _
   unfold dJ;rw[if_pos rfl];refine⟨by rw[fX];show t.left - W.length=0;omega,?_,.inr rfl⟩;rw[ea];rcases hmid with q|q
   .exact⟨T,List.mem_cons_self ..,q.le (by omega)⟩
   .exact⟨_,List.mem_cons_of_mem _ (List.mem_cons_self ..),q.le (by omega)⟩
theorem MidW.duo{Tx:Nat->ByteArray}{lb:Nat->Lb}{G:Nat->Nat->Bool}{E:Nat->Bool}(h:MidW nb m (aR Tx wr).c T lb G E)(hS:eZ lb G nb L turn)(hX:StE X D DB DA M RB RA nd nb turn (cD (aR Tx 1099511627776) (aS L) nb) L w1)(hown:∀ b,bU X D M RB RA nd b->N<=b)(hS':eZ lb G nb L' turn1)(hX':StE X' D' DB' DA' M' RB' RA' nd nb turn1 (cD (aR Tx wr) (aS L') nb) L' w2)(hown':∀ b,bU X' D' M' RB' RA' nd b->w1.heap.size<=b)(hN:N<=w1.heap.size)(hK:Kp w1 (fun _=>False) w2)(hn:n+28*nb<=1099511627776) :
  Duo N nd nb n m wr (aR Tx wr).c X D DB DA M X' D' DB' DA' M' RB RA RB' RA' turn (cD (aR Tx 1099511627776) (aS L) nb) (cD (aR Tx wr) (aS L') nb) L L' T w2∧
   ∀ b:Bool,(b=true↔∀ d,d<nd->cC nb ((cD (aR Tx 1099511627776) (aS L) nb).a d)=cC nb ((cD (aR Tx wr) (aS L') nb).a d))->14<=nd->dJ (!b) nb m (cD (aR Tx wr) (aS L') nb) [T] T:=by
 obtain⟨hT,rfl⟩:=hS.twin hS' hX.ids hX'.ids;have h1:Hw N nd nb m X D DB DA M RB RA turn (cD (aR Tx 1099511627776) (aS L) nb) L T w1:=MidW.mount (Tx:=Tx) (wr:=1099511627776) h hS hX hown;have h2:Hw N nd nb m X' D' DB' DA' M' RB' RA' turn (cD (aR Tx wr) (aS L') nb) L' T w2:=MidW.mount h hS' hX' fun b hb=>Nat.le_trans hN (hown' b hb)
 have hk:aP (cD (aR Tx 1099511627776) (aS L) nb) n:=aP.sweep nb ⟨rfl,hn⟩;have e1:cD (aR Tx 1099511627776) (aS L) nb=(aR Tx 1099511627776).wrs (fF (aR Tx wr).c (aS L) nb):=qC nb;have e2:cD (aR Tx wr) (aS L') nb=(aR Tx wr).wrs (fF (aR Tx wr).c (aS L) nb):=by rw[qC,Be nb fun p _=>(hT.tak p).symm]
 have hbyte:=h1.st.dk.byte;have hsa:=hk.1;refine⟨⟨(h1.put (hX.kp hK)).hv hk,h2,?_,hT,fun b hb hb'=>?_,⟨_,e2⟩⟩,fun b hb hnd=>?_⟩
 .rw[e1,e2,fX,fX];rfl
 .have:=hX.lt b hb;have:=hown' b hb';omega
 .have hc:(cD (aR Tx 1099511627776) (aS L) nb).c=app (aR Tx wr).c (fF (aR Tx wr).c (aS L) nb):=by rw[e1,fX];rfl
  rw[hsa]at hb;by_cases hl:(fF (aR Tx wr).c (aS L) nb).length<=wr
  .have e:(cD (aR Tx wr) (aS L') nb).a=app (aR Tx wr).c (fF (aR Tx wr).c (aS L) nb):=by
    rw[e2,fX];show app _ (List.take wr _)=_;rw[List.take_of_length_le hl];rfl
   have hbt:b=true:=hb.2 fun d _=>by rw[hc,e]
   subst hbt;unfold dJ;rw[if_neg (by decide)];refine⟨?_,rfl⟩;rw[e,e2,fX]
  .have e:(cD (aR Tx wr) (aS L') nb).a=app (aR Tx wr).c ((fF (aR Tx wr).c (aS L) nb).take wr):=by
    rw[e2,fX];rfl
   have hmid:=h.swept hS wr;obtain⟨d,p,i,hd14,hp,hi,hne⟩:=(Cm (nb:=nb) (c:=(aR Tx wr).c) (t:=aS L) nb (Nat.le_refl _)).ne (show wr<_ by omega);have hbf:b=false:=by
    cases hbq:b with
    |false=>rfl
    |true=>
     have:=hb.1 hbq d (by omega);have hb1:∀ d p i,app (aR Tx wr).c ((fF (aR Tx wr).c (aS L) nb).take wr) d p i<256:=by
      obtain⟨_,_,_,q⟩:=hmid;exact q.byte
     rw[e]at this;refine absurd this (Ib hbyte hb1 hp hi ?_);rw[hc];exact fun q=>hne q.symm
   subst hbf;show dJ true nb m _ [T] T;unfold dJ;rw[if_pos rfl];refine⟨by rw[e2,fX];show wr - _=0;omega,⟨T,List.mem_cons_self ..,?_⟩,.inl rfl⟩;rw[e];exact hmid
theorem dJ.mid{lost:Bool}{Ts:List (List It)}(hS:dJ lost nb m t Ts T)(h:Duo N nd nb n m wr c0 X D DB DA M X' D' DB' DA' M' RB RA RB' RA' turn s t L L' T w)(hm:m<18446744073709551616):(∃ T0∈Ts,dQ nb m t.a T0)∧(Ts.length=1∨Ts.length=2):=by
 unfold dJ at hS;cases lost with
 |true=>
  rw[if_pos rfl]at hS;exact hS.2
 |false=>
  rw[if_neg (by decide)]at hS;obtain⟨h1,rfl⟩:=hS;have htm:=h.ht.turn;refine⟨⟨T,List.mem_cons_self ..,?_⟩,.inl rfl⟩;rw[h1];exact dQ.le ⟨_,_,_,(h.ht.mid (by omega)).1⟩ htm
end
theorem Hm:∃ i z,Tryz.prog.info? 25=some i∧i.zero=some z∧i.size=1∧i.bytes=24∧z.cells=#[z]:=⟨_,_,rfl,rfl,rfl,rfl,rfl⟩
section
variable {X D DB DA M:Nat}{RB RA:Nat->Nat}{nd nb turn N:Nat}{s:Dsk}{L:List Ent}{T T':List It}{w w' w1 w2 v:World}{S:Nat->Prop}
theorem StE.kpB(h:StE X D DB DA M RB RA nd nb turn s L w){g:Nat}{C:Array Value}{fr:Nat×Nat}(hg:w.heap[g]?=some (.cells C 25 fr))(hK:Kp w (fun b=>b=g) w'):StE X D DB DA M RB RA nd nb turn s L w':=by
 have hn:∀ b,bU X D M RB RA nd b->¬b=g:=fun b hb e=>h.noT (ty:=25) (by decide) (by decide) (by decide) b hb C fr (by rw[e];exact hg)
 have hd:∀ {b:Nat} {C':Array Value} {fr':Nat×Nat},w.heap[b]?=some (.cells C' 105 fr')->¬b=g:=fun hb e=>by
  rw[e,hg]at hb;cases hb
 exact⟨hK.cells _ _ _ _ (hn X (.inl rfl)) h.row,let ⟨cl,q1,q2⟩:=h.map;⟨cl,hK.objs _ _ (hn M (.inr (.inl rfl))) q1 trivial,q2⟩,h.dk.kp hK (hn D (.inr (.inr (.inl rfl)))) (hd h.dk.db) (hd h.dk.da) fun d hd'=>⟨hn _ (.inr (.inr (.inr ⟨d,hd',.inl rfl⟩))),hn _ (.inr (.inr (.inr ⟨d,hd',.inr rfl⟩)))⟩,h.ent,h.ids,h.slots,h.borns⟩
theorem Er{g:Nat}{C:Array Value}{fr:Nat×Nat}(hg:w.heap[g]?=some (.cells C 25 fr))(hN:N<=g):gJ N w fun b=>b=g:=by
 rintro b rfl;refine⟨hN,fun C' t fr' h=>?_⟩
 rw[hg]at h;cases h
 exact⟨by decide,by decide⟩
theorem Vo{row:Option Nat}{g:Nat}(hg:Gr w w' row)(hr:∀ b,row=some b->b=g):Kp w (fun b=>b=g) w':=
 ⟨hg.size,hg.os,hg.output,fun b o hb hc _=>hg.row hc fun e=>hb (hr b e.symm)⟩
theorem bO.one{sv:Value}(h:bO N N w sv T):sv.cells=#[sv]:=by
 obtain⟨Q,_,hQ⟩:=h;obtain⟨p,c,rfl⟩:=hQ.form;rfl
theorem bO.cell1{sv:Value}(h:bO N N w sv T):sv.oneCell'=true:=by
 obtain⟨Q,_,hQ⟩:=h;obtain⟨p,c,rfl⟩:=hQ.form;rfl
theorem dE.one{B0 g:Nat}{y:Value}(hg:w.heap[g]?=some (.cells #[y] 25))(hN:B0<=g)(hI:bO N N w y T)(hz:∀ x∈T,x.size<=400)(hl:T.length<=6):dE N B0 w (.slice (some ⟨g,0,none⟩) 1 1) [T]:=by
 refine⟨[y],⟨rfl,.inr ⟨g,1,#[y],rfl,hN,hg,Nat.le_refl _,by unfold maxLen;omega,rfl,rfl⟩⟩,fun i sv T1 h1 h2=>?_⟩
 match i with
 |0=>
  cases h1
  cases h2
  exact⟨hI,hz,hl⟩
 |i+1=>cases h1
theorem dE.two{B0:Nat}(hB:N<=B0){mv y:Value}{svs:List Value}(h:w.ownsRow B0 25 1 mv 1 svs)(hI0:∀ sv,svs[0]?=some sv->bO N N w sv T∧(∀ x∈T,x.size<=400)∧T.length<=6)(hI:bO N N w y T')(hz:∀ x∈T',x.size<=400)(hl:T'.length<=6){mv':Value}(ho:w'.ownsRow B0 25 1 mv' (1+1) (svs++[y]))(hgr:Gr w w' mv.ownBlock):dE N B0 w' mv' [T,T']∧∃ g C fr,w.heap[g]?=some (.cells C 25 fr)∧B0<=g∧Kp w (fun b=>b=g) w':=by
 obtain⟨g,cap,cur,q1,q2,q3,_⟩:=lG h (.inl (by omega));have hK:Kp w (fun b=>b=g) w':=Vo hgr fun b hb=>by
  rw[q1]at hb;cases hb
  rfl
 have hO:=Er (N:=N) q3 (Nat.le_trans hB q2);refine⟨⟨svs++[y],ho,fun i sv T1 h1 h2=>?_⟩,g,cur,_,q3,q2,hK⟩
 have hl1:svs.length=1:=h.1;match svs,hl1 with
 |[sv0],_=>
  match i with
  |0=>
   cases h1
   cases h2
   obtain⟨a1,a2⟩:=hI0 _ rfl;exact⟨a1.kp hO hK,a2⟩
  |1=>
   cases h1
   cases h2
   exact⟨hI.kp hO hK,hz,hl⟩
  |i+2=>cases h1
end
theorem dJ.not{nb m:Nat}{t:Dsk}{Ts:List (List It)}{T:List It}(h:dJ false nb m t Ts T):t.a=t.c∧Ts=[T]:=by
 unfold dJ at h;rwa [if_neg (by decide)]at h
