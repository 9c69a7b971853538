import Derived.Test.YtpiefebngnlfoabGreatDoorNl
set_option maxRecDepth 99999
set_option maxHeartbeats 0
set_option linter.unusedVariables false
set_option linter.unusedSimpArgs false
namespace Go.Proofs.YtpiefebngnlfoabGreatDoor
open Go.RowKit Go.Conc Go.Vw
structure Hw(N nd nb m:Nat)(X D DB DA M:Nat)(RB RA:Nat->Nat)(turn:Nat)(s:Dsk)(L:List Ent)(T:List It)(w:World):Prop where
 st:StE X D DB DA M RB RA nd nb turn s L w
 own:∀ b,dG X D M RB RA nd b->N<=b
 neat:Neat nb s.c L
 few:jX L
 len:L.length<=nb - 2
 turn:turn<=m
 rep:Rep L T
def nV(L:List Ent)(p k:Nat):Bool:=match kM L p with|some e=>e.good k|none=>false
section
variable {X D DB DA M X' D' DB' DA' M':Nat}{RB RA RB' RA':Nat->Nat}{nd nb turn turn' N N' n m wr:Nat}{s s':Dsk}{L L':List Ent}{T T':List It}{w w' v:World}{S:Nat->Prop}{c:Nat->Nat->Nat->Nat}{lb:Nat->Lb}{G:Nat->Nat->Bool}{E:Nat->Bool}
theorem Hv.hw(h:Hv N nd nb n m X D DB DA M RB RA turn s L T w):Hw N nd nb m X D DB DA M RB RA turn s L T w:=⟨h.st,h.own,h.neat,h.few,h.len,h.turn,h.rep⟩
theorem Hw.few6(h:Hw N nd nb m X D DB DA M RB RA turn s L T w):L.length<=6:=h.few.len h.st.ids
theorem Hw.did{a:Ac}{err:Nat}(h:Hw N nd nb m X D DB DA M RB RA turn s L T w)(hd:dK nb s L turn a err s' L' turn')(hX:StE X D DB DA M RB RA nd nb turn' s' L' w'):Hw N nd nb (m+1) X D DB DA M RB RA turn' s' L' (if err=0 then cW a.it a.gone T else T) w':=by
 have ht:=h.turn;unfold dK at hd;cases hg:a.gone with
 |true=>
  rw[if_pos hg]at hd;cases hq:aL (aX a.c) L 0 with
  |none=>
   rw[hq]at hd;obtain⟨rfl,rfl,rfl,rfl⟩:=hd;exact⟨hX,h.own,h.neat,h.few,h.len,by omega,h.rep⟩
  |some q=>
   obtain⟨k,e⟩:=q;rw[hq]at hd;obtain⟨rfl,rfl,rfl,rfl⟩:=hd;refine⟨hX,h.own,h.neat.del h.st.ids h.st.slots hq,h.few.del,Nat.le_trans (qR L _).length_le h.len,by omega,?_⟩;rw[if_pos rfl];exact h.rep.del a.it rfl h.st.ids hq
 |false=>
  rw[if_neg (by rw[hg];decide)]at hd;cases hf:gQ L nb (aX a.c) with
  |true=>
   rw[if_pos hf]at hd;obtain⟨rfl,rfl,rfl,rfl⟩:=hd;exact⟨hX,h.own,h.neat,h.few,h.len,by omega,h.rep⟩
  |false=>
   rw[if_neg (by rw[hf];decide)]at hd;obtain⟨rfl,rfl,p,clock,hF,hP,rfl,rfl⟩:=hd;refine⟨hX,h.own,h.neat.put h.st.ids h.st.slots hF hP,h.few.put hP (If _),Gm h.len hf,by omega,?_⟩;rw[if_pos rfl];exact h.rep.put hP
theorem Rep.len(h:Rep L T):T.length<=L.length:=by
 have hn:(T.map (·.id)).Nodup:=by
  unfold List.Nodup;rw[List.pairwise_map];exact h.srt.imp fun {a b} q=>by
   show a.id≠b.id;omega
 have:=pU (m:=L.map (·.id)) hn fun x hx=>by
  obtain⟨t,ht,rfl⟩:=List.mem_map.1 hx;obtain⟨e,he,rfl⟩:=(h.mem t).1 ht;exact List.mem_map.2 ⟨e,he,rfl⟩
 rwa [List.length_map,List.length_map]at this
theorem Hh{p:Nat}(h:cD L p=false):kM L p=none:=by
 cases q:kM L p with
 |none=>rfl
 |some e=>
  obtain⟨h1,h2⟩:=zN q;rw[fE.2 ⟨e,h1,h2⟩]at h;cases h
theorem Hw.mid(h:Hw N nd nb m X D DB DA M RB RA turn s L T w)(ht:turn<18446744073709551616):MidW nb turn s.c T (jH L) (nV L) (cD L)∧∀ q,cD L q=false->aN (nV L q) 14<10:=by
 have hl:∀ e∈L,jH L e.slot=e.lb∧nV L e.slot=e.good:=fun e he=>by
  have:=Af h.st.slots he;unfold jH;refine⟨by rw[this],?_⟩;funext k;unfold nV;rw[this]
 have hn:∀ p,cD L p=false->nV L p=fun _=>false:=fun p hp=>by
  funext k;unfold nV;rw[Hh hp]
 have hc:∀ p,cD L p=false->aN (nV L p) 14=0:=fun p hp=>by rw[hn p hp];exact uW 14
 refine⟨⟨h.st.dk.byte,fun p hp=>?_,fun p hp hE=>?_,fun a b ha hb h1 h2 hid=>?_,fun p hp hE h10=>?_,fun p hp ha=>?_,fun p hp hE=>?_,fun x=>?_,h.rep.srt,Nat.le_trans h.rep.len h.len⟩,fun q hq=>by rw[hc q hq];omega⟩
 .cases hE:cD L p with
  |false=>
   rw[hn p hE];refine⟨fun _ _ q=>(by cases q),fun _ _ q=>(by cases q),fun k hk _=>vA fun i hi=>h.neat.free p hp (fun e he hs=>?_) k hk i hi⟩
   rw[fE.2 ⟨e,he,hs⟩]at hE;cases hE
  |true=>
   obtain⟨e,he,rfl⟩:=fE.1 hE;rw[(hl e he).1,(hl e he).2];exact⟨fun _ _ _=>(h.st.ent e he).lb ht,fun k hk hg j hj=>(h.st.ent e he).blk k hk hg j hj,fun k hk hg=>h.neat.bad e he k hk hg⟩
 .obtain⟨e,he,rfl⟩:=fE.1 hE;rw[(hl e he).2];exact(h.st.ent e he).ten
 .obtain⟨e,he,rfl⟩:=fE.1 h1;obtain⟨e',he',rfl⟩:=fE.1 h2;rw[(hl e he).1,(hl e' he').1]at hid;rw[jA (f:=fun x:Ent=>x.id) h.st.ids he he' hid]
 .have:=hc p hE;omega
 .cases hE:cD L p with
  |false=>
   rw[hn p hE]at ha;simp[fQ]at ha
  |true=>
   obtain⟨e,he,rfl⟩:=fE.1 hE;rw[(hl e he).1];exact(h.st.ent e he).turn
 .obtain⟨e,he,rfl⟩:=fE.1 hE;rw[(hl e he).1];exact h.few e he
 .refine(h.rep.mem x).trans ⟨?_,?_⟩
  .rintro⟨e,he,rfl⟩;exact⟨e.slot,(h.st.ent e he).slot,fE.2 ⟨e,he,rfl⟩,by rw[(hl e he).1];rfl⟩
  .rintro⟨p,hp,hE,rfl⟩;obtain⟨e,he,rfl⟩:=fE.1 hE;exact⟨e,he,by rw[(hl e he).1];rfl⟩
theorem MidW.mount{Tx:Nat->ByteArray}(h:MidW nb m (aH Tx wr).c T lb G E)(hS:fZ lb G nb L turn)(hX:StE X D DB DA M RB RA nd nb turn (dE (aH Tx wr) (cD L) nb) L w)(hown:∀ b,dG X D M RB RA nd b->N<=b):Hw N nd nb m X D DB DA M RB RA turn (dE (aH Tx wr) (cD L) nb) L T w:=by
 obtain⟨i1,i2,i3⟩:=h.win hS;have hle:L.length<=T.length:=by
  have:=pU (l:=L.map (·.id)) (m:=T.map (·.id)) hX.ids fun x hx=>by
   obtain⟨e,he,rfl⟩:=List.mem_map.1 hx;obtain⟨p,q1,q2,q3⟩:=i1 e he;exact List.mem_map.2 ⟨(lb p).it,(h.rep _).2 ⟨p,q1,q2,rfl⟩,(dZ (e:=(lb p).ent p (aM (G p) 14)) q3).1.symm⟩
  rwa [List.length_map,List.length_map]at this
 refine⟨hX,hown,⟨fun e he k hk hg=>?_,fun p hp hno k hk j hj=>?_⟩,fun e he=>?_,Nat.le_trans hle h.len,i3,h.srt,fun x=>(h.rep x).trans ⟨?_,?_⟩⟩
 .obtain⟨p,q1,q2,q3⟩:=i1 e he;obtain⟨_,_,_,b4,_,b6⟩:=dZ (e:=(lb p).ent p (aM (G p) 14)) q3;have b4':e.slot=p:=b4;have b6':e.good=aM (G p) 14:=b6;rw[yH (fE.2 ⟨e,he,rfl⟩),b4'];rw[b6',Ir hk]at hg;exact(h.slot p q1).no k hk hg
 .refine uM ?_ hk hj nb hp;cases hq:cD L p with
  |false=>rfl
  |true=>
   obtain⟨e,he,hs⟩:=fE.1 hq;exact absurd hs (hno e he)
 .obtain⟨p,q1,q2,q3⟩:=i1 e he;rw[(dZ (e:=(lb p).ent p (aM (G p) 14)) q3).1];exact h.few p q1 q2
 .rintro⟨p,q1,q2,rfl⟩;obtain⟨e,he,q3⟩:=i2 p q1 q2;obtain⟨b1,b2,_,_,b5,_⟩:=dZ (e:=(lb p).ent p (aM (G p) 14)) q3;refine⟨e,he,?_⟩;unfold fG;rw[b1,b2,b5];rfl
 .rintro⟨e,he,rfl⟩;obtain⟨p,q1,q2,q3⟩:=i1 e he;obtain⟨b1,b2,_,_,b5,_⟩:=dZ (e:=(lb p).ent p (aM (G p) 14)) q3;refine⟨p,q1,q2,?_⟩;unfold fG;rw[b1,b2,b5];rfl
theorem Hv.harmed{Tx:Nat->ByteArray}{H:Nat->Bool}(h:Hv N nd nb n m X D DB DA M RB RA turn s L T w)(hS:gY L)(ht:turn<18446744073709551616)(hn:14<=nd)(hH:Harm nd nb (fun d=>bG nb (s.a d)) Tx H):MidW nb turn (aH Tx wr).c T (jH L) (gZ L (aH Tx wr).c) (cD L):=by
 obtain⟨hsl,hten⟩:=h.slots (wr:=wr) hS ht hn hH;obtain⟨hM,_⟩:=h.hw.mid ht;have hn0:∀ p,cD L p=false->gZ L (aH Tx wr).c p=fun _=>false:=fun p hp=>by
  funext k;unfold gZ;rw[Hh hp]
 refine⟨fun d p i=>rJ _ _,hsl,fun p hp hE=>?_,hM.one,fun p hp hE h10=>?_,fun p hp ha=>?_,hM.few,hM.rep,hM.srt,hM.len⟩
 .obtain⟨e,he,rfl⟩:=fE.1 hE;exact hten e he
 .rw[hn0 p hE,uW]at h10;omega
 .cases hE:cD L p with
  |false=>
   rw[hn0 p hE]at ha;simp[fQ]at ha
  |true=>
   obtain⟨e,he,rfl⟩:=fE.1 hE;have hl:jH L e.slot=e.lb:=by
    unfold jH;rw[Af h.st.slots he]
   rw[hl];exact(h.st.ent e he).turn
theorem Hw.scrub{k j:Nat}{h:Nat->Hl}(H:Hw N nd nb m X D DB DA M RB RA turn s L T w)(hT:Tells L k h)(hj:j<=bE h k)(hX:StE X D DB DA M RB RA nd nb turn (scrubN k j ⟨h,s,L⟩).s (scrubN k j ⟨h,s,L⟩).L w'):Hw N nd nb m X D DB DA M RB RA turn (scrubN k j ⟨h,s,L⟩).s (scrubN k j ⟨h,s,L⟩).L T w':=by
 have hS:=Jv (nb:=nb) (x0:=⟨h,s,L⟩) H.st.ids H.st.slots hT j hj;refine⟨hX,H.own,hS.neat H.neat,fun e he=>?_,?_,H.turn,hS.rep H.rep⟩
 .have:e.id∈(scrubN k j ⟨h,s,L⟩).L.map (·.id):=List.mem_map.2 ⟨e,he,rfl⟩;rw[hS.ids]at this;obtain⟨e0,q1,q2⟩:=List.mem_map.1 this;rw[<-q2];exact H.few e0 q1
 .have:=congrArg List.length hS.ids;rw[List.length_map,List.length_map]at this;rw[this];exact H.len
theorem zK{p:Nat}{good:Nat->Bool}{last:Bool}{x:Wt} : ∀ n,x∈kI c p good last n->x.d<n∧x.p=p∧good x.d=last∧x.b=zB∧bT (c x.d p) zB 0 96=false
 |0,h=>by cases h
 |n+1,h=>by
  unfold kI at h;rcases List.mem_append.1 h with h|h
  .obtain⟨h1,h2⟩:=zK n h;exact⟨by omega,h2⟩
  .split at h
   .rename_i hq;rw[List.mem_singleton]at h;subst h;exact⟨by show n<n+1;omega,rfl,hq.1,rfl,hq.2⟩
   .cases h
theorem yC{p:Nat}{good:Nat->Bool}{x:Wt}(h:x∈jE c p good):x.d<14∧x.p=p∧x.b=zB∧bT (c x.d p) zB 0 96=false:=by
 rcases List.mem_append.1 h with h|h
 .obtain⟨h1,h2,_,h4⟩:=zK 14 h;exact⟨h1,h2,h4⟩
 .obtain⟨h1,h2,_,h4⟩:=zK 14 h;exact⟨h1,h2,h4⟩
theorem Cz{t:Nat->Bool}{x:Wt} : ∀ n,x∈kZ c t n->x.d<14∧x.p<n∧t x.p=false∧x.b=zB∧bT (c x.d x.p) zB 0 96=false
 |0,h=>by cases h
 |n+1,h=>by
  unfold kZ at h;rcases List.mem_append.1 h with h|h
  .obtain⟨h1,h2,h3⟩:=Cz n h;exact⟨h1,by omega,h3⟩
  .split at h
   .cases h
   .rename_i hq;obtain⟨h1,h2,h3,h4⟩:=yC h;refine⟨h1,by omega,?_,h3,by rw[h2];exact h4⟩;rw[h2];simpa using hq
theorem Gw{p:Nat}{B:Nat->Nat->Nat}{x:Wt} : ∀ n,x∈pM p B n->x.d<n∧x.p=p∧x.b=B x.d
 |0,h=>by cases h
 |n+1,h=>by
  unfold pM at h;rcases List.mem_append.1 h with h|h
  .obtain⟨h1,h2⟩:=Gw n h;exact⟨by omega,h2⟩
  .rw[List.mem_singleton]at h;subst h;exact⟨by show n<n+1;omega,rfl,rfl⟩
def nX(nb:Nat)(c:Nat->Nat->Nat->Nat)(W:List Wt):Prop:=W.Pairwise (fun x y=>¬(y.d=x.d∧y.p=x.p))∧∀ x∈W,x.d<14∧x.p<nb∧∃ i,i<96∧x.b i≠c x.d x.p i
end
