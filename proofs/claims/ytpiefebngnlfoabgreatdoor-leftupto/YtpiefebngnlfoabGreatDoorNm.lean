import Derived.Test.YtpiefebngnlfoabGreatDoorNl
set_option maxRecDepth 99999
set_option maxHeartbeats 0
set_option linter.unusedVariables false
set_option linter.unusedSimpArgs false
namespace Go.Proofs.YtpiefebngnlfoabGreatDoor
open Go.RowKit Go.Conc Go.Vw
structure Hw(N nd nb m:Nat)(X D DB DA M:Nat)(RB RA:Nat->Nat)(turn:Nat)(s:Dsk)(L:List Ent)(T:List It)(w:World):Prop where
 st:StE X D DB DA M RB RA nd nb turn s L w
 own:∀ b,bN X D M RB RA nd b->N<=b
 neat:Neat nb s.c L
 few:iQ L
 len:L.length<=nb - 2
 turn:turn<=m
 rep:Rep L T
def nY(L:List Ent)(p k:Nat):Bool:=match jW L p with|some e=>e.good k|none=>false
section
variable {X D DB DA M X' D' DB' DA' M':Nat}{RB RA RB' RA':Nat->Nat}{nd nb turn turn' N N' n m wr:Nat}{s s':Dsk}{L L':List Ent}{T T':List It}{w w' v:World}{S:Nat->Prop}{c:Nat->Nat->Nat->Nat}{lb:Nat->Lb}{G:Nat->Nat->Bool}{E:Nat->Bool}
theorem Hv.hw(h:Hv N nd nb n m X D DB DA M RB RA turn s L T w):Hw N nd nb m X D DB DA M RB RA turn s L T w:=⟨h.st,h.own,h.neat,h.few,h.len,h.turn,h.rep⟩
theorem Hw.hv(h:Hw N nd nb m X D DB DA M RB RA turn s L T w)(hk:aQ s n):Hv N nd nb n m X D DB DA M RB RA turn s L T w:=⟨h.st,h.own,h.neat,h.few,h.len,hk,h.turn,h.rep⟩
theorem Hw.le{m':Nat}(h:Hw N nd nb m X D DB DA M RB RA turn s L T w)(hm:m<=m'):Hw N nd nb m' X D DB DA M RB RA turn s L T w:=⟨h.st,h.own,h.neat,h.few,h.len,Nat.le_trans h.turn hm,h.rep⟩
theorem Hw.put(h:Hw N nd nb m X D DB DA M RB RA turn s L T w)(hX:StE X D DB DA M RB RA nd nb turn s L w'):Hw N nd nb m X D DB DA M RB RA turn s L T w':=⟨hX,h.own,h.neat,h.few,h.len,h.turn,h.rep⟩
theorem Hw.few6(h:Hw N nd nb m X D DB DA M RB RA turn s L T w):L.length<=6:=h.few.len h.st.ids
theorem Hw.did{a:Ac}{err:Nat}(h:Hw N nd nb m X D DB DA M RB RA turn s L T w)(hd:dM nb s L turn a err s' L' turn')(hX:StE X D DB DA M RB RA nd nb turn' s' L' w'):Hw N nd nb (m+1) X D DB DA M RB RA turn' s' L' (if err=0 then bJ a.it a.gone T else T) w':=by
 have ht:=h.turn;unfold dM at hd;cases hg:a.gone with
 |true=>
  rw[if_pos hg]at hd;cases hq:aM (aR a.c) L 0 with
  |none=>
   rw[hq]at hd;obtain⟨rfl,rfl,rfl,rfl⟩:=hd;exact⟨hX,h.own,h.neat,h.few,h.len,by omega,h.rep⟩
  |some q=>
   obtain⟨k,e⟩:=q;rw[hq]at hd;obtain⟨rfl,rfl,rfl,rfl⟩:=hd;refine⟨hX,h.own,h.neat.del h.st.ids h.st.slots hq,h.few.del,Nat.le_trans (qY L _).length_le h.len,by omega,?_⟩;rw[if_pos rfl];exact h.rep.del a.it rfl h.st.ids hq
 |false=>
  rw[if_neg (by rw[hg];decide)]at hd;cases hf:gR L nb (aR a.c) with
  |true=>
   rw[if_pos hf]at hd;obtain⟨rfl,rfl,rfl,rfl⟩:=hd;exact⟨hX,h.own,h.neat,h.few,h.len,by omega,h.rep⟩
  |false=>
   rw[if_neg (by rw[hf];decide)]at hd;obtain⟨rfl,rfl,p,clock,hF,hP,rfl,rfl⟩:=hd;refine⟨hX,h.own,h.neat.put h.st.ids h.st.slots hF hP,h.few.put hP (vA _),Ge h.len hf,by omega,?_⟩;rw[if_pos rfl];exact h.rep.put hP
theorem Rep.len(h:Rep L T):T.length<=L.length:=by
 have hn:(T.map (·.id)).Nodup:=by
  unfold List.Nodup;rw[List.pairwise_map];exact h.srt.imp fun {a b} q=>by
   show a.id≠b.id;omega
 have:=oE (m:=L.map (·.id)) hn fun x hx=>by
  obtain⟨t,ht,rfl⟩:=List.mem_map.1 hx;obtain⟨e,he,rfl⟩:=(h.mem t).1 ht;exact List.mem_map.2 ⟨e,he,rfl⟩
 rwa [List.length_map,List.length_map]at this
theorem Wv{p:Nat}(h:aU L p=false):jW L p=none:=by
 cases q:jW L p with
 |none=>rfl
 |some e=>
  obtain⟨h1,h2⟩:=uT q;rw[eD.2 ⟨e,h1,h2⟩]at h;cases h
theorem Hw.mid(h:Hw N nd nb m X D DB DA M RB RA turn s L T w)(ht:turn<18446744073709551616):MidW nb turn s.c T (fK L) (nY L) (aU L)∧∀ q,aU L q=false->aF (nY L q) 14<10:=by
 have hl:∀ e∈L,fK L e.slot=e.lb∧nY L e.slot=e.good:=fun e he=>by
  have:=rV h.st.slots he;unfold fK;refine⟨by rw[this],?_⟩;funext k;unfold nY;rw[this]
 have hn:∀ p,aU L p=false->nY L p=fun _=>false:=fun p hp=>by
  funext k;unfold nY;rw[Wv hp]
 have hc:∀ p,aU L p=false->aF (nY L p) 14=0:=fun p hp=>by rw[hn p hp];exact yH 14
 refine⟨⟨h.st.dk.byte,fun p hp=>?_,fun p hp hE=>?_,fun a b ha hb h1 h2 hid=>?_,fun p hp hE h10=>?_,fun p hp ha=>?_,fun p hp hE=>?_,fun x=>?_,h.rep.srt,Nat.le_trans h.rep.len h.len⟩,fun q hq=>by rw[hc q hq];omega⟩
 .cases hE:aU L p with
  |false=>
   rw[hn p hE];refine⟨fun _ _ q=>(by cases q),fun _ _ q=>(by cases q),fun k hk _=>lL fun i hi=>h.neat.free p hp (fun e he hs=>?_) k hk i hi⟩
   rw[eD.2 ⟨e,he,hs⟩]at hE;cases hE
  |true=>
   obtain⟨e,he,rfl⟩:=eD.1 hE;rw[(hl e he).1,(hl e he).2];exact⟨fun _ _ _=>(h.st.ent e he).lb ht,fun k hk hg j hj=>(h.st.ent e he).blk k hk hg j hj,fun k hk hg=>h.neat.bad e he k hk hg⟩
 .obtain⟨e,he,rfl⟩:=eD.1 hE;rw[(hl e he).2];exact(h.st.ent e he).ten
 .obtain⟨e,he,rfl⟩:=eD.1 h1;obtain⟨e',he',rfl⟩:=eD.1 h2;rw[(hl e he).1,(hl e' he').1]at hid;rw[iA (f:=fun x:Ent=>x.id) h.st.ids he he' hid]
 .have:=hc p hE;omega
 .cases hE:aU L p with
  |false=>
   rw[hn p hE]at ha;simp[dR]at ha
  |true=>
   obtain⟨e,he,rfl⟩:=eD.1 hE;rw[(hl e he).1];exact(h.st.ent e he).turn
 .obtain⟨e,he,rfl⟩:=eD.1 hE;rw[(hl e he).1];exact h.few e he
 .refine(h.rep.mem x).trans ⟨?_,?_⟩
  .rintro⟨e,he,rfl⟩;exact⟨e.slot,(h.st.ent e he).slot,eD.2 ⟨e,he,rfl⟩,by rw[(hl e he).1];rfl⟩
  .rintro⟨p,hp,hE,rfl⟩;obtain⟨e,he,rfl⟩:=eD.1 hE;exact⟨e,he,by rw[(hl e he).1];rfl⟩
theorem MidW.mount{Tx:Nat->ByteArray}(h:MidW nb m (aH Tx wr).c T lb G E)(hS:fB lb G nb L turn)(hX:StE X D DB DA M RB RA nd nb turn (cD (aH Tx wr) (aU L) nb) L w)(hown:∀ b,bN X D M RB RA nd b->N<=b):Hw N nd nb m X D DB DA M RB RA turn (cD (aH Tx wr) (aU L) nb) L T w:=by
 obtain⟨i1,i2,i3⟩:=h.win hS;have hle:L.length<=T.length:=by
  have:=oE (l:=L.map (·.id)) (m:=T.map (·.id)) hX.ids fun x hx=>by
   obtain⟨e,he,rfl⟩:=List.mem_map.1 hx;obtain⟨p,q1,q2,q3⟩:=i1 e he;exact List.mem_map.2 ⟨(lb p).it,(h.rep _).2 ⟨p,q1,q2,rfl⟩,(fC (e:=(lb p).ent p (aN (G p) 14)) q3).1.symm⟩
  rwa [List.length_map,List.length_map]at this
 refine⟨hX,hown,⟨fun e he k hk hg=>?_,fun p hp hno k hk j hj=>?_⟩,fun e he=>?_,Nat.le_trans hle h.len,i3,h.srt,fun x=>(h.rep x).trans ⟨?_,?_⟩⟩
 .obtain⟨p,q1,q2,q3⟩:=i1 e he;obtain⟨_,_,_,b4,_,b6⟩:=fC (e:=(lb p).ent p (aN (G p) 14)) q3;have b4':e.slot=p:=b4;have b6':e.good=aN (G p) 14:=b6;rw[uD (eD.2 ⟨e,he,rfl⟩),b4'];rw[b6',zX hk]at hg;exact(h.slot p q1).no k hk hg
 .refine qM ?_ hk hj nb hp;cases hq:aU L p with
  |false=>rfl
  |true=>
   obtain⟨e,he,hs⟩:=eD.1 hq;exact absurd hs (hno e he)
 .obtain⟨p,q1,q2,q3⟩:=i1 e he;rw[(fC (e:=(lb p).ent p (aN (G p) 14)) q3).1];exact h.few p q1 q2
 .rintro⟨p,q1,q2,rfl⟩;obtain⟨e,he,q3⟩:=i2 p q1 q2;obtain⟨b1,b2,_,_,b5,_⟩:=fC (e:=(lb p).ent p (aN (G p) 14)) q3;refine⟨e,he,?_⟩;unfold eX;rw[b1,b2,b5];rfl
 .rintro⟨e,he,rfl⟩;obtain⟨p,q1,q2,q3⟩:=i1 e he;obtain⟨b1,b2,_,_,b5,_⟩:=fC (e:=(lb p).ent p (aN (G p) 14)) q3;refine⟨p,q1,q2,?_⟩;unfold eX;rw[b1,b2,b5];rfl
theorem oW{p:Nat}{good:Nat->Bool}{last:Bool}{x:Wt} : ∀ n,x∈jI c p good last n->x.d<n∧x.p=p∧good x.d=last∧x.b=zB∧cC (c x.d p) zB 0 96=false
 |0,h=>by cases h
 |n+1,h=>by
  unfold jI at h;rcases List.mem_append.1 h with h|h
  .obtain⟨h1,h2⟩:=oW n h;exact⟨by omega,h2⟩
  .split at h
   .rename_i hq;rw[List.mem_singleton]at h;subst h;exact⟨by show n<n+1;omega,rfl,hq.1,rfl,hq.2⟩
   .cases h
theorem qK{p:Nat}{good:Nat->Bool}{x:Wt}(h:x∈iL c p good):x.d<14∧x.p=p∧x.b=zB∧cC (c x.d p) zB 0 96=false:=by
 rcases List.mem_append.1 h with h|h
 .obtain⟨h1,h2,_,h4⟩:=oW 14 h;exact⟨h1,h2,h4⟩
 .obtain⟨h1,h2,_,h4⟩:=oW 14 h;exact⟨h1,h2,h4⟩
theorem xH{t:Nat->Bool}{x:Wt} : ∀ n,x∈fH c t n->x.d<14∧x.p<n∧t x.p=false∧x.b=zB∧cC (c x.d x.p) zB 0 96=false
 |0,h=>by cases h
 |n+1,h=>by
  unfold fH at h;rcases List.mem_append.1 h with h|h
  .obtain⟨h1,h2,h3⟩:=xH n h;exact⟨h1,by omega,h3⟩
  .split at h
   .cases h
   .rename_i hq;obtain⟨h1,h2,h3,h4⟩:=qK h;refine⟨h1,by omega,?_,h3,by rw[h2];exact h4⟩;rw[h2];simpa using hq
theorem yR{p:Nat}{B:Nat->Nat->Nat}{x:Wt} : ∀ n,x∈fL p B n->x.d<n∧x.p=p∧x.b=B x.d
 |0,h=>by cases h
 |n+1,h=>by
  unfold fL at h;rcases List.mem_append.1 h with h|h
  .obtain⟨h1,h2⟩:=yR n h;exact⟨by omega,h2⟩
  .rw[List.mem_singleton]at h;subst h;exact⟨by show n<n+1;omega,rfl,rfl⟩
theorem oV(p:Nat)(B:Nat->Nat->Nat):∀ n,(fL p B n).length=n
 |0=>rfl
 |n+1=>by
  unfold fL;rw[List.length_append,oV p B n];rfl
theorem Ez{p:Nat}{B:Nat->Nat->Nat}{k:Nat} : ∀ n,k<=n->(fL p B n).take k=fL p B k
 |0,h=>by
  obtain rfl:k=0:=by omega
  rfl
 |n+1,h=>by
  by_cases e:k=n+1
  .subst e;exact List.take_of_length_le (by rw[oV];omega)
  .show(fL p B n++[(⟨n,p,B n⟩:Wt)]).take k=_;rw[List.take_append_of_le_length (by rw[oV];omega)];exact Ez n (by omega)
theorem MidW.swept(h:MidW nb m c T lb G E)(hS:fB lb G nb L turn)(k:Nat):eC nb m (app c ((fH c (aU L) nb).take k)) T:=by
 obtain⟨_,i2,_⟩:=h.win hS;obtain⟨G',hG'⟩:=MidW.blanks ((fH c (aU L) nb).take k) h fun x hx=>by
  obtain⟨h1,h2,h3,h4,_⟩:=xH nb (List.mem_of_mem_take hx);refine⟨h4,.inl ?_⟩;cases hE:E x.p with
  |false=>rfl
  |true=>
   obtain⟨e,he,q⟩:=i2 x.p h2 hE;have hs:e.slot=x.p:=(fC (e:=(lb x.p).ent x.p (aN (G x.p) 14)) q).2.2.2.1;rw[eD.2 ⟨e,he,hs⟩]at h3;cases h3
 exact⟨_,_,_,hG'⟩
theorem Hw.midact{a:Ac}{err:Nat}{W:List Wt}(h:Hw N nd nb m X D DB DA M RB RA turn s L T w)(ht:turn<9223372036854775808)(hv:∀ i,a.val i<256)(hd:dM nb s L turn a err s' L' turn')(hlen:(if err=0 then bJ a.it a.gone T else T).length<=nb - 2)(hW:Wk nb s.c L turn a W)(k:Nat) :
  eC nb (turn+1) (app s.c (W.take k)) T∨eC nb (turn+1) (app s.c (W.take k)) (if err=0 then bJ a.it a.gone T else T):=by
 obtain⟨hM,hno⟩:=h.mid (by omega);rcases hW with rfl|⟨n,e,hg,hf,rfl⟩|⟨hg,hf,p,hF,rfl⟩
 .rw[List.take_nil];exact .inl (eC.le ⟨_,_,_,hM⟩ (by omega))
 .unfold dM at hd;rw[if_pos hg,hf]at hd;obtain⟨rfl,_⟩:=hd;rw[if_pos rfl,hg]at hlen ⊢;obtain⟨q,_,h2,h3⟩:=dN hf;have he:=List.mem_of_getElem? h2;have hlb:fK L e.slot=e.lb:=by
   unfold fK;rw[rV h.st.slots he]
  refine(MidW.off (T':=bJ a.it true T) (h.st.ent e he).slot (eD.2 ⟨e,he,rfl⟩) (fun x=>(oT a.it T x).trans ⟨?_,?_⟩) (tC _ h.rep.srt) hlen _ hM (fun q _ hq=>hno q hq) fun x hx=>?_).imp (fun q=>q.le (by omega)) fun q=>q.le (by omega)
  .rintro⟨q1,q2⟩;obtain⟨q,r1,r2,rfl⟩:=(hM.rep x).1 q1;refine⟨q,r1,⟨r2,?_⟩,rfl⟩;rintro rfl;exact q2 (by rw[hlb];exact h3)
  .rintro⟨q,r1,⟨r2,r3⟩,rfl⟩;refine⟨(hM.rep _).2 ⟨q,r1,r2,rfl⟩,fun hid=>r3 ?_⟩
   refine hM.one q e.slot r1 (h.st.ent e he).slot r2 (eD.2 ⟨e,he,rfl⟩) ?_;rw[hlb];exact hid.trans h3.symm
  .obtain⟨h1,h2,h3,_⟩:=qK (List.mem_of_mem_take hx);exact⟨h3,h2,h1⟩
 .unfold dM at hd;rw[if_neg (by rw[hg];decide),if_neg (by rw[hf];decide)]at hd;obtain⟨rfl,_⟩:=hd;rw[if_pos rfl,hg]at hlen ⊢;have hEp:aU L p=false:=by
   cases hq:aU L p with
   |false=>rfl
   |true=>
    obtain⟨e,he,hs⟩:=eD.1 hq;exact absurd hs (hF.2.1 e he)
  have hid:=vA a.c;have hi1:1<=aR a.c∧aR a.c<=9999:=by
   simp only[List.mem_cons,List.not_mem_nil,or_false]at hid;omega
  have hl:(⟨aR a.c,min a.len 400,turn+1,a.val⟩:Lb).Ok:=⟨hi1.1,hi1.2,Nat.min_le_right _ _,by show turn+1<_;omega,hv⟩;obtain⟨s1,s2⟩:=xX a.it h.rep.srt;have key:∀ j,j<=14->_:=fun j hj=>hM.lay (T':=bJ a.it false T) (j:=j) hF.1 hEp (fun k hk i hi=>h.neat.free p hF.1 hF.2.1 k hk i hi) hl rfl hid hj (fun x=>s2 x) s1 hlen
  unfold pK;have e1:Aq (aR a.c) (min a.len 400) (turn+1) a.val=(⟨aR a.c,min a.len 400,turn+1,a.val⟩:Lb).blk:=rfl;rw[e1];by_cases hk:k<=14
  .rw[List.take_append_of_le_length (by rw[oV];exact hk),Ez 14 hk];have:=key k hk;by_cases h10:k<10
   .rw[if_pos h10]at this;exact .inl ⟨_,_,_,this⟩
   .rw[if_neg h10]at this;exact .inr ⟨_,_,_,this⟩
  .rw[List.take_append,oV,List.take_of_length_le (by rw[oV];omega),qL];have h14:=key 14 (Nat.le_refl _);rw[if_neg (by omega)]at h14;obtain⟨G',hG'⟩:=MidW.blanks ((match aM (aR a.c) L 0 with|some (_,old)=>iL s.c old.slot old.good|none=>[]).take (k - 14)) h14 fun x hx=>by
    have hx:=List.mem_of_mem_take hx;cases hq:aM (aR a.c) L 0 with
    |none=>rw[hq]at hx;cases hx
    |some q=>
     obtain⟨n,old⟩:=q;rw[hq]at hx;obtain⟨h1,h2,h3,_⟩:=qK hx;obtain⟨q',_,h5,h6⟩:=dN hq;have ho:=List.mem_of_getElem? h5;refine⟨h3,.inl ?_⟩;rw[h2,if_neg (by omega)];have hlb:fK L old.slot=old.lb:=by
      unfold fK;rw[rV h.st.slots ho]
     have hne:=hF.2.1 old ho;rw[hlb];have h6':old.lb.id=aR a.c:=h6;simp[hne,h6']
   exact .inr ⟨_,_,_,hG'⟩
def fX(nb:Nat)(c:Nat->Nat->Nat->Nat)(W:List Wt):Prop:=W.Pairwise (fun x y=>¬(y.d=x.d∧y.p=x.p))∧∀ x∈W,x.d<14∧x.p<nb∧∃ i,i<96∧x.b i≠c x.d x.p i
theorem fX.ne{W:List Wt}(h:fX nb c W){k:Nat}(hk:k<W.length):∃ d p i,d<14∧p<nb∧i<96∧app c (W.take k) d p i≠app c W d p i:=by
 have e:W=W.take k++([W[k]]++W.drop (k+1)):=by
  rw[List.singleton_append,<-List.drop_eq_getElem_cons hk,List.take_append_drop]
 obtain⟨hP,hm⟩:=h;rw[e]at hP;obtain⟨_,p2,p3⟩:=List.pairwise_append.1 hP;rw[List.singleton_append]at p2;obtain⟨p4,_⟩:=List.pairwise_cons.1 p2;obtain⟨h1,h2,i,hi,hne⟩:=hm W[k] (List.getElem_mem hk);refine⟨W[k].d,W[k].p,i,h1,h2,hi,?_⟩;have a1:app c (W.take k) W[k].d W[k].p=c W[k].d W[k].p:=zT _ _ fun x hx q=>p3 x hx W[k] (List.mem_append.2 (.inl (List.mem_singleton.2 rfl))) ⟨q.1.symm,q.2.symm⟩
 have a2:app c W W[k].d W[k].p=W[k].b:=by
  have e':app c W=app c (W.take k++([W[k]]++W.drop (k+1))):=congrArg (app c) e;rw[e',qL,qL,zT _ _ fun x hx=>p4 x hx]
  funext j;show aT (app c (W.take k)) W[k].d W[k].p W[k].b W[k].d W[k].p j=_;unfold aT;rw[if_pos ⟨rfl,rfl⟩]
 rw[a1,a2];exact hne.symm
theorem fX.append{V W:List Wt}(h1:fX nb c V)(h2:fX nb c W)(h3:∀ x∈V,∀ y∈W,¬(y.d=x.d∧y.p=x.p)):fX nb c (V++W):=
 ⟨List.pairwise_append.2 ⟨h1.1,h2.1,h3⟩,fun x hx=>(List.mem_append.1 hx).elim (h1.2 x) (h2.2 x)⟩
theorem zaM{x y:Nat->Nat}(h:cC x y 0 96=false):∃ i,i<96∧y i≠x i:=by
 refine Classical.byContradiction fun q=>?_
 have:cC x y 0 96=true:=(iC _ _ 96 0).2 fun j _ hj=>Classical.byContradiction fun r=>q ⟨j,by omega,fun e=>r e.symm⟩
 rw[h]at this;cases this
theorem yY{p:Nat}{good:Nat->Bool}{last:Bool}(hp:p<nb):∀ n,n<=14->fX nb c (jI c p good last n)
 |0,_=>⟨List.Pairwise.nil,fun x hx=>(by cases hx)⟩
 |n+1,hn=>by
  unfold jI;refine(yY hp n (by omega)).append ?_ fun x hx y hy=>?_
  .split
   .rename_i hq;refine⟨List.pairwise_singleton _ _,fun x hx=>?_⟩
    rw[List.mem_singleton]at hx;subst hx;exact⟨by show n<14;omega,hp,zaM hq.2⟩
   .exact⟨List.Pairwise.nil,fun x hx=>(by cases hx)⟩
  .have h1:=(oW n hx).1;split at hy
   .rw[List.mem_singleton]at hy;subst hy;rintro⟨q,_⟩;have:n=x.d:=q;omega
   .cases hy
theorem xU{p:Nat}{good:Nat->Bool}(hp:p<nb):fX nb c (iL c p good):=
 (yY hp 14 (Nat.le_refl _)).append (yY hp 14 (Nat.le_refl _)) fun x hx y hy q=>by
  have h1:=(oW 14 hx).2.2.1;have h2:=(oW 14 hy).2.2.1;rw[q.1,h1]at h2;cases h2
theorem Cq{t:Nat->Bool} : ∀ n,n<=nb->fX nb c (fH c t n)
 |0,_=>⟨List.Pairwise.nil,fun x hx=>(by cases hx)⟩
 |n+1,hn=>by
  unfold fH;refine(Cq n (by omega)).append ?_ fun x hx y hy q=>?_
  .split
   .exact⟨List.Pairwise.nil,fun x hx=>(by cases hx)⟩
   .exact xU (by omega)
  .have h1:=(xH n hx).2.1;split at hy
   .cases hy
   .have:=(qK hy).2.1;omega
theorem Gn{p:Nat}{l:Lb}(hp:p<nb)(hl:l.Ok)(hb:∀ k,k<14->∀ i,i<96->c k p i=0):∀ n,n<=14->fX nb c (fL p l.blk n)
 |0,_=>⟨List.Pairwise.nil,fun x hx=>(by cases hx)⟩
 |n+1,hn=>by
  unfold fL;refine(Gn hp hl hb n (by omega)).append ⟨List.pairwise_singleton _ _,fun x hx=>?_⟩ fun x hx y hy q=>?_
  .rw[List.mem_singleton]at hx;subst hx;refine⟨by show n<14;omega,hp,Classical.byContradiction fun q=>?_⟩
   refine lL (x:=l.blk n) (fun i hi=>?_) (hl.sealed (k:=n) (by omega) fun j _=>rfl)
   refine Classical.byContradiction fun r=>q ⟨i,hi,?_⟩
   show l.blk n i≠c n p i;rw[hb n (by omega) i hi];exact r
  .have h1:=(yR n hx).1;rw[List.mem_singleton]at hy;subst hy;have:n=x.d:=q.1;omega
theorem Hw.chg{a:Ac}{W:List Wt}(h:Hw N nd nb m X D DB DA M RB RA turn s L T w)(ht:turn<9223372036854775808)(hv:∀ i,a.val i<256)(hW:Wk nb s.c L turn a W):fX nb s.c W:=by
 rcases hW with rfl|⟨n,e,hg,hf,rfl⟩|⟨hg,hf,p,hF,rfl⟩
 .exact⟨List.Pairwise.nil,fun x hx=>(by cases hx)⟩
 .obtain⟨q,_,h2,h3⟩:=dN hf;exact xU (h.st.ent e (List.mem_of_getElem? h2)).slot
 .have hid:=vA a.c;have hi1:1<=aR a.c∧aR a.c<=9999:=by
   simp only[List.mem_cons,List.not_mem_nil,or_false]at hid;omega
  have hl:(⟨aR a.c,min a.len 400,turn+1,a.val⟩:Lb).Ok:=⟨hi1.1,hi1.2,Nat.min_le_right _ _,by show turn+1<_;omega,hv⟩;unfold pK;refine(Gn (l:=⟨aR a.c,min a.len 400,turn+1,a.val⟩) hF.1 hl (fun k hk i hi=>h.neat.free p hF.1 hF.2.1 k hk i hi) 14 (Nat.le_refl _)).append ?_ fun x hx y hy q=>?_
  .cases hq:aM (aR a.c) L 0 with
   |none=>exact⟨List.Pairwise.nil,fun x hx=>(by cases hx)⟩
   |some q=>
    obtain⟨n,old⟩:=q;obtain⟨q',_,h5,h6⟩:=dN hq;exact xU (h.st.ent old (List.mem_of_getElem? h5)).slot
  .cases hq:aM (aR a.c) L 0 with
   |none=>rw[hq]at hy;cases hy
   |some r=>
    obtain⟨n,old⟩:=r;obtain⟨q',_,h5,h6⟩:=dN hq;rw[hq]at hy;have h7:=(qK hy).2.1;have h8:=(yR 14 hx).2.1;exact hF.2.1 old (List.mem_of_getElem? h5) (by rw[<-h7,q.2,h8])
theorem Ii{a a':Nat->Nat->Nat->Nat}(ha:∀ d p i,a d p i<256)(ha':∀ d p i,a' d p i<256){d p i:Nat}(hp:p<nb)(hi:i<96)(h:a d p i≠a' d p i):bS nb (a d)≠bS nb (a' d):=fun e=>h (by
 have:(p+1)*96<=nb*96:=Nat.mul_le_mul_right _ hp;have h1:=rH (nb:=nb) (fun q j=>ha d q j) (i:=p*96+i) (by omega);have h2:=rH (nb:=nb) (fun q j=>ha' d q j) (i:=p*96+i) (by omega);rw[e,h2]at h1;have e1:∀ x:Nat->Nat->Nat,dI x (p*96+i)=x p i:=fun x=>by
  show x ((p*96+i) / 96) ((p*96+i) % 96)=_;rw[show(p*96+i) / 96=p by omega,show(p*96+i) % 96=i by omega]
 rw[e1,e1]at h1
 exact h1.symm)
end
