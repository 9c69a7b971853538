import Derived.Test.YtpiefebngnlfoaaGreatDoorNe
set_option maxRecDepth 100000
set_option maxHeartbeats 16000000
set_option linter.unusedVariables false
set_option linter.unusedSimpArgs false
namespace Go.Proofs.YtpiefebngnlfoaaGreatDoor
open Go.RowKit Go.Conc Go.Vw
def zpY(n:Nat)(T:Nat→ByteArray):List Value:=(List.range n).map fun j=>.string (T j)
theorem zjH(n:Nat)(T:Nat→ByteArray):(zpY n T).length=n:=by simp[zpY]
theorem zjI{n j:Nat}{T:Nat→ByteArray}(h:j<n):(zpY n T)[j]?=some (.string (T j)):=by simp[zpY,h]
theorem yaP{w:World}{base g n c:Nat}{T:Nat→ByteArray}(h:w.ownsRow base 9 1 (.slice (some ⟨g,0,none⟩) n c) n (zpY n T)):zfU w g n T:=fun j hj=>by
 obtain⟨g',c',cur,q1,q2,q3,q4,q5,q6⟩:=zgW h (.inl (by omega));cases q1
 rw[cell_of_row _ _ _ _ _ _ q3,q6 j hj,zjI hj]
section
variable {nd nb:Nat}{w w' v:World}{S:Nat→Prop}
theorem zkT(t:TypeId)(e:Value)(hg0:v.cell? ⟨0,0,none⟩=some (.iface t e))(hg:Tryz.prog.globals.size≤v.heap.size)(B c wr:Nat)(T:Nat→ByteArray)(lf:Nat→Lb)(Gf:Nat→Nat→Bool)(hw:wr≤1099511627776)(hb4:4≤nb)(hn1:14≤nd)(hnd:nd≤18)(hnb:nb≤64)(hO:TextsOk nd nb T)(hT:zfU v B nd T)(hS:∀ p,p<nb→SlotK (zdF T wr).c p (lf p) (Gf p)) :
  zaP Tryz.prog 17 #[.slice (some ⟨B,0,none⟩) nd c,.int .i64 (wr:Nat)] S v fun x S' v'=>Kp v (fun _=>False) v'∧∃ X D DB DA M RB RA L turn,x=.pointer (some ⟨X,0,none⟩)∧Svs lf Gf nb L turn∧StE X D DB DA M RB RA nd nb turn (zdP (zdF T wr) (takB L) nb) L v'∧∀ b,SOwn X D M RB RA nd b→v.heap.size≤b:=by
 obtain⟨is,zz,is1,is2,is3,is4,is5⟩:=zvT;refine zaF Tryz.func17 rfl Tryz.ntmps17 (by simp) fun Stop cc cs ret=>?_
 have g0:argF #[.slice (some ⟨B,0,none⟩) nd c,.int .i64 (wr:Nat)] 0=.slice (some ⟨B,0,none⟩) nd c:=rfl;have g1:argF #[.slice (some ⟨B,0,none⟩) nd c,.int .i64 (wr:Nat)] 1=.int .i64 (wr:Nat):=rfl;generalize argF #[.slice (some ⟨B,0,none⟩) nd c,.int .i64 (wr:Nat)]=f at g0 g1;repeat (first|refine rQ rfl ?_|refine rY zaA ?_|refine rW ?_)
 refine zaJ zaA rfl rfl (by kernel_rfl) (fun u hu=>ztB (s:=.tmp 8) (x:=.tmp 9) (p:=none) (n:=0) (cap:=0) (olds:=[]) (ad:=⟨B,0,none⟩) (m:=nd) (c:=c) (news:=zpY nd T) hu Tryz.underlying40 is1 is2 is3 is4 (by rw[is5];rfl) (.inl ⟨rfl,rfl,rfl⟩) rfl (fun b h=>by cases h) (by omega) (zjH _ _) (fun j y hy=>?_) (fun y hy=>?_) (by unfold maxLen;omega) (by omega) rfl (by simp) (by simp[g0])) ?_
 ·have hj:j<nd:=by
   have:=(List.getElem?_eq_some_iff.1 hy).1;rwa [zjH]at this
  rw[zjI hj]at hy;cases hy
  rw[Addr.add_lit,Nat.zero_add];exact hT j hj
 ·unfold zpY at hy;obtain⟨j,_,rfl⟩:=List.mem_map.1 hy;rfl
 rintro y w1 ⟨ho,hE1⟩;rw[Nat.zero_add,List.nil_append]at ho;obtain⟨g',c',cur,q1,_⟩:=zgW ho (.inl (by omega));subst q1;simp only[stO_some];have hT1:=yaP ho;repeat (first|refine rQ rfl ?_|refine rY zaA ?_|refine rW ?_)
 (refine zaC rfl (by first|rfl|simp[Region.wanted,yielded,zaG, *]) rfl Tryz.func7 (by kernel_rfl) rfl (by simp[Act.eval, *];try rfl) (ygO t e (hE1.cell hg0) (Nat.le_trans hg hE1.size) g' c' wr T lf Gf hw hb4 hn1 hnd hnb hO hT1 hS) ?_)
 rintro _ S1 w2 _ ⟨hK2,X,D,DB,DA,M,RB,RA,L,turn,rfl,hSv,hX,hown⟩;simp only[stO_some];repeat (first|refine rQ rfl ?_|refine rY zaA ?_|refine rW ?_)
 (refine zaB (t:=false) (by simp[Act.eval]) ?_;simp only[if_true,if_false,reduceIte,Bool.false_eq_true]);repeat (first|refine rQ rfl ?_|refine rY zaA ?_|refine rW ?_)
 refine zaH fun todo=>?_
 refine ret _ _ S1 w2 (.pointer (some ⟨X,0,none⟩)) ?_ ⟨(zcA hE1).trans hK2,X,D,DB,DA,M,RB,RA,L,turn,rfl,hSv,hX,fun b hb=>Nat.le_trans hE1.size (hown b hb)⟩
 simp[results,Tryz.results17]
end
theorem ylC(m i:Nat):byt (zs m) i=0:=by
 unfold byt zs;rw[←Array.getElem?_toList,strOfNums_data,List.map_replicate,List.getElem?_replicate];split<;>rfl
theorem yaG(m:Nat):(zs m).size=m:=by
 have h:(zs m).data.toList.length=m:=by
  unfold zs;rw[strOfNums_data];simp
 rw[Array.length_toList]at h;exact h
theorem zrM{lf:Nat→Lb}{Gf:Nat→Nat→Bool}(h:∀ p k,Gf p k=false):∀ {q:Nat} {L:List Ent} {t:Nat},Svs lf Gf q L t→L=[]∧t=0
 |0,L,t,hs=>hs
 |q+1,L',t',⟨L,t,h1,h2⟩=>by
  obtain⟨rfl,rfl⟩:=zrM h h1;unfold Sv at h2;rw[if_neg]at h2
  ·exact⟨h2.2,h2.1⟩
  ·have:Gf q=fun _=>false:=funext fun k=>h q k
   rw[this];simp[anyG]
structure Hv(N nd nb n m:Nat)(X D DB DA M:Nat)(RB RA:Nat→Nat)(turn:Nat)(s:Dsk)(L:List Ent)(T:List It)(w:World):Prop where
 st:StE X D DB DA M RB RA nd nb turn s L w
 own:∀ b,SOwn X D M RB RA nd b→N≤b
 neat:Neat nb s.c L
 few:Few L
 len:L.length≤nb - 2
 kept:Kept s n
 turn:turn≤m
 rep:Rep L T
theorem ykF(c:Int):idN c∈[1,301,1201,2701,4801,7501]:=by
 have h:=zeW c (n:=6) (by omega);unfold idN;generalize zdJ c 6=k at h;rcases(by omega:k=0∨k=1∨k=2∨k=3∨k=4∨k=5) with rfl|rfl|rfl|rfl|rfl|rfl<;>simp
section
variable {X D DB DA M:Nat}{RB RA:Nat→Nat}{nd nb turn N n m:Nat}{s:Dsk}{L:List Ent}{T:List It}{w w' v:World}{S:Nat→Prop}
theorem Hv.kp0(h:Hv N nd nb n m X D DB DA M RB RA turn s L T w)(hK:Kp w (fun _=>False) w'):Hv N nd nb n m X D DB DA M RB RA turn s L T w':=⟨h.st.kp hK,h.own,h.neat,h.few,h.len,h.kept,h.turn,h.rep⟩
theorem Hv.off(h:Hv N nd nb n m X D DB DA M RB RA turn s L T w):Off N w (SOwn X D M RB RA nd):=SOwn.off h.st h.own
theorem Hv.did{a:Ac}{err turn':Nat}{s':Dsk}{L':List Ent}(h:Hv N nd nb (n+42) m X D DB DA M RB RA turn s L T w)(hd:Did nb s L turn a err s' L' turn')(hX:StE X D DB DA M RB RA nd nb turn' s' L' w'):Hv N nd nb n (m+1) X D DB DA M RB RA turn' s' L' (if err=0 then aftR a.it a.gone T else T) w':=by
 have ht:=h.turn;unfold Did at hd;cases hg:a.gone with
 |true=>
  rw[if_pos hg]at hd;cases hq:zbF (idN a.c) L 0 with
  |none=>
   rw[hq]at hd;obtain⟨rfl,rfl,rfl,rfl⟩:=hd;exact⟨hX,h.own,h.neat,h.few,h.len,h.kept.le (by omega),by omega,h.rep⟩
  |some q=>
   obtain⟨k,e⟩:=q;rw[hq]at hd;obtain⟨rfl,rfl,rfl,rfl⟩:=hd;refine⟨hX,h.own,h.neat.del h.st.ids h.st.slots hq,h.few.del,Nat.le_trans (zlV L _).length_le h.len,(h.kept.le (by omega)).blank,by omega,?_⟩;rw[if_pos rfl];exact h.rep.del a.it rfl h.st.ids hq
 |false=>
  rw[if_neg (by rw[hg];decide)]at hd;cases hf:zoD L nb (idN a.c) with
  |true=>
   rw[if_pos hf]at hd;obtain⟨rfl,rfl,rfl,rfl⟩:=hd;exact⟨hX,h.own,h.neat,h.few,h.len,h.kept.le (by omega),by omega,h.rep⟩
  |false=>
   rw[if_neg (by rw[hf];decide)]at hd;obtain⟨rfl,rfl,p,clock,hF,hP,rfl,rfl⟩:=hd;refine⟨hX,h.own,h.neat.put h.st.ids h.st.slots hF hP,h.few.put hP (ykF _),ygG h.len hf,h.kept.put,by omega,?_⟩;rw[if_pos rfl];exact h.rep.put hP
theorem Did.sound{a:Ac}{err turn':Nat}{s':Dsk}{L':List Ent}(h:zgM L)(hd:Did nb s L turn a err s' L' turn'):zgM L':=by
 unfold Did at hd;split at hd
 ·split at hd
  ·rw[hd.2.2.1];exact h
  ·rw[hd.2.2.1];exact h.del
 ·split at hd
  ·rw[hd.2.2.1];exact h
  ·obtain⟨_,_,p,clock,_,hP,_,rfl⟩:=hd;exact h.put hP fun _ _=>rfl
theorem Did.err{a:Ac}{err turn':Nat}{s':Dsk}{L':List Ent}(hd:Did nb s L turn a err s' L' turn'):err≤5∧(a.gone=true→err=0∨err=4)∧(a.gone=false→err=0∨err=5):=by
 unfold Did at hd;split at hd
 ·rename_i hg;split at hd
  ·rw[hd.1];simp[hg]
  ·rw[hd.1];simp[hg]
 ·rename_i hg;split at hd
  ·rw[hd.1];simp[hg]
  ·rw[hd.1];simp[hg]
theorem Hv.few6(h:Hv N nd nb n m X D DB DA M RB RA turn s L T w):L.length≤6:=h.few.len h.st.ids
theorem Rep.size{T:List It}(h:Rep L T)(hE:∀ e∈L,EntOk nb turn s.c e):∀ t∈T,t.size≤400:=fun t ht=>by
 obtain⟨e,he,rfl⟩:=(h.mem t).1 ht;exact(hE e he).size
end
def znY(N:Nat)(w:World)(p:Option Addr)(na:Nat)(A:Nat→Ac):Prop:=∀ i,i<na→(∃ B off,p=some ⟨B,off,none⟩∧B<N∧∀ k y,(A i).agg[k]?=some y→w.cell? ⟨B,off+i*3+k,none⟩=some y)∧(A i).Ok N w
theorem znY.kp{N:Nat}{w w':World}{Y:Nat→Prop}{p:Option Addr}{na:Nat}{A:Nat→Ac}(h:znY N w p na A)(hY:Off N w Y)(hK:Kp w Y w'):znY N w' p na A:=fun i hi=>by
 obtain⟨⟨B,off,h1,h2,h3⟩,h4⟩:=h i hi;exact⟨⟨B,off,h1,h2,fun k y hy=>hK.cell (fun hb=>by have:=(hY B hb).1;omega) (h3 k y hy)⟩,h4.kp hY hK⟩
theorem zjK{o:Oper}{a:Act}{x:Operand}{b off:Nat}{c:Ac}{u:World}(hop:o.op=.load 71 x)(hx:a.eval x=.pointer (some ⟨b,off,none⟩))(h:∀ k y,c.agg[k]?=some y→u.cell? ⟨b,off+k,none⟩=some y):(execOp a.eval o).run Tryz.prog u=.ok (.value (.agg c.agg)) u:=by
 have hl:=run_loadAt_mid (P:=Tryz.prog) u b off 71 c.agg.toList _ (fun i r hy=>h i r (by rw[←Array.getElem?_toList];exact hy)) Tryz.underlying71 rfl (by kernel_rfl);unfold execOp;simp only[hop,hx,Sem.run_bind,hl,Result.andThen_ok,Sem.run_pure]
def fstV(i:Nat):Nat:=if i=0 then 102 else if i=1 then 105 else if i=2 then 114 else if i=3 then 115 else if i=4 then 116 else 0
theorem ykJ(i:Nat):fstV i<256:=by
 unfold fstV;repeat' split
 all_goals omega
theorem znO{u:World}{o:Oper}{a:Act}(hop:o.op=Op.buildSlice 43 5 #[(0,.const (.int .u8 102)),(1,.const (.int .u8 105)),(2,.const (.int .u8 114)),(3,.const (.int .u8 115)),(4,.const (.int .u8 116))]):(execOp a.eval o).run Tryz.prog u=.ok (.value (.slice (some ⟨u.heap.size,0,none⟩) 5 5)) (u.alloc (.cells (zaE 5 fstV) 5)):=by
 obtain⟨inf,hq,h3,h1,_⟩:=zsX;have e:(zaE 5 fstV)=#[.int .u8 102,.int .u8 105,.int .u8 114,.int .u8 115,.int .u8 116]:=by
  apply Array.ext_getElem?;intro c;match c with
  |0=>simp[zaE,fstV]
  |1=>simp[zaE,fstV]
  |2=>simp[zaE,fstV]
  |3=>simp[zaE,fstV]
  |4=>simp[zaE,fstV]
  |c+5=>simp[zaE,fstV]
 rw[e];simp[execOp,hop,Act.eval,Instr.buildSlice,run_underlying Tryz.underlying43,sizeOf,typeInfo,hq,h1,zeroValue,h3,Value.cells,Instr.fill,newRow];refine congrArg (fun c=>u.alloc (Obj.cells c 5)) ?_;apply Array.ext_getElem?;intro c;match c with
 |0=>simp
 |1=>simp
 |2=>simp
 |3=>simp
 |4=>simp
 |c+5=>simp
end Go.Proofs.YtpiefebngnlfoaaGreatDoor
