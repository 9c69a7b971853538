import Derived.Test.YtpiefebngnlfoabGreatDoorNa
import Derived.Test.YtpiefebngnlfoabGreatDoorMr
set_option maxRecDepth 99999
set_option maxHeartbeats 0
set_option linter.unusedVariables false
set_option linter.unusedSimpArgs false
namespace Go.Proofs.YtpiefebngnlfoabGreatDoor
open Go.RowKit Go.Conc Go.Vw
def iM(N:Nat)(w:World)(p:Option Addr)(len cap:Nat)(x:Nat->Nat):Prop:=gM w p len cap x∧(0<len->∀ a,p=some a->a.block<w.heap.size∧(a.block<N∨∃ C fr,w.heap[a.block]?=some (.cells C 5 fr)))
def kN(N:Nat)(w:World)(Y:Nat->Prop):Prop:=∀ b,Y b->N<=b∧∀ C t fr,w.heap[b]?=some (.cells C t fr)->t≠5∧t≠65
theorem dM(N:Nat)(w:World):kN N w fun _=>False:=fun b h=>h.elim
theorem iM.kp{N:Nat}{w w':World}{Y:Nat->Prop}{p:Option Addr}{len cap:Nat}{x:Nat->Nat}(h:iM N w p len cap x)(hY:kN N w Y)(hK:Kp w Y w'):iM N w' p len cap x:=by
 have key:0<len->∀ a,p=some a->¬Y a.block:=fun h0 a ha hy=>by
  obtain⟨_,q|⟨C,fr,q⟩⟩:=h.2 h0 a ha
  .have:=(hY _ hy).1;omega
  .exact((hY _ hy).2 C _ _ q).1 rfl
 refine⟨?_,fun h0 a ha=>?_⟩
 .rcases h.1 with(⟨q1,q2,q3⟩|⟨B,off,q1,q2,q3⟩)|q
  .exact .inl (.inl ⟨q1,q2,q3⟩)
  .refine .inl (.inr ⟨B,off,q1,q2,fun j hj=>?_⟩)
   exact hK.cell (key (by omega) _ q1) (q3 j hj)
  .exact .inr q
 .obtain⟨q1,q2⟩:=h.2 h0 a ha;exact⟨Nat.lt_of_lt_of_le q1 hK.size,q2.imp id fun⟨C,fr,q⟩=>⟨C,fr,hK.cells _ _ _ _ (key h0 a ha) q⟩⟩
theorem iM.gr{N:Nat}{w w':World}{row:Option Nat}{p:Option Addr}{len cap:Nat}{x:Nat->Nat}(h:iM N w p len cap x)(g:Gr w w' row)(hr:∀ b,row=some b->N<=b∧∀ C fr,w.heap[b]?≠some (.cells C 5 fr)):iM N w' p len cap x:=by
 have key:0<len->∀ a,p=some a->some a.block≠row:=fun h0 a ha hy=>by
  obtain⟨_,q|⟨C,fr,q⟩⟩:=h.2 h0 a ha
  .have:=(hr _ hy.symm).1;omega
  .exact(hr _ hy.symm).2 C fr q
 refine⟨?_,fun h0 a ha=>?_⟩
 .rcases h.1 with(⟨q1,q2,q3⟩|⟨B,off,q1,q2,q3⟩)|q
  .exact .inl (.inl ⟨q1,q2,q3⟩)
  .refine .inl (.inr ⟨B,off,q1,q2,?_⟩);rcases Nat.eq_zero_or_pos len with h0|h0
   .intro j hj;omega
   .exact Wy g (h.2 h0 _ q1).1 (key h0 _ q1) q3
  .exact .inr q
 .obtain⟨q1,q2⟩:=h.2 h0 a ha;exact⟨Nat.lt_of_lt_of_le q1 g.size,q2.imp id fun⟨C,fr,q⟩=>⟨C,fr,g.row q (key h0 a ha)⟩⟩
structure Itp where
 it:It
 p:Option Addr
 cap:Nat
def jT:List Itp->List Value
 |[]=>[]
 |q :: Q=>.int .i64 (q.it.id:Nat) :: .slice q.p q.it.size q.cap :: jT Q
theorem Ee:∀ Q R:List Itp,jT (Q++R)=jT Q++jT R
 |[],R=>rfl
 |q :: Q,R=>by
  show _ :: _ :: jT (Q++R)=_ :: _ :: (jT Q++jT R);rw[Ee Q R]
theorem Ed:∀ {Q:List Itp} {j:Nat} {q:Itp},Q[j]?=some q->(jT Q)[j*2]?=some (.int .i64 (q.it.id:Nat))∧(jT Q)[j*2+1]?=some (.slice q.p q.it.size q.cap)
 |[],j,q,h=>by cases h
 |x :: Q,0,q,h=>by
  cases h
  exact⟨rfl,rfl⟩
 |x :: Q,j+1,q,h=>by
  have ih:=Ed (Q:=Q) (j:=j) (q:=q) (by simpa using h);rw[show(j+1)*2=j*2+2 by omega];exact ih
structure ItsQ(N base:Nat)(w:World)(sv:Value)(Q:List Itp):Prop where
 own:w.ownsRow base 65 2 sv Q.length (jT Q)
 sl:∀ q∈Q,iM N w q.p q.it.size q.cap q.it.val
def fC(N base:Nat)(w:World)(sv:Value)(T:List It):Prop:=∃ Q:List Itp,Q.map (·.it)=T∧ItsQ N base w sv Q
theorem kT{w:World}{base n g:Nat}{e:TypeId}{sv:Value}{xs:List Value}(h:w.ownsRow base e 2 sv n xs)(hg:sv.ownBlock=some g):base<=g∧∃ c,w.heap[g]?=some (.cells c e):=by
 rcases h.2 with⟨rfl,_⟩|⟨g',cap,cur,rfl,hb,hc,_⟩
 .cases hg
 .simp only[Value.ownBlock]at hg;cases hg
  exact⟨hb,_,hc⟩
theorem own2_gr{w w':World}{base n:Nat}{e:TypeId}{sv:Value}{xs:List Value}{row:Option Nat}(h:w.ownsRow base e 2 sv n xs)(g:Gr w w' row)(hr:∀ b,sv.ownBlock=some b->some b≠row):w'.ownsRow base e 2 sv n xs:=
 ⟨h.1,h.2.imp id fun⟨b,cap,cur,q1,q2,q3,q4⟩=>⟨b,cap,cur,q1,q2,g.row q3 (hr b (by rw[q1];rfl)),q4⟩⟩
theorem Xx{w w':World}{base n:Nat}{e:TypeId}{sv:Value}{xs:List Value}{Y:Nat->Prop}(h:w.ownsRow base e 2 sv n xs)(hK:Kp w Y w')(hr:∀ b,sv.ownBlock=some b->¬Y b):w'.ownsRow base e 2 sv n xs:=
 ⟨h.1,h.2.imp id fun⟨b,cap,cur,q1,q2,q3,q4⟩=>⟨b,cap,cur,q1,q2,hK.cells _ _ _ _ (hr b (by rw[q1];rfl)) q3,q4⟩⟩
theorem Sn{w u:World}{base n:Nat}{e:TypeId}{sv:Value}{xs:List Value}(h:w.ownsRow base e 2 sv n xs)(t:Vw.Twin w u):u.ownsRow base e 2 sv n xs:=
 ⟨h.1,h.2.imp id fun⟨b,cap,cur,q1,q2,q3,q4⟩=>⟨b,cap,cur,q1,q2,by rw[t.heap];exact q3,q4⟩⟩
theorem So{w:World}{base n:Nat}{e:TypeId}{sv:Value}{xs:List Value}(h:w.ownsRow base e 2 sv n xs):∃ p c,sv=.slice p n c:=by
 rcases h.2 with⟨e1,e2⟩|⟨b,cap,cur,q1,_⟩
 .exact⟨none,0,by rw[e1,e2]⟩
 .exact⟨_,_,q1⟩
theorem Po{w:World}{base base' n:Nat}{e:TypeId}{sv:Value}{xs:List Value}(h:w.ownsRow base e 2 sv n xs)(hb:base'<=base):w.ownsRow base' e 2 sv n xs:=
 ⟨h.1,h.2.imp id fun⟨g,cap,cur,q1,q2,q3⟩=>⟨g,cap,cur,q1,Nat.le_trans hb q2,q3⟩⟩
theorem ItsQ.kp{N base:Nat}{w w':World}{sv:Value}{Q:List Itp}{Y:Nat->Prop}(h:ItsQ N base w sv Q)(hY:kN N w Y)(hK:Kp w Y w'):ItsQ N base w' sv Q:=
 ⟨Xx h.own hK fun b hb hy=>by
  obtain⟨_,c,hc⟩:=kT h.own hb
  exact((hY b hy).2 c _ _ hc).2 rfl,fun q hq=>(h.sl q hq).kp hY hK⟩
theorem fC.kp{N base:Nat}{w w':World}{sv:Value}{T:List It}{Y:Nat->Prop}(h:fC N base w sv T)(hY:kN N w Y)(hK:Kp w Y w'):fC N base w' sv T:=let ⟨Q,h1,h2⟩:=h;⟨Q,h1,h2.kp hY hK⟩
theorem fC.kp0{N base:Nat}{w w':World}{sv:Value}{T:List It}(h:fC N base w sv T)(hK:Kp w (fun _=>False) w'):fC N base w' sv T:=h.kp (dM N w) hK
theorem fC.lower{N base base':Nat}{w:World}{sv:Value}{T:List It}(h:fC N base w sv T)(hb:base'<=base):fC N base' w sv T:=let ⟨Q,h1,h2⟩:=h;⟨Q,h1,Po h2.own hb,h2.sl⟩
theorem ItsQ.form{N base:Nat}{w:World}{sv:Value}{Q:List Itp}(h:ItsQ N base w sv Q):∃ p c,sv=.slice p Q.length c:=So h.own
theorem ItsQ.get{N base:Nat}{w:World}{sv:Value}{Q:List Itp}(h:ItsQ N base w sv Q){j:Nat}{q:Itp}(hq:Q[j]?=some q):∃ g cap,sv=.slice (some ⟨g,0,none⟩) Q.length cap∧Q.length<=cap∧w.cell? ⟨g,j*2,none⟩=some (.int .i64 (q.it.id:Nat))∧w.cell? ⟨g,j*2+1,none⟩=some (.slice q.p q.it.size q.cap):=by
 have hlt:=(List.getElem?_eq_some_iff.1 hq).1;rcases h.own.2 with⟨_,e2⟩|⟨g,cap,cur,q1,q2,q3,q4,q5,q6,q7⟩
 .omega
 .obtain⟨c0,c1⟩:=Ed hq;refine⟨g,cap,q1,q4,?_,?_⟩
  .rw[cell_of_row _ _ _ _ _ _ q3,<-Array.getElem?_toList];rw[<-q7,List.getElem?_take,if_pos (by omega)]at c0;exact c0
  .rw[cell_of_row _ _ _ _ _ _ q3,<-Array.getElem?_toList];rw[<-q7,List.getElem?_take,if_pos (by omega)]at c1;exact c1
theorem ItsQ.row{N base:Nat}{w:World}{sv:Value}{Q:List Itp}(h:ItsQ N base w sv Q)(hN:N<=base):∀ b,sv.ownBlock=some b->N<=b∧∀ C fr,w.heap[b]?≠some (.cells C 5 fr):=fun b hb=>by
 obtain⟨q1,c,q2⟩:=kT h.own hb;refine⟨by omega,fun C fr q=>?_⟩
 rw[q2]at q;cases q
theorem Ja:∃ i z,Tryz.prog.info? 65=some i∧i.zero=some z∧i.size=2∧i.bytes=32∧z=.agg #[.int .i64 0,.slice none 0 0]:=⟨_,_,rfl,rfl,rfl,rfl,rfl⟩
theorem qB{u:World}{o:Oper}{a:Act}{x:Operand}{y z:Value}(hop:o.op=Op.buildSlice 25 1 #[(0,x)])(hx:a.eval x=.agg #[y,z]):(execOp a.eval o).run Tryz.prog u=.ok (.value (.slice (some ⟨u.heap.size,0,none⟩) 1 1)) (u.alloc (.cells #[y,z] 65)):=by
 obtain⟨inf,zz,hq,h3,h1,_,h4⟩:=Ja;subst h4;simp[execOp,hop,hx,Instr.buildSlice,run_underlying Tryz.underlying25,sizeOf,typeInfo,hq,h1,zeroValue,h3,Value.cells,Instr.fill,newRow];refine congrArg (fun c=>u.alloc (Obj.cells c 65)) ?_;apply Array.ext_getElem?;intro c;match c with
 |0=>simp
 |1=>simp
 |c+2=>simp
theorem tJ{w u:World}{o:Oper}{a:Act}{s x:Operand}(hu:Vw.Twin w u)(base:Nat){sv:Value}{n:Nat}{xs:List Value}(hown:w.ownsRow base 65 2 sv n xs)
  {ad:Addr} {m c:Nat} {news:List Value} (hl:news.length=m*2) (hnews:∀ j y,news[j]?=some y->w.cell? (ad.add j)=some y) (h1c:∀ y∈news,y.oneCell'=true)
  (b1:n+m<=100000) (hb:base<=w.heap.size) (hop:o.op=Op.call {callee:=Callee.builtin Builtin.append,args:=#[s,x],argTypes:=#[25,25]}) (hs:a.eval s=sv) (hx:a.eval x=.slice (some ad) m c) :
  ∃ y w',((execOp a.eval o).run Tryz.prog u=.ok (.value y) w'∨((execOp a.eval o).run Tryz.prog u=.ok .skip w'∧y=undef))∧(w'.ownsRow base 65 2 y (n+m) (xs++news)∧Gr w w' sv.ownBlock∧(y=.slice none 0 0↔sv=.slice none 0 0∧m=0)):=by
 obtain⟨inf,zz,hq,h3,h1,h5,h4⟩:=Ja;obtain⟨v',w',hrun,ho,hg,hn⟩:=Bp (P:=Tryz.prog) hop base Tryz.underlying25 hq h3 h1 h5 (by rw[h4];rfl) (by omega) hs (Sn hown hu) hx hl (fun j y hy=>(Ext.twin hu).cell (hnews j y hy)) h1c (by unfold maxLen;omega) (by omega) (by rw[hu.heap];exact hb);exact⟨v',w',.inl hrun,ho,.of hu hg,hn⟩
theorem ItsQ.push{N base:Nat}{w w1 w2:World}{sv y:Value}{Q:List Itp}{q:Itp}(h:ItsQ N base w sv Q)(hN:N<=base)(hq:iM N w q.p q.it.size q.cap q.it.val)(hE:Ext w w1)(ho:w2.ownsRow base 65 2 y (Q.length+1) (jT Q++[.int .i64 (q.it.id:Nat),.slice q.p q.it.size q.cap]))(hg:Gr w1 w2 sv.ownBlock):ItsQ N base w2 y (Q++[q]):=by
 have h1:=h.kp (dM N w) (dB hE);refine⟨?_,fun x hx=>?_⟩
 .rw[Ee,List.length_append];exact ho
 .have hr:=h1.row hN;rcases List.mem_append.1 hx with hx|hx
  .exact(h1.sl x hx).gr hg hr
  .rw[List.mem_singleton.1 hx];exact(hq.kp (dM N w) (dB hE)).gr hg hr
theorem uS{w:World}{B:Nat}{y z:Value}(h:w.heap[B]?=some (.cells #[y,z] 65)):∀ j x,([y,z]:List Value)[j]?=some x->w.cell? ((⟨B,0,none⟩:Addr).add j)=some x:=fun j x hx=>by
 rw[Addr.add_lit,Nat.zero_add,cell_of_row _ _ _ _ _ _ h];rw[<-Array.getElem?_toList];exact hx
theorem dG.off{X D DB DA M:Nat}{RB RA:Nat->Nat}{nd nb turn N:Nat}{s:Dsk}{L:List Ent}{w:World}(h:StE X D DB DA M RB RA nd nb turn s L w)(hN:∀ b,dG X D M RB RA nd b->N<=b):kN N w (dG X D M RB RA nd):=by
 intro b hb;refine⟨hN b hb,fun C t fr hc=>?_⟩
 rcases hb with rfl|rfl|rfl|⟨d,hd,rfl|rfl⟩
 .rw[h.row]at hc;cases hc;exact⟨by decide,by decide⟩
 .obtain⟨cl,hm,_⟩:=h.map;rw[hm]at hc;cases hc
 .rw[h.dk.row]at hc;cases hc;exact⟨by decide,by decide⟩
 .rw[h.dk.rb d hd]at hc;cases hc;exact⟨by decide,by decide⟩
 .rw[h.dk.ra d hd]at hc;cases hc;exact⟨by decide,by decide⟩
section
variable {X D DB DA M:Nat}{RB RA:Nat->Nat}{nd nb turn:Nat}{s:Dsk}{L:List Ent}{w w' v:World}{S:Nat->Prop}
theorem Pj{α : Type}(f:Nat->α)(n:Nat):(List.range (n+1)).map f=(List.range n).map f++[f n]:=by
 rw[List.range_succ,List.map_append];rfl
theorem zbU{row:Option Nat}(hK:Kp v (fun _=>False) w)(hg:Gr w w' row)(hr:∀ b,row=some b->v.heap.size<=b):Kp v (fun _=>False) w':=
 ⟨Nat.le_trans hK.size hg.size,hg.os.trans hK.os,hg.output.trans hK.output,fun b o hb hc ht=>hg.row (hK.objs b o hb hc ht) fun e=>by
  have h1:=hr b e.symm;have h2:=(Array.getElem?_eq_some_iff.1 hc).1
  omega⟩
def pH(h:Nat->Hl):Nat->Nat
 |0=>0
 |j+1=>(h j).id
theorem Tells.rep{n:Nat}{h:Nat->Hl}{E:Nat->Ent}(H:Tells L n h)(hids:(L.map (·.id)).Nodup)(hE:∀ i,i<n->E i∈L∧h i=bZ (E i)):Rep L ((List.range n).map fun i=>fG (E i)):=by
 refine⟨?_,fun x=>⟨fun hx=>?_,?_⟩⟩
 .unfold jW;rw[List.pairwise_map];refine List.Pairwise.imp_of_mem ?_ (List.pairwise_lt_range (n:=n));intro a b ha hb hlt;have h1:=H.sort a b hlt (List.mem_range.1 hb);rw[(hE a (List.mem_range.1 ha)).2,(hE b (List.mem_range.1 hb)).2]at h1;exact h1
 .obtain⟨i,hi,rfl⟩:=List.mem_map.1 hx;exact⟨E i,(hE i (List.mem_range.1 hi)).1,rfl⟩
 .rintro⟨e,he,rfl⟩;obtain⟨i,hi,q⟩:=H.all e he;refine List.mem_map.2 ⟨i,List.mem_range.2 hi,?_⟩;obtain⟨q1,q2⟩:=hE i hi;rw[q]at q2;have q3:e.id=(E i).id:=congrArg Hl.id q2;rw[jA (f:=fun x:Ent=>x.id) hids he q1 q3]
theorem Pw(N:Nat)(hN:N<=v.heap.size)(hL:L.length<=12)(hg:Tryz.prog.globals.size<=v.heap.size)(ht:turn<18446744073709551616)(hn1:14<=nd)(hnd:nd<=18)(hnb:nb<=64)(hX:StE X D DB DA M RB RA nd nb turn s L v) :
  aJ Tryz.prog 14 #[.pointer (some ⟨X,0,none⟩)] S v fun x S' v'=>Kp v (fun _=>False) v'∧∃ sv T,x=.tuple #[sv,.bool true]∧Rep L T∧T.length=L.length∧fC N v.heap.size v' sv T:=by
 refine dQ Tryz.func14 rfl Tryz.ntmps14 fun Stop cc cs ret f g0=>?_
 repeat refine rN ?_
 refine rK Tryz.func11 (Ib hL hX) ?_;rintro _ S1 w1 _ ⟨e1,n,g,h,rfl,hl⟩;subst S1;have H:=hl.tells hX.ids;have HnL:=aG hl.len;obtain⟨E,hE⟩:∃ E:Nat->Ent,∀ i,i<n->E i∈L∧h i=bZ (E i):=by
  obtain⟨E,hE⟩:=Classical.axiomOfChoice (r:=fun(i:Nat) (e:Ent)=>i<n->e∈L∧h i=bZ e) fun i=>by
   by_cases hi:i<n
   .obtain⟨e,q1,q2⟩:=H.yes i hi;exact⟨e,fun _=>⟨q1,q2⟩⟩
   .exact⟨⟨0,0,0,0,fun _=>0,fun _=>true,0⟩,fun q=>absurd q hi⟩
  exact⟨E,hE⟩
 have hRep:=H.rep hX.ids hE;have hK1:=hl.kp;have hr1:=hl.row;have hn12:n<=12:=by rw[HnL.out];exact hL
 repeat refine rN ?_
 refine bP (fun d f' S' w=>∃ j Q ov,d=n - j∧j<=n∧Kp v (fun _=>False) w∧w.heap[g]?=some (.cells (hA n h) 38)∧Hid (Q.map (·.it)=(List.range j).map (fun i=>fG (E i)))∧Q.length=j∧ItsQ N v.heap.size w ov Q∧f' 4=ov∧f' 0=.pointer (some ⟨X,0,none⟩)∧f' 5=.slice (some ⟨g,0,none⟩) n n∧f' 6=.int .i64 (pH h j:Nat)∧f' 7=.int .i64 (j:Nat)) n ⟨0,[],.slice none 0 0,by omega,by omega,hK1,hr1,aG rfl,rfl,⟨World.ownsRow_nil _ _ _ _,fun q hq=>(by cases hq)⟩,by simp,by simp[g0],by simp,by simp[pH],by simp⟩ ?_
 clear g0 f;rintro d f S' w ⟨j,Q,ov,rfl,hj,hK,hr,HQ,hQl,hQ,g4,g0,g5,g6,g7⟩ nxt;repeat refine rN ?_
 by_cases hlt:j<n
 .have hjI:(j:Int)<(n:Int):=by omega
  obtain⟨hm,hh⟩:=hE j hlt;have hok:=hX.ent _ hm;obtain⟨e,he⟩:∃ e,e=E j:=⟨_,rfl⟩;have HE:=aG he;rw[<-he]at hm hh hok;clear he;obtain⟨k,hq⟩:=uU hX.ids hm;have hXw:=hX.kp hK;have cell:∀ {w':World},Kp w (fun _=>False) w'->∀ k,k<3->w'.cell? ⟨g,j*3+k,none⟩=some (lZ (bZ e) k):=fun hK' k hk=>by
   rw[cell_of_row _ _ _ _ _ _ (hK'.cells _ _ _ _ (fun x=>x) hr),iG (by omega),show(j*3+k) / 3=j by omega,show(j*3+k) % 3=k by omega,hh]
  have ci:∀ {w':World},Kp w (fun _=>False) w'->w'.cell? ⟨g,j*3,none⟩=some (.int .i64 (e.id:Nat)):=fun hK'=>cell hK' 0 (by omega)
  have csz:∀ {w':World},Kp w (fun _=>False) w'->w'.cell? ⟨g,j*3+1,none⟩=some (.int .i64 (e.size:Nat)):=fun hK'=>cell hK' 1 (by omega)
  obtain⟨bd,hbd⟩:∃ bd,bd=14 - aN e.good 14:=⟨_,rfl⟩;have hb4:bd<=4:=by
   have:=hok.ten;omega
  have cb:∀ {w':World},Kp w (fun _=>False) w'->w'.cell? ⟨g,j*3+2,none⟩=some (.int .i64 (bd:Nat)):=fun hK'=>by
   rw[hbd];exact cell hK' 2 (by omega)
  clear cell hbd;have hlast:pH h j<e.id:=by
   cases j with
   |zero=>exact hok.id1
   |succ j=>
    have:=H.sort j (j+1) (by omega) hlt;rw[hh]at this;exact this
  have hlI:¬((e.id:Nat):Int)<=((pH h j:Nat):Int):=by omega
  have hb0I:¬((bd:Nat):Int)<0:=by omega
  have hb4I:¬(4:Int)<((bd:Nat):Int):=by omega
  generalize pH h j=la at *
  have c0:=ci (.refl w _);refine rX (by simp[Act.eval,g7,g5,hjI,hlt]) ?_;repeat refine rM c0 ?_
  refine cY Tryz.func34 (zaE e.id k e hq hok.id1 hok.id2 (Nat.le_trans hg hK.size) ht hn1 hnd hnb hXw) ?_;rintro _ S2 w2 _ ⟨hK2,BV,rfl,hBV,hrB⟩;simp only[stO_some,sl];have c1:=ci hK2;have c2:=csz hK2;have c3:=cb hK2;have hQ2:=hQ.kp (dM N w) hK2;have hr2:=hK2.cells _ _ _ _ (fun x=>x) hr;repeat (first|refine rM c1 ?_|refine rM c2 ?_|refine rM c3 ?_)
  refine rZ (by simp[Act.eval]) ?_;repeat refine rM c1 ?_
  refine bS (Q:=fun x w3=>x=.slice (some ⟨w2.heap.size,0,none⟩) 1 1∧Ext w2 w3∧w3.heap[w2.heap.size]?=some (.cells #[.int .i64 (e.id:Nat),.slice (some ⟨BV,0,none⟩) e.size e.size] 65)) aB rfl rfl (by kernel_rfl) (fun u hu=>⟨_,_,.inl (qB (x:=.tmp 76) (y:=.int .i64 (e.id:Nat)) (z:=.slice (some ⟨BV,0,none⟩) e.size e.size) rfl (by simp)),by rw[hu.heap],(Ext.twin hu).trans _ _ _ (Ext.alloc _ _),by rw[<-hu.heap];exact cN _ _⟩) ?_
  rintro _ w3 ⟨rfl,hE3,hr3⟩;simp only[stO_some];have hQ3:=hQ2.kp (dM N w2) (dB hE3);refine bS aB rfl rfl (by kernel_rfl) (fun u hu=>tJ (s:=.tmp 69) (x:=.tmp 77) (ad:=⟨w2.heap.size,0,none⟩) (m:=1) (c:=1) (news:=[.int .i64 (e.id:Nat),.slice (some ⟨BV,0,none⟩) e.size e.size]) hu v.heap.size hQ3.own rfl (uS hr3) (fun y hy=>by rcases List.mem_cons.1 hy with rfl|hy;rfl;rw[List.mem_singleton.1 hy];rfl) (by omega) (Nat.le_trans (hK.trans hK2).size hE3.size) rfl (by simp[g4]) (by simp)) ?_;rintro ov' w4 ⟨ho4,hg4,_⟩;simp only[stO_some];have hsl:iM N w2 (some ⟨BV,0,none⟩) e.size e.size e.val:=⟨.inl (.inr ⟨BV,0,rfl,Nat.le_refl _,fun i hi=>by rw[cell_of_row _ _ _ _ _ _ hrB,Nat.zero_add];exact dV _ _ _ hi⟩),fun _ a ha=>by cases ha;exact⟨(Array.getElem?_eq_some_iff.1 hrB).1,.inr ⟨_,_,hrB⟩⟩⟩
  have hQ4:ItsQ N v.heap.size w4 ov' (Q++[⟨fG e,some ⟨BV,0,none⟩,e.size⟩]):=hQ2.push (q:=⟨fG e,some ⟨BV,0,none⟩,e.size⟩) hN hsl hE3 ho4 hg4;have hK4:Kp v (fun _=>False) w4:=zbU ((hK.trans hK2).ext hE3) hg4 fun b hb=>(kT hQ3.own hb).1
  have hgn:some g≠ov.ownBlock:=fun hb=>by
   obtain⟨_,c,hc⟩:=kT hQ3.own hb.symm;rw[hE3.row hr2]at hc;cases hc
  have hr4:=hg4.row (hE3.row hr2) hgn;have c4:w4.cell? ⟨g,j*3,none⟩=some (.int .i64 (e.id:Nat)):=by
   rw[cell_of_row _ _ _ _ _ _ hr4,<-cell_of_row _ _ _ _ _ _ hr2];exact c1
  repeat refine rM c4 ?_
  refine nxt _ _ _ (n - (j+1)) (by omega) ⟨j+1,_,ov',rfl,by omega,hK4,hr4,aG ?_,?_,hQ4,by simp,by simp[g0],by simp[g5],by simp[pH,hh,bZ],by simp⟩
  .rw[List.map_append,HQ.out,Pj,<-HE.out];rfl
  .rw[List.length_append,hQl];rfl
 .obtain rfl:j=n:=by omega
  refine rZ (by simp[Act.eval,g7,g5]) ?_;refine bH rfl ?_;repeat refine rN ?_
  refine aP fun todo=>?_
  refine ret _ _ S' w (.tuple #[ov,.bool true]) ?_ ⟨hK,ov,Q.map (·.it),rfl,?_,?_,Q,rfl,hQ⟩
  .simp[results,Tryz.results14,g4]
  .rw[HQ.out];exact hRep
  .rw[List.length_map,hQl,HnL.out]
end
