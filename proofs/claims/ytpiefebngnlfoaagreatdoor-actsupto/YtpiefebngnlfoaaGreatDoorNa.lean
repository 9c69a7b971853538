import Derived.Test.YtpiefebngnlfoaaGreatDoorMr
set_option maxRecDepth 99999
set_option maxHeartbeats 0
set_option linter.unusedVariables false
set_option linter.unusedSimpArgs false
namespace Go.Proofs.YtpiefebngnlfoaaGreatDoor
def nH:Code->List Code
 |.seq a b=>nH a++nH b
 |.cond _ a b=>nH a++nH b
 |.block _ c=>nH c
 |.loop c=>.loop c::nH c
 |_=>[]
def gU(n:Nat)(c:Code):Code:=(nH c).getD n .skip
end Go.Proofs.YtpiefebngnlfoaaGreatDoor
namespace Go.Vw
open Go.Conc
theorem Kp.new{v w w':World}{X Y:Nat->Prop}(h:Kp v X w)(k:Kp w Y w')(hY:∀b,Y b->v.heap.size<=b∨X b):Kp v X w':=⟨ak h.size k.size,k.os.trans h.os,k.output.trans h.output,λb o hb ho ht=>k.objs b o (λhy=>by
 rcases hY b hy with q|q
 .have:=(Array.getElem?_eq_some_iff.1 ho).1;omega
 .exact hb q) (h.objs b o hb ho ht) ht⟩
theorem Kp.or{v w w':World}{X Y:Nat->Prop}(h:Kp v X w)(k:Kp w Y w'):Kp v (λb=>X b∨Y b) w':=⟨ak h.size k.size,k.os.trans h.os,k.output.trans h.output,λb o hb ho ht=>k.objs b o (λhy=>hb (.inr hy)) (h.objs b o (λhx=>hb (.inl hx)) ho ht) ht⟩
end Go.Vw
namespace Go.Proofs.YtpiefebngnlfoaaGreatDoor
open Go.RowKit Go.Conc Go.Vw
def fA(N:Nat)(w:World)(p:Option Addr)(len cap:Nat)(x:Nat->Nat):Prop:=fV w p len cap x∧(0<len->∀a,p=some a->a.block<w.heap.size∧(a.block<N∨∃C fr,w.heap[a.block]?=some (.cells C 5 fr)))
def jM(t:TypeId):Bool:=[5,43,94,91,9,40,51].contains t
def dC(N:Nat)(w:World)(Y:Nat->Prop):Prop:=∀b,Y b->N<=b∧∀C t fr,w.heap[b]?=some (.cells C t fr)->jM t=false
def Mut(N:Nat)(w:World)(b:Nat):Prop:=N<=b∧∀C t fr,w.heap[b]?=some (.cells C t fr)->jM t=false
theorem Mut.off(N:Nat)(w:World):dC N w (Mut N w):=λ_ h=>h
def Fr(N:Nat)(w w':World):Prop:=Kp w (Mut N w) w'
theorem Fr.refl(N:Nat)(w:World):Fr N w w:=Kp.refl _ _
theorem Fr.trans{N:Nat}{a b c:World}(h:Fr N a b)(k:Fr N b c):Fr N a c:=⟨ak h.size k.size,k.os.trans h.os,k.output.trans h.output,λx o hx ho ht=>by
 have h1:=h.objs x o hx ho ht
 exact k.objs x o (λhm=>hx ⟨hm.1,λC t fr q=>hm.2 C t fr (by rw[h1,<-ho];exact q)⟩) h1 ht⟩
theorem Fr.of{N:Nat}{w w':World}{Y:Nat->Prop}(hY:dC N w Y)(hK:Kp w Y w'):Fr N w w':=⟨hK.size,hK.os,hK.output,λb o hb ho ht=>hK.objs b o (λhy=>hb (hY b hy)) ho ht⟩
theorem Fr.ext{N:Nat}{w w':World}(h:Ext w w'):Fr N w w':=.of (Y:=λ_=>False) (λ_ h=>h.elim) (aS h)
theorem Fr.kp0{N:Nat}{w w':World}(h:Kp w (λ_=>False) w'):Fr N w w':=.of (Y:=λ_=>False) (λ_ h=>h.elim) h
theorem dM(N:Nat)(w:World):dC N w λ_=>False:=λb h=>h.elim
theorem fA.kp{N:Nat}{w w':World}{Y:Nat->Prop}{p:Option Addr}{len cap:Nat}{x:Nat->Nat}(h:fA N w p len cap x)(hY:dC N w Y)(hK:Kp w Y w'):fA N w' p len cap x:=by
 have key:0<len->∀a,p=some a->¬Y a.block:=λh0 a ha hy=>by
  obtain⟨_,q|⟨C,fr,q⟩⟩:=h.2 h0 a ha
  .have:=(hY _ hy).1;omega
  .exact absurd ((hY _ hy).2 C _ _ q) (by decide)
 refine⟨?_,λh0 a ha=>?_⟩
 .rcases h.1 with(⟨q1,q2,q3⟩|⟨B,off,q1,q2,q3⟩)|q
  .exact .inl (.inl ⟨q1,q2,q3⟩)
  .refine .inl (.inr ⟨B,off,q1,q2,λj hj=>?_⟩);exact hK.cell (key (by omega) _ q1) (q3 j hj)
  .exact .inr q
 .obtain⟨q1,q2⟩:=h.2 h0 a ha;exact⟨bg q1 hK.size,q2.imp id λ⟨C,fr,q⟩=>⟨C,fr,hK.cells _ _ _ _ (key h0 a ha) q⟩⟩
theorem fA.gr{N:Nat}{w w':World}{row:Option Nat}{p:Option Addr}{len cap:Nat}{x:Nat->Nat}(h:fA N w p len cap x)(g:Gr w w' row)(hr:∀b,row=some b->N<=b∧∀C fr,w.heap[b]?≠some (.cells C 5 fr)):fA N w' p len cap x:=by
 have key:0<len->∀a,p=some a->some a.block≠row:=λh0 a ha hy=>by
  obtain⟨_,q|⟨C,fr,q⟩⟩:=h.2 h0 a ha
  .have:=(hr _ hy.symm).1;omega
  .exact(hr _ hy.symm).2 C fr q
 refine⟨?_,λh0 a ha=>?_⟩
 .rcases h.1 with(⟨q1,q2,q3⟩|⟨B,off,q1,q2,q3⟩)|q
  .exact .inl (.inl ⟨q1,q2,q3⟩)
  .refine .inl (.inr ⟨B,off,q1,q2,?_⟩);rcases Nat.eq_zero_or_pos len with h0|h0
   .intro j hj;omega
   .exact Vx g (h.2 h0 _ q1).1 (key h0 _ q1) q3
  .exact .inr q
 .obtain⟨q1,q2⟩:=h.2 h0 a ha;exact⟨bg q1 g.size,q2.imp id λ⟨C,fr,q⟩=>⟨C,fr,g.row q (key h0 a ha)⟩⟩
structure Itp where
 it:It
 p:Option Addr
 cap:Nat
def dY:List Itp->List Value
 |[]=>[]
 |q::Q=>.int .i64 (q.it.id:Nat)::.slice q.p q.it.size q.cap::dY Q
theorem sU:∀Q:List Itp,(dY Q).length=Q.length*2
 |[]=>rfl
 |q::Q=>by unfold dY;rw[av,av,av,sU Q];omega
theorem wS:∀Q R:List Itp,dY (Q++R)=dY Q++dY R
 |[],R=>rfl
 |q::Q,R=>by show _::_::dY (Q++R)=_::_::(dY Q++dY R);rw[wS Q R]
theorem Cx:∀{Q:List Itp}{j:Nat}{q:Itp},Q[j]?=some q->(dY Q)[j*2]?=some (.int .i64 (q.it.id:Nat))∧(dY Q)[j*2+1]?=some (.slice q.p q.it.size q.cap)
 |[],j,q,h=>by cases h
 |x::Q,0,q,h=>by
  cases h
  exact⟨rfl,rfl⟩
 |x::Q,j+1,q,h=>by have ih:=Cx (Q:=Q) (j:=j) (q:=q) (by simpa using h);rw[show(j+1)*2=j*2+2 by omega];exact ih
theorem wR:∀{Q:List Itp},∀y∈dY Q,y.oneCell'=true
 |[],y,h=>by cases h
 |q::Q,y,h=>by
  rcases List.mem_cons.1 h with rfl|h
  .rfl
  .rcases List.mem_cons.1 h with rfl|h
   .rfl
   .exact wR y h
structure ItsQ(N base:Nat)(w:World)(sv:Value)(Q:List Itp):Prop where
 own:w.ownsRow base 51 2 sv Q.length (dY Q)
 sl:∀q∈Q,fA N w q.p q.it.size q.cap q.it.val
def eI(N base:Nat)(w:World)(sv:Value)(T:List It):Prop:=∃Q:List Itp,Q.map (·.it)=T∧ItsQ N base w sv Q
theorem oF{w:World}{base n g:Nat}{e:TypeId}{sv:Value}{xs:List Value}(h:w.ownsRow base e 2 sv n xs)(hg:sv.ownBlock=some g):base<=g∧∃c,w.heap[g]?=some (.cells c e):=by
 rcases h.2 with⟨rfl,_⟩|⟨g',cap,cur,rfl,hb,hc,_⟩
 .cases hg
 .simp only[Value.ownBlock]at hg;cases hg;exact⟨hb,_,hc⟩
theorem own2_gr{w w':World}{base n:Nat}{e:TypeId}{sv:Value}{xs:List Value}{row:Option Nat}(h:w.ownsRow base e 2 sv n xs)(g:Gr w w' row)(hr:∀b,sv.ownBlock=some b->some b≠row):w'.ownsRow base e 2 sv n xs:=
 ⟨h.1,h.2.imp id λ⟨b,cap,cur,q1,q2,q3,q4⟩=>⟨b,cap,cur,q1,q2,g.row q3 (hr b (by rw[q1];rfl)),q4⟩⟩
theorem Xj{w w':World}{base n:Nat}{e:TypeId}{sv:Value}{xs:List Value}{Y:Nat->Prop}(h:w.ownsRow base e 2 sv n xs)(hK:Kp w Y w')(hr:∀b,sv.ownBlock=some b->¬Y b):w'.ownsRow base e 2 sv n xs:=
 ⟨h.1,h.2.imp id λ⟨b,cap,cur,q1,q2,q3,q4⟩=>⟨b,cap,cur,q1,q2,hK.cells _ _ _ _ (hr b (by rw[q1];rfl)) q3,q4⟩⟩
theorem Rf{w u:World}{base n:Nat}{e:TypeId}{sv:Value}{xs:List Value}(h:w.ownsRow base e 2 sv n xs)(t:Vw.Twin w u):u.ownsRow base e 2 sv n xs:=
 ⟨h.1,h.2.imp id λ⟨b,cap,cur,q1,q2,q3,q4⟩=>⟨b,cap,cur,q1,q2,by rw[t.heap];exact q3,q4⟩⟩
theorem Rg{w:World}{base n:Nat}{e:TypeId}{sv:Value}{xs:List Value}(h:w.ownsRow base e 2 sv n xs):∃p c,sv=.slice p n c:=by
 rcases h.2 with⟨e1,e2⟩|⟨b,cap,cur,q1,_⟩
 .exact⟨none,0,by rw[e1,e2]⟩
 .exact⟨_,_,q1⟩
theorem Oc{w:World}{base wq n:Nat}{e:TypeId}{sv:Value}{xs:List Value}(h:w.ownsRow base e 2 sv n xs)(hb:wq<=base):w.ownsRow wq e 2 sv n xs:=
 ⟨h.1,h.2.imp id λ⟨g,cap,cur,q1,q2,q3⟩=>⟨g,cap,cur,q1,ak hb q2,q3⟩⟩
theorem ItsQ.kp{N base:Nat}{w w':World}{sv:Value}{Q:List Itp}{Y:Nat->Prop}(h:ItsQ N base w sv Q)(hY:dC N w Y)(hK:Kp w Y w'):ItsQ N base w' sv Q:=
 ⟨Xj h.own hK λb hb hy=>by
  obtain⟨_,c,hc⟩:=oF h.own hb
  exact absurd ((hY b hy).2 c _ _ hc) (by decide),λq hq=>(h.sl q hq).kp hY hK⟩
theorem eI.kp{N base:Nat}{w w':World}{sv:Value}{T:List It}{Y:Nat->Prop}(h:eI N base w sv T)(hY:dC N w Y)(hK:Kp w Y w'):eI N base w' sv T:=let ⟨Q,h1,h2⟩:=h;⟨Q,h1,h2.kp hY hK⟩
theorem eI.kp0{N base:Nat}{w w':World}{sv:Value}{T:List It}(h:eI N base w sv T)(hK:Kp w (λ_=>False) w'):eI N base w' sv T:=h.kp (dM N w) hK
theorem eI.lower{N base wq:Nat}{w:World}{sv:Value}{T:List It}(h:eI N base w sv T)(hb:wq<=base):eI N wq w sv T:=let ⟨Q,h1,h2⟩:=h;⟨Q,h1,Oc h2.own hb,h2.sl⟩
theorem ItsQ.form{N base:Nat}{w:World}{sv:Value}{Q:List Itp}(h:ItsQ N base w sv Q):∃p c,sv=.slice p Q.length c:=Rg h.own
theorem ItsQ.get{N base:Nat}{w:World}{sv:Value}{Q:List Itp}(h:ItsQ N base w sv Q){j:Nat}{q:Itp}(hq:Q[j]?=some q):∃g cap,sv=.slice (some ⟨g,0,none⟩) Q.length cap∧Q.length<=cap∧w.cell? ⟨g,j*2,none⟩=some (.int .i64 (q.it.id:Nat))∧w.cell? ⟨g,j*2+1,none⟩=some (.slice q.p q.it.size q.cap):=by
 have dp:=(List.getElem?_eq_some_iff.1 hq).1;rcases h.own.2 with⟨_,e2⟩|⟨g,cap,cur,q1,q2,q3,q4,q5,q6,q7⟩
 .omega
 .obtain⟨c0,c1⟩:=Cx hq;refine⟨g,cap,q1,q4,?_,?_⟩
  .rw[ab _ _ _ _ _ _ q3,<-bd];rw[<-q7,List.getElem?_take,ai (by omega)]at c0;exact c0
  .rw[ab _ _ _ _ _ _ q3,<-bd];rw[<-q7,List.getElem?_take,ai (by omega)]at c1;exact c1
theorem ItsQ.row{N base:Nat}{w:World}{sv:Value}{Q:List Itp}(h:ItsQ N base w sv Q)(hN:N<=base):∀b,sv.ownBlock=some b->N<=b∧∀C fr,w.heap[b]?≠some (.cells C 5 fr):=λb hb=>by
 obtain⟨q1,c,q2⟩:=oF h.own hb;refine⟨by omega,λC fr q=>?_⟩
 rw[q2]at q;cases q
theorem Hx:∃i z,Tryz.prog.info? 51=some i∧i.zero=some z∧i.size=2∧i.bytes=32∧z=.agg #[.int .i64 0,.slice none 0 0]:=⟨_,_,rfl,rfl,rfl,rfl,rfl⟩
theorem vW{u:World}{o:Oper}{a:Act}{x:Operand}{y z:Value}(dm:o.op=Op.buildSlice 48 1 #[(0,x)])(hx:a.eval x=.agg #[y,z]):(execOp a.eval o).run Tryz.prog u=.ok (.value (.slice (some ⟨u.heap.size,0,none⟩) 1 1)) (u.alloc (.cells #[y,z] 51)):=by
 obtain⟨inf,zz,hq,h3,h1,_,h4⟩:=Hx;subst h4;simp[execOp,dm,hx,Instr.buildSlice,cw Tryz.underlying48,sizeOf,typeInfo,hq,h1,zeroValue,h3,Value.cells,Instr.fill,newRow];refine congrArg (λc=>u.alloc (Obj.cells c 51)) ?_;apply au;intro c;match c with
 |0=>simp
 |1=>simp
 |c+2=>simp
theorem vJ{w u:World}{o:Oper}{a:Act}{s x:Operand}(hu:Vw.Twin w u)(base:Nat){sv:Value}{n:Nat}{xs:List Value}(gm:w.ownsRow base 51 2 sv n xs)
  {ad:Addr} {m c:Nat} {news:List Value} (hl:news.length=m*2) (iw:∀j y,news[j]?=some y->w.cell? (ad.add j)=some y) (xh:∀y∈news,y.oneCell'=true)
  (b1:n+m<=100000) (hb:base<=w.heap.size) (dm:o.op=Op.call {callee:=Callee.builtin Builtin.append,args:=#[s,x],argTypes:=#[48,48]}) (hs:a.eval s=sv) (hx:a.eval x=.slice (some ad) m c) :
  ∃y w',((execOp a.eval o).run Tryz.prog u=.ok (.value y) w'∨((execOp a.eval o).run Tryz.prog u=.ok .skip w'∧y=undef))∧(w'.ownsRow base 51 2 y (n+m) (xs++news)∧Gr w w' sv.ownBlock∧(y=.slice none 0 0↔sv=.slice none 0 0∧m=0)):=by
 obtain⟨inf,zz,hq,h3,h1,h5,h4⟩:=Hx;obtain⟨v',w',dq,ho,hg,hn⟩:=Ak (P:=Tryz.prog) dm base Tryz.underlying48 hq h3 h1 h5 (by rw[h4];rfl) (by omega) hs (Rf gm hu) hx hl (λj y hy=>(Ext.twin hu).cell (iw j y hy)) xh (by unfold maxLen;omega) (by omega) (by rw[hu.heap];exact hb);exact⟨v',w',.inl dq,ho,.of hu hg,hn⟩
theorem ItsQ.push{N base:Nat}{w w1 w2:World}{sv y:Value}{Q:List Itp}{q:Itp}(h:ItsQ N base w sv Q)(hN:N<=base)(hq:fA N w q.p q.it.size q.cap q.it.val)(hE:Ext w w1)(ho:w2.ownsRow base 51 2 y (Q.length+1) (dY Q++[.int .i64 (q.it.id:Nat),.slice q.p q.it.size q.cap]))(hg:Gr w1 w2 sv.ownBlock):ItsQ N base w2 y (Q++[q]):=by
 have h1:=h.kp (dM N w) (aS hE);refine⟨?_,λx hx=>?_⟩
 .rw[wS,cd];exact ho
 .have hr:=h1.row hN;rcases List.mem_append.1 hx with hx|hx
  .exact(h1.sl x hx).gr hg hr
  .rw[List.mem_singleton.1 hx];exact(hq.kp (dM N w) (aS hE)).gr hg hr
theorem Ri{w:World}{B:Nat}{y z:Value}(h:w.heap[B]?=some (.cells #[y,z] 51)):∀j x,([y,z]:List Value)[j]?=some x->w.cell? ((⟨B,0,none⟩:Addr).add j)=some x:=λj x hx=>by rw[Addr.add_lit,an,ab _ _ _ _ _ _ h];rw[<-bd];exact hx
theorem dG.off{X D DB DA M:Nat}{RB RA:Nat->Nat}{nd nb turn N:Nat}{s:Dsk}{L:List Ent}{w:World}(h:StE X D DB DA M RB RA nd nb turn s L w)(hN:∀b,dG X D M RB RA nd b->N<=b):dC N w (dG X D M RB RA nd):=by
 intro b hb;refine⟨hN b hb,λC t fr hc=>?_⟩;rcases hb with rfl|rfl|rfl|⟨d,hd,rfl|rfl⟩
 .rw[h.row]at hc;cases hc;decide
 .obtain⟨cl,hm,_⟩:=h.map;rw[hm]at hc;cases hc
 .rw[h.dk.row]at hc;cases hc;decide
 .rw[h.dk.rb d hd]at hc;cases hc;decide
 .rw[h.dk.ra d hd]at hc;cases hc;decide
theorem Iq{w w1 w2:World}{row:Option Nat}(hE:Ext w w1)(h:Gr w1 w2 row):Gr w w2 row:=⟨h.os.trans hE.os,h.output.trans hE.output,ak hE.size h.size,λk hk hr=>(h.block k (bg hk hE.size) hr).trans (hE.block k hk)⟩
theorem iJ{w w':World}{row:Option Nat}(h:Gr w w' row):Kp w (λb=>row=some b) w':=⟨h.size,h.os,h.output,λb o hb ho _=>by
 rw[h.block b (Array.getElem?_eq_some_iff.1 ho).1 λe=>hb e.symm]
 exact ho⟩
theorem fO{w w':World}{g:Nat}{o:Obj}(h:Wr w g o w'):Kp w (λb=>b=g) w':=⟨by rw[h.size];exact ae _,h.os,h.output,λb o' hb ho _=>by rw[h.other b hb];exact ho⟩
structure Sx where
 X:Nat
 D:Nat
 DB:Nat
 DA:Nat
 M:Nat
 nd:Nat
 nb:Nat
 turn:Nat
 RB:Nat->Nat
 RA:Nat->Nat
 s:Dsk
 L:List Ent
def Sx.own(x:Sx)(b:Nat):Prop:=dG x.X x.D x.M x.RB x.RA x.nd b
def Sx.St(x:Sx)(w:World):Prop:=StE x.X x.D x.DB x.DA x.M x.RB x.RA x.nd x.nb x.turn x.s x.L w
structure Ho(N n m:Nat)(x:Sx)(T:List It)(w:World):Prop where
 st:x.St w
 own:∀b,x.own b->N<=b
 neat:Neat x.nb x.s.c x.L
 sound:jY x.L
 len:x.L.length<=x.nb-2
 kept:bA x.s n
 turn:x.turn<=m
 rep:Rep x.L T
 b4:4<=x.nb
 b23:x.nb<=23
 n14:14<=x.nd
 n18:x.nd<=18
section
variable {N n m n' m' id:Nat}{x:Sx}{T:List It}{w w' v:World}{L:List Ent}
theorem Ho.put_st(h:Ho N n m x T w)(q:x.St w'):Ho N n m x T w':=⟨q,h.own,h.neat,h.sound,h.len,h.kept,h.turn,h.rep,h.b4,h.b23,h.n14,h.n18⟩
theorem Ho.kp0(h:Ho N n m x T w)(hK:Kp w (λ_=>False) w'):Ho N n m x T w':=h.put_st (StE.kp h.st hK)
theorem Ho.le(h:Ho N n m x T w)(h1:n'<=n)(h2:m<=m'):Ho N n' m' x T w:=⟨h.st,h.own,h.neat,h.sound,h.len,h.kept.le h1,ak h.turn h2,h.rep,h.b4,h.b23,h.n14,h.n18⟩
theorem kS.ids{T:List It}(h:kS T):(T.map (·.id)).Nodup:=by unfold List.Nodup;rw[List.pairwise_map];exact h.imp λ{a b} q=>by show a.id≠b.id;omega
theorem Rep.leq{L:List Ent}(h:Rep L T)(jr:(L.map (·.id)).Nodup):T.length=L.length:=by
 have h1:=vG (l:=T.map (·.id)) (m:=L.map (·.id)) h.srt.ids λi hi=>by obtain⟨t,ht,rfl⟩:=List.mem_map.1 hi;obtain⟨e,he,rfl⟩:=(h.mem t).1 ht;exact List.mem_map.2 ⟨e,he,rfl⟩
 have h2:=vG (l:=L.map (·.id)) (m:=T.map (·.id)) jr λi hi=>by obtain⟨e,he,rfl⟩:=List.mem_map.1 hi;exact List.mem_map.2 ⟨fR e,(h.mem _).2 ⟨e,he,rfl⟩,rfl⟩
 rw[bz,bz]at h1 h2;omega
theorem Ho.tlen(h:Ho N n m x T w):T.length=x.L.length:=h.rep.leq h.st.ids
theorem Ho.tl(h:Ho N n m x T w):T.length<=21:=by have:=h.tlen;have:=h.len;have:=h.b23;omega
theorem Rep.none(h:Rep L T)(hn:∀t∈T,t.id≠id):aQ id L 0=none:=by
 cases hq:aQ id L 0 with
 |none=>rfl
 |some q=>obtain⟨k,h1,h2,h3⟩:=eJ (e:=q.2) (j:=q.1) hq;exact absurd h3 (hn (fR q.2) ((h.mem _).2 ⟨q.2,al h2,rfl⟩))
theorem Rep.some(h:Rep L T){t:It}(ht:t∈T)(hi:t.id=id):∃k e,aQ id L 0=.some (k,e)∧fR e=t:=by
 cases hq:aQ id L 0 with
 |none=>obtain⟨e,he,rfl⟩:=(h.mem t).1 ht;exact absurd hi (sP hq e he)
 |some q=>
  obtain⟨k,h1,h2,h3⟩:=eJ (e:=q.2) (j:=q.1) hq;refine⟨q.1,q.2,rfl,?_⟩;have hm:=(h.mem _).2 ⟨q.2,al h2,rfl⟩;have gh:=h.srt;by_cases e:fR q.2=t
  .exact e
  .have:(fR q.2).id≠t.id:=by
    intro q';obtain⟨i,FB⟩:=List.mem_iff_getElem?.1 hm;obtain⟨j,ZJ⟩:=List.mem_iff_getElem?.1 ht;have G9:i≠j:=λe'=>e (by subst e';rw[FB]at ZJ;exact bm ZJ);obtain⟨i1,i2⟩:=List.getElem?_eq_some_iff.1 FB;obtain⟨j1,j2⟩:=List.getElem?_eq_some_iff.1 ZJ;rcases Nat.lt_or_gt_of_ne G9 with q|q
    .have:=List.pairwise_iff_getElem.1 gh i j i1 j1 q;rw[i2,j2]at this;omega
    .have:=List.pairwise_iff_getElem.1 gh j i j1 i1 q;rw[i2,j2]at this;omega
   exact absurd (show(fR q.2).id=t.id from h3.trans hi.symm) this
theorem Ho.put{len p clock:Nat}{val:Nat->Nat}(h:Ho N (n+42) m x T w)(hf:gL x.L x.nb id=false)(hF:zQ x.L x.nb p)(hP:PutOk x.L ⟨id,len,x.turn+1,p,val,λ_=>true,0⟩ clock)(hX:StE x.X x.D x.DB x.DA x.M x.RB x.RA x.nd x.nb (x.turn+1) (jI x.s x.L p id len (x.turn+1) val) (bS x.L ⟨id,len,x.turn+1,p,val,λ_=>true,0⟩ clock) w'):Ho N n (m+1) {x with turn:=x.turn+1,s:=jI x.s x.L p id len (x.turn+1) val,L:=bS x.L ⟨id,len,x.turn+1,p,val,λ_=>true,0⟩ clock} (aZ ⟨id,len,val⟩ false T) w':=
 ⟨hX,h.own,h.neat.put h.st.ids h.st.slots hF hP,h.sound.put hP λ_ _=>rfl,Uo h.len hf,h.kept.put,Nat.succ_le_succ h.turn,h.rep.put hP,h.b4,h.b23,h.n14,h.n18⟩
theorem Ho.del{k:Nat}{e:Ent}{t:It}(h:Ho N (n+42) m x T w)(hq:aQ id x.L 0=some (k,e))(ht:t.id=id)(hX:StE x.X x.D x.DB x.DA x.M x.RB x.RA x.nd x.nb x.turn (gW x.s e.slot e.good) (fH x.L id) w'):Ho N n (m+1) {x with s:=gW x.s e.slot e.good,L:=fH x.L id} (aZ t true T) w':=
 ⟨hX,h.own,h.neat.del h.st.ids h.st.slots hq,h.sound.del,ak (yB x.L id).length_le h.len,(h.kept.le (by omega)).blank,Nat.le_succ_of_le h.turn,h.rep.del t ht h.st.ids hq,h.b4,h.b23,h.n14,h.n18⟩
theorem xK:∀n,aT (λ_=>false) n=0
 |0=>rfl
 |n+1=>by rw[pT,xK n];simp
theorem Eh{nd nb:Nat}(T:Nat->ByteArray):Harm nd nb T T λ_=>false:=⟨by rw[xK];omega,λ_ _ _=>rfl,λ_ _ h=>(by cases h)⟩
theorem Ho.slots{wr:Nat}(h:Ho N n m x T w)(ht:m<18446744073709551616):(∀p,p<x.nb->SlotK (dA (λd=>eD x.nb (x.s.a d)) wr).c p (iR x.L p) (eO x.L (dA (λd=>eD x.nb (x.s.a d)) wr).c p))∧∀e∈x.L,∀k,k<14->eO x.L (dA (λd=>eD x.nb (x.s.a d)) wr).c e.slot k=true:=by have UY:=Nat.lt_of_le_of_lt h.turn ht;rw[show x.s.a=x.s.c from h.kept.1];refine⟨λp hp=>(Eg h.sound h.neat h.st.ent UY h.st.dk.byte h.n14 (Eh _) hp).1,λe he k hk=>?_⟩;exact(Eg h.sound h.neat h.st.ent UY h.st.dk.byte h.n14 (Eh _) (h.st.ent e he).slot).2 e (Hh h.st.slots he) k hk rfl
theorem Ho.remount{wr N' X' D' IJ UR M' ia:Nat}{KP PE:Nat->Nat}{L':List Ent}(h:Ho N n m x T w)(ht:m<18446744073709551616)(FN:kA (iR x.L) (eO x.L (dA (λd=>eD x.nb (x.s.a d)) wr).c) x.nb L' ia)(hX:StE X' D' IJ UR M' KP PE x.nd x.nb ia (eY (dA (λd=>eD x.nb (x.s.a d)) wr) (fG L') x.nb) L' w')(gm:∀b,dG X' D' M' KP PE x.nd b->N'<=b)(XJ:n'+28*x.nb<=wr):Ho N' n' m ⟨X',D',IJ,UR,M',x.nd,x.nb,ia,KP,PE,eY (dA (λd=>eD x.nb (x.s.a d)) wr) (fG L') x.nb,L'⟩ T w':=by
 obtain⟨qo,AX⟩:=h.slots (wr:=wr) ht;have GA:∀e∈x.L,10<=aT (eO x.L (dA (λd=>eD x.nb (x.s.a d)) wr).c e.slot) 14:=λe he=>by have h1:=Cw (g:=eO x.L (dA (λd=>eD x.nb (x.s.a d)) wr).c e.slot) (h:=λ_=>false) 14 λk hk _=>AX e he k hk;rw[xK]at h1;omega
 obtain⟨i1,i2,i3⟩:=Fa h.st.ids h.st.slots (λe he=>(h.st.ent e he).turn) GA FN;have hle:L'.length<=x.L.length:=by
  have:=vG (l:=L'.map (·.id)) (m:=x.L.map (·.id)) hX.ids λy hy=>by obtain⟨e,he,rfl⟩:=List.mem_map.1 hy;obtain⟨e0,q1,_,q3,_⟩:=i1 e he;exact List.mem_map.2 ⟨e0,q1,q3.id.symm⟩
  rwa [bz,bz]at this
 refine⟨hX,gm,⟨λe he k hk hg=>?_,λp hp fe k hk j hj=>?_⟩,λe he k hk=>?_,ak hle h.len,bA.sweep x.nb ⟨rfl,XJ⟩,ak i3 h.turn,h.rep.same (λe he=>?_) λe0 BB=>?_,h.b4,h.b23,h.n14,h.n18⟩
 .obtain⟨e0,q1,q2,q3,q4⟩:=i1 e he;have zn:fG L' e.slot=true:=pX.2 ⟨e,he,rfl⟩;show ¬gX ((eY _ _ _).c _ _);rw[xB zn];rw[q4,yX hk]at hg;rw[q3.slot];exact(qo e0.slot q2).no k hk hg
 .have zn:fG L' p=false:=by
   cases hq:fG L' p with
   |false=>rfl
   |true=>obtain⟨e,he,hs⟩:=pX.1 hq;exact absurd hs (fe e he)
  exact sX zn hk hj x.nb hp
 .obtain⟨e0,q1,q2,q3,q4⟩:=i1 e he;rw[q4,yX hk];exact AX e0 q1 k hk
 .obtain⟨e0,q1,_,q3,_⟩:=i1 e he;refine⟨e0,q1,?_⟩;unfold fR;rw[q3.id,q3.size,q3.val]
 .obtain⟨e,q1,q3⟩:=i2 e0 BB (h.st.ent e0 BB).slot;refine⟨e,q1,?_⟩;unfold fR;rw[q3.id,q3.size,q3.val]
end
def iM(i:Nat):Nat:=1+i%251
theorem Hv(i:Nat):iM i<256:=by unfold iM;omega
def iN(te:TypeId)(es:Nat)(z:Value)(w:World)(e:Value):Prop:=∃p len cap,e=.slice p len cap∧len<=1000∧len<=cap∧(len=0∨∃B C,p=some ⟨B,0,none⟩∧w.heap[B]?=some (.cells C te)∧∀j,j<len->C[j*es]?=some z)
def kC(ts te:TypeId)(es:Nat)(z:Value)(w:World)(y:Value):Prop:=∃E e0 e1 e2 e3,y=.slice (some ⟨E,0,none⟩) 4 4∧w.heap[E]?=some (.cells #[e0,e1,e2,e3] ts)∧iN te es z w e0∧iN te es z w e1∧iN te es z w e2∧iN te es z w e3
def aH(N:Nat)(wy ts te:TypeId)(es:Nat)(zf:Nat->Value)(n:Nat)(sv:Value)(w:World):Prop:=∃xs,w.ownsRow N wy 1 sv n xs∧∀i,i<n->∃y,xs[i]?=some y∧kC ts te es (zf i) w y
section
variable {N n es:Nat}{wy ts te:TypeId}{z e y sv:Value}{w w' w1 w2:World}{Y:Nat->Prop}{zf:Nat->Value}
theorem iN.kp(h:iN te es z w e)(hm:jM te=true)(hY:dC N w Y)(hK:Kp w Y w'):iN te es z w' e:=by
 obtain⟨p,len,cap,h1,h2,h3,h4⟩:=h;refine⟨p,len,cap,h1,h2,h3,h4.imp id ?_⟩;rintro⟨B,C,q1,q2,q3⟩
 exact⟨B,C,q1,hK.cells _ _ _ _ (λhy=>by
  have:=(hY B hy).2 _ _ _ q2;rw[hm]at this
  cases this) q2,q3⟩
theorem kC.kp(h:kC ts te es z w y)(hm:jM te=true)(hs:jM ts=true)(hY:dC N w Y)(hK:Kp w Y w'):kC ts te es z w' y:=by
 obtain⟨E,e0,e1,e2,e3,h1,h2,q0,q1,q2,q3⟩:=h
 exact⟨E,e0,e1,e2,e3,h1,hK.cells _ _ _ _ (λhy=>by
  have:=(hY E hy).2 _ _ _ h2;rw[hs]at this
  cases this) h2,q0.kp hm hY hK,q1.kp hm hY hK,q2.kp hm hY hK,q3.kp hm hY hK⟩
theorem cZ{base:Nat}{e:TypeId}{xs:List Value}(h:w.ownsRow base e 1 sv n xs)(hK:Kp w Y w')(hr:∀b C,Y b->w.heap[b]?≠some (.cells C e)):w'.ownsRow base e 1 sv n xs:=
 ⟨h.1,h.2.imp id λ⟨b,cap,cur,q1,q2,q3,q4⟩=>⟨b,cap,cur,q1,q2,hK.cells _ _ _ _ (λhy=>hr b cur hy q3) q3,q4⟩⟩
theorem aH.kp(h:aH N wy ts te es zf n sv w)(hm:jM te=true)(hs:jM ts=true)(hY:dC N w Y)(hK:Kp w Y w')(hr:∀b C,Y b->w.heap[b]?≠some (.cells C wy)):aH N wy ts te es zf n sv w':=by obtain⟨xs,h1,h2⟩:=h;refine⟨xs,cZ h1 hK hr,λi hi=>?_⟩;obtain⟨y,q1,q2⟩:=h2 i hi;exact⟨y,q1,q2.kp hm hs hY hK⟩
theorem aH.form(h:aH N wy ts te es zf n sv w):∃p c,sv=.slice p n c:=by
 obtain⟨xs,h1,h2⟩:=h;rcases h1.2 with⟨e1,e2⟩|⟨g,cap,cur,e1,_⟩
 .exact⟨none,0,by rw[e1,e2]⟩
 .exact⟨_,_,e1⟩
theorem aH.nil:aH N wy ts te es zf 0 (.slice none 0 0) w:=⟨[],World.ownsRow_nil _ _ _ _,λi hi=>by omega⟩
theorem aH.ent(h:aH N wy ts te es zf n sv w){i k:Nat}(hi:i<n)(hk:k<4):∃g cb E p len cap,sv=.slice (some ⟨g,0,none⟩) n cb∧w.cell? ⟨g,i,none⟩=some (.slice (some ⟨E,0,none⟩) 4 4)∧w.cell? ⟨E,k,none⟩=some (.slice p len cap)∧len<=1000∧∀j,j<len->∃B,p=some ⟨B,0,none⟩∧w.cell? ⟨B,j*es,none⟩=some (zf i):=by
 obtain⟨xs,q1,q2⟩:=h;obtain⟨g,cap,cur,r1,r2,r3,r4,r5,r6⟩:=lD q1 (.inl (by omega));obtain⟨y,s1,E,e0,e1,e2,e3,t1,t3,t4,t5,t6,t7⟩:=q2 i hi;have hc:w.cell? ⟨g,i,none⟩=some y:=by rw[ab _ g i _ _ _ r3,r6 i hi];exact s1
 have fin:∀e,w.cell? ⟨E,k,none⟩=some e->iN te es (zf i) w e->∃g cb E p len cap,sv=.slice (some ⟨g,0,none⟩) n cb∧w.cell? ⟨g,i,none⟩=some (.slice (some ⟨E,0,none⟩) 4 4)∧w.cell? ⟨E,k,none⟩=some (.slice p len cap)∧len<=1000∧∀j,j<len->∃B,p=some ⟨B,0,none⟩∧w.cell? ⟨B,j*es,none⟩=some (zf i):=by
  rintro e he ⟨p,len,cp,u1,u2,_,u3⟩;refine⟨g,cap,E,p,len,cp,r1,by rw[hc,t1],by rw[he,u1],u2,λj hj=>?_⟩;rcases u3 with u|⟨B,C,b1,b2,b3⟩
  .omega
  .exact⟨B,b1,(ab _ B _ _ _ _ b2).trans (b3 j hj)⟩
 have hk4:k=0∨k=1∨k=2∨k=3:=by omega
 rcases hk4 with rfl|rfl|rfl|rfl
 .exact fin e0 ((ab _ E 0 _ _ _ t3).trans rfl) t4
 .exact fin e1 ((ab _ E 1 _ _ _ t3).trans rfl) t5
 .exact fin e2 ((ab _ E 2 _ _ _ t3).trans rfl) t6
 .exact fin e3 ((ab _ E 3 _ _ _ t3).trans rfl) t7
theorem aH.push(h:aH N wy ts te es zf n sv w)(hm:jM te=true)(hs:jM ts=true){xs:List Value}{IL y':Value}(pg:w.ownsRow N wy 1 sv n xs)(ya:∀i,i<n->∃y,xs[i]?=some y∧kC ts te es (zf i) w y)(hY:dC N w Y)(hK:Kp w Y w')(ho:w'.ownsRow N wy 1 IL (n+1) (xs++[y']))(hy:kC ts te es (zf n) w' y'):aH N wy ts te es zf (n+1) IL w':=by
 refine⟨_,ho,λi hi=>?_⟩;have D8:=pg.1;simp only[Nat.mul_one]at D8;by_cases e:i<n
 .obtain⟨y,q1,q2⟩:=ya i e;exact⟨y,by rw[List.getElem?_append_left (by omega)];exact q1,q2.kp hm hs hY hK⟩
 .obtain rfl:i=n:=by omega
  exact⟨y',by simp[D8],hy⟩
end
def zB(i:Nat):Value:=.int .u8 ((iM i:Nat):Int)
def zH(i:Nat):Value:=.int .i64 (-7000-(i:Int))
def zT(i:Nat):Value:=.string ⟨#[UInt8.ofNat (iM i)]⟩
def two(f:Nat->Value):List Value:=[f 0,f 1]
structure Wv where
 sv:Value
 nv:Value
 lv:Value
 bv:Value
 hv:Value
 tv:Value
 kv:Nat->Value
 b:Nat
 h:Nat
 t:Nat
def Wv.row(g:Wv):Array Value:=#[g.sv,g.nv,g.lv,g.bv,.slice none 0 0,g.hv,g.tv]
structure Wm(N W:Nat)(x:Nat->Sx)(T:Nat->List It)(g:Wv)(w:World):Prop where
 new:N<=W
 row:w.heap[W]?=some (.cells g.row 34)
 s:w.ownsRow N 36 1 g.sv 2 (two λk=>.pointer (some ⟨(x k).X,0,none⟩))
 n:w.ownsRow N 3 1 g.nv 2 (two λk=>.int .i64 ((x k).nb:Nat))
 l:w.ownsRow N 48 1 g.lv 2 (two g.kv)
 k:∀k,k<2->eI N N w (g.kv k) (T k)
 b:aH N 89 43 5 1 zB g.b g.bv w
 h:aH N 92 91 94 3 zH g.h g.hv w
 t:aH N 95 40 9 1 zT g.t g.tv w
structure Wd(N W n m q:Nat)(x:Nat->Sx)(T:Nat->List It)(g:Wv)(w:World):Prop where
 mem:Wm N W x T g w
 st:∀k,k<2->Ho N n m (x k) (T k) w
 ap:∀b,(x 0).own b->¬(x 1).own b
 cnt:g.b<=q∧g.h<=q∧g.t<=q
section
variable {N W n m q n' m' q' k:Nat}{x:Nat->Sx}{T:Nat->List It}{g:Wv}{w w' v:World}{Y:Nat->Prop}
theorem Wm.kp(h:Wm N W x T g w)(hY:dC N w Y)(hK:Kp w Y w')(hr:∀b C t,Y b->w.heap[b]?=some (.cells C t)->[34,36,3,48,89,92,95].contains t=false):Wm N W x T g w':=
 ⟨h.new,hK.cells _ _ _ _ (λhy=>absurd (hr W _ _ hy h.row) (by decide)) h.row,cZ h.s hK λb C hy hc=>absurd (hr b _ _ hy hc) (by decide),cZ h.n hK λb C hy hc=>absurd (hr b _ _ hy hc) (by decide),cZ h.l hK λb C hy hc=>absurd (hr b _ _ hy hc) (by decide),λk hk=>(h.k k hk).kp hY hK,h.b.kp rfl rfl hY hK λb C hy hc=>absurd (hr b _ _ hy hc) (by decide),h.h.kp rfl rfl hY hK λb C hy hc=>absurd (hr b _ _ hy hc) (by decide),h.t.kp rfl rfl hY hK λb C hy hc=>absurd (hr b _ _ hy hc) (by decide)⟩
theorem Wm.kp0(h:Wm N W x T g w)(hK:Kp w (λ_=>False) w'):Wm N W x T g w':=h.kp (dM N w) hK λ_ _ _ h=>h.elim
theorem Wd.kp0(h:Wd N W n m q x T g w)(hK:Kp w (λ_=>False) w'):Wd N W n m q x T g w':=⟨h.mem.kp0 hK,λk hk=>(h.st k hk).kp0 hK,h.ap,h.cnt⟩
theorem Wd.le(h:Wd N W n m q x T g w)(h1:n'<=n)(h2:m<=m')(h3:q<=q'):Wd N W n' m' q' x T g w:=⟨h.mem,λk hk=>(h.st k hk).le h1 h2,h.ap,by have:=h.cnt;omega⟩
theorem StE.noT{X D DB DA M:Nat}{RB RA:Nat->Nat}{nd nb turn:Nat}{s:Dsk}{L:List Ent}(h:StE X D DB DA M RB RA nd nb turn s L w){ty:TypeId}(h1:ty≠80)(h2:ty≠115)(h3:ty≠137):∀b,dG X D M RB RA nd b->∀C fr,w.heap[b]?≠some (.cells C ty fr):=by
 rintro b (rfl|rfl|rfl|⟨d,hd,rfl|rfl⟩) C fr hq
 .rw[h.row]at hq;cases hq;exact h1 rfl
 .obtain⟨cl,hm,_⟩:=h.map;rw[hm]at hq;cases hq
 .rw[h.dk.row]at hq;cases hq;exact h2 rfl
 .rw[h.dk.rb d hd]at hq;cases hq;exact h3 rfl
 .rw[h.dk.ra d hd]at hq;cases hq;exact h3 rfl
theorem StE.ty{X D DB DA M:Nat}{RB RA:Nat->Nat}{nd nb turn:Nat}{s:Dsk}{L:List Ent}(h:StE X D DB DA M RB RA nd nb turn s L w):∀b C t,dG X D M RB RA nd b->w.heap[b]?=some (.cells C t)->t=80∨t=115∨t=137:=by
 rintro b C t (rfl|rfl|rfl|⟨d,hd,rfl|rfl⟩) hq
 .rw[h.row]at hq;cases hq;exact .inl rfl
 .obtain⟨cl,hm,_⟩:=h.map;rw[hm]at hq;cases hq
 .rw[h.dk.row]at hq;cases hq;exact .inr (.inl rfl)
 .rw[h.dk.rb d hd]at hq;cases hq;exact .inr (.inr rfl)
 .rw[h.dk.ra d hd]at hq;cases hq;exact .inr (.inr rfl)
theorem Ho.off{x:Sx}{T:List It}(h:Ho N n m x T w):dC N w x.own:=dG.off h.st h.own
theorem Ho.two{x y:Sx}{T T':List It}(h:Ho N n m x T w)(h':Ho N n' m' y T' w)(qj:∀b,x.own b->¬y.own b)(hK:Kp w y.own w'):Ho N n m x T w':=
 h.put_st ⟨hK.cells _ _ _ _ (qj x.X (.inl rfl)) h.st.row,let ⟨cl,q1,q2⟩:=h.st.map;⟨cl,hK.objs _ _ (qj x.M (.inr (.inl rfl))) q1 trivial,q2⟩,h.st.dk.kp hK (qj x.D (.inr (.inr (.inl rfl)))) (λq=>StE.noT h'.st (ty:=116) (by decide) (by decide) (by decide) x.DB q _ _ h.st.dk.db) (λq=>StE.noT h'.st (ty:=116) (by decide) (by decide) (by decide) x.DA q _ _ h.st.dk.da) λd hd=>⟨qj _ (.inr (.inr (.inr ⟨d,hd,.inl rfl⟩))),qj _ (.inr (.inr (.inr ⟨d,hd,.inr rfl⟩)))⟩,h.st.ent,h.st.ids,h.st.slots,h.st.borns⟩
def cR(x:Nat->Sx)(k:Nat)(y:Sx):Nat->Sx:=λi=>if i=k then y else x i
def iK(T:Nat->List It)(k:Nat)(l:List It):Nat->List It:=λi=>if i=k then l else T i
theorem Wm.st_kp(h:Wm N W x T g w){y:Sx}{U:List It}(hy:Ho N n m y U w)(hK:Kp w y.own w'):Wm N W x T g w':=
 h.kp hy.off hK λb C t hb hc=>by rcases StE.ty hy.st b C t hb hc with rfl|rfl|rfl<;>decide
theorem kR(hk:k<2):k=0∨k=1:=by omega
theorem Wd.act{y:Sx}{U:List It}(h:Wd N W n m q x T g w)(hk:k<2)(hn:n'<=n)(hm:m<=m')(hK:Kp w (x k).own w')(hy:Ho N n' m' y U w')(hX:y.X=(x k).X)(ho:∀b,y.own b↔(x k).own b)(hb:y.nb=(x k).nb):Wm N W (cR x k y) T g w'∧(∀i,i<2->Ho N n' m' (cR x k y i) (iK T k U i) w')∧(∀b,(cR x k y 0).own b->¬(cR x k y 1).own b):=by
 have nh:=h.mem.st_kp (h.st k hk) hK;have e:∀i,(cR x k y i).X=(x i).X∧(cR x k y i).nb=(x i).nb:=λi=>by
  unfold cR;by_cases e:i=k
  .subst e;rw[ai rfl];exact⟨hX,hb⟩
  .rw[ah e];exact⟨rfl,rfl⟩
 refine⟨⟨nh.new,nh.row,?_,?_,nh.l,nh.k,nh.b,nh.h,nh.t⟩,λi hi=>?_,λb=>?_⟩
 .have:=nh.s;simp only[two]at this⊢;rw[(e 0).1,(e 1).1];exact this
 .have:=nh.n;simp only[two]at this⊢;rw[(e 0).2,(e 1).2];exact this
 .unfold cR iK;by_cases e:i=k
  .rw[ai e,ai e];exact hy
  .rw[ah e,ah e];refine((h.st i hi).two (h.st k hk) (λb=>?_) hK).le hn hm;rcases kR hk with rfl|rfl<;>rcases kR hi with rfl|rfl
   .exact absurd rfl e
   .exact λq1 q2=>h.ap b q2 q1
   .exact h.ap b
   .exact absurd rfl e
 .unfold cR;rcases kR hk with rfl|rfl
  .rw[ai rfl,ah (by decide)];exact λq=>h.ap b ((ho b).1 q)
  .rw[ah (by decide),ai rfl];exact λq1 q2=>h.ap b q1 ((ho b).1 q2)
def YW(W:Nat)(g:Wv)(b:Nat):Prop:=b=W∨g.sv.ownBlock=some b∨g.lv.ownBlock=some b∨g.bv.ownBlock=some b∨g.hv.ownBlock=some b∨g.tv.ownBlock=some b
theorem Wm.yw(h:Wm N W x T g w){b:Nat}(hb:YW W g b):N<=b∧∃C t,w.heap[b]?=some (.cells C t)∧(t=34∨t=36∨t=48∨t=89∨t=92∨t=95):=by
 rcases hb with rfl|hb|hb|hb|hb|hb
 .exact⟨h.new,_,_,h.row,.inl rfl⟩
 .obtain⟨C,hc⟩:=dL h.s hb;exact⟨jB h.s hb,C,_,hc,.inr (.inl rfl)⟩
 .obtain⟨C,hc⟩:=dL h.l hb;exact⟨jB h.l hb,C,_,hc,.inr (.inr (.inl rfl))⟩
 .obtain⟨xs,q,_⟩:=h.b;obtain⟨C,hc⟩:=dL q hb;exact⟨jB q hb,C,_,hc,.inr (.inr (.inr (.inl rfl)))⟩
 .obtain⟨xs,q,_⟩:=h.h;obtain⟨C,hc⟩:=dL q hb;exact⟨jB q hb,C,_,hc,.inr (.inr (.inr (.inr (.inl rfl))))⟩
 .obtain⟨xs,q,_⟩:=h.t;obtain⟨C,hc⟩:=dL q hb;exact⟨jB q hb,C,_,hc,.inr (.inr (.inr (.inr (.inr rfl))))⟩
theorem Wm.offY(h:Wm N W x T g w):dC N w (YW W g):=λb hb=>by
 obtain⟨h1,C,t,h2,h3⟩:=h.yw hb;refine⟨h1,λC' t' fr hc=>?_⟩
 rw[h2]at hc;cases hc
 rcases h3 with rfl|rfl|rfl|rfl|rfl|rfl<;>decide
theorem Wm.noYS(h:Wm N W x T g w){y:Sx}{U:List It}(hy:Ho N n m y U w):∀b,y.own b->¬YW W g b:=λb hb hY=>by obtain⟨_,C,t,h2,h3⟩:=h.yw hY;rcases StE.ty hy.st b C t hb h2 with rfl|rfl|rfl<;>revert h3<;>decide
theorem Ho.yw{y:Sx}{U:List It}(h:Ho N n m y U w)(hm:Wm N W x T g w)(hK:Kp w (YW W g) w'):Ho N n m y U w':=by
 have qj:=hm.noYS h;have fe:∀b C fr,w.heap[b]?=some (.cells C 116 fr)->¬YW W g b:=λb C fr hc hY=>by obtain⟨_,C',t,h2,h3⟩:=hm.yw hY;rw[hc]at h2;cases h2;revert h3;decide
 exact h.put_st ⟨hK.cells _ _ _ _ (qj y.X (.inl rfl)) h.st.row,let ⟨cl,q1,q2⟩:=h.st.map;⟨cl,hK.objs _ _ (qj y.M (.inr (.inl rfl))) q1 trivial,q2⟩,h.st.dk.kp hK (qj y.D (.inr (.inr (.inl rfl)))) (fe _ _ _ h.st.dk.db) (fe _ _ _ h.st.dk.da) λd hd=>⟨qj _ (.inr (.inr (.inr ⟨d,hd,.inl rfl⟩))),qj _ (.inr (.inr (.inr ⟨d,hd,.inr rfl⟩)))⟩,h.st.ent,h.st.ids,h.st.slots,h.st.borns⟩
end
def nF(c:Int)(n:Nat):Nat:=((if c<0 then -(c+1) else c)%(n:Int)).toNat
theorem xV(c:Int){n:Nat}(hn:0<n):nF c n<n:=by have hl:=Int.emod_lt_of_pos (if c<0 then -(c+1) else c) (show(0:Int)<(n:Int) by omega);have hp:=Int.emod_nonneg (if c<0 then -(c+1) else c) (show(n:Int)≠0 by omega);unfold nF;omega
section
variable {v:World}{S:Nat->Prop}
theorem yO(c:Int)(n:Nat)(hn:0<n)(LU:n<=1000000)(h1:-9223372036854775808<=c)(h2:c<=9223372036854775807):aJ Tryz.prog 6 #[.int .i64 c,.int .i64 (n:Nat)] S v λx S' v'=>x=.int .i64 (nF c n:Nat)∧S'=S∧v'=v:=by
 refine cX Tryz.func6 rfl Tryz.ntmps6 λStop cc cs ret f g0 g1=>?_;have yx:¬(n:Int)=0:=by omega
 have hnz':¬n=0:=by omega
 unfold nF at ret;by_cases GP:c<0
 .rw[ai GP]at ret;have hp:=Int.emod_nonneg (-(c+1)) yx;have hl:=Int.emod_lt_of_pos (-(c+1)) (show(0:Int)<(n:Int) by omega);have e:(((-(c+1))%(n:Int)).toNat:Int)=(-(c+1)).tmod n:=by
   rw[Int.tmod_eq_emod_of_nonneg (by omega)];omega
  have HE:=aP e;have hr:-9223372036854775808<=(-(c+1)).tmod n∧(-(c+1)).tmod n<=9223372036854775807:=by omega
  clear e;repeat refine rN ?_
  refine rX (by simp[Act.eval,GP]) ?_;repeat refine rN ?_
  refine aM λtodo=>?_;refine ret _ _ S v (.int .i64 (((-(c+1))%(n:Int)).toNat:Nat)) ?_ ⟨rfl,rfl,rfl⟩;simp[results,Tryz.results6,HE.out]
 .rw[ah GP]at ret;have hp:=Int.emod_nonneg c yx;have hl:=Int.emod_lt_of_pos c (show(0:Int)<(n:Int) by omega);have e:((c%(n:Int)).toNat:Int)=c.tmod n:=by
   rw[Int.tmod_eq_emod_of_nonneg (by omega)];omega
  have HE:=aP e;have hr:-9223372036854775808<=c.tmod n∧c.tmod n<=9223372036854775807:=by omega
  clear e;repeat refine rN ?_
  refine rZ (by simp[Act.eval,GP]) ?_;repeat refine rN ?_
  refine aM λtodo=>?_;refine ret _ _ S v (.int .i64 ((c%(n:Int)).toNat:Nat)) ?_ ⟨rfl,rfl,rfl⟩;simp[results,Tryz.results6,HE.out]
theorem Wa(nd nb:Nat)(h1:14<=nd)(h2:nd<=18)(fg:4<=nb)(ko:nb<=23):aJ Tryz.prog 8 #[.int .i64 (nd:Nat),.int .i64 (nb:Nat)] S v λx S' v'=>S'=S∧Ext v v'∧∃g c,x=.slice (some ⟨g,0,none⟩) nd c∧∀j,j<nd->v'.cell? ⟨g,j,none⟩=some (.string (zs (nb*96))):=by
 obtain⟨is,zz,EV,EU,ET,NU,ES⟩:=Gz;refine cX Tryz.func8 rfl Tryz.ntmps8 λStop cc cs ret f g0 g1=>?_;have hmul:(nb:Int)*96=((nb*96:Nat):Int):=by omega
 have MW:nb*96<=2208:=by omega
 generalize hm:nb*96=m at *
 repeat refine rN ?_
 refine nO aB rfl rfl (by kernel_rfl) rfl (m:=m) (by simp) (by simp) (by omega) (by kernel_rfl) Tryz.underlying43 λw1 eh sb jg=>?_;simp only[stO_some];have W6:∀w,Ext w1 w->∀i,i<m->w.cell? ⟨v.heap.size,i,none⟩=some (.int .u8 0):=λw hE i hi=>by rw[ab _ _ _ _ _ _ (hE.row sb)];simp[hi]
 repeat refine rN ?_
 refine bF (λd f' S' w=>∃j ov,d=nd-j∧j<=nd∧S'=S∧(Ext w1 w∧w.ownsRow w1.heap.size 9 1 ov j (oT (λ_=>m) j))∧f' 0=.int .i64 (nd:Nat)∧f' 5=.slice (some ⟨v.heap.size,0,none⟩) m m∧f' 6=ov∧f' 7=.int .i64 (j:Nat)) nd ⟨0,.slice none 0 0,by omega,by omega,rfl,⟨.refl _,World.ownsRow_nil _ _ _ _⟩,by simp[g0],by simp,by simp,by simp⟩ ?_;clear g0 g1 f;rintro d f S' w ⟨j,ov,rfl,hj,eS,⟨fj,CV⟩,g0,g5,g6,g7⟩ dj;subst S';repeat refine rN ?_
 by_cases dp:j<nd
 .have ja:(j:Int)<(nd:Int):=by omega
  have hz:=W6 w fj;refine rX (by simp[Act.eval,dp]) ?_;repeat (first|refine rQ rfl ?_|(refine rO aB rfl ?_;intro _ dt K_ dr;(have kc:=Tz (c:=m) λi hi=>(Ext.twin dt).cell (hz i hi));go_simp;(try rw[wI _]);(try rw[wU _]);refine dr _ ?_;clear dr K_ dt;simp only[sS,sN])|refine rW ?_)
  refine aN (Q:=λx w2=>x=.slice (some ⟨w.heap.size,0,none⟩) 1 1∧Ext w w2∧w2.heap[w.heap.size]?=some (.cells #[.string (zs m)] 9)) aB rfl rfl (by kernel_rfl) (λu hu=>⟨_,_,.inl (jA (x:=.tmp 18) (y:=.string (zs m)) rfl Tryz.underlying40 EV EU ET ES (by simp) rfl u),by rw[hu.heap],(Ext.twin hu).trans _ _ _ (Ext.alloc _ _),by rw[<-hu.heap];exact bI _ _⟩) ?_;rintro _ w2 ⟨rfl,ep,pz⟩;simp only[stO_some];have gw:Gr w w2 none:=⟨ep.os,ep.output,ep.size,λb hb _=>ep.block b hb⟩;have RF:=mN CV gw (by simp);refine aN aB rfl rfl (by kernel_rfl) (λu hu=>mB (s:=.tmp 16) (x:=.tmp 19) (ad:=⟨w.heap.size,0,none⟩) (m:=1) (c:=1) (news:=[.string (zs m)]) hu w1.heap.size Tryz.underlying40 EV EU ET NU (by rw[ES];rfl) RF rfl (pR pz) (λy hy=>by rw[List.mem_singleton]at hy;subst hy;rfl) (by omega) (by omega) (ak fj.size ep.size) rfl (by simp[g6]) (by simp)) ?_;rintro BZ w3 ⟨YO,xc,_⟩;simp only[stO_some];have AV:w3.ownsRow w1.heap.size 9 1 BZ (j+1) (oT (λ_=>m) (j+1)):=by rw[<-Pg];exact YO
  have ef:Ext w1 w3:=Gr.over (fj.trans _ _ _ ep) xc λb hb=>jB RF hb
  repeat refine rN ?_
  refine dj _ _ _ (nd-(j+1)) (by omega) ⟨j+1,BZ,rfl,by omega,rfl,⟨ef,AV⟩,by simp[g0],by simp[g5],by simp,by simp⟩
 .obtain rfl:j=nd:=by omega
  obtain⟨g,c,cur,q1,q2,q3,q4,q5,q6⟩:=lD CV (.inl (by omega));subst q1;refine rZ (by simp[Act.eval,g7]) ?_;refine bC rfl ?_;repeat refine rN ?_
  refine aM λtodo=>?_;refine ret _ _ S w (.slice (some ⟨g,0,none⟩) j c) ?_ ⟨rfl,eh.trans _ _ _ fj,g,c,rfl,?_⟩
  .simp[results,Tryz.results8]
  .intro i hi;rw[ab _ _ _ _ _ _ q3,q6 i hi];simp[oT,hi]
theorem Kb{L:List Ent}(id:Nat)(hq:aQ id L 0=none)(po:1<=id)(hid:id<=9999){X D DB DA M:Nat}{RB RA:Nat->Nat}{nd nb turn:Nat}{s:Dsk}(hX:StE X D DB DA M RB RA nd nb turn s L v):aJ Tryz.prog 48 #[.pointer (some ⟨X,0,none⟩),.int .i64 (id:Nat)] S v λx S' v'=>x=.int .i64 4∧S'=S∧Ext v v':=by
 refine cX Tryz.func48 rfl Tryz.ntmps48 λStop cc cs ret f g0 g1=>?_;obtain⟨clock,hm,qp⟩:=hX.map;have c1:=hX.c1;repeat refine rN ?_
 refine rK Tryz.func59 (qJ id po hid) ?_;rintro _ S2 w2 _ ⟨rfl,e1,e2⟩;subst S2 w2;repeat refine rN ?_
 refine rZ (by simp[Act.eval]) ?_;repeat refine rM c1 ?_
 refine lY rfl rfl rfl (x:=.tmp 14) (y:=.tmp 15) (id:=id) (by simp) (by simp[g1]) hm ?_;rw[hq];simp only[stO_some,fF];repeat refine rN ?_
 refine cD aB rfl rfl (by kernel_rfl) (.agg (aL 0 0 0 0 λ_=>false)) rfl (by kernel_rfl) λw3 ef km ma=>?_;simp only[stO_some];refine cS aB rfl rfl (by kernel_rfl) (x:=.tmp 5) (y:=.tmp 17) (g:=v.heap.size) (c:=aL 0 0 0 0 λ_=>false) rfl (by simp) (by simp) km (by kernel_rfl) rfl (by simp[aL,Value.oneCell']) λw4 jd=>?_;simp only[stO_none];have gn:Ext v w4:=bO ef (ae _) jd;repeat refine rN ?_
 refine rX (by simp[Act.eval]) ?_;repeat refine rN ?_
 refine aM λtodo=>?_;refine ret _ _ S w4 (.int .i64 4) ?_ ⟨rfl,rfl,gn⟩;simp[results,Tryz.results48]
end
theorem tW{S:Nat->Prop}{v:World}(i:Nat)(hi:i<1099511627776):aJ Tryz.prog 35 #[.int .i64 (i:Nat)] S v λx S' v'=>x=.int .u8 ((iM i:Nat):Int)∧S'=S∧v'=v:=by
 refine dX Tryz.func35 rfl Tryz.ntmps35 λStop cc cs ret f g0=>?_;have xv:(i:Int).tmod 251=(i:Int)%251:=Int.tmod_eq_emod_of_nonneg (by omega);have hm:(i:Int).tmod 251=((i%251:Nat):Int):=by omega
 repeat refine rN ?_
 refine aM λtodo=>?_;refine ret _ _ _ _ (.int .u8 ((iM i:Nat):Int)) ?_ ⟨rfl,rfl,rfl⟩;simp[results,Tryz.results35,iM]
theorem Gt{S:Nat->Prop}{v:World}(p1 p2:Option Addr)(L c1 c2:Nat)(x1 x2:Nat->Nat)(hL:L<2^62)(h1:kM v p1 L c1 x1)(h2:fV v p2 L c2 x2)(he:∀i,i<L->x1 i=x2 i):aJ Tryz.prog 37 #[.slice p1 L c1,.slice p2 L c2] S v λx S' v'=>x=.bool true∧S'=S∧v'=v:=by
 refine cX Tryz.func37 rfl Tryz.ntmps37 λStop cc cs ret f g0 g1=>?_
 repeat refine rN ?_
 refine rZ (by simp[Act.eval]) ?_;repeat refine rN ?_
 refine bF (λd f' S' v'=>∃j,d=L-j∧j<=L∧S'=S∧v'=v∧f' 0=.slice p1 L c1∧f' 1=.slice p2 L c2∧f' 5=.int .i64 (j:Nat)) L ⟨0,by omega,by omega,rfl,rfl,by simp[g0],by simp[g1],by simp⟩ ?_;rintro d f' S' v' ⟨j,rfl,hj,eS,eV,q0,q1,q5⟩ next
 subst S' v';repeat refine rN ?_
 by_cases dp:j<L
 .have ja:(j:Int)<(L:Int):=by omega
  obtain⟨B1,o1,Z7,k1,b1⟩:∃B off,p1=some ⟨B,off,none⟩∧L<=c1∧dD v B off L x1:=by
   rcases h1 with⟨_,h,_⟩|h
   .omega
   .exact h
  obtain⟨B2,o2,Z6,k2,b2⟩:∃B off,p2=some ⟨B,off,none⟩∧L<=c2∧dD v B off L x2:=by
   rcases h2.of (by omega) with⟨_,h,_⟩|h
   .omega
   .exact h
  subst Z7 Z6;have e1:=b1 j dp;have e2:=b2 j dp;rw[he j dp]at e1;refine rX (by simp[Act.eval,dp]) ?_;repeat refine rN ?_
  refine oA aB (by first|kernel_rfl|rfl) ?_
  simp only[bh,av,cf,Nat.reduceAdd,an];refine rU 0 ?_;refine rU 1 ?_;refine rU 2 ?_;co_applyP rT (i:=3) rfl (λ_ dt=>run_eq_of ?u2) ?v2
  case u2=>intro K_ dr;(have hc:=(Ext.twin dt).cell e1);go_simp;(try rw[wI _]);(try rw[wU _]);exact dr
  simp only[sS,sN];refine rU 4 ?_;refine rU 5 ?_;refine rU 6 ?_;co_applyP rT (i:=7) rfl (λ_ dt=>run_eq_of ?u4) ?v4
  case u4=>intro K_ dr;(have hc:=(Ext.twin dt).cell e2);go_simp;(try rw[wI _]);(try rw[wU _]);exact dr
  simp only[sS,sN];refine rU 8 ?_;refine oH (by first|kernel_rfl|decide +kernel) ?_ _
  repeat refine rN ?_
  refine rZ (by simp[Act.eval]) ?_;repeat refine rN ?_
  refine next _ _ _ (L-(j+1)) (by omega) ⟨j+1,rfl,by omega,rfl,rfl,by simp[q0],by simp[q1],by simp⟩
 .obtain rfl:j=L:=by omega
  refine rZ (by simp[Act.eval]) ?_;refine bC rfl ?_;repeat refine rN ?_
  refine aM λtodo=>?_;refine ret _ _ _ _ (.bool true) ?_ ⟨rfl,rfl,rfl⟩;simp[results,Tryz.results37]
structure Roomy(v:World)(n:Nat)(x:Nat->Nat)(RB cap:Nat)(v':World):Prop where
 ext:Ext v v'
 new:v.heap.size<=RB
 row:∃cur,v'.heap[RB]?=some (.cells cur 5)∧cur.size=cap∧n<cap∧(∀j,j<n->cur[j]?=some (.int .u8 ((x j:Nat):Int)))∧cur[n]?=some (.int .u8 77)
theorem T8:∃i z,Tryz.prog.info? 5=some i∧i.zero=some z∧i.size=1∧i.bytes=1∧z.cells=#[z]:=⟨_,_,rfl,rfl,rfl,rfl,rfl⟩
theorem Nt{S:Nat->Prop}{v:World} : aJ Tryz.prog 28 #[.slice none 0 0] S v λy S' v'=>y=.slice none 0 0∧S'=S∧v'=v:=by
 refine dX Tryz.func28 rfl Tryz.ntmps28 λStop cc cs ret f g0=>?_
 repeat refine rN ?_
 refine rX (by simp[Act.eval]) ?_;repeat refine rN ?_
 refine aM λtodo=>?_;refine ret _ _ _ _ (.slice none 0 0) ?_ ⟨rfl,rfl,rfl⟩;simp[results,Tryz.results28]
theorem Sk{w u:World}{o:Oper}{a:Act}{xo:Operand}{ad:Addr}{n c:Nat}{x:Nat->Nat}(hn:n<140737488355328)(hx:n=0∨∃B off,ad=⟨B,off,none⟩∧dD w B off n x)(hu:Vw.Twin w u)(dm:o.op=Op.call {callee:=Callee.builtin Builtin.append,args:=#[.const (.slice none 0 0),xo],argTypes:=#[43,43]})(hs:a.eval (.const (.slice none 0 0))=.slice none 0 0)(ho:a.eval xo=.slice (some ad) n c):∃y w',((execOp a.eval o).run Tryz.prog u=.ok (.value y) w'∨((execOp a.eval o).run Tryz.prog u=.ok .skip w'∧y=undef))∧(w'.ownsRow w.heap.size 5 1 y n ((List.range n).map λj=>.int .u8 ((x j:Nat):Int))∧Ext w w'):=by
 obtain⟨ib,zb,qd,qu,rr,xa,va⟩:=oR;by_cases h0:n=0
 .subst h0;obtain⟨y,w',hr,q1,q2,_⟩:=mB (ad:=ad) (m:=0) (c:=c) (news:=[]) hu w.heap.size Tryz.underlying43 qd qu rr xa va (World.ownsRow_nil _ _ _ _) rfl (by simp) (by simp) (by omega) (by omega) (ae _) dm hs ho;exact⟨y,w',hr,by simpa using q1,q2.ext⟩
 .obtain⟨B,off,rfl,hb⟩:=hx.resolve_left h0;obtain⟨y,w',hr,q1,q2⟩:=Ei (p:=none) (n:=0) (cap:=0) (olds:=[]) (ad:=⟨B,off,none⟩) (m:=n) (c:=c) (news:=(List.range n).map λj=>.int .u8 ((x j:Nat):Int)) hu Tryz.underlying43 qd qu rr xa va (.inl ⟨rfl,rfl,rfl⟩) rfl (λb hb=>by cases hb) (by omega) (by simp) (Bs hb) kX (by unfold maxLen;omega) (by omega) dm hs ho;exact⟨y,w',hr,by simpa using q1,q2⟩
theorem Xh{S:Nat->Prop}{v:World}(ad:Addr)(n c:Nat)(x:Nat->Nat)(hn:n<140737488355328)(hc:n<=c)(hx:n=0∨∃B off,ad=⟨B,off,none⟩∧dD v B off n x):aJ Tryz.prog 28 #[.slice (some ad) n c] S v λy S' v'=>S'=S∧∃RB cap,y=.slice (some ⟨RB,0,none⟩) n cap∧Roomy v n x RB cap v':=by
 obtain⟨ib,zb,qd,qu,rr,xa,D1⟩:=T8;have va:zb.cells.size=1:=by rw[D1];rfl
 refine dX Tryz.func28 rfl Tryz.ntmps28 λStop cc cs ret f g0=>?_
 repeat refine rN ?_
 refine rZ (by simp[Act.eval]) ?_;repeat refine rN ?_
 refine aN aB rfl rfl (by kernel_rfl) (λu hu=>Sk (c:=c) hn hx hu rfl rfl (by simp[g0])) ?_;rintro y6 w6 ⟨GO,ew⟩;simp only[stO_some];refine aN (Q:=λy w2=>y=.slice (some ⟨w6.heap.size,0,none⟩) 1 1∧Ext w6 w2∧w2.heap[w6.heap.size]?=some (.cells #[.int .u8 77] 5)) aB rfl rfl (by kernel_rfl) (λu hu=>⟨_,_,.inl (jA (x:=.const (.int .u8 77)) (y:=.int .u8 77) rfl Tryz.underlying43 qd qu rr D1 rfl rfl u),by rw[hu.heap],(Ext.twin hu).trans _ _ _ (Ext.alloc _ _),by rw[<-hu.heap];exact bI _ _⟩) ?_;rintro _ w7 ⟨rfl,ve,Y_⟩;simp only[stO_some];have gw:Gr w6 w7 none:=⟨ve.os,ve.output,ve.size,λb hb _=>ve.block b hb⟩;have CV:=mN GO gw (by simp);refine aN aB rfl rfl (by kernel_rfl) (λu hu=>pG (s:=.tmp 6) (x:=.tmp 7) (ad:=⟨w6.heap.size,0,none⟩) (m:=1) (c:=1) (news:=[.int .u8 77]) hu v.heap.size Tryz.underlying43 qd qu rr xa va CV rfl (by omega) ?_ (λy hy=>by rw[List.mem_singleton]at hy;subst hy;rfl) (by unfold maxLen;omega) (by omega) (ak ew.size ve.size) rfl (by simp) (by simp)) ?_
 .intro j y hy;cases j with
  |zero=>simp only[List.getElem?_cons_zero,cr]at hy;subst hy;rw[Addr.add_lit];exact(ab _ w6.heap.size 0 _ _ _ Y_).trans rfl
  |succ j=>simp at hy
 rintro y8 w8 ⟨ho8,hg8,_⟩;obtain⟨RB,cap,cur,q1,q2,q3,q4,q5,q6⟩:=lD ho8 (.inl (by omega));subst q1;have FE:(n:Int)<=(cap:Int):=by omega
 simp only[stO_some];repeat refine rN ?_
 refine aM λtodo=>?_;refine ret _ _ S w8 (.slice (some ⟨RB,0,none⟩) n cap) ?_ ⟨rfl,RB,cap,rfl,Gr.over (ew.trans _ _ _ ve) hg8 λb hb=>jB CV hb,q2,cur,q3,q5,by omega,λj hj=>?_,?_⟩
 .simp[results,Tryz.results28]
 .rw[q6 j (by omega),List.getElem?_append_left (by simpa using hj)];simp[hj]
 .rw[q6 n (by omega),List.getElem?_append_right (by simp)];simp
theorem Rq{S:Nat->Prop}{v:World} : aJ Tryz.prog 30 #[.slice none 0 0,.slice none 0 0] S v λy S' v'=>y=.bool true∧S'=S∧v'=v:=by
 refine cX Tryz.func30 rfl Tryz.ntmps30 λStop cc cs ret f g0 g1=>?_
 repeat refine rN ?_
 refine rX (by simp[Act.eval]) ?_;repeat refine rN ?_
 refine aM λtodo=>?_;refine ret _ _ _ _ (.bool true) ?_ ⟨rfl,rfl,rfl⟩;simp[results,Tryz.results30]
def tJ(v:World)(n:Nat)(x:Nat->Nat)(RB cap:Nat):Prop:=∃cur,v.heap[RB]?=some (.cells cur 5)∧cur.size=cap∧n<cap∧(∀j,j<n->cur[j]?=some (.int .u8 ((x j:Nat):Int)))∧cur[n]?=some (.int .u8 77)
theorem tJ.slice{v:World}{n:Nat}{x:Nat->Nat}{RB cap:Nat}(h:tJ v n x RB cap):kM v (some ⟨RB,0,none⟩) n cap x:=by obtain⟨cur,q1,q2,q3,q4,_⟩:=h;exact .inr ⟨RB,0,rfl,by omega,λj hj=>by rw[an,ab _ RB j _ _ _ q1];exact q4 j hj⟩
theorem Zx{S:Nat->Prop}{v:World}(ad:Addr)(n c RB cap:Nat)(x:Nat->Nat)(hn:n<140737488355328)(hE:fV v (some ad) n c x)(hr:tJ v n x RB cap):aJ Tryz.prog 30 #[.slice (some ⟨RB,0,none⟩) n cap,.slice (some ad) n c] S v λy S' v'=>y=.bool true∧S'=S∧v'=v:=by
 have hs:=hr.slice;obtain⟨cur,q1,q2,q3,q4,q5⟩:=hr;have h77:v.cell? ⟨RB,n,none⟩=some (.int .u8 77):=by rw[ab _ RB n _ _ _ q1];exact q5
 refine cX Tryz.func30 rfl Tryz.ntmps30 λStop cc cs ret f g0 g1=>?_;have FE:(n:Int)+1<=(cap:Int):=by omega
 have YV:(n:Int)<(n:Int)+1:=by omega
 repeat refine rN ?_
 refine rZ (by simp[Act.eval]) ?_;repeat refine rN ?_
 refine rK Tryz.func37 (Gt _ _ n cap c x x (by omega) hs hE λ_ _=>rfl) ?_;rintro _ S1 v1 _ ⟨rfl,e1,e2⟩;subst S1 v1;repeat refine rM h77 ?_
 refine aM λtodo=>?_;refine ret _ _ _ _ (.bool true) ?_ ⟨rfl,rfl,rfl⟩;simp[results,Tryz.results30]
