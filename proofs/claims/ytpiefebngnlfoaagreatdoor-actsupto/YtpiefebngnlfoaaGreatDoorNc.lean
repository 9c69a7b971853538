import Derived.Test.YtpiefebngnlfoaaGreatDoorNa
set_option maxRecDepth 99999
set_option maxHeartbeats 0
set_option linter.unusedVariables false
set_option linter.unusedSimpArgs false
namespace Go.Proofs.YtpiefebngnlfoaaGreatDoor
open Go.RowKit Go.Conc Go.Vw
def nJ(te:TypeId)(N0:Nat)(zs:List Value)(k:Nat)(y:Value)(w:World):Prop:=∃B,y=.slice (some ⟨B,0,none⟩) k k∧N0<=B∧w.heap[B]?=some (.cells (List.replicate k zs).flatten.toArray te)
def iX(te:TypeId)(es N0:Nat)(z:Value)(k:Nat)(y:Value)(w:World):Prop:=∃B cap C,y=.slice (some ⟨B,0,none⟩) k cap∧N0<=B∧k<=cap∧w.heap[B]?=some (.cells C te)∧∀j,j<k->C[j*es]?=some z
def nM(ts te:TypeId)(es N0:Nat)(z:Value)(n:Nat)(l y:Value)(w:World):Prop:=∃E e1 e2 e3,y=.slice (some ⟨E,0,none⟩) 4 4∧N0<=E∧w.heap[E]?=some (.cells #[l,e1,e2,e3] ts)∧iX te es N0 z (n+1) e1 w∧iX te es N0 z (n+2) e2 w∧iX te es N0 z (n+6) e3 w
def jL(te:TypeId)(es:Nat)(w:World)(p:Option Addr)(n:Nat)(z:Value):Prop:=(p=none∧n=0)∨∃B cur,p=some ⟨B,0,none⟩∧w.heap[B]?=some (.cells cur te)∧cur.size=n*es∧∀j,j<n->cur[j*es]?=some z
section
variable {te ts:TypeId}{es N0 k n:Nat}{z y l:Value}{zs:List Value}{w w' w1 v:World}{Y:Nat->Prop}{p:Option Addr}
theorem nJ.kp(h:nJ te N0 zs k y w)(hK:Kp w Y w')(hY:∀b,Y b->b<N0):nJ te N0 zs k y w':=by obtain⟨B,h1,h2,h3⟩:=h;exact⟨B,h1,h2,hK.cells _ _ _ _ (λhy=>by have:=hY B hy;omega) h3⟩
theorem iX.kp(h:iX te es N0 z k y w)(hK:Kp w Y w')(hY:∀b,Y b->b<N0):iX te es N0 z k y w':=by obtain⟨B,cap,C,h1,h2,h3,h4,h5⟩:=h;exact⟨B,cap,C,h1,h2,h3,hK.cells _ _ _ _ (λhy=>by have:=hY B hy;omega) h4,h5⟩
theorem nM.kp(h:nM ts te es N0 z n l y w)(hK:Kp w Y w')(hY:∀b,Y b->b<N0):nM ts te es N0 z n l y w':=by obtain⟨E,e1,e2,e3,h1,h2,h3,h4,h5,h6⟩:=h;exact⟨E,e1,e2,e3,h1,h2,hK.cells _ _ _ _ (λhy=>by have:=hY E hy;omega) h3,h4.kp hK hY,h5.kp hK hY,h6.kp hK hY⟩
theorem jL.kp(h:jL te es w p n z)(hm:jM te=true){N:Nat}(hY:dC N w Y)(hK:Kp w Y w'):jL te es w' p n z:=by
 refine h.imp id ?_;rintro⟨B,cur,q1,q2,q3,q4⟩
 exact⟨B,cur,q1,hK.cells _ _ _ _ (λhy=>by
  have:=(hY B hy).2 _ _ _ q2;rw[hm]at this
  cases this) q2,q3,q4⟩
theorem jL.mk(h:jL te es w p n z)(hn:n<=400):iN te es z w (.slice p n n):=by
 refine⟨p,n,n,rfl,by omega,ae _,?_⟩;rcases h with⟨_,h⟩|⟨B,cur,q1,q2,q3,q4⟩
 .exact .inl h
 .exact .inr ⟨B,cur,q1,q2,q4⟩
theorem iX.mk(h:iX te es N0 z k y w)(hk:k<=1000):iN te es z w y:=by obtain⟨B,cap,C,h1,h2,h3,h4,h5⟩:=h;exact⟨_,k,cap,h1,hk,h3,.inr ⟨B,C,rfl,h4,h5⟩⟩
theorem nM.en(h:nM ts te es N0 z n (.slice p n n) y w)(hF:jL te es w p n z)(hn:n<=400):kC ts te es z w y:=by obtain⟨E,e1,e2,e3,h1,h2,h3,h4,h5,h6⟩:=h;exact⟨E,_,e1,e2,e3,h1,h3,hF.mk hn,h4.mk (by omega),h5.mk (by omega),h6.mk (by omega)⟩
theorem Fq(zs:List Value)(hz:zs.length=es)(he:0<es):∀(m j:Nat),j<m->(List.replicate m zs).flatten[j*es]?=zs[0]?
 |m+1,j,hj=>by
  rw[List.replicate_succ,List.flatten_cons];cases j with
  |zero=>rw[Nat.zero_mul,List.getElem?_append_left (by omega)]
  |succ j=>rw[List.getElem?_append_right (by rw[hz,Nat.add_mul];omega),hz,show(j+1)*es-es=j*es by rw[Nat.add_mul];omega];exact Fq zs hz he m j (by omega)
theorem Vn(zs:List Value)(m:Nat):(List.replicate m zs).flatten.length=m*zs.length:=by
 induction m with
 |zero=>simp
 |succ m ih=>rw[List.replicate_succ,List.flatten_cons,cd,ih,Nat.add_mul];omega
theorem Om{w u:World}{o:Oper}{a:Act}{s x:Operand}{t e:TypeId}{i:TypeInfo}{z:Value}{es bytes:Nat}(hu:Vw.Twin w u)
  (h1:Tryz.prog.underlying t=some (.slice e)) (h2:Tryz.prog.info? e=some i) (h3:i.zero=some z) (h4:i.size=es) (h5:i.bytes=bytes) (h6:z.cells.size=es) (ly:0<es)
  {p:Option Addr} {n cap:Nat} {olds:List Value} (hp:(p=none∧n=0∧cap=0)∨∃b,p=some b) (sg:olds.length=n*es) (holds:∀b,p=some b->∀j y,olds[j]?=some y->w.cell? (b.add j)=some y)
  {ad:Addr} {m c:Nat} (AB:cap<n+m) {news:List Value} (hl:news.length=m*es) (iw:∀j y,news[j]?=some y->w.cell? (ad.add j)=some y) (xh:∀y∈news,y.oneCell'=true)
  (b1:n+m<=maxLen) (b2:(n+m)*bytes<=140737488355328) (dm:o.op=Op.call {callee:=Callee.builtin Builtin.append,args:=#[s,x],argTypes:=#[t,t]}) (hs:a.eval s=.slice p n cap) (hx:a.eval x=.slice (some ad) m c) :
  ∃y w',((execOp a.eval o).run Tryz.prog u=.ok (.value y) w'∨((execOp a.eval o).run Tryz.prog u=.ok .skip w'∧y=undef))∧(w'.ownsRow w.heap.size e es y (n+m) (olds++news)∧Ext w w'):=by
 have fin:∀(y:Value)(w':World),(Builtin.append_ #[t,t] o.type #[.slice p n cap,.slice (some ad) m c]).run Tryz.prog u=.ok y w'->w'.ownsRow u.heap.size e es y (n+m) (olds++news)->u.grownBy w' none->∃y w',((execOp a.eval o).run Tryz.prog u=.ok (.value y) w'∨((execOp a.eval o).run Tryz.prog u=.ok .skip w'∧y=undef))∧(w'.ownsRow w.heap.size e es y (n+m) (olds++news)∧Ext w w'):=λy w' dq ho hg=>
  ⟨y,w',.inl (by simp[execOp,dm,resolve,invoke,builtin,hs,hx,dq]),by rw[hu.heap]at ho;exact ho,(Gr.of hu hg).ext⟩
 rcases hp with⟨rfl,rfl,rfl⟩|⟨b,rfl⟩
 .obtain rfl:olds=[]:=List.eq_nil_of_length_eq_zero (by rw[sg];simp);obtain⟨v',w',dq,ho,hg,hn⟩:=run_append_own (P:=Tryz.prog) u u.heap.size t o.type e i z es bytes h1 h2 h3 h4 h5 h6 ly (.slice none 0 0) 0 [] (World.ownsRow_nil _ _ _ _) ad m c news hl (λj y hy=>(Ext.twin hu).cell (iw j y hy)) xh b1 b2 (ae _);exact fin _ _ dq ho hg
 .obtain⟨v',w',dq,ho,hg⟩:=run_append_arg_grows (P:=Tryz.prog) u t o.type e i z es bytes h1 h2 h3 h4 h5 h6 ly b n cap olds sg (λj y hy=>(Ext.twin hu).cell (holds b rfl j y hy)) ad m c news hl (λj y hy=>(Ext.twin hu).cell (iw j y hy)) AB b1 b2;exact fin _ _ dq ho hg
theorem kG{w u:World}{o:Oper}{a:Act}{s x:Operand}{t:TypeId}{i:TypeInfo}{z0:Value}{bytes m:Nat}(hu:Vw.Twin w u)(h1:Tryz.prog.underlying t=some (.slice te))(h2:Tryz.prog.info? te=some i)(h3:i.zero=some z0)(h4:i.size=es)(h5:i.bytes=bytes)(h6:z0.cells.size=es)(ly:0<es)
  (hF:jL te es w p n z) (hn:n<=400) (hm:0<m) (G1:m<=6) (hb:bytes<=24) (hz:zs[0]?=some z) (D4:zs.length=es) (xh:∀y∈zs,y.oneCell'=true) (hw:N0<=w.heap.size) (hN:nJ te N0 zs m y w)
  (dm:o.op=Op.call {callee:=Callee.builtin Builtin.append,args:=#[s,x],argTypes:=#[t,t]}) (hs:a.eval s=.slice p n n) (hx:a.eval x=y) :
  ∃y w',((execOp a.eval o).run Tryz.prog u=.ok (.value y) w'∨((execOp a.eval o).run Tryz.prog u=.ok .skip w'∧y=undef))∧(iX te es N0 z (n+m) y w'∧Ext w w'):=by
 obtain⟨B,q1,q2,q3⟩:=hN;have key:∃olds:List Value,olds.length=n*es∧(∀b,p=some b->∀j y,olds[j]?=some y->w.cell? (b.add j)=some y)∧∀j,j<n->olds[j*es]?=some z:=by
  rcases hF with⟨rfl,rfl⟩|⟨B',cur,rfl,r2,r3,r4⟩
  .exact⟨[],by simp,⟨λb hb=>(by cases hb),λj hj=>by omega⟩⟩
  .refine⟨cur.toList,by simpa using r3,λb hb j y hy=>?_,λj hj=>by rw[bd];exact r4 j hj⟩
   cases hb
   rw[Addr.add_lit,an,ab _ _ _ _ _ _ r2,<-bd];exact hy
 obtain⟨olds,k1,k2,k3⟩:=key;have b2:(n+m)*bytes<=140737488355328:=by have:(n+m)*bytes<=406*24:=Nat.mul_le_mul (by omega) hb;omega
 obtain⟨y',w',hr,ho,hE⟩:=Om (ad:=⟨B,0,none⟩) (m:=m) (c:=m) (news:=(List.replicate m zs).flatten) hu h1 h2 h3 h4 h5 h6 ly (p:=p) (n:=n) (cap:=n) (olds:=olds) (by
  rcases hF with⟨rfl,rfl⟩|⟨B',cur,rfl,_⟩
  .exact .inl ⟨rfl,rfl,rfl⟩
  .exact .inr ⟨_,rfl⟩) k1 k2 (by omega) (by rw[Vn,D4]) (λj y hy=>by
   rw[Addr.add_lit,an,ab _ _ _ _ _ _ q3,<-bd];exact hy) (λy hy=>by
   obtain⟨l,hl,hy⟩:=List.mem_flatten.1 hy;rw[List.eq_of_mem_replicate hl]at hy
   exact xh y hy) (by unfold maxLen;omega) b2 dm hs (hx.trans q1)
 refine⟨y',w',hr,?_,hE⟩;rcases ho.2 with⟨_,e⟩|⟨g,cap,cur,r1,r2,r3,r4,r5,r6,r7⟩
 .omega
 .refine⟨g,cap,cur,r1,ak hw r2,r4,r3,λj hj=>?_⟩
  have dp:j*es<(n+m)*es:=Nat.mul_lt_mul_of_pos_right hj ly;have e:(cur.toList.take ((n+m)*es))[j*es]?=cur.toList[j*es]?:=by rw[List.getElem?_take,ai dp]
  rw[<-bd,<-e,r7];by_cases JL:j<n
  .rw[List.getElem?_append_left (by rw[k1];exact Nat.mul_lt_mul_of_pos_right JL ly)];exact k3 j JL
  .rw[List.getElem?_append_right (by rw[k1];exact Nat.mul_le_mul_right _ (by omega)),k1,<-Nat.sub_mul,Fq zs D4 ly m (j-n) (by omega)];exact hz
end
def aC(t2 ts te:TypeId)(es N0 W fi n:Nat)(bv l mv z:Value)(zs:List Value)(Q:Value->World->Prop)(j:Nat)(x:Value)(w:World):Prop:=
 if j<=2∨j=27 then x=.pointer (some ⟨W,3,none⟩)
 else if j=3∨j=28 then x=.pointer (some ⟨W,fi,none⟩)
 else if j=4 then x=bv
 else if j=5∨j=6∨j=10∨j=15 then x=l
 else if j=8 then nJ te N0 zs 1 x w
 else if j=9 then iX te es N0 z (n+1) x w
 else if j=13 then nJ te N0 zs 2 x w
 else if j=14 then iX te es N0 z (n+2) x w
 else if j=22 then nJ te N0 zs 6 x w
 else if j=23 then iX te es N0 z (n+6) x w
 else if j=24 then nM ts te es N0 z n l x w
 else if j=25 then ∃B y',x=.slice (some ⟨B,0,none⟩) 1 1∧N0<=B∧w.heap[B]?=some (.cells #[y'] t2)∧nM ts te es N0 z n l y' w
 else if j=26 then Q x w
 else if j=29 then True
 else x=mv
theorem oM{t2 ts te:TypeId}{es N0 W fi n:Nat}{bv l mv z:Value}{zs:List Value}{Q:Value->World->Prop}{j:Nat}{x:Value}{w w':World}{Y:Nat->Prop}(hQ:j=26->Q x w->Q x w')(h:aC t2 ts te es N0 W fi n bv l mv z zs Q j x w)(hK:Kp w Y w')(hY:∀b,Y b->b<N0):aC t2 ts te es N0 W fi n bv l mv z zs Q j x w':=by
 unfold aC at h⊢;by_cases c:j<=2∨j=27
 .rw[ai c]at h⊢;exact h
 rw[ah c]at h⊢;clear c;by_cases c:j=3∨j=28
 .rw[ai c]at h⊢;exact h
 rw[ah c]at h⊢;clear c;by_cases c:j=4
 .rw[ai c]at h⊢;exact h
 rw[ah c]at h⊢;clear c;by_cases c:j=5∨j=6∨j=10∨j=15
 .rw[ai c]at h⊢;exact h
 rw[ah c]at h⊢;clear c;by_cases c:j=8
 .rw[ai c]at h⊢;exact h.kp hK hY
 rw[ah c]at h⊢;clear c;by_cases c:j=9
 .rw[ai c]at h⊢;exact h.kp hK hY
 rw[ah c]at h⊢;clear c;by_cases c:j=13
 .rw[ai c]at h⊢;exact h.kp hK hY
 rw[ah c]at h⊢;clear c;by_cases c:j=14
 .rw[ai c]at h⊢;exact h.kp hK hY
 rw[ah c]at h⊢;clear c;by_cases c:j=22
 .rw[ai c]at h⊢;exact h.kp hK hY
 rw[ah c]at h⊢;clear c;by_cases c:j=23
 .rw[ai c]at h⊢;exact h.kp hK hY
 rw[ah c]at h⊢;clear c;by_cases c:j=24
 .rw[ai c]at h⊢;exact h.kp hK hY
 rw[ah c]at h⊢;clear c;by_cases c:j=25
 .rw[ai c]at h⊢;obtain⟨B,y',h1,h2,h3,h4⟩:=h;exact⟨B,y',h1,h2,hK.cells _ _ _ _ (λhy=>by have:=hY B hy;omega) h3,h4.kp hK hY⟩
 rw[ah c]at h⊢;clear c;by_cases c:j=26
 .rw[ai c]at h⊢;exact hQ c h
 rw[ah c]at h⊢;clear c;by_cases c:j=29
 .rw[ai c]at h⊢;exact trivial
 rw[ah c]at h⊢;clear c;exact h
theorem Wm.setB{N W:Nat}{x:Nat->Sx}{T:Nat->List It}{g:Wv}{w w1 w2:World}{v':Value}(h:Wm N W x T g w)(hK:Kp w (λb=>g.bv.ownBlock=some b) w1)(hL:aH N 89 43 5 1 zB (g.b+1) v' w1)(hW:Wr w1 W (.cells (g.row.setIfInBounds 3 v') 34) w2):Wm N W x T {g with bv:=v',b:=g.b+1} w2∧Kp w (YW W g) w2:=by
 have iu:Kp w (λb=>g.bv.ownBlock=some b∨b=W) w2:=hK.or (fO hW);have JX:∀b,(g.bv.ownBlock=some b∨b=W)->YW W g b:=λb hb=>by
  rcases hb with q|q
  .exact .inr (.inr (.inr (.inl q)))
  .exact .inl q
 have fy:dC N w λb=>g.bv.ownBlock=some b∨b=W:=λb hb=>h.offY b (JX b hb);obtain⟨xs,pg,_⟩:=h.b;have fe:∀b C t,(g.bv.ownBlock=some b∨b=W)->w.heap[b]?=some (.cells C t)->t≠89->t≠34->False:=λb C t hb hc h1 h2=>by
  rcases hb with q|rfl
  .obtain⟨C',ek⟩:=dL pg q;rw[hc]at ek;cases ek;exact h1 rfl
  .rw[h.row]at hc;cases hc;exact h2 rfl
 have du:w1.heap[W]?=some (.cells g.row 34):=hK.cells _ _ _ _ (λq=>by
  obtain⟨C',ek⟩:=dL pg q;rw[h.row]at ek
  cases ek) h.row
 have vu:dC N w1 λb=>b=W:=λb hb=>by subst hb;refine⟨h.new,λC t fr hc=>?_⟩;rw[du]at hc;cases hc;decide
 exact⟨⟨h.new,hW.at_.trans (by rfl),cZ h.s iu λb C hy hc=>fe b C _ hy hc (by decide) (by decide),cZ h.n iu λb C hy hc=>fe b C _ hy hc (by decide) (by decide),cZ h.l iu λb C hy hc=>fe b C _ hy hc (by decide) (by decide),λk hk=>(h.k k hk).kp fy iu,hL.kp rfl rfl (vu:dC N w1 λb=>b=W) (fO hW) λb C hy hc=>(by subst hy;rw[du]at hc;cases hc),h.h.kp rfl rfl fy iu λb C hy hc=>fe b C _ hy hc (by decide) (by decide),h.t.kp rfl rfl fy iu λb C hy hc=>fe b C _ hy hc (by decide) (by decide)⟩,iu.mono JX⟩
theorem Wm.setH{N W:Nat}{x:Nat->Sx}{T:Nat->List It}{g:Wv}{w w1 w2:World}{v':Value}(h:Wm N W x T g w)(hK:Kp w (λb=>g.hv.ownBlock=some b) w1)(hL:aH N 92 91 94 3 zH (g.h+1) v' w1)(hW:Wr w1 W (.cells (g.row.setIfInBounds 5 v') 34) w2):Wm N W x T {g with hv:=v',h:=g.h+1} w2∧Kp w (YW W g) w2:=by
 have iu:Kp w (λb=>g.hv.ownBlock=some b∨b=W) w2:=hK.or (fO hW);have JX:∀b,(g.hv.ownBlock=some b∨b=W)->YW W g b:=λb hb=>by
  rcases hb with q|q
  .exact .inr (.inr (.inr (.inr (.inl q))))
  .exact .inl q
 have fy:dC N w λb=>g.hv.ownBlock=some b∨b=W:=λb hb=>h.offY b (JX b hb);obtain⟨xs,pg,_⟩:=h.h;have fe:∀b C t,(g.hv.ownBlock=some b∨b=W)->w.heap[b]?=some (.cells C t)->t≠92->t≠34->False:=λb C t hb hc h1 h2=>by
  rcases hb with q|rfl
  .obtain⟨C',ek⟩:=dL pg q;rw[hc]at ek;cases ek;exact h1 rfl
  .rw[h.row]at hc;cases hc;exact h2 rfl
 have du:w1.heap[W]?=some (.cells g.row 34):=hK.cells _ _ _ _ (λq=>by
  obtain⟨C',ek⟩:=dL pg q;rw[h.row]at ek
  cases ek) h.row
 have vu:dC N w1 λb=>b=W:=λb hb=>by subst hb;refine⟨h.new,λC t fr hc=>?_⟩;rw[du]at hc;cases hc;decide
 exact⟨⟨h.new,hW.at_.trans (by rfl),cZ h.s iu λb C hy hc=>fe b C _ hy hc (by decide) (by decide),cZ h.n iu λb C hy hc=>fe b C _ hy hc (by decide) (by decide),cZ h.l iu λb C hy hc=>fe b C _ hy hc (by decide) (by decide),λk hk=>(h.k k hk).kp fy iu,h.b.kp rfl rfl fy iu λb C hy hc=>fe b C _ hy hc (by decide) (by decide),hL.kp rfl rfl (vu:dC N w1 λb=>b=W) (fO hW) λb C hy hc=>(by subst hy;rw[du]at hc;cases hc),h.t.kp rfl rfl fy iu λb C hy hc=>fe b C _ hy hc (by decide) (by decide)⟩,iu.mono JX⟩
theorem Wm.setT{N W:Nat}{x:Nat->Sx}{T:Nat->List It}{g:Wv}{w w1 w2:World}{v':Value}(h:Wm N W x T g w)(hK:Kp w (λb=>g.tv.ownBlock=some b) w1)(hL:aH N 95 40 9 1 zT (g.t+1) v' w1)(hW:Wr w1 W (.cells (g.row.setIfInBounds 6 v') 34) w2):Wm N W x T {g with tv:=v',t:=g.t+1} w2∧Kp w (YW W g) w2:=by
 have iu:Kp w (λb=>g.tv.ownBlock=some b∨b=W) w2:=hK.or (fO hW);have JX:∀b,(g.tv.ownBlock=some b∨b=W)->YW W g b:=λb hb=>by
  rcases hb with q|q
  .exact .inr (.inr (.inr (.inr (.inr q))))
  .exact .inl q
 have fy:dC N w λb=>g.tv.ownBlock=some b∨b=W:=λb hb=>h.offY b (JX b hb);obtain⟨xs,pg,_⟩:=h.t;have fe:∀b C t,(g.tv.ownBlock=some b∨b=W)->w.heap[b]?=some (.cells C t)->t≠95->t≠34->False:=λb C t hb hc h1 h2=>by
  rcases hb with q|rfl
  .obtain⟨C',ek⟩:=dL pg q;rw[hc]at ek;cases ek;exact h1 rfl
  .rw[h.row]at hc;cases hc;exact h2 rfl
 have du:w1.heap[W]?=some (.cells g.row 34):=hK.cells _ _ _ _ (λq=>by
  obtain⟨C',ek⟩:=dL pg q;rw[h.row]at ek
  cases ek) h.row
 have vu:dC N w1 λb=>b=W:=λb hb=>by subst hb;refine⟨h.new,λC t fr hc=>?_⟩;rw[du]at hc;cases hc;decide
 exact⟨⟨h.new,hW.at_.trans (by rfl),cZ h.s iu λb C hy hc=>fe b C _ hy hc (by decide) (by decide),cZ h.n iu λb C hy hc=>fe b C _ hy hc (by decide) (by decide),cZ h.l iu λb C hy hc=>fe b C _ hy hc (by decide) (by decide),λk hk=>(h.k k hk).kp fy iu,h.b.kp rfl rfl fy iu λb C hy hc=>fe b C _ hy hc (by decide) (by decide),h.h.kp rfl rfl fy iu λb C hy hc=>fe b C _ hy hc (by decide) (by decide),hL.kp rfl rfl (vu:dC N w1 λb=>b=W) (fO hW) λb C hy hc=>(by subst hy;rw[du]at hc;cases hc)⟩,iu.mono JX⟩
theorem Hw:∃i z,Tryz.prog.info? 5=some i∧i.zero=some z∧i.size=1∧i.bytes=1∧z.cells=#[z]:=⟨_,_,rfl,rfl,rfl,rfl,rfl⟩
theorem Xy:∃i z,Tryz.prog.info? 43=some i∧i.zero=some z∧i.size=1∧i.bytes=24∧z.cells=#[z]:=⟨_,_,rfl,rfl,rfl,rfl,rfl⟩
theorem Xx:∃i z,Tryz.prog.info? 89=some i∧i.zero=some z∧i.size=1∧i.bytes=24∧z.cells=#[z]:=⟨_,_,rfl,rfl,rfl,rfl,rfl⟩
theorem bk_b{w:World}{S:Nat->Prop}{f:Nat->Value}{Stop:Goroutine->(Nat->Prop)->World->Prop}{cs:List Frame}{k0:List Item}{x:Nat->Sx}{T:Nat->List It}(N W n:Nat)(g:Wv)(p:Option Addr)(hm:Wm N W x T g w)(hF:jL 5 1 w p n (zB g.b))(hn:n<=400)(hb:g.b<1099511627776)
  (g0:f 0=.pointer (some ⟨W,3,none⟩)) (g1:f 1=.slice p n n) (g4:f 4=zB g.b)
  (next:∀w' f' v',Kp w (YW W g) w'->Wm N W x T {g with bv:=v',b:=g.b+1} w'->Vw.Reach Tryz.prog Stop (G ((_root_.Go.Conc.base 38).at ⟨TA 51 f',[]⟩ (.inRegion ((bM 5 (Tryz.f38.body.getD .skip)).getD #[]) []::k0)) cs) S w') :
  Vw.Reach Tryz.prog Stop (G ((_root_.Go.Conc.base 38).at ⟨TA 51 f,[]⟩ (.code (.region 5 ((bM 5 (Tryz.f38.body.getD .skip)).getD #[]) true)::k0)) cs) S w:=by
 have e0:bM 5 (Tryz.f38.body.getD .skip)=some _:=rfl;rw[e0]at next⊢
 simp only[ao]at next⊢
 clear e0;obtain⟨ie,ze,vj,vi,vh,CF,vg⟩:=Hw;obtain⟨is,zs,EV,EU,ET,NU,ES⟩:=Xy;obtain⟨it,zt,IT,IS,IQ,PY,IP⟩:=Xx;obtain⟨xs,pg,ya⟩:=hm.b;have du:∀b,g.bv.ownBlock=some b->b<w.heap.size:=λb hb=>(pg.lt b hb).2
 have GY:w.cell? ⟨W,3,none⟩=some g.bv:=(ab _ W 3 _ _ _ hm.row).trans rfl;refine rJ (by kernel_rfl) (by kernel_rfl) (by kernel_rfl) 26 [1,2,3,4,5,6,7,8,9,10,11,12,13,14,15,16,17,18,19,20,21,22,23,24,25] (by kernel_rfl) 29 [0,1,2,3,4,5,6,7,8,9,10,11,12,13,14,15,16,17,18,19,20,21,22,23,24,25,26,27,28] (by kernel_rfl) (by kernel_rfl) (by decide) (aC 89 43 5 1 w.heap.size W 3 n g.bv (.slice p n n) (zB g.b) (zB g.b) ([zB g.b]) (aH N 89 43 5 1 zB (g.b+1))) (λS' w'=>S'=S∧Ext w w') (λS' w'=>S'=S∧Kp w (λb=>g.bv.ownBlock=some b) w') (λS' w'=>S'=S∧Kp w (YW W g) w'∧∃v',Wm N W x T {g with bv:=v',b:=g.b+1} w') (λS' w w' h hE=>⟨h.1,h.2.trans _ _ _ hE⟩) (λS' w w' h hE=>⟨h.1,h.2.ext hE⟩) (λj x w w' h hE=>oM (λ_ q=>q.kp rfl rfl (dM N w) (aS hE) λ_ _ h=>h.elim) h (aS hE) λ_ h=>h.elim) ?_ ⟨rfl,.refl _⟩ ?_ ?_ ?_ ?_
 .intro j hj he x w h;have jo:j<30:=hj;rcases(by omega:j=0∨j=1∨j=2∨j=3∨j=4∨j=5∨j=6∨j=7∨j=8∨j=9∨j=10∨j=11∨j=12∨j=13∨j=14∨j=15∨j=16∨j=17∨j=18∨j=19∨j=20∨j=21∨j=22∨j=23∨j=24∨j=25∨j=26∨j=27∨j=28∨j=29) with rfl|rfl|rfl|rfl|rfl|rfl|rfl|rfl|rfl|rfl|rfl|rfl|rfl|rfl|rfl|rfl|rfl|rfl|rfl|rfl|rfl|rfl|rfl|rfl|rfl|rfl|rfl|rfl|rfl|rfl;all_goals first|(cases he;done)|(simp[aC])
 .intro i f' S1 w5 rest hi dy yx hB _ hf hd dj;have BI:f' 0=.pointer (some ⟨W,3,none⟩):=(hf 0 (eK (by kernel_rfl))).trans g0;have WG:f' 1=.slice p n n:=(hf 1 (eK (by kernel_rfl))).trans g1;have yk:=(hf 4 (eK (by kernel_rfl))).trans g4;clear hf;have ft:i<30:=hi;rcases(by omega:i=0∨i=1∨i=2∨i=3∨i=4∨i=5∨i=6∨i=7∨i=8∨i=9∨i=10∨i=11∨i=12∨i=13∨i=14∨i=15∨i=16∨i=17∨i=18∨i=19∨i=20∨i=21∨i=22∨i=23∨i=24∨i=25∨i=26∨i=27∨i=28∨i=29) with rfl|rfl|rfl|rfl|rfl|rfl|rfl|rfl|rfl|rfl|rfl|rfl|rfl|rfl|rfl|rfl|rfl|rfl|rfl|rfl|rfl|rfl|rfl|rfl|rfl|rfl|rfl|rfl|rfl|rfl
  .clear hd hB;refine rY aB ?_;exact dj _ w5 (.refl w5) (by simp[aC])
  .clear hd hB;refine rY aB ?_;exact dj _ w5 (.refl w5) (by simp[aC])
  .have d1:aC 89 43 5 1 w.heap.size W 3 n g.bv (.slice p n n) (zB g.b) (zB g.b) ([zB g.b]) (aH N 89 43 5 1 zB (g.b+1)) 1 (f' 23) w5:=hd 1 (aD (by kernel_rfl));simp[aC]at d1;clear hd hB;refine rY aB ?_;exact dj _ w5 (.refl w5) (by simp[aC])
  .have d2:aC 89 43 5 1 w.heap.size W 3 n g.bv (.slice p n n) (zB g.b) (zB g.b) ([zB g.b]) (aH N 89 43 5 1 zB (g.b+1)) 2 (f' 24) w5:=hd 2 (aD (by kernel_rfl));simp[aC]at d2;clear hd hB;refine rY aB ?_;exact dj _ w5 (.refl w5) (by simp[aC])
  .have d3:aC 89 43 5 1 w.heap.size W 3 n g.bv (.slice p n n) (zB g.b) (zB g.b) ([zB g.b]) (aH N 89 43 5 1 zB (g.b+1)) 3 (f' 25) w5:=hd 3 (aD (by kernel_rfl));simp[aC]at d3;obtain⟨eS,hE⟩:=hB (by simp);subst S1;have qi:=hE.cell GY;clear hd hB;(refine rO aB rfl ?_;intro _ dt K_ dr;(have hc:=(Ext.twin dt).cell qi);go_simp;(try rw[wI _]);(try rw[wU _]);refine dr _ ?_;clear dr K_ dt;simp only[sS,sN]);exact dj _ w5 (.refl w5) (by simp[aC])
  .clear hd hB;refine rY aB ?_;exact dj _ w5 (.refl w5) (by simp[aC])
  .clear hd hB;refine rY aB ?_;exact dj _ w5 (.refl w5) (by simp[aC])
  .clear hd hB;refine rY aB ?_;exact dj _ w5 (.refl w5) (by simp[aC])
  .have d7:aC 89 43 5 1 w.heap.size W 3 n g.bv (.slice p n n) (zB g.b) (zB g.b) ([zB g.b]) (aH N 89 43 5 1 zB (g.b+1)) 7 (f' 29) w5:=hd 7 (aD (by kernel_rfl));simp[aC]at d7;obtain⟨eS,hE⟩:=hB (by simp);subst S1;clear hd hB;refine aN (Q:=λy w'=>y=.slice (some ⟨w5.heap.size,0,none⟩) 1 1∧Ext w5 w'∧w'.heap[w5.heap.size]?=some (.cells (List.replicate 1 ([zB g.b])).flatten.toArray 5)) aB rfl rfl (by kernel_rfl) (λu hu=>⟨_,_,.inl (jA (y:=zB g.b) rfl Tryz.underlying43 vj vi vh vg (by simp[d7]) rfl u),by rw[hu.heap],(Ext.twin hu).trans _ _ _ (Ext.alloc _ _),by rw[<-hu.heap];exact bI _ _⟩) ?_
   rintro _ w6 ⟨rfl,ew,mr⟩;refine dj _ w6 ew ?_;simp only[aC,reduceIte,Nat.reduceEqDiff,Nat.reduceLeDiff,or_self];exact⟨_,rfl,hE.size,mr⟩
  .have d6:aC 89 43 5 1 w.heap.size W 3 n g.bv (.slice p n n) (zB g.b) (zB g.b) ([zB g.b]) (aH N 89 43 5 1 zB (g.b+1)) 6 (f' 28) w5:=hd 6 (aD (by kernel_rfl));simp[aC]at d6;have d8:aC 89 43 5 1 w.heap.size W 3 n g.bv (.slice p n n) (zB g.b) (zB g.b) ([zB g.b]) (aH N 89 43 5 1 zB (g.b+1)) 8 (f' 30) w5:=hd 8 (aD (by kernel_rfl));simp only[aC,reduceIte,Nat.reduceEqDiff,Nat.reduceLeDiff,or_self]at d8;obtain⟨eS,hE⟩:=hB (by simp);subst S1;clear hd hB;refine aN aB rfl rfl (by kernel_rfl) (λu hu=>kG (s:=.tmp 28) (x:=.tmp 30) (N0:=w.heap.size) hu Tryz.underlying43 vj vi vh CF (by rw[vg];rfl) (by omega) (hF.kp rfl (dM N w) (aS hE)) hn (by omega) (by omega) (by omega) (zs:=[zB g.b]) rfl rfl (by simp[zB,zT,Value.oneCell']) hE.size d8 rfl (by simp[d6]) (by simp)) ?_;rintro y w6 ⟨vq,ew⟩;refine dj _ w6 ew ?_;simp only[aC,reduceIte,Nat.reduceEqDiff,Nat.reduceLeDiff,or_self];exact vq
  .clear hd hB;refine rY aB ?_;exact dj _ w5 (.refl w5) (by simp[aC])
  .clear hd hB;refine rY aB ?_;exact dj _ w5 (.refl w5) (by simp[aC])
  .clear hd hB;refine rY aB ?_;exact dj _ w5 (.refl w5) (by simp[aC])
  .have d11:aC 89 43 5 1 w.heap.size W 3 n g.bv (.slice p n n) (zB g.b) (zB g.b) ([zB g.b]) (aH N 89 43 5 1 zB (g.b+1)) 11 (f' 33) w5:=hd 11 (aD (by kernel_rfl));simp[aC]at d11;have d12:aC 89 43 5 1 w.heap.size W 3 n g.bv (.slice p n n) (zB g.b) (zB g.b) ([zB g.b]) (aH N 89 43 5 1 zB (g.b+1)) 12 (f' 34) w5:=hd 12 (aD (by kernel_rfl));simp[aC]at d12;obtain⟨eS,hE⟩:=hB (by simp);subst S1;clear hd hB;refine aN (Q:=λy w'=>y=.slice (some ⟨w5.heap.size,0,none⟩) 2 2∧Ext w5 w'∧w'.heap[w5.heap.size]?=some (.cells (List.replicate 2 ([zB g.b])).flatten.toArray 5)) aB rfl rfl (by kernel_rfl) (λu hu=>⟨_,_,.inl (sH (y0:=zB g.b) (y1:=zB g.b) rfl Tryz.underlying43 vj vi vh vg (by simp[d11]) rfl (by simp[d12]) rfl u),by rw[hu.heap],(Ext.twin hu).trans _ _ _ (Ext.alloc _ _),by rw[<-hu.heap];exact bI _ _⟩) ?_
   rintro _ w6 ⟨rfl,ew,mr⟩;refine dj _ w6 ew ?_;simp only[aC,reduceIte,Nat.reduceEqDiff,Nat.reduceLeDiff,or_self];exact⟨_,rfl,hE.size,mr⟩
  .have d10:aC 89 43 5 1 w.heap.size W 3 n g.bv (.slice p n n) (zB g.b) (zB g.b) ([zB g.b]) (aH N 89 43 5 1 zB (g.b+1)) 10 (f' 32) w5:=hd 10 (aD (by kernel_rfl));simp[aC]at d10;have d13:aC 89 43 5 1 w.heap.size W 3 n g.bv (.slice p n n) (zB g.b) (zB g.b) ([zB g.b]) (aH N 89 43 5 1 zB (g.b+1)) 13 (f' 35) w5:=hd 13 (aD (by kernel_rfl));simp only[aC,reduceIte,Nat.reduceEqDiff,Nat.reduceLeDiff,or_self]at d13;obtain⟨eS,hE⟩:=hB (by simp);subst S1;clear hd hB;refine aN aB rfl rfl (by kernel_rfl) (λu hu=>kG (s:=.tmp 32) (x:=.tmp 35) (N0:=w.heap.size) hu Tryz.underlying43 vj vi vh CF (by rw[vg];rfl) (by omega) (hF.kp rfl (dM N w) (aS hE)) hn (by omega) (by omega) (by omega) (zs:=[zB g.b]) rfl rfl (by simp[zB,zT,Value.oneCell']) hE.size d13 rfl (by simp[d10]) (by simp)) ?_;rintro y w6 ⟨vq,ew⟩;refine dj _ w6 ew ?_;simp only[aC,reduceIte,Nat.reduceEqDiff,Nat.reduceLeDiff,or_self];exact vq
  .clear hd hB;refine rY aB ?_;exact dj _ w5 (.refl w5) (by simp[aC])
  .clear hd hB;refine rY aB ?_;exact dj _ w5 (.refl w5) (by simp[aC])
  .clear hd hB;refine rY aB ?_;exact dj _ w5 (.refl w5) (by simp[aC])
  .clear hd hB;refine rY aB ?_;exact dj _ w5 (.refl w5) (by simp[aC])
  .clear hd hB;refine rY aB ?_;exact dj _ w5 (.refl w5) (by simp[aC])
  .clear hd hB;refine rY aB ?_;exact dj _ w5 (.refl w5) (by simp[aC])
  .clear hd hB;refine rY aB ?_;exact dj _ w5 (.refl w5) (by simp[aC])
  .have d16:aC 89 43 5 1 w.heap.size W 3 n g.bv (.slice p n n) (zB g.b) (zB g.b) ([zB g.b]) (aH N 89 43 5 1 zB (g.b+1)) 16 (f' 38) w5:=hd 16 (aD (by kernel_rfl));simp[aC]at d16;have d17:aC 89 43 5 1 w.heap.size W 3 n g.bv (.slice p n n) (zB g.b) (zB g.b) ([zB g.b]) (aH N 89 43 5 1 zB (g.b+1)) 17 (f' 39) w5:=hd 17 (aD (by kernel_rfl));simp[aC]at d17;have d18:aC 89 43 5 1 w.heap.size W 3 n g.bv (.slice p n n) (zB g.b) (zB g.b) ([zB g.b]) (aH N 89 43 5 1 zB (g.b+1)) 18 (f' 40) w5:=hd 18 (aD (by kernel_rfl));simp[aC]at d18;have d19:aC 89 43 5 1 w.heap.size W 3 n g.bv (.slice p n n) (zB g.b) (zB g.b) ([zB g.b]) (aH N 89 43 5 1 zB (g.b+1)) 19 (f' 41) w5:=hd 19 (aD (by kernel_rfl));simp[aC]at d19;have d20:aC 89 43 5 1 w.heap.size W 3 n g.bv (.slice p n n) (zB g.b) (zB g.b) ([zB g.b]) (aH N 89 43 5 1 zB (g.b+1)) 20 (f' 42) w5:=hd 20 (aD (by kernel_rfl));simp[aC]at d20;have d21:aC 89 43 5 1 w.heap.size W 3 n g.bv (.slice p n n) (zB g.b) (zB g.b) ([zB g.b]) (aH N 89 43 5 1 zB (g.b+1)) 21 (f' 43) w5:=hd 21 (aD (by kernel_rfl));simp[aC]at d21;obtain⟨eS,hE⟩:=hB (by simp);subst S1;clear hd hB;refine aN (Q:=λy w'=>y=.slice (some ⟨w5.heap.size,0,none⟩) 6 6∧Ext w5 w'∧w'.heap[w5.heap.size]?=some (.cells (List.replicate 6 ([zB g.b])).flatten.toArray 5)) aB rfl rfl (by kernel_rfl) (λu hu=>⟨_,_,.inl (Ce (y0:=zB g.b) (y1:=zB g.b) (y2:=zB g.b) (y3:=zB g.b) (y4:=zB g.b) (y5:=zB g.b) rfl Tryz.underlying43 vj vi vh vg (by simp[d16]) rfl (by simp[d17]) rfl (by simp[d18]) rfl (by simp[d19]) rfl (by simp[d20]) rfl (by simp[d21]) rfl u),by rw[hu.heap],(Ext.twin hu).trans _ _ _ (Ext.alloc _ _),by rw[<-hu.heap];exact bI _ _⟩) ?_
   rintro _ w6 ⟨rfl,ew,mr⟩;refine dj _ w6 ew ?_;simp only[aC,reduceIte,Nat.reduceEqDiff,Nat.reduceLeDiff,or_self];exact⟨_,rfl,hE.size,mr⟩
  .have d15:aC 89 43 5 1 w.heap.size W 3 n g.bv (.slice p n n) (zB g.b) (zB g.b) ([zB g.b]) (aH N 89 43 5 1 zB (g.b+1)) 15 (f' 37) w5:=hd 15 (aD (by kernel_rfl));simp[aC]at d15;have d22:aC 89 43 5 1 w.heap.size W 3 n g.bv (.slice p n n) (zB g.b) (zB g.b) ([zB g.b]) (aH N 89 43 5 1 zB (g.b+1)) 22 (f' 44) w5:=hd 22 (aD (by kernel_rfl));simp only[aC,reduceIte,Nat.reduceEqDiff,Nat.reduceLeDiff,or_self]at d22;obtain⟨eS,hE⟩:=hB (by simp);subst S1;clear hd hB;refine aN aB rfl rfl (by kernel_rfl) (λu hu=>kG (s:=.tmp 37) (x:=.tmp 44) (N0:=w.heap.size) hu Tryz.underlying43 vj vi vh CF (by rw[vg];rfl) (by omega) (hF.kp rfl (dM N w) (aS hE)) hn (by omega) (by omega) (by omega) (zs:=[zB g.b]) rfl rfl (by simp[zB,zT,Value.oneCell']) hE.size d22 rfl (by simp[d15]) (by simp)) ?_;rintro y w6 ⟨vq,ew⟩;refine dj _ w6 ew ?_;simp only[aC,reduceIte,Nat.reduceEqDiff,Nat.reduceLeDiff,or_self];exact vq
  .have d5:aC 89 43 5 1 w.heap.size W 3 n g.bv (.slice p n n) (zB g.b) (zB g.b) ([zB g.b]) (aH N 89 43 5 1 zB (g.b+1)) 5 (f' 27) w5:=hd 5 (aD (by kernel_rfl));simp[aC]at d5;have d9:aC 89 43 5 1 w.heap.size W 3 n g.bv (.slice p n n) (zB g.b) (zB g.b) ([zB g.b]) (aH N 89 43 5 1 zB (g.b+1)) 9 (f' 31) w5:=hd 9 (aD (by kernel_rfl));have d14:aC 89 43 5 1 w.heap.size W 3 n g.bv (.slice p n n) (zB g.b) (zB g.b) ([zB g.b]) (aH N 89 43 5 1 zB (g.b+1)) 14 (f' 36) w5:=hd 14 (aD (by kernel_rfl));have d23:aC 89 43 5 1 w.heap.size W 3 n g.bv (.slice p n n) (zB g.b) (zB g.b) ([zB g.b]) (aH N 89 43 5 1 zB (g.b+1)) 23 (f' 45) w5:=hd 23 (aD (by kernel_rfl));simp only[aC,reduceIte,Nat.reduceEqDiff,Nat.reduceLeDiff,or_self]at d9 d14 d23;obtain⟨eS,hE⟩:=hB (by simp);subst S1;clear hd hB;obtain⟨B1,c1,C1,m1,_⟩:=id d9;obtain⟨B2,c2,C2,m2,_⟩:=id d14;obtain⟨B3,c3,C3,m3,_⟩:=id d23;refine aN (Q:=λy w'=>y=.slice (some ⟨w5.heap.size,0,none⟩) 4 4∧Ext w5 w'∧w'.heap[w5.heap.size]?=some (.cells #[.slice p n n,f' 31,f' 36,f' 45] 43)) aB rfl rfl (by kernel_rfl) (λu hu=>⟨_,_,.inl (wE (y0:=.slice p n n) (y1:=f' 31) (y2:=f' 36) (y3:=f' 45) rfl Tryz.underlying89 EV EU ET ES (by simp[d5]) rfl (by simp) (by rw[m1];rfl) (by simp) (by rw[m2];rfl) (by simp) (by rw[m3];rfl) u),by rw[hu.heap],(Ext.twin hu).trans _ _ _ (Ext.alloc _ _),by rw[<-hu.heap];exact bI _ _⟩) ?_
   rintro _ w6 ⟨rfl,ew,mr⟩;refine dj _ w6 ew ?_;simp only[aC,reduceIte,Nat.reduceEqDiff,Nat.reduceLeDiff,or_self];exact⟨_,_,_,_,rfl,hE.size,mr,d9.kp (aS ew) λ_ h=>h.elim,d14.kp (aS ew) λ_ h=>h.elim,d23.kp (aS ew) λ_ h=>h.elim⟩
  .have d24:aC 89 43 5 1 w.heap.size W 3 n g.bv (.slice p n n) (zB g.b) (zB g.b) ([zB g.b]) (aH N 89 43 5 1 zB (g.b+1)) 24 (f' 46) w5:=hd 24 (aD (by kernel_rfl));simp only[aC,reduceIte,Nat.reduceEqDiff,Nat.reduceLeDiff,or_self]at d24;obtain⟨eS,hE⟩:=hB (by simp);subst S1;clear hd hB;obtain⟨E1,e1,e2,e3,m1,_⟩:=id d24;refine aN (Q:=λy w'=>y=.slice (some ⟨w5.heap.size,0,none⟩) 1 1∧Ext w5 w'∧w'.heap[w5.heap.size]?=some (.cells #[f' 46] 89)) aB rfl rfl (by kernel_rfl) (λu hu=>⟨_,_,.inl (jA (y:=f' 46) rfl Tryz.underlying27 IT IS IQ IP (by simp) (by rw[m1];rfl) u),by rw[hu.heap],(Ext.twin hu).trans _ _ _ (Ext.alloc _ _),by rw[<-hu.heap];exact bI _ _⟩) ?_
   rintro _ w6 ⟨rfl,ew,mr⟩;refine dj _ w6 ew ?_;simp only[aC,reduceIte,Nat.reduceEqDiff,Nat.reduceLeDiff,or_self];exact⟨_,_,rfl,hE.size,mr,d24.kp (aS ew) λ_ h=>h.elim⟩
  .exact absurd rfl dy
  .have d0:aC 89 43 5 1 w.heap.size W 3 n g.bv (.slice p n n) (zB g.b) (zB g.b) ([zB g.b]) (aH N 89 43 5 1 zB (g.b+1)) 0 (f' 22) w5:=hd 0 (aD (by kernel_rfl));simp[aC]at d0;clear hd hB;refine rY aB ?_;exact dj _ w5 (.refl w5) (by simp[aC])
  .have d27:aC 89 43 5 1 w.heap.size W 3 n g.bv (.slice p n n) (zB g.b) (zB g.b) ([zB g.b]) (aH N 89 43 5 1 zB (g.b+1)) 27 (f' 49) w5:=hd 27 (aD (by kernel_rfl));simp[aC]at d27;clear hd hB;refine rY aB ?_;exact dj _ w5 (.refl w5) (by simp[aC])
  .exact absurd rfl yx
 .rintro f' S1 w5 rest ⟨eS,hE⟩ hf hd dj;subst S1;have d4:aC 89 43 5 1 w.heap.size W 3 n g.bv (.slice p n n) (zB g.b) (zB g.b) ([zB g.b]) (aH N 89 43 5 1 zB (g.b+1)) 4 (f' 26) w5:=hd 4 (by simp);have d25:aC 89 43 5 1 w.heap.size W 3 n g.bv (.slice p n n) (zB g.b) (zB g.b) ([zB g.b]) (aH N 89 43 5 1 zB (g.b+1)) 25 (f' 47) w5:=hd 25 (by simp);simp[aC]at d4;simp only[aC,reduceIte,Nat.reduceEqDiff,Nat.reduceLeDiff,or_self]at d25;obtain⟨B,y',UM,K1,CR,wo⟩:=d25;clear hd hf;have QB:y'.oneCell'=true:=by
   obtain⟨E1,_,_,_,m1,_⟩:=wo;rw[m1];rfl
  have gw:Gr w w5 none:=⟨hE.os,hE.output,hE.size,λb hb _=>hE.block b hb⟩
  refine aN aB rfl rfl (by kernel_rfl) (λu hu=>pG (s:=.tmp 26) (x:=.tmp 47) (ad:=⟨B,0,none⟩) (m:=1) (c:=1) (news:=[y']) hu N Tryz.underlying27 IT IS IQ PY (by rw[IP];rfl) (mN pg gw (by simp)) rfl (by omega) (pR CR) (λy hy=>by rw[List.mem_singleton]at hy;subst hy;exact QB) (by unfold maxLen;omega) (by omega) (by have:=hm.new;have:=(Array.getElem?_eq_some_iff.1 hm.row).1;have:=hE.size;omega) rfl (by simp[d4]) (by simp[UM])) ?_;rintro v' w6 ⟨GO,ru,hblk⟩;have qs:Kp w (λb=>g.bv.ownBlock=some b) w6:=((aS hE).or (iJ ru)).mono λb h=>h.elim False.elim id
  have fy:dC N w λb=>g.bv.ownBlock=some b:=λb hb=>hm.offY b (.inr (.inr (.inr (.inl hb))))
  have UF:kC 43 5 1 (zB g.b) w6 y':=(wo.kp (iJ ru) du).en (hF.kp rfl fy qs) hn
  exact dj _ S w6 ⟨rfl,qs⟩ (by
   simp only[aC,reduceIte,Nat.reduceEqDiff,Nat.reduceLeDiff,or_self]
   exact hm.b.push rfl rfl pg ya fy qs GO UF) λj y hj gh h=>oM (λe=>absurd e hj) h (iJ ru) du
 .rintro f' S1 w5 rest ⟨eS,lz⟩ hf hd dj;subst S1;have d26:aC 89 43 5 1 w.heap.size W 3 n g.bv (.slice p n n) (zB g.b) (zB g.b) ([zB g.b]) (aH N 89 43 5 1 zB (g.b+1)) 26 (f' 48) w5:=hd 26 (by decide) (by decide);have d28:aC 89 43 5 1 w.heap.size W 3 n g.bv (.slice p n n) (zB g.b) (zB g.b) ([zB g.b]) (aH N 89 43 5 1 zB (g.b+1)) 28 (f' 50) w5:=hd 28 (by decide) (by decide);simp[aC]at d28;simp only[aC,reduceIte,Nat.reduceEqDiff,Nat.reduceLeDiff,or_self]at d26;clear hd hf;obtain⟨v',hv⟩:∃v',f' 48=v':=⟨_,rfl⟩;rw[hv]at d26;obtain⟨ys,IU,_⟩:=id d26
  have vo:w5.heap[W]?=some (.cells g.row 34):=lz.cells _ _ _ _ (λq=>by
   obtain⟨C',ek⟩:=dL pg q;rw[hm.row]at ek
   cases ek) hm.row
  refine aN aB rfl rfl (by kernel_rfl) (λu hu=>nX (x:=.tmp 50) (y:=.tmp 48) (j:=3) (z:=v') hu vo (by simp[Wv.row]) (kZ IU).1 (kZ IU).2 rfl (by simp[d28]) (by simp[hv]) (by kernel_rfl)) ?_;rintro x1 w6 hW;obtain⟨q1,q2⟩:=hm.setB lz d26 hW;exact dj _ S w6 ⟨rfl,q2,v',q1⟩
 .rintro f' S1 w5 ⟨eS,q1,v',q2⟩ hf;subst S1;exact next w5 f' v' q1 q2
theorem T9:∃i z,Tryz.prog.info? 94=some i∧i.zero=some z∧i.size=3∧i.bytes=24∧z.cells.size=3:=⟨_,_,rfl,rfl,rfl,rfl,rfl⟩
theorem Xw:∃i z,Tryz.prog.info? 91=some i∧i.zero=some z∧i.size=1∧i.bytes=24∧z.cells=#[z]:=⟨_,_,rfl,rfl,rfl,rfl,rfl⟩
theorem Xv:∃i z,Tryz.prog.info? 92=some i∧i.zero=some z∧i.size=1∧i.bytes=24∧z.cells=#[z]:=⟨_,_,rfl,rfl,rfl,rfl,rfl⟩
def aI(i:Nat):Array Value:=#[.int .i64 (-7000-(i:Int)),.int .i64 0,.int .i64 0]
theorem jQ{o:Oper}{a:Act}{x:Operand}{b:Nat}{u:World}{i:Nat}(dm:o.op=.load 94 x)(hx:a.eval x=.pointer (some ⟨b,0,none⟩))(h:u.heap[b]?=some (.cells (aI i) 94)):(execOp a.eval o).run Tryz.prog u=.ok (.value (.agg (aI i))) u:=by
 have hl:=run_loadAt_mid (P:=Tryz.prog) u b 0 94 (aI i).toList _ (λk r hy=>by
  rw[an,ab _ _ _ _ _ _ h,<-bd]
  exact hy) Tryz.underlying94 rfl (by kernel_rfl)
 unfold execOp;simp only[dm,hx,df,hl,dc,dg]
theorem Yo{u:World}{o:Oper}{a:Act}{x0:Operand}{i:Nat}(dm:o.op=Op.buildSlice 91 1 #[(0,x0)])(xm:a.eval x0=.agg (aI i)):(execOp a.eval o).run Tryz.prog u=.ok (.value (.slice (some ⟨u.heap.size,0,none⟩) 1 1)) (u.alloc (.cells (List.replicate 1 (aI i).toList).flatten.toArray 94)):=by obtain⟨inf,hq,h1,h3⟩:=mP;simp[execOp,dm,xm,Instr.buildSlice,cw Tryz.underlying91,sizeOf,typeInfo,hq,h1,zeroValue,h3,Value.cells,Instr.fill,newRow,aI,bR];refine congrArg (λc=>u.alloc (Obj.cells c 94)) ?_;apply Array.ext';simp[List.range,List.range.loop]
theorem Yn{u:World}{o:Oper}{a:Act}{x0 x1:Operand}{i:Nat}(dm:o.op=Op.buildSlice 91 2 #[(0,x0),(1,x1)])(xm:a.eval x0=.agg (aI i))(ub:a.eval x1=.agg (aI i)):(execOp a.eval o).run Tryz.prog u=.ok (.value (.slice (some ⟨u.heap.size,0,none⟩) 2 2)) (u.alloc (.cells (List.replicate 2 (aI i).toList).flatten.toArray 94)):=by obtain⟨inf,hq,h1,h3⟩:=mP;simp[execOp,dm,xm,ub,Instr.buildSlice,cw Tryz.underlying91,sizeOf,typeInfo,hq,h1,zeroValue,h3,Value.cells,Instr.fill,newRow,aI,bR];refine congrArg (λc=>u.alloc (Obj.cells c 94)) ?_;apply Array.ext';simp[List.range,List.range.loop]
theorem Ym{u:World}{o:Oper}{a:Act}{x0 x1 x2 x3 x4 x5:Operand}{i:Nat}(dm:o.op=Op.buildSlice 91 6 #[(0,x0),(1,x1),(2,x2),(3,x3),(4,x4),(5,x5)])(xm:a.eval x0=.agg (aI i))(ub:a.eval x1=.agg (aI i))(zm:a.eval x2=.agg (aI i))(CK:a.eval x3=.agg (aI i))(QC:a.eval x4=.agg (aI i))(NY:a.eval x5=.agg (aI i)):(execOp a.eval o).run Tryz.prog u=.ok (.value (.slice (some ⟨u.heap.size,0,none⟩) 6 6)) (u.alloc (.cells (List.replicate 6 (aI i).toList).flatten.toArray 94)):=by obtain⟨inf,hq,h1,h3⟩:=mP;simp[execOp,dm,xm,ub,zm,CK,QC,NY,Instr.buildSlice,cw Tryz.underlying91,sizeOf,typeInfo,hq,h1,zeroValue,h3,Value.cells,Instr.fill,newRow,aI,bR];refine congrArg (λc=>u.alloc (Obj.cells c 94)) ?_;apply Array.ext';simp[List.range,List.range.loop]
theorem bk_h{w:World}{S:Nat->Prop}{f:Nat->Value}{Stop:Goroutine->(Nat->Prop)->World->Prop}{cs:List Frame}{k0:List Item}{x:Nat->Sx}{T:Nat->List It}(N W n:Nat)(g:Wv)(p:Option Addr)(hm:Wm N W x T g w)(hF:jL 94 3 w p n (zH g.h))(hn:n<=400)(hb:g.h<1099511627776)
  (g0:f 0=.pointer (some ⟨W,3,none⟩)) (g1:f 1=.slice p n n) (mb:Nat) (zx:w.heap[mb]?=some (.cells (aI g.h) 94)) (g4:f 4=.pointer (some ⟨mb,0,none⟩))
  (next:∀w' f' v',Kp w (YW W g) w'->Wm N W x T {g with hv:=v',h:=g.h+1} w'->Vw.Reach Tryz.prog Stop (G ((_root_.Go.Conc.base 40).at ⟨TA 52 f',[]⟩ (.inRegion ((bM 5 (Tryz.f40.body.getD .skip)).getD #[]) []::k0)) cs) S w') :
  Vw.Reach Tryz.prog Stop (G ((_root_.Go.Conc.base 40).at ⟨TA 52 f,[]⟩ (.code (.region 5 ((bM 5 (Tryz.f40.body.getD .skip)).getD #[]) true)::k0)) cs) S w:=by
 have e0:bM 5 (Tryz.f40.body.getD .skip)=some _:=rfl;rw[e0]at next⊢
 simp only[ao]at next⊢
 clear e0;obtain⟨ie,ze,vj,vi,vh,CF,vg⟩:=T9;obtain⟨is,zs,EV,EU,ET,NU,ES⟩:=Xw;obtain⟨it,zt,IT,IS,IQ,PY,IP⟩:=Xv;obtain⟨xs,pg,ya⟩:=hm.h;have du:∀b,g.hv.ownBlock=some b->b<w.heap.size:=λb hb=>(pg.lt b hb).2
 have GY:w.cell? ⟨W,5,none⟩=some g.hv:=(ab _ W 5 _ _ _ hm.row).trans rfl;refine rJ (by kernel_rfl) (by kernel_rfl) (by kernel_rfl) 26 [1,2,3,4,5,6,7,8,9,10,11,12,13,14,15,16,17,18,19,20,21,22,23,24,25] (by kernel_rfl) 29 [0,1,2,3,4,5,6,7,8,9,10,11,12,13,14,15,16,17,18,19,20,21,22,23,24,25,26,27,28] (by kernel_rfl) (by kernel_rfl) (by decide) (aC 92 91 94 3 w.heap.size W 5 n g.hv (.slice p n n) (.agg (aI g.h)) (zH g.h) ((aI g.h).toList) (aH N 92 91 94 3 zH (g.h+1))) (λS' w'=>S'=S∧Ext w w') (λS' w'=>S'=S∧Kp w (λb=>g.hv.ownBlock=some b) w') (λS' w'=>S'=S∧Kp w (YW W g) w'∧∃v',Wm N W x T {g with hv:=v',h:=g.h+1} w') (λS' w w' h hE=>⟨h.1,h.2.trans _ _ _ hE⟩) (λS' w w' h hE=>⟨h.1,h.2.ext hE⟩) (λj x w w' h hE=>oM (λ_ q=>q.kp rfl rfl (dM N w) (aS hE) λ_ _ h=>h.elim) h (aS hE) λ_ h=>h.elim) ?_ ⟨rfl,.refl _⟩ ?_ ?_ ?_ ?_
 .intro j hj he x w h;have jo:j<30:=hj;rcases(by omega:j=0∨j=1∨j=2∨j=3∨j=4∨j=5∨j=6∨j=7∨j=8∨j=9∨j=10∨j=11∨j=12∨j=13∨j=14∨j=15∨j=16∨j=17∨j=18∨j=19∨j=20∨j=21∨j=22∨j=23∨j=24∨j=25∨j=26∨j=27∨j=28∨j=29) with rfl|rfl|rfl|rfl|rfl|rfl|rfl|rfl|rfl|rfl|rfl|rfl|rfl|rfl|rfl|rfl|rfl|rfl|rfl|rfl|rfl|rfl|rfl|rfl|rfl|rfl|rfl|rfl|rfl|rfl;all_goals first|(cases he;done)|(simp[aC])
 .intro i f' S1 w5 rest hi dy yx hB _ hf hd dj;have BI:f' 0=.pointer (some ⟨W,3,none⟩):=(hf 0 (eK (by kernel_rfl))).trans g0;have WG:f' 1=.slice p n n:=(hf 1 (eK (by kernel_rfl))).trans g1;have yk:=(hf 4 (eK (by kernel_rfl))).trans g4;clear hf;have ft:i<30:=hi;rcases(by omega:i=0∨i=1∨i=2∨i=3∨i=4∨i=5∨i=6∨i=7∨i=8∨i=9∨i=10∨i=11∨i=12∨i=13∨i=14∨i=15∨i=16∨i=17∨i=18∨i=19∨i=20∨i=21∨i=22∨i=23∨i=24∨i=25∨i=26∨i=27∨i=28∨i=29) with rfl|rfl|rfl|rfl|rfl|rfl|rfl|rfl|rfl|rfl|rfl|rfl|rfl|rfl|rfl|rfl|rfl|rfl|rfl|rfl|rfl|rfl|rfl|rfl|rfl|rfl|rfl|rfl|rfl|rfl
  .clear hd hB;refine rY aB ?_;exact dj _ w5 (.refl w5) (by simp[aC])
  .clear hd hB;refine rY aB ?_;exact dj _ w5 (.refl w5) (by simp[aC])
  .have d1:aC 92 91 94 3 w.heap.size W 5 n g.hv (.slice p n n) (.agg (aI g.h)) (zH g.h) ((aI g.h).toList) (aH N 92 91 94 3 zH (g.h+1)) 1 (f' 24) w5:=hd 1 (aD (by kernel_rfl));simp[aC]at d1;clear hd hB;refine rY aB ?_;exact dj _ w5 (.refl w5) (by simp[aC])
  .have d2:aC 92 91 94 3 w.heap.size W 5 n g.hv (.slice p n n) (.agg (aI g.h)) (zH g.h) ((aI g.h).toList) (aH N 92 91 94 3 zH (g.h+1)) 2 (f' 25) w5:=hd 2 (aD (by kernel_rfl));simp[aC]at d2;clear hd hB;refine rY aB ?_;exact dj _ w5 (.refl w5) (by simp[aC])
  .have d3:aC 92 91 94 3 w.heap.size W 5 n g.hv (.slice p n n) (.agg (aI g.h)) (zH g.h) ((aI g.h).toList) (aH N 92 91 94 3 zH (g.h+1)) 3 (f' 26) w5:=hd 3 (aD (by kernel_rfl));simp[aC]at d3;obtain⟨eS,hE⟩:=hB (by simp);subst S1;have qi:=hE.cell GY;clear hd hB;(refine rO aB rfl ?_;intro _ dt K_ dr;(have hc:=(Ext.twin dt).cell qi);go_simp;(try rw[wI _]);(try rw[wU _]);refine dr _ ?_;clear dr K_ dt;simp only[sS,sN]);exact dj _ w5 (.refl w5) (by simp[aC])
  .clear hd hB;refine rY aB ?_;exact dj _ w5 (.refl w5) (by simp[aC])
  .clear hd hB;refine rY aB ?_;exact dj _ w5 (.refl w5) (by simp[aC])
  .obtain⟨eS,hE⟩:=hB (by simp);subst S1;clear hd hB;refine bV aB rfl rfl (by kernel_rfl) (λu hu=>jQ (b:=mb) (x:=.tmp 4) rfl (by simp[yk]) ((Ext.twin hu).row (hE.row zx))) ?_;simp only[stO_some];exact dj _ w5 (.refl w5) (by simp[aC])
  .have d7:aC 92 91 94 3 w.heap.size W 5 n g.hv (.slice p n n) (.agg (aI g.h)) (zH g.h) ((aI g.h).toList) (aH N 92 91 94 3 zH (g.h+1)) 7 (f' 30) w5:=hd 7 (aD (by kernel_rfl));simp[aC]at d7;obtain⟨eS,hE⟩:=hB (by simp);subst S1;clear hd hB;refine aN (Q:=λy w'=>y=.slice (some ⟨w5.heap.size,0,none⟩) 1 1∧Ext w5 w'∧w'.heap[w5.heap.size]?=some (.cells (List.replicate 1 ((aI g.h).toList)).flatten.toArray 94)) aB rfl rfl (by kernel_rfl) (λu hu=>⟨_,_,.inl (Yo (i:=g.h) rfl (by simp[d7])),by rw[hu.heap],(Ext.twin hu).trans _ _ _ (Ext.alloc _ _),by rw[<-hu.heap];exact bI _ _⟩) ?_
   rintro _ w6 ⟨rfl,ew,mr⟩;refine dj _ w6 ew ?_;simp only[aC,reduceIte,Nat.reduceEqDiff,Nat.reduceLeDiff,or_self];exact⟨_,rfl,hE.size,mr⟩
  .have d6:aC 92 91 94 3 w.heap.size W 5 n g.hv (.slice p n n) (.agg (aI g.h)) (zH g.h) ((aI g.h).toList) (aH N 92 91 94 3 zH (g.h+1)) 6 (f' 29) w5:=hd 6 (aD (by kernel_rfl));simp[aC]at d6;have d8:aC 92 91 94 3 w.heap.size W 5 n g.hv (.slice p n n) (.agg (aI g.h)) (zH g.h) ((aI g.h).toList) (aH N 92 91 94 3 zH (g.h+1)) 8 (f' 31) w5:=hd 8 (aD (by kernel_rfl));simp only[aC,reduceIte,Nat.reduceEqDiff,Nat.reduceLeDiff,or_self]at d8;obtain⟨eS,hE⟩:=hB (by simp);subst S1;clear hd hB;refine aN aB rfl rfl (by kernel_rfl) (λu hu=>kG (s:=.tmp 29) (x:=.tmp 31) (N0:=w.heap.size) hu Tryz.underlying91 vj vi vh CF vg (by omega) (hF.kp rfl (dM N w) (aS hE)) hn (by omega) (by omega) (by omega) (zs:=(aI g.h).toList) rfl rfl (by simp[aI,Value.oneCell']) hE.size d8 rfl (by simp[d6]) (by simp)) ?_;rintro y w6 ⟨vq,ew⟩;refine dj _ w6 ew ?_;simp only[aC,reduceIte,Nat.reduceEqDiff,Nat.reduceLeDiff,or_self];exact vq
  .clear hd hB;refine rY aB ?_;exact dj _ w5 (.refl w5) (by simp[aC])
  .obtain⟨eS,hE⟩:=hB (by simp);subst S1;clear hd hB;refine bV aB rfl rfl (by kernel_rfl) (λu hu=>jQ (b:=mb) (x:=.tmp 4) rfl (by simp[yk]) ((Ext.twin hu).row (hE.row zx))) ?_;simp only[stO_some];exact dj _ w5 (.refl w5) (by simp[aC])
  .obtain⟨eS,hE⟩:=hB (by simp);subst S1;clear hd hB;refine bV aB rfl rfl (by kernel_rfl) (λu hu=>jQ (b:=mb) (x:=.tmp 4) rfl (by simp[yk]) ((Ext.twin hu).row (hE.row zx))) ?_;simp only[stO_some];exact dj _ w5 (.refl w5) (by simp[aC])
  .have d11:aC 92 91 94 3 w.heap.size W 5 n g.hv (.slice p n n) (.agg (aI g.h)) (zH g.h) ((aI g.h).toList) (aH N 92 91 94 3 zH (g.h+1)) 11 (f' 34) w5:=hd 11 (aD (by kernel_rfl));simp[aC]at d11;have d12:aC 92 91 94 3 w.heap.size W 5 n g.hv (.slice p n n) (.agg (aI g.h)) (zH g.h) ((aI g.h).toList) (aH N 92 91 94 3 zH (g.h+1)) 12 (f' 35) w5:=hd 12 (aD (by kernel_rfl));simp[aC]at d12;obtain⟨eS,hE⟩:=hB (by simp);subst S1;clear hd hB;refine aN (Q:=λy w'=>y=.slice (some ⟨w5.heap.size,0,none⟩) 2 2∧Ext w5 w'∧w'.heap[w5.heap.size]?=some (.cells (List.replicate 2 ((aI g.h).toList)).flatten.toArray 94)) aB rfl rfl (by kernel_rfl) (λu hu=>⟨_,_,.inl (Yn (i:=g.h) rfl (by simp[d11]) (by simp[d12])),by rw[hu.heap],(Ext.twin hu).trans _ _ _ (Ext.alloc _ _),by rw[<-hu.heap];exact bI _ _⟩) ?_
   rintro _ w6 ⟨rfl,ew,mr⟩;refine dj _ w6 ew ?_;simp only[aC,reduceIte,Nat.reduceEqDiff,Nat.reduceLeDiff,or_self];exact⟨_,rfl,hE.size,mr⟩
  .have d10:aC 92 91 94 3 w.heap.size W 5 n g.hv (.slice p n n) (.agg (aI g.h)) (zH g.h) ((aI g.h).toList) (aH N 92 91 94 3 zH (g.h+1)) 10 (f' 33) w5:=hd 10 (aD (by kernel_rfl));simp[aC]at d10;have d13:aC 92 91 94 3 w.heap.size W 5 n g.hv (.slice p n n) (.agg (aI g.h)) (zH g.h) ((aI g.h).toList) (aH N 92 91 94 3 zH (g.h+1)) 13 (f' 36) w5:=hd 13 (aD (by kernel_rfl));simp only[aC,reduceIte,Nat.reduceEqDiff,Nat.reduceLeDiff,or_self]at d13;obtain⟨eS,hE⟩:=hB (by simp);subst S1;clear hd hB;refine aN aB rfl rfl (by kernel_rfl) (λu hu=>kG (s:=.tmp 33) (x:=.tmp 36) (N0:=w.heap.size) hu Tryz.underlying91 vj vi vh CF vg (by omega) (hF.kp rfl (dM N w) (aS hE)) hn (by omega) (by omega) (by omega) (zs:=(aI g.h).toList) rfl rfl (by simp[aI,Value.oneCell']) hE.size d13 rfl (by simp[d10]) (by simp)) ?_;rintro y w6 ⟨vq,ew⟩;refine dj _ w6 ew ?_;simp only[aC,reduceIte,Nat.reduceEqDiff,Nat.reduceLeDiff,or_self];exact vq
  .clear hd hB;refine rY aB ?_;exact dj _ w5 (.refl w5) (by simp[aC])
  .obtain⟨eS,hE⟩:=hB (by simp);subst S1;clear hd hB;refine bV aB rfl rfl (by kernel_rfl) (λu hu=>jQ (b:=mb) (x:=.tmp 4) rfl (by simp[yk]) ((Ext.twin hu).row (hE.row zx))) ?_;simp only[stO_some];exact dj _ w5 (.refl w5) (by simp[aC])
  .obtain⟨eS,hE⟩:=hB (by simp);subst S1;clear hd hB;refine bV aB rfl rfl (by kernel_rfl) (λu hu=>jQ (b:=mb) (x:=.tmp 4) rfl (by simp[yk]) ((Ext.twin hu).row (hE.row zx))) ?_;simp only[stO_some];exact dj _ w5 (.refl w5) (by simp[aC])
  .obtain⟨eS,hE⟩:=hB (by simp);subst S1;clear hd hB;refine bV aB rfl rfl (by kernel_rfl) (λu hu=>jQ (b:=mb) (x:=.tmp 4) rfl (by simp[yk]) ((Ext.twin hu).row (hE.row zx))) ?_;simp only[stO_some];exact dj _ w5 (.refl w5) (by simp[aC])
  .obtain⟨eS,hE⟩:=hB (by simp);subst S1;clear hd hB;refine bV aB rfl rfl (by kernel_rfl) (λu hu=>jQ (b:=mb) (x:=.tmp 4) rfl (by simp[yk]) ((Ext.twin hu).row (hE.row zx))) ?_;simp only[stO_some];exact dj _ w5 (.refl w5) (by simp[aC])
  .obtain⟨eS,hE⟩:=hB (by simp);subst S1;clear hd hB;refine bV aB rfl rfl (by kernel_rfl) (λu hu=>jQ (b:=mb) (x:=.tmp 4) rfl (by simp[yk]) ((Ext.twin hu).row (hE.row zx))) ?_;simp only[stO_some];exact dj _ w5 (.refl w5) (by simp[aC])
  .obtain⟨eS,hE⟩:=hB (by simp);subst S1;clear hd hB;refine bV aB rfl rfl (by kernel_rfl) (λu hu=>jQ (b:=mb) (x:=.tmp 4) rfl (by simp[yk]) ((Ext.twin hu).row (hE.row zx))) ?_;simp only[stO_some];exact dj _ w5 (.refl w5) (by simp[aC])
  .have d16:aC 92 91 94 3 w.heap.size W 5 n g.hv (.slice p n n) (.agg (aI g.h)) (zH g.h) ((aI g.h).toList) (aH N 92 91 94 3 zH (g.h+1)) 16 (f' 39) w5:=hd 16 (aD (by kernel_rfl));simp[aC]at d16;have d17:aC 92 91 94 3 w.heap.size W 5 n g.hv (.slice p n n) (.agg (aI g.h)) (zH g.h) ((aI g.h).toList) (aH N 92 91 94 3 zH (g.h+1)) 17 (f' 40) w5:=hd 17 (aD (by kernel_rfl));simp[aC]at d17;have d18:aC 92 91 94 3 w.heap.size W 5 n g.hv (.slice p n n) (.agg (aI g.h)) (zH g.h) ((aI g.h).toList) (aH N 92 91 94 3 zH (g.h+1)) 18 (f' 41) w5:=hd 18 (aD (by kernel_rfl));simp[aC]at d18;have d19:aC 92 91 94 3 w.heap.size W 5 n g.hv (.slice p n n) (.agg (aI g.h)) (zH g.h) ((aI g.h).toList) (aH N 92 91 94 3 zH (g.h+1)) 19 (f' 42) w5:=hd 19 (aD (by kernel_rfl));simp[aC]at d19;have d20:aC 92 91 94 3 w.heap.size W 5 n g.hv (.slice p n n) (.agg (aI g.h)) (zH g.h) ((aI g.h).toList) (aH N 92 91 94 3 zH (g.h+1)) 20 (f' 43) w5:=hd 20 (aD (by kernel_rfl));simp[aC]at d20;have d21:aC 92 91 94 3 w.heap.size W 5 n g.hv (.slice p n n) (.agg (aI g.h)) (zH g.h) ((aI g.h).toList) (aH N 92 91 94 3 zH (g.h+1)) 21 (f' 44) w5:=hd 21 (aD (by kernel_rfl));simp[aC]at d21;obtain⟨eS,hE⟩:=hB (by simp);subst S1;clear hd hB;refine aN (Q:=λy w'=>y=.slice (some ⟨w5.heap.size,0,none⟩) 6 6∧Ext w5 w'∧w'.heap[w5.heap.size]?=some (.cells (List.replicate 6 ((aI g.h).toList)).flatten.toArray 94)) aB rfl rfl (by kernel_rfl) (λu hu=>⟨_,_,.inl (Ym (i:=g.h) rfl (by simp[d16]) (by simp[d17]) (by simp[d18]) (by simp[d19]) (by simp[d20]) (by simp[d21])),by rw[hu.heap],(Ext.twin hu).trans _ _ _ (Ext.alloc _ _),by rw[<-hu.heap];exact bI _ _⟩) ?_
   rintro _ w6 ⟨rfl,ew,mr⟩;refine dj _ w6 ew ?_;simp only[aC,reduceIte,Nat.reduceEqDiff,Nat.reduceLeDiff,or_self];exact⟨_,rfl,hE.size,mr⟩
  .have d15:aC 92 91 94 3 w.heap.size W 5 n g.hv (.slice p n n) (.agg (aI g.h)) (zH g.h) ((aI g.h).toList) (aH N 92 91 94 3 zH (g.h+1)) 15 (f' 38) w5:=hd 15 (aD (by kernel_rfl));simp[aC]at d15;have d22:aC 92 91 94 3 w.heap.size W 5 n g.hv (.slice p n n) (.agg (aI g.h)) (zH g.h) ((aI g.h).toList) (aH N 92 91 94 3 zH (g.h+1)) 22 (f' 45) w5:=hd 22 (aD (by kernel_rfl));simp only[aC,reduceIte,Nat.reduceEqDiff,Nat.reduceLeDiff,or_self]at d22;obtain⟨eS,hE⟩:=hB (by simp);subst S1;clear hd hB;refine aN aB rfl rfl (by kernel_rfl) (λu hu=>kG (s:=.tmp 38) (x:=.tmp 45) (N0:=w.heap.size) hu Tryz.underlying91 vj vi vh CF vg (by omega) (hF.kp rfl (dM N w) (aS hE)) hn (by omega) (by omega) (by omega) (zs:=(aI g.h).toList) rfl rfl (by simp[aI,Value.oneCell']) hE.size d22 rfl (by simp[d15]) (by simp)) ?_;rintro y w6 ⟨vq,ew⟩;refine dj _ w6 ew ?_;simp only[aC,reduceIte,Nat.reduceEqDiff,Nat.reduceLeDiff,or_self];exact vq
  .have d5:aC 92 91 94 3 w.heap.size W 5 n g.hv (.slice p n n) (.agg (aI g.h)) (zH g.h) ((aI g.h).toList) (aH N 92 91 94 3 zH (g.h+1)) 5 (f' 28) w5:=hd 5 (aD (by kernel_rfl));simp[aC]at d5;have d9:aC 92 91 94 3 w.heap.size W 5 n g.hv (.slice p n n) (.agg (aI g.h)) (zH g.h) ((aI g.h).toList) (aH N 92 91 94 3 zH (g.h+1)) 9 (f' 32) w5:=hd 9 (aD (by kernel_rfl));have d14:aC 92 91 94 3 w.heap.size W 5 n g.hv (.slice p n n) (.agg (aI g.h)) (zH g.h) ((aI g.h).toList) (aH N 92 91 94 3 zH (g.h+1)) 14 (f' 37) w5:=hd 14 (aD (by kernel_rfl));have d23:aC 92 91 94 3 w.heap.size W 5 n g.hv (.slice p n n) (.agg (aI g.h)) (zH g.h) ((aI g.h).toList) (aH N 92 91 94 3 zH (g.h+1)) 23 (f' 46) w5:=hd 23 (aD (by kernel_rfl));simp only[aC,reduceIte,Nat.reduceEqDiff,Nat.reduceLeDiff,or_self]at d9 d14 d23;obtain⟨eS,hE⟩:=hB (by simp);subst S1;clear hd hB;obtain⟨B1,c1,C1,m1,_⟩:=id d9;obtain⟨B2,c2,C2,m2,_⟩:=id d14;obtain⟨B3,c3,C3,m3,_⟩:=id d23;refine aN (Q:=λy w'=>y=.slice (some ⟨w5.heap.size,0,none⟩) 4 4∧Ext w5 w'∧w'.heap[w5.heap.size]?=some (.cells #[.slice p n n,f' 32,f' 37,f' 46] 91)) aB rfl rfl (by kernel_rfl) (λu hu=>⟨_,_,.inl (wE (y0:=.slice p n n) (y1:=f' 32) (y2:=f' 37) (y3:=f' 46) rfl Tryz.underlying92 EV EU ET ES (by simp[d5]) rfl (by simp) (by rw[m1];rfl) (by simp) (by rw[m2];rfl) (by simp) (by rw[m3];rfl) u),by rw[hu.heap],(Ext.twin hu).trans _ _ _ (Ext.alloc _ _),by rw[<-hu.heap];exact bI _ _⟩) ?_
   rintro _ w6 ⟨rfl,ew,mr⟩;refine dj _ w6 ew ?_;simp only[aC,reduceIte,Nat.reduceEqDiff,Nat.reduceLeDiff,or_self];exact⟨_,_,_,_,rfl,hE.size,mr,d9.kp (aS ew) λ_ h=>h.elim,d14.kp (aS ew) λ_ h=>h.elim,d23.kp (aS ew) λ_ h=>h.elim⟩
  .have d24:aC 92 91 94 3 w.heap.size W 5 n g.hv (.slice p n n) (.agg (aI g.h)) (zH g.h) ((aI g.h).toList) (aH N 92 91 94 3 zH (g.h+1)) 24 (f' 47) w5:=hd 24 (aD (by kernel_rfl));simp only[aC,reduceIte,Nat.reduceEqDiff,Nat.reduceLeDiff,or_self]at d24;obtain⟨eS,hE⟩:=hB (by simp);subst S1;clear hd hB;obtain⟨E1,e1,e2,e3,m1,_⟩:=id d24;refine aN (Q:=λy w'=>y=.slice (some ⟨w5.heap.size,0,none⟩) 1 1∧Ext w5 w'∧w'.heap[w5.heap.size]?=some (.cells #[f' 47] 92)) aB rfl rfl (by kernel_rfl) (λu hu=>⟨_,_,.inl (jA (y:=f' 47) rfl Tryz.underlying29 IT IS IQ IP (by simp) (by rw[m1];rfl) u),by rw[hu.heap],(Ext.twin hu).trans _ _ _ (Ext.alloc _ _),by rw[<-hu.heap];exact bI _ _⟩) ?_
   rintro _ w6 ⟨rfl,ew,mr⟩;refine dj _ w6 ew ?_;simp only[aC,reduceIte,Nat.reduceEqDiff,Nat.reduceLeDiff,or_self];exact⟨_,_,rfl,hE.size,mr,d24.kp (aS ew) λ_ h=>h.elim⟩
  .exact absurd rfl dy
  .have d0:aC 92 91 94 3 w.heap.size W 5 n g.hv (.slice p n n) (.agg (aI g.h)) (zH g.h) ((aI g.h).toList) (aH N 92 91 94 3 zH (g.h+1)) 0 (f' 23) w5:=hd 0 (aD (by kernel_rfl));simp[aC]at d0;clear hd hB;refine rY aB ?_;exact dj _ w5 (.refl w5) (by simp[aC])
  .have d27:aC 92 91 94 3 w.heap.size W 5 n g.hv (.slice p n n) (.agg (aI g.h)) (zH g.h) ((aI g.h).toList) (aH N 92 91 94 3 zH (g.h+1)) 27 (f' 50) w5:=hd 27 (aD (by kernel_rfl));simp[aC]at d27;clear hd hB;refine rY aB ?_;exact dj _ w5 (.refl w5) (by simp[aC])
  .exact absurd rfl yx
 .rintro f' S1 w5 rest ⟨eS,hE⟩ hf hd dj;subst S1;have d4:aC 92 91 94 3 w.heap.size W 5 n g.hv (.slice p n n) (.agg (aI g.h)) (zH g.h) ((aI g.h).toList) (aH N 92 91 94 3 zH (g.h+1)) 4 (f' 27) w5:=hd 4 (by simp);have d25:aC 92 91 94 3 w.heap.size W 5 n g.hv (.slice p n n) (.agg (aI g.h)) (zH g.h) ((aI g.h).toList) (aH N 92 91 94 3 zH (g.h+1)) 25 (f' 48) w5:=hd 25 (by simp);simp[aC]at d4;simp only[aC,reduceIte,Nat.reduceEqDiff,Nat.reduceLeDiff,or_self]at d25;obtain⟨B,y',UM,K1,CR,wo⟩:=d25;clear hd hf;have QB:y'.oneCell'=true:=by
   obtain⟨E1,_,_,_,m1,_⟩:=wo;rw[m1];rfl
  have gw:Gr w w5 none:=⟨hE.os,hE.output,hE.size,λb hb _=>hE.block b hb⟩
  refine aN aB rfl rfl (by kernel_rfl) (λu hu=>pG (s:=.tmp 27) (x:=.tmp 48) (ad:=⟨B,0,none⟩) (m:=1) (c:=1) (news:=[y']) hu N Tryz.underlying29 IT IS IQ PY (by rw[IP];rfl) (mN pg gw (by simp)) rfl (by omega) (pR CR) (λy hy=>by rw[List.mem_singleton]at hy;subst hy;exact QB) (by unfold maxLen;omega) (by omega) (by have:=hm.new;have:=(Array.getElem?_eq_some_iff.1 hm.row).1;have:=hE.size;omega) rfl (by simp[d4]) (by simp[UM])) ?_;rintro v' w6 ⟨GO,ru,hblk⟩;have qs:Kp w (λb=>g.hv.ownBlock=some b) w6:=((aS hE).or (iJ ru)).mono λb h=>h.elim False.elim id
  have fy:dC N w λb=>g.hv.ownBlock=some b:=λb hb=>hm.offY b (.inr (.inr (.inr (.inr (.inl hb)))))
  have UF:kC 91 94 3 (zH g.h) w6 y':=(wo.kp (iJ ru) du).en (hF.kp rfl fy qs) hn
  exact dj _ S w6 ⟨rfl,qs⟩ (by
   simp only[aC,reduceIte,Nat.reduceEqDiff,Nat.reduceLeDiff,or_self]
   exact hm.h.push rfl rfl pg ya fy qs GO UF) λj y hj gh h=>oM (λe=>absurd e hj) h (iJ ru) du
 .rintro f' S1 w5 rest ⟨eS,lz⟩ hf hd dj;subst S1;have d26:aC 92 91 94 3 w.heap.size W 5 n g.hv (.slice p n n) (.agg (aI g.h)) (zH g.h) ((aI g.h).toList) (aH N 92 91 94 3 zH (g.h+1)) 26 (f' 49) w5:=hd 26 (by decide) (by decide);have d28:aC 92 91 94 3 w.heap.size W 5 n g.hv (.slice p n n) (.agg (aI g.h)) (zH g.h) ((aI g.h).toList) (aH N 92 91 94 3 zH (g.h+1)) 28 (f' 51) w5:=hd 28 (by decide) (by decide);simp[aC]at d28;simp only[aC,reduceIte,Nat.reduceEqDiff,Nat.reduceLeDiff,or_self]at d26;clear hd hf;obtain⟨v',hv⟩:∃v',f' 49=v':=⟨_,rfl⟩;rw[hv]at d26;obtain⟨ys,IU,_⟩:=id d26
  have vo:w5.heap[W]?=some (.cells g.row 34):=lz.cells _ _ _ _ (λq=>by
   obtain⟨C',ek⟩:=dL pg q;rw[hm.row]at ek
   cases ek) hm.row
  refine aN aB rfl rfl (by kernel_rfl) (λu hu=>nX (x:=.tmp 51) (y:=.tmp 49) (j:=5) (z:=v') hu vo (by simp[Wv.row]) (kZ IU).1 (kZ IU).2 rfl (by simp[d28]) (by simp[hv]) (by kernel_rfl)) ?_;rintro x1 w6 hW;obtain⟨q1,q2⟩:=hm.setH lz d26 hW;exact dj _ S w6 ⟨rfl,q2,v',q1⟩
 .rintro f' S1 w5 ⟨eS,q1,v',q2⟩ hf;subst S1;exact next w5 f' v' q1 q2
theorem Zz:∃i z,Tryz.prog.info? 9=some i∧i.zero=some z∧i.size=1∧i.bytes=16∧z.cells=#[z]:=⟨_,_,rfl,rfl,rfl,rfl,rfl⟩
theorem Xu:∃i z,Tryz.prog.info? 40=some i∧i.zero=some z∧i.size=1∧i.bytes=24∧z.cells=#[z]:=⟨_,_,rfl,rfl,rfl,rfl,rfl⟩
theorem Xt:∃i z,Tryz.prog.info? 95=some i∧i.zero=some z∧i.size=1∧i.bytes=24∧z.cells=#[z]:=⟨_,_,rfl,rfl,rfl,rfl,rfl⟩
theorem bk_t{w:World}{S:Nat->Prop}{f:Nat->Value}{Stop:Goroutine->(Nat->Prop)->World->Prop}{cs:List Frame}{k0:List Item}{x:Nat->Sx}{T:Nat->List It}(N W n:Nat)(g:Wv)(p:Option Addr)(hm:Wm N W x T g w)(hF:jL 9 1 w p n (zT g.t))(hn:n<=400)(hb:g.t<1099511627776)
  (g0:f 0=.pointer (some ⟨W,3,none⟩)) (g1:f 1=.slice p n n) (g4:f 4=zT g.t)
  (next:∀w' f' v',Kp w (YW W g) w'->Wm N W x T {g with tv:=v',t:=g.t+1} w'->Vw.Reach Tryz.prog Stop (G ((_root_.Go.Conc.base 62).at ⟨TA 53 f',[]⟩ (.inRegion ((bM 5 (Tryz.f62.body.getD .skip)).getD #[]) []::k0)) cs) S w') :
  Vw.Reach Tryz.prog Stop (G ((_root_.Go.Conc.base 62).at ⟨TA 53 f,[]⟩ (.code (.region 5 ((bM 5 (Tryz.f62.body.getD .skip)).getD #[]) true)::k0)) cs) S w:=by
 have e0:bM 5 (Tryz.f62.body.getD .skip)=some _:=rfl;rw[e0]at next⊢
 simp only[ao]at next⊢
 clear e0;obtain⟨ie,ze,vj,vi,vh,CF,vg⟩:=Zz;obtain⟨is,zs,EV,EU,ET,NU,ES⟩:=Xu;obtain⟨it,zt,IT,IS,IQ,PY,IP⟩:=Xt;obtain⟨xs,pg,ya⟩:=hm.t;have du:∀b,g.tv.ownBlock=some b->b<w.heap.size:=λb hb=>(pg.lt b hb).2
 have GY:w.cell? ⟨W,6,none⟩=some g.tv:=(ab _ W 6 _ _ _ hm.row).trans rfl;refine rJ (by kernel_rfl) (by kernel_rfl) (by kernel_rfl) 26 [1,2,3,4,5,6,7,8,9,10,11,12,13,14,15,16,17,18,19,20,21,22,23,24,25] (by kernel_rfl) 29 [0,1,2,3,4,5,6,7,8,9,10,11,12,13,14,15,16,17,18,19,20,21,22,23,24,25,26,27,28] (by kernel_rfl) (by kernel_rfl) (by decide) (aC 95 40 9 1 w.heap.size W 6 n g.tv (.slice p n n) (zT g.t) (zT g.t) ([zT g.t]) (aH N 95 40 9 1 zT (g.t+1))) (λS' w'=>S'=S∧Ext w w') (λS' w'=>S'=S∧Kp w (λb=>g.tv.ownBlock=some b) w') (λS' w'=>S'=S∧Kp w (YW W g) w'∧∃v',Wm N W x T {g with tv:=v',t:=g.t+1} w') (λS' w w' h hE=>⟨h.1,h.2.trans _ _ _ hE⟩) (λS' w w' h hE=>⟨h.1,h.2.ext hE⟩) (λj x w w' h hE=>oM (λ_ q=>q.kp rfl rfl (dM N w) (aS hE) λ_ _ h=>h.elim) h (aS hE) λ_ h=>h.elim) ?_ ⟨rfl,.refl _⟩ ?_ ?_ ?_ ?_
 .intro j hj he x w h;have jo:j<30:=hj;rcases(by omega:j=0∨j=1∨j=2∨j=3∨j=4∨j=5∨j=6∨j=7∨j=8∨j=9∨j=10∨j=11∨j=12∨j=13∨j=14∨j=15∨j=16∨j=17∨j=18∨j=19∨j=20∨j=21∨j=22∨j=23∨j=24∨j=25∨j=26∨j=27∨j=28∨j=29) with rfl|rfl|rfl|rfl|rfl|rfl|rfl|rfl|rfl|rfl|rfl|rfl|rfl|rfl|rfl|rfl|rfl|rfl|rfl|rfl|rfl|rfl|rfl|rfl|rfl|rfl|rfl|rfl|rfl|rfl;all_goals first|(cases he;done)|(simp[aC])
 .intro i f' S1 w5 rest hi dy yx hB _ hf hd dj;have BI:f' 0=.pointer (some ⟨W,3,none⟩):=(hf 0 (eK (by kernel_rfl))).trans g0;have WG:f' 1=.slice p n n:=(hf 1 (eK (by kernel_rfl))).trans g1;have yk:=(hf 4 (eK (by kernel_rfl))).trans g4;clear hf;have ft:i<30:=hi;rcases(by omega:i=0∨i=1∨i=2∨i=3∨i=4∨i=5∨i=6∨i=7∨i=8∨i=9∨i=10∨i=11∨i=12∨i=13∨i=14∨i=15∨i=16∨i=17∨i=18∨i=19∨i=20∨i=21∨i=22∨i=23∨i=24∨i=25∨i=26∨i=27∨i=28∨i=29) with rfl|rfl|rfl|rfl|rfl|rfl|rfl|rfl|rfl|rfl|rfl|rfl|rfl|rfl|rfl|rfl|rfl|rfl|rfl|rfl|rfl|rfl|rfl|rfl|rfl|rfl|rfl|rfl|rfl|rfl
  .clear hd hB;refine rY aB ?_;exact dj _ w5 (.refl w5) (by simp[aC])
  .clear hd hB;refine rY aB ?_;exact dj _ w5 (.refl w5) (by simp[aC])
  .have d1:aC 95 40 9 1 w.heap.size W 6 n g.tv (.slice p n n) (zT g.t) (zT g.t) ([zT g.t]) (aH N 95 40 9 1 zT (g.t+1)) 1 (f' 25) w5:=hd 1 (aD (by kernel_rfl));simp[aC]at d1;clear hd hB;refine rY aB ?_;exact dj _ w5 (.refl w5) (by simp[aC])
  .have d2:aC 95 40 9 1 w.heap.size W 6 n g.tv (.slice p n n) (zT g.t) (zT g.t) ([zT g.t]) (aH N 95 40 9 1 zT (g.t+1)) 2 (f' 26) w5:=hd 2 (aD (by kernel_rfl));simp[aC]at d2;clear hd hB;refine rY aB ?_;exact dj _ w5 (.refl w5) (by simp[aC])
  .have d3:aC 95 40 9 1 w.heap.size W 6 n g.tv (.slice p n n) (zT g.t) (zT g.t) ([zT g.t]) (aH N 95 40 9 1 zT (g.t+1)) 3 (f' 27) w5:=hd 3 (aD (by kernel_rfl));simp[aC]at d3;obtain⟨eS,hE⟩:=hB (by simp);subst S1;have qi:=hE.cell GY;clear hd hB;(refine rO aB rfl ?_;intro _ dt K_ dr;(have hc:=(Ext.twin dt).cell qi);go_simp;(try rw[wI _]);(try rw[wU _]);refine dr _ ?_;clear dr K_ dt;simp only[sS,sN]);exact dj _ w5 (.refl w5) (by simp[aC])
  .clear hd hB;refine rY aB ?_;exact dj _ w5 (.refl w5) (by simp[aC])
  .clear hd hB;refine rY aB ?_;exact dj _ w5 (.refl w5) (by simp[aC])
  .clear hd hB;refine rY aB ?_;exact dj _ w5 (.refl w5) (by simp[aC])
  .have d7:aC 95 40 9 1 w.heap.size W 6 n g.tv (.slice p n n) (zT g.t) (zT g.t) ([zT g.t]) (aH N 95 40 9 1 zT (g.t+1)) 7 (f' 31) w5:=hd 7 (aD (by kernel_rfl));simp[aC]at d7;obtain⟨eS,hE⟩:=hB (by simp);subst S1;clear hd hB;refine aN (Q:=λy w'=>y=.slice (some ⟨w5.heap.size,0,none⟩) 1 1∧Ext w5 w'∧w'.heap[w5.heap.size]?=some (.cells (List.replicate 1 ([zT g.t])).flatten.toArray 9)) aB rfl rfl (by kernel_rfl) (λu hu=>⟨_,_,.inl (jA (y:=zT g.t) rfl Tryz.underlying40 vj vi vh vg (by simp[d7]) rfl u),by rw[hu.heap],(Ext.twin hu).trans _ _ _ (Ext.alloc _ _),by rw[<-hu.heap];exact bI _ _⟩) ?_
   rintro _ w6 ⟨rfl,ew,mr⟩;refine dj _ w6 ew ?_;simp only[aC,reduceIte,Nat.reduceEqDiff,Nat.reduceLeDiff,or_self];exact⟨_,rfl,hE.size,mr⟩
  .have d6:aC 95 40 9 1 w.heap.size W 6 n g.tv (.slice p n n) (zT g.t) (zT g.t) ([zT g.t]) (aH N 95 40 9 1 zT (g.t+1)) 6 (f' 30) w5:=hd 6 (aD (by kernel_rfl));simp[aC]at d6;have d8:aC 95 40 9 1 w.heap.size W 6 n g.tv (.slice p n n) (zT g.t) (zT g.t) ([zT g.t]) (aH N 95 40 9 1 zT (g.t+1)) 8 (f' 32) w5:=hd 8 (aD (by kernel_rfl));simp only[aC,reduceIte,Nat.reduceEqDiff,Nat.reduceLeDiff,or_self]at d8;obtain⟨eS,hE⟩:=hB (by simp);subst S1;clear hd hB;refine aN aB rfl rfl (by kernel_rfl) (λu hu=>kG (s:=.tmp 30) (x:=.tmp 32) (N0:=w.heap.size) hu Tryz.underlying40 vj vi vh CF (by rw[vg];rfl) (by omega) (hF.kp rfl (dM N w) (aS hE)) hn (by omega) (by omega) (by omega) (zs:=[zT g.t]) rfl rfl (by simp[zB,zT,Value.oneCell']) hE.size d8 rfl (by simp[d6]) (by simp)) ?_;rintro y w6 ⟨vq,ew⟩;refine dj _ w6 ew ?_;simp only[aC,reduceIte,Nat.reduceEqDiff,Nat.reduceLeDiff,or_self];exact vq
  .clear hd hB;refine rY aB ?_;exact dj _ w5 (.refl w5) (by simp[aC])
  .clear hd hB;refine rY aB ?_;exact dj _ w5 (.refl w5) (by simp[aC])
  .clear hd hB;refine rY aB ?_;exact dj _ w5 (.refl w5) (by simp[aC])
  .have d11:aC 95 40 9 1 w.heap.size W 6 n g.tv (.slice p n n) (zT g.t) (zT g.t) ([zT g.t]) (aH N 95 40 9 1 zT (g.t+1)) 11 (f' 35) w5:=hd 11 (aD (by kernel_rfl));simp[aC]at d11;have d12:aC 95 40 9 1 w.heap.size W 6 n g.tv (.slice p n n) (zT g.t) (zT g.t) ([zT g.t]) (aH N 95 40 9 1 zT (g.t+1)) 12 (f' 36) w5:=hd 12 (aD (by kernel_rfl));simp[aC]at d12;obtain⟨eS,hE⟩:=hB (by simp);subst S1;clear hd hB;refine aN (Q:=λy w'=>y=.slice (some ⟨w5.heap.size,0,none⟩) 2 2∧Ext w5 w'∧w'.heap[w5.heap.size]?=some (.cells (List.replicate 2 ([zT g.t])).flatten.toArray 9)) aB rfl rfl (by kernel_rfl) (λu hu=>⟨_,_,.inl (sH (y0:=zT g.t) (y1:=zT g.t) rfl Tryz.underlying40 vj vi vh vg (by simp[d11]) rfl (by simp[d12]) rfl u),by rw[hu.heap],(Ext.twin hu).trans _ _ _ (Ext.alloc _ _),by rw[<-hu.heap];exact bI _ _⟩) ?_
   rintro _ w6 ⟨rfl,ew,mr⟩;refine dj _ w6 ew ?_;simp only[aC,reduceIte,Nat.reduceEqDiff,Nat.reduceLeDiff,or_self];exact⟨_,rfl,hE.size,mr⟩
  .have d10:aC 95 40 9 1 w.heap.size W 6 n g.tv (.slice p n n) (zT g.t) (zT g.t) ([zT g.t]) (aH N 95 40 9 1 zT (g.t+1)) 10 (f' 34) w5:=hd 10 (aD (by kernel_rfl));simp[aC]at d10;have d13:aC 95 40 9 1 w.heap.size W 6 n g.tv (.slice p n n) (zT g.t) (zT g.t) ([zT g.t]) (aH N 95 40 9 1 zT (g.t+1)) 13 (f' 37) w5:=hd 13 (aD (by kernel_rfl));simp only[aC,reduceIte,Nat.reduceEqDiff,Nat.reduceLeDiff,or_self]at d13;obtain⟨eS,hE⟩:=hB (by simp);subst S1;clear hd hB;refine aN aB rfl rfl (by kernel_rfl) (λu hu=>kG (s:=.tmp 34) (x:=.tmp 37) (N0:=w.heap.size) hu Tryz.underlying40 vj vi vh CF (by rw[vg];rfl) (by omega) (hF.kp rfl (dM N w) (aS hE)) hn (by omega) (by omega) (by omega) (zs:=[zT g.t]) rfl rfl (by simp[zB,zT,Value.oneCell']) hE.size d13 rfl (by simp[d10]) (by simp)) ?_;rintro y w6 ⟨vq,ew⟩;refine dj _ w6 ew ?_;simp only[aC,reduceIte,Nat.reduceEqDiff,Nat.reduceLeDiff,or_self];exact vq
  .clear hd hB;refine rY aB ?_;exact dj _ w5 (.refl w5) (by simp[aC])
  .clear hd hB;refine rY aB ?_;exact dj _ w5 (.refl w5) (by simp[aC])
  .clear hd hB;refine rY aB ?_;exact dj _ w5 (.refl w5) (by simp[aC])
  .clear hd hB;refine rY aB ?_;exact dj _ w5 (.refl w5) (by simp[aC])
  .clear hd hB;refine rY aB ?_;exact dj _ w5 (.refl w5) (by simp[aC])
  .clear hd hB;refine rY aB ?_;exact dj _ w5 (.refl w5) (by simp[aC])
  .clear hd hB;refine rY aB ?_;exact dj _ w5 (.refl w5) (by simp[aC])
  .have d16:aC 95 40 9 1 w.heap.size W 6 n g.tv (.slice p n n) (zT g.t) (zT g.t) ([zT g.t]) (aH N 95 40 9 1 zT (g.t+1)) 16 (f' 40) w5:=hd 16 (aD (by kernel_rfl));simp[aC]at d16;have d17:aC 95 40 9 1 w.heap.size W 6 n g.tv (.slice p n n) (zT g.t) (zT g.t) ([zT g.t]) (aH N 95 40 9 1 zT (g.t+1)) 17 (f' 41) w5:=hd 17 (aD (by kernel_rfl));simp[aC]at d17;have d18:aC 95 40 9 1 w.heap.size W 6 n g.tv (.slice p n n) (zT g.t) (zT g.t) ([zT g.t]) (aH N 95 40 9 1 zT (g.t+1)) 18 (f' 42) w5:=hd 18 (aD (by kernel_rfl));simp[aC]at d18;have d19:aC 95 40 9 1 w.heap.size W 6 n g.tv (.slice p n n) (zT g.t) (zT g.t) ([zT g.t]) (aH N 95 40 9 1 zT (g.t+1)) 19 (f' 43) w5:=hd 19 (aD (by kernel_rfl));simp[aC]at d19;have d20:aC 95 40 9 1 w.heap.size W 6 n g.tv (.slice p n n) (zT g.t) (zT g.t) ([zT g.t]) (aH N 95 40 9 1 zT (g.t+1)) 20 (f' 44) w5:=hd 20 (aD (by kernel_rfl));simp[aC]at d20;have d21:aC 95 40 9 1 w.heap.size W 6 n g.tv (.slice p n n) (zT g.t) (zT g.t) ([zT g.t]) (aH N 95 40 9 1 zT (g.t+1)) 21 (f' 45) w5:=hd 21 (aD (by kernel_rfl));simp[aC]at d21;obtain⟨eS,hE⟩:=hB (by simp);subst S1;clear hd hB;refine aN (Q:=λy w'=>y=.slice (some ⟨w5.heap.size,0,none⟩) 6 6∧Ext w5 w'∧w'.heap[w5.heap.size]?=some (.cells (List.replicate 6 ([zT g.t])).flatten.toArray 9)) aB rfl rfl (by kernel_rfl) (λu hu=>⟨_,_,.inl (Ce (y0:=zT g.t) (y1:=zT g.t) (y2:=zT g.t) (y3:=zT g.t) (y4:=zT g.t) (y5:=zT g.t) rfl Tryz.underlying40 vj vi vh vg (by simp[d16]) rfl (by simp[d17]) rfl (by simp[d18]) rfl (by simp[d19]) rfl (by simp[d20]) rfl (by simp[d21]) rfl u),by rw[hu.heap],(Ext.twin hu).trans _ _ _ (Ext.alloc _ _),by rw[<-hu.heap];exact bI _ _⟩) ?_
   rintro _ w6 ⟨rfl,ew,mr⟩;refine dj _ w6 ew ?_;simp only[aC,reduceIte,Nat.reduceEqDiff,Nat.reduceLeDiff,or_self];exact⟨_,rfl,hE.size,mr⟩
  .have d15:aC 95 40 9 1 w.heap.size W 6 n g.tv (.slice p n n) (zT g.t) (zT g.t) ([zT g.t]) (aH N 95 40 9 1 zT (g.t+1)) 15 (f' 39) w5:=hd 15 (aD (by kernel_rfl));simp[aC]at d15;have d22:aC 95 40 9 1 w.heap.size W 6 n g.tv (.slice p n n) (zT g.t) (zT g.t) ([zT g.t]) (aH N 95 40 9 1 zT (g.t+1)) 22 (f' 46) w5:=hd 22 (aD (by kernel_rfl));simp only[aC,reduceIte,Nat.reduceEqDiff,Nat.reduceLeDiff,or_self]at d22;obtain⟨eS,hE⟩:=hB (by simp);subst S1;clear hd hB;refine aN aB rfl rfl (by kernel_rfl) (λu hu=>kG (s:=.tmp 39) (x:=.tmp 46) (N0:=w.heap.size) hu Tryz.underlying40 vj vi vh CF (by rw[vg];rfl) (by omega) (hF.kp rfl (dM N w) (aS hE)) hn (by omega) (by omega) (by omega) (zs:=[zT g.t]) rfl rfl (by simp[zB,zT,Value.oneCell']) hE.size d22 rfl (by simp[d15]) (by simp)) ?_;rintro y w6 ⟨vq,ew⟩;refine dj _ w6 ew ?_;simp only[aC,reduceIte,Nat.reduceEqDiff,Nat.reduceLeDiff,or_self];exact vq
  .have d5:aC 95 40 9 1 w.heap.size W 6 n g.tv (.slice p n n) (zT g.t) (zT g.t) ([zT g.t]) (aH N 95 40 9 1 zT (g.t+1)) 5 (f' 29) w5:=hd 5 (aD (by kernel_rfl));simp[aC]at d5;have d9:aC 95 40 9 1 w.heap.size W 6 n g.tv (.slice p n n) (zT g.t) (zT g.t) ([zT g.t]) (aH N 95 40 9 1 zT (g.t+1)) 9 (f' 33) w5:=hd 9 (aD (by kernel_rfl));have d14:aC 95 40 9 1 w.heap.size W 6 n g.tv (.slice p n n) (zT g.t) (zT g.t) ([zT g.t]) (aH N 95 40 9 1 zT (g.t+1)) 14 (f' 38) w5:=hd 14 (aD (by kernel_rfl));have d23:aC 95 40 9 1 w.heap.size W 6 n g.tv (.slice p n n) (zT g.t) (zT g.t) ([zT g.t]) (aH N 95 40 9 1 zT (g.t+1)) 23 (f' 47) w5:=hd 23 (aD (by kernel_rfl));simp only[aC,reduceIte,Nat.reduceEqDiff,Nat.reduceLeDiff,or_self]at d9 d14 d23;obtain⟨eS,hE⟩:=hB (by simp);subst S1;clear hd hB;obtain⟨B1,c1,C1,m1,_⟩:=id d9;obtain⟨B2,c2,C2,m2,_⟩:=id d14;obtain⟨B3,c3,C3,m3,_⟩:=id d23;refine aN (Q:=λy w'=>y=.slice (some ⟨w5.heap.size,0,none⟩) 4 4∧Ext w5 w'∧w'.heap[w5.heap.size]?=some (.cells #[.slice p n n,f' 33,f' 38,f' 47] 40)) aB rfl rfl (by kernel_rfl) (λu hu=>⟨_,_,.inl (wE (y0:=.slice p n n) (y1:=f' 33) (y2:=f' 38) (y3:=f' 47) rfl Tryz.underlying95 EV EU ET ES (by simp[d5]) rfl (by simp) (by rw[m1];rfl) (by simp) (by rw[m2];rfl) (by simp) (by rw[m3];rfl) u),by rw[hu.heap],(Ext.twin hu).trans _ _ _ (Ext.alloc _ _),by rw[<-hu.heap];exact bI _ _⟩) ?_
   rintro _ w6 ⟨rfl,ew,mr⟩;refine dj _ w6 ew ?_;simp only[aC,reduceIte,Nat.reduceEqDiff,Nat.reduceLeDiff,or_self];exact⟨_,_,_,_,rfl,hE.size,mr,d9.kp (aS ew) λ_ h=>h.elim,d14.kp (aS ew) λ_ h=>h.elim,d23.kp (aS ew) λ_ h=>h.elim⟩
  .have d24:aC 95 40 9 1 w.heap.size W 6 n g.tv (.slice p n n) (zT g.t) (zT g.t) ([zT g.t]) (aH N 95 40 9 1 zT (g.t+1)) 24 (f' 48) w5:=hd 24 (aD (by kernel_rfl));simp only[aC,reduceIte,Nat.reduceEqDiff,Nat.reduceLeDiff,or_self]at d24;obtain⟨eS,hE⟩:=hB (by simp);subst S1;clear hd hB;obtain⟨E1,e1,e2,e3,m1,_⟩:=id d24;refine aN (Q:=λy w'=>y=.slice (some ⟨w5.heap.size,0,none⟩) 1 1∧Ext w5 w'∧w'.heap[w5.heap.size]?=some (.cells #[f' 48] 95)) aB rfl rfl (by kernel_rfl) (λu hu=>⟨_,_,.inl (jA (y:=f' 48) rfl Tryz.underlying30 IT IS IQ IP (by simp) (by rw[m1];rfl) u),by rw[hu.heap],(Ext.twin hu).trans _ _ _ (Ext.alloc _ _),by rw[<-hu.heap];exact bI _ _⟩) ?_
   rintro _ w6 ⟨rfl,ew,mr⟩;refine dj _ w6 ew ?_;simp only[aC,reduceIte,Nat.reduceEqDiff,Nat.reduceLeDiff,or_self];exact⟨_,_,rfl,hE.size,mr,d24.kp (aS ew) λ_ h=>h.elim⟩
  .exact absurd rfl dy
  .have d0:aC 95 40 9 1 w.heap.size W 6 n g.tv (.slice p n n) (zT g.t) (zT g.t) ([zT g.t]) (aH N 95 40 9 1 zT (g.t+1)) 0 (f' 24) w5:=hd 0 (aD (by kernel_rfl));simp[aC]at d0;clear hd hB;refine rY aB ?_;exact dj _ w5 (.refl w5) (by simp[aC])
  .have d27:aC 95 40 9 1 w.heap.size W 6 n g.tv (.slice p n n) (zT g.t) (zT g.t) ([zT g.t]) (aH N 95 40 9 1 zT (g.t+1)) 27 (f' 51) w5:=hd 27 (aD (by kernel_rfl));simp[aC]at d27;clear hd hB;refine rY aB ?_;exact dj _ w5 (.refl w5) (by simp[aC])
  .exact absurd rfl yx
 .rintro f' S1 w5 rest ⟨eS,hE⟩ hf hd dj;subst S1;have d4:aC 95 40 9 1 w.heap.size W 6 n g.tv (.slice p n n) (zT g.t) (zT g.t) ([zT g.t]) (aH N 95 40 9 1 zT (g.t+1)) 4 (f' 28) w5:=hd 4 (by simp);have d25:aC 95 40 9 1 w.heap.size W 6 n g.tv (.slice p n n) (zT g.t) (zT g.t) ([zT g.t]) (aH N 95 40 9 1 zT (g.t+1)) 25 (f' 49) w5:=hd 25 (by simp);simp[aC]at d4;simp only[aC,reduceIte,Nat.reduceEqDiff,Nat.reduceLeDiff,or_self]at d25;obtain⟨B,y',UM,K1,CR,wo⟩:=d25;clear hd hf;have QB:y'.oneCell'=true:=by
   obtain⟨E1,_,_,_,m1,_⟩:=wo;rw[m1];rfl
  have gw:Gr w w5 none:=⟨hE.os,hE.output,hE.size,λb hb _=>hE.block b hb⟩
  refine aN aB rfl rfl (by kernel_rfl) (λu hu=>pG (s:=.tmp 28) (x:=.tmp 49) (ad:=⟨B,0,none⟩) (m:=1) (c:=1) (news:=[y']) hu N Tryz.underlying30 IT IS IQ PY (by rw[IP];rfl) (mN pg gw (by simp)) rfl (by omega) (pR CR) (λy hy=>by rw[List.mem_singleton]at hy;subst hy;exact QB) (by unfold maxLen;omega) (by omega) (by have:=hm.new;have:=(Array.getElem?_eq_some_iff.1 hm.row).1;have:=hE.size;omega) rfl (by simp[d4]) (by simp[UM])) ?_;rintro v' w6 ⟨GO,ru,hblk⟩;have qs:Kp w (λb=>g.tv.ownBlock=some b) w6:=((aS hE).or (iJ ru)).mono λb h=>h.elim False.elim id
  have fy:dC N w λb=>g.tv.ownBlock=some b:=λb hb=>hm.offY b (.inr (.inr (.inr (.inr (.inr hb)))))
  have UF:kC 40 9 1 (zT g.t) w6 y':=(wo.kp (iJ ru) du).en (hF.kp rfl fy qs) hn
  exact dj _ S w6 ⟨rfl,qs⟩ (by
   simp only[aC,reduceIte,Nat.reduceEqDiff,Nat.reduceLeDiff,or_self]
   exact hm.t.push rfl rfl pg ya fy qs GO UF) λj y hj gh h=>oM (λe=>absurd e hj) h (iJ ru) du
 .rintro f' S1 w5 rest ⟨eS,lz⟩ hf hd dj;subst S1;have d26:aC 95 40 9 1 w.heap.size W 6 n g.tv (.slice p n n) (zT g.t) (zT g.t) ([zT g.t]) (aH N 95 40 9 1 zT (g.t+1)) 26 (f' 50) w5:=hd 26 (by decide) (by decide);have d28:aC 95 40 9 1 w.heap.size W 6 n g.tv (.slice p n n) (zT g.t) (zT g.t) ([zT g.t]) (aH N 95 40 9 1 zT (g.t+1)) 28 (f' 52) w5:=hd 28 (by decide) (by decide);simp[aC]at d28;simp only[aC,reduceIte,Nat.reduceEqDiff,Nat.reduceLeDiff,or_self]at d26;clear hd hf;obtain⟨v',hv⟩:∃v',f' 50=v':=⟨_,rfl⟩;rw[hv]at d26;obtain⟨ys,IU,_⟩:=id d26
  have vo:w5.heap[W]?=some (.cells g.row 34):=lz.cells _ _ _ _ (λq=>by
   obtain⟨C',ek⟩:=dL pg q;rw[hm.row]at ek
   cases ek) hm.row
  refine aN aB rfl rfl (by kernel_rfl) (λu hu=>nX (x:=.tmp 52) (y:=.tmp 50) (j:=6) (z:=v') hu vo (by simp[Wv.row]) (kZ IU).1 (kZ IU).2 rfl (by simp[d28]) (by simp[hv]) (by kernel_rfl)) ?_;rintro x1 w6 hW;obtain⟨q1,q2⟩:=hm.setT lz d26 hW;exact dj _ S w6 ⟨rfl,q2,v',q1⟩
 .rintro f' S1 w5 ⟨eS,q1,v',q2⟩ hf;subst S1;exact next w5 f' v' q1 q2
def Aa(te:TypeId)(es:Nat)(v0 v:World)(p:Option Addr)(n:Nat):Prop:=(p=none∧n=0)∨∃B cur,p=some ⟨B,0,none⟩∧v0.heap.size<=B∧v.heap[B]?=some (.cells cur te)∧cur.size=n*es
def uL(te:TypeId)(es:Nat)(v0 v:World)(p:Option Addr)(n:Nat)(z:Value)(i:Nat):Prop:=(p=none∧n=0)∨∃B cur,p=some ⟨B,0,none⟩∧v0.heap.size<=B∧v.heap[B]?=some (.cells cur te)∧cur.size=n*es∧∀j,j<i->cur[j*es]?=some z
theorem uL.full{te:TypeId}{es:Nat}{v0 v:World}{p:Option Addr}{n:Nat}{z:Value}(h:uL te es v0 v p n z n):jL te es v p n z:=h.imp id λ⟨B,cur,q1,_,q3,q4,q5⟩=>⟨B,cur,q1,q3,q4,q5⟩
section
variable {v0 v w:World}{S:Nat->Prop}{x:Nat->Sx}{T:Nat->List It}
theorem Vy(N W n:Nat)(g:Wv)(p:Option Addr)(hm:Wm N W x T g v0)(hK:Kp v0 (λ_=>False) v)(hn:n<=400)(hb:g.b<1099511627776)(hl:Aa 5 1 v0 v p n):aJ Tryz.prog 38 #[.pointer (some ⟨W,3,none⟩),.slice p n n] S v λy S' v'=>y=.tuple #[]∧S'=S∧∃v1,Wm N W x T {g with bv:=v1,b:=g.b+1} v'∧Kp v0 (YW W g) v':=by
 refine cX Tryz.func38 rfl Tryz.ntmps38 λStop cc cs ret f g0 g1=>?_;obtain⟨pb,cb,EB⟩:=hm.b.form;have mq:v.cell? ⟨W,3,none⟩=some (.slice pb g.b cb):=by rw[<-EB];exact(ab _ W 3 _ _ _ (hm.kp0 hK).row).trans rfl
 repeat refine rM mq ?_
 refine rK Tryz.func35 (tW g.b hb) ?_;rintro _ S1 v1 _ ⟨rfl,e1,e2⟩;subst S1 v1;repeat refine rN ?_
 refine bF (λd f' S' w=>∃i,d=n-i∧i<=n∧S'=S∧Kp v0 (λ_=>False) w∧uL 5 1 v0 w p n (zB g.b) i∧f' 0=.pointer (some ⟨W,3,none⟩)∧f' 1=.slice p n n∧f' 4=zB g.b∧f' 5=.int .i64 (i:Nat)) n ⟨0,by omega,by omega,rfl,hK,hl.imp id λ⟨B,cur,q1,q2,q3,q4⟩=>⟨B,cur,q1,q2,q3,q4,λj hj=>by omega⟩,by simp[g0],by simp[g1],by simp[zB],by simp⟩ ?_;clear g0 g1 f mq;rintro d f S' w ⟨i,rfl,hi,eS,wj,JH,g0,g1,g4,g5⟩ dj;subst S';repeat refine rN ?_
 by_cases dp:i<n
 .have pd:(i:Int)<(n:Int):=by omega
  obtain⟨B,cur,q1,q2,q3,q4,q5⟩:∃B cur,p=some ⟨B,0,none⟩∧v0.heap.size<=B∧w.heap[B]?=some (.cells cur 5)∧cur.size=n*1∧∀j,j<i->cur[j*1]?=some (zB g.b):=by
   rcases JH with⟨_,h⟩|h
   .omega
   .exact h
  subst q1;refine rX (by simp[Act.eval,pd,dp]) ?_;repeat refine rN ?_
  refine dQ aB rfl rfl (by kernel_rfl) (x:=.tmp 21) (y:=.tmp 20) (g:=B) (j:=i) (z:=zB g.b) rfl (by simp) (by simp[g4]) rfl rfl q3 (by omega) (by kernel_rfl) λw3 hW=>?_;simp only[stO_none];repeat refine rN ?_
  refine dj _ _ _ (n-(i+1)) (by omega) ⟨i+1,rfl,by omega,rfl,wj.new (fO hW) λb hb=>.inl (by rw[hb];exact q2),.inr ⟨B,_,rfl,q2,hW.at_,by simpa using q4,λj hj=>?_⟩,by simp[g0],by simp[g1],by simp[g4],by simp⟩
  by_cases e:j=i
  .subst e;have AW:j<cur.size:=by omega
   simp[AW]
  .rw[Nat.mul_one,ax (by omega)];have:=q5 j (by omega);rwa [Nat.mul_one]at this
 .obtain rfl:i=n:=by omega
  refine rZ (by simp[Act.eval,g5,g1]) ?_;refine bC rfl ?_;repeat refine rN ?_
  refine bk_b N W i g p (hm.kp0 wj) JH.full hn hb (by simp[g0]) (by simp[g1]) (by simp[g4]) λw2 f2 v1 iu vv=>?_
  repeat refine rN ?_
  refine gQ ?_;refine ret _ _ S w2 (.tuple #[]) ?_ ⟨rfl,rfl,v1,vv,(wj.mono λ_ h=>h.elim).trans iu⟩;simp[results,Tryz.results38]
theorem Q9(i:Nat):(.string (strOfNums [((iM i:Nat):Int)]):Value)=zT i:=by simp[zT,strOfNums]
theorem Tj(N W n:Nat)(g:Wv)(p:Option Addr)(hm:Wm N W x T g v0)(hK:Kp v0 (λ_=>False) v)(hn:n<=400)(hb:g.t<1099511627776)(hl:Aa 9 1 v0 v p n):aJ Tryz.prog 62 #[.pointer (some ⟨W,3,none⟩),.slice p n n] S v λy S' v'=>y=.tuple #[]∧S'=S∧∃v1,Wm N W x T {g with tv:=v1,t:=g.t+1} v'∧Kp v0 (YW W g) v'∧Kp v (λb=>YW W g b∨p=some ⟨b,0,none⟩) v':=by
 obtain⟨ib,zb,qd,qu,rr,xa,va⟩:=Hw;refine cX Tryz.func62 rfl Tryz.ntmps62 λStop cc cs ret f g0 g1=>?_;obtain⟨pb,cb,EB⟩:=hm.t.form;have mq:v.cell? ⟨W,6,none⟩=some (.slice pb g.t cb):=by rw[<-EB];exact(ab _ W 6 _ _ _ (hm.kp0 hK).row).trans rfl
 repeat refine rM mq ?_
 refine rK Tryz.func35 (tW g.t hb) ?_;rintro _ S1 v1 _ ⟨rfl,e1,e2⟩;subst S1 v1;refine aN (Q:=λy w2=>y=.slice (some ⟨v.heap.size,0,none⟩) 1 1∧Ext v w2∧w2.heap[v.heap.size]?=some (.cells #[.int .u8 ((iM g.t:Nat):Int)] 5)) aB rfl rfl (by kernel_rfl) (λu hu=>⟨_,_,.inl (jA (x:=.tmp 11) (y:=.int .u8 ((iM g.t:Nat):Int)) rfl Tryz.underlying43 qd qu rr va (by simp) rfl u),by rw[hu.heap],(Ext.twin hu).trans _ _ _ (Ext.alloc _ _),by rw[<-hu.heap];exact bI _ _⟩) ?_;rintro _ w1 ⟨rfl,eh,sb⟩;simp only[stO_some];have kc:∀u,Vw.Twin w1 u->(convert 43 9 (.slice (some ⟨v.heap.size,0,none⟩) 1 1)).run Tryz.prog u=.ok (zT g.t) u:=λu hu=>by
  rw[<-Q9]
  exact run_convert_bytes_arg (P:=Tryz.prog) u 43 5 Tryz.underlying43 Tryz.underlying5 v.heap.size 0 1 1 [((iM g.t:Nat):Int)] rfl (λi hi=>by
   obtain rfl:i=0:=by omega
   rw[an,ab _ _ _ _ _ _ ((Ext.twin hu).row sb)]
   rfl) 9 Tryz.underlying9
 refine bV (x:=zT g.t) aB rfl rfl (by kernel_rfl) (λu hu=>by
  have:=kc u hu
  simp[execOp,Act.eval,this]) ?_
 simp only[stO_some];repeat refine rN ?_
 have qn:=hK.ext eh;refine bF (λd f' S' w=>∃i,d=n-i∧i<=n∧S'=S∧Kp v0 (λ_=>False) w∧Kp v (λb=>p=some ⟨b,0,none⟩) w∧uL 9 1 v0 w p n (zT g.t) i∧f' 0=.pointer (some ⟨W,3,none⟩)∧f' 1=.slice p n n∧f' 4=zT g.t∧f' 5=.int .i64 (i:Nat)) n ⟨0,by omega,by omega,rfl,qn,(aS eh).mono λ_ h=>h.elim,hl.imp id λ⟨B,cur,q1,q2,q3,q4⟩=>⟨B,cur,q1,q2,eh.row q3,q4,λj hj=>by omega⟩,by simp[g0],by simp[g1],by simp,by simp⟩ ?_;clear g0 g1 f mq;rintro d f S' w ⟨i,rfl,hi,eS,wj,K5,JH,g0,g1,g4,g5⟩ dj;subst S';repeat refine rN ?_
 by_cases dp:i<n
 .have pd:(i:Int)<(n:Int):=by omega
  obtain⟨B,cur,q1,q2,q3,q4,q5⟩:∃B cur,p=some ⟨B,0,none⟩∧v0.heap.size<=B∧w.heap[B]?=some (.cells cur 9)∧cur.size=n*1∧∀j,j<i->cur[j*1]?=some (zT g.t):=by
   rcases JH with⟨_,h⟩|h
   .omega
   .exact h
  subst q1;refine rX (by simp[Act.eval,pd,dp]) ?_;repeat refine rN ?_
  refine dQ aB rfl rfl (by kernel_rfl) (x:=.tmp 23) (y:=.tmp 22) (g:=B) (j:=i) (z:=zT g.t) rfl (by simp) (by simp[g4]) rfl rfl q3 (by omega) (by kernel_rfl) λw3 hW=>?_;simp only[stO_none];repeat refine rN ?_
  refine dj _ _ _ (n-(i+1)) (by omega) ⟨i+1,rfl,by omega,rfl,wj.new (fO hW) (λb hb=>.inl (by rw[hb];exact q2)),K5.trans ((fO hW).mono λb hb=>by rw[hb]),.inr ⟨B,_,rfl,q2,hW.at_,by simpa using q4,λj hj=>?_⟩,by simp[g0],by simp[g1],by simp[g4],by simp⟩
  by_cases e:j=i
  .subst e;have AW:j<cur.size:=by omega
   simp[AW]
  .rw[Nat.mul_one,ax (by omega)];have:=q5 j (by omega);rwa [Nat.mul_one]at this
 .obtain rfl:i=n:=by omega
  refine rZ (by simp[Act.eval,g5,g1]) ?_;refine bC rfl ?_;repeat refine rN ?_
  refine bk_t N W i g p (hm.kp0 wj) JH.full hn hb (by simp[g0]) (by simp[g1]) (by simp[g4]) λw2 f2 v1 iu vv=>?_
  repeat refine rN ?_
  refine gQ ?_;refine ret _ _ S w2 (.tuple #[]) ?_ ⟨rfl,rfl,v1,vv,(wj.mono λ_ h=>h.elim).trans iu,(K5.mono λ_ h=>.inr h).trans (iu.mono λ_ h=>.inl h)⟩;simp[results,Tryz.results62]
def lT(cur:Array Value)(j:Nat)(c:List Value):Array Value:=(cur.toList.take (j*3)++c++cur.toList.drop (j*3+3)).toArray
theorem Tr{cur:Array Value}{j n:Nat}{c:List Value}(h:cur.size=n*3)(hj:j<n)(hc:c.length=3):(lT cur j c).size=n*3:=by simp[lT,hc,h];omega
theorem Xd{cur:Array Value}{j n i:Nat}{c:List Value}(h:cur.size=n*3)(hj:j<n)(hc:c.length=3)(hi:i<n):(lT cur j c)[i*3]?=if i=j then c[0]? else cur[i*3]?:=by
 unfold lT;rw[List.getElem?_toArray];have hl:(cur.toList.take (j*3)).length=j*3:=by rw[List.length_take,Array.length_toList,h];omega
 by_cases e:i=j
 .subst e;rw[ai rfl,List.append_assoc,List.getElem?_append_right (by omega),hl,Nat.sub_self,List.getElem?_append_left (by omega)]
 .rw[ah e];by_cases dp:i<j
  .rw[List.append_assoc,List.getElem?_append_left (by omega),List.getElem?_take,ai (by omega),bd]
  .rw[List.getElem?_append_right (by rw[cd];omega),List.getElem?_drop,cd,hl,hc,bd];congr 1;omega
theorem Li{u:World}{o:Oper}{a:Act}{xo y:Operand}{B n j i:Nat}{cur:Array Value}(hu:Vw.Twin w u)(du:w.heap[B]?=some (.cells cur 94))(hs:cur.size=n*3)(hj:j<n)(dm:o.op=.store 94 xo y)(hx:a.eval xo=.pointer (some ⟨B,j*3,none⟩))(hy:a.eval y=.agg (aI i)):∃x w',((execOp a.eval o).run Tryz.prog u=.ok (.value x) w'∨((execOp a.eval o).run Tryz.prog u=.ok .skip w'∧x=undef))∧Wr w B (.cells (lT cur j (aI i).toList) 94) w':=by have hr:=(Ext.twin hu).row du;have ei:=run_storeCells_at Tryz.prog B (j*3) 94 (aI i).toList 0 cur u hr (by rw[hs];show j*3+0+3<=n*3;omega) (by simp[aI,Value.oneCell']);have e3:(aI i).toList.length=3:=rfl;rw[Nat.add_zero,e3]at ei;change _=Result.ok () (u.setRow B (lT cur j (aI i).toList)) at ei;obtain⟨inf,i1,i2,i3⟩:=mP;have hW:=jP (c:=lT cur j (aI i).toList) hr;refine⟨undef,_,.inr ⟨?_,rfl⟩,hW.at_,λb hb=>(hW.other b hb).trans (by rw[hu.heap]),by rw[hW.size,hu.heap],hW.os.trans hu.os,hW.output.trans hu.output⟩;generalize hq:lT cur j (aI i).toList=q at ei⊢;unfold execOp;simp only[dm,hx,hy];simp[Instr.storeAt,Instr.sureAddr,storeVar,sizeOf,typeInfo,i1,i2,Value.cells,aI]at ei⊢;rw[ei];rfl
theorem Ol(N W n:Nat)(g:Wv)(p:Option Addr)(hm:Wm N W x T g v0)(hK:Kp v0 (λ_=>False) v)(hn:n<=400)(hb:g.h<1099511627776)(hl:Aa 94 3 v0 v p n):aJ Tryz.prog 40 #[.pointer (some ⟨W,3,none⟩),.slice p n n] S v λy S' v'=>y=.tuple #[]∧S'=S∧∃v1,Wm N W x T {g with hv:=v1,h:=g.h+1} v'∧Kp v0 (YW W g) v':=by
 refine cX Tryz.func40 rfl Tryz.ntmps40 λStop cc cs ret f g0 g1=>?_;obtain⟨pb,cb,EB⟩:=hm.h.form;have mq:v.cell? ⟨W,5,none⟩=some (.slice pb g.h cb):=by rw[<-EB];exact(ab _ W 5 _ _ _ (hm.kp0 hK).row).trans rfl
 repeat refine rM mq ?_
 refine cD aB rfl rfl (by kernel_rfl) (.agg (bR ⟨0,0,0⟩)) rfl (by kernel_rfl) λw4 gn kl AT=>?_;simp only[stO_some];repeat refine rN ?_
 refine cS aB rfl rfl (by kernel_rfl) (x:=.tmp 4) (y:=.tmp 12) (g:=v.heap.size) (c:=aI g.h) rfl (by simp) (by simp[aI]) kl (by kernel_rfl) rfl (by simp[aI,Value.oneCell']) λw5 jc=>?_;simp only[stO_none];have lh:Ext v w5:=bO gn (ae _) jc;repeat refine rN ?_
 have qn:=hK.ext lh;have RQ:=jc.at_;generalize hmbd:v.heap.size=mb at *
 have dy:∀B,v0.heap.size<=B->(∃cur,v.heap[B]?=some (.cells cur 94))->B≠mb:=λB _ ⟨cur,hc⟩ e=>by have:=(Array.getElem?_eq_some_iff.1 hc).1;omega
 refine bF (λd f' S' w=>∃i,d=n-i∧i<=n∧S'=S∧Kp v0 (λ_=>False) w∧w.heap[mb]?=some (.cells (aI g.h) 94)∧((p=none∧n=0)∨∃B cur,p=some ⟨B,0,none⟩∧B≠mb∧v0.heap.size<=B∧w.heap[B]?=some (.cells cur 94)∧cur.size=n*3∧∀j,j<i->cur[j*3]?=some (zH g.h))∧f' 0=.pointer (some ⟨W,3,none⟩)∧f' 1=.slice p n n∧f' 4=.pointer (some ⟨mb,0,none⟩)∧f' 5=.int .i64 (i:Nat)) n ⟨0,by omega,by omega,rfl,qn,RQ,hl.imp id λ⟨B,cur,q1,q2,q3,q4⟩=>⟨B,cur,q1,dy B q2 ⟨cur,q3⟩,q2,lh.row q3,q4,λj hj=>by omega⟩,by simp[g0],by simp[g1],by simp,by simp⟩ ?_;clear g0 g1 f mq RQ;rintro d f S' w ⟨i,rfl,hi,eS,wj,zx,JH,g0,g1,g4,g5⟩ dj;subst S';repeat refine rN ?_
 by_cases dp:i<n
 .have pd:(i:Int)<(n:Int):=by omega
  obtain⟨B,cur,q1,q0,q2,q3,q4,q5⟩:∃B cur,p=some ⟨B,0,none⟩∧B≠mb∧v0.heap.size<=B∧w.heap[B]?=some (.cells cur 94)∧cur.size=n*3∧∀j,j<i->cur[j*3]?=some (zH g.h):=by
   rcases JH with⟨_,h⟩|h
   .omega
   .exact h
  subst q1;refine rX (by simp[Act.eval,pd,dp]) ?_;repeat refine rN ?_
  refine bV aB rfl rfl (by kernel_rfl) (λu hu=>jQ (b:=mb) (x:=.tmp 4) rfl (by simp[g4]) ((Ext.twin hu).row zx)) ?_;simp only[stO_some];repeat refine rN ?_
  refine aN aB rfl rfl (by kernel_rfl) (λu hu=>Li (xo:=.tmp 22) (y:=.tmp 21) (i:=g.h) hu q3 q4 dp rfl (by simp) (by simp)) ?_;rintro _ w3 hW;simp only[stO_none];repeat refine rN ?_
  refine dj _ _ _ (n-(i+1)) (by omega) ⟨i+1,rfl,by omega,rfl,wj.new (fO hW) λb hb=>.inl (by rw[hb];exact q2),by rw[hW.other mb (λe=>q0 e.symm)];exact zx,.inr ⟨B,_,rfl,q0,q2,hW.at_,Tr q4 dp rfl,λj hj=>?_⟩,by simp[g0],by simp[g1],by simp[g4],by simp⟩;rw[Xd q4 dp rfl (by omega)];by_cases e:j=i
  .rw[ai e];rfl
  .rw[ah e];exact q5 j (by omega)
 .obtain rfl:i=n:=by omega
  refine rZ (by simp[Act.eval,g5,g1]) ?_;refine bC rfl ?_;repeat refine rN ?_
  refine bk_h N W i g p (hm.kp0 wj) (JH.imp id λ⟨B,cur,q1,_,_,q3,q4,q5⟩=>⟨B,cur,q1,q3,q4,q5⟩) hn hb (by simp[g0]) (by simp[g1]) mb zx (by simp[g4]) λw2 f2 v1 iu vv=>?_
  repeat refine rN ?_
  refine gQ ?_;refine ret _ _ S w2 (.tuple #[]) ?_ ⟨rfl,rfl,v1,vv,(wj.mono λ_ h=>h.elim).trans iu⟩;simp[results,Tryz.results40]
end
