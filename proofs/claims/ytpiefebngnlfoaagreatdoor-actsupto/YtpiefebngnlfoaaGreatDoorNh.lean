import Derived.Test.YtpiefebngnlfoaaGreatDoorNc
import Derived.Test.YtpiefebngnlfoaaGreatDoorNb
set_option maxRecDepth 99999
set_option maxHeartbeats 0
set_option linter.unusedVariables false
set_option linter.unusedSimpArgs false
namespace Go.Proofs.YtpiefebngnlfoaaGreatDoor
open Go.RowKit Go.Conc Go.Vw
section
variable {N W n m q k:Nat}{x:Nat->Sx}{T:Nat->List It}{g:Wv}{v w w':World}{S:Nat->Prop}
theorem Wz{f:Nat->Value}(hk:k<2):(two f)[k]?=some (f k):=by rcases kR hk with rfl|rfl<;>rfl
theorem qM{t:TypeId}{sv:Value}{f:Nat->Value}(h:w.ownsRow N t 1 sv 2 (two f)):∃b c cur,sv=.slice (some ⟨b,0,none⟩) 2 c∧2<=c∧N<=b∧w.heap[b]?=some (.cells cur t)∧cur.size=c∧∀k,k<2->w.cell? ⟨b,k,none⟩=some (f k):=by obtain⟨b,c,cur,q1,q2,q3,q4,q5,q6⟩:=lD h (.inl (by omega));exact⟨b,c,cur,q1,q4,q2,q3,q5,λk hk=>by rw[ab _ _ _ _ _ _ q3,q6 k hk,Wz hk]⟩
theorem Wm.sC(h:Wm N W x T g w):∃b c,g.sv=.slice (some ⟨b,0,none⟩) 2 c∧2<=c∧w.cell? ⟨W,0,none⟩=some (.slice (some ⟨b,0,none⟩) 2 c)∧∀k,k<2->w.cell? ⟨b,k,none⟩=some (.pointer (some ⟨(x k).X,0,none⟩)):=by obtain⟨b,c,cur,q1,q2,_,_,_,q6⟩:=qM h.s;exact⟨b,c,q1,q2,by rw[<-q1];exact(ab _ _ _ _ _ _ h.row).trans rfl,q6⟩
theorem Wm.nC(h:Wm N W x T g w):∃b c,2<=c∧w.cell? ⟨W,1,none⟩=some (.slice (some ⟨b,0,none⟩) 2 c)∧∀k,k<2->w.cell? ⟨b,k,none⟩=some (.int .i64 ((x k).nb:Nat)):=by obtain⟨b,c,cur,q1,q2,_,_,_,q6⟩:=qM h.n;exact⟨b,c,q2,by rw[<-q1];exact(ab _ _ _ _ _ _ h.row).trans rfl,q6⟩
theorem Wm.lC(h:Wm N W x T g w):∃b c cur,g.lv=.slice (some ⟨b,0,none⟩) 2 c∧2<=c∧w.cell? ⟨W,2,none⟩=some (.slice (some ⟨b,0,none⟩) 2 c)∧w.heap[b]?=some (.cells cur 48)∧cur.size=c∧∀k,k<2->w.cell? ⟨b,k,none⟩=some (g.kv k):=by obtain⟨b,c,cur,q1,q2,_,q4,q5,q6⟩:=qM h.l;exact⟨b,c,cur,q1,q2,by rw[<-q1];exact(ab _ _ _ _ _ _ h.row).trans rfl,q4,q5,q6⟩
theorem Wd.noted(h:Wd N W n m q x T g w){g':Wv}(hm:Wm N W x T g' w')(hK:Kp w (YW W g) w')(hc:g'.b<=q+1∧g'.h<=q+1∧g'.t<=q+1):Wd N W n m (q+1) x T g' w'∧Fr N w w':=⟨⟨hm,λk hk=>(h.st k hk).yw h.mem hK,h.ap,hc⟩,.of h.mem.offY hK⟩
theorem Hy(id:Int)(h:Wd N W n m q x T g v)(hk:k<2)(hq:q<1099511627776)(hm:m<9223372036854775808)(hg:Tryz.prog.globals.size<=v.heap.size):aJ Tryz.prog 12 #[.pointer (some ⟨W,0,none⟩),.int .i64 (k:Nat),.int .i64 id] S v λy S' v'=>y=.bool true∧∃g',Wd N W n m (q+1) x T g' v'∧Fr N v v':=by
 refine jR Tryz.func12 rfl Tryz.ntmps12 λStop cc cs ret f g0 g1 g2=>?_;have hH:=h.st k hk;have AE:=hH.b23;have E3:=hH.turn;obtain⟨bs,AO,es,ns,sc,sk⟩:=h.mem.sC;have sk:=sk k hk;have ll:(k:Int)<2:=by omega
 repeat refine rM sc ?_
 repeat refine rM sk ?_
 obtain⟨bl,cl,_,el,ml,lc,_,_,lk⟩:=h.mem.lC;have lk:=lk k hk;have FM:=hH.tl;by_cases lq:id<1∨9999<id
 .skip;refine rK Tryz.func36 (Vm _ id lq) ?_;rintro _ S1 w1 _ ⟨rfl,e1,e2⟩;subst S1 w1;repeat refine rM lc ?_
  repeat refine rM lk ?_
  refine rK Tryz.func31 (mQ N (T k) (g.kv k) id (h.mem.k k hk) (by omega)) ?_;rintro y S1 w1 _ ⟨e1,e2,_⟩;subst S1 w1;have zu:=h.le (n':=n) (m':=m) (q':=q+1) (ae _) (ae _) (by omega);by_cases h1:id<1
  .skip;repeat refine rN ?_
   refine rX (by simp[Act.eval]) ?_;repeat refine rN ?_
   refine aM λtodo=>?_;refine ret _ _ S v (.bool true) ?_ ⟨rfl,g,zu,.refl _ _⟩;simp[results,Tryz.results12]
  .have h2:9999<id:=by omega
   repeat refine rN ?_
   refine rX (by simp[Act.eval]) ?_;repeat refine rN ?_
   refine aM λtodo=>?_;refine ret _ _ S v (.bool true) ?_ ⟨rfl,g,zu,.refl _ _⟩;simp[results,Tryz.results12]
 .have i1:¬id<1:=by omega
  have i2:¬9999<id:=by omega
  clear lq;obtain⟨d,rfl⟩:∃d:Nat,id=(d:Int):=⟨id.toNat,by omega⟩;have d1:1<=d:=by omega
  have d2:d<=9999:=by omega
  by_cases hf:∃t∈T k,t.id=d
  .obtain⟨t0,EW,xx⟩:=hf;obtain⟨kk,e,MM,VH⟩:=hH.rep.some EW xx;refine rK Tryz.func36 (T4 d kk e MM d1 d2 hg (by omega) hH.n14 hH.n18 (by omega) hH.st) ?_;rintro _ S1 w1 _ ⟨qn,BV,rfl,L1,du⟩;have nh:=h.mem.kp0 qn;have AP:=qn.cell (λh=>h) lc;have wz:=qn.cell (λh=>h) lk;have ly:e.size<=400:=(hH.st.ent e (al (eJ MM).choose_spec.2.1)).size;repeat refine rM AP ?_
   repeat refine rM wz ?_
   refine rK Tryz.func31 (mQ N (T k) (g.kv k) (d:Int) (nh.k k hk) (by omega)) ?_;rintro y S2 w2 _ ⟨e1,e2,hy⟩;subst S2 w2;obtain⟨i,t,rfl,zo,KX⟩:∃(i:Nat)(t:It),y=.int .i64 (i:Nat)∧(T k)[i]?=some t∧((t.id:Nat):Int)=(d:Int):=by
    rcases hy with hy|⟨_,hy⟩
    .exact hy
    .exact absurd (show((t0.id:Nat):Int)=(d:Int) by omega) (hy t0 EW)
   have XP:t=fR e:=by obtain⟨k2,e2,DT,ME⟩:=hH.rep.some (al zo) (show t.id=d by omega);rw[MM]at DT;cases DT;exact ME.symm
   subst XP;have hiT:i<(T k).length:=(List.getElem?_eq_some_iff.1 zo).1;obtain⟨Q,qq,hQ⟩:=nh.k k hk;obtain⟨q0,CS,yv⟩:∃q0,Q[i]?=some q0∧q0.it=fR e:=by
    rw[<-qq,bu]at zo;cases hq:Q[i]? with
    |none=>rw[hq]at zo;cases zo
    |some q0=>rw[hq]at zo;exact⟨q0,rfl,bm zo⟩
   obtain⟨ga,ca,ea,la,zk,EO⟩:=hQ.get CS;have yj:Q.length=(T k).length:=by rw[<-qq,bz]
   have qo:=(hQ.sl q0 (al CS)).1;rw[yv]at qo EO;change w1.cell? ⟨ga,i*2+1,none⟩=some (.slice q0.p e.size q0.cap) at EO;change fV w1 q0.p e.size q0.cap e.val at qo;rw[ea]at wz;have pd:(i:Int)<(Q.length:Int):=by omega
   have G_:i<Q.length:=by omega
   have YS:¬(i:Int)<0:=by omega
   clear zo KX hy qq yv ea VH xx EW;generalize Q.length=ql at *
   repeat refine rN ?_
   refine rZ (by simp[Act.eval,i1,i2]) ?_;repeat refine rN ?_
   refine rZ (by simp[Act.eval,YS]) ?_;repeat refine rM AP ?_
   repeat refine rM wz ?_
   repeat refine rM EO ?_
   have fg:dD w1 BV 0 e.size e.val:=λj hj=>by rw[an,ab _ _ _ _ _ _ du];simp[aE,hj]
   refine rK Tryz.func37 (Gt (some ⟨BV,0,none⟩) q0.p e.size e.size q0.cap e.val e.val (by omega) (.inr ⟨BV,0,rfl,ae _,fg⟩) qo λ_ _=>rfl) ?_;rintro _ S2 w2 _ ⟨rfl,e1,e2⟩;subst S2 w2;repeat refine rN ?_
   refine dV Tryz.func38 (Vy N W e.size g (some ⟨BV,0,none⟩) h.mem qn ly (by have:=h.cnt.1;omega) (.inr ⟨BV,_,rfl,L1,du,by simp[aE]⟩)) ?_;rintro _ S2 w2 _ ⟨rfl,e1,v1,vv,iu⟩;subst S2;obtain⟨hd,pw⟩:=h.noted vv iu (by have:=h.cnt;simp;omega);try simp only[stO_some]
   repeat refine rN ?_
   refine aM λtodo=>?_;refine ret _ _ S1 w2 (.bool true) ?_ ⟨rfl,_,hd,pw⟩;simp[results,Tryz.results12]
  .have fe:∀t∈T k,t.id≠d:=λt ht e=>hf ⟨t,ht,e⟩;refine rK Tryz.func36 (On d (hH.rep.none fe) d1 d2 hH.st) ?_;rintro _ S1 w1 _ ⟨e1,eh,rfl⟩;subst S1;have qn:=aS eh;have AP:=eh.cell lc;have wz:=eh.cell lk;repeat refine rM AP ?_
   repeat refine rM wz ?_
   refine rK Tryz.func31 (mQ N (T k) (g.kv k) (d:Int) ((h.mem.k k hk).kp0 qn) (by omega)) ?_;rintro y S2 w2 _ ⟨e1,e2,hy⟩;subst S2 w2;obtain rfl:y=.int .i64 (-1):=by
    rcases hy with⟨i,t,_,h1,h2⟩|⟨h1,_⟩
    .exact absurd (show t.id=d by omega) (fe t (al h1))
    .exact h1
   repeat refine rN ?_
   refine rZ (by simp[Act.eval,i1,i2]) ?_;repeat refine rN ?_
   refine rX (by simp[Act.eval]) ?_;repeat refine rN ?_
   refine aM λtodo=>?_;refine ret _ _ S w1 (.bool true) ?_ ⟨rfl,g,(h.kp0 qn).le (ae _) (ae _) (by omega),.ext eh⟩;simp[results,Tryz.results12]
end
