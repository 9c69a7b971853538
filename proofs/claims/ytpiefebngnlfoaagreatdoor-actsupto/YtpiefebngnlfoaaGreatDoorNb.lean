import Derived.Test.YtpiefebngnlfoaaGreatDoorNa
set_option maxRecDepth 99999
set_option maxHeartbeats 0
set_option linter.unusedVariables false
set_option linter.unusedSimpArgs false
namespace Go.Vw
open Go.Conc
theorem uO{P:Program}{Stop:Goroutine->(Nat->Prop)->World->Prop}{S:Nat->Prop}{w:World}{fn:FuncId}{cs:List Frame}{k:List Item}{n:Nat}{c:Item}{f:Nat->Value}(Post:(Nat->Value)->(Nat->Prop)->World->Prop)(h1:(∀f' S' w',Post f' S' w'->Reach P Stop (G ((base fn).at ⟨TA n f',[]⟩ k) cs) S' w')->Reach P Stop (G ((base fn).at ⟨TA n f,[]⟩ (c::k)) cs) S w)(h2:∀f' S' w',Post f' S' w'->Reach P Stop (G ((base fn).at ⟨TA n f',[]⟩ k) cs) S' w'):Reach P Stop (G ((base fn).at ⟨TA n f,[]⟩ (c::k)) cs) S w:=h1 h2
end Go.Vw
namespace Go.Proofs.YtpiefebngnlfoaaGreatDoor
open Go.RowKit Go.Conc Go.Vw
section
variable {w w' v:World}{S:Nat->Prop}
theorem mQ(N:Nat)(T:List It)(sv:Value)(id:Int)(hI:eI N N v sv T)(hl:T.length<=100):aJ Tryz.prog 31 #[sv,.int .i64 id] S v λx S' v'=>S'=S∧v'=v∧((∃(i:Nat)(t:It),x=.int .i64 (i:Nat)∧T[i]?=some t∧((t.id:Nat):Int)=id)∨(x=.int .i64 (-1)∧∀t∈T,((t.id:Nat):Int)≠id)):=by
 obtain⟨Q,qq,hQ⟩:=hI;obtain⟨pv,cv,tg⟩:=hQ.form;subst tg;have TS:Q.length<=100:=by rw[<-qq,bz]at hl;exact hl
 refine cX Tryz.func31 rfl Tryz.ntmps31 λStop cc cs ret f g0 g1=>?_
 repeat refine rN ?_
 refine bF (λd f' S' w=>∃j,d=Q.length-j∧j<=Q.length∧S'=S∧w=v∧Hid (∀(i:Nat)(q:Itp),i<j->Q[i]?=some q->((q.it.id:Nat):Int)≠id)∧f' 0=.slice pv Q.length cv∧f' 1=.int .i64 id∧f' 5=.int .i64 (j:Nat)) Q.length ⟨0,by omega,by omega,rfl,rfl,aP λi q hi=>by omega,by simp[g0],by simp[g1],by simp⟩ ?_;clear g0 g1 f;rintro d f S' w ⟨j,rfl,hj,eS,eW,HN,g0,g1,g5⟩ dj;subst S' w;repeat refine rN ?_
 by_cases dp:j<Q.length
 .have ja:(j:Int)<(Q.length:Int):=by omega
  obtain⟨q,hq⟩:∃q,Q[j]?=some q:=⟨_,List.getElem?_eq_getElem dp⟩;obtain⟨ga,ca,ea,la,zk,EO⟩:=hQ.get hq;cases ea;refine rX (by simp[Act.eval,ja,dp]) ?_;repeat refine rM zk ?_
  by_cases he:((q.it.id:Nat):Int)=id
  .skip;refine rX (by simp[Act.eval,he]) ?_;repeat refine rN ?_
   refine aM λtodo=>?_;refine ret _ _ S v (.int .i64 (j:Nat)) ?_ ⟨rfl,rfl,.inl ⟨j,q.it,rfl,?_,he⟩⟩
   .simp[results,Tryz.results31]
   .rw[<-qq,bu,hq];rfl
  .skip;refine rZ (by simp[Act.eval,he]) ?_;repeat refine rN ?_
   refine dj _ _ _ (Q.length-(j+1)) (by omega) ⟨j+1,rfl,by omega,rfl,rfl,aP λi q' hi qx=>?_,by simp[g0],by simp[g1],by simp⟩;by_cases e:i=j
   .subst e;rw[hq]at qx;cases qx;exact he
   .exact HN.out i q' (by omega) qx
 .obtain rfl:j=Q.length:=by omega
  refine rZ (by simp[Act.eval,g5,g0]) ?_;refine bC rfl ?_;repeat refine rN ?_
  refine aM λtodo=>?_;refine ret _ _ S v (.int .i64 (-1)) ?_ ⟨rfl,rfl,.inr ⟨rfl,λt ht=>?_⟩⟩
  .simp[results,Tryz.results31]
  .rw[<-qq]at ht;obtain⟨q,hq,rfl⟩:=List.mem_map.1 ht;obtain⟨i,hi⟩:=List.mem_iff_getElem?.1 hq;exact HN.out i q (List.getElem?_eq_some_iff.1 hi).1 hi
theorem Ro{w u:World}{o:Oper}{a:Act}{so xo:Operand}{p:Option Addr}{N n c:Nat}{x:Nat->Nat}(hn:n<140737488355328)(hx:fA N w p n c x)(hu:Vw.Twin w u)(dm:o.op=Op.call {callee:=Callee.builtin Builtin.append,args:=#[so,xo],argTypes:=#[43,43]})(hs:a.eval so=.slice none 0 0)(ho:a.eval xo=.slice p n c):∃y w',((execOp a.eval o).run Tryz.prog u=.ok (.value y) w'∨((execOp a.eval o).run Tryz.prog u=.ok .skip w'∧y=undef))∧(∃p' c',y=.slice p' n c'∧fA N w' p' n c' x∧Ext w w'):=by
 obtain⟨ib,zb,qd,qu,rr,xa,va⟩:=oR;have fin:∀(y:Value)(w':World),w'.ownsRow w.heap.size 5 1 y n ((List.range n).map λj=>.int .u8 ((x j:Nat):Int))->Ext w w'->∃p' c',y=.slice p' n c'∧fA N w' p' n c' x∧Ext w w':=λy w' h hE=>by
  rcases h.2 with⟨e1,e2⟩|⟨g,cap,cur,q1,q2,q3,q4,q5,q6,q7⟩
  .subst e1 e2;exact⟨none,0,rfl,⟨.inl (.inl ⟨rfl,rfl,rfl⟩),λh=>by omega⟩,hE⟩
  .refine⟨_,cap,q1,⟨.inl (.inr ⟨g,0,rfl,q4,λj hj=>?_⟩),λ_ a ha=>?_⟩,hE⟩
   .rw[an,ab _ _ _ _ _ _ q3,<-bd];have:(cur.toList.take (n*1))[j]?=cur.toList[j]?:=by rw[List.getElem?_take,ai (by omega)]
    rw[<-this,q7];simp[hj]
   .cases ha;exact⟨(Array.getElem?_eq_some_iff.1 q3).1,.inr ⟨cur,_,q3⟩⟩
 have key:n=0∨∃B off,p=some ⟨B,off,none⟩∧0<n∧dD w B off n x:=by
  rcases Nat.eq_zero_or_pos n with h|h
  .exact .inl h
  .rcases hx.1.of (by omega) with⟨_,h',_⟩|⟨B,off,h1,h2,h3⟩
   .omega
   .exact .inr ⟨B,off,h1,h,h3⟩
 cases p with
 |none=>
  rcases key with rfl|⟨B,off,h,_⟩
  .have hc:c=0:=by
    rcases hx.1 with(⟨_,_,h⟩|⟨B,off,h,_⟩)|⟨⟨a,h⟩,_⟩
    .exact h
    .cases h
    .cases h
   subst hc;refine⟨.slice none 0 0,u,.inl ?_,none,0,rfl,⟨.inl (.inl ⟨rfl,rfl,rfl⟩),λh=>by omega⟩,Ext.twin hu⟩;have:=run_append_owned_none (P:=Tryz.prog) (w:=u) 0 43 o.type 5 ib 1 Tryz.underlying43 qd (.slice none 0 0) 0 [] (World.ownsRow_nil _ _ _ _);simp[execOp,dm,resolve,invoke,builtin,hs,ho,this]
  .cases h
 |some ad=>
  rcases key with rfl|⟨B,off,h,h2,h3⟩
  .obtain⟨y,w',hr,q1,q2,_⟩:=mB (ad:=ad) (m:=0) (c:=c) (news:=[]) hu w.heap.size Tryz.underlying43 qd qu rr xa va (World.ownsRow_nil _ _ _ _) rfl (by simp) (by simp) (by omega) (by omega) (ae _) dm hs ho;exact⟨y,w',hr,fin y w' (by simpa using q1) q2.ext⟩
  .cases h;obtain⟨y,w',hr,q1,q2⟩:=Ei (p:=none) (n:=0) (cap:=0) (olds:=[]) (ad:=⟨B,off,none⟩) (m:=n) (c:=c) (news:=(List.range n).map λj=>.int .u8 ((x j:Nat):Int)) hu Tryz.underlying43 qd qu rr xa va (.inl ⟨rfl,rfl,rfl⟩) rfl (λb hb=>by cases hb) (by omega) (by simp) (Bs h3) kX (by unfold maxLen;omega) (by omega) dm hs ho;exact⟨y,w',hr,fin y w' (by simpa using q1) q2⟩
theorem wM{N base:Nat}{w w3:World}{ov:Value}{Qo:List Itp}{q:Itp}{g:Nat}(hN:N<=base)(hb:base<=w.heap.size)(zh:ItsQ N base w ov Qo)(hq:fA N w q.p q.it.size q.cap q.it.val)(ef:Ext w w3)(AU:w3.heap[g]?=some (.cells #[.int .i64 (q.it.id:Nat),.slice q.p q.it.size q.cap] 51))(hl:Qo.length<=1000){o:Oper}{a:Act}{so xo:Operand}{u:World}(hu:Vw.Twin w3 u)(dm:o.op=Op.call {callee:=Callee.builtin Builtin.append,args:=#[so,xo],argTypes:=#[48,48]})(hs:a.eval so=ov)(ho:a.eval xo=.slice (some ⟨g,0,none⟩) 1 1):∃y w',((execOp a.eval o).run Tryz.prog u=.ok (.value y) w'∨((execOp a.eval o).run Tryz.prog u=.ok .skip w'∧y=undef))∧(ItsQ N base w' y (Qo++[q])∧Gr w w' ov.ownBlock):=by have hQ3:=zh.kp (dM N w) (aS ef);obtain⟨y,w',h1,h2,h3,_⟩:=vJ (ad:=⟨g,0,none⟩) (m:=1) (c:=1) (news:=[.int .i64 (q.it.id:Nat),.slice q.p q.it.size q.cap]) hu base hQ3.own rfl (Ri AU) (λy hy=>by rcases List.mem_cons.1 hy with rfl|hy;rfl;rw[List.mem_singleton.1 hy];rfl) (by omega) (ak hb ef.size) dm hs ho;exact⟨y,w',h1,zh.push hN hq ef h2 h3,Iq ef h3⟩
def qU(x:It)(i:Bool)(t:It)(R:List It):List It:=if t.id=x.id then aZ x i R else t::aZ x i R
theorem Tc(x t:It)(i:Bool)(R:List It):aZ x i (t::R)=if x.id<=t.id∧i=false then x::qU x true t R else qU x i t R:=rfl
theorem Qc{o:Oper}{a:Act}{x:Operand}{b off:Nat}{y z:Value}{u:World}(dm:o.op=.load 51 x)(hx:a.eval x=.pointer (some ⟨b,off,none⟩))(h0:u.cell? ⟨b,off,none⟩=some y)(h1:u.cell? ⟨b,off+1,none⟩=some z):(execOp a.eval o).run Tryz.prog u=.ok (.value (.agg #[y,z])) u:=by
 have hl:=run_loadAt_mid (P:=Tryz.prog) u b off 51 [y,z] _ (λi r hy=>by
  match i,hy with
  |0,hy=>cases hy;exact h0
  |1,hy=>cases hy;exact h1) Tryz.underlying51 rfl (by kernel_rfl)
 unfold execOp;simp only[dm,hx,df,hl,dc,dg]
theorem Tq(N:Nat)(hN:N<=v.heap.size)(T:List It)(sv:Value)(id len cap:Nat)(p:Option Addr)(val:Nat->Nat)(hid:id<=9999)(hlen:len<=400)(hI:eI N N v sv T)(hs:fA N v p len cap val)(FM:T.length<=100):aJ Tryz.prog 32 #[sv,.int .i64 (id:Nat),.slice p len cap] S v λx S' v'=>S'=S∧Ext v v'∧eI N N v' x (aZ ⟨id,len,val⟩ false T):=by
 obtain⟨Q,qq,hQ⟩:=hI;obtain⟨pv,cv,tg⟩:=hQ.form;subst tg;have N2:Hid (Q.length=T.length):=aP (by rw[<-qq,bz]);have TS:Q.length<=100:=by rw[N2.out];exact FM
 refine jR Tryz.func32 rfl Tryz.ntmps32 λStop cc cs ret f g0 g1 g2=>?_
 repeat refine rN ?_
 refine aN aB rfl rfl (by kernel_rfl) (λu hu=>Ro (so:=.tmp 11) (xo:=.tmp 12) (n:=len) (by omega) hs hu rfl (by simp) (by simp[g2])) ?_;rintro _ w1 ⟨pm,cm,rfl,hm,eh⟩;simp only[stO_some];repeat refine rN ?_
 generalize hx:(⟨id,len,val⟩:It)=x at ret⊢;have NX:x.id=id:=by rw[<-hx]
 have F3:fA N w1 pm x.size cm x.val:=by rw[<-hx];exact hm
 have HX:Hid (x.size=len):=aP (by rw[<-hx]);clear hx;refine bF (λd f' S' w=>∃j ov Qo cW,d=Q.length-j∧j<=Q.length∧S'=S∧Ext w1 w∧ItsQ N w1.heap.size w ov Qo∧Qo.length<=2*j∧Hid (Qo.map (·.it)++aZ x cW (T.drop j)=aZ x false T)∧f' 0=.slice pv Q.length cv∧f' 1=.int .i64 (id:Nat)∧f' 7=ov∧f' 8=.slice pm len cm∧f' 9=.bool cW∧f' 10=.int .i64 (j:Nat)) Q.length ⟨0,.slice none 0 0,[],false,by omega,by omega,rfl,.refl _,⟨World.ownsRow_nil _ _ _ _,λq hq=>(by cases hq)⟩,by simp,aP (by simp),by simp[g0],by simp[g1],by simp,by simp,by simp,by simp⟩ ?_;clear g0 g1 g2 f;rintro d f S' w ⟨j,ov,Qo,cW,rfl,hj,eS,fj,zh,yj,HR,g0,g1,g7,g8,g9,g10⟩ dj;subst S';have TX:N<=w1.heap.size:=ak hN eh.size;repeat refine rN ?_
 by_cases dp:j<Q.length
 .have ja:(j:Int)<(Q.length:Int):=by omega
  obtain⟨q,hq⟩:∃q,Q[j]?=some q:=⟨_,List.getElem?_eq_getElem dp⟩;have F5:T[j]?=some q.it:=by rw[<-qq,bu,hq];rfl
  have JO:T.drop j=q.it::T.drop (j+1):=by obtain⟨h1,h2⟩:=List.getElem?_eq_some_iff.1 F5;rw[List.drop_eq_getElem_cons h1,h2]
  have hR:=HR.out;rw[JO,Tc]at hR;clear HR;have HR:=aP hR;clear hR JO F5;obtain⟨ga,ca,ea,la,zk,EO⟩:=(hQ.kp (dM N v) (aS (eh.trans _ _ _ fj))).get hq;cases ea;refine rX (by simp[Act.eval,ja,dp]) ?_;repeat refine rN ?_
  refine uO (λf' S' w'=>S'=S∧w'=w∧f' 30=.bool (decide (id<=q.it.id)&&!cW)∧f' 0=.slice (some ⟨ga,0,none⟩) Q.length cv∧f' 1=.int .i64 (id:Nat)∧f' 7=ov∧f' 8=.slice pm len cm∧f' 9=.bool cW∧f' 10=.int .i64 (j:Nat)) ?_ ?_
  .intro next
   by_cases rj:id<=q.it.id
   .have ML:((id:Nat):Int)<=((q.it.id:Nat):Int):=by omega
    repeat refine rM zk ?_
    refine next _ _ _ ⟨rfl,rfl,?_,by simp[g0],by simp[g1],by simp[g7],by simp[g8],by simp[g9],by simp[g10]⟩
    simp[rj]
   .have ML:¬((id:Nat):Int)<=((q.it.id:Nat):Int):=by omega
    repeat refine rM zk ?_
    refine next _ _ _ ⟨rfl,rfl,?_,by simp[g0],by simp[g1],by simp[g7],by simp[g8],by simp[g9],by simp[g10]⟩
    simp[rj]
  clear g0 g1 g7 g8 g9 g10 f;rintro f S' w' ⟨eS,eW,BH,g0,g1,g7,g8,g9,g10⟩;subst S' w';refine uO (λf' S' w'=>∃BZ z7 PZ,S'=S∧Ext w1 w'∧ItsQ N w1.heap.size w' BZ z7∧z7.length<=2*j+1∧Hid (z7.map (·.it)++qU x PZ q.it (T.drop (j+1))=aZ x false T)∧f' 0=.slice (some ⟨ga,0,none⟩) Q.length cv∧f' 1=.int .i64 (id:Nat)∧f' 7=BZ∧f' 8=.slice pm len cm∧f' 9=.bool PZ∧f' 10=.int .i64 (j:Nat)) ?_ ?_
  .intro next
   cases sd:(decide (id<=q.it.id)&&!cW) with
   |false=>
    rw[sd]at BH;refine rZ (by simp[Act.eval,BH]) ?_;refine wG ?_;refine next _ _ _ ⟨ov,Qo,cW,rfl,fj,zh,by omega,aP ?_,g0,g1,g7,g8,g9,g10⟩
    rw[<-HR.out,ah];rintro⟨h1,rfl⟩;have:decide (id<=q.it.id)=true:=decide_eq_true (by rw[<-NX];exact h1);rw[this]at sd;cases sd
   |true=>
    rw[sd]at BH;rw[bq,decide_eq_true_iff]at sd;obtain⟨rj,h2⟩:=sd;have nu:cW=false:=by cases cW with|true=>cases h2|false=>rfl
    refine rX (by simp[Act.eval,BH]) ?_;repeat refine rN ?_
    refine aN (Q:=λy w3=>y=.slice (some ⟨w.heap.size,0,none⟩) 1 1∧Ext w w3∧w3.heap[w.heap.size]?=some (.cells #[.int .i64 (id:Nat),.slice pm len cm] 51)) aB rfl rfl (by kernel_rfl) (λu hu=>⟨_,_,.inl (vW (x:=.tmp 34) (y:=.int .i64 (id:Nat)) (z:=.slice pm len cm) rfl (by simp)),by rw[hu.heap],(Ext.twin hu).trans _ _ _ (Ext.alloc _ _),by rw[<-hu.heap];exact bI _ _⟩) ?_;rintro _ w3 ⟨rfl,ef,AU⟩;simp only[stO_some];refine aN aB rfl rfl (by kernel_rfl) (λu hu=>wM (q:=⟨x,pm,cm⟩) (so:=.tmp 31) (xo:=.tmp 35) TX fj.size zh (F3.kp (dM N w1) (aS fj)) ef (by rw[AU,NX,HX.out]) (by omega) hu rfl (by simp[g7]) (by simp)) ?_;rintro BZ w4 ⟨TR,AY⟩;simp only[stO_some];have gn:Ext w1 w4:=Gr.over fj AY λb hb=>(oF zh.own hb).1;simp only[tO,Nat.reduceAdd];refine rY aB ?_;refine rE ?_;refine rR ?_;simp only[tO,Nat.reduceAdd];refine rY aB ?_;refine rE ?_;refine next _ _ _ ⟨BZ,_,true,rfl,gn,TR,by rw[cd];simp;omega,aP ?_,by simp[g0],by simp[g1],by simp,by simp[g8],by simp,by simp[g10]⟩
    rw[<-HR.out,ai ⟨by rw[NX];exact rj,nu⟩,List.map_append,List.append_assoc];rfl
  .clear g0 g1 g7 g8 g9 g10 BH f HR zh yj zk EO fj;rintro f S' w' ⟨ov,Qo,cW,eS,fj,zh,yj,HR,g0,g1,g7,g8,g9,g10⟩;subst S';have Z0:=(hQ.sl q (al hq)).kp (dM N v) (aS (eh.trans _ _ _ fj));obtain⟨ga',ca',ea,la,zk,EO⟩:=(hQ.kp (dM N v) (aS (eh.trans _ _ _ fj))).get hq;cases ea
   repeat refine rM zk ?_
   by_cases dy:q.it.id=id
   .have z_:Hid (Qo.map (·.it)++aZ x cW (T.drop (j+1))=aZ x false T):=aP (by
     rw[<-HR.out];unfold qU
     rw[ai (dy.trans NX.symm)])
    have LR:((q.it.id:Nat):Int)=((id:Nat):Int):=by omega
    clear HR;refine rZ (by simp[Act.eval,LR,dy]) ?_;repeat refine rN ?_
    refine dj _ _ _ (Q.length-(j+1)) (by omega) ⟨j+1,ov,Qo,cW,rfl,by omega,rfl,fj,zh,by omega,z_,by simp[g0],by simp[g1],by simp[g7],by simp[g8],by simp[g9],by simp⟩
   .have z_:Hid ((Qo++[q]).map (·.it)++aZ x cW (T.drop (j+1))=aZ x false T):=aP (by
     rw[<-HR.out];unfold qU;rw[ah (λe=>dy (e.trans NX)),List.map_append,List.append_assoc]
     rfl)
    have LR:¬((q.it.id:Nat):Int)=((id:Nat):Int):=by omega
    clear HR;refine rX (by simp[Act.eval,LR,dy]) ?_;repeat refine rN ?_
    refine bV aB rfl rfl (by kernel_rfl) (λu hu=>Qc (b:=ga) (off:=j*2) (x:=.tmp 47) rfl (by simp) ((Ext.twin hu).cell zk) ((Ext.twin hu).cell EO)) ?_;simp only[stO_some];refine aN (Q:=λy w3=>y=.slice (some ⟨w'.heap.size,0,none⟩) 1 1∧Ext w' w3∧w3.heap[w'.heap.size]?=some (.cells #[.int .i64 (q.it.id:Nat),.slice q.p q.it.size q.cap] 51)) aB rfl rfl (by kernel_rfl) (λu hu=>⟨_,_,.inl (vW (x:=.tmp 48) (y:=.int .i64 (q.it.id:Nat)) (z:=.slice q.p q.it.size q.cap) rfl (by simp)),by rw[hu.heap],(Ext.twin hu).trans _ _ _ (Ext.alloc _ _),by rw[<-hu.heap];exact bI _ _⟩) ?_;rintro _ w3 ⟨rfl,ef,AU⟩;simp only[stO_some];refine aN aB rfl rfl (by kernel_rfl) (λu hu=>wM (q:=q) (so:=.tmp 44) (xo:=.tmp 49) TX fj.size zh Z0 ef AU (by omega) hu rfl (by simp[g7]) (by simp)) ?_;rintro BZ w4 ⟨TR,AY⟩;simp only[stO_some];have gn:Ext w1 w4:=Gr.over fj AY λb hb=>(oF zh.own hb).1
    repeat refine rN ?_
    refine dj _ _ _ (Q.length-(j+1)) (by omega) ⟨j+1,BZ,Qo++[q],cW,rfl,by omega,rfl,gn,TR,by rw[cd];simp;omega,z_,by simp[g0],by simp[g1],by simp,by simp[g8],by simp[g9],by simp⟩
 .obtain rfl:j=Q.length:=by omega
  refine rZ (by simp[Act.eval,g10,g0]) ?_;refine bC rfl ?_;have hR:=HR.out;rw[List.drop_eq_nil_of_le (by rw[N2.out];exact ae _)]at hR;cases SG:cW with
  |true=>
   rw[SG]at g9 hR;repeat refine rN ?_
   refine rZ (by simp[Act.eval]) ?_;repeat refine rN ?_
   refine aM λtodo=>?_;refine ret _ _ S w ov ?_ ⟨rfl,eh.trans _ _ _ fj,eI.lower ⟨Qo,?_,zh⟩ TX⟩
   .simp[results,Tryz.results32,g7]
   .rw[<-hR];simp[aZ]
  |false=>
   rw[SG]at g9 hR;repeat refine rN ?_
   refine rX (by simp[Act.eval]) ?_;repeat refine rN ?_
   refine aN (Q:=λy w3=>y=.slice (some ⟨w.heap.size,0,none⟩) 1 1∧Ext w w3∧w3.heap[w.heap.size]?=some (.cells #[.int .i64 (id:Nat),.slice pm len cm] 51)) aB rfl rfl (by kernel_rfl) (λu hu=>⟨_,_,.inl (vW (x:=.tmp 56) (y:=.int .i64 (id:Nat)) (z:=.slice pm len cm) rfl (by simp)),by rw[hu.heap],(Ext.twin hu).trans _ _ _ (Ext.alloc _ _),by rw[<-hu.heap];exact bI _ _⟩) ?_;rintro _ w3 ⟨rfl,ef,AU⟩;simp only[stO_some];refine aN aB rfl rfl (by kernel_rfl) (λu hu=>wM (q:=⟨x,pm,cm⟩) (so:=.tmp 53) (xo:=.tmp 57) TX fj.size zh (F3.kp (dM N w1) (aS fj)) ef (by rw[AU,NX,HX.out]) (by omega) hu rfl (by simp) (by simp)) ?_;rintro BZ w4 ⟨TR,AY⟩;simp only[stO_some];have gn:Ext w1 w4:=Gr.over fj AY λb hb=>(oF zh.own hb).1
   repeat refine rN ?_
   refine aM λtodo=>?_;refine ret _ _ S w4 BZ ?_ ⟨rfl,eh.trans _ _ _ gn,eI.lower ⟨_,?_,TR⟩ TX⟩
   .simp[results,Tryz.results32]
   .rw[<-hR,List.map_append];simp[aZ]
end
section
variable {v:World}{S:Nat->Prop}
theorem xH(id:Int)(h:id<1∨9999<id):aJ Tryz.prog 59 #[.int .i64 id] S v λx S' v'=>x=.bool false∧S'=S∧v'=v:=by
 refine dX Tryz.func59 rfl Tryz.ntmps59 λStop cc cs ret f g0=>?_;by_cases h1:id<1
 .have i1:¬(1:Int)<=id:=by omega
  repeat refine rN ?_
  refine aM λtodo=>?_;refine ret _ _ S v (.bool false) ?_ ⟨rfl,rfl,rfl⟩;simp[results,Tryz.results59,i1]
 .have i1:(1:Int)<=id:=by omega
  have i2:¬id<=9999:=by omega
  repeat refine rN ?_
  refine aM λtodo=>?_;refine ret _ _ S v (.bool false) ?_ ⟨rfl,rfl,rfl⟩;simp[results,Tryz.results59,i1,i2]
theorem Vm(X:Value)(id:Int)(h:id<1∨9999<id):aJ Tryz.prog 36 #[X,.int .i64 id] S v λx S' v'=>x=.tuple #[.slice none 0 0,.int .i64 1]∧S'=S∧v'=v:=by
 refine cX Tryz.func36 rfl Tryz.ntmps36 λStop cc cs ret f g0 g1=>?_
 repeat refine rN ?_
 refine rK Tryz.func59 (xH id h) ?_;rintro _ S2 w2 _ ⟨rfl,e1,e2⟩;subst S2 w2;repeat refine rN ?_
 refine rX (by simp[Act.eval]) ?_;repeat refine rN ?_
 refine aM λtodo=>?_;refine ret _ _ S v _ ?_ ⟨rfl,rfl,rfl⟩;simp[results,Tryz.results36]
theorem Mo(X:Value)(id:Int)(h:id<1∨9999<id):aJ Tryz.prog 48 #[X,.int .i64 id] S v λx S' v'=>x=.int .i64 1∧S'=S∧v'=v:=by
 refine cX Tryz.func48 rfl Tryz.ntmps48 λStop cc cs ret f g0 g1=>?_
 repeat refine rN ?_
 refine rK Tryz.func59 (xH id h) ?_;rintro _ S2 w2 _ ⟨rfl,e1,e2⟩;subst S2 w2;repeat refine rN ?_
 refine rX (by simp[Act.eval]) ?_;repeat refine rN ?_
 refine aM λtodo=>?_;refine ret _ _ S v _ ?_ ⟨rfl,rfl,rfl⟩;simp[results,Tryz.results48]
theorem Ur(X:Value)(id:Int)(len cap:Nat)(pv:Option Addr)(val:Nat->Nat)(h:id<1∨9999<id∨400<len)(hl:len<4611686018427387904)(fh:∀i,val i<256)(hs:fV v pv len cap val)(hg:Tryz.prog.globals.size<=v.heap.size):aJ Tryz.prog 29 #[X,.int .i64 id,.slice pv len cap] S v λx S' v'=>x=.int .i64 1∧Kp v (λ_=>False) v':=by
 refine jR Tryz.func29 rfl Tryz.ntmps29 λStop cc cs ret f g0 g1 g2=>?_
 repeat refine rN ?_
 by_cases hlen:400<len
 .skip;refine rK Tryz.func58 (Sj len cap pv hlen (by omega)) ?_;rintro _ S1 w1 _ ⟨rfl,e1,e2⟩;subst S1 w1;repeat refine rN ?_
  refine rX (by simp[Act.eval]) ?_;repeat refine rN ?_
  refine aM λtodo=>?_;refine ret _ _ S v _ ?_ ⟨rfl,.refl _ _⟩;simp[results,Tryz.results29]
 .skip;refine rK Tryz.func58 (Ic len cap pv val (by omega) fh hs hg) ?_;rintro _ S1 w1 _ ⟨BA,PB,rfl,hP⟩;repeat refine rN ?_
  refine rK Tryz.func59 (xH id (by omega)) ?_;rintro _ S2 w2 _ ⟨rfl,e1,e2⟩;subst S2 w2;repeat refine rN ?_
  refine rX (by simp[Act.eval]) ?_;repeat refine rN ?_
  refine aM λtodo=>?_;refine ret _ _ S1 w1 _ ?_ ⟨rfl,hP.kp⟩;simp[results,Tryz.results29]
end
