import Derived.Test.YtpiefebngnlfoaaGreatDoorMh
import Derived.Test.YtpiefebngnlfoaaGreatDoorLk
import Derived.Test.YtpiefebngnlfoaaGreatDoorMi
set_option maxRecDepth 99999
set_option maxHeartbeats 0
set_option linter.unusedVariables false
set_option linter.unusedSimpArgs false
namespace Go.Proofs.YtpiefebngnlfoaaGreatDoor
open Go.RowKit Go.Conc Go.Vw
def bM(id:Nat):Code->Option (Array Oper)
 |.region i ops _=>bif Nat.beq i id then some ops else none
 |.seq a b=>match bM id a with
  |some x=>some x
  |none=>bM id b
 |.cond _ a b=>match bM id a with
  |some x=>some x
  |none=>bM id b
 |.block _ c=>bM id c
 |.loop c=>bM id c
 |_=>none
theorem tP{ops:Array Oper}{m:Nat}(h:(List.range m).all (uD ops)=true){s:Nat}(hs:s<m):∀j,j<ops.size->aF ops j≠some s:=aV (List.all_eq_true.1 h s (List.mem_range.2 hs))
def Im(n:Nat)(h h':Nat->Hl):Prop:=((List.range n).map h').Perm ((List.range n).map h)
structure SortI(n N g:Nat)(v:World)(h0 h:Nat->Hl)(i:Nat)(w:World):Prop where
 kp:Kp v (λb=>b=g) w
 row:w.heap[g]?=some (.cells (hA N h) 94)
 perm:Im n h0 h
section
variable {w w' v:World}{S:Nat->Prop}
theorem SortI.ext{n N g i:Nat}{h0 h:Nat->Hl}(H:SortI n N g v h0 h i w)(hE:Ext w w'):SortI n N g v h0 h i w':=⟨H.kp.ext hE,hE.row H.row,H.perm⟩
def N5(n N g:Nat)(h0:Nat->Hl)(S:Nat->Prop)(v:World)(x:Value)(S':Nat->Prop)(v':World):Prop:=x=.tuple #[]∧S'=S∧∃h,SortI n N g v h0 h 0 v'∧∀a b,a<b->b<n->(h a).id<=(h b).id
def dyL:List FuncId:=[65,78,92,93,94,95,96,97,98,99,126,129,130,137,66,67,80,79,100,101,127,128]
def dyF(f:FuncId):Bool:=dyL.contains f
def dyT:List (Nat×List Nat):=[(65,[1,12]),(78,[4,29,36,43,51,60,79,84,102,110,133,145]),(92,[3,22]),(93,[3,28,58]),(94,[3]),(95,[3,39,43,47,53]),(96,[3]),(97,[3,23,72,112]),(98,[4,35,54]),(99,[4,36,54,109,127]),(126,[4,24,43]),(129,[3,16]),(130,[5,18,27,36]),(137,[4,12])]
def dyC(f:FuncId)(p:Nat):Bool:=dyT.any λq=>Nat.beq q.1 f&&q.2.contains p
def dyK:Dy.Cb:=⟨dyC,66⟩
def zM(P:Program)(F:FuncId->Bool)(K:Dy.Cb)(f:FuncId):Bool:=match P.funcs[f]? with
 |some fn=>(match fn.body with
  |some c=>Dy.okCode P F K f c
  |none=>false)&&!(fn.name == "runtime.NumGoroutine")
 |none=>false
theorem Of{P:Program}{F:FuncId->Bool}{K:Dy.Cb}{f:FuncId}(h:zM P F K f=true):∃fn c,P.funcs[f]?=some fn∧fn.body=some c∧Dy.okCode P F K f c=true∧(fn.name == "runtime.NumGoroutine")=false:=by
 unfold zM at h;split at h
 .rename_i fn hf;rw[bq]at h;obtain⟨h1,h2⟩:=h;split at h1
  .rename_i c hc;exact⟨fn,c,hf,hc,h1,by simpa using h2⟩
  .cases h1
 .cases h
theorem N9:dyL.all (zM Tryz.prog dyF dyK)=true:=by kernel_rfl
theorem S9:Dy.Good Tryz.prog dyF dyK:=⟨λf hf=>Of (List.all_eq_true.1 N9 f (by simpa [dyF] using hf)),lO,by kernel_rfl,λp=>by
 show(dyT.any λq=>Nat.beq q.1 66&&q.2.contains p)=false
 rw[List.any_eq_false];intro q hq;have h1:∀q∈dyT,Nat.beq q.1 66=false:=by
  intro q hq;have:=List.all_eq_true.1 (show(dyT.all λq=>!Nat.beq q.1 66)=true by kernel_rfl) q hq
  simpa using this
 rw[h1 q hq]
 simp⟩
theorem So{P:Program}{F:FuncId->Bool}{K:Dy.Cb}(hG:Dy.Good P F K){Post:Value->World->Prop}(hp:∀x a b,Vw.Twin a b->Post x a->Post x b){g:FuncId}(hf:F g=true){args:Array Value}(ha:Dy.CbArg K g args)(h:∀u,Vw.Twin v u->Calls P g args u λe w=>∃x,e=.returned x∧Post x w):aJ P g args S v λx S' v'=>S'=S∧Post x v':=
 λStop c cs hr=>mD λhv=>Dy.reach_call hG hp hf hv ha h λx v' KW q=>hr x S v' KW ⟨rfl,q⟩
def oW(x y:Hl):Int:=Lib.compareInt (x.id:Int) (y.id:Int)
def qT(x:Hl):List Value:=(bR x).toList
theorem ltH(x y:Hl):ltOf oW x y=decide (x.id<y.id):=by
 unfold ltOf oW Lib.compareInt;by_cases h1:x.id<y.id
 .have lj:(x.id:Int)<(y.id:Int):=by omega
  simp[h1,lj]
 .have lj:¬(x.id:Int)<(y.id:Int):=by omega
  by_cases h2:(y.id:Int)<(x.id:Int)<;>simp[h1,lj,h2]
theorem swoH:Go.Sort.SWO (ltOf oW):=⟨λx=>by rw[ltH];simp,λx y z h1 h2=>by rw[ltH]at *;simp at *;omega,λx y z h1 h2=>by rw[ltH]at *;simp at *;omega⟩
theorem O1(x y:Hl)(W:World):Calls Tryz.prog 66 #[.agg (bR x),.agg (bR y)] W λe w'=>e=.returned (.int .i64 (oW x y))∧∃q U_,w'=Go.Sort.grow (W.drewN q) U_:=by have wi:=λW'=>AnyG.cmp_Compare_int Tryz.cmpL (x.id:Int) (y.id:Int) W';change ∀W',Calls Tryz.prog 67 _ _ _ at wi;unfold oW;generalize Lib.compareInt (x.id:Int) (y.id:Int)=r at wi⊢;unfold bR;go_enter Tryz.func66,Tryz.ntmps66;go_wp2_with (go_at_call 67;refine(wi _).mono ?_;rintro e w' ⟨rfl,rfl⟩);go_ret;exact⟨rfl,0,_,by rw[Go.Sort.alloc_eq_grow,Go.Sort.alloc_eq_grow,Go.Sort.grow_grow];rfl⟩
theorem Ir(n:Nat)(d:Array Hl)(i:Inhabited Hl)(hd:d.size=n):Go.Sort.flatK qT 3 d=hA n λj=>d[j]!:=by
 subst hd;apply au;intro t;by_cases ht:t<d.size*3
 .rw[fN ht];unfold Go.Sort.flatK;rw[bj,Array.getElem?_range,ai ht];simp only[bt];refine congrArg some ?_;unfold qT bR lL;rcases(by omega:t%3=0∨t%3=1∨t%3=2) with e|e|e<;>rw[e]<;>rfl
 .rw[af (by rw[Go.Sort.size_flatK];omega),af (by rw[fT];omega)]
theorem P5{u:World}{g n m:Nat}{os:Array Obj}{F c:Array Value}(hg:u.heap[g]?=some (.cells c 94))(hc:c.size=F.size):(Go.Sort.grow (Go.Sort.putRow id (Go.Sort.ahead u m) g 0 F) os).heap[g]?=some (.cells F 94)∧Kp u (λb=>b=g) (Go.Sort.grow (Go.Sort.putRow id (Go.Sort.ahead u m) g 0 F) os):=by
 have dp:g<u.heap.size:=(Array.getElem?_eq_some_iff.1 hg).1;have hb:∀b,b<u.heap.size->(Go.Sort.grow (Go.Sort.putRow id (Go.Sort.ahead u m) g 0 F) os).heap[b]?=if g=b then(u.heap[b]?).map (Go.Sort.onCells (Go.Sort.putCells id 0 F)) else u.heap[b]?:=λb hb=>by show((u.heap.modify g (Go.Sort.onCells (Go.Sort.putCells id 0 F)))++os)[b]?=_;rw[Array.getElem?_append_left (by rw[Array.size_modify];exact hb),Array.getElem?_modify]
 refine⟨?_,?_,rfl,rfl,λb o hn ho _=>?_⟩
 .rw[hb g dp,ai rfl,hg];show some (Obj.cells (Go.Sort.putCells id 0 F c) 94)=_;refine congrArg (λx=>some (Obj.cells x 94)) ?_;apply au;intro t;unfold Go.Sort.putCells;rw[Array.getElem?_mapIdx];by_cases ht:t<c.size
  .rw[bf ht,bf (by omega)];simp only[bt,an,Nat.zero_le,true_and,Nat.sub_zero];rw[ai (by omega),getElem!_pos F t (by omega)];rfl
  .rw[af (by omega),af (by omega)];rfl
 .show u.heap.size<=((u.heap.modify g (Go.Sort.onCells (Go.Sort.putCells id 0 F)))++os).size;rw[Array.size_append,Array.size_modify];omega
 .rw[hb b (Array.getElem?_eq_some_iff.1 ho).1,ah (λe=>hn e.symm),ho]
theorem Xe(g n cap:Nat)(h0:Nat->Hl)(RI:n<=cap)(hn:n<=64)(hg:v.heap[g]?=some (.cells (hA n h0) 94)):aJ Tryz.prog 65 #[.slice (some ⟨g,0,none⟩) n cap,.func (.func 66) #[] #[]] S v (N5 n n g h0 S v):=by
 have ih:Inhabited Hl:=⟨⟨0,0,0⟩⟩;have eg:∀args w,(callFunc 66 args).run Tryz.prog w=.ok (.enter 66 args) w:=enters_of Tryz.func66 (by kernel_rfl) rfl;have hd:((Array.range n).map h0).size=n:=by simp
 have H8:∀i,i<n->((Array.range n).map h0)[i]! = h0 i:=λi hi=>by rw[getElem!_pos _ i (by rw[hd];exact hi)];simp
 have SP:Go.Sort.flatK qT 3 ((Array.range n).map h0)=hA n h0:=by
  rw[Ir n _ ih hd];apply au;intro t;by_cases ht:t<n*3
  .rw[fN ht,fN ht,H8 _ (by omega)]
  .rw[af (by rw[fT];omega),af (by rw[fT];omega)]
 have hq:=So (S:=S) (v:=v) S9 (Post:=λx w=>x=.tuple #[]∧∃h,SortI n n g v h0 h 0 w∧∀a b,a<b->b<n->(h a).id<=(h b).id) (λx a b t ⟨q1,h,q2,q3⟩=>⟨q1,h,q2.ext (Ext.twin t),q3⟩) (g:=65) (by kernel_rfl) (args:=#[.slice (some ⟨g,0,none⟩) n cap,.func (.func 66) #[] #[]]) (λp x hp hx=>?_) λu hu=>?_
 .exact λStop c cs hr=>hq Stop c cs λx S' v' hv q=>hr x S' v' hv ⟨q.2.1,q.1,q.2.2⟩
 .match p,hp,hx with
  |0,hp,_=>cases hp
  |1,_,hx=>cases hx;exact .inr rfl
  |p+2,_,hx=>simp at hx
 .have VI:u.heap[g]?=some (.cells (hA n h0) 94):=by rw[hu.heap];exact hg
  have wi:=AnyQ.slices_SortFunc Tryz.sortL 3 (λw=>?_) (λw=>?_) qT (λ_=>rfl) (λx=>Fn x) oW swoH 66 #[] g 0 cap ((Array.range n).map h0) u eg (λ_ _ _ _ x y=>O1 x y _) (λj hj=>?_) (Array.getElem?_eq_some_iff.1 VI).1 (by rw[hd];omega)
  .rw[hd]at wi;refine wi.mono ?_;rintro e w' ⟨rfl,d',k,os,hP,hSo,rfl⟩;obtain⟨p1,p2,p3⟩:=hP;rw[hd]at p1;obtain⟨r1,r2⟩:=P5 (m:=k) (os:=os) (n:=n) (F:=Go.Sort.flatK qT 3 d') VI (by rw[fT,Go.Sort.size_flatK,p1]);have yb:∀(d:Array Hl),d.size=n->(d.extract 0 n).toList=(List.range n).map λj=>d[j]!:=λd hs=>by
    apply List.ext_getElem?;intro i;rw[bd,Array.getElem?_extract];by_cases hi:i<n
    .rw[ai (by omega),an,bu,List.getElem?_range hi,bf (by omega)];simp only[bt];rw[getElem!_pos d i (by omega)]
    .rw[ah (by omega),List.getElem?_eq_none (by simp;omega)]
   refine⟨_,rfl,rfl,λj=>d'[j]!,⟨?_,?_,?_⟩,λa b yg qp=>?_⟩
   .exact⟨by have:=r2.size;rw[hu.heap]at this;exact this,r2.os.trans hu.os,r2.output.trans hu.output,λb o hb ho ht=>r2.objs b o hb (by rw[hu.heap];exact ho) ht⟩
   .rw[<-Ir n d' ih p1];exact r1
   .unfold Im;rw[yb d' p1,yb _ hd]at p3;refine p3.trans (List.Perm.of_eq ?_);refine List.map_congr_left λi hi=>?_;exact H8 i (List.mem_range.1 hi)
   .have:=hSo a b (Nat.zero_le _) yg qp;rw[ltH]at this;have:=of_decide_eq_false this;show d'[a]!.id<=d'[b]!.id;omega
  .kernel_rfl
  .kernel_rfl
  .rw[SP]at hj⊢;rw[fT]at hj;refine⟨?_,?_⟩
   .rw[an,ab _ _ _ _ _ _ VI,fN hj,getElem!_pos (hA n h0) j (by rw[fT];exact hj)];refine congrArg some ?_;have:=fN (h:=h0) hj;rw[bf (by rw[fT];exact hj)]at this;exact(bm this).symm
   .simp[World.frozen?,VI]
theorem En(g:Nat->Bool)(n:Nat):aT g (n+1)=aT g n+if g n=true then 1 else 0:=by unfold aT;rw[List.range_succ,List.filter_append,cd];cases hg:g n<;>simp[hg]
theorem yS(g:Nat->Bool)(n:Nat):aT g n<=n:=by unfold aT;exact ak (List.length_filter_le _ _) (by simp)
theorem Aq(e:Ent):aJ Tryz.prog 54 #[.agg (bN e)] S v λx S' v'=>x=.int .i64 (aT e.good 14:Nat)∧S'=S∧Ext v v':=by
 refine dX Tryz.func54 rfl Tryz.ntmps54 λStop cc cs ret f g0=>?_
 repeat refine rN ?_
 refine aN (Q:=λy w=>y=.pointer (some ⟨v.heap.size,0,none⟩)∧Ext v w∧w.heap[v.heap.size]?=some (.cells (bN e) 123)) aB rfl rfl (by kernel_rfl) (λu hu=>⟨_,_,.inl (gR (x:=.tmp 0) (y:=.agg (bN e)) rfl (by simp[g0]) u),by rw[hu.heap],(Ext.twin hu).trans _ _ _ (Ext.alloc _ _),by rw[<-hu.heap];exact bI _ _⟩) ?_;rintro _ w1 ⟨rfl,eh,fg⟩;simp only[stO_some];repeat refine rN ?_
 refine bV aB rfl rfl (by kernel_rfl) (λu hu=>sM (b:=v.heap.size) ((Ext.twin hu).row fg) (x:=.tmp 6) rfl (by simp)) ?_;simp only[stO_some];repeat refine rN ?_
 refine bF (λd f' S' w=>∃k,d=14-k∧k<=14∧S'=S∧w=w1∧f' 3=.int .i64 (aT e.good k:Nat)∧f' 7=.agg (jW e.good)∧f' 8=.int .i64 (k:Nat)) 14 ⟨0,by omega,by omega,rfl,rfl,by simp[aT],by simp,by simp⟩ ?_;clear g0 f;rintro d f S' w ⟨k,rfl,hk,eS,eW,g3,g7,g8⟩ dj;subst S' w;repeat refine rN ?_
 by_cases dp:k<14
 .have ll:(k:Int)<14:=by omega
  refine rX (by simp[Act.eval,ll]) ?_;repeat refine rN ?_
  refine bV aB rfl rfl (by kernel_rfl) (λu hu=>Cd (g:=e.good) dp (x:=.tmp 7) (y:=.tmp 8) rfl (by simp[g7]) (by simp[g8])) ?_;simp only[stO_some];have ns:aT e.good (k+1)=aT e.good k+if e.good k=true then 1 else 0:=En _ _;have ml:aT e.good k<=k:=yS _ _;obtain⟨gk,sj⟩:∃gk,e.good k=gk:=⟨_,rfl⟩;rw[sj]at ns⊢;have HC:=aP ns;clear ns sj;cases gk with
  |false=>
   repeat refine rN ?_
   refine rZ (by simp[Act.eval]) ?_;repeat refine rN ?_
   refine dj _ _ _ (14-(k+1)) (by omega) ⟨k+1,rfl,by omega,rfl,rfl,by simp[g3,HC.out],by simp[g7],by simp⟩
  |true=>
   repeat refine rN ?_
   refine rX (by simp[Act.eval]) ?_;repeat refine rN ?_
   refine dj _ _ _ (14-(k+1)) (by omega) ⟨k+1,rfl,by omega,rfl,rfl,by simp[HC.out],by simp[g7],by simp⟩
 .obtain rfl:k=14:=by omega
  refine rZ (by simp[Act.eval]) ?_;refine bC rfl ?_;repeat refine rN ?_
  refine aM λtodo=>?_;refine ret _ _ S w1 (.int .i64 (aT e.good 14:Nat)) ?_ ⟨rfl,rfl,eh⟩;simp[results,Tryz.results54]
end
end Go.Proofs.YtpiefebngnlfoaaGreatDoor
namespace Go.Vw
open Go.Conc
section
variable {P:Program}{Stop:Goroutine->(Nat->Prop)->World->Prop}{S:Nat->Prop}{v:World}{fn:FuncId}{cs:List Frame}{k:List Item}{n:Nat}{ops:Array Oper}
theorem Kn(hm:P.follows .mixedOrders=true)(ht:jH ops=true)(ha:mT ops=true){id:Nat}{f0:Nat->Value}(m:Nat)(A:List Nat)(hA:iS ops m A=true)
  (spec:Nat->Value->World->Prop) (B0:(Nat->Prop)->World->Prop) (B1:(Nat->Prop)->(Nat->Value)->World->Prop) (IF:∀S w w',B0 S w->Ext w w'->B0 S w') (IE:∀S i f x w w',i<ops.size->i ∉ A->i≠m->B1 S f w->Ext w w'->B1 S (aG f (aF ops i) x) w') (ei:∀j x w w',spec j x w->Ext w w'->spec j x w') (mf:∀j,j<ops.size->aF ops j=none->∀x w,spec j x w->spec j undef w) (h0:B0 S v)
  (step:∀i f S w rest,i<ops.size->i≠m->(i∈A->B0 S w)->(∀s,(∀j,j<ops.size->aF ops j=some s->j=i∨i∈bQ ops j)->f s=f0 s)->(∀a,a∈bQ ops i->spec a (aU ops f a) w)->(∀x w',Ext w w'->spec i x w'->Reach P Stop (G ((base fn).at ⟨TA n (aG f (aF ops i) x),[]⟩ (.inRegion ops rest::k)) cs) S w')->Reach P Stop (G ((base fn).at ⟨TA n f,[]⟩ (.inRegion ops (i::rest)::k)) cs) S w)
  (piv:∀f S w rest,B0 S w->(∀s,(∀j,j<ops.size->aF ops j=some s->j=m∨m∈bQ ops j)->f s=f0 s)->(∀a,a∈A->spec a (aU ops f a) w)->(∀x S' w',B1 S' (aG f (aF ops m) x) w'->spec m x w'->(∀j y,j≠m->spec j y w->spec j y w')->Reach P Stop (G ((base fn).at ⟨TA n (aG f (aF ops m) x),[]⟩ (.inRegion ops rest::k)) cs) S' w')->Reach P Stop (G ((base fn).at ⟨TA n f,[]⟩ (.inRegion ops (m::rest)::k)) cs) S w)
  (fin:∀f S w,B1 S f w->(∀s,(∀j,j<ops.size->aF ops j≠some s)->f s=f0 s)->(∀j,j<ops.size->spec j (aU ops f j) w)->Reach P Stop (G ((base fn).at ⟨TA n f,[]⟩ (.inRegion ops []::k)) cs) S w) (mg:m<ops.size:=by decide) :
  Reach P Stop (G ((base fn).at ⟨TA n f0,[]⟩ (.code (.region id ops true)::k)) cs) S v:=by
 refine pJ hm ht (λl f S w=>(∀s,(∀j,j<ops.size->l.getD j false=true->aF ops j≠some s)->f s=f0 s)∧(∀j,j<ops.size->l.getD j false=true->spec j (aU ops f j) w)∧(∀i,l.getD i false=true->∀a∈bQ ops i,l.getD a false=true)∧(l.getD m false=false->B0 S w)∧(l.getD m false=true->B1 S f w∧∀a∈A,l.getD a false=true)) ⟨λ_ _=>rfl,λj hj h=>?_,λi h=>?_,λ_=>h0,λh=>?_⟩ ?_ ?_
 .simp[aa,hj]at h
 .exfalso;by_cases hi:i<ops.size
  .simp[aa,hi]at h
  .simp[aa,hi]at h
 .simp[aa,mg]at h
 .rintro l f S w i rest hl ⟨hf,hd,hc,gx,fg⟩ hi dj;obtain⟨h1,o,ho,_⟩:=mem_ready.1 hi;have dp:i<ops.size:=(Array.getElem?_eq_some_iff.1 ho).1;have fp:=kD hi;have ik:l.getD i false=false:=by
   have:l.getD i true=false:=by simpa using h1
   simpa [aa,hl,dp] using this
  have oo:∀a,l.getD a false=true->a<ops.size:=λa h2=>by
   refine Nat.lt_of_not_le λh3=>?_
   rw[<-hl]at h3;simp[aa,af h3]at h2
  have fx:∀j,l.getD j false=true->(l.setIfInBounds i true).getD j false=true:=λj hj=>by
   by_cases e:i=j
   .subst e;have ri:i<l.size:=by omega
    simp[aa,aj,ri]
   .simpa [aa,aj,e] using hj
  have jf:(l.setIfInBounds i true).getD i false=true:=by
   have ri:i<l.size:=by omega
   simp[aa,aj,ri]
  have jk:∀x s,(∀j,j<ops.size->(l.setIfInBounds i true).getD j false=true->aF ops j≠some s)->aG f (aF ops i) x s=f0 s:=λx s im=>by
   rw[<-hf s λj hj h2=>im j hj (fx j h2)]
   have:=im i dp jf;cases om:aF ops i with
   |none=>rfl
   |some t=>
    rw[om]at this;have:s≠t:=λe=>this (by rw[e])
    simp[aG,st,this]
  have DV:∀s,(∀j,j<ops.size->aF ops j=some s->j=i∨i∈bQ ops j)->f s=f0 s:=λs im=>hf s λj hj h2 h3=>by
   rcases im j hj h3 with rfl|h4
   .rw[ik]at h2;cases h2
   .have:=hc j h2 i h4;rw[ik]at this;cases this
  have fh:∀x w',spec i x w'->(∀j,j<ops.size->j≠i->l.getD j false=true->spec j (aU ops f j) w')->∀j,j<ops.size->(l.setIfInBounds i true).getD j false=true->spec j (aU ops (aG f (aF ops i) x) j) w':=λx w' hs ey j hj jo=>by
   by_cases e:j=i
   .subst e;have:aU ops (aG f (aF ops j) x) j=if (aF ops j).isSome then x else undef:=by
     unfold aU;cases om:aF ops j<;>simp[aG,st]
    rw[this];cases om:aF ops j with
    |some t=>simpa using hs
    |none=>simp only[Option.isSome_none,ay,if_false];exact mf j hj om x w' hs
   .have h2:=(eU jo).resolve_left e;have:aU ops (aG f (aF ops i) x) j=aU ops f j:=by
     unfold aU;cases DX:aF ops j with
     |none=>rfl
     |some t=>
      cases DY:aF ops i with
      |none=>rfl
      |some t'=>
       have dy:t≠t':=λe'=>nT ha hj dp e DX (by rw[DY,e'])
       simp[aG,st,dy]
    rw[this];exact ey j hj e h2
  have ek:∀i',(l.setIfInBounds i true).getD i' false=true->∀a∈bQ ops i',(l.setIfInBounds i true).getD a false=true:=λi' h2 a h3=>by
   rcases eU h2 with rfl|h2
   .exact fx a (fp a h3)
   .exact fx a (hc i' h2 a h3)
  by_cases e:i=m
  .subst e;have ry:∀a∈A,l.getD a false=true:=λa h2=>jS hA hc fp _ a (ae _) h2
   refine piv f S w rest (gx ik) DV (λa h2=>hd a (oo a (ry a h2)) (ry a h2)) λx S' w' hB hs ey=>dj _ _ _ ⟨jk x,fh x w' hs λj hj dy h2=>ey j _ dy (hd j hj h2),ek,λh2=>?_,λ_=>⟨hB,λa h2=>fx a (ry a h2)⟩⟩
   rw[jf]at h2;cases h2
  .have IG:i∈A->B0 S w:=λh2=>gx (by
    cases hb:l.getD m false with
    |false=>rfl
    |true=>
     have:=(fg hb).2 i h2;rw[ik]at this
     cases this)
   refine step i f S w rest dp e IG DV (λa h2=>hd a (oo a (fp a h2)) (fp a h2)) λx w' hE hs=>dj _ _ _ ⟨jk x,fh x w' hs λj hj dy h2=>ei _ _ _ _ (hd j hj h2) hE,ek,λh2=>?_,λh2=>?_⟩
   .refine IF _ _ _ (gx ?_) hE;cases hb:l.getD m false with
    |false=>rfl
    |true=>rw[fx m hb]at h2;cases h2
   .have h3:=(eU h2).resolve_left λe'=>e e'.symm
    refine⟨IE S i f x _ _ dp (λh4=>?_) e (fg h3).1 hE,λa h4=>fx a ((fg h3).2 a h4)⟩
    have:=(fg h3).2 i h4;rw[ik]at this;cases this
 .rintro l f S w ⟨hf,hd,hc,gx,fg⟩ fa;exact fin f S w (fg (fa m mg)).1 (λs im=>hf s λj hj _=>im j hj) λj hj=>hd j hj (fa j hj)
def Q1(ops:Array Oper)(i s:Nat):Bool:=(List.range ops.size).all λj=>decide (aF ops j≠some s)||decide (j=i)||(bQ ops j).contains i
theorem Wt{i s:Nat}(h:Q1 ops i s=true):∀j,j<ops.size->aF ops j=some s->j=i∨i∈bQ ops j:=λj hj hs=>by
 have:=List.all_eq_true.1 h j (List.mem_range.2 hj);simp only[Bool.or_eq_true,decide_eq_true_eq,List.contains_iff_mem]at this;rcases this with(h1|h1)|h1
 .exact absurd hs h1
 .exact .inl h1
 .exact .inr h1
end
end Go.Vw
namespace Go.Proofs.YtpiefebngnlfoaaGreatDoor
open Go.RowKit Go.Conc Go.Vw
theorem eK{ops:Array Oper}{i s:Nat}(h:uD ops s=true):∀j,j<ops.size->aF ops j=some s->j=i∨i∈bQ ops j:=λj hj hs=>absurd hs (aV h j hj)
theorem Fp{ops:Array Oper}{a b:Nat}(h:(List.range b).all (λs=>decide (s<a)||uD ops s)=true){s:Nat}(h1:a<=s)(h2:s<b):∀j,j<ops.size->aF ops j≠some s:=by
 have:=List.all_eq_true.1 h s (List.mem_range.2 h2);simp only[Bool.or_eq_true,decide_eq_true_eq]at this;rcases this with h3|h3
 .omega
 .exact aV h3
def cM(e:Ent):Hl:=⟨e.id,e.size,14-aT e.good 14⟩
theorem Hb(n:Nat):(Array.range (n*3)).map (λi=>(bR ⟨0,0,0⟩)[i%3]!)=hA n λ_=>⟨0,0,0⟩:=by
 apply au;intro i;by_cases h:i<n*3
 .rw[fN h];simp only[bj,Array.getElem?_range,h,if_true,bt];congr 1;have h3:i%3<3:=Nat.mod_lt _ (by omega);rcases(by omega:i%3=0∨i%3=1∨i%3=2) with q|q|q<;>rw[q]<;>rfl
 .rw[af (by simp;omega),af (by rw[fT];omega)]
theorem Py{o:Oper}{a:Act}{l c:Operand}{n:Nat}(hn:n<=64)(dm:o.op=.makeSlice 91 l c)(hl:a.eval l=.int .i64 0)(hc:a.eval c=.int .i64 (n:Nat))(u:World):(execOp a.eval o).run Tryz.prog u=.ok (.value (.slice (some ⟨u.heap.size,0,none⟩) 0 n)) (u.alloc (.cells (hA n λ_=>⟨0,0,0⟩) 94)):=by
 obtain⟨inf,hq,h1,h2⟩:=Ip;obtain⟨WZ,qx,lj,h3⟩:=mP;obtain rfl:inf=WZ:=by rw[hq]at qx;cases qx;rfl
 by_cases e:n=0
 .subst e;have e0:hA 0 (λ_=>(⟨0,0,0⟩:Hl))=#[]:=by
   apply Array.ext';simp[hA]
  rw[e0];exact Pz dm hl hc u
 have w0:IntKind.i64.wrap 0=0:=rfl;have wl:IntKind.i64.wrap (n:Int)=(n:Int):=by rw[IntKind.wrap_i64];omega
 have n1:¬((n:Int)<0):=by omega
 have n2:¬((281474976710656:Int)<24*(n:Int)):=by omega
 have n3:¬(n*24 > roomBytes):=by simp only[roomBytes];omega
 have hz:=Hb n;have hs:(bR ⟨0,0,0⟩).size=3:=rfl;unfold execOp;simp[dm,hl,hc,Instr.makeSlice,cw Tryz.underlying91,asInt,asIntOf,typeInfo,hq,h1,h2,sizeOf,askRoom,newRow,w0,wl,n1,n2,n3,zeroValue,h3,Value.cells,e,hs];rw[ah (by omega),hz]
theorem Mr{u:World}{o:Oper}{a:Act}{x:Operand}{z:Hl}(dm:o.op=Op.buildSlice 91 1 #[(0,x)])(hx:a.eval x=.agg (bR z)):(execOp a.eval o).run Tryz.prog u=.ok (.value (.slice (some ⟨u.heap.size,0,none⟩) 1 1)) (u.alloc (.cells (bR z) 94)):=by
 obtain⟨inf,hq,h1,h3⟩:=mP;simp[execOp,dm,hx,Instr.buildSlice,cw Tryz.underlying91,sizeOf,typeInfo,hq,h1,zeroValue,h3,Value.cells,Instr.fill,newRow];have hs:(bR z).size=3:=rfl;rw[ah (by rw[hs];omega)];have hk:Array.foldl (λcs x=>cs.setIfInBounds x.snd x.fst) (Array.map (λx=>(bR {id:=0,size:=0,bad:=0})[x%(bR {id:=0,size:=0,bad:=0}).size]!) (Array.range 3)) (bR z).zipIdx 0 (bR z).size=bR z:=by
  have h3:(bR {id:=0,size:=0,bad:=0}).size=3:=rfl;rw[h3,show Array.map (λx=>(bR {id:=0,size:=0,bad:=0})[x%3]!) (Array.range 3)=hA 1 λ_=>⟨0,0,0⟩ from Hb 1];apply au;intro c;match c with
  |0=>simp[bR,hA,lL]
  |1=>simp[bR,hA,lL]
  |2=>simp[bR,hA,lL]
  |c+3=>simp[bR,hA,lL]
 rw[hk];rfl
theorem Lc{w u:World}{o:Oper}{a:Act}{s x:Operand}{g g' k n cp:Nat}{h:Nat->Hl}{z:Hl}(hu:Vw.Twin w u)(hg:w.heap[g]?=some (.cells (hA n h) 94))(ks:w.heap[g']?=some (.cells (bR z) 94))(hk:k<n)(dm:o.op=Op.call {callee:=Callee.builtin Builtin.append,args:=#[s,x],argTypes:=#[91,91]})(hs:a.eval s=.slice (some ⟨g,0,none⟩) k n)(hx:a.eval x=.slice (some ⟨g',0,none⟩) 1 cp):∃y w',((execOp a.eval o).run Tryz.prog u=.ok (.value y) w'∨((execOp a.eval o).run Tryz.prog u=.ok .skip w'∧y=undef))∧(y=.slice (some ⟨g,0,none⟩) (k+1) n∧Wr w g (.cells (hA n (cY h k z)) 94) w'):=by
 obtain⟨inf,hq,h1,h3⟩:=mP;have hr:=(Ext.twin hu).row hg;have e3:(bR z).toList.length=3:=rfl
 have dq:=run_append_room (P:=Tryz.prog) u 91 o.type 94 inf Tryz.underlying91 hq g k n (hA n h) hr ⟨g',0,none⟩ 1 cp (bR z).toList (by rw[h1];rfl) (λj y hy=>by
  have e:(⟨g',0,none⟩:Addr).add j=⟨g',j,none⟩:=by rw[Addr.add_lit,an]
  rw[e,ab _ _ _ _ _ _ ((Ext.twin hu).row ks)];rw[bd]at hy
  exact hy) (Fn z) (by omega) (by rw[h1,fT,e3];omega)
 rw[h1,e3,Rv hk]at dq;have hW:=jP (c:=hA n (cY h k z)) hr;refine⟨_,_,.inl (by simp[execOp,dm,resolve,invoke,builtin,hs,hx,dq]),rfl,hW.at_,λb hb=>(hW.other b hb).trans (by rw[hu.heap]),by rw[hW.size,hu.heap],hW.os.trans hu.os,hW.output.trans hu.output⟩
def oP(e:Ent)(V g k n bx:Nat)(j:Nat)(x:Value)(w:World):Prop:=
 match j with
 |0=>x=.slice (some ⟨g,0,none⟩) k n
 |1=>x=.int .i64 (e.id:Nat)
 |2=>x=.pointer (some ⟨bx,0,none⟩)
 |3=>x=.pointer (some ⟨bx,1,none⟩)
 |4=>x=.int .i64 (e.size:Nat)
 |5=>x=.agg (bN e)
 |6=>x=.int .i64 (aT e.good 14:Nat)
 |7=>x=.int .i64 ((14-aT e.good 14:Nat):Int)
 |8=>x=.agg (bR (cM e))
 |9=>∃g',x=.slice (some ⟨g',0,none⟩) 1 1∧V<=g'∧w.heap[g']?=some (.cells (bR (cM e)) 94)
 |10=>x=.slice (some ⟨g,0,none⟩) (k+1) n
 |11=>x=.slice (some ⟨g,0,none⟩) (k+1) n
 |_=>True
theorem Pq(e:Ent)(V g k n bx:Nat):∀j x w w',oP e V g k n bx j x w->Ext w w'->oP e V g k n bx j x w':=by
 intro j x w w' h hE;unfold oP at h⊢;split at h<;>first|exact h|skip
 obtain⟨g',q,h1,h2⟩:=h;exact⟨g',q,h1,hE.row h2⟩
section
variable {X D DB DA M:Nat}{RB RA:Nat->Nat}{nd nb turn:Nat}{s:Dsk}{L:List Ent}{w w' v:World}{S:Nat->Prop}
theorem Vd{f:Nat->Value}{Stop:Goroutine->(Nat->Prop)->World->Prop}{cs:List Frame}{k0:List Item}(e:Ent)(g k n bx:Nat)(h:Nat->Hl)(hk:k<n)(FD:g<w.heap.size)(hg:w.heap[g]?=some (.cells (hA n h) 94))(vb:w.heap[bx]?=some (.cells (bN e) 123))
  (g3:f 3=.slice (some ⟨g,0,none⟩) k n) (g4:f 4=.int .i64 (e.id:Nat)) (g5:f 5=.pointer (some ⟨bx,0,none⟩))
  (next:∀w1 w2 w3 f',Ext w w1->Wr w1 g (.cells (hA n (cY h k (cM e))) 94) w2->Ext w2 w3->f' 3=.slice (some ⟨g,0,none⟩) (k+1) n->(∀s,6<=s->s<22->f' s=f s)->Vw.Reach Tryz.prog Stop (G ((base 39).at ⟨TA 36 f',[]⟩ (.inRegion ((bM 5 (Tryz.f39.body.getD .skip)).getD #[]) []::k0)) cs) S w3) :
  Vw.Reach Tryz.prog Stop (G ((base 39).at ⟨TA 36 f,[]⟩ (.code (.region 5 ((bM 5 (Tryz.f39.body.getD .skip)).getD #[]) true)::k0)) cs) S w:=by
 have e0:bM 5 (Tryz.f39.body.getD .skip)=some _:=rfl;rw[e0]at next⊢
 simp only[ao]at next⊢
 clear e0;refine Kn (by kernel_rfl) (by kernel_rfl) (by kernel_rfl) 10 [0,1,2,3,4,5,6,7,8,9] (by kernel_rfl) (oP e w.heap.size g k n bx) (λS' w'=>S'=S∧Ext w w') (λS' f w'=>S'=S∧∃w1 w2,Ext w w1∧Wr w1 g (.cells (hA n (cY h k (cM e))) 94) w2∧Ext w2 w') (λS' w w' h hE=>⟨h.1,h.2.trans _ _ _ hE⟩) (λS' i f x w w' hi hA jh h hE=>let ⟨q,w1,w2,q1,q2,q3⟩:=h;⟨q,w1,w2,q1,q2,q3.trans _ _ _ hE⟩) (Pq _ _ _ _ _ _) ?_ ⟨rfl,.refl _⟩ ?_ ?_ ?_
 .intro j hj he x w h;have jo:j<12:=hj;rcases(by omega:j=0∨j=1∨j=2∨j=3∨j=4∨j=5∨j=6∨j=7∨j=8∨j=9∨j=10∨j=11) with rfl|rfl|rfl|rfl|rfl|rfl|rfl|rfl|rfl|rfl|rfl|rfl<;>cases he
 .intro i f' S1 w5 rest hi dy hB hf hd dj;have yk:f' 4=.int .i64 (e.id:Nat):=(hf 4 (eK (by kernel_rfl))).trans g4;have UJ:f' 5=.pointer (some ⟨bx,0,none⟩):=(hf 5 (eK (by kernel_rfl))).trans g5;have ft:i<12:=hi;rcases(by omega:i=0∨i=1∨i=2∨i=3∨i=4∨i=5∨i=6∨i=7∨i=8∨i=9∨i=10∨i=11) with rfl|rfl|rfl|rfl|rfl|rfl|rfl|rfl|rfl|rfl|rfl|rfl
  .have OY:f' 3=.slice (some ⟨g,0,none⟩) k n:=(hf 3 (Wt (by kernel_rfl))).trans g3;clear hd hf;refine rY aB ?_;exact dj _ w5 (.refl w5) rfl
  .clear hd hf;refine rY aB ?_;exact dj _ w5 (.refl w5) rfl
  .clear hd hf;refine rY aB ?_;exact dj _ w5 (.refl w5) rfl
  .have d0:f' 24=.pointer (some ⟨bx,0,none⟩):=hd 2 (aD (by kernel_rfl));clear hd hf;refine rY aB ?_;exact dj _ w5 (.refl w5) rfl
  .have d0:f' 25=.pointer (some ⟨bx,1,none⟩):=hd 3 (aD (by kernel_rfl));obtain⟨eS,hE⟩:=hB (by simp);subst S1;have c0:w5.cell? ⟨bx,1,none⟩=some (.int .i64 (e.size:Nat)):=(ab _ _ _ _ _ _ (hE.row vb)).trans rfl;clear hd hB hf;(refine rO aB rfl ?_;intro _ dt K_ dr;(have hc:=(Ext.twin dt).cell c0);go_simp;(try rw[wI _]);(try rw[wU _]);refine dr _ ?_;clear dr K_ dt;simp only[sS,sN]);exact dj _ w5 (.refl w5) rfl
  .obtain⟨eS,hE⟩:=hB (by simp);subst S1;clear hd hf;refine gO aB rfl rfl (by kernel_rfl) (x:=.tmp 5) (b:=bx) (c:=bN e) rfl (by simp[UJ]) (hE.row vb) (by kernel_rfl) (by kernel_rfl) ?_;exact dj _ w5 (.refl w5) rfl
  .have d0:f' 27=.agg (bN e):=hd 5 (aD (by kernel_rfl));obtain⟨eS,hE⟩:=hB (by simp);subst S1;clear hd hf hB;refine dV Tryz.func54 (Aq e) ?_;rintro _ S1 w6 _ ⟨rfl,e1,ew⟩;subst S1;exact dj _ w6 ew rfl
  .have d0:f' 28=.int .i64 (aT e.good 14:Nat):=hd 6 (aD (by kernel_rfl));have ml:aT e.good 14<=14:=yS _ _;have GC:(14:Int)-(aT e.good 14:Nat)=((14-aT e.good 14:Nat):Int):=by omega
   clear hd hf;refine rY aB ?_;exact dj _ w5 (.refl w5) (by simp[oP])
  .have d0:f' 23=.int .i64 (e.id:Nat):=hd 1 (aD (by kernel_rfl));have d1:f' 26=.int .i64 (e.size:Nat):=hd 4 (aD (by kernel_rfl));have d2:f' 29=.int .i64 ((14-aT e.good 14:Nat):Int):=hd 7 (aD (by kernel_rfl));clear hd hf;refine rY aB ?_;exact dj _ w5 (.refl w5) rfl
  .have d0:f' 30=.agg (bR (cM e)):=hd 8 (aD (by kernel_rfl));obtain⟨eS,hE⟩:=hB (by simp);subst S1;clear hd hf hB;refine aN (Q:=λy w'=>y=.slice (some ⟨w5.heap.size,0,none⟩) 1 1∧Ext w5 w'∧w'.heap[w5.heap.size]?=some (.cells (bR (cM e)) 94)) aB rfl rfl (by kernel_rfl) (λu hu=>⟨_,_,.inl (Mr (x:=.tmp 30) (z:=cM e) rfl (by simp[d0])),by rw[hu.heap],(Ext.twin hu).trans _ _ _ (Ext.alloc _ _),by rw[<-hu.heap];exact bI _ _⟩) ?_
   rintro _ w6 ⟨rfl,ew,VO⟩;exact dj _ w6 ew ⟨_,rfl,hE.size,VO⟩
  .exact absurd rfl dy
  .have d0:f' 32=.slice (some ⟨g,0,none⟩) (k+1) n:=hd 10 (aD (by kernel_rfl));clear hd hf;refine rY aB ?_;exact dj _ w5 (.refl w5) rfl
 .rintro f' S1 w5 rest ⟨eS,hB⟩ hf hd dj;subst S1;obtain⟨g',d0,su,ks⟩:∃g',f' 31=.slice (some ⟨g',0,none⟩) 1 1∧w.heap.size<=g'∧w5.heap[g']?=some (.cells (bR (cM e)) 94):=hd 9 (by simp);have d1:f' 22=.slice (some ⟨g,0,none⟩) k n:=hd 0 (by simp);clear hd hf;refine aN (Q:=λy w'=>y=.slice (some ⟨g,0,none⟩) (k+1) n∧Wr w5 g (.cells (hA n (cY h k (cM e))) 94) w') aB rfl rfl (by kernel_rfl) (λu hu=>Lc (s:=.tmp 22) (x:=.tmp 31) (cp:=1) hu (hB.row hg) ks hk rfl (by simp[d1]) (by simp[d0])) ?_
  rintro _ w6 ⟨rfl,hW⟩;refine dj _ S w6 ⟨rfl,w5,w6,hB,hW,.refl _⟩ rfl λj x' hj h=>?_
  unfold oP at h⊢;split at h<;>first|exact h|skip
  obtain⟨g2,q,h1,h2⟩:=h;exact⟨g2,q,h1,aO hW h2 (by omega)⟩
 .rintro f' S1 w5 ⟨eS,w1,w2,eh,hW,ep⟩ hf hd;subst S1;exact next w1 w2 w5 f' eh hW ep (hd 11 (by decide)) λs h1 h2=>hf s (Fp (by kernel_rfl) h1 h2)
structure Told(L T R:List Ent)(seen:Array Nat)(h:Nat->Hl):Prop where
 perm:(T++R).Perm L
 sn:∀e∈T,seen.contains e.born=true
 uns:∀e∈R,seen.contains e.born=false
 row:(List.range T.length).map h=T.map cM
theorem Told.start(L:List Ent):Told L [] L #[] λ_=>⟨0,0,0⟩:=⟨.refl _,λe he=>by(cases he),λe _=>by simp,rfl⟩
theorem Told.step{L T R:List Ent}{seen:Array Nat}{h:Nat->Hl}(H:Told L T R seen h)(hb:(L.map (·.born)).Nodup){e:Ent}(he:e∈L)(hs:seen.contains e.born=false):∃R',Told L (T++[e]) R' (seen.push e.born) (cY h T.length (cM e))∧T.length<L.length:=by
 have hm:e∈T++R:=H.perm.mem_iff.2 he;have hR:e∈R:=by
  rcases List.mem_append.1 hm with h1|h1
  .have:=H.sn e h1;rw[hs]at this;cases this
  .exact h1
 obtain⟨s,t,rfl⟩:=List.append_of_mem hR;have hp:((T++[e])++(s++t)).Perm L:=by refine List.Perm.trans ?_ H.perm;rw[List.append_assoc];refine(List.Perm.refl T).append ?_;rw[List.singleton_append];exact List.perm_middle.symm
 refine⟨s++t,⟨hp,λe' h1=>?_,λe' h1=>?_,?_⟩,?_⟩
 .rcases List.mem_append.1 h1 with h2|h2
  .exact oG.2 (.inl (H.sn e' h2))
  .rw[List.mem_singleton]at h2;exact oG.2 (.inr (by rw[h2]))
 .have h2:=H.uns e' (by
   rcases List.mem_append.1 h1 with h3|h3
   .exact List.mem_append.2 (.inl h3)
   .exact List.mem_append.2 (.inr (List.mem_cons_of_mem _ h3)))
  have h4:e'.born≠e.born:=λq=>by have hn:=((hp.map (·.born)).nodup_iff).2 hb;rw[List.map_append,List.map_append]at hn;have:=(List.nodup_append.1 hn).2.2 e.born (by simp) e'.born (List.mem_map.2 ⟨e',h1,rfl⟩);exact this q.symm
  cases q:(seen.push e.born).contains e'.born with
  |false=>rfl
  |true=>
   rcases oG.1 q with h5|h5
   .rw[h2]at h5;cases h5
   .exact absurd h5 h4
 .rw[cd,List.length_singleton,List.range_succ,List.map_append,List.map_append,<-H.row];congr 1
  .refine List.map_congr_left λk hk=>?_;have:=List.mem_range.1 hk;unfold cY;rw[ah (by omega)]
  .simp[cY]
 .have:=H.perm.length_eq;simp at this;omega
theorem Told.done{L T R:List Ent}{seen:Array Nat}{h:Nat->Hl}(H:Told L T R seen h)(fa:∀e∈L,seen.contains e.born=true):T.Perm L:=by
 have:R=[]:=by
  cases R with
  |nil=>rfl
  |cons e R=>have h1:=H.uns e (bw ..);have h2:=fa e (H.perm.mem_iff.1 (List.mem_append.2 (.inr (bw ..))));rw[h1]at h2;cases h2
 subst this;have:=H.perm;rwa [bo]at this
structure Lst(L:List Ent)(n g:Nat)(h:Nat->Hl)(v v':World):Prop where
 kp:Kp v (λ_=>False) v'
 new:v.heap.size<=g
 row:v'.heap[g]?=some (.cells (hA n h) 94)
 len:n=L.length
 perm:((List.range n).map h).Perm (L.map cM)
 sort:∀a b,a<b->b<n->(h a).id<=(h b).id
theorem Zw{g:Nat}(hE:Ext v w)(hK:Kp w (λb=>b=g) w')(hg:v.heap.size<=g):Kp v (λ_=>False) w':=
 have VV:=aS hE
 ⟨ak VV.size hK.size,hK.os.trans VV.os,hK.output.trans VV.output,λb o hb hc ht=>hK.objs b o (λh=>by
  have:=(Array.getElem?_eq_some_iff.1 hc).1
  omega) (VV.objs b o hb hc ht) ht⟩
theorem Gw(hL:L.length<=64)(hX:StE X D DB DA M RB RA nd nb turn s L v):aJ Tryz.prog 39 #[.pointer (some ⟨X,0,none⟩)] S v λx S' v'=>S'=S∧∃n g h,x=.slice (some ⟨g,0,none⟩) n n∧Lst L n g h v v':=by
 refine dX Tryz.func39 rfl Tryz.ntmps39 λStop cc cs ret f g0=>?_;have c1:=hX.c1;obtain⟨clock,hm,qp⟩:=hX.map;repeat refine rM c1 ?_
 refine Ck rfl rfl (by kernel_rfl) rfl (x:=.tmp 9) (by simp) hm ?_;simp only[stO_some];have HL:=aP (rfl:L.length=L.length);generalize OJ:L.length=n at *
 refine aN (Q:=λy w=>y=.slice (some ⟨v.heap.size,0,none⟩) 0 n∧Ext v w∧w.heap[v.heap.size]?=some (.cells (hA n λ_=>⟨0,0,0⟩) 94)) aB rfl rfl (by kernel_rfl) (λu hu=>⟨_,_,.inl (Py (n:=n) (by omega) (l:=.const (.int .i64 0)) (c:=.tmp 10) rfl rfl (by simp) u),by rw[hu.heap],(Ext.twin hu).trans _ _ _ (Ext.alloc _ _),by rw[<-hu.heap];exact bI _ _⟩) ?_;rintro _ w1 ⟨rfl,eh,sb⟩;simp only[stO_some];have ss:=hX.ext eh;have c2:=ss.c1;have l7:M<v.heap.size:=(Array.getElem?_eq_some_iff.1 hm).1;have nh:w1.heap[M]?=some (bL L clock):=by rw[eh.block M l7];exact hm
 generalize AX:v.heap.size=g at *
 repeat refine rM c2 ?_
 refine sB rfl rfl rfl (m:=M) (by simp) Tryz.underlying77 nh λw2 ep zy=>?_;simp only[stO_some];repeat refine rN ?_
 have ZO:g<w1.heap.size:=(Array.getElem?_eq_some_iff.1 sb).1;generalize LJ:w1.heap.size=r at *
 refine bF (λd f' S' w=>∃seen T R h,d=kJ L seen∧S'=S∧Ext v w∧Told L T R seen h∧f' 16=.pointer (some ⟨r,0,none⟩)∧f' 3=.slice (some ⟨g,0,none⟩) T.length n∧w.heap[r]?=some (.mapIter (some M) clock seen clock)∧w.heap[g]?=some (.cells (hA n h) 94)) (kJ L #[]) ⟨#[],[],L,_,rfl,rfl,eh.trans _ _ _ ep,.start L,by simp,by simp,zy,ep.row sb⟩ ?_;clear g0 f zy;rintro d f S' w ⟨seen,T,R,h,rfl,eS,fj,hT,g16,g3,hit,QO⟩ dj;subst S';have se:w.heap[M]?=some (bL L clock):=by rw[fj.block M (by omega)];exact hm
 have l5:M≠r:=by omega
 repeat refine rN ?_
 refine sI rfl rfl rfl (r:=r) (by simp[g16]) hit se qp (ae _) (λfa=>?_) λe he JG w3 fz=>?_
 .simp only[stO_some];have hp:=hT.done fa;have hlen:T.length=n:=hp.length_eq.trans OJ;have du:=hT.row;rw[hlen]at g3 du;repeat refine rN ?_
  refine rZ (by simp[Act.eval]) ?_;refine bC rfl ?_;repeat refine rN ?_
  refine rK Tryz.func65 (Xe g n n h (ae _) (by omega) QO) ?_;rintro _ S1 w4 _ ⟨rfl,e1,h',hI,zr⟩;subst S1;repeat refine rN ?_
  refine aM λtodo=>?_;refine ret _ _ S w4 (.slice (some ⟨g,0,none⟩) n n) ?_ ⟨rfl,n,g,h',rfl,Zw fj hI.kp (by omega),by omega,hI.row,OJ.symm,?_,zr⟩
  .simp[results,Tryz.results39]
  .refine List.Perm.trans hI.perm ?_;rw[du];exact hp.map _
 .simp only[stO_some];obtain⟨R',k7,dp⟩:=hT.step hX.borns he JG;rw[OJ]at dp;have IC:Ext v w3:=bO fj (by omega) fz;have GF:=aO fz QO (by omega);have FA:=aO fz se l5;repeat refine rN ?_
  refine rX (by simp[Act.eval]) ?_;repeat refine rN ?_
  refine Be rfl rfl rfl (r:=r) (e:=e) (by simp[g16]) fz.at_ FA hX.borns he ?_;simp only[stO_some];repeat refine rN ?_
  refine cD aB rfl rfl (by kernel_rfl) (.agg (aL 0 0 0 0 λ_=>false)) rfl (by kernel_rfl) λw4 gn AD AT=>?_;simp only[stO_some];repeat refine rN ?_
  refine cS aB rfl rfl (by kernel_rfl) (x:=.tmp 5) (y:=.tmp 21) (g:=w3.heap.size) (c:=bN e) rfl (by simp) (by simp) AD (by kernel_rfl) rfl (mF e) λw5 jc=>?_;simp only[stO_none];have X_:r<w3.heap.size:=by have:=(Array.getElem?_eq_some_iff.1 fz.at_).1;omega
  have NG:Ext v w5:=bO (IC.trans _ _ _ gn) (by have:=IC.size;omega) jc;have GD:=aO jc (gn.row GF) (by omega);have MD:=aO jc (gn.row fz.at_) (by omega);repeat refine rN ?_
  refine Vd e g T.length n w3.heap.size h dp (Array.getElem?_eq_some_iff.1 GD).1 GD jc.at_ (by simp[g3]) (by simp) (by simp) λw6 w7 w8 f8 ew nz KL k3 MO=>?_;have WW:f8 16=.pointer (some ⟨r,0,none⟩):=(MO 16 (by omega) (by omega)).trans (by simp[g16]);repeat refine rN ?_
  refine dj _ _ _ (kJ L (seen.push e.born)) (Dh he JG) ⟨seen.push e.born,T++[e],R',_,rfl,rfl,(bO (NG.trans _ _ _ ew) (by omega) nz).trans _ _ _ KL,k7,by simp[WW],by simp[k3],KL.row (aO nz (ew.row MD) (by omega)),KL.row nz.at_⟩
end
end Go.Proofs.YtpiefebngnlfoaaGreatDoor
namespace Go.Vw
open Go.Conc
section
variable {P:Program}{Stop:Goroutine->(Nat->Prop)->World->Prop}{S:Nat->Prop}{v:World}{fn:FuncId}{cs:List Frame}{k:List Item}{n:Nat}{ops:Array Oper}
theorem Km(hm:P.follows .mixedOrders=true)(ht:jH ops=true)(ha:mT ops=true){id:Nat}{f0:Nat->Value}(m:Nat)(A:List Nat)(hA:iS ops m A=true)
  (spec:Nat->Value->World->Prop) (B0:(Nat->Prop)->World->Prop) (B1:(Nat->Prop)->(Nat->Value)->World->Prop) (IF:∀S w w',B0 S w->Ext w w'->B0 S w') (IE:∀S i f x w w',i<ops.size->i ∉ A->i≠m->B1 S f w->Ext w w'->B1 S (aG f (aF ops i) x) w') (ei:∀j x w w',spec j x w->Ext w w'->spec j x w') (mf:∀j,j<ops.size->aF ops j=none->∀x w,spec j x w->spec j undef w) (h0:B0 S v)
  (step:∀i f S w rest,i<ops.size->i≠m->(i∈A->B0 S w)->(∀s,(∀j,j<ops.size->aF ops j=some s->j=i∨i∈bQ ops j)->f s=f0 s)->(∀a,a∈bQ ops i->spec a (aU ops f a) w)->(∀x w',Ext w w'->spec i x w'->Reach P Stop (G ((base fn).at ⟨TA n (aG f (aF ops i) x),[]⟩ (.inRegion ops rest::k)) cs) S w')->Reach P Stop (G ((base fn).at ⟨TA n f,[]⟩ (.inRegion ops (i::rest)::k)) cs) S w)
  (piv:∀f S w rest,B0 S w->(∀s,(∀j,j<ops.size->aF ops j=some s->j=m∨m∈bQ ops j)->f s=f0 s)->(∀a,a∈A->spec a (aU ops f a) w)->(∀x S' w',B1 S' (aG f (aF ops m) x) w'->spec m x w'->(∀j y,j≠m->m ∉ bQ ops j->spec j y w->spec j y w')->Reach P Stop (G ((base fn).at ⟨TA n (aG f (aF ops m) x),[]⟩ (.inRegion ops rest::k)) cs) S' w')->Reach P Stop (G ((base fn).at ⟨TA n f,[]⟩ (.inRegion ops (m::rest)::k)) cs) S w)
  (fin:∀f S w,B1 S f w->(∀s,(∀j,j<ops.size->aF ops j≠some s)->f s=f0 s)->(∀j,j<ops.size->spec j (aU ops f j) w)->Reach P Stop (G ((base fn).at ⟨TA n f,[]⟩ (.inRegion ops []::k)) cs) S w) (mg:m<ops.size:=by decide) :
  Reach P Stop (G ((base fn).at ⟨TA n f0,[]⟩ (.code (.region id ops true)::k)) cs) S v:=by
 refine pJ hm ht (λl f S w=>(∀s,(∀j,j<ops.size->l.getD j false=true->aF ops j≠some s)->f s=f0 s)∧(∀j,j<ops.size->l.getD j false=true->spec j (aU ops f j) w)∧(∀i,l.getD i false=true->∀a∈bQ ops i,l.getD a false=true)∧(l.getD m false=false->B0 S w)∧(l.getD m false=true->B1 S f w∧∀a∈A,l.getD a false=true)) ⟨λ_ _=>rfl,λj hj h=>?_,λi h=>?_,λ_=>h0,λh=>?_⟩ ?_ ?_
 .simp[aa,hj]at h
 .exfalso;by_cases hi:i<ops.size
  .simp[aa,hi]at h
  .simp[aa,hi]at h
 .simp[aa,mg]at h
 .rintro l f S w i rest hl ⟨hf,hd,hc,gx,fg⟩ hi dj;obtain⟨h1,o,ho,_⟩:=mem_ready.1 hi;have dp:i<ops.size:=(Array.getElem?_eq_some_iff.1 ho).1;have fp:=kD hi;have ik:l.getD i false=false:=by
   have:l.getD i true=false:=by simpa using h1
   simpa [aa,hl,dp] using this
  have oo:∀a,l.getD a false=true->a<ops.size:=λa h2=>by
   refine Nat.lt_of_not_le λh3=>?_
   rw[<-hl]at h3;simp[aa,af h3]at h2
  have fx:∀j,l.getD j false=true->(l.setIfInBounds i true).getD j false=true:=λj hj=>by
   by_cases e:i=j
   .subst e;have ri:i<l.size:=by omega
    simp[aa,aj,ri]
   .simpa [aa,aj,e] using hj
  have jf:(l.setIfInBounds i true).getD i false=true:=by
   have ri:i<l.size:=by omega
   simp[aa,aj,ri]
  have jk:∀x s,(∀j,j<ops.size->(l.setIfInBounds i true).getD j false=true->aF ops j≠some s)->aG f (aF ops i) x s=f0 s:=λx s im=>by
   rw[<-hf s λj hj h2=>im j hj (fx j h2)]
   have:=im i dp jf;cases om:aF ops i with
   |none=>rfl
   |some t=>
    rw[om]at this;have:s≠t:=λe=>this (by rw[e])
    simp[aG,st,this]
  have DV:∀s,(∀j,j<ops.size->aF ops j=some s->j=i∨i∈bQ ops j)->f s=f0 s:=λs im=>hf s λj hj h2 h3=>by
   rcases im j hj h3 with rfl|h4
   .rw[ik]at h2;cases h2
   .have:=hc j h2 i h4;rw[ik]at this;cases this
  have fh:∀x w',spec i x w'->(∀j,j<ops.size->j≠i->l.getD j false=true->spec j (aU ops f j) w')->∀j,j<ops.size->(l.setIfInBounds i true).getD j false=true->spec j (aU ops (aG f (aF ops i) x) j) w':=λx w' hs ey j hj jo=>by
   by_cases e:j=i
   .subst e;have:aU ops (aG f (aF ops j) x) j=if (aF ops j).isSome then x else undef:=by
     unfold aU;cases om:aF ops j<;>simp[aG,st]
    rw[this];cases om:aF ops j with
    |some t=>simpa using hs
    |none=>simp only[Option.isSome_none,ay,if_false];exact mf j hj om x w' hs
   .have h2:=(eU jo).resolve_left e;have:aU ops (aG f (aF ops i) x) j=aU ops f j:=by
     unfold aU;cases DX:aF ops j with
     |none=>rfl
     |some t=>
      cases DY:aF ops i with
      |none=>rfl
      |some t'=>
       have dy:t≠t':=λe'=>nT ha hj dp e DX (by rw[DY,e'])
       simp[aG,st,dy]
    rw[this];exact ey j hj e h2
  have ek:∀i',(l.setIfInBounds i true).getD i' false=true->∀a∈bQ ops i',(l.setIfInBounds i true).getD a false=true:=λi' h2 a h3=>by
   rcases eU h2 with rfl|h2
   .exact fx a (fp a h3)
   .exact fx a (hc i' h2 a h3)
  by_cases e:i=m
  .subst e;have ry:∀a∈A,l.getD a false=true:=λa h2=>jS hA hc fp _ a (ae _) h2
   refine piv f S w rest (gx ik) DV (λa h2=>hd a (oo a (ry a h2)) (ry a h2)) λx S' w' hB hs ey=>dj _ _ _ ⟨jk x,fh x w' hs λj hj dy h2=>ey j _ dy (λh3=>by have:=hc j h2 _ h3;rw[ik]at this;cases this) (hd j hj h2),ek,λh2=>?_,λ_=>⟨hB,λa h2=>fx a (ry a h2)⟩⟩
   rw[jf]at h2;cases h2
  .have IG:i∈A->B0 S w:=λh2=>gx (by
    cases hb:l.getD m false with
    |false=>rfl
    |true=>
     have:=(fg hb).2 i h2;rw[ik]at this
     cases this)
   refine step i f S w rest dp e IG DV (λa h2=>hd a (oo a (fp a h2)) (fp a h2)) λx w' hE hs=>dj _ _ _ ⟨jk x,fh x w' hs λj hj dy h2=>ei _ _ _ _ (hd j hj h2) hE,ek,λh2=>?_,λh2=>?_⟩
   .refine IF _ _ _ (gx ?_) hE;cases hb:l.getD m false with
    |false=>rfl
    |true=>rw[fx m hb]at h2;cases h2
   .have h3:=(eU h2).resolve_left λe'=>e e'.symm
    refine⟨IE S i f x _ _ dp (λh4=>?_) e (fg h3).1 hE,λa h4=>fx a ((fg h3).2 a h4)⟩
    have:=(fg h3).2 i h4;rw[ik]at this;cases this
 .rintro l f S w ⟨hf,hd,hc,gx,fg⟩ fa;exact fin f S w (fg (fa m mg)).1 (λs im=>hf s λj hj _=>im j hj) λj hj=>hd j hj (fa j hj)
end
section
variable {P:Program}{Stop:Goroutine->(Nat->Prop)->World->Prop}{S:Nat->Prop}{v:World}{fn:FuncId}{cs:List Frame}{k:List Item}{n:Nat}{ops:Array Oper}
theorem rJ(hm:P.follows .mixedOrders=true)(ht:jH ops=true)(ha:mT ops=true){id:Nat}{f0:Nat->Value}(m:Nat)(A:List Nat)(hA:iS ops m A=true)(z:Nat)(AZ:List Nat)(L4:iS ops z AZ=true)(fa:((List.range ops.size).all λj=>decide (j=z)||AZ.contains j)=true)(hmz:m≠z)
  (spec:Nat->Value->World->Prop) (B0 B1 B2:(Nat->Prop)->World->Prop) (IF:∀S w w',B0 S w->Ext w w'->B0 S w') (IE:∀S w w',B1 S w->Ext w w'->B1 S w') (ei:∀j x w w',spec j x w->Ext w w'->spec j x w') (mf:∀j,j<ops.size->aF ops j=none->∀x w,spec j x w->spec j undef w) (h0:B0 S v)
  (step:∀i f S w rest,i<ops.size->i≠m->i≠z->(i∈A->B0 S w)->(B0 S w∨B1 S w)->(∀s,(∀j,j<ops.size->aF ops j=some s->j=i∨i∈bQ ops j)->f s=f0 s)->(∀a,a∈bQ ops i->spec a (aU ops f a) w)->(∀x w',Ext w w'->spec i x w'->Reach P Stop (G ((base fn).at ⟨TA n (aG f (aF ops i) x),[]⟩ (.inRegion ops rest::k)) cs) S w')->Reach P Stop (G ((base fn).at ⟨TA n f,[]⟩ (.inRegion ops (i::rest)::k)) cs) S w)
  (piv:∀f S w rest,B0 S w->(∀s,(∀j,j<ops.size->aF ops j=some s->j=m∨m∈bQ ops j)->f s=f0 s)->(∀a,a∈A->spec a (aU ops f a) w)->(∀x S' w',B1 S' w'->spec m x w'->(∀j y,j≠m->m ∉ bQ ops j->spec j y w->spec j y w')->Reach P Stop (G ((base fn).at ⟨TA n (aG f (aF ops m) x),[]⟩ (.inRegion ops rest::k)) cs) S' w')->Reach P Stop (G ((base fn).at ⟨TA n f,[]⟩ (.inRegion ops (m::rest)::k)) cs) S w)
  (last:∀f S w rest,B1 S w->(∀s,(∀j,j<ops.size->aF ops j≠some s)->f s=f0 s)->(∀j,j<ops.size->j≠z->spec j (aU ops f j) w)->(∀x S' w',B2 S' w'->Reach P Stop (G ((base fn).at ⟨TA n (aG f (aF ops z) x),[]⟩ (.inRegion ops rest::k)) cs) S' w')->Reach P Stop (G ((base fn).at ⟨TA n f,[]⟩ (.inRegion ops (z::rest)::k)) cs) S w)
  (fin:∀f S w,B2 S w->(∀s,(∀j,j<ops.size->aF ops j≠some s)->f s=f0 s)->Reach P Stop (G ((base fn).at ⟨TA n f,[]⟩ (.inRegion ops []::k)) cs) S w) (mg:m<ops.size:=by decide) (CH:z<ops.size:=by decide) :
  Reach P Stop (G ((base fn).at ⟨TA n f0,[]⟩ (.code (.region id ops true)::k)) cs) S v:=by
 have UI:∀j,j<ops.size->j≠z->j∈AZ:=λj hj dy=>by have:=List.all_eq_true.1 fa j (List.mem_range.2 hj);simpa [dy] using this
 refine pJ hm ht (λl f S w=>(∀s,(∀j,j<ops.size->l.getD j false=true->aF ops j≠some s)->f s=f0 s)∧(∀j,j<ops.size->l.getD z false=false->l.getD j false=true->spec j (aU ops f j) w)∧(∀i,l.getD i false=true->∀a∈bQ ops i,l.getD a false=true)∧(l.getD m false=false->B0 S w)∧(l.getD m false=true->l.getD z false=false->B1 S w)∧(l.getD m false=true->∀a∈A,l.getD a false=true)∧(l.getD z false=true->B2 S w)) ⟨λ_ _=>rfl,λj hj hz h=>?_,λi h=>?_,λ_=>h0,λh=>?_,λh=>?_,λh=>?_⟩ ?_ ?_
 .simp[aa,hj]at h
 .exfalso;by_cases hi:i<ops.size
  .simp[aa,hi]at h
  .simp[aa,hi]at h
 .simp[aa,mg]at h
 .simp[aa,mg]at h
 .simp[aa,CH]at h
 .rintro l f S w i rest hl ⟨hf,hd,hc,gx,fg,JV,ko⟩ hi dj;obtain⟨h1,o,ho,_⟩:=mem_ready.1 hi;have dp:i<ops.size:=(Array.getElem?_eq_some_iff.1 ho).1;have fp:=kD hi;have ik:l.getD i false=false:=by
   have:l.getD i true=false:=by simpa using h1
   simpa [aa,hl,dp] using this
  have oo:∀a,l.getD a false=true->a<ops.size:=λa h2=>by
   refine Nat.lt_of_not_le λh3=>?_
   rw[<-hl]at h3;simp[aa,af h3]at h2
  have fx:∀j,l.getD j false=true->(l.setIfInBounds i true).getD j false=true:=λj hj=>by
   by_cases e:i=j
   .subst e;have ri:i<l.size:=by omega
    simp[aa,aj,ri]
   .simpa [aa,aj,e] using hj
  have jf:(l.setIfInBounds i true).getD i false=true:=by
   have ri:i<l.size:=by omega
   simp[aa,aj,ri]
  have jk:∀x s,(∀j,j<ops.size->(l.setIfInBounds i true).getD j false=true->aF ops j≠some s)->aG f (aF ops i) x s=f0 s:=λx s im=>by
   rw[<-hf s λj hj h2=>im j hj (fx j h2)]
   have:=im i dp jf;cases om:aF ops i with
   |none=>rfl
   |some t=>
    rw[om]at this;have:s≠t:=λe=>this (by rw[e])
    simp[aG,st,this]
  have DV:∀s,(∀j,j<ops.size->aF ops j=some s->j=i∨i∈bQ ops j)->f s=f0 s:=λs im=>hf s λj hj h2 h3=>by
   rcases im j hj h3 with rfl|h4
   .rw[ik]at h2;cases h2
   .have:=hc j h2 i h4;rw[ik]at this;cases this
  have fh:∀x w',spec i x w'->(∀j,j<ops.size->j≠i->l.getD j false=true->spec j (aU ops f j) w')->∀j,j<ops.size->(l.setIfInBounds i true).getD j false=true->spec j (aU ops (aG f (aF ops i) x) j) w':=λx w' hs ey j hj jo=>by
   by_cases e:j=i
   .subst e;have:aU ops (aG f (aF ops j) x) j=if (aF ops j).isSome then x else undef:=by
     unfold aU;cases om:aF ops j<;>simp[aG,st]
    rw[this];cases om:aF ops j with
    |some t=>simpa using hs
    |none=>simp only[Option.isSome_none,ay,if_false];exact mf j hj om x w' hs
   .have h2:=(eU jo).resolve_left e;have:aU ops (aG f (aF ops i) x) j=aU ops f j:=by
     unfold aU;cases DX:aF ops j with
     |none=>rfl
     |some t=>
      cases DY:aF ops i with
      |none=>rfl
      |some t'=>
       have dy:t≠t':=λe'=>nT ha hj dp e DX (by rw[DY,e'])
       simp[aG,st,dy]
    rw[this];exact ey j hj e h2
  have ek:∀i',(l.setIfInBounds i true).getD i' false=true->∀a∈bQ ops i',(l.setIfInBounds i true).getD a false=true:=λi' h2 a h3=>by
   rcases eU h2 with rfl|h2
   .exact fx a (fp a h3)
   .exact fx a (hc i' h2 a h3)
  have CG:l.getD z false=false:=by
   cases hb:l.getD z false with
   |false=>rfl
   |true=>
    have dy:i≠z:=λe'=>by rw[<-e',ik]at hb;cases hb
    have:=jS L4 hc (hc z hb) _ i (ae _) (UI i dp dy);rw[ik]at this;cases this
  have D2:i≠z->(l.setIfInBounds i true).getD z false=true->False:=λdy h2=>by
   rcases eU h2 with h3|h3
   .exact dy h3.symm
   .rw[CG]at h3;cases h3
  by_cases ez:i=z
  .subst ez;have ry:∀j,j<ops.size->j≠i->l.getD j false=true:=λj hj dy=>jS L4 hc fp _ j (ae _) (UI j hj dy)
   have VF:=ry m mg hmz;refine last f S w rest (fg VF CG) (λs im=>hf s λj hj _=>im j hj) (λj hj dy=>hd j hj CG (ry j hj dy)) λx S' w' hB=>dj _ _ _ ⟨jk x,λj hj h2=>?_,ek,λh2=>?_,λ_ h2=>?_,λ_ a h2=>fx a (JV VF a h2),λ_=>hB⟩
   .rw[jf]at h2;cases h2
   .rw[fx m VF]at h2;cases h2
   .rw[jf]at h2;cases h2
  by_cases e:i=m
  .subst e;have ry:∀a∈A,l.getD a false=true:=λa h2=>jS hA hc fp _ a (ae _) h2
   refine piv f S w rest (gx ik) DV (λa h2=>hd a (oo a (ry a h2)) CG (ry a h2)) λx S' w' hB hs ey=>dj _ _ _ ⟨jk x,λj hj _ h2=>fh x w' hs (λj hj dy h2=>ey j _ dy (λh3=>by have:=hc j h2 _ h3;rw[ik]at this;cases this) (hd j hj CG h2)) j hj h2,ek,λh2=>?_,λ_ _=>hB,λ_ a h2=>fx a (ry a h2),λh2=>(D2 ez h2).elim⟩
   rw[jf]at h2;cases h2
  .have IG:i∈A->B0 S w:=λh2=>gx (by
    cases hb:l.getD m false with
    |false=>rfl
    |true=>
     have:=JV hb i h2;rw[ik]at this
     cases this)
   have MW:B0 S w∨B1 S w:=by
    cases hb:l.getD m false with
    |false=>exact .inl (gx hb)
    |true=>exact .inr (fg hb CG)
   refine step i f S w rest dp e ez IG MW DV (λa h2=>hd a (oo a (fp a h2)) CG (fp a h2)) λx w' hE hs=>dj _ _ _ ⟨jk x,λj hj _ h2=>fh x w' hs (λj hj dy h2=>ei _ _ _ _ (hd j hj CG h2) hE) j hj h2,ek,λh2=>?_,λh2 _=>?_,λh2 a h4=>?_,λh2=>(D2 ez h2).elim⟩
   .refine IF _ _ _ (gx ?_) hE;cases hb:l.getD m false with
    |false=>rfl
    |true=>rw[fx m hb]at h2;cases h2
   .have h3:=(eU h2).resolve_left λe'=>e e'.symm
    exact IE _ _ _ (fg h3 CG) hE
   .have h3:=(eU h2).resolve_left λe'=>e e'.symm
    exact fx a (JV h3 a h4)
 .rintro l f S w ⟨hf,hd,hc,gx,fg,JV,ko⟩ TI;exact fin f S w (ko (TI z CH)) λs im=>hf s λj hj _=>im j hj
end
