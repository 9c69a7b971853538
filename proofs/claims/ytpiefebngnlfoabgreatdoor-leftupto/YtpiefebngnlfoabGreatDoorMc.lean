import Derived.Test.YtpiefebngnlfoabGreatDoorMb
set_option maxRecDepth 99999
set_option maxHeartbeats 0
set_option linter.unusedVariables false
set_option linter.unusedSimpArgs false
namespace Go.Vw
open Go.Conc
section
variable {P:Program}{Stop:Goroutine->(Nat->Prop)->World->Prop}{S:Nat->Prop}{v:World}{fn:FuncId}{cs:List Frame}{k:List Item}{n:Nat}{f:Nat->Value}{ops:Array Oper}{i:Nat}{rest:List Nat}{o:Oper}{ds:List Deferred}
theorem Mn{g:FuncId}{gf:Func}{c:Code}{args:Array Operand}{ats:Array TypeId}{vs:Array Value}{Post:Value->(Nat->Prop)->World->Prop}(ho:ops[i]?=some o)(hw:Region.wanted o (yielded ops (TA n f))=true)(hop:o.op=.call {callee:=.value (.func g),args,argTypes:=ats})
  (hf:P.funcs[g]?=some gf) (hname:(gf.name == "runtime.NumGoroutine")=false) (hb:gf.body=some c) (hvs:args.map (⟨TA n f,ds⟩:Act).eval=vs) (hc:aK P g vs S v Post)
  (hn:∀ x S' v',View P S' v'->Post x S' v'->Reach P Stop (G ((base fn).at ⟨TA n (aG f o.dst x),ds⟩ (.inRegion ops rest :: k)) cs) S' v') :
  Reach P Stop (G ((base fn).at ⟨TA n f,ds⟩ (.inRegion ops (i :: rest) :: k)) cs) S v:=
 cV rfl (fun w=>pR ho hw (by simp[base]) hop hf hname hb hvs) (hc Stop _ cs fun x S' v' hv q=>by
  rw[Frame.finish_at,ho];show Reach P Stop (G ((base fn).at (Act.put ⟨TA n f,ds⟩ o.dst x) (.inRegion ops rest :: k)) cs) S' v';rw[bX]
  exact hn x S' v' hv q)
theorem sRet{tmps:Array Value}(h:∀ todo,Reach P Stop (G {(base fn).at ⟨tmps,ds⟩ todo with mode:=.returning} cs) S v):Reach P Stop (G ((base fn).at ⟨tmps,ds⟩ (.code .ret :: k)) cs) S v:=cV rfl (fun _=>stepG_ret') (h _)
end
theorem Kp.wr{v0 w w':World}{X:Nat->Prop}{g:Nat}{o:Obj}(h:Kp v0 X w)(hg:X g∨v0.heap.size<=g)(hW:Wr w g o w'):Kp v0 X w':=by
 refine⟨by rw[hW.size];exact h.size,hW.os.trans h.os,hW.output.trans h.output,fun b ob hb hc ht=>?_⟩
 have:b≠g:=by
  rintro rfl;rcases hg with hg|hg
  .exact hb hg
  .have:=(Array.getElem?_eq_some_iff.1 hc).1;omega
 exact(hW.other b this).trans (h.objs b ob hb hc ht)
end Go.Vw
namespace Go.Proofs.YtpiefebngnlfoabGreatDoor
open Go.RowKit Go.Conc Go.Vw
def dI(x:Nat->Nat->Nat)(i:Nat):Nat:=x (i / 96) (i % 96)
def aT(c:Nat->Nat->Nat->Nat)(d p:Nat)(b:Nat->Nat):Nat->Nat->Nat->Nat:=fun d' p' i=>if d'=d∧p'=p then b i else c d' p' i
structure Disk(D DB DA:Nat)(RB RA:Nat->Nat)(nd nb:Nat)(c:Nat->Nat->Nat->Nat)(w:World):Prop where
 row:∃ left:Nat,left<=1099511627776∧w.heap[D]?=some (.cells #[.slice (some ⟨DB,0,none⟩) nd nd,.slice (some ⟨DA,0,none⟩) nd nd,.int .i64 (left:Nat)] 104)
 db:w.heap[DB]?=some (.cells (iK nd nd nb RB) 105)
 da:w.heap[DA]?=some (.cells (iK nd nd nb RA) 105)
 rb:∀ d,d<nd->w.heap[RB d]?=some (.cells (aC (nb*96) (dI (c d))) 107)
 ra:∀ d,d<nd->∃ x,w.heap[RA d]?=some (.cells (aC (nb*96) x) 107)
 inj:∀ d d',d<nd->d'<nd->RB d=RB d'->d=d'
 apart:∀ d d',d<nd->d'<nd->RB d≠RA d'
def eK(D:Nat)(RB RA:Nat->Nat)(nd:Nat)(b:Nat):Prop:=b=D∨∃ d,d<nd∧(b=RB d∨b=RA d)
section
variable {D DB DA:Nat}{RB RA:Nat->Nat}{nd nb:Nat}{c:Nat->Nat->Nat->Nat}{w w' v:World}{S:Nat->Prop}
theorem Disk.kp(h:Disk D DB DA RB RA nd nb c w){X:Nat->Prop}(hK:Kp w X w')(h1:¬X D)(h2:¬X DB)(h3:¬X DA)(h4:∀ d,d<nd->¬X (RB d)∧¬X (RA d)):Disk D DB DA RB RA nd nb c w':=
 ⟨let ⟨l,q1,q2⟩:=h.row;⟨l,q1,hK.cells _ _ _ _ h1 q2⟩,hK.cells _ _ _ _ h2 h.db,hK.cells _ _ _ _ h3 h.da,fun d hd=>hK.cells _ _ _ _ (h4 d hd).1 (h.rb d hd),fun d hd=>let ⟨x,q⟩:=h.ra d hd;⟨x,hK.cells _ _ _ _ (h4 d hd).2 q⟩,h.inj,h.apart⟩
theorem Disk.kp0(h:Disk D DB DA RB RA nd nb c w)(hK:Kp w (fun _=>False) w'):Disk D DB DA RB RA nd nb c w':=h.kp hK (fun x=>x) (fun x=>x) (fun x=>x) fun _ _=>⟨fun x=>x,fun x=>x⟩
theorem Disk.ext(h:Disk D DB DA RB RA nd nb c w)(hE:Ext w w'):Disk D DB DA RB RA nd nb c w':=h.kp0 (aX hE)
theorem Disk.bel(h:Disk D DB DA RB RA nd nb c w):w.cell? ⟨D,0,none⟩=some (.slice (some ⟨DB,0,none⟩) nd nd):=by
 obtain⟨l,_,q⟩:=h.row;exact(cell_of_row _ _ _ _ _ _ q).trans rfl
theorem Disk.actc(h:Disk D DB DA RB RA nd nb c w):w.cell? ⟨D,1,none⟩=some (.slice (some ⟨DA,0,none⟩) nd nd):=by
 obtain⟨l,_,q⟩:=h.row;exact(cell_of_row _ _ _ _ _ _ q).trans rfl
theorem Disk.all(h:Disk D DB DA RB RA nd nb c w){d:Nat}(hd:d<nd):w.cell? ⟨DB,d,none⟩=some (.slice (some ⟨RB d,0,none⟩) nb nb):=by
 rw[cell_of_row _ _ _ _ _ _ h.db,oO hd,if_pos hd]
theorem Disk.allA(h:Disk D DB DA RB RA nd nb c w){d:Nat}(hd:d<nd):w.cell? ⟨DA,d,none⟩=some (.slice (some ⟨RA d,0,none⟩) nb nb):=by
 rw[cell_of_row _ _ _ _ _ _ h.da,oO hd,if_pos hd]
theorem Disk.blk(h:Disk D DB DA RB RA nd nb c w){d p j:Nat}(hd:d<nd)(hp:p<nb)(hj:j<96):w.cell? ⟨RB d,p*96+j,none⟩=some (.int .u8 (c d p j:Nat)):=by
 rw[cell_of_row _ _ _ _ _ _ (h.rb d hd),dZ _ _ _ (by omega)];unfold dI;rw[show(p*96+j) / 96=p by omega,show(p*96+j) % 96=j by omega]
theorem mJ{o:Oper}{a:Act}{x:Operand}{b off:Nat}{y:Nat->Nat}{u:World}(hop:o.op=.load 107 x)(hx:a.eval x=.pointer (some ⟨b,off,none⟩))(hz:∀ j,j<96->u.cell? ⟨b,off+j,none⟩=some (.int .u8 (y j:Nat))):(execOp a.eval o).run Tryz.prog u=.ok (.value (.agg (aC 96 y))) u:=by
 have h:=run_loadAt_mid (P:=Tryz.prog) u b off 107 (aC 96 y).toList _ (fun j z hy=>by
  have hj:j<96:=by
   have:=(List.getElem?_eq_some_iff.1 hy).1;simpa [dY] using this
  rw[Array.getElem?_toList,dZ _ _ _ hj]at hy;cases hy
  exact hz j hj) Tryz.underlying107 rfl (by rw[show(aC 96 y).toList.length=96 by simp[dY]];kernel_rfl)
 unfold execOp;simp only[hop,hx,Sem.run_bind,h,Result.andThen_ok,Sem.run_pure]
theorem uO(hnd:0<nd)(hD:Disk D DB DA RB RA nd nb c v) :
  aK Tryz.prog 45 #[.pointer (some ⟨D,0,none⟩)] S v fun x S' v'=>x=.int .i64 (nb:Nat)∧S'=S∧v'=v:=by
 refine dU Tryz.func45 rfl Tryz.ntmps45 fun Stop cc cs ret f g0=>?_
 have c0:=hD.bel;have c1:=hD.all hnd;repeat (first|refine rQ rfl ?_|(refine rO aB rfl ?_;intro _ hu_ K_ hK_;(have hc:=(Ext.twin hu_).cell c0;have hc':=(Ext.twin hu_).cell c1);go_simp;(try rw[wI _]);(try rw[wU _]);refine hK_ _ ?_;clear hK_ K_ hu_;simp only[sS,sN])|refine rW ?_)
 refine aP fun todo=>?_
 refine ret _ _ _ _ (.int .i64 (nb:Nat)) ?_ ⟨rfl,rfl,rfl⟩;simp[results,Tryz.results45]
theorem Hp(id size turn k m d p:Nat)(y:Nat->Nat)(hid:id<=9999)(hid0:1<=id)(hsz:size<=400)(hk:k<14)(ht:turn<18446744073709551616)(hm:m=(size+9) / 10)(hy:∀ i,y i<256)(hd:d<nd)(hp:p<nb)(hnd:nd<=18)(hnb:nb<=64)(hD:Disk D DB DA RB RA nd nb c v)(hc:∀ j,j<96->c d p j=aY id size turn k m y j) :
  aK Tryz.prog 78 #[.pointer (some ⟨D,0,none⟩),.int .i64 (d:Nat),.int .i64 (p:Nat)] S v fun x S' v'=>S'=S∧Ext v v'∧∃ B c,x=.tuple #[.agg (bK id size turn k (some ⟨B,0,none⟩) m c),.bool true]∧m<=c∧v.heap.size<=B∧eA v' B 0 m y∧∃ C,v'.heap[B]?=some (.cells C 5):=by
 intro Stop cc cs ret;rw[enter_at _ Tryz.func78 (c:=Tryz.f78.body.getD .skip) rfl,Tryz.ntmps78,rF (by simp)];have g0:dD #[.pointer (some ⟨D,0,none⟩),.int .i64 (d:Nat),.int .i64 (p:Nat)] 0=.pointer (some ⟨D,0,none⟩):=rfl;have g1:dD #[.pointer (some ⟨D,0,none⟩),.int .i64 (d:Nat),.int .i64 (p:Nat)] 1=.int .i64 (d:Nat):=rfl;have g2:dD #[.pointer (some ⟨D,0,none⟩),.int .i64 (d:Nat),.int .i64 (p:Nat)] 2=.int .i64 (p:Nat):=rfl;generalize dD #[.pointer (some ⟨D,0,none⟩),.int .i64 (d:Nat),.int .i64 (p:Nat)]=f at g0 g1 g2;simp only[Tryz.f78,Option.getD_some];have hdI:(d:Int)<(nd:Int):=by omega
 have hpI:(p:Int)<(nb:Int):=by omega
 have HM:=aE hm;clear hm;repeat refine rN ?_
 refine cQ aB rfl rfl (by kernel_rfl) (.agg iW) rfl (by kernel_rfl) fun w1 hE1 hb1 hs1=>?_
 simp only[stO_some];repeat refine rN ?_
 refine Cf rfl rfl (by simp[base]) rfl ?_;have hD1:=hD.ext hE1;have c0:=hD1.bel;have c1:=hD1.all hd;have hz:∀ u,Vw.Twin w1 u->∀ j,j<96->u.cell? ⟨RB d,p*96+j,none⟩=some (.int .u8 (aY id size turn k m y j:Nat)):=fun u hu j hj=>(Ext.twin hu).cell (by rw[hD1.blk hd hp hj,hc j hj])
 simp only[Act.put];repeat (first|refine sA ?_|(refine sR ?_;simp only[tO,Nat.reduceAdd])|refine sE ?_|(refine sO aB rfl ?_;intro _ hu_ K_ hK_;(have hc:=(Ext.twin hu_).cell c0;have hc':=(Ext.twin hu_).cell c1);go_simp;(try rw[wI _]);(try rw[wU _]);refine hK_ _ ?_;clear hK_ K_ hu_;simp only[sS,sN]))
 refine fG (by simp[base]) rfl rfl (aA.execOp aB.cc aB.closed (fun g=>rfl) (by kernel_rfl)) fun u hu=>⟨_,u,.inl (mJ (x:=.tmp 16) (b:=RB d) (off:=p*96) rfl (by simp) (hz u hu)),Reach.twin ⟨hu.heap.symm,hu.os.symm,hu.output.symm⟩ ?_⟩
 simp only[bX,stO_some];refine Mn rfl (by rfl) rfl Tryz.func92 (by kernel_rfl) rfl (vs:=#[.agg (aC 96 (aY id size turn k m y))]) (by simp[Act.eval]) (Xt id size turn k m y hid hid0 hsz hk ht HM.out hy) fun x S' w2 hv h=>?_
 obtain⟨eS,hE2,B,cB,rfl,hcB,hVB,hBy,C,hC⟩:=h;subst S';try simp only[stO_some]
 have hb2:=hE2.row hb1;have hrun:∀ (u:World) (a:Act) (o:Oper),Vw.Twin w2 u->o.op=.store 143 (.tmp 6) (.tmp 18)->a.eval (.tmp 6)=.pointer (some ⟨v.heap.size,0,none⟩)->a.eval (.tmp 18)=.agg (bK id size turn k (some ⟨B,0,none⟩) m cB)->(execOp a.eval o).run Tryz.prog u=.ok .skip (u.setRow v.heap.size (bK id size turn k (some ⟨B,0,none⟩) m cB)):=fun u a o hu hop h1 h2=>by
  have hst:=run_storeVar_row (P:=Tryz.prog) u v.heap.size 143 143 iW (bK id size turn k (some ⟨B,0,none⟩) m cB) ((Ext.twin hu).row hb2) (by kernel_rfl) rfl (by simp[bK,Value.oneCell']);unfold execOp;simp[hop,h1,h2,Instr.storeAt,Instr.sureAddr,hst]
 refine fG (by simp[base]) rfl rfl (aA.execOp aB.cc aB.closed (fun g=>rfl) (by kernel_rfl)) fun u hu=>⟨undef,_,.inr ⟨hrun u _ _ hu rfl (by simp) (by simp),rfl⟩,Reach.twin (mK hu v.heap.size (bK id size turn k (some ⟨B,0,none⟩) m cB)).symm ?_⟩
 have hW3:=jZ (c:=bK id size turn k (some ⟨B,0,none⟩) m cB) hb2;generalize w2.setRow v.heap.size (bK id size turn k (some ⟨B,0,none⟩) m cB)=w3 at hW3;try simp only[bX,stO_none]
 have hE3:Ext v w3:=bL (hE1.trans _ _ _ hE2) (Nat.le_refl _) hW3;have hne:B≠v.heap.size:=by omega
 repeat (first|refine sA ?_|(refine sR ?_;simp only[tO,Nat.reduceAdd])|refine sE ?_|(refine sO aB rfl ?_;intro _ hu_ K_ hK_;go_simp;(try rw[wI _]);(try rw[wU _]);refine hK_ _ ?_;clear hK_ K_ hu_;simp only[sS,sN]))
 refine sRet fun todo=>?_
 refine Be (by simp) rfl Tryz.func91 (by kernel_rfl) rfl ?_;simp only[Tryz.ntmps91,Tryz.f91];refine cV rfl (fun _=>stepG_region) ?_;refine Jt (rest:=[]) rfl rfl rfl (fun w=>rfl) rfl ?_;refine cV rfl (fun _=>stepG_region_end) ?_;refine cV rfl (fun _=>stepG_end) ?_;refine Mr (y:=.tuple #[]) rfl rfl Tryz.func91 (fun w=>?_) rfl ?_
 .exact Cc Tryz.results91 _ _ _
 refine oI fun hv3=>?_
 refine xK (fn:=78) (x:=.tuple #[.agg (bK id size turn k (some ⟨B,0,none⟩) m cB),.bool true]) Tryz.func78 ?_ (ret _ S w3 hv3 ⟨rfl,hE3,B,cB,rfl,hcB,by omega,fun j hj=>?_,C,aO hW3 hC hne⟩)
 .have hl:=run_loadVar_row (P:=Tryz.prog) w3 v.heap.size 143 143 (bK id size turn k (some ⟨B,0,none⟩) m cB) (0,0) _ hW3.at_ Tryz.underlying143 rfl (by kernel_rfl);show(results Tryz.f78 (TA 19 _)).run Tryz.prog w3=_;simp[results,Tryz.results78,asAddr,hl]
 .have:=hBy j hj;rw[<-this];exact World.cell?_of_block (hW3.other B hne)
theorem yU(d p:Nat)(b:Nat->Nat)(hd:d<nd)(hp:p<nb)(hnd:nd<=18)(hnb:nb<=64)(hD:Disk D DB DA RB RA nd nb c v) :
  aK Tryz.prog 60 #[.pointer (some ⟨D,0,none⟩),.int .i64 (d:Nat),.int .i64 (p:Nat),.agg (aC 96 b)] S v fun x S' v'=>x=.bool (cC (c d p) b 0 96)∧S'=S∧Ext v v':=by
 refine qT Tryz.func60 rfl Tryz.ntmps60 fun Stop cc cs ret f g0 g1 g2 g3=>?_
 have hdI:(d:Int)<(nd:Int):=by omega
 have hpI:(p:Int)<(nb:Int):=by omega
 repeat refine rN ?_
 refine bO (Q:=fun y w=>y=.pointer (some ⟨v.heap.size,0,none⟩)∧Ext v w∧w.heap[v.heap.size]?=some (.cells (aC 96 b) 107)) aB rfl rfl (by kernel_rfl) (fun u hu=>⟨_,_,.inl (gM (x:=.tmp 3) (y:=.agg (aC 96 b)) rfl (by simp[g3]) u),by rw[hu.heap],(Ext.twin hu).trans _ _ _ (Ext.alloc _ _),by rw[<-hu.heap];exact cI _ _⟩) ?_
 rintro _ w1 ⟨rfl,hE1,hb1⟩;simp only[stO_some];have hD1:=hD.ext hE1;have c0:=hD1.bel;have c1:=hD1.all hd;have hz:∀ u,Vw.Twin w1 u->∀ j,j<96->u.cell? ⟨RB d,p*96+j,none⟩=some (.int .u8 (c d p j:Nat)):=fun u hu j hj=>(Ext.twin hu).cell (hD1.blk hd hp hj)
 have hz2:∀ u,Vw.Twin w1 u->∀ j,j<96->u.cell? ⟨v.heap.size,0+j,none⟩=some (.int .u8 (b j:Nat)):=fun u hu j hj=>(Ext.twin hu).cell (by rw[cell_of_row _ _ _ _ _ _ hb1,Nat.zero_add];exact dZ _ _ _ hj)
 repeat refine rN ?_
 refine lJ aB (by first|kernel_rfl|rfl) ?_
 simp only[List.size_toArray,List.length_cons,List.length_nil,Nat.reduceAdd,Nat.zero_add];refine rU 0 ?_;refine rU 1 ?_;refine rU 2 ?_;co_applyP rT (i:=3) rfl (fun _ hu_=>run_eq_of ?u2) ?v2
 case u2=>intro K_ hK_;(have hc:=(Ext.twin hu_).cell c0);go_simp;(try rw[wI _]);(try rw[wU _]);exact hK_
 simp only[sS,sN];refine rU 4 ?_;refine rU 5 ?_;co_applyP rT (i:=6) rfl (fun _ hu_=>run_eq_of ?u4) ?v4
 case u4=>intro K_ hK_;(have hc:=(Ext.twin hu_).cell c1);go_simp;(try rw[wI _]);(try rw[wU _]);exact hK_
 simp only[sS,sN];refine rU 7 ?_;refine rU 8 ?_;co_applyP rT (i:=9) rfl (fun u hu_=>mJ (x:=.tmp 17) (b:=RB d) (off:=p*96) (y:=c d p) rfl (by simp) (hz u hu_)) ?v9;simp only[sS,sN];co_applyP rT (i:=10) rfl (fun u hu_=>mJ (x:=.tmp 7) (b:=v.heap.size) (off:=0) (y:=b) rfl (by simp) (hz2 u hu_)) ?v10;simp only[sS,sN];co_applyP rT (i:=11) rfl (fun u hu_=>Oj (xo:=.tmp 18) (yo:=.tmp 19) (x:=c d p) (y:=b) rfl (by simp) (by simp)) ?v11;simp only[sS,sN];refine rU 12 ?_;refine lM (by first|kernel_rfl|decide +kernel) ?_ _
 repeat refine rN ?_
 refine aP fun todo=>?_
 refine ret _ _ S w1 (.bool (cC (c d p) b 0 96)) ?_ ⟨rfl,rfl,hE1⟩;simp[results,Tryz.results60]
def nT(x:Nat->Nat)(off:Nat)(b:Nat->Nat)(i:Nat):Nat:=if off<=i∧i<off+96 then b (i - off) else x i
theorem Bd{Stop:Goroutine->(Nat->Prop)->World->Prop}{fn:FuncId}{cs:List Frame}{k:List Item}{n:Nat}{f:Nat->Value}{ops:Array Oper}{i:Nat}{rest:List Nat}{dst:Option Tmp}{op:Op}{ty:TypeId}{pos:String}{aft:Array Edge}{grd:Option (Nat×Bool)}
  (ho:ops[i]?=some ⟨dst,op,ty,pos,aft,grd⟩) (hw:Region.wanted ⟨dst,op,ty,pos,aft,grd⟩ (yielded ops (TA n f))=true) (hok:bW Tryz.prog FG ⟨dst,op,ty,pos,aft,grd⟩=true) {x y:Operand} {g off N:Nat} {old b:Nat->Nat}
  (hop:op=.store 107 x y) (hx:(⟨TA n f,[]⟩:Act).eval x=.pointer (some ⟨g,off,none⟩)) (hy:(⟨TA n f,[]⟩:Act).eval y=.agg (aC 96 b)) (hrow:v.heap[g]?=some (.cells (aC N old) 107)) (hfit:off+96<=N)
  (hn:∀ v',Wr v g (.cells (aC N (nT old off b)) 107) v'->Vw.Reach Tryz.prog Stop (G ((base fn).at ⟨TA n (aG f dst undef),[]⟩ (.inRegion ops rest :: k)) cs) S v') :
  Vw.Reach Tryz.prog Stop (G ((base fn).at ⟨TA n f,[]⟩ (.inRegion ops (i :: rest) :: k)) cs) S v:=by
 have hsp:((aC N old).toList.take off++(aC 96 b).toList++(aC N old).toList.drop (off+96)).toArray=aC N (nT old off b):=by
  have h1:=oC N off 96 b old hfit;have h2:(aC 96 b).toList=(List.range 96).map (fun j=>Value.int .u8 ((b j:Nat):Int)):=by simp[aC,Array.toList_range]
  rw[h2,h1];rfl
 refine kO aB ho hw hok (x:=undef) (fun u hu=>⟨_,mK hu g (aC N (nT old off b)),.inr ⟨?_,rfl⟩⟩) (hn _ (jZ hrow));obtain⟨inf,q1,q2,q3,q4⟩:=Hu;have hst:=run_storeCells_at (P:=Tryz.prog) g off 107 (aC 96 b).toList 0 (aC N old) u ((Ext.twin hu).row hrow) (by rw[Array.length_toList,dY,dY];omega) Dv;rw[Array.length_toList,dY,Nat.add_zero,hsp]at hst;generalize (Act.eval ⟨TA n f,[]⟩)=ρ at hx hy ⊢;unfold execOp;simp[hop,hx,hy,Instr.storeAt,Instr.sureAddr,storeVar,sizeOf,typeInfo,q1,q3,Value.cells,dY,hst]
theorem Er(c:Nat->Nat->Nat->Nat)(d p:Nat)(b:Nat->Nat):nT (dI (c d)) (p*96) b=dI (aT c d p b d):=by
 funext i;unfold nT dI aT;by_cases h:p*96<=i∧i<p*96+96
 .rw[if_pos h,if_pos ⟨rfl,by omega⟩,show i - p*96=i % 96 by omega]
 .rw[if_neg h,if_neg (by omega)]
theorem Dn(c:Nat->Nat->Nat->Nat)(d p:Nat)(b:Nat->Nat){d':Nat}(h:d'≠d):dI (aT c d p b d')=dI (c d'):=by
 funext i;unfold dI aT;rw[if_neg (fun e=>h e.1)]
theorem bU{w:World}{a b:Nat}{c c':Array Value}{t t':TypeId}{fr fr':Nat×Nat}(h:w.heap[a]?=some (.cells c t fr))(h':w.heap[b]?=some (.cells c' t' fr'))(hne:t≠t'):a≠b:=fun e=>by
 rw[e,h']at h;exact hne (Obj.cells.inj (Option.some.inj h)).2.1.symm
end
structure Dsk where
 c:Nat->Nat->Nat->Nat
 a:Nat->Nat->Nat->Nat
 left:Nat
def Dsk.wr(s:Dsk)(d p:Nat)(b:Nat->Nat):Dsk:=⟨aT s.c d p b,if 0<s.left then aT s.a d p b else s.a,s.left - 1⟩
structure DiskG(D DB DA:Nat)(RB RA:Nat->Nat)(nd nb:Nat)(s:Dsk)(w:World):Prop where
 row:w.heap[D]?=some (.cells #[.slice (some ⟨DB,0,none⟩) nd nd,.slice (some ⟨DA,0,none⟩) nd nd,.int .i64 (s.left:Nat)] 104)
 small:s.left<=1099511627776
 db:w.heap[DB]?=some (.cells (iK nd nd nb RB) 105)
 da:w.heap[DA]?=some (.cells (iK nd nd nb RA) 105)
 rb:∀ d,d<nd->w.heap[RB d]?=some (.cells (aC (nb*96) (dI (s.c d))) 107)
 ra:∀ d,d<nd->w.heap[RA d]?=some (.cells (aC (nb*96) (dI (s.a d))) 107)
 inj:∀ d d',d<nd->d'<nd->RB d=RB d'->d=d'
 injA:∀ d d',d<nd->d'<nd->RA d=RA d'->d=d'
 apart:∀ d d',d<nd->d'<nd->RB d≠RA d'
 byte:∀ d p i,s.c d p i<256
section
variable {D DB DA:Nat}{RB RA:Nat->Nat}{nd nb:Nat}{s:Dsk}{w w' v:World}{S:Nat->Prop}
theorem DiskG.old(h:DiskG D DB DA RB RA nd nb s w):Disk D DB DA RB RA nd nb s.c w:=⟨⟨s.left,h.small,h.row⟩,h.db,h.da,h.rb,fun d hd=>⟨_,h.ra d hd⟩,h.inj,h.apart⟩
theorem DiskG.kp(h:DiskG D DB DA RB RA nd nb s w){X:Nat->Prop}(hK:Kp w X w')(h1:¬X D)(h2:¬X DB)(h3:¬X DA)(h4:∀ d,d<nd->¬X (RB d)∧¬X (RA d)):DiskG D DB DA RB RA nd nb s w':=
 ⟨hK.cells _ _ _ _ h1 h.row,h.small,hK.cells _ _ _ _ h2 h.db,hK.cells _ _ _ _ h3 h.da,fun d hd=>hK.cells _ _ _ _ (h4 d hd).1 (h.rb d hd),fun d hd=>hK.cells _ _ _ _ (h4 d hd).2 (h.ra d hd),h.inj,h.injA,h.apart,h.byte⟩
theorem DiskG.kp0(h:DiskG D DB DA RB RA nd nb s w)(hK:Kp w (fun _=>False) w'):DiskG D DB DA RB RA nd nb s w':=h.kp hK (fun x=>x) (fun x=>x) (fun x=>x) fun _ _=>⟨fun x=>x,fun x=>x⟩
theorem DiskG.ext(h:DiskG D DB DA RB RA nd nb s w)(hE:Ext w w'):DiskG D DB DA RB RA nd nb s w':=h.kp0 (aX hE)
theorem DiskG.bel(h:DiskG D DB DA RB RA nd nb s w):w.cell? ⟨D,0,none⟩=some (.slice (some ⟨DB,0,none⟩) nd nd):=h.old.bel
theorem DiskG.actc(h:DiskG D DB DA RB RA nd nb s w):w.cell? ⟨D,1,none⟩=some (.slice (some ⟨DA,0,none⟩) nd nd):=h.old.actc
theorem DiskG.all(h:DiskG D DB DA RB RA nd nb s w){d:Nat}(hd:d<nd):w.cell? ⟨DB,d,none⟩=some (.slice (some ⟨RB d,0,none⟩) nb nb):=h.old.all hd
theorem DiskG.allA(h:DiskG D DB DA RB RA nd nb s w){d:Nat}(hd:d<nd):w.cell? ⟨DA,d,none⟩=some (.slice (some ⟨RA d,0,none⟩) nb nb):=h.old.allA hd
theorem zJ{c:Nat->Nat->Nat->Nat}(h:∀ d p i,c d p i<256){d p:Nat}{b:Nat->Nat}(hb:∀ i,b i<256):∀ d' p' i,aT c d p b d' p' i<256:=fun d' p' i=>by
 unfold aT;split
 .exact hb i
 .exact h d' p' i
theorem DiskG.wrB(h:DiskG D DB DA RB RA nd nb s w){d p:Nat}{b:Nat->Nat}(hd:d<nd)(hb:∀ i,b i<256)(hW:Wr w (RB d) (.cells (aC (nb*96) (nT (dI (s.c d)) (p*96) b)) 107) w'):DiskG D DB DA RB RA nd nb ⟨aT s.c d p b,s.a,s.left⟩ w':=by
 have hr:=h.rb d hd;refine⟨aO hW h.row (bU h.row hr (by decide)),h.small,aO hW h.db (bU h.db hr (by decide)),aO hW h.da (bU h.da hr (by decide)),fun d' hd'=>?_,fun d' hd'=>aO hW (h.ra d' hd') (fun e=>h.apart d d' hd hd' e.symm),h.inj,h.injA,h.apart,zJ h.byte hb⟩
 show w'.heap[RB d']?=some (.cells (aC (nb*96) (dI (aT s.c d p b d'))) 107);by_cases e:d'=d
 .subst e;rw[<-Er];exact hW.at_
 .rw[Dn s.c d p b e];exact aO hW (h.rb d' hd') fun e'=>e (h.inj d' d hd' hd e')
theorem DiskG.wrA(h:DiskG D DB DA RB RA nd nb s w){d p:Nat}{b:Nat->Nat}(hd:d<nd)(hW:Wr w (RA d) (.cells (aC (nb*96) (nT (dI (s.a d)) (p*96) b)) 107) w'):DiskG D DB DA RB RA nd nb ⟨s.c,aT s.a d p b,s.left⟩ w':=by
 have hr:=h.ra d hd;refine⟨aO hW h.row (bU h.row hr (by decide)),h.small,aO hW h.db (bU h.db hr (by decide)),aO hW h.da (bU h.da hr (by decide)),fun d' hd'=>aO hW (h.rb d' hd') (h.apart d' d hd' hd),fun d' hd'=>?_,h.inj,h.injA,h.apart,h.byte⟩
 show w'.heap[RA d']?=some (.cells (aC (nb*96) (dI (aT s.a d p b d'))) 107);by_cases e:d'=d
 .subst e;rw[<-Er];exact hW.at_
 .rw[Dn s.a d p b e];exact aO hW (h.ra d' hd') fun e'=>e (h.injA d' d hd' hd e')
theorem DiskG.wrL(h:DiskG D DB DA RB RA nd nb s w){left:Nat}(hl:left<=1099511627776)(hW:Wr w D (.cells #[.slice (some ⟨DB,0,none⟩) nd nd,.slice (some ⟨DA,0,none⟩) nd nd,.int .i64 (left:Nat)] 104) w'):DiskG D DB DA RB RA nd nb ⟨s.c,s.a,left⟩ w':=
 ⟨hW.at_,hl,aO hW h.db (bU h.db h.row (by decide)),aO hW h.da (bU h.da h.row (by decide)),fun d hd=>aO hW (h.rb d hd) (bU (h.rb d hd) h.row (by decide)),fun d hd=>aO hW (h.ra d hd) (bU (h.ra d hd) h.row (by decide)),h.inj,h.injA,h.apart,h.byte⟩
theorem yM(d p:Nat)(b:Nat->Nat)(hd:d<nd)(hp:p<nb)(hnd:nd<=18)(hnb:nb<=64)(hb:∀ i,b i<256)(hD:DiskG D DB DA RB RA nd nb s v) :
  aK Tryz.prog 61 #[.pointer (some ⟨D,0,none⟩),.int .i64 (d:Nat),.int .i64 (p:Nat),.agg (aC 96 b)] S v fun x S' v'=>x=.tuple #[]∧S'=S∧Kp v (eK D RB RA nd) v'∧DiskG D DB DA RB RA nd nb (s.wr d p b) v':=by
 refine qT Tryz.func61 rfl Tryz.ntmps61 fun Stop cc cs ret f g0 g1 g2 g3=>?_
 have hdI:(d:Int)<(nd:Int):=by omega
 have hpI:(p:Int)<(nb:Int):=by omega
 repeat refine rN ?_
 refine bO (Q:=fun y w=>y=.pointer (some ⟨v.heap.size,0,none⟩)∧Ext v w∧w.heap[v.heap.size]?=some (.cells (aC 96 b) 107)) aB rfl rfl (by kernel_rfl) (fun u hu=>⟨_,_,.inl (gM (x:=.tmp 3) (y:=.agg (aC 96 b)) rfl (by simp[g3]) u),by rw[hu.heap],(Ext.twin hu).trans _ _ _ (Ext.alloc _ _),by rw[<-hu.heap];exact cI _ _⟩) ?_
 rintro _ w1 ⟨rfl,hE1,hb1⟩;simp only[stO_some];have hD1:=hD.ext hE1;have c0:=hD1.bel;have c1:=hD1.all hd;have hbx:∀ {w:World},w.heap[v.heap.size]?=some (.cells (aC 96 b) 107)->∀ u,Vw.Twin w u->∀ j,j<96->u.cell? ⟨v.heap.size,0+j,none⟩=some (.int .u8 (b j:Nat)):=fun hw u hu j hj=>(Ext.twin hu).cell (by rw[cell_of_row _ _ _ _ _ _ hw,Nat.zero_add];exact dZ _ _ _ hj)
 have hlt:∀ d,d<nd->RB d<v.heap.size∧RA d<v.heap.size:=fun d hd=>⟨(Array.getElem?_eq_some_iff.1 (hD.rb d hd)).1,(Array.getElem?_eq_some_iff.1 (hD.ra d hd)).1⟩
 have hDlt:D<v.heap.size:=(Array.getElem?_eq_some_iff.1 hD.row).1;repeat refine rN ?_
 refine jC aB (by first|kernel_rfl|rfl) ?_
 simp only[List.size_toArray,List.length_cons,List.length_nil,Nat.reduceAdd,Nat.zero_add];refine cU 0 ?_;refine cU 1 ?_;refine cU 2 ?_;co_applyP cT (i:=3) rfl (fun _ hu_=>run_eq_of ?u3_3) ?v3_3
 case u3_3=>intro K_ hK_;(have hc:=(Ext.twin hu_).cell c0);go_simp;(try rw[wI _]);(try rw[wU _]);exact hK_
 simp only[sS,sN];refine cU 4 ?_;refine cU 5 ?_;co_applyP cT (i:=6) rfl (fun _ hu_=>run_eq_of ?u5_6) ?v5_6
 case u5_6=>intro K_ hK_;(have hc:=(Ext.twin hu_).cell c1);go_simp;(try rw[wI _]);(try rw[wU _]);exact hK_
 simp only[sS,sN];refine cU 7 ?_;co_applyP cT (i:=8) rfl (fun u hu_=>mJ (x:=.tmp 7) (b:=v.heap.size) (off:=0) (y:=b) rfl (by simp) (hbx hb1 u hu_)) ?v8;simp only[sS,sN];refine cU 9 ?_;refine cL 10 ?_;refine Bd rfl rfl (by kernel_rfl) (x:=.tmp 17) (y:=.tmp 16) (g:=RB d) (off:=p*96) (b:=b) rfl (by simp) (by simp) (hD1.rb d hd) (by omega) fun w2 hW2=>?_
 simp only[stO_none];have hD2:=hD1.wrB hd hb hW2;have hK2:Kp v (eK D RB RA nd) w2:=((Kp.refl v _).ext hE1).wr (.inl (.inr ⟨d,hd,.inl rfl⟩)) hW2;have hb2:=aO hW2 hb1 (by have:=(hlt d hd).1;omega);have hl:=hD2.small;have hrow:=hD2.row;obtain⟨left,hleft⟩:∃ left,left=s.left:=⟨_,rfl⟩;have HLs:=aE hleft;rw[show(Dsk.mk (aT s.c d p b) s.a s.left).left=left from hleft.symm]at hl hrow;clear hleft;have c2:w2.cell? ⟨D,2,none⟩=some (.int .i64 (left:Nat)):=(cell_of_row _ _ _ _ _ _ hrow).trans rfl;by_cases h0:0<left
 .have h0I:(0:Int)<(left:Int):=by omega
  have hlI:IntKind.i64.wrap ((left:Int) - 1)=((left - 1:Nat):Int):=by rw[IntKind.wrap_i64];omega
  have HL:=aE hlI;clear hlI;repeat refine rM c2 ?_
  refine rX (by simp[Act.eval,h0I,h0]) ?_;repeat refine rM c2 ?_
  refine eT aB rfl rfl (by kernel_rfl) (x:=.tmp 29) (y:=.tmp 27) (g:=D) (j:=2) (z:=.int .i64 ((left - 1:Nat):Int)) rfl (by simp) (by simp;omega) rfl rfl hrow (by simp) (by kernel_rfl) fun w3 hW3=>?_
  simp only[stO_none];have hD3:=hD2.wrL (left:=left - 1) (by omega) hW3;have hK3:Kp v (eK D RB RA nd) w3:=hK2.wr (.inl (.inl rfl)) hW3;have hb3:=aO hW3 hb2 (by have:=hDlt;omega);have c3:=hD3.actc;have c4:=hD3.allA hd;have hra:=hD3.ra d hd;repeat refine rN ?_
  refine jC aB (by first|kernel_rfl|rfl) ?_
  simp only[List.size_toArray,List.length_cons,List.length_nil,Nat.reduceAdd,Nat.zero_add];refine cU 0 ?_;refine cU 1 ?_;refine cU 2 ?_;co_applyP cT (i:=3) rfl (fun _ hu_=>run_eq_of ?u10_3) ?v10_3
  case u10_3=>intro K_ hK_;(have hc:=(Ext.twin hu_).cell c3);go_simp;(try rw[wI _]);(try rw[wU _]);exact hK_
  simp only[sS,sN];refine cU 4 ?_;refine cU 5 ?_;co_applyP cT (i:=6) rfl (fun _ hu_=>run_eq_of ?u12_6) ?v12_6
  case u12_6=>intro K_ hK_;(have hc:=(Ext.twin hu_).cell c4);go_simp;(try rw[wI _]);(try rw[wU _]);exact hK_
  simp only[sS,sN];refine cU 7 ?_;co_applyP cT (i:=8) rfl (fun u hu_=>mJ (x:=.tmp 7) (b:=v.heap.size) (off:=0) (y:=b) rfl (by simp) (hbx hb3 u hu_)) ?w8;simp only[sS,sN];refine cU 9 ?_;refine cL 10 ?_;refine Bd rfl rfl (by kernel_rfl) (x:=.tmp 39) (y:=.tmp 38) (g:=RA d) (off:=p*96) (b:=b) rfl (by simp) (by simp) hra (by omega) fun w4 hW4=>?_
  simp only[stO_none];repeat refine rN ?_
  refine iT ?_;refine ret _ _ S w4 (.tuple #[]) ?_ ⟨rfl,rfl,hK3.wr (.inl (.inr ⟨d,hd,.inr rfl⟩)) hW4,?_⟩;rotate_left
  .have h4:=hD3.wrA hd hW4;have e:s.wr d p b=⟨aT s.c d p b,aT s.a d p b,left - 1⟩:=by
    unfold Dsk.wr;rw[<-HLs.out,if_pos h0]
   rw[e];exact h4
  simp[results,Tryz.results61]
 .have h0I:¬(0:Int)<(left:Int):=by omega
  repeat refine rM c2 ?_
  refine rZ (by simp[Act.eval,h0I,h0]) ?_;repeat refine rN ?_
  refine iT ?_;refine ret _ _ S w2 (.tuple #[]) ?_ ⟨rfl,rfl,hK2,?_⟩;rotate_left
  .have e:s.wr d p b=⟨aT s.c d p b,s.a,s.left⟩:=by
    unfold Dsk.wr;have:s.left=0:=by have:=HLs.out;omega
    rw[this,if_neg (by omega)]
   rw[e];exact hD2
  simp[results,Tryz.results61]
theorem Rp(t:TypeId)(e:Value)(d p:Nat)(hg0:v.cell? ⟨0,0,none⟩=some (.iface t e))(hd:d<nd)(hp:p<nb)(hnd:nd<=18)(hnb:nb<=64)(hD:DiskG D DB DA RB RA nd nb s v)(hbad:¬gD (s.c d p)) :
  aK Tryz.prog 78 #[.pointer (some ⟨D,0,none⟩),.int .i64 (d:Nat),.int .i64 (p:Nat)] S v fun x S' v'=>x=.tuple #[.agg iW,.bool false]∧S'=S∧Ext v v':=by
 intro Stop cc cs ret;rw[enter_at _ Tryz.func78 (c:=Tryz.f78.body.getD .skip) rfl,Tryz.ntmps78,rF (by simp)];have g0:dD #[.pointer (some ⟨D,0,none⟩),.int .i64 (d:Nat),.int .i64 (p:Nat)] 0=.pointer (some ⟨D,0,none⟩):=rfl;have g1:dD #[.pointer (some ⟨D,0,none⟩),.int .i64 (d:Nat),.int .i64 (p:Nat)] 1=.int .i64 (d:Nat):=rfl;have g2:dD #[.pointer (some ⟨D,0,none⟩),.int .i64 (d:Nat),.int .i64 (p:Nat)] 2=.int .i64 (p:Nat):=rfl;generalize dD #[.pointer (some ⟨D,0,none⟩),.int .i64 (d:Nat),.int .i64 (p:Nat)]=f at g0 g1 g2;simp only[Tryz.f78,Option.getD_some];have hdI:(d:Int)<(nd:Int):=by omega
 have hpI:(p:Int)<(nb:Int):=by omega
 repeat refine rN ?_
 refine cQ aB rfl rfl (by kernel_rfl) (.agg iW) rfl (by kernel_rfl) fun w1 hE1 hb1 hs1=>?_
 simp only[stO_some];repeat refine rN ?_
 refine Cf rfl rfl (by simp[base]) rfl ?_;have hD1:=(hD.ext hE1).old;have c0:=hD1.bel;have c1:=hD1.all hd;have hz:∀ u,Vw.Twin w1 u->∀ j,j<96->u.cell? ⟨RB d,p*96+j,none⟩=some (.int .u8 (s.c d p j:Nat)):=fun u hu j hj=>(Ext.twin hu).cell (hD1.blk hd hp hj)
 simp only[Act.put];repeat (first|refine sA ?_|(refine sR ?_;simp only[tO,Nat.reduceAdd])|refine sE ?_|(refine sO aB rfl ?_;intro _ hu_ K_ hK_;(have hc:=(Ext.twin hu_).cell c0;have hc':=(Ext.twin hu_).cell c1);go_simp;(try rw[wI _]);(try rw[wU _]);refine hK_ _ ?_;clear hK_ K_ hu_;simp only[sS,sN]))
 refine fG (by simp[base]) rfl rfl (aA.execOp aB.cc aB.closed (fun g=>rfl) (by kernel_rfl)) fun u hu=>⟨_,u,.inl (mJ (x:=.tmp 16) (b:=RB d) (off:=p*96) rfl (by simp) (hz u hu)),Reach.twin ⟨hu.heap.symm,hu.os.symm,hu.output.symm⟩ ?_⟩
 simp only[bX,stO_some];refine Mo rfl (by rfl) rfl Tryz.func92 (by kernel_rfl) rfl (vs:=#[.agg (aC 96 (s.c d p))]) (by simp[Act.eval]) (Sg t e (hE1.cell hg0) (s.c d p) (hD.byte d p) hbad) fun x S' w2 todo hv h=>?_
 obtain⟨rfl,eS,hE2⟩:=h;subst S';refine Be (by simp) rfl Tryz.func91 (by kernel_rfl) rfl ?_;simp only[Tryz.ntmps91,Tryz.f91];refine cV rfl (fun _=>stepG_region) ?_;refine Kg (rest:=[]) rfl rfl rfl (fun w=>rfl) rfl ?_;refine cV rfl (fun _=>stepG_region_end) ?_;refine cV rfl (fun _=>stepG_end) ?_;refine Ms (y:=.tuple #[]) rfl rfl Tryz.func91 (fun w=>?_) rfl ?_
 .exact Cc Tryz.results91 _ _ _
 have hb2:w2.heap[v.heap.size]?=some (.cells iW 143):=hE2.row hb1;refine xK (fn:=78) (x:=.tuple #[.agg iW,.bool false]) Tryz.func78 ?_ (ret _ S w2 hv ⟨rfl,rfl,hE1.trans _ _ _ hE2⟩);have hl:=run_loadVar_row (P:=Tryz.prog) w2 v.heap.size 143 143 iW (0,0) _ hb2 Tryz.underlying143 rfl (by kernel_rfl);show(results Tryz.f78 (TA 19 _)).run Tryz.prog w2=_;simp[results,Tryz.results78,asAddr,hl]
end
