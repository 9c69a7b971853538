import Derived.Test.YtpiefebngnlfoaaGreatDoorMb
set_option maxRecDepth 99999
set_option maxHeartbeats 0
set_option linter.unusedVariables false
set_option linter.unusedSimpArgs false
namespace Go.Vw
open Go.Conc
section
variable {P:Program}{Stop:Goroutine->(Nat->Prop)->World->Prop}{S:Nat->Prop}{v:World}{fn:FuncId}{cs:List Frame}{k:List Item}{n:Nat}{f:Nat->Value}{ops:Array Oper}{i:Nat}{rest:List Nat}{o:Oper}{ds:List Deferred}
theorem Lz{g:FuncId}{gf:Func}{c:Code}{args:Array Operand}{gq:Array TypeId}{vs:Array Value}{Post:Value->(Nat->Prop)->World->Prop}(ho:ops[i]?=some o)(hw:Region.wanted o (yielded ops (TA n f))=true)(dm:o.op=.call {callee:=.value (.func g),args,argTypes:=gq})
  (hf:P.funcs[g]?=some gf) (fv:(gf.name == "runtime.NumGoroutine")=false) (hb:gf.body=some c) (qe:args.map (⟨TA n f,ds⟩:Act).eval=vs) (hc:aJ P g vs S v Post)
  (hn:∀x S' v',View P S' v'->Post x S' v'->Reach P Stop (G ((base fn).at ⟨TA n (aG f o.dst x),ds⟩ (.inRegion ops rest::k)) cs) S' v') :
  Reach P Stop (G ((base fn).at ⟨TA n f,ds⟩ (.inRegion ops (i::rest)::k)) cs) S v:=
 cP rfl (λw=>pC ho hw (by simp[base]) dm hf fv hb qe) (hc Stop _ cs λx S' v' hv q=>by
  rw[Frame.finish_at,ho];show Reach P Stop (G ((base fn).at (Act.put ⟨TA n f,ds⟩ o.dst x) (.inRegion ops rest::k)) cs) S' v';rw[cC]
  exact hn x S' v' hv q)
theorem sRet{tmps:Array Value}(h:∀todo,Reach P Stop (G {(base fn).at ⟨tmps,ds⟩ todo with mode:=.returning} cs) S v):Reach P Stop (G ((base fn).at ⟨tmps,ds⟩ (.code .ret::k)) cs) S v:=cP rfl (λ_=>stepG_ret') (h _)
end
theorem Kp.wr{v0 w w':World}{X:Nat->Prop}{g:Nat}{o:Obj}(h:Kp v0 X w)(hg:X g∨v0.heap.size<=g)(hW:Wr w g o w'):Kp v0 X w':=by
 refine⟨by rw[hW.size];exact h.size,hW.os.trans h.os,hW.output.trans h.output,λb ob hb hc ht=>?_⟩;have:b≠g:=by
  rintro rfl;rcases hg with hg|hg
  .exact hb hg
  .have:=(Array.getElem?_eq_some_iff.1 hc).1;omega
 exact(hW.other b this).trans (h.objs b ob hb hc ht)
end Go.Vw
namespace Go.Proofs.YtpiefebngnlfoaaGreatDoor
open Go.RowKit Go.Conc Go.Vw
def dJ(x:Nat->Nat->Nat)(i:Nat):Nat:=x (i/96) (i%96)
def dF(c:Nat->Nat->Nat->Nat)(d p:Nat)(b:Nat->Nat):Nat->Nat->Nat->Nat:=λd' p' i=>if d'=d∧p'=p then b i else c d' p' i
structure Disk(D DB DA:Nat)(RB RA:Nat->Nat)(nd nb:Nat)(c:Nat->Nat->Nat->Nat)(w:World):Prop where
 row:∃left:Nat,left<=1099511627776∧w.heap[D]?=some (.cells #[.slice (some ⟨DB,0,none⟩) nd nd,.slice (some ⟨DA,0,none⟩) nd nd,.int .i64 (left:Nat)] 115)
 db:w.heap[DB]?=some (.cells (gV nd nd nb RB) 116)
 da:w.heap[DA]?=some (.cells (gV nd nd nb RA) 116)
 rb:∀d,d<nd->w.heap[RB d]?=some (.cells (aE (nb*96) (dJ (c d))) 137)
 ra:∀d,d<nd->∃x,w.heap[RA d]?=some (.cells (aE (nb*96) x) 137)
 inj:∀d d',d<nd->d'<nd->RB d=RB d'->d=d'
 apart:∀d d',d<nd->d'<nd->RB d≠RA d'
def eH(D:Nat)(RB RA:Nat->Nat)(nd:Nat)(b:Nat):Prop:=b=D∨∃d,d<nd∧(b=RB d∨b=RA d)
section
variable {D DB DA:Nat}{RB RA:Nat->Nat}{nd nb:Nat}{c:Nat->Nat->Nat->Nat}{w w' v:World}{S:Nat->Prop}
theorem Disk.kp(h:Disk D DB DA RB RA nd nb c w){X:Nat->Prop}(hK:Kp w X w')(h1:¬X D)(h2:¬X DB)(h3:¬X DA)(h4:∀d,d<nd->¬X (RB d)∧¬X (RA d)):Disk D DB DA RB RA nd nb c w':=
 ⟨let ⟨l,q1,q2⟩:=h.row;⟨l,q1,hK.cells _ _ _ _ h1 q2⟩,hK.cells _ _ _ _ h2 h.db,hK.cells _ _ _ _ h3 h.da,λd hd=>hK.cells _ _ _ _ (h4 d hd).1 (h.rb d hd),λd hd=>let ⟨x,q⟩:=h.ra d hd;⟨x,hK.cells _ _ _ _ (h4 d hd).2 q⟩,h.inj,h.apart⟩
theorem Disk.kp0(h:Disk D DB DA RB RA nd nb c w)(hK:Kp w (λ_=>False) w'):Disk D DB DA RB RA nd nb c w':=h.kp hK (λx=>x) (λx=>x) (λx=>x) λ_ _=>⟨λx=>x,λx=>x⟩
theorem Disk.ext(h:Disk D DB DA RB RA nd nb c w)(hE:Ext w w'):Disk D DB DA RB RA nd nb c w':=h.kp0 (aS hE)
theorem Disk.bel(h:Disk D DB DA RB RA nd nb c w):w.cell? ⟨D,0,none⟩=some (.slice (some ⟨DB,0,none⟩) nd nd):=by obtain⟨l,_,q⟩:=h.row;exact(ab _ _ _ _ _ _ q).trans rfl
theorem Disk.actc(h:Disk D DB DA RB RA nd nb c w):w.cell? ⟨D,1,none⟩=some (.slice (some ⟨DA,0,none⟩) nd nd):=by obtain⟨l,_,q⟩:=h.row;exact(ab _ _ _ _ _ _ q).trans rfl
theorem Disk.all(h:Disk D DB DA RB RA nd nb c w){d:Nat}(hd:d<nd):w.cell? ⟨DB,d,none⟩=some (.slice (some ⟨RB d,0,none⟩) nb nb):=by rw[ab _ _ _ _ _ _ h.db,oE hd,ai hd]
theorem Disk.allA(h:Disk D DB DA RB RA nd nb c w){d:Nat}(hd:d<nd):w.cell? ⟨DA,d,none⟩=some (.slice (some ⟨RA d,0,none⟩) nb nb):=by rw[ab _ _ _ _ _ _ h.da,oE hd,ai hd]
theorem Disk.blk(h:Disk D DB DA RB RA nd nb c w){d p j:Nat}(hd:d<nd)(hp:p<nb)(hj:j<96):w.cell? ⟨RB d,p*96+j,none⟩=some (.int .u8 (c d p j:Nat)):=by rw[ab _ _ _ _ _ _ (h.rb d hd),eE _ _ _ (by omega)];unfold dJ;rw[show(p*96+j)/96=p by omega,show(p*96+j)%96=j by omega]
theorem lX{o:Oper}{a:Act}{x:Operand}{b off:Nat}{y:Nat->Nat}{u:World}(dm:o.op=.load 137 x)(hx:a.eval x=.pointer (some ⟨b,off,none⟩))(hz:∀j,j<96->u.cell? ⟨b,off+j,none⟩=some (.int .u8 (y j:Nat))):(execOp a.eval o).run Tryz.prog u=.ok (.value (.agg (aE 96 y))) u:=by
 have h:=run_loadAt_mid (P:=Tryz.prog) u b off 137 (aE 96 y).toList _ (λj z hy=>by
  have hj:j<96:=by have:=(List.getElem?_eq_some_iff.1 hy).1;simpa [eB] using this
  rw[bd,eE _ _ _ hj]at hy;cases hy
  exact hz j hj) Tryz.underlying137 rfl (by rw[show(aE 96 y).toList.length=96 by simp[eB]];kernel_rfl)
 unfold execOp;simp only[dm,hx,df,h,dc,dg]
theorem tD(gh:0<nd)(hD:Disk D DB DA RB RA nd nb c v):aJ Tryz.prog 25 #[.pointer (some ⟨D,0,none⟩)] S v λx S' v'=>x=.int .i64 (nb:Nat)∧S'=S∧v'=v:=by
 refine dX Tryz.func25 rfl Tryz.ntmps25 λStop cc cs ret f g0=>?_;have c0:=hD.bel;have c1:=hD.all gh;repeat (first|refine rQ rfl ?_|(refine rO aB rfl ?_;intro _ dt K_ dr;(have hc:=(Ext.twin dt).cell c0;have ek:=(Ext.twin dt).cell c1);go_simp;(try rw[wI _]);(try rw[wU _]);refine dr _ ?_;clear dr K_ dt;simp only[sS,sN])|refine rW ?_)
 refine aM λtodo=>?_;refine ret _ _ _ _ (.int .i64 (nb:Nat)) ?_ ⟨rfl,rfl,rfl⟩;simp[results,Tryz.results25]
theorem Gs(id size turn k m d p:Nat)(y:Nat->Nat)(hid:id<=9999)(GR:1<=id)(fo:size<=400)(hk:k<14)(ht:turn<18446744073709551616)(hm:m=(size+9)/10)(hy:∀i,y i<256)(hd:d<nd)(hp:p<nb)(gh:nd<=18)(eu:nb<=64)(hD:Disk D DB DA RB RA nd nb c v)(hc:∀j,j<96->c d p j=bB id size turn k m y j):aJ Tryz.prog 71 #[.pointer (some ⟨D,0,none⟩),.int .i64 (d:Nat),.int .i64 (p:Nat)] S v λx S' v'=>S'=S∧Ext v v'∧∃B c,x=.tuple #[.agg (bK id size turn k (some ⟨B,0,none⟩) m c),.bool true]∧m<=c∧v.heap.size<=B∧dD v' B 0 m y∧∃C,v'.heap[B]?=some (.cells C 5):=by
 intro Stop cc cs ret;rw[enter_at _ Tryz.func71 (c:=Tryz.f71.body.getD .skip) rfl,Tryz.ntmps71,qA (by simp)];have g0:eG #[.pointer (some ⟨D,0,none⟩),.int .i64 (d:Nat),.int .i64 (p:Nat)] 0=.pointer (some ⟨D,0,none⟩):=rfl;have g1:eG #[.pointer (some ⟨D,0,none⟩),.int .i64 (d:Nat),.int .i64 (p:Nat)] 1=.int .i64 (d:Nat):=rfl;have g2:eG #[.pointer (some ⟨D,0,none⟩),.int .i64 (d:Nat),.int .i64 (p:Nat)] 2=.int .i64 (p:Nat):=rfl;generalize eG #[.pointer (some ⟨D,0,none⟩),.int .i64 (d:Nat),.int .i64 (p:Nat)]=f at g0 g1 g2;simp only[Tryz.f71,ao];have ZZ:(d:Int)<(nd:Int):=by omega
 have LM:(p:Int)<(nb:Int):=by omega
 have HM:=aP hm;clear hm;repeat refine rN ?_
 refine cD aB rfl rfl (by kernel_rfl) (.agg iH) rfl (by kernel_rfl) λw1 eh fg jg=>?_;simp only[stO_some];repeat refine rN ?_
 refine Bg rfl rfl (by simp[base]) rfl ?_;have xg:=hD.ext eh;have c0:=xg.bel;have c1:=xg.all hd;have hz:∀u,Vw.Twin w1 u->∀j,j<96->u.cell? ⟨RB d,p*96+j,none⟩=some (.int .u8 (bB id size turn k m y j:Nat)):=λu hu j hj=>(Ext.twin hu).cell (by rw[xg.blk hd hp hj,hc j hj]);simp only[Act.put];repeat (first|refine sA ?_|(refine sR ?_;simp only[tO,Nat.reduceAdd])|refine sE ?_|(refine sO aB rfl ?_;intro _ dt K_ dr;(have hc:=(Ext.twin dt).cell c0;have ek:=(Ext.twin dt).cell c1);go_simp;(try rw[wI _]);(try rw[wU _]);refine dr _ ?_;clear dr K_ dt;simp only[sS,sN]))
 refine fC (by simp[base]) rfl rfl (aA.execOp aB.cc aB.closed (λg=>rfl) (by kernel_rfl)) λu hu=>⟨_,u,.inl (lX (x:=.tmp 16) (b:=RB d) (off:=p*96) rfl (by simp) (hz u hu)),Reach.twin ⟨hu.heap.symm,hu.os.symm,hu.output.symm⟩ ?_⟩;simp only[cC,stO_some];refine Lz rfl (by rfl) rfl Tryz.func84 (by kernel_rfl) rfl (vs:=#[.agg (aE 96 (bB id size turn k m y))]) (by simp[Act.eval]) (Xl id size turn k m y hid GR fo hk ht HM.out hy) λx S' w2 hv h=>?_;obtain⟨eS,ep,B,cB,rfl,hcB,hVB,UG,C,hC⟩:=h;subst S';try simp only[stO_some]
 have ko:=ep.row fg;have dq:∀(u:World)(a:Act)(o:Oper),Vw.Twin w2 u->o.op=.store 143 (.tmp 6) (.tmp 18)->a.eval (.tmp 6)=.pointer (some ⟨v.heap.size,0,none⟩)->a.eval (.tmp 18)=.agg (bK id size turn k (some ⟨B,0,none⟩) m cB)->(execOp a.eval o).run Tryz.prog u=.ok .skip (u.setRow v.heap.size (bK id size turn k (some ⟨B,0,none⟩) m cB)):=λu a o hu dm h1 h2=>by have ei:=run_storeVar_row (P:=Tryz.prog) u v.heap.size 143 143 iH (bK id size turn k (some ⟨B,0,none⟩) m cB) ((Ext.twin hu).row ko) (by kernel_rfl) rfl (by simp[bK,Value.oneCell']);unfold execOp;simp[dm,h1,h2,Instr.storeAt,Instr.sureAddr,ei]
 refine fC (by simp[base]) rfl rfl (aA.execOp aB.cc aB.closed (λg=>rfl) (by kernel_rfl)) λu hu=>⟨undef,_,.inr ⟨dq u _ _ hu rfl (by simp) (by simp),rfl⟩,Reach.twin (lZ hu v.heap.size (bK id size turn k (some ⟨B,0,none⟩) m cB)).symm ?_⟩;have fz:=jP (c:=bK id size turn k (some ⟨B,0,none⟩) m cB) ko;generalize w2.setRow v.heap.size (bK id size turn k (some ⟨B,0,none⟩) m cB)=w3 at fz;try simp only[cC,stO_none]
 have ef:Ext v w3:=bO (eh.trans _ _ _ ep) (ae _) fz;have dy:B≠v.heap.size:=by omega
 repeat (first|refine sA ?_|(refine sR ?_;simp only[tO,Nat.reduceAdd])|refine sE ?_|(refine sO aB rfl ?_;intro _ dt K_ dr;go_simp;(try rw[wI _]);(try rw[wU _]);refine dr _ ?_;clear dr K_ dt;simp only[sS,sN]))
 refine sRet λtodo=>?_;refine Ai (by simp) rfl Tryz.func83 (by kernel_rfl) rfl ?_;simp only[Tryz.ntmps83,Tryz.f83];refine cP rfl (λ_=>stepG_region) ?_;refine Jf (rest:=[]) rfl rfl rfl (λw=>rfl) rfl ?_;refine cP rfl (λ_=>stepG_region_end) ?_;refine cP rfl (λ_=>stepG_end) ?_;refine Md (y:=.tuple #[]) rfl rfl Tryz.func83 (λw=>?_) rfl ?_
 .exact Bb Tryz.results83 _ _ _
 refine mD λFY=>?_;refine wK (fn:=71) (x:=.tuple #[.agg (bK id size turn k (some ⟨B,0,none⟩) m cB),.bool true]) Tryz.func71 ?_ (ret _ S w3 FY ⟨rfl,ef,B,cB,rfl,hcB,by omega,λj hj=>?_,C,aO fz hC dy⟩)
 .have hl:=run_loadVar_row (P:=Tryz.prog) w3 v.heap.size 143 143 (bK id size turn k (some ⟨B,0,none⟩) m cB) (0,0) _ fz.at_ Tryz.underlying143 rfl (by kernel_rfl);show(results Tryz.f71 (TA 19 _)).run Tryz.prog w3=_;simp[results,Tryz.results71,asAddr,hl]
 .have:=UG j hj;rw[<-this];exact World.cell?_of_block (fz.other B dy)
theorem yA(d p:Nat)(b:Nat->Nat)(hd:d<nd)(hp:p<nb)(gh:nd<=18)(eu:nb<=64)(hD:Disk D DB DA RB RA nd nb c v):aJ Tryz.prog 72 #[.pointer (some ⟨D,0,none⟩),.int .i64 (d:Nat),.int .i64 (p:Nat),.agg (aE 96 b)] S v λx S' v'=>x=.bool (dI (c d p) b 0 96)∧S'=S∧Ext v v':=by
 refine pU Tryz.func72 rfl Tryz.ntmps72 λStop cc cs ret f g0 g1 g2 g3=>?_;have ZZ:(d:Int)<(nd:Int):=by omega
 have LM:(p:Int)<(nb:Int):=by omega
 repeat refine rN ?_
 refine aN (Q:=λy w=>y=.pointer (some ⟨v.heap.size,0,none⟩)∧Ext v w∧w.heap[v.heap.size]?=some (.cells (aE 96 b) 137)) aB rfl rfl (by kernel_rfl) (λu hu=>⟨_,_,.inl (gR (x:=.tmp 3) (y:=.agg (aE 96 b)) rfl (by simp[g3]) u),by rw[hu.heap],(Ext.twin hu).trans _ _ _ (Ext.alloc _ _),by rw[<-hu.heap];exact bI _ _⟩) ?_;rintro _ w1 ⟨rfl,eh,fg⟩;simp only[stO_some];have xg:=hD.ext eh;have c0:=xg.bel;have c1:=xg.all hd;have hz:∀u,Vw.Twin w1 u->∀j,j<96->u.cell? ⟨RB d,p*96+j,none⟩=some (.int .u8 (c d p j:Nat)):=λu hu j hj=>(Ext.twin hu).cell (xg.blk hd hp hj);have W5:∀u,Vw.Twin w1 u->∀j,j<96->u.cell? ⟨v.heap.size,0+j,none⟩=some (.int .u8 (b j:Nat)):=λu hu j hj=>(Ext.twin hu).cell (by rw[ab _ _ _ _ _ _ fg,an];exact eE _ _ _ hj)
 repeat refine rN ?_
 refine oA aB (by first|kernel_rfl|rfl) ?_
 simp only[bh,av,cf,Nat.reduceAdd,an];refine rU 0 ?_;refine rU 1 ?_;refine rU 2 ?_;co_applyP rT (i:=3) rfl (λ_ dt=>run_eq_of ?u2) ?v2
 case u2=>intro K_ dr;(have hc:=(Ext.twin dt).cell c0);go_simp;(try rw[wI _]);(try rw[wU _]);exact dr
 simp only[sS,sN];refine rU 4 ?_;refine rU 5 ?_;co_applyP rT (i:=6) rfl (λ_ dt=>run_eq_of ?u4) ?v4
 case u4=>intro K_ dr;(have hc:=(Ext.twin dt).cell c1);go_simp;(try rw[wI _]);(try rw[wU _]);exact dr
 simp only[sS,sN];refine rU 7 ?_;refine rU 8 ?_;co_applyP rT (i:=9) rfl (λu dt=>lX (x:=.tmp 17) (b:=RB d) (off:=p*96) (y:=c d p) rfl (by simp) (hz u dt)) ?v9;simp only[sS,sN];co_applyP rT (i:=10) rfl (λu dt=>lX (x:=.tmp 7) (b:=v.heap.size) (off:=0) (y:=b) rfl (by simp) (W5 u dt)) ?v10;simp only[sS,sN];co_applyP rT (i:=11) rfl (λu dt=>Nm (xo:=.tmp 18) (yo:=.tmp 19) (x:=c d p) (y:=b) rfl (by simp) (by simp)) ?v11;simp only[sS,sN];refine rU 12 ?_;refine oH (by first|kernel_rfl|decide +kernel) ?_ _
 repeat refine rN ?_
 refine aM λtodo=>?_;refine ret _ _ S w1 (.bool (dI (c d p) b 0 96)) ?_ ⟨rfl,rfl,eh⟩;simp[results,Tryz.results72]
def nI(x:Nat->Nat)(off:Nat)(b:Nat->Nat)(i:Nat):Nat:=if off<=i∧i<off+96 then b (i-off) else x i
theorem Ah{Stop:Goroutine->(Nat->Prop)->World->Prop}{fn:FuncId}{cs:List Frame}{k:List Item}{n:Nat}{f:Nat->Value}{ops:Array Oper}{i:Nat}{rest:List Nat}{dst:Option Tmp}{op:Op}{ty:TypeId}{pos:String}{dw:Array Edge}{dv:Option (Nat×Bool)}
  (ho:ops[i]?=some ⟨dst,op,ty,pos,dw,dv⟩) (hw:Region.wanted ⟨dst,op,ty,pos,dw,dv⟩ (yielded ops (TA n f))=true) (dx:bW Tryz.prog FG ⟨dst,op,ty,pos,dw,dv⟩=true) {x y:Operand} {g off N:Nat} {old b:Nat->Nat}
  (dm:op=.store 137 x y) (hx:(⟨TA n f,[]⟩:Act).eval x=.pointer (some ⟨g,off,none⟩)) (hy:(⟨TA n f,[]⟩:Act).eval y=.agg (aE 96 b)) (du:v.heap[g]?=some (.cells (aE N old) 137)) (DU:off+96<=N)
  (hn:∀v',Wr v g (.cells (aE N (nI old off b)) 137) v'->Vw.Reach Tryz.prog Stop (G ((base fn).at ⟨TA n (aG f dst undef),[]⟩ (.inRegion ops rest::k)) cs) S v') :
  Vw.Reach Tryz.prog Stop (G ((base fn).at ⟨TA n f,[]⟩ (.inRegion ops (i::rest)::k)) cs) S v:=by
 have OD:((aE N old).toList.take off++(aE 96 b).toList++(aE N old).toList.drop (off+96)).toArray=aE N (nI old off b):=by
  have h1:=nS N off 96 b old DU;have h2:(aE 96 b).toList=(List.range 96).map (λj=>Value.int .u8 ((b j:Nat):Int)):=by simp[aE,Array.toList_range]
  rw[h2,h1];rfl
 refine kE aB ho hw dx (x:=undef) (λu hu=>⟨_,lZ hu g (aE N (nI old off b)),.inr ⟨?_,rfl⟩⟩) (hn _ (jP du));obtain⟨inf,q1,q2,q3,q4⟩:=Ha;have ei:=run_storeCells_at (P:=Tryz.prog) g off 137 (aE 96 b).toList 0 (aE N old) u ((Ext.twin hu).row du) (by rw[Array.length_toList,eB,eB];omega) Cz;rw[Array.length_toList,eB,Nat.add_zero,OD]at ei;generalize (Act.eval ⟨TA n f,[]⟩)=ρ at hx hy⊢;unfold execOp;simp[dm,hx,hy,Instr.storeAt,Instr.sureAddr,storeVar,sizeOf,typeInfo,q1,q3,Value.cells,eB,ei]
theorem Du(c:Nat->Nat->Nat->Nat)(d p:Nat)(b:Nat->Nat):nI (dJ (c d)) (p*96) b=dJ (dF c d p b d):=by
 funext i;unfold nI dJ dF;by_cases h:p*96<=i∧i<p*96+96
 .rw[ai h,ai ⟨rfl,by omega⟩,show i-p*96=i%96 by omega]
 .rw[ah h,ah (by omega)]
theorem Cr(c:Nat->Nat->Nat->Nat)(d p:Nat)(b:Nat->Nat){d':Nat}(h:d'≠d):dJ (dF c d p b d')=dJ (c d'):=by funext i;unfold dJ dF;rw[ah (λe=>h e.1)]
theorem bP{w:World}{a b:Nat}{c c':Array Value}{t t':TypeId}{fr fr':Nat×Nat}(h:w.heap[a]?=some (.cells c t fr))(h':w.heap[b]?=some (.cells c' t' fr'))(dy:t≠t'):a≠b:=λe=>by rw[e,h']at h;exact dy (Obj.cells.inj (bm h)).2.1.symm
end
structure Dsk where
 c:Nat->Nat->Nat->Nat
 a:Nat->Nat->Nat->Nat
 left:Nat
def Dsk.wr(s:Dsk)(d p:Nat)(b:Nat->Nat):Dsk:=⟨dF s.c d p b,if 0<s.left then dF s.a d p b else s.a,s.left-1⟩
structure DiskG(D DB DA:Nat)(RB RA:Nat->Nat)(nd nb:Nat)(s:Dsk)(w:World):Prop where
 row:w.heap[D]?=some (.cells #[.slice (some ⟨DB,0,none⟩) nd nd,.slice (some ⟨DA,0,none⟩) nd nd,.int .i64 (s.left:Nat)] 115)
 small:s.left<=1099511627776
 db:w.heap[DB]?=some (.cells (gV nd nd nb RB) 116)
 da:w.heap[DA]?=some (.cells (gV nd nd nb RA) 116)
 rb:∀d,d<nd->w.heap[RB d]?=some (.cells (aE (nb*96) (dJ (s.c d))) 137)
 ra:∀d,d<nd->w.heap[RA d]?=some (.cells (aE (nb*96) (dJ (s.a d))) 137)
 inj:∀d d',d<nd->d'<nd->RB d=RB d'->d=d'
 injA:∀d d',d<nd->d'<nd->RA d=RA d'->d=d'
 apart:∀d d',d<nd->d'<nd->RB d≠RA d'
 byte:∀d p i,s.c d p i<256
section
variable {D DB DA:Nat}{RB RA:Nat->Nat}{nd nb:Nat}{s:Dsk}{w w' v:World}{S:Nat->Prop}
theorem DiskG.old(h:DiskG D DB DA RB RA nd nb s w):Disk D DB DA RB RA nd nb s.c w:=⟨⟨s.left,h.small,h.row⟩,h.db,h.da,h.rb,λd hd=>⟨_,h.ra d hd⟩,h.inj,h.apart⟩
theorem DiskG.kp(h:DiskG D DB DA RB RA nd nb s w){X:Nat->Prop}(hK:Kp w X w')(h1:¬X D)(h2:¬X DB)(h3:¬X DA)(h4:∀d,d<nd->¬X (RB d)∧¬X (RA d)):DiskG D DB DA RB RA nd nb s w':=
 ⟨hK.cells _ _ _ _ h1 h.row,h.small,hK.cells _ _ _ _ h2 h.db,hK.cells _ _ _ _ h3 h.da,λd hd=>hK.cells _ _ _ _ (h4 d hd).1 (h.rb d hd),λd hd=>hK.cells _ _ _ _ (h4 d hd).2 (h.ra d hd),h.inj,h.injA,h.apart,h.byte⟩
theorem DiskG.kp0(h:DiskG D DB DA RB RA nd nb s w)(hK:Kp w (λ_=>False) w'):DiskG D DB DA RB RA nd nb s w':=h.kp hK (λx=>x) (λx=>x) (λx=>x) λ_ _=>⟨λx=>x,λx=>x⟩
theorem DiskG.ext(h:DiskG D DB DA RB RA nd nb s w)(hE:Ext w w'):DiskG D DB DA RB RA nd nb s w':=h.kp0 (aS hE)
theorem DiskG.bel(h:DiskG D DB DA RB RA nd nb s w):w.cell? ⟨D,0,none⟩=some (.slice (some ⟨DB,0,none⟩) nd nd):=h.old.bel
theorem DiskG.actc(h:DiskG D DB DA RB RA nd nb s w):w.cell? ⟨D,1,none⟩=some (.slice (some ⟨DA,0,none⟩) nd nd):=h.old.actc
theorem DiskG.all(h:DiskG D DB DA RB RA nd nb s w){d:Nat}(hd:d<nd):w.cell? ⟨DB,d,none⟩=some (.slice (some ⟨RB d,0,none⟩) nb nb):=h.old.all hd
theorem DiskG.allA(h:DiskG D DB DA RB RA nd nb s w){d:Nat}(hd:d<nd):w.cell? ⟨DA,d,none⟩=some (.slice (some ⟨RA d,0,none⟩) nb nb):=h.old.allA hd
theorem Wu{c:Nat->Nat->Nat->Nat}(h:∀d p i,c d p i<256){d p:Nat}{b:Nat->Nat}(hb:∀i,b i<256):∀d' p' i,dF c d p b d' p' i<256:=λd' p' i=>by
 unfold dF;split
 .exact hb i
 .exact h d' p' i
theorem DiskG.wrB(h:DiskG D DB DA RB RA nd nb s w){d p:Nat}{b:Nat->Nat}(hd:d<nd)(hb:∀i,b i<256)(hW:Wr w (RB d) (.cells (aE (nb*96) (nI (dJ (s.c d)) (p*96) b)) 137) w'):DiskG D DB DA RB RA nd nb ⟨dF s.c d p b,s.a,s.left⟩ w':=by
 have hr:=h.rb d hd;refine⟨aO hW h.row (bP h.row hr (by decide)),h.small,aO hW h.db (bP h.db hr (by decide)),aO hW h.da (bP h.da hr (by decide)),λd' ji=>?_,λd' ji=>aO hW (h.ra d' ji) (λe=>h.apart d d' hd ji e.symm),h.inj,h.injA,h.apart,Wu h.byte hb⟩;show w'.heap[RB d']?=some (.cells (aE (nb*96) (dJ (dF s.c d p b d'))) 137);by_cases e:d'=d
 .subst e;rw[<-Du];exact hW.at_
 .rw[Cr s.c d p b e];exact aO hW (h.rb d' ji) λe'=>e (h.inj d' d ji hd e')
theorem DiskG.wrA(h:DiskG D DB DA RB RA nd nb s w){d p:Nat}{b:Nat->Nat}(hd:d<nd)(hW:Wr w (RA d) (.cells (aE (nb*96) (nI (dJ (s.a d)) (p*96) b)) 137) w'):DiskG D DB DA RB RA nd nb ⟨s.c,dF s.a d p b,s.left⟩ w':=by
 have hr:=h.ra d hd;refine⟨aO hW h.row (bP h.row hr (by decide)),h.small,aO hW h.db (bP h.db hr (by decide)),aO hW h.da (bP h.da hr (by decide)),λd' ji=>aO hW (h.rb d' ji) (h.apart d' d ji hd),λd' ji=>?_,h.inj,h.injA,h.apart,h.byte⟩;show w'.heap[RA d']?=some (.cells (aE (nb*96) (dJ (dF s.a d p b d'))) 137);by_cases e:d'=d
 .subst e;rw[<-Du];exact hW.at_
 .rw[Cr s.a d p b e];exact aO hW (h.ra d' ji) λe'=>e (h.injA d' d ji hd e')
theorem DiskG.wrL(h:DiskG D DB DA RB RA nd nb s w){left:Nat}(hl:left<=1099511627776)(hW:Wr w D (.cells #[.slice (some ⟨DB,0,none⟩) nd nd,.slice (some ⟨DA,0,none⟩) nd nd,.int .i64 (left:Nat)] 115) w'):DiskG D DB DA RB RA nd nb ⟨s.c,s.a,left⟩ w':=
 ⟨hW.at_,hl,aO hW h.db (bP h.db h.row (by decide)),aO hW h.da (bP h.da h.row (by decide)),λd hd=>aO hW (h.rb d hd) (bP (h.rb d hd) h.row (by decide)),λd hd=>aO hW (h.ra d hd) (bP (h.ra d hd) h.row (by decide)),h.inj,h.injA,h.apart,h.byte⟩
theorem xQ(d p:Nat)(b:Nat->Nat)(hd:d<nd)(hp:p<nb)(gh:nd<=18)(eu:nb<=64)(hb:∀i,b i<256)(hD:DiskG D DB DA RB RA nd nb s v):aJ Tryz.prog 74 #[.pointer (some ⟨D,0,none⟩),.int .i64 (d:Nat),.int .i64 (p:Nat),.agg (aE 96 b)] S v λx S' v'=>x=.tuple #[]∧S'=S∧Kp v (eH D RB RA nd) v'∧DiskG D DB DA RB RA nd nb (s.wr d p b) v':=by
 refine pU Tryz.func74 rfl Tryz.ntmps74 λStop cc cs ret f g0 g1 g2 g3=>?_;have ZZ:(d:Int)<(nd:Int):=by omega
 have LM:(p:Int)<(nb:Int):=by omega
 repeat refine rN ?_
 refine aN (Q:=λy w=>y=.pointer (some ⟨v.heap.size,0,none⟩)∧Ext v w∧w.heap[v.heap.size]?=some (.cells (aE 96 b) 137)) aB rfl rfl (by kernel_rfl) (λu hu=>⟨_,_,.inl (gR (x:=.tmp 3) (y:=.agg (aE 96 b)) rfl (by simp[g3]) u),by rw[hu.heap],(Ext.twin hu).trans _ _ _ (Ext.alloc _ _),by rw[<-hu.heap];exact bI _ _⟩) ?_;rintro _ w1 ⟨rfl,eh,fg⟩;simp only[stO_some];have xg:=hD.ext eh;have c0:=xg.bel;have c1:=xg.all hd;have vb:∀{w:World},w.heap[v.heap.size]?=some (.cells (aE 96 b) 137)->∀u,Vw.Twin w u->∀j,j<96->u.cell? ⟨v.heap.size,0+j,none⟩=some (.int .u8 (b j:Nat)):=λhw u hu j hj=>(Ext.twin hu).cell (by rw[ab _ _ _ _ _ _ hw,an];exact eE _ _ _ hj);have dp:∀d,d<nd->RB d<v.heap.size∧RA d<v.heap.size:=λd hd=>⟨(Array.getElem?_eq_some_iff.1 (hD.rb d hd)).1,(Array.getElem?_eq_some_iff.1 (hD.ra d hd)).1⟩;have o_:D<v.heap.size:=(Array.getElem?_eq_some_iff.1 hD.row).1;repeat refine rN ?_
 refine iZ aB (by first|kernel_rfl|rfl) ?_
 simp only[bh,av,cf,Nat.reduceAdd,an];refine cU 0 ?_;refine cU 1 ?_;refine cU 2 ?_;co_applyP cT (i:=3) rfl (λ_ dt=>run_eq_of ?u3_3) ?v3_3
 case u3_3=>intro K_ dr;(have hc:=(Ext.twin dt).cell c0);go_simp;(try rw[wI _]);(try rw[wU _]);exact dr
 simp only[sS,sN];refine cU 4 ?_;refine cU 5 ?_;co_applyP cT (i:=6) rfl (λ_ dt=>run_eq_of ?u5_6) ?v5_6
 case u5_6=>intro K_ dr;(have hc:=(Ext.twin dt).cell c1);go_simp;(try rw[wI _]);(try rw[wU _]);exact dr
 simp only[sS,sN];refine cU 7 ?_;co_applyP cT (i:=8) rfl (λu dt=>lX (x:=.tmp 7) (b:=v.heap.size) (off:=0) (y:=b) rfl (by simp) (vb fg u dt)) ?v8;simp only[sS,sN];refine cU 9 ?_;refine cL 10 ?_;refine Ah rfl rfl (by kernel_rfl) (x:=.tmp 17) (y:=.tmp 16) (g:=RB d) (off:=p*96) (b:=b) rfl (by simp) (by simp) (xg.rb d hd) (by omega) λw2 vd=>?_;simp only[stO_none];have xf:=xg.wrB hd hb vd;have iu:Kp v (eH D RB RA nd) w2:=((Kp.refl v _).ext eh).wr (.inl (.inr ⟨d,hd,.inl rfl⟩)) vd;have ko:=aO vd fg (by have:=(dp d hd).1;omega);have hl:=xf.small;have du:=xf.row;obtain⟨left,DL⟩:∃left,left=s.left:=⟨_,rfl⟩;have N1:=aP DL;rw[show(Dsk.mk (dF s.c d p b) s.a s.left).left=left from DL.symm]at hl du;clear DL;have c2:w2.cell? ⟨D,2,none⟩=some (.int .i64 (left:Nat)):=(ab _ _ _ _ _ _ du).trans rfl;by_cases h0:0<left
 .have WC:(0:Int)<(left:Int):=by omega
  have OL:IntKind.i64.wrap ((left:Int)-1)=((left-1:Nat):Int):=by rw[IntKind.wrap_i64];omega
  have HL:=aP OL;clear OL;repeat refine rM c2 ?_
  refine rX (by simp[Act.eval,WC,h0]) ?_;repeat refine rM c2 ?_
  refine dQ aB rfl rfl (by kernel_rfl) (x:=.tmp 29) (y:=.tmp 27) (g:=D) (j:=2) (z:=.int .i64 ((left-1:Nat):Int)) rfl (by simp) (by simp;omega) rfl rfl du (by simp) (by kernel_rfl) λw3 fz=>?_;simp only[stO_none];have VZ:=xf.wrL (left:=left-1) (by omega) fz;have KH:Kp v (eH D RB RA nd) w3:=iu.wr (.inl (.inl rfl)) fz;have km:=aO fz ko (by have:=o_;omega);have c3:=VZ.actc;have c4:=VZ.allA hd;have YB:=VZ.ra d hd;repeat refine rN ?_
  refine iZ aB (by first|kernel_rfl|rfl) ?_
  simp only[bh,av,cf,Nat.reduceAdd,an];refine cU 0 ?_;refine cU 1 ?_;refine cU 2 ?_;co_applyP cT (i:=3) rfl (λ_ dt=>run_eq_of ?u10_3) ?v10_3
  case u10_3=>intro K_ dr;(have hc:=(Ext.twin dt).cell c3);go_simp;(try rw[wI _]);(try rw[wU _]);exact dr
  simp only[sS,sN];refine cU 4 ?_;refine cU 5 ?_;co_applyP cT (i:=6) rfl (λ_ dt=>run_eq_of ?u12_6) ?v12_6
  case u12_6=>intro K_ dr;(have hc:=(Ext.twin dt).cell c4);go_simp;(try rw[wI _]);(try rw[wU _]);exact dr
  simp only[sS,sN];refine cU 7 ?_;co_applyP cT (i:=8) rfl (λu dt=>lX (x:=.tmp 7) (b:=v.heap.size) (off:=0) (y:=b) rfl (by simp) (vb km u dt)) ?w8;simp only[sS,sN];refine cU 9 ?_;refine cL 10 ?_;refine Ah rfl rfl (by kernel_rfl) (x:=.tmp 39) (y:=.tmp 38) (g:=RA d) (off:=p*96) (b:=b) rfl (by simp) (by simp) YB (by omega) λw4 jd=>?_;simp only[stO_none];repeat refine rN ?_
  refine gQ ?_;refine ret _ _ S w4 (.tuple #[]) ?_ ⟨rfl,rfl,KH.wr (.inl (.inr ⟨d,hd,.inr rfl⟩)) jd,?_⟩;rotate_left
  .have h4:=VZ.wrA hd jd;have e:s.wr d p b=⟨dF s.c d p b,dF s.a d p b,left-1⟩:=by
    unfold Dsk.wr;rw[<-N1.out,ai h0]
   rw[e];exact h4
  simp[results,Tryz.results74]
 .have WC:¬(0:Int)<(left:Int):=by omega
  repeat refine rM c2 ?_
  refine rZ (by simp[Act.eval,WC,h0]) ?_;repeat refine rN ?_
  refine gQ ?_;refine ret _ _ S w2 (.tuple #[]) ?_ ⟨rfl,rfl,iu,?_⟩;rotate_left
  .have e:s.wr d p b=⟨dF s.c d p b,s.a,s.left⟩:=by
    unfold Dsk.wr;have:s.left=0:=by have:=N1.out;omega
    rw[this,ah (by omega)]
   rw[e];exact xf
  simp[results,Tryz.results74]
theorem Qr(t:TypeId)(e:Value)(d p:Nat)(rv:v.cell? ⟨0,0,none⟩=some (.iface t e))(hd:d<nd)(hp:p<nb)(gh:nd<=18)(eu:nb<=64)(hD:DiskG D DB DA RB RA nd nb s v)(lq:¬gX (s.c d p)):aJ Tryz.prog 71 #[.pointer (some ⟨D,0,none⟩),.int .i64 (d:Nat),.int .i64 (p:Nat)] S v λx S' v'=>x=.tuple #[.agg iH,.bool false]∧S'=S∧Ext v v':=by
 intro Stop cc cs ret;rw[enter_at _ Tryz.func71 (c:=Tryz.f71.body.getD .skip) rfl,Tryz.ntmps71,qA (by simp)];have g0:eG #[.pointer (some ⟨D,0,none⟩),.int .i64 (d:Nat),.int .i64 (p:Nat)] 0=.pointer (some ⟨D,0,none⟩):=rfl;have g1:eG #[.pointer (some ⟨D,0,none⟩),.int .i64 (d:Nat),.int .i64 (p:Nat)] 1=.int .i64 (d:Nat):=rfl;have g2:eG #[.pointer (some ⟨D,0,none⟩),.int .i64 (d:Nat),.int .i64 (p:Nat)] 2=.int .i64 (p:Nat):=rfl;generalize eG #[.pointer (some ⟨D,0,none⟩),.int .i64 (d:Nat),.int .i64 (p:Nat)]=f at g0 g1 g2;simp only[Tryz.f71,ao];have ZZ:(d:Int)<(nd:Int):=by omega
 have LM:(p:Int)<(nb:Int):=by omega
 repeat refine rN ?_
 refine cD aB rfl rfl (by kernel_rfl) (.agg iH) rfl (by kernel_rfl) λw1 eh fg jg=>?_;simp only[stO_some];repeat refine rN ?_
 refine Bg rfl rfl (by simp[base]) rfl ?_;have xg:=(hD.ext eh).old;have c0:=xg.bel;have c1:=xg.all hd;have hz:∀u,Vw.Twin w1 u->∀j,j<96->u.cell? ⟨RB d,p*96+j,none⟩=some (.int .u8 (s.c d p j:Nat)):=λu hu j hj=>(Ext.twin hu).cell (xg.blk hd hp hj);simp only[Act.put];repeat (first|refine sA ?_|(refine sR ?_;simp only[tO,Nat.reduceAdd])|refine sE ?_|(refine sO aB rfl ?_;intro _ dt K_ dr;(have hc:=(Ext.twin dt).cell c0;have ek:=(Ext.twin dt).cell c1);go_simp;(try rw[wI _]);(try rw[wU _]);refine dr _ ?_;clear dr K_ dt;simp only[sS,sN]))
 refine fC (by simp[base]) rfl rfl (aA.execOp aB.cc aB.closed (λg=>rfl) (by kernel_rfl)) λu hu=>⟨_,u,.inl (lX (x:=.tmp 16) (b:=RB d) (off:=p*96) rfl (by simp) (hz u hu)),Reach.twin ⟨hu.heap.symm,hu.os.symm,hu.output.symm⟩ ?_⟩;simp only[cC,stO_some];refine Ma rfl (by rfl) rfl Tryz.func84 (by kernel_rfl) rfl (vs:=#[.agg (aE 96 (s.c d p))]) (by simp[Act.eval]) (Rh t e (eh.cell rv) (s.c d p) (hD.byte d p) lq) λx S' w2 todo hv h=>?_;obtain⟨rfl,eS,ep⟩:=h;subst S';refine Ai (by simp) rfl Tryz.func83 (by kernel_rfl) rfl ?_;simp only[Tryz.ntmps83,Tryz.f83];refine cP rfl (λ_=>stepG_region) ?_;refine Jt (rest:=[]) rfl rfl rfl (λw=>rfl) rfl ?_;refine cP rfl (λ_=>stepG_region_end) ?_;refine cP rfl (λ_=>stepG_end) ?_;refine Me (y:=.tuple #[]) rfl rfl Tryz.func83 (λw=>?_) rfl ?_
 .exact Bb Tryz.results83 _ _ _
 have ko:w2.heap[v.heap.size]?=some (.cells iH 143):=ep.row fg;refine wK (fn:=71) (x:=.tuple #[.agg iH,.bool false]) Tryz.func71 ?_ (ret _ S w2 hv ⟨rfl,rfl,eh.trans _ _ _ ep⟩);have hl:=run_loadVar_row (P:=Tryz.prog) w2 v.heap.size 143 143 iH (0,0) _ ko Tryz.underlying143 rfl (by kernel_rfl);show(results Tryz.f71 (TA 19 _)).run Tryz.prog w2=_;simp[results,Tryz.results71,asAddr,hl]
end
