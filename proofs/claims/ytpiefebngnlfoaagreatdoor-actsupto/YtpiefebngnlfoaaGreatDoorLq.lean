import Derived.Test.YtpiefebngnlfoaaGreatDoorLm
import Derived.Test.YtpiefebngnlfoaaGreatDoorLp
import Derived.Test.YtpiefebngnlfoaaGreatDoorLn
import Derived.Test.YtpiefebngnlfoaaGreatDoorLo
set_option maxRecDepth 99999
set_option maxHeartbeats 0
set_option linter.unusedVariables false
set_option linter.unusedSimpArgs false
namespace Go.Vw
open Go.Conc
def hd:Code->Code
 |.seq a _=>a
 |c=>c
def tl:Code->Code
 |.seq _ b=>b
 |c=>c
def cW:Code->Code
 |.block _ c=>c
 |.loop c=>c
 |c=>c
def qI:Code->Array Oper
 |.region _ ops _=>ops
 |_=>#[]
section
variable {P:Program}{main:Bool}{Rd:Nat->Prop}{fn:FuncId}{ops:Array Oper}{Q:Exit->Act->World->Prop}
theorem Bl{i:Nat}{rest:List Nat}{o:Oper}{n:Nat}{a:Act}{w:World}{t:TypeId}(z:Value)
  (ho:ops[i]?=some o) (hw:Region.wanted o (yielded ops a.tmps)=true) (dm:o.op=.alloc t) (fq:∀b,Rd b->b<w.heap.size) (hz:(P.info? t).map (·.zero)=some (some z))
  (ee:∀N w',w.heap.size<=N->w'.heap[N]?=some (.cells z.cells t)->Ext w w'->OpsC P main Ext (DW Rd) fn ops rest n Q (a.put o.dst (.pointer (some ⟨N,0,none⟩))) w'):OpsC P main Ext (DW Rd) fn ops (i::rest) (n+1) Q a w:=by
 refine opsC_cons_k ho hw λw₁ hR K hK=>?_
 obtain⟨inf,hq,AQ⟩:=Option.map_eq_some_iff.1 hz;have hzero:(zeroValue t).run P w₁ = .ok z w₁:=by simp[zeroValue,typeInfo,hq,AQ]
 have xk:(zeroValue t).events P w₁ #[]=#[]:=by simp[zeroValue,typeInfo,hq,AQ]
 have dq:(execOp a.eval o).run P w₁ = .ok (.value (.pointer (some ⟨w₁.heap.size,0,none⟩))) (w₁.alloc (.cells z.cells t)):=by unfold execOp;simp only[dm,df,Instr.alloc,hzero,newVar,newRow,run_newObj,dg,dc];rfl
 rw[dq];refine hK _ _ ⟨⟨⟨rfl,rfl⟩,λb hb=>(Ext.alloc w₁ _).block b (bg (fq b hb) hR.size),λev fu=>?_⟩,ee _ _ hR.size ?_ (hR.trans _ _ _ (Ext.alloc _ _))⟩
 .have hm:=mem_listed fu;unfold execOp at hm;simp only[dm,Instr.alloc,hzero,xk,newVar,newRow,Sem.events_bind,run_newObj,df,dg,dc,Result.evThen_ok,Sem.events_pure]at hm;simp[go_sem]at hm
 .show(w₁.heap.push _)[w₁.heap.size]?=_;simp
theorem Jh{i:Nat}{rest:List Nat}{o:Oper}{n m:Nat}{a:Act}{w:World}{t e:TypeId}{l c:Operand}
  (ho:ops[i]?=some o) (hw:Region.wanted o (yielded ops a.tmps)=true) (dm:o.op=.makeSlice t l c) (hl:a.eval l=.int .i64 (m:Nat)) (hc:a.eval c=.int .i64 (m:Nat)) (hm:m<=400) (ht:tB P t=true) (he:P.underlying t=some (.slice e)) (fq:∀b,Rd b->b<w.heap.size)
  (ee:∀N w',w.heap.size<=N->w'.heap[N]?=some (.cells ((Array.range m).map λ_=>Value.int .u8 0) e)->Ext w w'->OpsC P main Ext (DW Rd) fn ops rest n Q (a.put o.dst (.slice (some ⟨N,0,none⟩) m m)) w'):OpsC P main Ext (DW Rd) fn ops (i::rest) (n+1) Q a w:=by
 obtain⟨e',inf,hu,hq,h1,h2,h3⟩:=Aj ht;rw[he]at hu;cases hu
 refine opsC_cons_k ho hw λw₁ hR K hK=>?_
 have wl:IntKind.i64.wrap (m:Int)=(m:Int):=by rw[IntKind.wrap_i64];omega
 have w0:IntKind.i64.wrap 0=0:=by decide
 have n1:¬((m:Int)<0):=by omega
 have n2:¬((281474976710656:Int)<(m:Int)):=by omega
 have n3:¬(m > roomBytes):=by simp only[roomBytes];omega
 have dq:(Instr.makeSlice t (.int .i64 (m:Nat)) (.int .i64 (m:Nat))).run P w₁ = .ok (.slice (some ⟨w₁.heap.size,0,none⟩) m m) (w₁.alloc (.cells ((Array.range m).map λ_=>Value.int .u8 0) e)):=by
  by_cases xv:m=0
  .subst xv;simp[Instr.makeSlice,cw he,asInt,asIntOf,typeInfo,hq,h1,h2,sizeOf,askRoom,newRow,w0];rw[show Array.range 0=#[] by simp[Array.range]];simp
  .simp[Instr.makeSlice,cw he,asInt,asIntOf,typeInfo,hq,h1,h2,h3,sizeOf,askRoom,newRow,zeroValue,wl,n1,n2,n3,xv,Value.cells,Nat.mod_one]
 have ZV:(Instr.makeSlice t (.int .i64 (m:Nat)) (.int .i64 (m:Nat))).events P w₁ #[]=#[]:=by
  by_cases xv:m=0
  .subst xv;simp[Instr.makeSlice,cw he,asInt,asIntOf,typeInfo,hq,h1,h2,sizeOf,askRoom,newRow,w0]
  .simp[Instr.makeSlice,cw he,asInt,asIntOf,typeInfo,hq,h1,h2,h3,sizeOf,askRoom,newRow,zeroValue,wl,n1,n2,n3,xv,Value.cells,Nat.mod_one]
 have hx:(execOp a.eval o).run P w₁ = .ok (.value (.slice (some ⟨w₁.heap.size,0,none⟩) m m)) (w₁.alloc (.cells ((Array.range m).map λ_=>Value.int .u8 0) e)):=by unfold execOp;simp only[dm,hl,hc,df,dq,dc,dg]
 rw[hx];refine hK _ _ ⟨⟨⟨rfl,rfl⟩,λb hb=>(Ext.alloc w₁ _).block b (bg (fq b hb) hR.size),λev fu=>?_⟩,ee _ _ hR.size ?_ (hR.trans _ _ _ (Ext.alloc _ _))⟩
 .have jh:=mem_listed fu;unfold execOp at jh;simp only[dm,hl,hc,Sem.events_bind,dq,Result.evThen_ok,ZV,Sem.events_pure]at jh;simp at jh
 .show(w₁.heap.push _)[w₁.heap.size]?=_;simp
theorem Ji{P:Program}{t e:TypeId}(hu:P.underlying t=some (.slice e))(d:Nat)(p:Option Addr)(a b:Nat)(w:World)(es:Array Event):(Op.equalIn (d+1) t (.slice p a b) (.slice none 0 0)).events P w es=es:=by rw[Op.equalIn];cases p<;>simp[Sem.events_bind,cw hu]
theorem Kh{P:Program}{t e:TypeId}(hu:P.underlying t=some (.slice e))(d:Nat)(p:Option Addr)(a b:Nat)(w:World):(Op.equalIn (d+1) t (.slice p a b) (.slice none 0 0)).run P w=.ok p.isNone w:=by rw[Op.equalIn];cases p<;>simp[cw hu]
theorem Al{P:Program}{t e:TypeId}(hu:P.underlying t=some (.slice e))(p:Option Addr)(a b:Nat)(w:World)(es:Array Event):(binOp .neq t (.slice p a b) (.slice none 0 0)).events P w es=es:=by show Sem.events P (do pure (Value.bool (!(<-Op.equalIn (9999+1) t (.slice p a b) (.slice none 0 0))))) w es=es;simp only[Sem.events_bind,Kh hu,Ji hu,Result.evThen_ok,Sem.events_pure]
end
end Go.Vw
namespace Go.Proofs.YtpiefebngnlfoaaGreatDoor
open Go.RowKit Go.Conc Go.Vw
def r0(c:Code):Code:=hd c
def r1(c:Code):Code:=hd (tl c)
def l1(c:Code):Code:=hd (tl (tl c))
def r7(c:Code):Code:=hd (tl (tl (tl c)))
def l2(c:Code):Code:=hd (tl (tl (tl (tl c))))
def lU(c:Code):Code:=tl (tl (tl (tl (tl c))))
def r8(c:Code):Code:=hd (l2 c)
def lb(c:Code):Code:=cW (cW (tl (l2 c)))
def r9(c:Code):Code:=hd (lb c)
def bb(c:Code):Code:=cW (hd (tl (tl (lb c))))
def qW(c:Code):Code:=tl (tl (tl (lb c)))
def r10(c:Code):Code:=hd (bb c)
def r11(c:Code):Code:=hd (hd (tl (bb c)))
def r12(c:Code):Code:=hd (tl (tl (bb c)))
def r13(c:Code):Code:=hd (tl (tl (tl (bb c))))
def r14(c:Code):Code:=hd (tl (tl (tl (tl (bb c)))))
def r15(c:Code):Code:=tl (tl (tl (tl (tl (bb c)))))
def qP(c:Code):Array Oper:=qI (r14 c)
def gF(c:Code):Array Oper:=qI (r15 c)
def qO(c:Code):Array Oper:=qI (lU c)
def kP(c:Code):Array Oper:=qI (r7 c)
theorem Yd:Tryz.f77.body=some (Tryz.f77.body.getD .skip):=rfl
theorem N_:(Tryz.f77.body.getD .skip)=.seq (r0 (Tryz.f77.body.getD .skip)) (.seq (r1 (Tryz.f77.body.getD .skip)) (.seq (l1 (Tryz.f77.body.getD .skip)) (.seq (r7 (Tryz.f77.body.getD .skip)) (.seq (.seq (r8 (Tryz.f77.body.getD .skip)) (.block 2 (.loop (lb (Tryz.f77.body.getD .skip))))) (lU (Tryz.f77.body.getD .skip)))))):=rfl
theorem Zf:(r14 (Tryz.f77.body.getD .skip))=.region 14 (qP (Tryz.f77.body.getD .skip)) false:=rfl
theorem Ze:(r15 (Tryz.f77.body.getD .skip))=.region 15 (gF (Tryz.f77.body.getD .skip)) false:=rfl
theorem Zd:(lU (Tryz.f77.body.getD .skip))=.region 17 (qO (Tryz.f77.body.getD .skip)) false:=rfl
theorem O_:(r7 (Tryz.f77.body.getD .skip))=.region 7 (kP (Tryz.f77.body.getD .skip)) false:=rfl
theorem O4:okCode Tryz.prog FG (r8 (Tryz.f77.body.getD .skip))=true:=by kernel_rfl
theorem In:okCode Tryz.prog FG (r9 (Tryz.f77.body.getD .skip))=true:=by kernel_rfl
theorem Zn:okCode Tryz.prog FG (r10 (Tryz.f77.body.getD .skip))=true:=by kernel_rfl
theorem Zm:okCode Tryz.prog FG (r11 (Tryz.f77.body.getD .skip))=true:=by kernel_rfl
theorem Zl:okCode Tryz.prog FG (r12 (Tryz.f77.body.getD .skip))=true:=by kernel_rfl
theorem Zk:okCode Tryz.prog FG (r13 (Tryz.f77.body.getD .skip))=true:=by kernel_rfl
theorem Zj:okCode Tryz.prog FG (qW (Tryz.f77.body.getD .skip))=true:=by kernel_rfl
def TT(a0 a1 a2 a4 a6 a9 iq gu a25 a26 a33:Value)(u:Nat->Value):Array Value:=#[a0,a1,a2,u 3,a4,u 5,a6,u 7,u 8,a9,iq,gu,u 12,u 13,u 14,u 15,u 16,u 17,u 18,u 19,u 20,u 21,u 22,u 23,u 24,a25,a26,u 27,u 28,u 29,u 30,u 31,u 32,a33,u 34,u 35,u 36,u 37,u 38,u 39,u 40,u 41,u 42,u 43]
def allA(A:Nat->Value):Array Value:=(Array.range 14).map A
theorem oI(A:Nat->Value):(allA A).size=14:=by simp[allA]
theorem jC(A:Nat->Value)(i:Nat)(h:i<14):(allA A)[i]?=some (A i):=by simp[allA,h]
theorem tI(A:Nat->Value)(i:Nat)(y:Value):(allA A).setIfInBounds i y=allA λc=>if c=i then y else A c:=by
 apply au;intro c;rw[aj];by_cases e:i=c
 .subst e;by_cases hi:i<14<;>simp[allA,hi]
 .rw[ah e];by_cases hi:c<14<;>simp[allA,hi,show ¬c=i from λx=>e x.symm]
abbrev ptr (b:Nat):Value:=.pointer (some ⟨b,0,none⟩)
abbrev sl (b n:Nat):Value:=.slice (some ⟨b,0,none⟩) n n
structure FsT(v0:World)(known:Nat->Nat)(RB:Nat->Nat)(n:Nat)(x:Nat->Nat->Nat)(A:Nat->Value)(BA BK BR:Nat)(ta:TypeId)(w:World):Prop where
 ba:w.heap[BA]?=some (.cells (allA A) ta)
 bk:w.heap[BK]?=some (.cells (ten known) 149)
 br:w.heap[BR]?=some (.cells (fU RB n) 160)
 rows:∀j,j<10->w.heap[RB j]?=some (.cells (aE n (x j)) 5)
 kp:Kp v0 (λb=>b=BA) w
section
variable {v0:World}{known RB:Nat->Nat}{n:Nat}{x:Nat->Nat->Nat}{A:Nat->Value}{BA BK BR:Nat}{ta:TypeId}{w w₁ : World}
theorem FsT.rely(h:FsT v0 known RB n x A BA BK BR ta w)(r:Ext w w₁):FsT v0 known RB n x A BA BK BR ta w₁:=
 ⟨r.row h.ba,r.row h.bk,r.row h.br,λj hj=>r.row (h.rows j hj),h.kp.ext r⟩
end
def R0(RB:Nat->Nat)(BK BR:Nat)(b:Nat):Prop:=b<Tryz.prog.globals.size∨b=BK∨b=BR∨∃j,j<10∧b=RB j
theorem FsT.low{v0:World}{known RB:Nat->Nat}{n:Nat}{x:Nat->Nat->Nat}{A:Nat->Value}{BA BK BR:Nat}{ta:TypeId}{w:World}(h:FsT v0 known RB n x A BA BK BR ta w)(hg:Tryz.prog.globals.size<=w.heap.size):∀b,R0 RB BK BR b->b<w.heap.size:=by
 rintro b (hb|rfl|rfl|⟨j,hj,rfl⟩)
 .omega
 .exact(Array.getElem?_eq_some_iff.1 h.bk).1
 .exact(Array.getElem?_eq_some_iff.1 h.br).1
 .exact(Array.getElem?_eq_some_iff.1 (h.rows j hj)).1
section
variable {v0:World}{known RB:Nat->Nat}{n:Nat}{x:Nat->Nat->Nat}{A:Nat->Value}{BA BK BR:Nat}{ta:TypeId}{w:World}{ds:List Deferred}
structure FZ(sz:Nat)(v0:World)(known:Nat->Nat)(RB:Nat->Nat)(n:Nat)(x:Nat->Nat->Nat)(A:Nat->Value)(BA BK BR:Nat)(ta:TypeId)(w:World):Prop where
 fs:FsT v0 known RB n x A BA BK BR ta w
 sz:sz<=w.heap.size
theorem FZ.rely{sz:Nat}{w₁ : World}(h:FZ sz v0 known RB n x A BA BK BR ta w)(r:Ext w w₁):FZ sz v0 known RB n x A BA BK BR ta w₁:=⟨h.fs.rely r,ak h.sz r.size⟩
theorem FZ.low{sz:Nat}(h:FZ sz v0 known RB n x A BA BK BR ta w)(hl:∀b,R0 RB BK BR b->b<sz):∀b,R0 RB BK BR b->b<w.heap.size:=λb hb=>bg (hl b hb) h.sz
theorem FsT.turn(h:FsT v0 known RB n x A BA BK BR ta w){g:Nat}(hA:g≠BA)(hR:¬R0 RB BK BR g)(h0:v0.heap.size<=g)(c:Array Value):FsT v0 known RB n x A BA BK BR ta (w.setRow g c):=
 ⟨(setRow_other _ _ _ _ (Ne.symm hA)).trans h.ba,(setRow_other _ _ _ _ λe=>hR (.inr (.inl e.symm))).trans h.bk,(setRow_other _ _ _ _ λe=>hR (.inr (.inr (.inl e.symm)))).trans h.br,λj hj=>(setRow_other _ _ _ _ λe=>hR (.inr (.inr (.inr ⟨j,hj,e.symm⟩)))).trans (h.rows j hj),h.kp.setRow (.inr h0) c⟩
theorem r8_c(a1 a2 a4 a6 a9 iq gu a25 a26 a33:Value)(u:Nat->Value)(hF:FsT v0 known RB n x A BA BK BR ta w):∃N,(r8 (Tryz.f77.body.getD .skip)).wpC Tryz.prog true Ext (DW (R0 RB BK BR)) 77 N (λe a w'=>e=.normal∧a.defers=ds∧∃u',a.tmps=TT (sl BA 14) a1 a2 a4 a6 a9 iq gu (.int .i64 14) (.int .i64 (0:Nat)) a33 u'∧FsT v0 known RB n x A BA BK BR ta w')
   ⟨TT (sl BA 14) a1 a2 a4 a6 a9 iq gu a25 a26 a33 u,ds⟩ w:=by
 have T:=fM (R0 RB BK BR);co_apply Exists.intro;simp only[r8,hd,tl,cW,lb,l2,Tryz.f77,ao,TT,sl];co_go T FsT.rely hF (co_quiet T);exact⟨by first|trivial|rfl,by first|trivial|rfl,λi=>if i=24 then sl BA 14 else u i,by simp,hF⟩
theorem Iw(a0 a1 a2 a4 a6 a9 iq gu a33:Value)(u:Nat->Value)(k:Nat)(hk:k<=14)(hF:FsT v0 known RB n x A BA BK BR ta w):∃N,(r9 (Tryz.f77.body.getD .skip)).wpC Tryz.prog true Ext (DW (R0 RB BK BR)) 77 N (λe a w'=>e=.normal∧a.defers=ds∧∃u',a.tmps=TT a0 a1 a2 a4 a6 a9 iq gu (.int .i64 14) (.int .i64 (k:Nat)) a33 u'∧u' 27=.bool (decide ((k:Int)<14))∧FsT v0 known RB n x A BA BK BR ta w')
   ⟨TT a0 a1 a2 a4 a6 a9 iq gu (.int .i64 14) (.int .i64 (k:Nat)) a33 u,ds⟩ w:=by
 have T:=fM (R0 RB BK BR);co_apply Exists.intro;simp only[r9,hd,tl,cW,lb,l2,Tryz.f77,ao,TT];co_go T FsT.rely hF (co_quiet T);exact⟨by first|trivial|rfl,by first|trivial|rfl,λi=>if i=27 then .bool (decide ((k:Int)<14)) else u i,by simp,by simp,hF⟩
theorem O9(a0 a1 a2 a4 a6 a9 iq gu a25 a33:Value)(u:Nat->Value)(k:Nat)(hk:k<=14)(hF:FsT v0 known RB n x A BA BK BR ta w):∃N,(qW (Tryz.f77.body.getD .skip)).wpC Tryz.prog true Ext (DW (R0 RB BK BR)) 77 N (λe a w'=>e=.normal∧a.defers=ds∧∃u',a.tmps=TT a0 a1 a2 a4 a6 a9 iq gu a25 (.int .i64 ((k+1:Nat):Int)) a33 u'∧FsT v0 known RB n x A BA BK BR ta w')
   ⟨TT a0 a1 a2 a4 a6 a9 iq gu a25 (.int .i64 (k:Nat)) a33 u,ds⟩ w:=by
 have T:=fM (R0 RB BK BR);co_apply Exists.intro;simp only[qW,hd,tl,cW,lb,l2,Tryz.f77,ao,TT];co_go T FsT.rely hF (co_quiet T);have e:IntKind.i64.wrap ((k:Int)+1)=((k+1:Nat):Int):=by rw[IntKind.wrap_i64];omega
 try rw[e]
 exact⟨by first|trivial|rfl,by first|trivial|rfl,λi=>if i=42 then .int .i64 ((k+1:Nat):Int) else u i,by simp,hF⟩
theorem O5(a0 a1 a2 a4 a6 a9 iq gu a25 a33:Value)(u:Nat->Value)(k:Nat)(hg:Tryz.prog.globals.size<=w.heap.size)(hF:FsT v0 known RB n x A BA BK BR ta w):∃N,(r10 (Tryz.f77.body.getD .skip)).wpC Tryz.prog true Ext (DW (R0 RB BK BR)) 77 N (λe a w'=>e=.normal∧a.defers=ds∧∃u' BC,a.tmps=TT a0 a1 a2 a4 a6 a9 (ptr BC) gu a25 (.int .i64 (k:Nat)) a33 u'∧w.heap.size<=BC∧w'.heap[BC]?=some (.cells #[.int .i64 (k:Nat)] 3)∧FsT v0 known RB n x A BA BK BR ta w')
   ⟨TT a0 a1 a2 a4 a6 a9 iq gu a25 (.int .i64 (k:Nat)) a33 u,ds⟩ w:=by
 have T:=fM (R0 RB BK BR);have fq:=hF.low hg;co_apply Exists.intro;simp only[r10,bb,hd,tl,cW,lb,l2,Tryz.f77,ao,TT];have hH:FZ w.heap.size v0 known RB n x A BA BK BR ta w:=⟨hF,ae _⟩;co_go T FZ.rely hH (co_quiet T);co_apply Bl (.int .i64 0) rfl (by rfl) rfl (hH.low fq) (by kernel_rfl);intro BC w1 OX hr hE;try walk_nrm
 replace OX:w.heap.size<=BC:=ak hH.sz OX;have nR:¬R0 RB BK BR BC:=λhb=>by have:=fq BC hb;omega
 have nA:BC≠BA:=by have:=(Array.getElem?_eq_some_iff.1 hF.ba).1;omega
 have n0:v0.heap.size<=BC:=ak hF.kp.size OX;replace hH:=hH.rely hE;co_apply rH (z:=.int .i64 (k:Nat)) rfl (by rfl) rfl rfl rfl rfl rfl hr (by decide) (by kernel_rfl) nR;intro w2 ep;try walk_nrm
 have pz:(w2.setRow BC #[.int .i64 (k:Nat)]).heap[BC]?=some (.cells #[.int .i64 (k:Nat)] 3):=setRow_heap _ _ _ _ _ _ (ep.row hr);have VX:=(hH.rely ep).fs.turn nA nR n0 #[.int .i64 (k:Nat)];co_apply opsC_nil T;refine⟨by first|trivial|rfl,by first|trivial|rfl,λi=>if i=28 then .int .i64 (k:Nat) else u i,BC,by simp,OX,?_,?_⟩
 .exact pz
 .exact VX
structure FC(sz:Nat)(k BC:Nat)(v0:World)(known:Nat->Nat)(RB:Nat->Nat)(n:Nat)(x:Nat->Nat->Nat)(A:Nat->Value)(BA BK BR:Nat)(ta:TypeId)(w:World):Prop where
 fs:FsT v0 known RB n x A BA BK BR ta w
 sz:sz<=w.heap.size
 bc:w.heap[BC]?=some (.cells #[.int .i64 (k:Nat)] 3)
theorem FC.rely{sz k BC:Nat}{w₁ : World}(h:FC sz k BC v0 known RB n x A BA BK BR ta w)(r:Ext w w₁):FC sz k BC v0 known RB n x A BA BK BR ta w₁:=⟨h.fs.rely r,ak h.sz r.size,r.row h.bc⟩
theorem O6(a1 a2 a4 a6 a9 gu a25 a26 a33:Value)(u:Nat->Value)(k BC:Nat)(hk:k<14)(t:Bool)(hA:(t=true∧∃b,A k=sl b n)∨(t=false∧A k=.slice none 0 0))(hg:Tryz.prog.globals.size<=w.heap.size)(hF:FC w.heap.size k BC v0 known RB n x A BA BK BR ta w):∃N,(r11 (Tryz.f77.body.getD .skip)).wpC Tryz.prog true Ext (DW (R0 RB BK BR)) 77 N (λe a w'=>e=.normal∧a.defers=ds∧∃u',a.tmps=TT (sl BA 14) a1 a2 a4 a6 a9 (ptr BC) gu a25 a26 (.bool t) u'∧FC w.heap.size k BC v0 known RB n x A BA BK BR ta w')
   ⟨TT (sl BA 14) a1 a2 a4 a6 a9 (ptr BC) gu a25 a26 a33 u,ds⟩ w:=by
 have T:=fM (R0 RB BK BR);have ll:(k:Int)<14:=by omega
 co_apply Exists.intro;simp only[r11,bb,hd,tl,cW,lb,l2,Tryz.f77,ao,TT,sl,ptr];co_go T FC.rely hF (co_quiet T);co_opw FC.rely hF (have hc:=ab _ BC 0 _ _ _ (FC.bc hF);simp at hc) (refine⟨⟨rfl,rfl⟩,λ_ _=>rfl,?_⟩;co_evs (exact⟨_,rfl,rfl,by simp⟩))
 co_opw FC.rely hF (skip) (rw[listed_nil (by(simp[go_sem];exact nN (show kF _ _=true by kernel_rfl) hk))];exact Terms.idle T _);rcases hA with⟨rfl,bx,hA⟩|⟨rfl,hA⟩
 .co_opw FC.rely hF (have hc:=(ab _ BA k _ _ _ (FC.fs hF).ba).trans (jC A k hk);rw[hA]at hc) (refine⟨⟨rfl,rfl⟩,λ_ _=>rfl,?_⟩;co_evs (exact⟨_,rfl,rfl,by simp⟩))
  co_opw FC.rely hF (skip) (rw[listed_nil (by(simp[go_sem];exact Al Tryz.underlying43 _ _ _ _ _))];exact Terms.idle T _);co_go T FC.rely hF (co_quiet T);exact⟨by first|trivial|rfl,by first|trivial|rfl,λi=>if i=29 then sl BA 14 else if i=30 then .int .i64 (k:Nat) else if i=31 then .pointer (some ⟨BA,k,none⟩) else if i=32 then sl bx n else u i,by simp,hF⟩
 .co_opw FC.rely hF (have hc:=(ab _ BA k _ _ _ (FC.fs hF).ba).trans (jC A k hk);rw[hA]at hc) (refine⟨⟨rfl,rfl⟩,λ_ _=>rfl,?_⟩;co_evs (exact⟨_,rfl,rfl,by simp⟩))
  co_opw FC.rely hF (skip) (rw[listed_nil (by(simp[go_sem];exact Al Tryz.underlying43 _ _ _ _ _))];exact Terms.idle T _);co_go T FC.rely hF (co_quiet T);exact⟨by first|trivial|rfl,by first|trivial|rfl,λi=>if i=29 then sl BA 14 else if i=30 then .int .i64 (k:Nat) else if i=31 then .pointer (some ⟨BA,k,none⟩) else if i=32 then .slice none 0 0 else u i,by simp,hF⟩
structure FP(sz:Nat)(k BC PB BP:Nat)(v0:World)(known:Nat->Nat)(RB:Nat->Nat)(n:Nat)(x:Nat->Nat->Nat)(A:Nat->Value)(BA BK BR:Nat)(ta:TypeId)(w:World):Prop where
 fs:FsT v0 known RB n x A BA BK BR ta w
 sz:sz<=w.heap.size
 bc:w.heap[BC]?=some (.cells #[.int .i64 (k:Nat)] 3)
 pb:w.heap[PB]?=some (.cells (aE n λ_=>0) 5)
 bp:w.heap[BP]?=some (.cells #[sl PB n] 43)
theorem FP.rely{sz k BC PB BP:Nat}{w₁ : World}(h:FP sz k BC PB BP v0 known RB n x A BA BK BR ta w)(r:Ext w w₁):FP sz k BC PB BP v0 known RB n x A BA BK BR ta w₁:=⟨h.fs.rely r,ak h.sz r.size,r.row h.bc,r.row h.pb,r.row h.bp⟩
theorem nV(m:Nat):((Array.range m).map λ_=>Value.int .u8 0)=aE m λ_=>0:=by simp[aE]
theorem O7(a0 a1 a4 a6 a9 gu a25 a26 a33:Value)(u:Nat->Value)(k BC:Nat)(hn:n<=400)(hg:Tryz.prog.globals.size<=w.heap.size)(hF:FC w.heap.size k BC v0 known RB n x A BA BK BR ta w):∃N,(r12 (Tryz.f77.body.getD .skip)).wpC Tryz.prog true Ext (DW (R0 RB BK BR)) 77 N (λe a w'=>e=.normal∧a.defers=ds∧∃u' PB BP,a.tmps=TT a0 a1 (.int .i64 (n:Nat)) a4 a6 a9 (ptr BC) (ptr BP) a25 a26 a33 u'∧w.heap.size<=PB∧PB<BP∧FP w.heap.size k BC PB BP v0 known RB n x A BA BK BR ta w')
   ⟨TT a0 a1 (.int .i64 (n:Nat)) a4 a6 a9 (ptr BC) gu a25 a26 a33 u,ds⟩ w:=by
 have T:=fM (R0 RB BK BR);have fq:=hF.fs.low hg;have OX:BC<w.heap.size:=(Array.getElem?_eq_some_iff.1 hF.bc).1;have hH:=hF;co_apply Exists.intro;simp only[r12,bb,hd,tl,cW,lb,l2,Tryz.f77,ao,TT,sl,ptr];co_go T FC.rely hH (co_quiet T);co_apply Jh rfl (by rfl) rfl rfl rfl hn (by kernel_rfl) Tryz.underlying43 (λb hb=>bg (fq b hb) hH.sz);intro PB w1 qm hr hE;try walk_nrm
 rw[nV]at hr;replace qm:w.heap.size<=PB:=ak hH.sz qm;have OV:PB<w1.heap.size:=(Array.getElem?_eq_some_iff.1 hr).1;replace hH:=hH.rely hE;co_apply Bl (.slice none 0 0) rfl (by rfl) rfl (λb hb=>bg (fq b hb) hH.sz) (by kernel_rfl);intro BP w2 p8 pz ep;try walk_nrm
 replace hH:=hH.rely ep;have nR:¬R0 RB BK BR BP:=λhb=>by have:=fq BP hb;omega
 have nA:BP≠BA:=by have:=(Array.getElem?_eq_some_iff.1 hF.fs.ba).1;omega
 have n0:v0.heap.size<=BP:=ak hF.fs.kp.size (by omega);co_apply rH (z:=sl PB n) rfl (by rfl) rfl rfl rfl rfl rfl pz (by decide) (by kernel_rfl) nR;intro w3 ef;try walk_nrm
 have AU:(w3.setRow BP #[sl PB n]).heap[BP]?=some (.cells #[sl PB n] 43):=setRow_heap _ _ _ _ _ _ (ef.row pz);have o5:=(hH.rely ef).fs.turn nA nR n0 #[sl PB n];co_apply opsC_nil T;refine⟨by first|trivial|rfl,by first|trivial|rfl,λi=>if i=34 then .int .i64 (n:Nat) else if i=35 then sl PB n else u i,PB,BP,by simp,qm,by omega,?_⟩
 refine⟨o5,?_,?_,?_,AU⟩
 .have:=(hH.rely ef).sz;simpa [World.setRow] using this
 .exact(setRow_other _ _ _ _ (by omega)).trans (hH.rely ef).bc
 .exact(setRow_other _ _ _ _ (by omega)).trans (ef.row (ep.row hr))
theorem O8(a1 a2 a4 a6 a9 a25 a26 a33:Value)(u:Nat->Value)(k BC PB BP:Nat)(hk:k<14)(AN:¬R0 RB BK BR BA)(nC:BC≠BA)(nP:PB≠BA)(nB:BP≠BA)(hF:FP w.heap.size k BC PB BP v0 known RB n x A BA BK BR ta w):∃N,(r13 (Tryz.f77.body.getD .skip)).wpC Tryz.prog true Ext (DW (R0 RB BK BR)) 77 N (λe a w'=>e=.normal∧a.defers=ds∧∃u',a.tmps=TT (sl BA 14) a1 a2 a4 a6 a9 (ptr BC) (ptr BP) a25 a26 a33 u'∧FP w.heap.size k BC PB BP v0 known RB n x (λc=>if c=k then sl PB n else A c) BA BK BR ta w')
   ⟨TT (sl BA 14) a1 a2 a4 a6 a9 (ptr BC) (ptr BP) a25 a26 a33 u,ds⟩ w:=by
 have T:=fM (R0 RB BK BR);have ll:(k:Int)<14:=by omega
 co_apply Exists.intro;simp only[r13,bb,hd,tl,cW,lb,l2,Tryz.f77,ao,TT,sl,ptr];co_go T FP.rely hF (co_quiet T);co_opw FP.rely hF (have hc:=ab _ BC 0 _ _ _ (FP.bc hF);simp at hc) (refine⟨⟨rfl,rfl⟩,λ_ _=>rfl,?_⟩;co_evs (exact⟨_,rfl,rfl,by simp⟩))
 co_opw FP.rely hF (have hc:=ab _ BP 0 _ _ _ (FP.bp hF);simp at hc) (refine⟨⟨rfl,rfl⟩,λ_ _=>rfl,?_⟩;co_evs (exact⟨_,rfl,rfl,by simp⟩))
 co_opw FP.rely hF (skip) (rw[listed_nil (by(simp[go_sem];exact nN (show kF _ _=true by kernel_rfl) hk))];exact Terms.idle T _);co_apply rH (z:=sl PB n) rfl (by rfl) rfl rfl rfl rfl rfl hF.fs.ba (by rw[oI];exact hk) (by kernel_rfl) AN;intro w3 ef;try walk_nrm
 replace hF:=hF.rely ef;rw[tI];have nK:BK≠BA:=λe=>AN (e▸.inr (.inl rfl))
 have nR:BR≠BA:=λe=>AN (e▸.inr (.inr (.inl rfl)))
 have nj:∀j,j<10->RB j≠BA:=λj hj e=>AN (e▸.inr (.inr (.inr ⟨j,hj,rfl⟩)))
 have o5:FP w.heap.size k BC PB BP v0 known RB n x (λc=>if c=k then sl PB n else A c) BA BK BR ta (w3.setRow BA (allA λc=>if c=k then sl PB n else A c)):=by
  refine⟨⟨setRow_heap _ _ _ _ _ _ hF.fs.ba,(setRow_other _ _ _ _ nK).trans hF.fs.bk,(setRow_other _ _ _ _ nR).trans hF.fs.br,λj hj=>(setRow_other _ _ _ _ (nj j hj)).trans (hF.fs.rows j hj),hF.fs.kp.setRow (.inl rfl) _⟩,?_,(setRow_other _ _ _ _ nC).trans hF.bc,(setRow_other _ _ _ _ nP).trans hF.pb,(setRow_other _ _ _ _ nB).trans hF.bp⟩
  have:=hF.sz;simpa [World.setRow] using this
 co_apply opsC_nil T;exact⟨by first|trivial|rfl,by first|trivial|rfl,λi=>if i=36 then sl BA 14 else if i=37 then .int .i64 (k:Nat) else if i=38 then sl PB n else if i=39 then .pointer (some ⟨BA,k,none⟩) else u i,by simp,o5⟩
end
def gZ(RB:Nat->Nat)(n j:Nat):Array Value:=(Array.range 10).map λi=>if i<j then sl (RB i) n else .slice none 0 0
theorem Cj(RB:Nat->Nat)(n j:Nat):(gZ RB n j).size=10:=by simp[gZ]
theorem Qh(RB:Nat->Nat)(n:Nat):gZ RB n 10=fU RB n:=by apply au;intro c;by_cases hi:c<10<;>simp[gZ,fU,hi,sl]
theorem Qi(RB:Nat->Nat)(n j:Nat):(gZ RB n j).setIfInBounds j (sl (RB j) n)=gZ RB n (j+1):=by
 apply au;intro c;rw[aj];by_cases e:j=c
 .subst e;by_cases hi:j<10<;>simp[gZ,hi]
 .rw[ah e];by_cases hi:c<10<;>simp[gZ,hi,show c<j+1↔c<j by omega]
theorem Nr(RB:Nat->Nat)(n:Nat):gZ RB n 0=#[.slice none 0 0,.slice none 0 0,.slice none 0 0,.slice none 0 0,.slice none 0 0,.slice none 0 0,.slice none 0 0,.slice none 0 0,.slice none 0 0,.slice none 0 0]:=by
 apply au;intro c;by_cases hi:c<10
 .have:c=0∨c=1∨c=2∨c=3∨c=4∨c=5∨c=6∨c=7∨c=8∨c=9:=by omega
  rcases this with rfl|rfl|rfl|rfl|rfl|rfl|rfl|rfl|rfl|rfl<;>simp[gZ]
 .rw[af (by rw[Cj];omega),af (by simp;omega)]
structure FH(v0:World)(known:Nat->Nat)(RB:Nat->Nat)(n:Nat)(A:Nat->Value)(BA BK BR m:Nat)(ta:TypeId)(w:World):Prop where
 ba:w.heap[BA]?=some (.cells (allA A) ta)
 bk:w.heap[BK]?=some (.cells (ten known) 149)
 br:w.heap[BR]?=some (.cells (gZ RB n m) 160)
 kp:Kp v0 (λb=>b=BA) w
theorem FH.rely{v0:World}{known RB:Nat->Nat}{n:Nat}{A:Nat->Value}{BA BK BR m:Nat}{ta:TypeId}{w w₁ : World}(h:FH v0 known RB n A BA BK BR m ta w)(r:Ext w w₁):FH v0 known RB n A BA BK BR m ta w₁:=
 ⟨r.row h.ba,r.row h.bk,r.row h.br,h.kp.ext r⟩
section
variable {v0:World}{known RB:Nat->Nat}{n:Nat}{A:Nat->Value}{BA BK BR:Nat}{ta:TypeId}{ds:List Deferred}
theorem r0_c(a0 a2 a4 a6 a9 iq gu a25 a26 a33:Value)(u:Nat->Value)(hb:BA<v0.heap.size):∃N,(r0 (Tryz.f77.body.getD .skip)).wpC Tryz.prog true Ext (DW λb=>b=BA) 77 N (λe a w'=>e=.normal∧a.defers=ds∧∃u' BK,a.tmps=TT a0 (.agg (ten known)) a2 (ptr BK) a6 a9 iq gu a25 a26 a33 u'∧v0.heap.size<=BK∧w'.heap[BK]?=some (.cells (ten known) 149)∧Ext v0 w')
   ⟨TT a0 (.agg (ten known)) a2 a4 a6 a9 iq gu a25 a26 a33 u,ds⟩ v0:=by
 have T:=fM λb=>b=BA
 co_apply Exists.intro;simp only[r0,hd,Tryz.f77,ao,TT];co_reg T;co_apply pL (ten known) rfl (by rfl) rfl (λb ic=>ic▸hb) rfl;intro BK w1 NK hr hE;try walk_nrm
 co_apply opsC_nil T;exact⟨by first|trivial|rfl,by first|trivial|rfl,u,BK,by simp,NK,hr,hE⟩
theorem r1_c(a0 a1 a2 a6 a9 iq gu a25 a26 a33:Value)(u:Nat->Value){w:World}(hA:v0.heap[BA]?=some (.cells (allA A) ta))(NK:w.heap[BK]?=some (.cells (ten known) 149))(hE:Ext v0 w):∃N,(r1 (Tryz.f77.body.getD .skip)).wpC Tryz.prog true Ext (DW λb=>b=BA) 77 N (λe a w'=>e=.normal∧a.defers=ds∧∃u' BR,a.tmps=TT a0 a1 a2 (ptr BK) (ptr BR) a9 iq gu a25 a26 a33 u'∧w.heap.size<=BR∧FH v0 known RB n A BA BK BR 0 ta w')
   ⟨TT a0 a1 a2 (ptr BK) a6 a9 iq gu a25 a26 a33 u,ds⟩ w:=by
 have T:=fM λb=>b=BA
 have hb:BA<w.heap.size:=(Array.getElem?_eq_some_iff.1 (hE.row hA)).1;co_apply Exists.intro;simp only[r1,hd,tl,Tryz.f77,ao,TT];co_reg T;co_apply vB (gZ RB n 0) rfl (by rfl) rfl (λb ic=>ic▸hb) (by rw[Nr];kernel_rfl);intro BR w1 WA hr eh;try walk_nrm
 co_apply opsC_nil T;exact⟨by first|trivial|rfl,by first|trivial|rfl,u,BR,by simp,WA,⟨eh.row (hE.row hA),eh.row NK,hr,((Kp.refl v0 _).ext hE).ext eh⟩⟩
theorem l1_c(a2 a9 iq gu a25 a26 a33:Value)(u:Nat->Value){w:World}(hA:∀j,j<10->A (known j)=sl (RB j) n)(qg:∀j,j<10->known j<14)(WA:v0.heap.size<=BR)(hKR:BK≠BR)(L5:BA≠BR)(hH:FH v0 known RB n A BA BK BR 0 ta w):∃N,(l1 (Tryz.f77.body.getD .skip)).wpC Tryz.prog true Ext (DW λb=>b=BA) 77 N (λe a w'=>e=.normal∧a.defers=ds∧∃u',a.tmps=TT (sl BA 14) (.agg (ten known)) a2 (ptr BK) (ptr BR) a9 iq gu a25 a26 a33 u'∧FH v0 known RB n A BA BK BR 10 ta w')
   ⟨TT (sl BA 14) (.agg (ten known)) a2 (ptr BK) (ptr BR) a9 iq gu a25 a26 a33 u,ds⟩ w:=by
 have T:=fM λb=>b=BA
 co_apply Exists.intro;simp only[l1,hd,tl,Tryz.f77,ao,TT,sl,ptr];co_apply wpC_seq T;co_reg T;co_apply rL rfl (by rfl) rfl rfl hH.bk (by kernel_rfl) (by rw[gC];kernel_rfl);intro w1 hE;replace hH:=hH.rely hE;try walk_nrm
 co_go T FH.rely hH (co_quiet T)
 co_apply wpC_loop T (λact w'=>∃(m:Nat)(u:Nat->Value),m<=10∧FH v0 known RB n A BA BK BR m ta w'∧
   act=⟨#[sl BA 14,.agg (ten known),a2,u 3,ptr BK,u 5,ptr BR,u 7,u 8,a9,iq,gu,.agg (ten known),.int .i64 (m:Nat),u 14,u 15,u 16,u 17,u 18,u 19,u 20,u 21,u 22,u 23,u 24,a25,a26,u 27,u 28,u 29,u 30,u 31,u 32,a33,u 34,u 35,u 36,u 37,u 38,u 39,u 40,u 41,u 42,u 43],ds⟩)
  (λact _=>10-(intOf (act.tmps.getD 13 undef)).toNat) _ 10 ?h0 ?hN ?round
 case h0=>exact⟨0,u,by omega,hH,by simp[sl]⟩
 case hN=>simp[intOf]
 case round=>
  rintro act w' ⟨m,u,hm,hH,rfl⟩;simp only[sl,ptr];co_go T FH.rely hH (co_quiet T);co_split T (decide ((m:Int)<10))
  .intro hz;have ng:m<10:=by have:=of_decide_eq_true hz;omega
   have RR:(m:Int)<10:=by omega
   have vx:=qg m ng;have ll:(known m:Int)<14:=by omega
   co_go T FH.rely hH (co_quiet T);co_apply wN T rfl (by rfl) rfl rfl rfl (show iO _ _=some 10 by kernel_rfl) ng (qC known m ng);intro w₃ hR;replace hH:=hH.rely hR;clear hR;try walk_nrm
   co_go T FH.rely hH ((refine Um T ?_;first|(simp[go_sem];done)|(simp[go_sem];exact nN (show kF _ _=true by kernel_rfl) vx)))
   co_opw FH.rely hH (have hc:=(ab _ BA (known m) _ _ _ (FH.ba hH)).trans (jC A (known m) vx);rw[hA m ng]at hc) (refine⟨⟨rfl,rfl⟩,λ_ _=>rfl,?_⟩;co_evs (exact⟨_,rfl,rfl,by simp⟩))
   co_opw FH.rely hH (skip) (rw[listed_nil (by(simp[go_sem];exact rF (show iO _ _=some 10 by kernel_rfl) ng))];exact Terms.idle T _);co_apply rH (Rd:=λb=>b=BA) (z:=sl (RB m) n) rfl (by rfl) rfl rfl rfl rfl rfl hH.br (by rw[Cj];exact ng) (by kernel_rfl) (Ne.symm L5)
   intro w₄ hR;rw[Qi];replace hH:=hH.rely hR;have ua:FH v0 known RB n A BA BK BR (m+1) ta (w₄.setRow BR (gZ RB n (m+1))):=
    ⟨(setRow_other _ _ _ _ L5).trans hH.ba,(setRow_other _ _ _ _ hKR).trans hH.bk,setRow_heap _ _ _ _ _ _ hH.br,hH.kp.setRow (.inr WA) _⟩
   clear hH hR;generalize w₄.setRow BR (gZ RB n (m+1))=w₅ at ua;try walk_nrm
   co_go T FH.rely ua (co_quiet T);have e:IntKind.i64.wrap ((m:Int)+1)=((m+1:Nat):Int):=by rw[IntKind.wrap_i64];omega
   rw[e];exact⟨⟨m+1,λi=>#[undef,undef,undef,u 3,undef,u 5,undef,.int .i64 (m:Nat),.int .i64 (known m:Nat),undef,undef,undef,undef,undef,.bool true,.int .i64 (m:Nat),.int .i64 (known m:Nat),.int .i64 (m:Nat),sl BA 14,.int .i64 (known m:Nat),.pointer (some ⟨BA,known m,none⟩),sl (RB m) n,.pointer (some ⟨BR,m,none⟩),.int .i64 ((m+1:Nat):Int)].getD i (u i),by omega,ua,by simp[sl,ptr];try exact hz⟩,by simp[intOf];omega⟩
  .intro hz;have h0:m=10:=by
    have:=of_decide_eq_false hz;omega
   subst h0;co_go T FH.rely hH (co_quiet T);exact⟨by first|trivial|rfl,by first|trivial|rfl,λi=>if i=12 then .agg (ten known) else if i=13 then .int .i64 10 else if i=14 then .bool false else u i,by simp,hH⟩
end
open Go.RowKit Go.Conc Go.ConcN Go.Vw
open Go.ConcR (KK WgAt wgBlock stA smA rd wr mk DC0)
def iW(n:Nat):Frame:={(default:Frame) with fn:=n,defers:=[],mode:=.panicking [goexitEntry]}
def wb:Frame:=baseD 87
def ph(P:Program)(S:Nat->Prop)(Wg L Dz:Nat)(W0:World):Ph:=⟨P,FG,link.tWg,Wg,L,S,wb,pZ link Wg,[iW P.funcs.size],Dz,35,W0⟩
theorem Qv(T:Array Value)(todo:List Item):QuitsD Tryz.prog 2 0 (G {wb.at ⟨T,[]⟩ todo with mode:=.returning} [(iW Tryz.prog.funcs.size)]):=by
 refine QuitsD.ctl (g':=G (iW Tryz.prog.funcs.size) []) rfl (λw=>?_) ?_
 .simp[G,stepG,unwind,doReturn,results,Frame.at,wb,baseD,iW,Tryz.func87,Tryz.f87,seen,GStep.after,goexitEntry]
 refine QuitsD.ctl (g':={G (iW Tryz.prog.funcs.size) []with status:=.finished}) rfl (λw=>?_) ⟨rfl,rfl⟩;simp[G,stepG,unwind,iW,goexitEntry,Frame.catches];rfl
theorem nG{S:Nat->Prop}{Wg L Dz:Nat}{W0:World}(hW:¬S Wg):(ph Tryz.prog S Wg L Dz W0).Ok:=
 ⟨aB,by simp[ph,wb,baseD],hW,λtmps todo W hl=>Sw lI Qv tmps todo W hl⟩
def callW(Wg BP BR BK BC:Nat):Deferred:={target:=.fn (.func 87) #[ptr Wg,ptr BP,ptr BR,ptr BK,ptr BC],args:=#[]}
def qN(c:Code):Array Oper:=qI (hd c)
theorem Su:(Tryz.f87.body.getD .skip)=.seq (.region 0 (qN (Tryz.f87.body.getD .skip)) false) (jT Tryz.f87.body):=rfl
def wtm(Wg BP BR BK BC:Nat):Array Value:=#[ptr Wg,ptr BP,ptr BR,ptr BK,ptr BC,undef,undef,undef,undef,undef,undef]
theorem Ss(Wg BP BR BK BC:Nat)(w:World):stepG Tryz.prog false (born Tryz.prog (callW Wg BP BR BK BC)) w =
  .go (G (wb.at ⟨wtm Wg BP BR BK BC,[]⟩ [.code (Tryz.f87.body.getD .skip)]) [(iW Tryz.prog.funcs.size)]) w #[]:=by
 simp[born,callW,stepG,unwind,callDeferred,invoke,callFunc,Tryz.func87,Tryz.f87,seen,GStep.after,G,Frame.enter,Frame.at,wb,baseD,iW,wtm]
def cF(c:Code)(Wg BP BR BK BC:Nat):WAt:=.top (wtm Wg BP BR BK BC) [.code c]
theorem Yy(Wg BP BR BK BC:Nat):(cF (jT Tryz.f87.body) Wg BP BR BK BC).Ok Tryz.prog FG:=by refine⟨λx hx=>?_⟩;replace hx:x∈[Item.code (jT Tryz.f87.body)]:=hx;simp only[List.mem_singleton]at hx;subst hx;show okCode Tryz.prog FG (jT Tryz.f87.body)=true;kernel_rfl
theorem N7(Wg BP BR BK BC:Nat)(W:World):Goes Tryz.prog false (λ_ _=>True) DC0 (λg' _=>g'=(cF (jT Tryz.f87.body) Wg BP BR BK BC).g wb (pZ link Wg) [(iW Tryz.prog.funcs.size)]) 5 (born Tryz.prog (callW Wg BP BR BK BC)) W:=by refine Goes.step rfl λw₁ _=>?_;rw[Ss];refine⟨⟨rfl,rfl⟩,?_⟩;rw[Su];refine Goes.step rfl λw₂ _=>?_;rw[stepG_seq];refine⟨⟨rfl,rfl⟩,?_⟩;refine Goes.step rfl λw₃ _=>?_;rw[stepG_region];refine⟨⟨rfl,rfl⟩,?_⟩;refine Goes.step rfl λw₄ _=>?_;rw[show List.range (qN (Tryz.f87.body.getD .skip)).size=[0] from rfl,stepG_defer (o:=(qN (Tryz.f87.body.getD .skip))[0]'(by decide)) rfl (by rfl) (by simp[wb,baseD]) (rfl:((qN (Tryz.f87.body.getD .skip))[0]'(by decide)).op=.defer {callee:=.value (.func link.done),args:=#[.tmp 0],argTypes:=#[link.tWg]})];refine⟨⟨rfl,rfl⟩,?_⟩;refine Goes.step rfl λw₅ _=>?_;rw[stepG_region_end];refine⟨⟨rfl,rfl⟩,?_⟩;intro w₆ _;have e0:((qN (Tryz.f87.body.getD .skip))[0]'(by decide)).dst=none:=rfl;simp[cF,WAt.g,WAt.top,pZ,wtm,Act.eval,Act.put,e0]
section
variable {Stop:Goroutine->(Nat->Prop)->World->Prop}{S:Nat->Prop}{v:World}{cs:List Frame}{k:List Item}{Wg L Dz:Nat}{W0:World}{n:Nat}{pl:Nat->Nat}{res:Nat->Obj}{R:Nat->Prop}{a0 a1 a2 a4 a6 a9 iq gu a25 a26 a33:Value}{u:Nat->Value}
theorem Ul(hS:∀b,S b->b<v.heap.size)(qc:Tryz.prog.globals.size<=v.heap.size)(o9:∃c t fr,v.heap[Dz]?=some (.cells c t fr))(EI:R Dz)(zg:∀b,R b->¬S b∧b<v.heap.size){pl:Nat->Nat}{res:Nat->Obj}
  (h:∀L W0,bU (ph Tryz.prog S v.heap.size L Dz W0) Stop (.sp 0 5) 0 (G ((base 77).at ⟨TT a0 a1 a2 a4 a6 (ptr v.heap.size) iq gu a25 a26 a33 u,[]⟩ k) cs) L pl res R (pad v 1)) :
  Vw.Reach Tryz.prog Stop (G ((base 77).at ⟨TT a0 a1 a2 a4 a6 a9 iq gu a25 a26 a33 u,[]⟩ (.code (r7 (Tryz.f77.body.getD .skip))::k)) cs) S v:=by
 rw[O_];refine An ?_;rw[show List.range (kP (Tryz.f77.body.getD .skip)).size=[0] from rfl];refine Mc (F:=FG) (ty:=link.tWg) (wb:=wb) (ds:=pZ link v.heap.size) (fl:=[(iW Tryz.prog.funcs.size)]) (K0:=35) (pl:=pl) (res:=res) (g':=G ((base 77).at ⟨TT a0 a1 a2 a4 a6 (ptr v.heap.size) iq gu a25 a26 a33 u,[]⟩ (.inRegion (kP (Tryz.f77.body.getD .skip)) []::k)) cs) rfl (λW hW=>?_) qc o9 EI zg λL W0=>?_
 .have dq:(execOp (⟨TT a0 a1 a2 a4 a6 a9 iq gu a25 a26 a33 u,[]⟩:Act).eval ((kP (Tryz.f77.body.getD .skip))[0]'(by decide))).run Tryz.prog W=.ok (.value (ptr W.heap.size)) (W.alloc (wgBlock link.tWg 0 0)):=by
   unfold execOp;rw[show((kP (Tryz.f77.body.getD .skip))[0]'(by decide)).op=.alloc link.tWg from rfl];simp[Instr.alloc,Tryz.zeroValue169,newVar,newRow,wgBlock,Value.cells]
  have fu:(execOp (⟨TT a0 a1 a2 a4 a6 a9 iq gu a25 a26 a33 u,[]⟩:Act).eval ((kP (Tryz.f77.body.getD .skip))[0]'(by decide))).events Tryz.prog W #[]=#[]:=by unfold execOp;rw[show((kP (Tryz.f77.body.getD .skip))[0]'(by decide)).op=.alloc link.tWg from rfl];simp[go_sem,Instr.alloc,newVar,newRow]
  rw[stepG_value (o:=(kP (Tryz.f77.body.getD .skip))[0]'(by decide)) rfl (by rfl) (by simp[base]) dq,listed_nil fu,<-hW.size];have e0:((kP (Tryz.f77.body.getD .skip))[0]'(by decide)).dst=some 9:=rfl;simp[Act.put,e0,TT]
 .exact uV (nG λh=>absurd (hS _ h) (by omega)) (by simp) (by simp[ph,pend]) (h L W0)
theorem Qu(hW:¬S Wg)(hb:n-L+1<2147483648)
  (h:bU (ph Tryz.prog S Wg L Dz W0) Stop (.sp 0 3) 0 (G ((base 77).at ⟨TT a0 a1 a2 a4 a6 (ptr Wg) iq gu a25 a26 a33 (λi=>if i=40 then .tuple #[] else u i),[]⟩ k) cs) n pl res R v) :
  bU (ph Tryz.prog S Wg L Dz W0) Stop (.sp 0 5) 0 (G ((base 77).at ⟨TT a0 a1 a2 a4 a6 (ptr Wg) iq gu a25 a26 a33 u,[]⟩ (.code (r14 (Tryz.f77.body.getD .skip))::k)) cs) n pl res R v:=by
 have ok:(ph Tryz.prog S Wg L Dz W0).Ok:=nG hW;rw[Zf];refine vA ok (by simp) (by simp[ph,pend];omega) ?_;rw[show List.range (qP (Tryz.f77.body.getD .skip)).size=[0] from rfl];refine iE ok rfl (by simp) (by simp[ph,pend];omega) (a':=G (Frame.enter Tryz.prog link.add #[ptr Wg,.int .i64 1] .normal) ((base 77).at ⟨TT a0 a1 a2 a4 a6 (ptr Wg) iq gu a25 a26 a33 u,[]⟩ (.inRegion (qP (Tryz.f77.body.getD .skip)) [0]::k)::cs)) (λW=>?_) ?_
 .exact pC (o:=(qP (Tryz.f77.body.getD .skip))[0]'(by decide)) rfl (by rfl) (by simp[base]) rfl lI.f_add (Go.ConcR.Gen.nm_add link) rfl (by simp[Act.eval,TT])
 .rw[enter_at _ lI.f_add rfl];refine Oa ok (by simp[ph];omega) (m:=30) (λW hl=>We lI W hl) ?_;have e0:((qP (Tryz.f77.body.getD .skip))[0]?).bind (·.dst)=some 40:=rfl;rw[e0];refine uV ok (by simp) (by simp[ph,pend];omega) ?_;have e1:(TT a0 a1 a2 a4 a6 (ptr Wg) iq gu a25 a26 a33 u).setIfInBounds 40 (.tuple #[])=TT a0 a1 a2 a4 a6 (ptr Wg) iq gu a25 a26 a33 (λi=>if i=40 then .tuple #[] else u i):=by simp[TT]
  simp only[e1];exact h
theorem Qt(hW:¬S Wg)(hb:n-L+1<2147483648){BC BP PB BR BK:Nat}{rob:Obj}{X Y:Nat->Prop}(zg:∀b,R b->b<v.heap.size)(qc:∀b,b<Tryz.prog.globals.size->R b)(JY:∀b,X b∨Y b->(∃c t fr,v.heap[b]?=some (.cells c t fr))∧¬R b)(SR:∀b,X b->¬Y b){nW:Nat}
  (CL:∀u:World,(∀b,R b∨Y b∨X b->u.heap[b]?=v.heap[b]?)->Goes Tryz.prog false Ext (DW λb=>R b∨Y b) (jX wb Dz λw=>w.heap[PB]?=some rob) nW ((cF (jT Tryz.f87.body) Wg BP BR BK BC).g wb (aX Dz) []) u)
  (h:∀u',bU (ph Tryz.prog S Wg L Dz W0) Stop (.sp 0 5) 0 (G ((base 77).at ⟨TT a0 a1 a2 (ptr BK) (ptr BR) (ptr Wg) (ptr BC) (ptr BP) a25 a26 a33 u',[]⟩ k) cs) (n+1) (upd pl n PB) (upd res n rob) R (Vw.cover Classical.propDecidable v λb=>X b∨Y b)) :
  bU (ph Tryz.prog S Wg L Dz W0) Stop (.sp 0 3) 0 (G ((base 77).at ⟨TT a0 a1 a2 (ptr BK) (ptr BR) (ptr Wg) (ptr BC) (ptr BP) a25 a26 a33 u,[]⟩ (.code (r15 (Tryz.f77.body.getD .skip))::k)) cs) n pl res R v:=by
 have ok:(ph Tryz.prog S Wg L Dz W0).Ok:=nG hW;have gx:n-(ph Tryz.prog S Wg L Dz W0).L+pend (.sp 0 3)<2147483648:=by simp[ph,pend];omega
 have fg:n+1-(ph Tryz.prog S Wg L Dz W0).L+pend (.sp 0 5)<2147483648:=by simp[ph,pend];omega
 rw[Ze];refine vA ok (by simp) gx ?_;rw[show List.range (gF (Tryz.f77.body.getD .skip)).size=[0,1] from rfl];let u1:Nat->Value:=λi=>if i=41 then .func (.func 87) #[] #[ptr Wg,ptr BP,ptr BR,ptr BK,ptr BC] else u i
 refine iE ok rfl (by simp) gx (a':=G ((base 77).at ⟨TT a0 a1 a2 (ptr BK) (ptr BR) (ptr Wg) (ptr BC) (ptr BP) a25 a26 a33 u1,[]⟩ (.inRegion (gF (Tryz.f77.body.getD .skip)) [1]::k)) cs) (λW=>?_) ?_
 .have dq:(execOp (⟨TT a0 a1 a2 (ptr BK) (ptr BR) (ptr Wg) (ptr BC) (ptr BP) a25 a26 a33 u,[]⟩:Act).eval ((gF (Tryz.f77.body.getD .skip))[0]'(by decide))).run Tryz.prog W=.ok (.value (.func (.func 87) #[] #[ptr Wg,ptr BP,ptr BR,ptr BK,ptr BC])) W:=by
   unfold execOp;rw[show((gF (Tryz.f77.body.getD .skip))[0]'(by decide)).op=.makeFunc (.func 87) #[] #[.tmp 9,.tmp 11,.tmp 6,.tmp 4,.tmp 10] from rfl];simp[Act.eval,TT,Instr.makeFunc]
  have fu:(execOp (⟨TT a0 a1 a2 (ptr BK) (ptr BR) (ptr Wg) (ptr BC) (ptr BP) a25 a26 a33 u,[]⟩:Act).eval ((gF (Tryz.f77.body.getD .skip))[0]'(by decide))).events Tryz.prog W #[]=#[]:=by unfold execOp;rw[show((gF (Tryz.f77.body.getD .skip))[0]'(by decide)).op=.makeFunc (.func 87) #[] #[.tmp 9,.tmp 11,.tmp 6,.tmp 4,.tmp 10] from rfl];simp[Act.eval,TT,Instr.makeFunc]
  show stepG Tryz.prog true _ W=_;rw[stepG_value (o:=(gF (Tryz.f77.body.getD .skip))[0]'(by decide)) rfl (by rfl) (by simp[base]) dq,listed_nil fu];have e0:((gF (Tryz.f77.body.getD .skip))[0]'(by decide)).dst=some 41:=rfl;simp[Act.put,e0,TT,u1]
 .refine Qz ok (by simp[ph];omega) (a':=G ((base 77).at ⟨TT a0 a1 a2 (ptr BK) (ptr BR) (ptr Wg) (ptr BC) (ptr BP) a25 a26 a33 u1,[]⟩ (.inRegion (gF (Tryz.f77.body.getD .skip)) []::k)) cs) (child:=born Tryz.prog (callW Wg BP BR BK BC)) rfl (λW=>?_) zg qc JY SR (n0:=5) (cF:=cF (jT Tryz.f87.body) Wg BP BR BK BC) (N7 Wg BP BR BK BC) (Yy _ _ _ _ _) CL ?_
  .have dq:(execOp (⟨TT a0 a1 a2 (ptr BK) (ptr BR) (ptr Wg) (ptr BC) (ptr BP) a25 a26 a33 u1,[]⟩:Act).eval ((gF (Tryz.f77.body.getD .skip))[1]'(by decide))).run Tryz.prog W=.ok (.spawn (callW Wg BP BR BK BC)) W:=by
    unfold execOp;rw[show((gF (Tryz.f77.body.getD .skip))[1]'(by decide)).op=.go {callee:=.value (.tmp 41),args:=#[],argTypes:=#[]} from rfl];simp[Act.eval,TT,u1,resolve,Deferred.ofValue,callW]
   have fu:(execOp (⟨TT a0 a1 a2 (ptr BK) (ptr BR) (ptr Wg) (ptr BC) (ptr BP) a25 a26 a33 u1,[]⟩:Act).eval ((gF (Tryz.f77.body.getD .skip))[1]'(by decide))).events Tryz.prog W #[]=#[]:=by unfold execOp;rw[show((gF (Tryz.f77.body.getD .skip))[1]'(by decide)).op=.go {callee:=.value (.tmp 41),args:=#[],argTypes:=#[]} from rfl];simp[Act.eval,TT,u1,resolve,Deferred.ofValue,callW]
   show stepG Tryz.prog true _ W=_;rw[stepG_spawn (o:=(gF (Tryz.f77.body.getD .skip))[1]'(by decide)) rfl (by rfl) (by simp[base]) dq rfl,listed_nil fu];have e0:((gF (Tryz.f77.body.getD .skip))[1]'(by decide)).dst=none:=rfl;simp[Act.put,e0]
  .exact uV ok (by simp) fg (h u1)
theorem Qs(hW:¬S Wg)(hb:n-L+1<2147483648)(iy:∀i,L<=i->i<n->∃c t fr,res i=.cells c t fr)
  (h:∀(S':Nat->Prop)(v':World) u',View Tryz.prog S' v'->v.heap.size<=v'.heap.size->v'.os=v.os->v'.output=v.output->(∀(b:Nat)(o:Obj),v.heap[b]?=some o->o.tame->v'.heap[b]?=some o)->(∀i,L<=i->i<n->v'.heap[pl i]?=some (res i))->
   Vw.Reach Tryz.prog Stop (G ((base 77).at ⟨TT a0 a1 a2 a4 a6 (ptr Wg) iq gu a25 a26 a33 u',[]⟩ k) cs) S' v') :
  bU (ph Tryz.prog S Wg L Dz W0) Stop (.sp 0 5) 0 (G ((base 77).at ⟨TT a0 a1 a2 a4 a6 (ptr Wg) iq gu a25 a26 a33 u,[]⟩ (.code (lU (Tryz.f77.body.getD .skip))::k)) cs) n pl res R v:=by
 have ok:(ph Tryz.prog S Wg L Dz W0).Ok:=nG hW;have gx:n-(ph Tryz.prog S Wg L Dz W0).L+pend (.sp 0 5)<2147483648:=by simp[ph,pend];omega
 rw[Zd];refine vA ok (by simp) gx ?_;rw[show List.range (qO (Tryz.f77.body.getD .skip)).size=[0] from rfl];refine iE ok rfl (by simp) gx (a':=G (Frame.enter Tryz.prog link.wait #[ptr Wg] .normal) ((base 77).at ⟨TT a0 a1 a2 a4 a6 (ptr Wg) iq gu a25 a26 a33 u,[]⟩ (.inRegion (qO (Tryz.f77.body.getD .skip)) [0]::k)::cs)) (λW=>?_) ?_
 .exact pC (o:=(qO (Tryz.f77.body.getD .skip))[0]'(by decide)) rfl (by rfl) (by simp[base]) rfl lI.f_wait (Go.ConcR.Gen.nm_wait link) rfl (by simp[Act.eval,TT])
 .rw[enter_at _ lI.f_wait rfl];refine Mg ok (by simp[ph];omega) iy (λS' v' h1 h2 h3 h4 h5 h6=>?_) (λg w hg=>Mw lI g w hg) (m:=10) (λW hl=>Mv lI W hl);have e0:((qO (Tryz.f77.body.getD .skip))[0]?).bind (·.dst)=some 43:=rfl;rw[e0];refine Je ?_;have e1:(TT a0 a1 a2 a4 a6 (ptr Wg) iq gu a25 a26 a33 u).setIfInBounds 43 (.tuple #[])=TT a0 a1 a2 a4 a6 (ptr Wg) iq gu a25 a26 a33 (λi=>if i=43 then .tuple #[] else u i):=by simp[TT]
  simp only[e1];exact h S' v' _ h1 h2 h3 h4 h5 h6
end
def cI(known:Nat->Nat)(k:Nat):Bool:=(List.range 10).all λj=>known j != k
theorem xG{known:Nat->Nat}{k:Nat} : cI known k=true↔∀j,j<10->known j≠k:=by simp[cI]
theorem Fl{known:Nat->Nat}{k:Nat}(h:cI known k=false):∃j,j<10∧known j=k:=by refine ar λhn=>?_;have:cI known k=true:=xG.2 λj hj e=>hn ⟨j,hj,e⟩;rw[this]at h;cases h
def AK(A:Nat->Value)(PB:Nat->Nat)(known:Nat->Nat)(n k c:Nat):Value:=if cI known c=true∧c<k then sl (PB c) n else A c
theorem mE{f g:Nat->Value}(h:∀c,c<14->f c=g c):allA f=allA g:=by
 apply au;intro c;by_cases hi:c<14
 .rw[jC f c hi,jC g c hi,h c hi]
 .rw[af (by rw[oI];omega),af (by rw[oI];omega)]
section
variable {v0:World}{known RB:Nat->Nat}{n:Nat}{x:Nat->Nat->Nat}{A A':Nat->Value}{BA BK BR:Nat}{ta:TypeId}{w w':World}
theorem FsT.congr(h:FsT v0 known RB n x A BA BK BR ta w)(e:∀c,c<14->A c=A' c):FsT v0 known RB n x A' BA BK BR ta w:=⟨by rw[<-mE e];exact h.ba,h.bk,h.br,h.rows,h.kp⟩
theorem FsT.now(h:FsT v0 known RB n x A BA BK BR ta w):FsT w known RB n x A BA BK BR ta w:=⟨h.ba,h.bk,h.br,h.rows,.refl _ _⟩
theorem FsT.since(h:FsT w known RB n x A BA BK BR ta w')(k:FsT v0 known RB n x A' BA BK BR ta w):FsT v0 known RB n x A BA BK BR ta w':=⟨h.ba,h.bk,h.br,h.rows,k.kp.trans h.kp⟩
end
def done(known:Nat->Nat)(n:Nat)(x:Nat->Nat->Nat)(k:Nat):Obj:=.cells (aE n (Fld.comb (Fld.wgt known k) x 10)) 5
structure FI(v0:World)(known RB:Nat->Nat)(n:Nat)(x:Nat->Nat->Nat)(A:Nat->Value)(BA BK BR:Nat)(ta:TypeId)(L k nn:Nat)(pl:Nat->Nat)(res:Nat->Obj)(PB:Nat->Nat)(v:World):Prop where
 fs:FsT v0 known RB n x (AK A PB known n k) BA BK BR ta v
 pb:∀c,c<k->cI known c=true->v0.heap.size<=PB c∧PB c<v.heap.size∧∃i,L<=i∧i<nn∧pl i=PB c∧res i=done known n x c
 mono:∀c c',c<c'->c'<k->cI known c=true->cI known c'=true->PB c<PB c'
 res:∀i,L<=i->i<nn->∃c t fr,res i=.cells c t fr
 lo:L<=nn
 hi:nn<=L+k
structure Filled(v0:World)(known:Nat->Nat)(n:Nat)(x:Nat->Nat->Nat)(A:Nat->Value)(BA:Nat)(ta:TypeId)(PB:Nat->Nat)(v:World):Prop where
 kp:Kp v0 (λb=>b=BA) v
 ba:v.heap[BA]?=some (.cells (allA (AK A PB known n 14)) ta)
 pb:∀c,c<14->cI known c=true->v0.heap.size<=PB c∧v.heap[PB c]?=some (done known n x c)
 mono:∀c c',c<c'->c'<14->cI known c=true->cI known c'=true->PB c<PB c'
section
variable {Stop:Goroutine->(Nat->Prop)->World->Prop}{S:Nat->Prop}{cs:List Frame}{Wg L:Nat}{W0 v0:World}{known RB:Nat->Nat}{n:Nat}{x:Nat->Nat->Nat}{A:Nat->Value}{BA BK BR:Nat}{ta:TypeId}
theorem Oh(qg:∀j,j<10->known j<14)(hn:n<=400)(hx:∀j i,x j i<256)(hA:∀j,j<10->A (known j)=sl (RB j) n)(hL:∀k,k<14->cI known k=true->A k=.slice none 0 0)(hg:Tryz.prog.globals.size<=v0.heap.size)(AN:¬R0 RB BK BR BA)(hW:¬S Wg)
  (uj:∀(S':Nat->Prop)(v':World)(iq gu a26 a33:Value) u' PB,View Tryz.prog S' v'->Filled v0 known n x A BA ta PB v'->
   Vw.Reach Tryz.prog Stop (G ((base 77).at ⟨TT (sl BA 14) (.agg (ten known)) (.int .i64 (n:Nat)) (ptr BK) (ptr BR) (ptr Wg) iq gu (.int .i64 14) a26 a33 u',[]⟩ []) cs) S' v') :
  ∀(d k:Nat),k+d=14->∀(v:World)(u:Nat->Value)(iq gu a33:Value)(nn:Nat)(pl:Nat->Nat)(res:Nat->Obj)(PB:Nat->Nat),FI v0 known RB n x A BA BK BR ta L k nn pl res PB v->
   bU (ph Tryz.prog S Wg L BK W0) Stop (.sp 0 5) 0 (G ((base 77).at ⟨TT (sl BA 14) (.agg (ten known)) (.int .i64 (n:Nat)) (ptr BK) (ptr BR) (ptr Wg) iq gu (.int .i64 14) (.int .i64 (k:Nat)) a33 u,[]⟩ (.code (lb (Tryz.f77.body.getD .skip))::.inLoop (lb (Tryz.f77.body.getD .skip))::.inBlock 2::.code (lU (Tryz.f77.body.getD .skip))::[])) cs) nn pl res (R0 RB BK BR) v:=by
 intro d;induction d with
 |zero=>
  intro k hk v u iq gu a33 nn pl res PB hI;obtain rfl:k=14:=by omega
  have ok:(ph Tryz.prog S Wg L BK W0).Ok:=nG hW;have sg:=hI.lo;have H0:=hI.hi;have gx:nn-(ph Tryz.prog S Wg L BK W0).L+pend (.sp 0 5)<2147483648:=by simp[ph,pend];omega
  refine iD ok (by simp) gx (x:=(r9 (Tryz.f77.body.getD .skip))) ?_;obtain⟨N,h9⟩:=Iw (ds:=aX BK) (sl BA 14) (.agg (ten known)) (.int .i64 (n:Nat)) (ptr BK) (ptr BR) (ptr Wg) iq gu a33 u 14 (ae _) hI.fs.now;refine kV ok (by simp) gx In (N:=N) (Post:=λt w=>∃u',t=TT (sl BA 14) (.agg (ten known)) (.int .i64 (n:Nat)) (ptr BK) (ptr BR) (ptr Wg) iq gu (.int .i64 14) (.int .i64 (14:Nat)) a33 u'∧u' 27=.bool (decide (((14:Nat):Int)<14))∧FsT v known RB n x (AK A PB known n 14) BA BK BR ta w) (λt x y hE ⟨u',h1,h2,h3⟩=>⟨u',h1,h2,h3.rely hE⟩) h9 ?_
  rintro _ v1 ⟨u1,rfl,s9,hF⟩;refine iD ok (by simp) gx ?_;refine vV ok (by simp) gx (t:=false) (by show u1 27=_;rw[s9];rfl) ?_;refine Bi ok (by simp) gx (k':=[.code (lU (Tryz.f77.body.getD .skip))]) rfl ?_;refine Qs hW (by omega) hI.res λS' v' u' h1 h2 h3 h4 h5 h6=>?_
  have hkp:Kp v (λb=>b=BA) v':=hF.kp.trans ⟨h2,h3,h4,λb o _ hc ht=>h5 b o hc ht⟩
  refine uj S' v' _ _ _ _ u' PB h1 ⟨hI.fs.kp.trans hkp,h5 _ _ hF.ba trivial,λc hc hl=>?_,hI.mono⟩
  obtain⟨p1,p2,i,i1,i2,i3,i4⟩:=hI.pb c hc hl;refine⟨p1,?_⟩;rw[<-i3,<-i4];exact h6 i i1 i2
 |succ d ih=>
  intro k hk v u iq gu a33 nn pl res PB hI;have vx:k<14:=by omega
  have ok:(ph Tryz.prog S Wg L BK W0).Ok:=nG hW;have sg:=hI.lo;have H0:=hI.hi;have gx:nn-(ph Tryz.prog S Wg L BK W0).L+pend (.sp 0 5)<2147483648:=by simp[ph,pend];omega
  have H5:Tryz.prog.globals.size<=v.heap.size:=ak hg hI.fs.kp.size;refine iD ok (by simp) gx (x:=(r9 (Tryz.f77.body.getD .skip))) ?_;obtain⟨N,h9⟩:=Iw (ds:=aX BK) (sl BA 14) (.agg (ten known)) (.int .i64 (n:Nat)) (ptr BK) (ptr BR) (ptr Wg) iq gu a33 u k (by omega) hI.fs.now;refine kV ok (by simp) gx In (N:=N) (Post:=λt w=>∃u',t=TT (sl BA 14) (.agg (ten known)) (.int .i64 (n:Nat)) (ptr BK) (ptr BR) (ptr Wg) iq gu (.int .i64 14) (.int .i64 (k:Nat)) a33 u'∧u' 27=.bool (decide ((k:Int)<14))∧FsT v known RB n x (AK A PB known n k) BA BK BR ta w) (λt x y hE ⟨u',h1,h2,h3⟩=>⟨u',h1,h2,h3.rely hE⟩) h9 ?_
  rintro _ v1 ⟨u1,rfl,s9,EM⟩;refine iD ok (by simp) gx ?_;refine vV ok (by simp) gx (t:=true) (by show u1 27=_;rw[s9];simp;omega) ?_;refine Bh ok (by simp) gx ?_;refine iD ok (by simp) gx (x:=.block 3 (bb (Tryz.f77.body.getD .skip))) ?_;refine Ao ok (by simp) gx ?_;refine iD ok (by simp) gx (x:=(r10 (Tryz.f77.body.getD .skip))) ?_;have VJ:Tryz.prog.globals.size<=v1.heap.size:=ak H5 EM.kp.size;obtain⟨N,oa⟩:=O5 (ds:=aX BK) (sl BA 14) (.agg (ten known)) (.int .i64 (n:Nat)) (ptr BK) (ptr BR) (ptr Wg) iq gu (.int .i64 14) a33 u1 k VJ EM.now;refine kV ok (by simp) gx Zn (N:=N) (Post:=λt w=>∃u' BC,t=TT (sl BA 14) (.agg (ten known)) (.int .i64 (n:Nat)) (ptr BK) (ptr BR) (ptr Wg) (ptr BC) gu (.int .i64 14) (.int .i64 (k:Nat)) a33 u'∧v1.heap.size<=BC∧w.heap[BC]?=some (.cells #[.int .i64 (k:Nat)] 3)∧FsT v1 known RB n x (AK A PB known n k) BA BK BR ta w) (λt x y hE ⟨u',BC,h1,h2,h3,h4⟩=>⟨u',BC,h1,h2,hE.row h3,h4.rely hE⟩) oa ?_
  rintro _ v2 ⟨u2,BC,rfl,OX,I6,pe⟩;refine iD ok (by simp) gx ?_;refine iD ok (by simp) gx (x:=(r11 (Tryz.f77.body.getD .skip))) ?_;have xy:Tryz.prog.globals.size<=v2.heap.size:=ak VJ pe.kp.size;have hAk:((!cI known k)=true∧∃b,AK A PB known n k k=sl b n)∨((!cI known k)=false∧AK A PB known n k k=.slice none 0 0):=by
   have e:AK A PB known n k k=A k:=by simp[AK]
   rw[e];cases hl:cI known k with
   |true=>exact .inr ⟨rfl,hL k vx hl⟩
   |false=>obtain⟨j,hj,rfl⟩:=Fl hl;exact .inl ⟨rfl,RB j,hA j hj⟩
  obtain⟨N,h11⟩:=O6 (ds:=aX BK) (.agg (ten known)) (.int .i64 (n:Nat)) (ptr BK) (ptr BR) (ptr Wg) gu (.int .i64 14) (.int .i64 (k:Nat)) a33 u2 k BC vx (!cI known k) hAk xy ⟨pe.now,ae _,I6⟩;refine kV ok (by simp) gx Zm (N:=N) (Post:=λt w=>∃u',t=TT (sl BA 14) (.agg (ten known)) (.int .i64 (n:Nat)) (ptr BK) (ptr BR) (ptr Wg) (ptr BC) gu (.int .i64 14) (.int .i64 (k:Nat)) (.bool (!cI known k)) u'∧FC v2.heap.size k BC v2 known RB n x (AK A PB known n k) BA BK BR ta w) (λt x y hE ⟨u',h1,h2⟩=>⟨u',h1,h2.rely hE⟩) h11 ?_
  rintro _ v3 ⟨u3,rfl,NF⟩;refine vV ok (by simp) gx (t:=!cI known k) rfl ?_;have next:∀(v5:World)(u5:Nat->Value)(iq gu a33:Value)(PV:Nat)(US:Nat->Nat)(FW:Nat->Obj)(KQ:Nat->Nat),FI v0 known RB n x A BA BK BR ta L (k+1) PV US FW KQ v5->
    bU (ph Tryz.prog S Wg L BK W0) Stop (.sp 0 5) 0 (G ((base 77).at ⟨TT (sl BA 14) (.agg (ten known)) (.int .i64 (n:Nat)) (ptr BK) (ptr BR) (ptr Wg) iq gu (.int .i64 14) (.int .i64 (k:Nat)) a33 u5,[]⟩ (.code (qW (Tryz.f77.body.getD .skip))::.inLoop (lb (Tryz.f77.body.getD .skip))::.inBlock 2::.code (lU (Tryz.f77.body.getD .skip))::[])) cs) PV US FW (R0 RB BK BR) v5:=by
   intro v5 u5 iq gu a33 PV US FW KQ xe;have ic:PV-(ph Tryz.prog S Wg L BK W0).L+pend (.sp 0 5)<2147483648:=by have:=xe.hi;simp[ph,pend];omega
   obtain⟨N,h16⟩:=O9 (ds:=aX BK) (sl BA 14) (.agg (ten known)) (.int .i64 (n:Nat)) (ptr BK) (ptr BR) (ptr Wg) iq gu (.int .i64 14) a33 u5 k (by omega) xe.fs.now;refine kV ok (by simp) ic Zj (N:=N) (Post:=λt w=>∃u',t=TT (sl BA 14) (.agg (ten known)) (.int .i64 (n:Nat)) (ptr BK) (ptr BR) (ptr Wg) iq gu (.int .i64 14) (.int .i64 ((k+1:Nat):Int)) a33 u'∧FsT v5 known RB n x (AK A KQ known n (k+1)) BA BK BR ta w) (λt x y hE ⟨u',h1,h2⟩=>⟨u',h1,h2.rely hE⟩) h16 ?_
   rintro _ v6 ⟨u6,rfl,VY⟩;refine Jw ok (by simp) ic ?_;refine ih (k+1) (by omega) v6 u6 iq gu a33 PV US FW KQ ⟨VY.since xe.fs,λc hc hl=>?_,xe.mono,xe.res,xe.lo,xe.hi⟩
   obtain⟨p1,p2,p3⟩:=xe.pb c hc hl;exact⟨p1,bg p2 VY.kp.size,p3⟩
  have fo:v.heap.size<=v3.heap.size:=ak EM.kp.size (ak pe.kp.size NF.fs.kp.size);have UE:=NF.fs.since (pe.since (EM.since hI.fs));cases hl:cI known k with
  |false=>
   simp only[Bool.not_false,if_true];refine Bi ok (by simp) gx (k':=.code (qW (Tryz.f77.body.getD .skip))::.inLoop (lb (Tryz.f77.body.getD .skip))::.inBlock 2::.code (lU (Tryz.f77.body.getD .skip))::[]) rfl ?_;refine next v3 u3 _ _ _ nn pl res PB ⟨UE.congr λc hc=>?_,λc hc RV=>?_,λc c' hc ek h1 h2=>?_,hI.res,hI.lo,by have:=hI.hi;omega⟩
   .simp only[AK];by_cases e:cI known c=true
    .have:c≠k:=λe'=>by rw[e',hl]at e;cases e
     simp only[e,true_and,show(c<k↔c<k+1) by omega]
    .simp[e]
   .have:c≠k:=λe'=>by rw[e',hl]at RV;cases RV
    obtain⟨p1,p2,p3⟩:=hI.pb c (by omega) RV;exact⟨p1,by omega,p3⟩
   .have:c'≠k:=λe'=>by rw[e',hl]at h2;cases h2
    exact hI.mono c c' hc (by omega) h1 h2
  |true=>
   simp only[Bool.not_true,if_false,ay];have JV:BA<v.heap.size:=(Array.getElem?_eq_some_iff.1 hI.fs.ba).1;have s1:=EM.kp.size;have s2:=pe.kp.size;have s3:=NF.fs.kp.size;have xc:Tryz.prog.globals.size<=v3.heap.size:=by omega
   have RU:=NF.fs.low xc;refine Bh ok (by simp) gx ?_;refine iD ok (by simp) gx (x:=(r12 (Tryz.f77.body.getD .skip))) ?_;obtain⟨N,h12⟩:=O7 (ds:=aX BK) (sl BA 14) (.agg (ten known)) (ptr BK) (ptr BR) (ptr Wg) gu (.int .i64 14) (.int .i64 (k:Nat)) (.bool false) u3 k BC hn xc ⟨NF.fs.now,ae _,NF.bc⟩;refine kV ok (by simp) gx Zl (N:=N) (Post:=λt w=>∃u' Pk BP,t=TT (sl BA 14) (.agg (ten known)) (.int .i64 (n:Nat)) (ptr BK) (ptr BR) (ptr Wg) (ptr BC) (ptr BP) (.int .i64 14) (.int .i64 (k:Nat)) (.bool false) u'∧v3.heap.size<=Pk∧Pk<BP∧FP v3.heap.size k BC Pk BP v3 known RB n x (AK A PB known n k) BA BK BR ta w) (λt x y hE ⟨u',Pk,BP,h1,h2,h3,h4⟩=>⟨u',Pk,BP,h1,h2,h3,h4.rely hE⟩) h12 ?_
   rintro _ v4 ⟨u4,Pk,BP,rfl,hPk,qm,KJ⟩;have s4:=KJ.fs.kp.size;have hBC3:BC<v3.heap.size:=(Array.getElem?_eq_some_iff.1 NF.bc).1;refine iD ok (by simp) gx (x:=(r13 (Tryz.f77.body.getD .skip))) ?_;obtain⟨N,h13⟩:=O8 (ds:=aX BK) (.agg (ten known)) (.int .i64 (n:Nat)) (ptr BK) (ptr BR) (ptr Wg) (.int .i64 14) (.int .i64 (k:Nat)) (.bool false) u4 k BC Pk BP vx AN (by omega) (by omega) (by omega) (w:=v4) ⟨KJ.fs.now,ae _,KJ.bc,KJ.pb,KJ.bp⟩;refine kV ok (by simp) gx Zk (N:=N) (Post:=λt w=>∃u',t=TT (sl BA 14) (.agg (ten known)) (.int .i64 (n:Nat)) (ptr BK) (ptr BR) (ptr Wg) (ptr BC) (ptr BP) (.int .i64 14) (.int .i64 (k:Nat)) (.bool false) u'∧FP v4.heap.size k BC Pk BP v4 known RB n x (λc=>if c=k then sl Pk n else AK A PB known n k c) BA BK BR ta w) (λt x y hE ⟨u',h1,h2⟩=>⟨u',h1,h2.rely hE⟩) h13 ?_
   rintro _ v5 ⟨u5,rfl,rq⟩;have s5:=rq.fs.kp.size;have hg5:Tryz.prog.globals.size<=v5.heap.size:=by omega
   have JJ:=rq.fs.low hg5;have nR:∀b,v1.heap.size<=b->¬R0 RB BK BR b:=λb hb hr=>by have:=EM.low (by omega) b hr;omega
   refine iD ok (by simp) gx (x:=(r14 (Tryz.f77.body.getD .skip))) (y:=(r15 (Tryz.f77.body.getD .skip))) ?_;refine Qu hW (by omega) ?_;obtain⟨NW,FX⟩:=Le (main:=false) (Rd:=λb=>R0 RB BK BR b∨(b=BP∨b=BC))
   refine Qt hW (by omega) (X:=λb=>b=Pk) (Y:=λb=>b=BP∨b=BC) (PB:=Pk) (rob:=done known n x k) (nW:=NW) JJ (λb hb=>.inl hb) ?_ ?_ ?_ ?_
   .rintro b (rfl|rfl|rfl)
    .exact⟨⟨_,_,_,rq.pb⟩,nR _ (by omega)⟩
    .exact⟨⟨_,_,_,rq.bp⟩,nR _ (by omega)⟩
    .exact⟨⟨_,_,_,rq.bc⟩,nR _ (by omega)⟩
   .rintro b rfl (h|h)<;>omega
   .intro uu X7;have get:∀b o,R0 RB BK BR b∨(b=BP∨b=BC)∨b=Pk->v5.heap[b]?=some o->uu.heap[b]?=some o:=λb o hb ho=>(X7 b hb).trans ho
    refine FX 5 43 160 149 3 known k RB x n Pk BP BR BK BC BK (ptr Wg) uu qg vx hn hx ?_ (λj hj=>.inl (.inr (.inr (.inr ⟨j,hj,rfl⟩)))) (.inr (.inl rfl)) (.inl (.inr (.inr (.inl rfl)))) (.inl (.inr (.inl rfl))) (.inr (.inr rfl)) ⟨?_,?_,?_,?_,?_,?_⟩ ?_
    .rintro(h|h|h)
     .exact nR Pk (by omega) h
     .omega
     .omega
    .exact get BP _ (.inr (.inl (.inl rfl))) rq.bp
    .exact get BR _ (.inl (.inr (.inr (.inl rfl)))) rq.fs.br
    .exact get BK _ (.inl (.inr (.inl rfl))) rq.fs.bk
    .exact get BC _ (.inr (.inl (.inr rfl))) rq.bc
    .exact λj hj=>get (RB j) _ (.inl (.inr (.inr (.inr ⟨j,hj,rfl⟩)))) (rq.fs.rows j hj)
    .intro b hb;have FK:b<v5.heap.size:=by
      rcases hb with h|rfl|rfl
      .exact JJ b h
      .exact(Array.getElem?_eq_some_iff.1 rq.bp).1
      .exact(Array.getElem?_eq_some_iff.1 rq.bc).1
     have:=get b _ (hb.elim .inl λh=>.inr (.inl h)) (bf FK)
     exact(Array.getElem?_eq_some_iff.1 this).1
    .exact get Pk _ (.inr (.inr rfl)) rq.pb
   .intro u6;have cg:∀b,¬(b=Pk∨b=BP∨b=BC)->(Vw.cover Classical.propDecidable v5 λb=>b=Pk∨b=BP∨b=BC).heap[b]?=v5.heap[b]?:=λb hb=>tA v5 _ b hb
    have M3:(Vw.cover Classical.propDecidable v5 λb=>b=Pk∨b=BP∨b=BC).heap.size=v5.heap.size:=by simp[Vw.cover]
    have hold:∀b,b<v.heap.size->¬(b=Pk∨b=BP∨b=BC):=λb hb h=>by omega
    have YN:∀b,R0 RB BK BR b->¬(b=Pk∨b=BP∨b=BC):=λb hb h=>by
     rcases h with rfl|rfl|rfl
     .exact nR _ (by omega) hb
     .exact nR _ (by omega) hb
     .exact nR _ (by omega) hb
    have IA:=rq.fs.since (KJ.fs.since UE);have fg:nn+1-(ph Tryz.prog S Wg L BK W0).L+pend (.sp 0 5)<2147483648:=by simp[ph,pend];omega
    have VO:v0.heap.size<=v.heap.size:=hI.fs.kp.size;refine Jm ok (by simp) fg ?_;refine next _ u6 _ _ _ (nn+1) (upd pl nn Pk) (upd res nn (done known n x k)) (upd PB k Pk) ⟨⟨?_,?_,?_,?_,⟨?_,?_,?_,?_⟩⟩,?_,?_,?_,by omega,by omega⟩
    .rw[cg BA (hold BA JV),rq.fs.ba];congr 2;refine mE λc hc=>?_
     simp only[AK];by_cases e:c=k
     .subst e;simp[hl,upd_same]
     .simp only[ah e,upd_ne _ _ e,show(c<k↔c<k+1) by omega]
    .rw[cg BK (YN BK (.inr (.inl rfl)))];exact rq.fs.bk
    .rw[cg BR (YN BR (.inr (.inr (.inl rfl))))];exact rq.fs.br
    .intro j hj;rw[cg _ (YN _ (.inr (.inr (.inr ⟨j,hj,rfl⟩))))];exact rq.fs.rows j hj
    .rw[M3];exact IA.kp.size
    .exact IA.kp.os
    .exact IA.kp.output
    .intro b o hb hc ht;have dp:=(Array.getElem?_eq_some_iff.1 hc).1;rw[cg b (hold b (by omega))];exact IA.kp.objs b o hb hc ht
    .intro c hc RV;rw[M3];by_cases e:c=k
     .subst e;rw[upd_same];have:=(Array.getElem?_eq_some_iff.1 rq.pb).1;exact⟨by omega,this,nn,sg,by omega,upd_same _ _ _,upd_same _ _ _⟩
     .obtain⟨p1,p2,i,i1,i2,i3,i4⟩:=hI.pb c (by omega) RV;rw[upd_ne _ _ e];have dy:i≠nn:=by omega
      exact⟨p1,by omega,i,i1,by omega,(upd_ne _ _ dy).trans i3,(upd_ne _ _ dy).trans i4⟩
    .intro c c' hc ek h1 h2;by_cases e:c'=k
     .subst e;obtain⟨p1,p2,_⟩:=hI.pb c hc h1;rw[upd_same,upd_ne _ _ (by omega)];omega
     .rw[upd_ne _ _ e,upd_ne _ _ (by omega)];exact hI.mono c c' hc (by omega) h1 h2
    .intro i h1 h2;by_cases e:i=nn
     .subst e;rw[upd_same];exact⟨_,_,_,rfl⟩
     .rw[upd_ne _ _ e];exact hI.res i h1 (by omega)
theorem Cu{v:World}(qg:∀j,j<10->known j<14)(hn:n<=400)(hx:∀j i,x j i<256)(hA:∀j,j<10->A (known j)=sl (RB j) n)(hL:∀k,k<14->cI known k=true->A k=.slice none 0 0)(hg:Tryz.prog.globals.size<=v.heap.size)
  (hgA:Tryz.prog.globals.size<=BA) (J7:∀j,j<10->RB j≠BA) (FJ:v.heap[BA]?=some (.cells (allA A) ta)) (vn:∀j,j<10->v.heap[RB j]?=some (.cells (aE n (x j)) 5)) {c:Frame}
  (hr:∀(S':Nat->Prop)(v':World) PB,View Tryz.prog S' v'->Filled v known n x A BA ta PB v'->Vw.Reach Tryz.prog Stop (G (c.finish (.tuple #[])) cs) S' v') :
  Vw.Reach Tryz.prog Stop (G (Frame.enter Tryz.prog 77 #[sl BA 14,.agg (ten known),.int .i64 (n:Nat)] .normal) (c::cs)) S v:=by
 refine mD λhv=>?_
 have seen:∀{b:Nat}{cc:Array Value}{t:TypeId}{fr:Nat×Nat}{w:World},View Tryz.prog S w->w.heap[b]?=some (.cells cc t fr)->¬S b:=λhw hb hs=>by have:=hw.hid _ hs;rw[hb]at this;cases this
 have JV:BA<v.heap.size:=(Array.getElem?_eq_some_iff.1 FJ).1;rw[enter_at _ Tryz.func77 Yd];have e0:(#[sl BA 14,.agg (ten known),.int .i64 (n:Nat)]++Array.replicate (Tryz.f77.ntmps-(#[sl BA 14,.agg (ten known),.int .i64 (n:Nat)]:Array Value).size) undef)=TT (sl BA 14) (.agg (ten known)) (.int .i64 (n:Nat)) undef undef undef undef undef undef undef undef (λ_=>undef):=by simp[Tryz.ntmps77,TT,Array.replicate_succ]
 rw[e0,N_];refine pQ ?_;obtain⟨N,h0⟩:=r0_c (known:=known) (ds:=aX BA) (sl BA 14) (.int .i64 (n:Nat)) undef undef undef undef undef undef undef undef (λ_=>undef) JV;refine wJ aB (by kernel_rfl) (Rd:=λb=>b=BA) (Dz:=BA) rfl ⟨_,_,_,FJ⟩ (seen hv FJ) (N:=N) (Post:=λt w=>∃u' BK,t=TT (sl BA 14) (.agg (ten known)) (.int .i64 (n:Nat)) (ptr BK) undef undef undef undef undef undef undef u'∧v.heap.size<=BK∧w.heap[BK]?=some (.cells (ten known) 149)∧Ext v w) (λt x y hE ⟨u',BK,h1,h2,h3,h4⟩=>⟨u',BK,h1,h2,hE.row h3,h4.trans _ _ _ hE⟩) h0 ?_
 rintro _ v1 ⟨u1,BK,rfl,NK,MV,eh⟩;refine mD λUX=>?_
 refine pQ ?_;obtain⟨N,h1⟩:=r1_c (known:=known) (RB:=RB) (n:=n) (ds:=aX BA) (sl BA 14) (.agg (ten known)) (.int .i64 (n:Nat)) undef undef undef undef undef undef undef u1 FJ MV eh;refine wJ aB (by kernel_rfl) (Rd:=λb=>b=BA) (Dz:=BA) rfl ⟨_,_,_,eh.row FJ⟩ (seen hv FJ) (N:=N) (Post:=λt w=>∃u' BR,t=TT (sl BA 14) (.agg (ten known)) (.int .i64 (n:Nat)) (ptr BK) (ptr BR) undef undef undef undef undef undef u'∧v1.heap.size<=BR∧FH v known RB n A BA BK BR 0 ta w) (λt x y hE ⟨u',BR,h1,h2,h3⟩=>⟨u',BR,h1,h2,h3.rely hE⟩) h1 ?_
 rintro _ v2 ⟨u2,BR,rfl,WA,VX⟩;have hBK1:BK<v1.heap.size:=(Array.getElem?_eq_some_iff.1 MV).1;have jg:=eh.size;refine pQ ?_;obtain⟨N,h2⟩:=l1_c (known:=known) (RB:=RB) (n:=n) (ds:=aX BA) (.int .i64 (n:Nat)) undef undef undef undef undef undef u2 hA qg (by omega) (by omega) (by omega) VX;refine wJ aB (by kernel_rfl) (Rd:=λb=>b=BA) (Dz:=BA) rfl ⟨_,_,_,VX.ba⟩ (seen hv FJ) (N:=N) (Post:=λt w=>∃u',t=TT (sl BA 14) (.agg (ten known)) (.int .i64 (n:Nat)) (ptr BK) (ptr BR) undef undef undef undef undef undef u'∧FH v known RB n A BA BK BR 10 ta w) (λt x y hE ⟨u',h1,h2⟩=>⟨u',h1,h2.rely hE⟩) h2 ?_
 rintro _ v3 ⟨u3,rfl,KI⟩;refine mD λFY=>?_
 have ti:∀j,j<10->v3.heap[RB j]?=some (.cells (aE n (x j)) 5):=λj hj=>KI.kp.cells _ _ _ _ (J7 j hj) (vn j hj)
 have TB:v3.heap[BR]?=some (.cells (fU RB n) 160):=by rw[<-Qh];exact KI.br
 have UD:FsT v known RB n x A BA BK BR ta v3:=⟨KI.ba,KI.bk,TB,ti,KI.kp⟩;have xc:Tryz.prog.globals.size<=v3.heap.size:=ak hg KI.kp.size;have J4:∀b,S b->b<v3.heap.size:=λb hb=>(Array.getElem?_eq_some_iff.1 (FY.hid b hb)).1
 have hRS:∀b,R0 RB BK BR b->¬S b∧b<v3.heap.size:=λb hb=>by
  refine⟨λhs=>?_,UD.low xc b hb⟩
  rcases hb with hb|rfl|rfl|⟨j,hj,rfl⟩
  .have:=FY.high b hs;omega
  .exact seen FY KI.bk hs
  .exact seen FY TB hs
  .exact seen FY (ti j hj) hs
 have p_:¬R0 RB BK BR BA:=by
  rintro(h|h|h|⟨j,hj,h⟩)
  .omega
  .omega
  .omega
  .exact J7 j hj h.symm
 refine pQ ?_;refine Ul J4 xc (Dz:=BK) (R:=R0 RB BK BR) ⟨_,_,_,KI.bk⟩ (.inr (.inl rfl)) hRS (pl:=λ_=>0) (res:=λ_=>eR) λL W0=>?_
 have hW:¬S v3.heap.size:=λh=>absurd (J4 _ h) (by omega)
 have ok:(ph Tryz.prog S v3.heap.size L BK W0).Ok:=nG hW;have gx:L-(ph Tryz.prog S v3.heap.size L BK W0).L+pend (.sp 0 5)<2147483648:=by simp[ph,pend]
 have o4:FsT v known RB n x A BA BK BR ta (pad v3 1):=UD.rely (tL v3 1);refine iD ok (by simp) gx ?_;refine iD ok (by simp) gx ?_;obtain⟨N,h8⟩:=r8_c (ds:=aX BK) (.agg (ten known)) (.int .i64 (n:Nat)) (ptr BK) (ptr BR) (ptr v3.heap.size) undef undef undef undef undef u3 o4;refine kV ok (by simp) gx O4 (N:=N) (Post:=λt w=>∃u',t=TT (sl BA 14) (.agg (ten known)) (.int .i64 (n:Nat)) (ptr BK) (ptr BR) (ptr v3.heap.size) undef undef (.int .i64 14) (.int .i64 (0:Nat)) undef u'∧FsT v known RB n x A BA BK BR ta w) (λt x y hE ⟨u',h1,h2⟩=>⟨u',h1,h2.rely hE⟩) h8 ?_
 rintro _ v4 ⟨u4,rfl,KJ⟩;refine Ao ok (by simp) gx ?_;refine Mh ok (by simp) gx ?_;refine Oh (v0:=v) qg hn hx hA hL hg p_ hW ?_ 14 0 (by omega) v4 u4 _ _ _ L _ _ (λ_=>0) ⟨KJ.congr λc hc=>by simp[AK],λc hc=>by omega,λc c' _ hc=>by omega,λi h1 h2=>by omega,ae _,by omega⟩
 intro S' v' iq gu a26 a33 u' PB KW vz;refine gQ ?_;refine vS (F:=FG) (x:=.tuple #[]) ⟨by simp[Frame.at],rfl,rfl,rfl,⟨_,Tryz.func77⟩⟩ KW ⟨rfl,rfl,rfl,_,Tryz.func77,?_⟩ (hr S' v' PB KW vz);simp[results,Tryz.results77]
end
