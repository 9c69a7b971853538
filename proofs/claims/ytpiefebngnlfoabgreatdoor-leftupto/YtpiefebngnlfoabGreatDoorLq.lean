import Derived.Test.YtpiefebngnlfoabGreatDoorLm
import Derived.Test.YtpiefebngnlfoabGreatDoorLp
import Derived.Test.YtpiefebngnlfoabGreatDoorLn
import Derived.Test.YtpiefebngnlfoabGreatDoorLo
set_option maxRecDepth 99999
set_option maxHeartbeats 0
set_option linter.unusedVariables false
set_option linter.unusedSimpArgs false
namespace Go.Vw
open Go.Conc
def hd:Code->Code
 |.seq a _=>a
 |c=>c
def tl:Code->Code
 |.seq _ b=>b
 |c=>c
def dE:Code->Code
 |.block _ c=>c
 |.loop c=>c
 |c=>c
def sC:Code->Array Oper
 |.region _ ops _=>ops
 |_=>#[]
section
variable {P:Program}{main:Bool}{Rd:Nat->Prop}{fn:FuncId}{ops:Array Oper}{Q:Exit->Act->World->Prop}
theorem Cj{i:Nat}{rest:List Nat}{o:Oper}{n:Nat}{a:Act}{w:World}{t:TypeId}(z:Value)
  (ho:ops[i]?=some o) (hw:Region.wanted o (yielded ops a.tmps)=true) (hop:o.op=.alloc t) (hlow:∀ b,Rd b->b<w.heap.size) (hz:(P.info? t).map (·.zero)=some (some z))
  (hnext:∀ N w',w.heap.size<=N->w'.heap[N]?=some (.cells z.cells t)->Ext w w'->OpsC P main Ext (DW Rd) fn ops rest n Q (a.put o.dst (.pointer (some ⟨N,0,none⟩))) w'):OpsC P main Ext (DW Rd) fn ops (i :: rest) (n+1) Q a w:=by
 refine opsC_cons_k ho hw fun w₁ hR K hK=>?_
 obtain⟨inf,hq,hzz⟩:=Option.map_eq_some_iff.1 hz;have hzero:(zeroValue t).run P w₁ = .ok z w₁:=by simp[zeroValue,typeInfo,hq,hzz]
 have hzero2:(zeroValue t).events P w₁ #[]=#[]:=by simp[zeroValue,typeInfo,hq,hzz]
 have hrun:(execOp a.eval o).run P w₁ = .ok (.value (.pointer (some ⟨w₁.heap.size,0,none⟩))) (w₁.alloc (.cells z.cells t)):=by
  unfold execOp;simp only[hop,Sem.run_bind,Instr.alloc,hzero,newVar,newRow,run_newObj,Sem.run_pure,Result.andThen_ok];rfl
 rw[hrun];refine hK _ _ ⟨⟨⟨rfl,rfl⟩,fun b hb=>(Ext.alloc w₁ _).block b (Nat.lt_of_lt_of_le (hlow b hb) hR.size),fun ev hev=>?_⟩,hnext _ _ hR.size ?_ (hR.trans _ _ _ (Ext.alloc _ _))⟩
 .have hm:=mem_listed hev;unfold execOp at hm;simp only[hop,Instr.alloc,hzero,hzero2,newVar,newRow,Sem.events_bind,run_newObj,Sem.run_bind,Sem.run_pure,Result.andThen_ok,Result.evThen_ok,Sem.events_pure]at hm;simp[go_sem]at hm
 .show(w₁.heap.push _)[w₁.heap.size]?=_;simp
theorem Jv{i:Nat}{rest:List Nat}{o:Oper}{n m:Nat}{a:Act}{w:World}{t e:TypeId}{l c:Operand}
  (ho:ops[i]?=some o) (hw:Region.wanted o (yielded ops a.tmps)=true) (hop:o.op=.makeSlice t l c) (hl:a.eval l=.int .i64 (m:Nat)) (hc:a.eval c=.int .i64 (m:Nat)) (hm:m<=400) (ht:uN P t=true) (he:P.underlying t=some (.slice e)) (hlow:∀ b,Rd b->b<w.heap.size)
  (hnext:∀ N w',w.heap.size<=N->w'.heap[N]?=some (.cells ((Array.range m).map fun _=>Value.int .u8 0) e)->Ext w w'->OpsC P main Ext (DW Rd) fn ops rest n Q (a.put o.dst (.slice (some ⟨N,0,none⟩) m m)) w'):OpsC P main Ext (DW Rd) fn ops (i :: rest) (n+1) Q a w:=by
 obtain⟨e',inf,hu,hq,h1,h2,h3⟩:=Bf ht;rw[he]at hu;cases hu
 refine opsC_cons_k ho hw fun w₁ hR K hK=>?_
 have wl:IntKind.i64.wrap (m:Int)=(m:Int):=by rw[IntKind.wrap_i64];omega
 have w0:IntKind.i64.wrap 0=0:=by decide
 have n1:¬((m:Int)<0):=by omega
 have n2:¬((281474976710656:Int)<(m:Int)):=by omega
 have n3:¬(m > roomBytes):=by simp only[roomBytes];omega
 have hrun:(Instr.makeSlice t (.int .i64 (m:Nat)) (.int .i64 (m:Nat))).run P w₁ = .ok (.slice (some ⟨w₁.heap.size,0,none⟩) m m) (w₁.alloc (.cells ((Array.range m).map fun _=>Value.int .u8 0) e)):=by
  by_cases hm0:m=0
  .subst hm0;simp[Instr.makeSlice,run_underlying he,asInt,asIntOf,typeInfo,hq,h1,h2,sizeOf,askRoom,newRow,w0];rw[show Array.range 0=#[] by simp[Array.range]];simp
  .simp[Instr.makeSlice,run_underlying he,asInt,asIntOf,typeInfo,hq,h1,h2,h3,sizeOf,askRoom,newRow,zeroValue,wl,n1,n2,n3,hm0,Value.cells,Nat.mod_one]
 have hevs:(Instr.makeSlice t (.int .i64 (m:Nat)) (.int .i64 (m:Nat))).events P w₁ #[]=#[]:=by
  by_cases hm0:m=0
  .subst hm0;simp[Instr.makeSlice,run_underlying he,asInt,asIntOf,typeInfo,hq,h1,h2,sizeOf,askRoom,newRow,w0]
  .simp[Instr.makeSlice,run_underlying he,asInt,asIntOf,typeInfo,hq,h1,h2,h3,sizeOf,askRoom,newRow,zeroValue,wl,n1,n2,n3,hm0,Value.cells,Nat.mod_one]
 have hx:(execOp a.eval o).run P w₁ = .ok (.value (.slice (some ⟨w₁.heap.size,0,none⟩) m m)) (w₁.alloc (.cells ((Array.range m).map fun _=>Value.int .u8 0) e)):=by
  unfold execOp;simp only[hop,hl,hc,Sem.run_bind,hrun,Result.andThen_ok,Sem.run_pure]
 rw[hx];refine hK _ _ ⟨⟨⟨rfl,rfl⟩,fun b hb=>(Ext.alloc w₁ _).block b (Nat.lt_of_lt_of_le (hlow b hb) hR.size),fun ev hev=>?_⟩,hnext _ _ hR.size ?_ (hR.trans _ _ _ (Ext.alloc _ _))⟩
 .have hm':=mem_listed hev;unfold execOp at hm';simp only[hop,hl,hc,Sem.events_bind,hrun,Result.evThen_ok,hevs,Sem.events_pure]at hm';simp at hm'
 .show(w₁.heap.push _)[w₁.heap.size]?=_;simp
theorem Jw{P:Program}{t e:TypeId}(hu:P.underlying t=some (.slice e))(d:Nat)(p:Option Addr)(a b:Nat)(w:World)(es:Array Event):(Op.equalIn (d+1) t (.slice p a b) (.slice none 0 0)).events P w es=es:=by
 rw[Op.equalIn];cases p<;>simp[Sem.events_bind,run_underlying hu]
theorem Kt{P:Program}{t e:TypeId}(hu:P.underlying t=some (.slice e))(d:Nat)(p:Option Addr)(a b:Nat)(w:World):(Op.equalIn (d+1) t (.slice p a b) (.slice none 0 0)).run P w=.ok p.isNone w:=by
 rw[Op.equalIn];cases p<;>simp[run_underlying hu]
theorem Bh{P:Program}{t e:TypeId}(hu:P.underlying t=some (.slice e))(p:Option Addr)(a b:Nat)(w:World)(es:Array Event):(binOp .neq t (.slice p a b) (.slice none 0 0)).events P w es=es:=by
 show Sem.events P (do pure (Value.bool (!(<-Op.equalIn (9999+1) t (.slice p a b) (.slice none 0 0))))) w es=es;simp only[Sem.events_bind,Kt hu,Jw hu,Result.evThen_ok,Sem.events_pure]
end
end Go.Vw
namespace Go.Proofs.YtpiefebngnlfoabGreatDoor
open Go.RowKit Go.Conc Go.Vw
def r0(c:Code):Code:=hd c
def r1(c:Code):Code:=hd (tl c)
def l1(c:Code):Code:=hd (tl (tl c))
def r7(c:Code):Code:=hd (tl (tl (tl c)))
def l2(c:Code):Code:=hd (tl (tl (tl (tl c))))
def mH(c:Code):Code:=tl (tl (tl (tl (tl c))))
def r8(c:Code):Code:=hd (l2 c)
def lb(c:Code):Code:=dE (dE (tl (l2 c)))
def r9(c:Code):Code:=hd (lb c)
def bb(c:Code):Code:=dE (hd (tl (tl (lb c))))
def nX(c:Code):Code:=tl (tl (tl (lb c)))
def r10(c:Code):Code:=hd (bb c)
def r11(c:Code):Code:=hd (hd (tl (bb c)))
def r12(c:Code):Code:=hd (tl (tl (bb c)))
def r13(c:Code):Code:=hd (tl (tl (tl (bb c))))
def r14(c:Code):Code:=hd (tl (tl (tl (tl (bb c)))))
def pP(c:Code):Code:=tl (tl (tl (tl (tl (bb c)))))
def sK(c:Code):Array Oper:=sC (r14 c)
def gQ(c:Code):Array Oper:=sC (pP c)
def sJ(c:Code):Array Oper:=sC (mH c)
def lB(c:Code):Array Oper:=sC (r7 c)
theorem Yp:Tryz.f58.body=some (Tryz.f58.body.getD .skip):=rfl
theorem zcA:(Tryz.f58.body.getD .skip)=.seq (r0 (Tryz.f58.body.getD .skip)) (.seq (r1 (Tryz.f58.body.getD .skip)) (.seq (l1 (Tryz.f58.body.getD .skip)) (.seq (r7 (Tryz.f58.body.getD .skip)) (.seq (.seq (r8 (Tryz.f58.body.getD .skip)) (.block 2 (.loop (lb (Tryz.f58.body.getD .skip))))) (mH (Tryz.f58.body.getD .skip)))))):=rfl
theorem Zo:(r14 (Tryz.f58.body.getD .skip))=.region 14 (sK (Tryz.f58.body.getD .skip)) false:=rfl
theorem Zn:(pP (Tryz.f58.body.getD .skip))=.region 15 (gQ (Tryz.f58.body.getD .skip)) false:=rfl
theorem Zm:(mH (Tryz.f58.body.getD .skip))=.region 17 (sJ (Tryz.f58.body.getD .skip)) false:=rfl
theorem zbP:(r7 (Tryz.f58.body.getD .skip))=.region 7 (lB (Tryz.f58.body.getD .skip)) false:=rfl
theorem zbV:eG Tryz.prog FG (r8 (Tryz.f58.body.getD .skip))=true:=by kernel_rfl
theorem Jd:eG Tryz.prog FG (r9 (Tryz.f58.body.getD .skip))=true:=by kernel_rfl
theorem Zv:eG Tryz.prog FG (r10 (Tryz.f58.body.getD .skip))=true:=by kernel_rfl
theorem Zu:eG Tryz.prog FG (r11 (Tryz.f58.body.getD .skip))=true:=by kernel_rfl
theorem Zt:eG Tryz.prog FG (r12 (Tryz.f58.body.getD .skip))=true:=by kernel_rfl
theorem Zs:eG Tryz.prog FG (r13 (Tryz.f58.body.getD .skip))=true:=by kernel_rfl
theorem Zr:eG Tryz.prog FG (nX (Tryz.f58.body.getD .skip))=true:=by kernel_rfl
def TT(a0 a1 a2 a4 a6 a9 a10 a11 a25 a26 a33:Value)(u:Nat->Value):Array Value:=#[a0,a1,a2,u 3,a4,u 5,a6,u 7,u 8,a9,a10,a11,u 12,u 13,u 14,u 15,u 16,u 17,u 18,u 19,u 20,u 21,u 22,u 23,u 24,a25,a26,u 27,u 28,u 29,u 30,u 31,u 32,a33,u 34,u 35,u 36,u 37,u 38,u 39,u 40,u 41,u 42,u 43]
def allA(A:Nat->Value):Array Value:=(Array.range 14).map A
theorem oS(A:Nat->Value):(allA A).size=14:=by simp[allA]
theorem jQ(A:Nat->Value)(i:Nat)(h:i<14):(allA A)[i]?=some (A i):=by simp[allA,h]
theorem uU(A:Nat->Value)(i:Nat)(y:Value):(allA A).setIfInBounds i y=allA fun c=>if c=i then y else A c:=by
 apply Array.ext_getElem?;intro c;rw[Array.getElem?_setIfInBounds];by_cases e:i=c
 .subst e;by_cases hi:i<14<;>simp[allA,hi]
 .rw[if_neg e];by_cases hi:c<14<;>simp[allA,hi,show ¬c=i from fun x=>e x.symm]
abbrev ptr (b:Nat):Value:=.pointer (some ⟨b,0,none⟩)
abbrev sl (b n:Nat):Value:=.slice (some ⟨b,0,none⟩) n n
structure FsT(v0:World)(known:Nat->Nat)(RB:Nat->Nat)(n:Nat)(x:Nat->Nat->Nat)(A:Nat->Value)(BA BK BR:Nat)(ta:TypeId)(w:World):Prop where
 ba:w.heap[BA]?=some (.cells (allA A) ta)
 bk:w.heap[BK]?=some (.cells (ten known) 117)
 br:w.heap[BR]?=some (.cells (fZ RB n) 147)
 rows:∀ j,j<10->w.heap[RB j]?=some (.cells (aC n (x j)) 5)
 kp:Kp v0 (fun b=>b=BA) w
section
variable {v0:World}{known RB:Nat->Nat}{n:Nat}{x:Nat->Nat->Nat}{A:Nat->Value}{BA BK BR:Nat}{ta:TypeId}{w w₁ : World}
theorem FsT.rely(h:FsT v0 known RB n x A BA BK BR ta w)(r:Ext w w₁):FsT v0 known RB n x A BA BK BR ta w₁:=
 ⟨r.row h.ba,r.row h.bk,r.row h.br,fun j hj=>r.row (h.rows j hj),h.kp.ext r⟩
end
def R0(RB:Nat->Nat)(BK BR:Nat)(b:Nat):Prop:=b<Tryz.prog.globals.size∨b=BK∨b=BR∨∃ j,j<10∧b=RB j
theorem FsT.low{v0:World}{known RB:Nat->Nat}{n:Nat}{x:Nat->Nat->Nat}{A:Nat->Value}{BA BK BR:Nat}{ta:TypeId}{w:World}(h:FsT v0 known RB n x A BA BK BR ta w)(hg:Tryz.prog.globals.size<=w.heap.size):∀ b,R0 RB BK BR b->b<w.heap.size:=by
 rintro b (hb|rfl|rfl|⟨j,hj,rfl⟩)
 .omega
 .exact(Array.getElem?_eq_some_iff.1 h.bk).1
 .exact(Array.getElem?_eq_some_iff.1 h.br).1
 .exact(Array.getElem?_eq_some_iff.1 (h.rows j hj)).1
section
variable {v0:World}{known RB:Nat->Nat}{n:Nat}{x:Nat->Nat->Nat}{A:Nat->Value}{BA BK BR:Nat}{ta:TypeId}{w:World}{ds:List Deferred}
structure FZ(sz:Nat)(v0:World)(known:Nat->Nat)(RB:Nat->Nat)(n:Nat)(x:Nat->Nat->Nat)(A:Nat->Value)(BA BK BR:Nat)(ta:TypeId)(w:World):Prop where
 fs:FsT v0 known RB n x A BA BK BR ta w
 sz:sz<=w.heap.size
theorem FZ.rely{sz:Nat}{w₁ : World}(h:FZ sz v0 known RB n x A BA BK BR ta w)(r:Ext w w₁):FZ sz v0 known RB n x A BA BK BR ta w₁:=⟨h.fs.rely r,Nat.le_trans h.sz r.size⟩
theorem FZ.low{sz:Nat}(h:FZ sz v0 known RB n x A BA BK BR ta w)(hl:∀ b,R0 RB BK BR b->b<sz):∀ b,R0 RB BK BR b->b<w.heap.size:=fun b hb=>Nat.lt_of_lt_of_le (hl b hb) h.sz
theorem FsT.turn(h:FsT v0 known RB n x A BA BK BR ta w){g:Nat}(hA:g≠BA)(hR:¬R0 RB BK BR g)(h0:v0.heap.size<=g)(c:Array Value):FsT v0 known RB n x A BA BK BR ta (w.setRow g c):=
 ⟨(setRow_other _ _ _ _ (Ne.symm hA)).trans h.ba,(setRow_other _ _ _ _ fun e=>hR (.inr (.inl e.symm))).trans h.bk,(setRow_other _ _ _ _ fun e=>hR (.inr (.inr (.inl e.symm)))).trans h.br,fun j hj=>(setRow_other _ _ _ _ fun e=>hR (.inr (.inr (.inr ⟨j,hj,e.symm⟩)))).trans (h.rows j hj),h.kp.setRow (.inr h0) c⟩
theorem r8_c(a1 a2 a4 a6 a9 a10 a11 a25 a26 a33:Value)(u:Nat->Value)(hF:FsT v0 known RB n x A BA BK BR ta w) :
  ∃ N,(r8 (Tryz.f58.body.getD .skip)).wpC Tryz.prog true Ext (DW (R0 RB BK BR)) 58 N (fun e a w'=>e=.normal∧a.defers=ds∧∃ u',a.tmps=TT (sl BA 14) a1 a2 a4 a6 a9 a10 a11 (.int .i64 14) (.int .i64 (0:Nat)) a33 u'∧FsT v0 known RB n x A BA BK BR ta w')
   ⟨TT (sl BA 14) a1 a2 a4 a6 a9 a10 a11 a25 a26 a33 u,ds⟩ w:=by
 have T:=fR (R0 RB BK BR);co_apply Exists.intro;simp only[r8,hd,tl,dE,lb,l2,Tryz.f58,Option.getD_some,TT,sl];co_go T FsT.rely hF (co_quiet T);exact⟨by first|trivial|rfl,by first|trivial|rfl,fun i=>if i=24 then sl BA 14 else u i,by simp,hF⟩
theorem Jk(a0 a1 a2 a4 a6 a9 a10 a11 a33:Value)(u:Nat->Value)(k:Nat)(hk:k<=14)(hF:FsT v0 known RB n x A BA BK BR ta w) :
  ∃ N,(r9 (Tryz.f58.body.getD .skip)).wpC Tryz.prog true Ext (DW (R0 RB BK BR)) 58 N (fun e a w'=>e=.normal∧a.defers=ds∧∃ u',a.tmps=TT a0 a1 a2 a4 a6 a9 a10 a11 (.int .i64 14) (.int .i64 (k:Nat)) a33 u'∧u' 27=.bool (decide ((k:Int)<14))∧FsT v0 known RB n x A BA BK BR ta w')
   ⟨TT a0 a1 a2 a4 a6 a9 a10 a11 (.int .i64 14) (.int .i64 (k:Nat)) a33 u,ds⟩ w:=by
 have T:=fR (R0 RB BK BR);co_apply Exists.intro;simp only[r9,hd,tl,dE,lb,l2,Tryz.f58,Option.getD_some,TT];co_go T FsT.rely hF (co_quiet T);exact⟨by first|trivial|rfl,by first|trivial|rfl,fun i=>if i=27 then .bool (decide ((k:Int)<14)) else u i,by simp,by simp,hF⟩
theorem zbQ(a0 a1 a2 a4 a6 a9 a10 a11 a25 a33:Value)(u:Nat->Value)(k:Nat)(hk:k<=14)(hF:FsT v0 known RB n x A BA BK BR ta w) :
  ∃ N,(nX (Tryz.f58.body.getD .skip)).wpC Tryz.prog true Ext (DW (R0 RB BK BR)) 58 N (fun e a w'=>e=.normal∧a.defers=ds∧∃ u',a.tmps=TT a0 a1 a2 a4 a6 a9 a10 a11 a25 (.int .i64 ((k+1:Nat):Int)) a33 u'∧FsT v0 known RB n x A BA BK BR ta w')
   ⟨TT a0 a1 a2 a4 a6 a9 a10 a11 a25 (.int .i64 (k:Nat)) a33 u,ds⟩ w:=by
 have T:=fR (R0 RB BK BR);co_apply Exists.intro;simp only[nX,hd,tl,dE,lb,l2,Tryz.f58,Option.getD_some,TT];co_go T FsT.rely hF (co_quiet T);have e:IntKind.i64.wrap ((k:Int)+1)=((k+1:Nat):Int):=by rw[IntKind.wrap_i64];omega
 try rw[e]
 exact⟨by first|trivial|rfl,by first|trivial|rfl,fun i=>if i=42 then .int .i64 ((k+1:Nat):Int) else u i,by simp,hF⟩
theorem zbU(a0 a1 a2 a4 a6 a9 a10 a11 a25 a33:Value)(u:Nat->Value)(k:Nat)(hg:Tryz.prog.globals.size<=w.heap.size)(hF:FsT v0 known RB n x A BA BK BR ta w) :
  ∃ N,(r10 (Tryz.f58.body.getD .skip)).wpC Tryz.prog true Ext (DW (R0 RB BK BR)) 58 N (fun e a w'=>e=.normal∧a.defers=ds∧∃ u' BC,a.tmps=TT a0 a1 a2 a4 a6 a9 (ptr BC) a11 a25 (.int .i64 (k:Nat)) a33 u'∧w.heap.size<=BC∧w'.heap[BC]?=some (.cells #[.int .i64 (k:Nat)] 3)∧FsT v0 known RB n x A BA BK BR ta w')
   ⟨TT a0 a1 a2 a4 a6 a9 a10 a11 a25 (.int .i64 (k:Nat)) a33 u,ds⟩ w:=by
 have T:=fR (R0 RB BK BR);have hlow:=hF.low hg;co_apply Exists.intro;simp only[r10,bb,hd,tl,dE,lb,l2,Tryz.f58,Option.getD_some,TT];have hH:FZ w.heap.size v0 known RB n x A BA BK BR ta w:=⟨hF,Nat.le_refl _⟩;co_go T FZ.rely hH (co_quiet T);co_apply Cj (.int .i64 0) rfl (by rfl) rfl (hH.low hlow) (by kernel_rfl);intro BC w1 hBC hr hE;try walk_nrm
 replace hBC:w.heap.size<=BC:=Nat.le_trans hH.sz hBC;have nR:¬R0 RB BK BR BC:=fun hb=>by have:=hlow BC hb;omega
 have nA:BC≠BA:=by
  have:=(Array.getElem?_eq_some_iff.1 hF.ba).1;omega
 have n0:v0.heap.size<=BC:=Nat.le_trans hF.kp.size hBC;replace hH:=hH.rely hE;co_apply tB (z:=.int .i64 (k:Nat)) rfl (by rfl) rfl rfl rfl rfl rfl hr (by decide) (by kernel_rfl) nR;intro w2 hE2;try walk_nrm
 have hr2:(w2.setRow BC #[.int .i64 (k:Nat)]).heap[BC]?=some (.cells #[.int .i64 (k:Nat)] 3):=setRow_heap _ _ _ _ _ _ (hE2.row hr);have hH2:=(hH.rely hE2).fs.turn nA nR n0 #[.int .i64 (k:Nat)];co_apply opsC_nil T;refine⟨by first|trivial|rfl,by first|trivial|rfl,fun i=>if i=28 then .int .i64 (k:Nat) else u i,BC,by simp,hBC,?_,?_⟩
 .exact hr2
 .exact hH2
structure FC(sz:Nat)(k BC:Nat)(v0:World)(known:Nat->Nat)(RB:Nat->Nat)(n:Nat)(x:Nat->Nat->Nat)(A:Nat->Value)(BA BK BR:Nat)(ta:TypeId)(w:World):Prop where
 fs:FsT v0 known RB n x A BA BK BR ta w
 sz:sz<=w.heap.size
 bc:w.heap[BC]?=some (.cells #[.int .i64 (k:Nat)] 3)
theorem FC.rely{sz k BC:Nat}{w₁ : World}(h:FC sz k BC v0 known RB n x A BA BK BR ta w)(r:Ext w w₁):FC sz k BC v0 known RB n x A BA BK BR ta w₁:=⟨h.fs.rely r,Nat.le_trans h.sz r.size,r.row h.bc⟩
theorem zbT(a1 a2 a4 a6 a9 a11 a25 a26 a33:Value)(u:Nat->Value)(k BC:Nat)(hk:k<14)(t:Bool)(hA:(t=true∧∃ b,A k=sl b n)∨(t=false∧A k=.slice none 0 0))(hg:Tryz.prog.globals.size<=w.heap.size)(hF:FC w.heap.size k BC v0 known RB n x A BA BK BR ta w) :
  ∃ N,(r11 (Tryz.f58.body.getD .skip)).wpC Tryz.prog true Ext (DW (R0 RB BK BR)) 58 N (fun e a w'=>e=.normal∧a.defers=ds∧∃ u',a.tmps=TT (sl BA 14) a1 a2 a4 a6 a9 (ptr BC) a11 a25 a26 (.bool t) u'∧FC w.heap.size k BC v0 known RB n x A BA BK BR ta w')
   ⟨TT (sl BA 14) a1 a2 a4 a6 a9 (ptr BC) a11 a25 a26 a33 u,ds⟩ w:=by
 have T:=fR (R0 RB BK BR);have hkI:(k:Int)<14:=by omega
 co_apply Exists.intro;simp only[r11,bb,hd,tl,dE,lb,l2,Tryz.f58,Option.getD_some,TT,sl,ptr];co_go T FC.rely hF (co_quiet T);co_opw FC.rely hF (have hc:=cell_of_row _ BC 0 _ _ _ (FC.bc hF);simp at hc) (refine⟨⟨rfl,rfl⟩,fun _ _=>rfl,?_⟩;co_evs (exact⟨_,rfl,rfl,by simp⟩))
 co_opw FC.rely hF (skip) (rw[listed_nil (by(simp[go_sem];exact oA (show kP _ _=true by kernel_rfl) hk))];exact Terms.idle T _);rcases hA with⟨rfl,bx,hA⟩|⟨rfl,hA⟩
 .co_opw FC.rely hF (have hc:=(cell_of_row _ BA k _ _ _ (FC.fs hF).ba).trans (jQ A k hk);rw[hA]at hc) (refine⟨⟨rfl,rfl⟩,fun _ _=>rfl,?_⟩;co_evs (exact⟨_,rfl,rfl,by simp⟩))
  co_opw FC.rely hF (skip) (rw[listed_nil (by(simp[go_sem];exact Bh Tryz.underlying48 _ _ _ _ _))];exact Terms.idle T _);co_go T FC.rely hF (co_quiet T);exact⟨by first|trivial|rfl,by first|trivial|rfl,fun i=>if i=29 then sl BA 14 else if i=30 then .int .i64 (k:Nat) else if i=31 then .pointer (some ⟨BA,k,none⟩) else if i=32 then sl bx n else u i,by simp,hF⟩
 .co_opw FC.rely hF (have hc:=(cell_of_row _ BA k _ _ _ (FC.fs hF).ba).trans (jQ A k hk);rw[hA]at hc) (refine⟨⟨rfl,rfl⟩,fun _ _=>rfl,?_⟩;co_evs (exact⟨_,rfl,rfl,by simp⟩))
  co_opw FC.rely hF (skip) (rw[listed_nil (by(simp[go_sem];exact Bh Tryz.underlying48 _ _ _ _ _))];exact Terms.idle T _);co_go T FC.rely hF (co_quiet T);exact⟨by first|trivial|rfl,by first|trivial|rfl,fun i=>if i=29 then sl BA 14 else if i=30 then .int .i64 (k:Nat) else if i=31 then .pointer (some ⟨BA,k,none⟩) else if i=32 then .slice none 0 0 else u i,by simp,hF⟩
structure FP(sz:Nat)(k BC PB BP:Nat)(v0:World)(known:Nat->Nat)(RB:Nat->Nat)(n:Nat)(x:Nat->Nat->Nat)(A:Nat->Value)(BA BK BR:Nat)(ta:TypeId)(w:World):Prop where
 fs:FsT v0 known RB n x A BA BK BR ta w
 sz:sz<=w.heap.size
 bc:w.heap[BC]?=some (.cells #[.int .i64 (k:Nat)] 3)
 pb:w.heap[PB]?=some (.cells (aC n fun _=>0) 5)
 bp:w.heap[BP]?=some (.cells #[sl PB n] 48)
theorem FP.rely{sz k BC PB BP:Nat}{w₁ : World}(h:FP sz k BC PB BP v0 known RB n x A BA BK BR ta w)(r:Ext w w₁):FP sz k BC PB BP v0 known RB n x A BA BK BR ta w₁:=⟨h.fs.rely r,Nat.le_trans h.sz r.size,r.row h.bc,r.row h.pb,r.row h.bp⟩
theorem oH(m:Nat):((Array.range m).map fun _=>Value.int .u8 0)=aC m fun _=>0:=by simp[aC]
theorem zbS(a0 a1 a4 a6 a9 a11 a25 a26 a33:Value)(u:Nat->Value)(k BC:Nat)(hn:n<=400)(hg:Tryz.prog.globals.size<=w.heap.size)(hF:FC w.heap.size k BC v0 known RB n x A BA BK BR ta w) :
  ∃ N,(r12 (Tryz.f58.body.getD .skip)).wpC Tryz.prog true Ext (DW (R0 RB BK BR)) 58 N (fun e a w'=>e=.normal∧a.defers=ds∧∃ u' PB BP,a.tmps=TT a0 a1 (.int .i64 (n:Nat)) a4 a6 a9 (ptr BC) (ptr BP) a25 a26 a33 u'∧w.heap.size<=PB∧PB<BP∧FP w.heap.size k BC PB BP v0 known RB n x A BA BK BR ta w')
   ⟨TT a0 a1 (.int .i64 (n:Nat)) a4 a6 a9 (ptr BC) a11 a25 a26 a33 u,ds⟩ w:=by
 have T:=fR (R0 RB BK BR);have hlow:=hF.fs.low hg;have hBC:BC<w.heap.size:=(Array.getElem?_eq_some_iff.1 hF.bc).1;have hH:=hF;co_apply Exists.intro;simp only[r12,bb,hd,tl,dE,lb,l2,Tryz.f58,Option.getD_some,TT,sl,ptr];co_go T FC.rely hH (co_quiet T);co_apply Jv rfl (by rfl) rfl rfl rfl hn (by kernel_rfl) Tryz.underlying48 (fun b hb=>Nat.lt_of_lt_of_le (hlow b hb) hH.sz);intro PB w1 hPB hr hE;try walk_nrm
 rw[oH]at hr;replace hPB:w.heap.size<=PB:=Nat.le_trans hH.sz hPB;have hP1:PB<w1.heap.size:=(Array.getElem?_eq_some_iff.1 hr).1;replace hH:=hH.rely hE;co_apply Cj (.slice none 0 0) rfl (by rfl) rfl (fun b hb=>Nat.lt_of_lt_of_le (hlow b hb) hH.sz) (by kernel_rfl);intro BP w2 hBP hr2 hE2;try walk_nrm
 replace hH:=hH.rely hE2;have nR:¬R0 RB BK BR BP:=fun hb=>by have:=hlow BP hb;omega
 have nA:BP≠BA:=by
  have:=(Array.getElem?_eq_some_iff.1 hF.fs.ba).1;omega
 have n0:v0.heap.size<=BP:=Nat.le_trans hF.fs.kp.size (by omega);co_apply tB (z:=sl PB n) rfl (by rfl) rfl rfl rfl rfl rfl hr2 (by decide) (by kernel_rfl) nR;intro w3 hE3;try walk_nrm
 have hr3:(w3.setRow BP #[sl PB n]).heap[BP]?=some (.cells #[sl PB n] 48):=setRow_heap _ _ _ _ _ _ (hE3.row hr2);have hFS:=(hH.rely hE3).fs.turn nA nR n0 #[sl PB n];co_apply opsC_nil T;refine⟨by first|trivial|rfl,by first|trivial|rfl,fun i=>if i=34 then .int .i64 (n:Nat) else if i=35 then sl PB n else u i,PB,BP,by simp,hPB,by omega,?_⟩
 refine⟨hFS,?_,?_,?_,hr3⟩
 .have:=(hH.rely hE3).sz;simpa [World.setRow] using this
 .exact(setRow_other _ _ _ _ (by omega)).trans (hH.rely hE3).bc
 .exact(setRow_other _ _ _ _ (by omega)).trans (hE3.row (hE2.row hr))
theorem zbR(a1 a2 a4 a6 a9 a25 a26 a33:Value)(u:Nat->Value)(k BC PB BP:Nat)(hk:k<14)(hBA:¬R0 RB BK BR BA)(nC:BC≠BA)(nP:PB≠BA)(nB:BP≠BA)(hF:FP w.heap.size k BC PB BP v0 known RB n x A BA BK BR ta w) :
  ∃ N,(r13 (Tryz.f58.body.getD .skip)).wpC Tryz.prog true Ext (DW (R0 RB BK BR)) 58 N (fun e a w'=>e=.normal∧a.defers=ds∧∃ u',a.tmps=TT (sl BA 14) a1 a2 a4 a6 a9 (ptr BC) (ptr BP) a25 a26 a33 u'∧FP w.heap.size k BC PB BP v0 known RB n x (fun c=>if c=k then sl PB n else A c) BA BK BR ta w')
   ⟨TT (sl BA 14) a1 a2 a4 a6 a9 (ptr BC) (ptr BP) a25 a26 a33 u,ds⟩ w:=by
 have T:=fR (R0 RB BK BR);have hkI:(k:Int)<14:=by omega
 co_apply Exists.intro;simp only[r13,bb,hd,tl,dE,lb,l2,Tryz.f58,Option.getD_some,TT,sl,ptr];co_go T FP.rely hF (co_quiet T);co_opw FP.rely hF (have hc:=cell_of_row _ BC 0 _ _ _ (FP.bc hF);simp at hc) (refine⟨⟨rfl,rfl⟩,fun _ _=>rfl,?_⟩;co_evs (exact⟨_,rfl,rfl,by simp⟩))
 co_opw FP.rely hF (have hc:=cell_of_row _ BP 0 _ _ _ (FP.bp hF);simp at hc) (refine⟨⟨rfl,rfl⟩,fun _ _=>rfl,?_⟩;co_evs (exact⟨_,rfl,rfl,by simp⟩))
 co_opw FP.rely hF (skip) (rw[listed_nil (by(simp[go_sem];exact oA (show kP _ _=true by kernel_rfl) hk))];exact Terms.idle T _);co_apply tB (z:=sl PB n) rfl (by rfl) rfl rfl rfl rfl rfl hF.fs.ba (by rw[oS];exact hk) (by kernel_rfl) hBA;intro w3 hE3;try walk_nrm
 replace hF:=hF.rely hE3;rw[uU];have nK:BK≠BA:=fun e=>hBA (e▸.inr (.inl rfl))
 have nR:BR≠BA:=fun e=>hBA (e▸.inr (.inr (.inl rfl)))
 have nj:∀ j,j<10->RB j≠BA:=fun j hj e=>hBA (e▸.inr (.inr (.inr ⟨j,hj,rfl⟩)))
 have hFS:FP w.heap.size k BC PB BP v0 known RB n x (fun c=>if c=k then sl PB n else A c) BA BK BR ta (w3.setRow BA (allA fun c=>if c=k then sl PB n else A c)):=by
  refine⟨⟨setRow_heap _ _ _ _ _ _ hF.fs.ba,(setRow_other _ _ _ _ nK).trans hF.fs.bk,(setRow_other _ _ _ _ nR).trans hF.fs.br,fun j hj=>(setRow_other _ _ _ _ (nj j hj)).trans (hF.fs.rows j hj),hF.fs.kp.setRow (.inl rfl) _⟩,?_,(setRow_other _ _ _ _ nC).trans hF.bc,(setRow_other _ _ _ _ nP).trans hF.pb,(setRow_other _ _ _ _ nB).trans hF.bp⟩
  have:=hF.sz;simpa [World.setRow] using this
 co_apply opsC_nil T;exact⟨by first|trivial|rfl,by first|trivial|rfl,fun i=>if i=36 then sl BA 14 else if i=37 then .int .i64 (k:Nat) else if i=38 then sl PB n else if i=39 then .pointer (some ⟨BA,k,none⟩) else u i,by simp,hFS⟩
end
def iN(RB:Nat->Nat)(n j:Nat):Array Value:=(Array.range 10).map fun i=>if i<j then sl (RB i) n else .slice none 0 0
theorem Dc(RB:Nat->Nat)(n j:Nat):(iN RB n j).size=10:=by simp[iN]
theorem Ri(RB:Nat->Nat)(n:Nat):iN RB n 10=fZ RB n:=by
 apply Array.ext_getElem?;intro c;by_cases hi:c<10<;>simp[iN,fZ,hi,sl]
theorem Rj(RB:Nat->Nat)(n j:Nat):(iN RB n j).setIfInBounds j (sl (RB j) n)=iN RB n (j+1):=by
 apply Array.ext_getElem?;intro c;rw[Array.getElem?_setIfInBounds];by_cases e:j=c
 .subst e;by_cases hi:j<10<;>simp[iN,hi]
 .rw[if_neg e];by_cases hi:c<10<;>simp[iN,hi,show c<j+1↔c<j by omega]
theorem Oo(RB:Nat->Nat)(n:Nat):iN RB n 0=#[.slice none 0 0,.slice none 0 0,.slice none 0 0,.slice none 0 0,.slice none 0 0,.slice none 0 0,.slice none 0 0,.slice none 0 0,.slice none 0 0,.slice none 0 0]:=by
 apply Array.ext_getElem?;intro c;by_cases hi:c<10
 .have:c=0∨c=1∨c=2∨c=3∨c=4∨c=5∨c=6∨c=7∨c=8∨c=9:=by omega
  rcases this with rfl|rfl|rfl|rfl|rfl|rfl|rfl|rfl|rfl|rfl<;>simp[iN]
 .rw[Array.getElem?_eq_none (by rw[Dc];omega),Array.getElem?_eq_none (by simp;omega)]
structure FH(v0:World)(known:Nat->Nat)(RB:Nat->Nat)(n:Nat)(A:Nat->Value)(BA BK BR m:Nat)(ta:TypeId)(w:World):Prop where
 ba:w.heap[BA]?=some (.cells (allA A) ta)
 bk:w.heap[BK]?=some (.cells (ten known) 117)
 br:w.heap[BR]?=some (.cells (iN RB n m) 147)
 kp:Kp v0 (fun b=>b=BA) w
theorem FH.rely{v0:World}{known RB:Nat->Nat}{n:Nat}{A:Nat->Value}{BA BK BR m:Nat}{ta:TypeId}{w w₁ : World}(h:FH v0 known RB n A BA BK BR m ta w)(r:Ext w w₁):FH v0 known RB n A BA BK BR m ta w₁:=
 ⟨r.row h.ba,r.row h.bk,r.row h.br,h.kp.ext r⟩
section
variable {v0:World}{known RB:Nat->Nat}{n:Nat}{A:Nat->Value}{BA BK BR:Nat}{ta:TypeId}{ds:List Deferred}
theorem r0_c(a0 a2 a4 a6 a9 a10 a11 a25 a26 a33:Value)(u:Nat->Value)(hb:BA<v0.heap.size) :
  ∃ N,(r0 (Tryz.f58.body.getD .skip)).wpC Tryz.prog true Ext (DW fun b=>b=BA) 58 N (fun e a w'=>e=.normal∧a.defers=ds∧∃ u' BK,a.tmps=TT a0 (.agg (ten known)) a2 (ptr BK) a6 a9 a10 a11 a25 a26 a33 u'∧v0.heap.size<=BK∧w'.heap[BK]?=some (.cells (ten known) 117)∧Ext v0 w')
   ⟨TT a0 (.agg (ten known)) a2 a4 a6 a9 a10 a11 a25 a26 a33 u,ds⟩ v0:=by
 have T:=fR fun b=>b=BA
 co_apply Exists.intro;simp only[r0,hd,Tryz.f58,Option.getD_some,TT];co_reg T;co_apply qA (ten known) rfl (by rfl) rfl (fun b hb'=>hb'▸hb) rfl;intro BK w1 hBK hr hE;try walk_nrm
 co_apply opsC_nil T;exact⟨by first|trivial|rfl,by first|trivial|rfl,u,BK,by simp,hBK,hr,hE⟩
theorem r1_c(a0 a1 a2 a6 a9 a10 a11 a25 a26 a33:Value)(u:Nat->Value){w:World}(hA:v0.heap[BA]?=some (.cells (allA A) ta))(hBK:w.heap[BK]?=some (.cells (ten known) 117))(hE:Ext v0 w) :
  ∃ N,(r1 (Tryz.f58.body.getD .skip)).wpC Tryz.prog true Ext (DW fun b=>b=BA) 58 N (fun e a w'=>e=.normal∧a.defers=ds∧∃ u' BR,a.tmps=TT a0 a1 a2 (ptr BK) (ptr BR) a9 a10 a11 a25 a26 a33 u'∧w.heap.size<=BR∧FH v0 known RB n A BA BK BR 0 ta w')
   ⟨TT a0 a1 a2 (ptr BK) a6 a9 a10 a11 a25 a26 a33 u,ds⟩ w:=by
 have T:=fR fun b=>b=BA
 have hb:BA<w.heap.size:=(Array.getElem?_eq_some_iff.1 (hE.row hA)).1;co_apply Exists.intro;simp only[r1,hd,tl,Tryz.f58,Option.getD_some,TT];co_reg T;co_apply wO (iN RB n 0) rfl (by rfl) rfl (fun b hb'=>hb'▸hb) (by rw[Oo];kernel_rfl);intro BR w1 hBR hr hE1;try walk_nrm
 co_apply opsC_nil T;exact⟨by first|trivial|rfl,by first|trivial|rfl,u,BR,by simp,hBR,⟨hE1.row (hE.row hA),hE1.row hBK,hr,((Kp.refl v0 _).ext hE).ext hE1⟩⟩
theorem l1_c(a2 a9 a10 a11 a25 a26 a33:Value)(u:Nat->Value){w:World}(hA:∀ j,j<10->A (known j)=sl (RB j) n)(hkn:∀ j,j<10->known j<14)(hBR:v0.heap.size<=BR)(hKR:BK≠BR)(hAR:BA≠BR)(hH:FH v0 known RB n A BA BK BR 0 ta w) :
  ∃ N,(l1 (Tryz.f58.body.getD .skip)).wpC Tryz.prog true Ext (DW fun b=>b=BA) 58 N (fun e a w'=>e=.normal∧a.defers=ds∧∃ u',a.tmps=TT (sl BA 14) (.agg (ten known)) a2 (ptr BK) (ptr BR) a9 a10 a11 a25 a26 a33 u'∧FH v0 known RB n A BA BK BR 10 ta w')
   ⟨TT (sl BA 14) (.agg (ten known)) a2 (ptr BK) (ptr BR) a9 a10 a11 a25 a26 a33 u,ds⟩ w:=by
 have T:=fR fun b=>b=BA
 co_apply Exists.intro;simp only[l1,hd,tl,Tryz.f58,Option.getD_some,TT,sl,ptr];co_apply wpC_seq T;co_reg T;co_apply tE rfl (by rfl) rfl rfl hH.bk (by kernel_rfl) (by rw[gK];kernel_rfl);intro w1 hE;replace hH:=hH.rely hE;try walk_nrm
 co_go T FH.rely hH (co_quiet T)
 co_apply wpC_loop T (fun act w'=>∃ (m:Nat) (u:Nat->Value),m<=10∧FH v0 known RB n A BA BK BR m ta w'∧
   act=⟨#[sl BA 14,.agg (ten known),a2,u 3,ptr BK,u 5,ptr BR,u 7,u 8,a9,a10,a11,.agg (ten known),.int .i64 (m:Nat),u 14,u 15,u 16,u 17,u 18,u 19,u 20,u 21,u 22,u 23,u 24,a25,a26,u 27,u 28,u 29,u 30,u 31,u 32,a33,u 34,u 35,u 36,u 37,u 38,u 39,u 40,u 41,u 42,u 43],ds⟩)
  (fun act _=>10 - (intOf (act.tmps.getD 13 undef)).toNat) _ 10 ?h0 ?hN ?round
 case h0=>exact⟨0,u,by omega,hH,by simp[sl]⟩
 case hN=>simp[intOf]
 case round=>
  rintro act w' ⟨m,u,hm,hH,rfl⟩;simp only[sl,ptr];co_go T FH.rely hH (co_quiet T);co_split T (decide ((m:Int)<10))
  .intro hz;have hm7:m<10:=by have:=of_decide_eq_true hz;omega
   have hmI:(m:Int)<10:=by omega
   have hk14:=hkn m hm7;have hkI:(known m:Int)<14:=by omega
   co_go T FH.rely hH (co_quiet T);co_apply xM T rfl (by rfl) rfl rfl rfl (show jD _ _=some 10 by kernel_rfl) hm7 (rI known m hm7);intro w₃ hR;replace hH:=hH.rely hR;clear hR;try walk_nrm
   co_go T FH.rely hH ((refine Vb T ?_;first|(simp[go_sem];done)|(simp[go_sem];exact oA (show kP _ _=true by kernel_rfl) hk14)))
   co_opw FH.rely hH (have hc:=(cell_of_row _ BA (known m) _ _ _ (FH.ba hH)).trans (jQ A (known m) hk14);rw[hA m hm7]at hc) (refine⟨⟨rfl,rfl⟩,fun _ _=>rfl,?_⟩;co_evs (exact⟨_,rfl,rfl,by simp⟩))
   co_opw FH.rely hH (skip) (rw[listed_nil (by(simp[go_sem];exact sZ (show jD _ _=some 10 by kernel_rfl) hm7))];exact Terms.idle T _);co_apply tB (Rd:=fun b=>b=BA) (z:=sl (RB m) n) rfl (by rfl) rfl rfl rfl rfl rfl hH.br (by rw[Dc];exact hm7) (by kernel_rfl) (Ne.symm hAR)
   intro w₄ hR;rw[Rj];replace hH:=hH.rely hR;have hH':FH v0 known RB n A BA BK BR (m+1) ta (w₄.setRow BR (iN RB n (m+1))):=
    ⟨(setRow_other _ _ _ _ hAR).trans hH.ba,(setRow_other _ _ _ _ hKR).trans hH.bk,setRow_heap _ _ _ _ _ _ hH.br,hH.kp.setRow (.inr hBR) _⟩
   clear hH hR;generalize w₄.setRow BR (iN RB n (m+1))=w₅ at hH';try walk_nrm
   co_go T FH.rely hH' (co_quiet T);have e:IntKind.i64.wrap ((m:Int)+1)=((m+1:Nat):Int):=by rw[IntKind.wrap_i64];omega
   rw[e];exact⟨⟨m+1,fun i=>#[undef,undef,undef,u 3,undef,u 5,undef,.int .i64 (m:Nat),.int .i64 (known m:Nat),undef,undef,undef,undef,undef,.bool true,.int .i64 (m:Nat),.int .i64 (known m:Nat),.int .i64 (m:Nat),sl BA 14,.int .i64 (known m:Nat),.pointer (some ⟨BA,known m,none⟩),sl (RB m) n,.pointer (some ⟨BR,m,none⟩),.int .i64 ((m+1:Nat):Int)].getD i (u i),by omega,hH',by simp[sl,ptr];try exact hz⟩,by simp[intOf];omega⟩
  .intro hz;have h0:m=10:=by
    have:=of_decide_eq_false hz;omega
   subst h0;co_go T FH.rely hH (co_quiet T);exact⟨by first|trivial|rfl,by first|trivial|rfl,fun i=>if i=12 then .agg (ten known) else if i=13 then .int .i64 10 else if i=14 then .bool false else u i,by simp,hH⟩
end
open Go.RowKit Go.Conc Go.ConcN Go.Vw
open Go.ConcR (KK WgAt wgBlock stA smA rd wr mk DC0)
def jM(n:Nat):Frame:={(default:Frame) with fn:=n,defers:=[],mode:=.panicking [goexitEntry]}
def wb:Frame:=baseD 81
def ph(P:Program)(S:Nat->Prop)(Wg L Dz:Nat)(W0:World):Ph:=⟨P,FG,link.tWg,Wg,L,S,wb,qX link Wg,[jM P.funcs.size],Dz,35,W0⟩
theorem Rt(T:Array Value)(todo:List Item):QuitsD Tryz.prog 2 0 (G {wb.at ⟨T,[]⟩ todo with mode:=.returning} [(jM Tryz.prog.funcs.size)]):=by
 refine QuitsD.ctl (g':=G (jM Tryz.prog.funcs.size) []) rfl (fun w=>?_) ?_
 .simp[G,stepG,unwind,doReturn,results,Frame.at,wb,baseD,jM,Tryz.func81,Tryz.f81,seen,GStep.after,goexitEntry]
 refine QuitsD.ctl (g':={G (jM Tryz.prog.funcs.size) []with status:=.finished}) rfl (fun w=>?_) ⟨rfl,rfl⟩;simp[G,stepG,unwind,jM,goexitEntry,Frame.catches];rfl
theorem nO{S:Nat->Prop}{Wg L Dz:Nat}{W0:World}(hW:¬S Wg):(ph Tryz.prog S Wg L Dz W0).Ok:=
 ⟨aB,by simp[ph,wb,baseD],hW,fun tmps todo W hl=>To lX Rt tmps todo W hl⟩
def callW(Wg BP BR BK BC:Nat):Deferred:={target:=.fn (.func 81) #[ptr Wg,ptr BP,ptr BR,ptr BK,ptr BC],args:=#[]}
def sI(c:Code):Array Oper:=sC (hd c)
theorem Tn:(Tryz.f81.body.getD .skip)=.seq (.region 0 (sI (Tryz.f81.body.getD .skip)) false) (kD Tryz.f81.body):=rfl
def wtm(Wg BP BR BK BC:Nat):Array Value:=#[ptr Wg,ptr BP,ptr BR,ptr BK,ptr BC,undef,undef,undef,undef,undef,undef]
theorem Tm(Wg BP BR BK BC:Nat)(w:World):stepG Tryz.prog false (born Tryz.prog (callW Wg BP BR BK BC)) w =
  .go (G (wb.at ⟨wtm Wg BP BR BK BC,[]⟩ [.code (Tryz.f81.body.getD .skip)]) [(jM Tryz.prog.funcs.size)]) w #[]:=by
 simp[born,callW,stepG,unwind,callDeferred,invoke,callFunc,Tryz.func81,Tryz.f81,seen,GStep.after,G,Frame.enter,Frame.at,wb,baseD,jM,wtm]
def cP(c:Code)(Wg BP BR BK BC:Nat):WAt:=.top (wtm Wg BP BR BK BC) [.code c]
theorem Zi(Wg BP BR BK BC:Nat):(cP (kD Tryz.f81.body) Wg BP BR BK BC).Ok Tryz.prog FG:=by
 refine⟨fun x hx=>?_⟩
 replace hx:x∈[Item.code (kD Tryz.f81.body)]:=hx;simp only[List.mem_singleton]at hx;subst hx;show eG Tryz.prog FG (kD Tryz.f81.body)=true;kernel_rfl
theorem zcC(Wg BP BR BK BC:Nat)(W:World) :
  Goes Tryz.prog false (fun _ _=>True) DC0 (fun g' _=>g'=(cP (kD Tryz.f81.body) Wg BP BR BK BC).g wb (qX link Wg) [(jM Tryz.prog.funcs.size)]) 5 (born Tryz.prog (callW Wg BP BR BK BC)) W:=by
 refine Goes.step rfl fun w₁ _=>?_
 rw[Tm];refine⟨⟨rfl,rfl⟩,?_⟩;rw[Tn];refine Goes.step rfl fun w₂ _=>?_
 rw[stepG_seq];refine⟨⟨rfl,rfl⟩,?_⟩;refine Goes.step rfl fun w₃ _=>?_
 rw[stepG_region];refine⟨⟨rfl,rfl⟩,?_⟩;refine Goes.step rfl fun w₄ _=>?_
 rw[show List.range (sI (Tryz.f81.body.getD .skip)).size=[0] from rfl,stepG_defer (o:=(sI (Tryz.f81.body.getD .skip))[0]'(by decide)) rfl (by rfl) (by simp[wb,baseD]) (rfl:((sI (Tryz.f81.body.getD .skip))[0]'(by decide)).op=.defer {callee:=.value (.func link.done),args:=#[.tmp 0],argTypes:=#[link.tWg]})];refine⟨⟨rfl,rfl⟩,?_⟩;refine Goes.step rfl fun w₅ _=>?_
 rw[stepG_region_end];refine⟨⟨rfl,rfl⟩,?_⟩;intro w₆ _;have e0:((sI (Tryz.f81.body.getD .skip))[0]'(by decide)).dst=none:=rfl;simp[cP,WAt.g,WAt.top,qX,wtm,Act.eval,Act.put,e0]
section
variable {Stop:Goroutine->(Nat->Prop)->World->Prop}{S:Nat->Prop}{v:World}{cs:List Frame}{k:List Item}{Wg L Dz:Nat}{W0:World}{n:Nat}{pl:Nat->Nat}{res:Nat->Obj}{R:Nat->Prop}{a0 a1 a2 a4 a6 a9 a10 a11 a25 a26 a33:Value}{u:Nat->Value}
theorem Va(hS:∀ b,S b->b<v.heap.size)(hglob:Tryz.prog.globals.size<=v.heap.size)(hDz:∃ c t fr,v.heap[Dz]?=some (.cells c t fr))(hRDz:R Dz)(hR0:∀ b,R b->¬S b∧b<v.heap.size){pl:Nat->Nat}{res:Nat->Obj}
  (h:∀ L W0,cE (ph Tryz.prog S v.heap.size L Dz W0) Stop (.sp 0 5) 0 (G ((base 58).at ⟨TT a0 a1 a2 a4 a6 (ptr v.heap.size) a10 a11 a25 a26 a33 u,[]⟩ k) cs) L pl res R (pad v 1)) :
  Vw.Reach Tryz.prog Stop (G ((base 58).at ⟨TT a0 a1 a2 a4 a6 a9 a10 a11 a25 a26 a33 u,[]⟩ (.code (r7 (Tryz.f58.body.getD .skip)) :: k)) cs) S v:=by
 rw[zbP];refine Bm ?_;rw[show List.range (lB (Tryz.f58.body.getD .skip)).size=[0] from rfl];refine Mq (F:=FG) (ty:=link.tWg) (wb:=wb) (ds:=qX link v.heap.size) (fl:=[(jM Tryz.prog.funcs.size)]) (K0:=35) (pl:=pl) (res:=res) (g':=G ((base 58).at ⟨TT a0 a1 a2 a4 a6 (ptr v.heap.size) a10 a11 a25 a26 a33 u,[]⟩ (.inRegion (lB (Tryz.f58.body.getD .skip)) [] :: k)) cs) rfl (fun W hW=>?_) hglob hDz hRDz hR0 fun L W0=>?_
 .have hrun:(execOp (⟨TT a0 a1 a2 a4 a6 a9 a10 a11 a25 a26 a33 u,[]⟩:Act).eval ((lB (Tryz.f58.body.getD .skip))[0]'(by decide))).run Tryz.prog W=.ok (.value (ptr W.heap.size)) (W.alloc (wgBlock link.tWg 0 0)):=by
   unfold execOp;rw[show((lB (Tryz.f58.body.getD .skip))[0]'(by decide)).op=.alloc link.tWg from rfl];simp[Instr.alloc,Tryz.zeroValue155,newVar,newRow,wgBlock,Value.cells]
  have hev:(execOp (⟨TT a0 a1 a2 a4 a6 a9 a10 a11 a25 a26 a33 u,[]⟩:Act).eval ((lB (Tryz.f58.body.getD .skip))[0]'(by decide))).events Tryz.prog W #[]=#[]:=by
   unfold execOp;rw[show((lB (Tryz.f58.body.getD .skip))[0]'(by decide)).op=.alloc link.tWg from rfl];simp[go_sem,Instr.alloc,newVar,newRow]
  rw[stepG_value (o:=(lB (Tryz.f58.body.getD .skip))[0]'(by decide)) rfl (by rfl) (by simp[base]) hrun,listed_nil hev,<-hW.size];have e0:((lB (Tryz.f58.body.getD .skip))[0]'(by decide)).dst=some 9:=rfl;simp[Act.put,e0,TT]
 .exact wH (nO fun h=>absurd (hS _ h) (by omega)) (by simp) (by simp[ph,pend]) (h L W0)
theorem Rs(hW:¬S Wg)(hb:n - L+1<2147483648)
  (h:cE (ph Tryz.prog S Wg L Dz W0) Stop (.sp 0 3) 0 (G ((base 58).at ⟨TT a0 a1 a2 a4 a6 (ptr Wg) a10 a11 a25 a26 a33 (fun i=>if i=40 then .tuple #[] else u i),[]⟩ k) cs) n pl res R v) :
  cE (ph Tryz.prog S Wg L Dz W0) Stop (.sp 0 5) 0 (G ((base 58).at ⟨TT a0 a1 a2 a4 a6 (ptr Wg) a10 a11 a25 a26 a33 u,[]⟩ (.code (r14 (Tryz.f58.body.getD .skip)) :: k)) cs) n pl res R v:=by
 have ok:(ph Tryz.prog S Wg L Dz W0).Ok:=nO hW;rw[Zo];refine wN ok (by simp) (by simp[ph,pend];omega) ?_;rw[show List.range (sK (Tryz.f58.body.getD .skip)).size=[0] from rfl];refine iS ok rfl (by simp) (by simp[ph,pend];omega) (a':=G (Frame.enter Tryz.prog link.add #[ptr Wg,.int .i64 1] .normal) ((base 58).at ⟨TT a0 a1 a2 a4 a6 (ptr Wg) a10 a11 a25 a26 a33 u,[]⟩ (.inRegion (sK (Tryz.f58.body.getD .skip)) [0] :: k) :: cs)) (fun W=>?_) ?_
 .exact pR (o:=(sK (Tryz.f58.body.getD .skip))[0]'(by decide)) rfl (by rfl) (by simp[base]) rfl lX.f_add (Go.ConcR.Gen.nm_add link) rfl (by simp[Act.eval,TT])
 .rw[enter_at _ lX.f_add rfl];refine Oy ok (by simp[ph];omega) (m:=30) (fun W hl=>Wz lX W hl) ?_;have e0:((sK (Tryz.f58.body.getD .skip))[0]?).bind (·.dst)=some 40:=rfl;rw[e0];refine wH ok (by simp) (by simp[ph,pend];omega) ?_;have e1:(TT a0 a1 a2 a4 a6 (ptr Wg) a10 a11 a25 a26 a33 u).setIfInBounds 40 (.tuple #[])=TT a0 a1 a2 a4 a6 (ptr Wg) a10 a11 a25 a26 a33 (fun i=>if i=40 then .tuple #[] else u i):=by simp[TT]
  simp only[e1];exact h
theorem Rr(hW:¬S Wg)(hb:n - L+1<2147483648){BC BP PB BR BK:Nat}{rob:Obj}{X Y:Nat->Prop}(hR0:∀ b,R b->b<v.heap.size)(hglob:∀ b,b<Tryz.prog.globals.size->R b)(hXY:∀ b,X b∨Y b->(∃ c t fr,v.heap[b]?=some (.cells c t fr))∧¬R b)(hdis:∀ b,X b->¬Y b){nW:Nat}
  (hwalk:∀ u:World,(∀ b,R b∨Y b∨X b->u.heap[b]?=v.heap[b]?)->Goes Tryz.prog false Ext (DW fun b=>R b∨Y b) (kI wb Dz fun w=>w.heap[PB]?=some rob) nW ((cP (kD Tryz.f81.body) Wg BP BR BK BC).g wb (aZ Dz) []) u)
  (h:∀ u',cE (ph Tryz.prog S Wg L Dz W0) Stop (.sp 0 5) 0 (G ((base 58).at ⟨TT a0 a1 a2 (ptr BK) (ptr BR) (ptr Wg) (ptr BC) (ptr BP) a25 a26 a33 u',[]⟩ k) cs) (n+1) (upd pl n PB) (upd res n rob) R (Vw.cover Classical.propDecidable v fun b=>X b∨Y b)) :
  cE (ph Tryz.prog S Wg L Dz W0) Stop (.sp 0 3) 0 (G ((base 58).at ⟨TT a0 a1 a2 (ptr BK) (ptr BR) (ptr Wg) (ptr BC) (ptr BP) a25 a26 a33 u,[]⟩ (.code (pP (Tryz.f58.body.getD .skip)) :: k)) cs) n pl res R v:=by
 have ok:(ph Tryz.prog S Wg L Dz W0).Ok:=nO hW;have hb0:n - (ph Tryz.prog S Wg L Dz W0).L+pend (.sp 0 3)<2147483648:=by simp[ph,pend];omega
 have hb1:n+1 - (ph Tryz.prog S Wg L Dz W0).L+pend (.sp 0 5)<2147483648:=by simp[ph,pend];omega
 rw[Zn];refine wN ok (by simp) hb0 ?_;rw[show List.range (gQ (Tryz.f58.body.getD .skip)).size=[0,1] from rfl];let u1:Nat->Value:=fun i=>if i=41 then .func (.func 81) #[] #[ptr Wg,ptr BP,ptr BR,ptr BK,ptr BC] else u i
 refine iS ok rfl (by simp) hb0 (a':=G ((base 58).at ⟨TT a0 a1 a2 (ptr BK) (ptr BR) (ptr Wg) (ptr BC) (ptr BP) a25 a26 a33 u1,[]⟩ (.inRegion (gQ (Tryz.f58.body.getD .skip)) [1] :: k)) cs) (fun W=>?_) ?_
 .have hrun:(execOp (⟨TT a0 a1 a2 (ptr BK) (ptr BR) (ptr Wg) (ptr BC) (ptr BP) a25 a26 a33 u,[]⟩:Act).eval ((gQ (Tryz.f58.body.getD .skip))[0]'(by decide))).run Tryz.prog W=.ok (.value (.func (.func 81) #[] #[ptr Wg,ptr BP,ptr BR,ptr BK,ptr BC])) W:=by
   unfold execOp;rw[show((gQ (Tryz.f58.body.getD .skip))[0]'(by decide)).op=.makeFunc (.func 81) #[] #[.tmp 9,.tmp 11,.tmp 6,.tmp 4,.tmp 10] from rfl];simp[Act.eval,TT,Instr.makeFunc]
  have hev:(execOp (⟨TT a0 a1 a2 (ptr BK) (ptr BR) (ptr Wg) (ptr BC) (ptr BP) a25 a26 a33 u,[]⟩:Act).eval ((gQ (Tryz.f58.body.getD .skip))[0]'(by decide))).events Tryz.prog W #[]=#[]:=by
   unfold execOp;rw[show((gQ (Tryz.f58.body.getD .skip))[0]'(by decide)).op=.makeFunc (.func 81) #[] #[.tmp 9,.tmp 11,.tmp 6,.tmp 4,.tmp 10] from rfl];simp[Act.eval,TT,Instr.makeFunc]
  show stepG Tryz.prog true _ W=_;rw[stepG_value (o:=(gQ (Tryz.f58.body.getD .skip))[0]'(by decide)) rfl (by rfl) (by simp[base]) hrun,listed_nil hev];have e0:((gQ (Tryz.f58.body.getD .skip))[0]'(by decide)).dst=some 41:=rfl;simp[Act.put,e0,TT,u1]
 .refine Rw ok (by simp[ph];omega) (a':=G ((base 58).at ⟨TT a0 a1 a2 (ptr BK) (ptr BR) (ptr Wg) (ptr BC) (ptr BP) a25 a26 a33 u1,[]⟩ (.inRegion (gQ (Tryz.f58.body.getD .skip)) [] :: k)) cs) (child:=born Tryz.prog (callW Wg BP BR BK BC)) rfl (fun W=>?_) hR0 hglob hXY hdis (n0:=5) (cP:=cP (kD Tryz.f81.body) Wg BP BR BK BC) (zcC Wg BP BR BK BC) (Zi _ _ _ _ _) hwalk ?_
  .have hrun:(execOp (⟨TT a0 a1 a2 (ptr BK) (ptr BR) (ptr Wg) (ptr BC) (ptr BP) a25 a26 a33 u1,[]⟩:Act).eval ((gQ (Tryz.f58.body.getD .skip))[1]'(by decide))).run Tryz.prog W=.ok (.spawn (callW Wg BP BR BK BC)) W:=by
    unfold execOp;rw[show((gQ (Tryz.f58.body.getD .skip))[1]'(by decide)).op=.go {callee:=.value (.tmp 41),args:=#[],argTypes:=#[]} from rfl];simp[Act.eval,TT,u1,resolve,Deferred.ofValue,callW]
   have hev:(execOp (⟨TT a0 a1 a2 (ptr BK) (ptr BR) (ptr Wg) (ptr BC) (ptr BP) a25 a26 a33 u1,[]⟩:Act).eval ((gQ (Tryz.f58.body.getD .skip))[1]'(by decide))).events Tryz.prog W #[]=#[]:=by
    unfold execOp;rw[show((gQ (Tryz.f58.body.getD .skip))[1]'(by decide)).op=.go {callee:=.value (.tmp 41),args:=#[],argTypes:=#[]} from rfl];simp[Act.eval,TT,u1,resolve,Deferred.ofValue,callW]
   show stepG Tryz.prog true _ W=_;rw[stepG_spawn (o:=(gQ (Tryz.f58.body.getD .skip))[1]'(by decide)) rfl (by rfl) (by simp[base]) hrun rfl,listed_nil hev];have e0:((gQ (Tryz.f58.body.getD .skip))[1]'(by decide)).dst=none:=rfl;simp[Act.put,e0]
  .exact wH ok (by simp) hb1 (h u1)
theorem Rq(hW:¬S Wg)(hb:n - L+1<2147483648)(hres:∀ i,L<=i->i<n->∃ c t fr,res i=.cells c t fr)
  (h:∀ (S':Nat->Prop) (v':World) u',View Tryz.prog S' v'->v.heap.size<=v'.heap.size->v'.os=v.os->v'.output=v.output->(∀ (b:Nat) (o:Obj),v.heap[b]?=some o->o.tame->v'.heap[b]?=some o)->(∀ i,L<=i->i<n->v'.heap[pl i]?=some (res i))->
   Vw.Reach Tryz.prog Stop (G ((base 58).at ⟨TT a0 a1 a2 a4 a6 (ptr Wg) a10 a11 a25 a26 a33 u',[]⟩ k) cs) S' v') :
  cE (ph Tryz.prog S Wg L Dz W0) Stop (.sp 0 5) 0 (G ((base 58).at ⟨TT a0 a1 a2 a4 a6 (ptr Wg) a10 a11 a25 a26 a33 u,[]⟩ (.code (mH (Tryz.f58.body.getD .skip)) :: k)) cs) n pl res R v:=by
 have ok:(ph Tryz.prog S Wg L Dz W0).Ok:=nO hW;have hb0:n - (ph Tryz.prog S Wg L Dz W0).L+pend (.sp 0 5)<2147483648:=by simp[ph,pend];omega
 rw[Zm];refine wN ok (by simp) hb0 ?_;rw[show List.range (sJ (Tryz.f58.body.getD .skip)).size=[0] from rfl];refine iS ok rfl (by simp) hb0 (a':=G (Frame.enter Tryz.prog link.wait #[ptr Wg] .normal) ((base 58).at ⟨TT a0 a1 a2 a4 a6 (ptr Wg) a10 a11 a25 a26 a33 u,[]⟩ (.inRegion (sJ (Tryz.f58.body.getD .skip)) [0] :: k) :: cs)) (fun W=>?_) ?_
 .exact pR (o:=(sJ (Tryz.f58.body.getD .skip))[0]'(by decide)) rfl (by rfl) (by simp[base]) rfl lX.f_wait (Go.ConcR.Gen.nm_wait link) rfl (by simp[Act.eval,TT])
 .rw[enter_at _ lX.f_wait rfl];refine Mw ok (by simp[ph];omega) hres (fun S' v' h1 h2 h3 h4 h5 h6=>?_) (fun g w hg=>Nt lX g w hg) (m:=10) (fun W hl=>Ns lX W hl);have e0:((sJ (Tryz.f58.body.getD .skip))[0]?).bind (·.dst)=some 43:=rfl;rw[e0];refine Js ?_;have e1:(TT a0 a1 a2 a4 a6 (ptr Wg) a10 a11 a25 a26 a33 u).setIfInBounds 43 (.tuple #[])=TT a0 a1 a2 a4 a6 (ptr Wg) a10 a11 a25 a26 a33 (fun i=>if i=43 then .tuple #[] else u i):=by simp[TT]
  simp only[e1];exact h S' v' _ h1 h2 h3 h4 h5 h6
end
def cS(known:Nat->Nat)(k:Nat):Bool:=(List.range 10).all fun j=>known j != k
theorem yD{known:Nat->Nat}{k:Nat} : cS known k=true↔∀ j,j<10->known j≠k:=by
 simp[cS]
theorem Gp{known:Nat->Nat}{k:Nat}(h:cS known k=false):∃ j,j<10∧known j=k:=by
 refine Classical.byContradiction fun hn=>?_
 have:cS known k=true:=yD.2 fun j hj e=>hn ⟨j,hj,e⟩
 rw[this]at h;cases h
def AK(A:Nat->Value)(PB:Nat->Nat)(known:Nat->Nat)(n k c:Nat):Value:=if cS known c=true∧c<k then sl (PB c) n else A c
theorem mP{f g:Nat->Value}(h:∀ c,c<14->f c=g c):allA f=allA g:=by
 apply Array.ext_getElem?;intro c;by_cases hi:c<14
 .rw[jQ f c hi,jQ g c hi,h c hi]
 .rw[Array.getElem?_eq_none (by rw[oS];omega),Array.getElem?_eq_none (by rw[oS];omega)]
section
variable {v0:World}{known RB:Nat->Nat}{n:Nat}{x:Nat->Nat->Nat}{A A':Nat->Value}{BA BK BR:Nat}{ta:TypeId}{w w':World}
theorem FsT.congr(h:FsT v0 known RB n x A BA BK BR ta w)(e:∀ c,c<14->A c=A' c):FsT v0 known RB n x A' BA BK BR ta w:=⟨by rw[<-mP e];exact h.ba,h.bk,h.br,h.rows,h.kp⟩
theorem FsT.now(h:FsT v0 known RB n x A BA BK BR ta w):FsT w known RB n x A BA BK BR ta w:=⟨h.ba,h.bk,h.br,h.rows,.refl _ _⟩
theorem FsT.since(h:FsT w known RB n x A BA BK BR ta w')(k:FsT v0 known RB n x A' BA BK BR ta w):FsT v0 known RB n x A BA BK BR ta w':=⟨h.ba,h.bk,h.br,h.rows,k.kp.trans h.kp⟩
end
def done(known:Nat->Nat)(n:Nat)(x:Nat->Nat->Nat)(k:Nat):Obj:=.cells (aC n (Fld.comb (Fld.wgt known k) x 10)) 5
structure FI(v0:World)(known RB:Nat->Nat)(n:Nat)(x:Nat->Nat->Nat)(A:Nat->Value)(BA BK BR:Nat)(ta:TypeId)(L k nn:Nat)(pl:Nat->Nat)(res:Nat->Obj)(PB:Nat->Nat)(v:World):Prop where
 fs:FsT v0 known RB n x (AK A PB known n k) BA BK BR ta v
 pb:∀ c,c<k->cS known c=true->v0.heap.size<=PB c∧PB c<v.heap.size∧∃ i,L<=i∧i<nn∧pl i=PB c∧res i=done known n x c
 mono:∀ c c',c<c'->c'<k->cS known c=true->cS known c'=true->PB c<PB c'
 res:∀ i,L<=i->i<nn->∃ c t fr,res i=.cells c t fr
 lo:L<=nn
 hi:nn<=L+k
structure Filled(v0:World)(known:Nat->Nat)(n:Nat)(x:Nat->Nat->Nat)(A:Nat->Value)(BA:Nat)(ta:TypeId)(PB:Nat->Nat)(v:World):Prop where
 kp:Kp v0 (fun b=>b=BA) v
 ba:v.heap[BA]?=some (.cells (allA (AK A PB known n 14)) ta)
 pb:∀ c,c<14->cS known c=true->v0.heap.size<=PB c∧v.heap[PB c]?=some (done known n x c)
 mono:∀ c c',c<c'->c'<14->cS known c=true->cS known c'=true->PB c<PB c'
section
variable {Stop:Goroutine->(Nat->Prop)->World->Prop}{S:Nat->Prop}{cs:List Frame}{Wg L:Nat}{W0 v0:World}{known RB:Nat->Nat}{n:Nat}{x:Nat->Nat->Nat}{A:Nat->Value}{BA BK BR:Nat}{ta:TypeId}
theorem Pd(hkn:∀ j,j<10->known j<14)(hn:n<=400)(hx:∀ j i,x j i<256)(hA:∀ j,j<10->A (known j)=sl (RB j) n)(hL:∀ k,k<14->cS known k=true->A k=.slice none 0 0)(hg:Tryz.prog.globals.size<=v0.heap.size)(hBA:¬R0 RB BK BR BA)(hW:¬S Wg)
  (hend:∀ (S':Nat->Prop) (v':World) (a10 a11 a26 a33:Value) u' PB,View Tryz.prog S' v'->Filled v0 known n x A BA ta PB v'->
   Vw.Reach Tryz.prog Stop (G ((base 58).at ⟨TT (sl BA 14) (.agg (ten known)) (.int .i64 (n:Nat)) (ptr BK) (ptr BR) (ptr Wg) a10 a11 (.int .i64 14) a26 a33 u',[]⟩ []) cs) S' v') :
  ∀ (d k:Nat),k+d=14->∀ (v:World) (u:Nat->Value) (a10 a11 a33:Value) (nn:Nat) (pl:Nat->Nat) (res:Nat->Obj) (PB:Nat->Nat),FI v0 known RB n x A BA BK BR ta L k nn pl res PB v->
   cE (ph Tryz.prog S Wg L BK W0) Stop (.sp 0 5) 0 (G ((base 58).at ⟨TT (sl BA 14) (.agg (ten known)) (.int .i64 (n:Nat)) (ptr BK) (ptr BR) (ptr Wg) a10 a11 (.int .i64 14) (.int .i64 (k:Nat)) a33 u,[]⟩ (.code (lb (Tryz.f58.body.getD .skip)) :: .inLoop (lb (Tryz.f58.body.getD .skip)) :: .inBlock 2 :: .code (mH (Tryz.f58.body.getD .skip)) :: [])) cs) nn pl res (R0 RB BK BR) v:=by
 intro d;induction d with
 |zero=>
  intro k hk v u a10 a11 a33 nn pl res PB hI;obtain rfl:k=14:=by omega
  have ok:(ph Tryz.prog S Wg L BK W0).Ok:=nO hW;have hlo:=hI.lo;have hhi:=hI.hi;have hb0:nn - (ph Tryz.prog S Wg L BK W0).L+pend (.sp 0 5)<2147483648:=by simp[ph,pend];omega
  refine iR ok (by simp) hb0 (x:=(r9 (Tryz.f58.body.getD .skip))) ?_;obtain⟨N,h9⟩:=Jk (ds:=aZ BK) (sl BA 14) (.agg (ten known)) (.int .i64 (n:Nat)) (ptr BK) (ptr BR) (ptr Wg) a10 a11 a33 u 14 (Nat.le_refl _) hI.fs.now;refine lG ok (by simp) hb0 Jd (N:=N) (Post:=fun t w=>∃ u',t=TT (sl BA 14) (.agg (ten known)) (.int .i64 (n:Nat)) (ptr BK) (ptr BR) (ptr Wg) a10 a11 (.int .i64 14) (.int .i64 (14:Nat)) a33 u'∧u' 27=.bool (decide (((14:Nat):Int)<14))∧FsT v known RB n x (AK A PB known n 14) BA BK BR ta w) (fun t x y hE ⟨u',h1,h2,h3⟩=>⟨u',h1,h2,h3.rely hE⟩) h9 ?_
  rintro _ v1 ⟨u1,rfl,h27,hF⟩;refine iR ok (by simp) hb0 ?_;refine xC ok (by simp) hb0 (t:=false) (by show u1 27=_;rw[h27];rfl) ?_;refine Ch ok (by simp) hb0 (k':=[.code (mH (Tryz.f58.body.getD .skip))]) rfl ?_;refine Rq hW (by omega) hI.res fun S' v' u' h1 h2 h3 h4 h5 h6=>?_
  have hkp:Kp v (fun b=>b=BA) v':=hF.kp.trans ⟨h2,h3,h4,fun b o _ hc ht=>h5 b o hc ht⟩
  refine hend S' v' _ _ _ _ u' PB h1 ⟨hI.fs.kp.trans hkp,h5 _ _ hF.ba trivial,fun c hc hl=>?_,hI.mono⟩
  obtain⟨p1,p2,i,i1,i2,i3,i4⟩:=hI.pb c hc hl;refine⟨p1,?_⟩;rw[<-i3,<-i4];exact h6 i i1 i2
 |succ d ih=>
  intro k hk v u a10 a11 a33 nn pl res PB hI;have hk14:k<14:=by omega
  have ok:(ph Tryz.prog S Wg L BK W0).Ok:=nO hW;have hlo:=hI.lo;have hhi:=hI.hi;have hb0:nn - (ph Tryz.prog S Wg L BK W0).L+pend (.sp 0 5)<2147483648:=by simp[ph,pend];omega
  have hgv:Tryz.prog.globals.size<=v.heap.size:=Nat.le_trans hg hI.fs.kp.size;refine iR ok (by simp) hb0 (x:=(r9 (Tryz.f58.body.getD .skip))) ?_;obtain⟨N,h9⟩:=Jk (ds:=aZ BK) (sl BA 14) (.agg (ten known)) (.int .i64 (n:Nat)) (ptr BK) (ptr BR) (ptr Wg) a10 a11 a33 u k (by omega) hI.fs.now;refine lG ok (by simp) hb0 Jd (N:=N) (Post:=fun t w=>∃ u',t=TT (sl BA 14) (.agg (ten known)) (.int .i64 (n:Nat)) (ptr BK) (ptr BR) (ptr Wg) a10 a11 (.int .i64 14) (.int .i64 (k:Nat)) a33 u'∧u' 27=.bool (decide ((k:Int)<14))∧FsT v known RB n x (AK A PB known n k) BA BK BR ta w) (fun t x y hE ⟨u',h1,h2,h3⟩=>⟨u',h1,h2,h3.rely hE⟩) h9 ?_
  rintro _ v1 ⟨u1,rfl,h27,hF1⟩;refine iR ok (by simp) hb0 ?_;refine xC ok (by simp) hb0 (t:=true) (by show u1 27=_;rw[h27];simp;omega) ?_;refine Cg ok (by simp) hb0 ?_;refine iR ok (by simp) hb0 (x:=.block 3 (bb (Tryz.f58.body.getD .skip))) ?_;refine Bn ok (by simp) hb0 ?_;refine iR ok (by simp) hb0 (x:=(r10 (Tryz.f58.body.getD .skip))) ?_;have hg1:Tryz.prog.globals.size<=v1.heap.size:=Nat.le_trans hgv hF1.kp.size;obtain⟨N,h10⟩:=zbU (ds:=aZ BK) (sl BA 14) (.agg (ten known)) (.int .i64 (n:Nat)) (ptr BK) (ptr BR) (ptr Wg) a10 a11 (.int .i64 14) a33 u1 k hg1 hF1.now;refine lG ok (by simp) hb0 Zv (N:=N) (Post:=fun t w=>∃ u' BC,t=TT (sl BA 14) (.agg (ten known)) (.int .i64 (n:Nat)) (ptr BK) (ptr BR) (ptr Wg) (ptr BC) a11 (.int .i64 14) (.int .i64 (k:Nat)) a33 u'∧v1.heap.size<=BC∧w.heap[BC]?=some (.cells #[.int .i64 (k:Nat)] 3)∧FsT v1 known RB n x (AK A PB known n k) BA BK BR ta w) (fun t x y hE ⟨u',BC,h1,h2,h3,h4⟩=>⟨u',BC,h1,h2,hE.row h3,h4.rely hE⟩) h10 ?_
  rintro _ v2 ⟨u2,BC,rfl,hBC,hbc,hF2⟩;refine iR ok (by simp) hb0 ?_;refine iR ok (by simp) hb0 (x:=(r11 (Tryz.f58.body.getD .skip))) ?_;have hg2:Tryz.prog.globals.size<=v2.heap.size:=Nat.le_trans hg1 hF2.kp.size;have hAk:((!cS known k)=true∧∃ b,AK A PB known n k k=sl b n)∨((!cS known k)=false∧AK A PB known n k k=.slice none 0 0):=by
   have e:AK A PB known n k k=A k:=by simp[AK]
   rw[e];cases hl:cS known k with
   |true=>exact .inr ⟨rfl,hL k hk14 hl⟩
   |false=>
    obtain⟨j,hj,rfl⟩:=Gp hl;exact .inl ⟨rfl,RB j,hA j hj⟩
  obtain⟨N,h11⟩:=zbT (ds:=aZ BK) (.agg (ten known)) (.int .i64 (n:Nat)) (ptr BK) (ptr BR) (ptr Wg) a11 (.int .i64 14) (.int .i64 (k:Nat)) a33 u2 k BC hk14 (!cS known k) hAk hg2 ⟨hF2.now,Nat.le_refl _,hbc⟩;refine lG ok (by simp) hb0 Zu (N:=N) (Post:=fun t w=>∃ u',t=TT (sl BA 14) (.agg (ten known)) (.int .i64 (n:Nat)) (ptr BK) (ptr BR) (ptr Wg) (ptr BC) a11 (.int .i64 14) (.int .i64 (k:Nat)) (.bool (!cS known k)) u'∧FC v2.heap.size k BC v2 known RB n x (AK A PB known n k) BA BK BR ta w) (fun t x y hE ⟨u',h1,h2⟩=>⟨u',h1,h2.rely hE⟩) h11 ?_
  rintro _ v3 ⟨u3,rfl,hF3⟩;refine xC ok (by simp) hb0 (t:=!cS known k) rfl ?_;have next:∀ (v5:World) (u5:Nat->Value) (a10 a11 a33:Value) (nn':Nat) (pl':Nat->Nat) (res':Nat->Obj) (PB':Nat->Nat),FI v0 known RB n x A BA BK BR ta L (k+1) nn' pl' res' PB' v5->
    cE (ph Tryz.prog S Wg L BK W0) Stop (.sp 0 5) 0 (G ((base 58).at ⟨TT (sl BA 14) (.agg (ten known)) (.int .i64 (n:Nat)) (ptr BK) (ptr BR) (ptr Wg) a10 a11 (.int .i64 14) (.int .i64 (k:Nat)) a33 u5,[]⟩ (.code (nX (Tryz.f58.body.getD .skip)) :: .inLoop (lb (Tryz.f58.body.getD .skip)) :: .inBlock 2 :: .code (mH (Tryz.f58.body.getD .skip)) :: [])) cs) nn' pl' res' (R0 RB BK BR) v5:=by
   intro v5 u5 a10 a11 a33 nn' pl' res' PB' hI';have hb':nn' - (ph Tryz.prog S Wg L BK W0).L+pend (.sp 0 5)<2147483648:=by have:=hI'.hi;simp[ph,pend];omega
   obtain⟨N,h16⟩:=zbQ (ds:=aZ BK) (sl BA 14) (.agg (ten known)) (.int .i64 (n:Nat)) (ptr BK) (ptr BR) (ptr Wg) a10 a11 (.int .i64 14) a33 u5 k (by omega) hI'.fs.now;refine lG ok (by simp) hb' Zr (N:=N) (Post:=fun t w=>∃ u',t=TT (sl BA 14) (.agg (ten known)) (.int .i64 (n:Nat)) (ptr BK) (ptr BR) (ptr Wg) a10 a11 (.int .i64 14) (.int .i64 ((k+1:Nat):Int)) a33 u'∧FsT v5 known RB n x (AK A PB' known n (k+1)) BA BK BR ta w) (fun t x y hE ⟨u',h1,h2⟩=>⟨u',h1,h2.rely hE⟩) h16 ?_
   rintro _ v6 ⟨u6,rfl,hF6⟩;refine Kj ok (by simp) hb' ?_;refine ih (k+1) (by omega) v6 u6 a10 a11 a33 nn' pl' res' PB' ⟨hF6.since hI'.fs,fun c hc hl=>?_,hI'.mono,hI'.res,hI'.lo,hI'.hi⟩
   obtain⟨p1,p2,p3⟩:=hI'.pb c hc hl;exact⟨p1,Nat.lt_of_lt_of_le p2 hF6.kp.size,p3⟩
  have hsz:v.heap.size<=v3.heap.size:=Nat.le_trans hF1.kp.size (Nat.le_trans hF2.kp.size hF3.fs.kp.size);have hF3':=hF3.fs.since (hF2.since (hF1.since hI.fs));cases hl:cS known k with
  |false=>
   simp only[Bool.not_false,if_true];refine Ch ok (by simp) hb0 (k':=.code (nX (Tryz.f58.body.getD .skip)) :: .inLoop (lb (Tryz.f58.body.getD .skip)) :: .inBlock 2 :: .code (mH (Tryz.f58.body.getD .skip)) :: []) rfl ?_;refine next v3 u3 _ _ _ nn pl res PB ⟨hF3'.congr fun c hc=>?_,fun c hc hlc=>?_,fun c c' hc hc' h1 h2=>?_,hI.res,hI.lo,by have:=hI.hi;omega⟩
   .simp only[AK];by_cases e:cS known c=true
    .have:c≠k:=fun e'=>by rw[e',hl]at e;cases e
     simp only[e,true_and,show(c<k↔c<k+1) by omega]
    .simp[e]
   .have:c≠k:=fun e'=>by rw[e',hl]at hlc;cases hlc
    obtain⟨p1,p2,p3⟩:=hI.pb c (by omega) hlc;exact⟨p1,by omega,p3⟩
   .have:c'≠k:=fun e'=>by rw[e',hl]at h2;cases h2
    exact hI.mono c c' hc (by omega) h1 h2
  |true=>
   simp only[Bool.not_true,if_false,Bool.false_eq_true];have hbA:BA<v.heap.size:=(Array.getElem?_eq_some_iff.1 hI.fs.ba).1;have s1:=hF1.kp.size;have s2:=hF2.kp.size;have s3:=hF3.fs.kp.size;have hg3:Tryz.prog.globals.size<=v3.heap.size:=by omega
   have hlow3:=hF3.fs.low hg3;refine Cg ok (by simp) hb0 ?_;refine iR ok (by simp) hb0 (x:=(r12 (Tryz.f58.body.getD .skip))) ?_;obtain⟨N,h12⟩:=zbS (ds:=aZ BK) (sl BA 14) (.agg (ten known)) (ptr BK) (ptr BR) (ptr Wg) a11 (.int .i64 14) (.int .i64 (k:Nat)) (.bool false) u3 k BC hn hg3 ⟨hF3.fs.now,Nat.le_refl _,hF3.bc⟩;refine lG ok (by simp) hb0 Zt (N:=N) (Post:=fun t w=>∃ u' Pk BP,t=TT (sl BA 14) (.agg (ten known)) (.int .i64 (n:Nat)) (ptr BK) (ptr BR) (ptr Wg) (ptr BC) (ptr BP) (.int .i64 14) (.int .i64 (k:Nat)) (.bool false) u'∧v3.heap.size<=Pk∧Pk<BP∧FP v3.heap.size k BC Pk BP v3 known RB n x (AK A PB known n k) BA BK BR ta w) (fun t x y hE ⟨u',Pk,BP,h1,h2,h3,h4⟩=>⟨u',Pk,BP,h1,h2,h3,h4.rely hE⟩) h12 ?_
   rintro _ v4 ⟨u4,Pk,BP,rfl,hPk,hPB,hF4⟩;have s4:=hF4.fs.kp.size;have hBC3:BC<v3.heap.size:=(Array.getElem?_eq_some_iff.1 hF3.bc).1;refine iR ok (by simp) hb0 (x:=(r13 (Tryz.f58.body.getD .skip))) ?_;obtain⟨N,h13⟩:=zbR (ds:=aZ BK) (.agg (ten known)) (.int .i64 (n:Nat)) (ptr BK) (ptr BR) (ptr Wg) (.int .i64 14) (.int .i64 (k:Nat)) (.bool false) u4 k BC Pk BP hk14 hBA (by omega) (by omega) (by omega) (w:=v4) ⟨hF4.fs.now,Nat.le_refl _,hF4.bc,hF4.pb,hF4.bp⟩;refine lG ok (by simp) hb0 Zs (N:=N) (Post:=fun t w=>∃ u',t=TT (sl BA 14) (.agg (ten known)) (.int .i64 (n:Nat)) (ptr BK) (ptr BR) (ptr Wg) (ptr BC) (ptr BP) (.int .i64 14) (.int .i64 (k:Nat)) (.bool false) u'∧FP v4.heap.size k BC Pk BP v4 known RB n x (fun c=>if c=k then sl Pk n else AK A PB known n k c) BA BK BR ta w) (fun t x y hE ⟨u',h1,h2⟩=>⟨u',h1,h2.rely hE⟩) h13 ?_
   rintro _ v5 ⟨u5,rfl,hF5⟩;have s5:=hF5.fs.kp.size;have hg5:Tryz.prog.globals.size<=v5.heap.size:=by omega
   have hlow5:=hF5.fs.low hg5;have nR:∀ b,v1.heap.size<=b->¬R0 RB BK BR b:=fun b hb hr=>by
    have:=hF1.low (by omega) b hr;omega
   refine iR ok (by simp) hb0 (x:=(r14 (Tryz.f58.body.getD .skip))) (y:=(pP (Tryz.f58.body.getD .skip))) ?_;refine Rs hW (by omega) ?_;obtain⟨NW,hworker⟩:=Lo (main:=false) (Rd:=fun b=>R0 RB BK BR b∨(b=BP∨b=BC))
   refine Rr hW (by omega) (X:=fun b=>b=Pk) (Y:=fun b=>b=BP∨b=BC) (PB:=Pk) (rob:=done known n x k) (nW:=NW) hlow5 (fun b hb=>.inl hb) ?_ ?_ ?_ ?_
   .rintro b (rfl|rfl|rfl)
    .exact⟨⟨_,_,_,hF5.pb⟩,nR _ (by omega)⟩
    .exact⟨⟨_,_,_,hF5.bp⟩,nR _ (by omega)⟩
    .exact⟨⟨_,_,_,hF5.bc⟩,nR _ (by omega)⟩
   .rintro b rfl (h|h)<;>omega
   .intro uu huu;have get:∀ b o,R0 RB BK BR b∨(b=BP∨b=BC)∨b=Pk->v5.heap[b]?=some o->uu.heap[b]?=some o:=fun b o hb ho=>(huu b hb).trans ho
    refine hworker 5 48 147 117 3 known k RB x n Pk BP BR BK BC BK (ptr Wg) uu hkn hk14 hn hx ?_ (fun j hj=>.inl (.inr (.inr (.inr ⟨j,hj,rfl⟩)))) (.inr (.inl rfl)) (.inl (.inr (.inr (.inl rfl)))) (.inl (.inr (.inl rfl))) (.inr (.inr rfl)) ⟨?_,?_,?_,?_,?_,?_⟩ ?_
    .rintro(h|h|h)
     .exact nR Pk (by omega) h
     .omega
     .omega
    .exact get BP _ (.inr (.inl (.inl rfl))) hF5.bp
    .exact get BR _ (.inl (.inr (.inr (.inl rfl)))) hF5.fs.br
    .exact get BK _ (.inl (.inr (.inl rfl))) hF5.fs.bk
    .exact get BC _ (.inr (.inl (.inr rfl))) hF5.bc
    .exact fun j hj=>get (RB j) _ (.inl (.inr (.inr (.inr ⟨j,hj,rfl⟩)))) (hF5.fs.rows j hj)
    .intro b hb;have hb5:b<v5.heap.size:=by
      rcases hb with h|rfl|rfl
      .exact hlow5 b h
      .exact(Array.getElem?_eq_some_iff.1 hF5.bp).1
      .exact(Array.getElem?_eq_some_iff.1 hF5.bc).1
     have:=get b _ (hb.elim .inl fun h=>.inr (.inl h)) (Array.getElem?_eq_getElem hb5)
     exact(Array.getElem?_eq_some_iff.1 this).1
    .exact get Pk _ (.inr (.inr rfl)) hF5.pb
   .intro u6;have cg:∀ b,¬(b=Pk∨b=BP∨b=BC)->(Vw.cover Classical.propDecidable v5 fun b=>b=Pk∨b=BP∨b=BC).heap[b]?=v5.heap[b]?:=fun b hb=>uK v5 _ b hb
    have csz:(Vw.cover Classical.propDecidable v5 fun b=>b=Pk∨b=BP∨b=BC).heap.size=v5.heap.size:=by simp[Vw.cover]
    have hold:∀ b,b<v.heap.size->¬(b=Pk∨b=BP∨b=BC):=fun b hb h=>by omega
    have hoR:∀ b,R0 RB BK BR b->¬(b=Pk∨b=BP∨b=BC):=fun b hb h=>by
     rcases h with rfl|rfl|rfl
     .exact nR _ (by omega) hb
     .exact nR _ (by omega) hb
     .exact nR _ (by omega) hb
    have hF5':=hF5.fs.since (hF4.fs.since hF3');have hb1:nn+1 - (ph Tryz.prog S Wg L BK W0).L+pend (.sp 0 5)<2147483648:=by simp[ph,pend];omega
    have hb6:v0.heap.size<=v.heap.size:=hI.fs.kp.size;refine Jz ok (by simp) hb1 ?_;refine next _ u6 _ _ _ (nn+1) (upd pl nn Pk) (upd res nn (done known n x k)) (upd PB k Pk) ⟨⟨?_,?_,?_,?_,⟨?_,?_,?_,?_⟩⟩,?_,?_,?_,by omega,by omega⟩
    .rw[cg BA (hold BA hbA),hF5.fs.ba];congr 2;refine mP fun c hc=>?_
     simp only[AK];by_cases e:c=k
     .subst e;simp[hl,upd_same]
     .simp only[if_neg e,upd_ne _ _ e,show(c<k↔c<k+1) by omega]
    .rw[cg BK (hoR BK (.inr (.inl rfl)))];exact hF5.fs.bk
    .rw[cg BR (hoR BR (.inr (.inr (.inl rfl))))];exact hF5.fs.br
    .intro j hj;rw[cg _ (hoR _ (.inr (.inr (.inr ⟨j,hj,rfl⟩))))];exact hF5.fs.rows j hj
    .rw[csz];exact hF5'.kp.size
    .exact hF5'.kp.os
    .exact hF5'.kp.output
    .intro b o hb hc ht;have hlt:=(Array.getElem?_eq_some_iff.1 hc).1;rw[cg b (hold b (by omega))];exact hF5'.kp.objs b o hb hc ht
    .intro c hc hlc;rw[csz];by_cases e:c=k
     .subst e;rw[upd_same];have:=(Array.getElem?_eq_some_iff.1 hF5.pb).1;exact⟨by omega,this,nn,hlo,by omega,upd_same _ _ _,upd_same _ _ _⟩
     .obtain⟨p1,p2,i,i1,i2,i3,i4⟩:=hI.pb c (by omega) hlc;rw[upd_ne _ _ e];have hne:i≠nn:=by omega
      exact⟨p1,by omega,i,i1,by omega,(upd_ne _ _ hne).trans i3,(upd_ne _ _ hne).trans i4⟩
    .intro c c' hc hc' h1 h2;by_cases e:c'=k
     .subst e;obtain⟨p1,p2,_⟩:=hI.pb c hc h1;rw[upd_same,upd_ne _ _ (by omega)];omega
     .rw[upd_ne _ _ e,upd_ne _ _ (by omega)];exact hI.mono c c' hc (by omega) h1 h2
    .intro i h1 h2;by_cases e:i=nn
     .subst e;rw[upd_same];exact⟨_,_,_,rfl⟩
     .rw[upd_ne _ _ e];exact hI.res i h1 (by omega)
theorem Dp{v:World}(hkn:∀ j,j<10->known j<14)(hn:n<=400)(hx:∀ j i,x j i<256)(hA:∀ j,j<10->A (known j)=sl (RB j) n)(hL:∀ k,k<14->cS known k=true->A k=.slice none 0 0)(hg:Tryz.prog.globals.size<=v.heap.size)
  (hgA:Tryz.prog.globals.size<=BA) (hRA:∀ j,j<10->RB j≠BA) (hba:v.heap[BA]?=some (.cells (allA A) ta)) (hrows:∀ j,j<10->v.heap[RB j]?=some (.cells (aC n (x j)) 5)) {c:Frame}
  (hr:∀ (S':Nat->Prop) (v':World) PB,View Tryz.prog S' v'->Filled v known n x A BA ta PB v'->Vw.Reach Tryz.prog Stop (G (c.finish (.tuple #[])) cs) S' v') :
  Vw.Reach Tryz.prog Stop (G (Frame.enter Tryz.prog 58 #[sl BA 14,.agg (ten known),.int .i64 (n:Nat)] .normal) (c :: cs)) S v:=by
 refine oI fun hv=>?_
 have seen:∀ {b:Nat} {cc:Array Value} {t:TypeId} {fr:Nat×Nat} {w:World},View Tryz.prog S w->w.heap[b]?=some (.cells cc t fr)->¬S b:=fun hw hb hs=>by
  have:=hw.hid _ hs;rw[hb]at this;cases this
 have hbA:BA<v.heap.size:=(Array.getElem?_eq_some_iff.1 hba).1;rw[enter_at _ Tryz.func58 Yp];have e0:(#[sl BA 14,.agg (ten known),.int .i64 (n:Nat)]++Array.replicate (Tryz.f58.ntmps - (#[sl BA 14,.agg (ten known),.int .i64 (n:Nat)]:Array Value).size) undef)=TT (sl BA 14) (.agg (ten known)) (.int .i64 (n:Nat)) undef undef undef undef undef undef undef undef (fun _=>undef):=by
  simp[Tryz.ntmps58,TT,Array.replicate_succ]
 rw[e0,zcA];refine qQ ?_;obtain⟨N,h0⟩:=r0_c (known:=known) (ds:=aZ BA) (sl BA 14) (.int .i64 (n:Nat)) undef undef undef undef undef undef undef undef (fun _=>undef) hbA;refine xJ aB (by kernel_rfl) (Rd:=fun b=>b=BA) (Dz:=BA) rfl ⟨_,_,_,hba⟩ (seen hv hba) (N:=N) (Post:=fun t w=>∃ u' BK,t=TT (sl BA 14) (.agg (ten known)) (.int .i64 (n:Nat)) (ptr BK) undef undef undef undef undef undef undef u'∧v.heap.size<=BK∧w.heap[BK]?=some (.cells (ten known) 117)∧Ext v w) (fun t x y hE ⟨u',BK,h1,h2,h3,h4⟩=>⟨u',BK,h1,h2,hE.row h3,h4.trans _ _ _ hE⟩) h0 ?_
 rintro _ v1 ⟨u1,BK,rfl,hBK,hbk,hE1⟩;refine oI fun hv1=>?_
 refine qQ ?_;obtain⟨N,h1⟩:=r1_c (known:=known) (RB:=RB) (n:=n) (ds:=aZ BA) (sl BA 14) (.agg (ten known)) (.int .i64 (n:Nat)) undef undef undef undef undef undef undef u1 hba hbk hE1;refine xJ aB (by kernel_rfl) (Rd:=fun b=>b=BA) (Dz:=BA) rfl ⟨_,_,_,hE1.row hba⟩ (seen hv hba) (N:=N) (Post:=fun t w=>∃ u' BR,t=TT (sl BA 14) (.agg (ten known)) (.int .i64 (n:Nat)) (ptr BK) (ptr BR) undef undef undef undef undef undef u'∧v1.heap.size<=BR∧FH v known RB n A BA BK BR 0 ta w) (fun t x y hE ⟨u',BR,h1,h2,h3⟩=>⟨u',BR,h1,h2,h3.rely hE⟩) h1 ?_
 rintro _ v2 ⟨u2,BR,rfl,hBR,hH2⟩;have hBK1:BK<v1.heap.size:=(Array.getElem?_eq_some_iff.1 hbk).1;have hs1:=hE1.size;refine qQ ?_;obtain⟨N,h2⟩:=l1_c (known:=known) (RB:=RB) (n:=n) (ds:=aZ BA) (.int .i64 (n:Nat)) undef undef undef undef undef undef u2 hA hkn (by omega) (by omega) (by omega) hH2;refine xJ aB (by kernel_rfl) (Rd:=fun b=>b=BA) (Dz:=BA) rfl ⟨_,_,_,hH2.ba⟩ (seen hv hba) (N:=N) (Post:=fun t w=>∃ u',t=TT (sl BA 14) (.agg (ten known)) (.int .i64 (n:Nat)) (ptr BK) (ptr BR) undef undef undef undef undef undef u'∧FH v known RB n A BA BK BR 10 ta w) (fun t x y hE ⟨u',h1,h2⟩=>⟨u',h1,h2.rely hE⟩) h2 ?_
 rintro _ v3 ⟨u3,rfl,hH3⟩;refine oI fun hv3=>?_
 have hrow3:∀ j,j<10->v3.heap[RB j]?=some (.cells (aC n (x j)) 5):=fun j hj=>hH3.kp.cells _ _ _ _ (hRA j hj) (hrows j hj)
 have hbr3:v3.heap[BR]?=some (.cells (fZ RB n) 147):=by rw[<-Ri];exact hH3.br
 have hFS3:FsT v known RB n x A BA BK BR ta v3:=⟨hH3.ba,hH3.bk,hbr3,hrow3,hH3.kp⟩;have hg3:Tryz.prog.globals.size<=v3.heap.size:=Nat.le_trans hg hH3.kp.size;have hS3:∀ b,S b->b<v3.heap.size:=fun b hb=>(Array.getElem?_eq_some_iff.1 (hv3.hid b hb)).1
 have hRS:∀ b,R0 RB BK BR b->¬S b∧b<v3.heap.size:=fun b hb=>by
  refine⟨fun hs=>?_,hFS3.low hg3 b hb⟩
  rcases hb with hb|rfl|rfl|⟨j,hj,rfl⟩
  .have:=hv3.high b hs;omega
  .exact seen hv3 hH3.bk hs
  .exact seen hv3 hbr3 hs
  .exact seen hv3 (hrow3 j hj) hs
 have hBAR:¬R0 RB BK BR BA:=by
  rintro(h|h|h|⟨j,hj,h⟩)
  .omega
  .omega
  .omega
  .exact hRA j hj h.symm
 refine qQ ?_;refine Va hS3 hg3 (Dz:=BK) (R:=R0 RB BK BR) ⟨_,_,_,hH3.bk⟩ (.inr (.inl rfl)) hRS (pl:=fun _=>0) (res:=fun _=>eU) fun L W0=>?_
 have hW:¬S v3.heap.size:=fun h=>absurd (hS3 _ h) (by omega)
 have ok:(ph Tryz.prog S v3.heap.size L BK W0).Ok:=nO hW;have hb0:L - (ph Tryz.prog S v3.heap.size L BK W0).L+pend (.sp 0 5)<2147483648:=by simp[ph,pend]
 have hFSp:FsT v known RB n x A BA BK BR ta (pad v3 1):=hFS3.rely (uX v3 1);refine iR ok (by simp) hb0 ?_;refine iR ok (by simp) hb0 ?_;obtain⟨N,h8⟩:=r8_c (ds:=aZ BK) (.agg (ten known)) (.int .i64 (n:Nat)) (ptr BK) (ptr BR) (ptr v3.heap.size) undef undef undef undef undef u3 hFSp;refine lG ok (by simp) hb0 zbV (N:=N) (Post:=fun t w=>∃ u',t=TT (sl BA 14) (.agg (ten known)) (.int .i64 (n:Nat)) (ptr BK) (ptr BR) (ptr v3.heap.size) undef undef (.int .i64 14) (.int .i64 (0:Nat)) undef u'∧FsT v known RB n x A BA BK BR ta w) (fun t x y hE ⟨u',h1,h2⟩=>⟨u',h1,h2.rely hE⟩) h8 ?_
 rintro _ v4 ⟨u4,rfl,hF4⟩;refine Bn ok (by simp) hb0 ?_;refine Mx ok (by simp) hb0 ?_;refine Pd (v0:=v) hkn hn hx hA hL hg hBAR hW ?_ 14 0 (by omega) v4 u4 _ _ _ L _ _ (fun _=>0) ⟨hF4.congr fun c hc=>by simp[AK],fun c hc=>by omega,fun c c' _ hc=>by omega,fun i h1 h2=>by omega,Nat.le_refl _,by omega⟩
 intro S' v' a10 a11 a26 a33 u' PB hv' hfill;refine iT ?_;refine Mh (F:=FG) (x:=.tuple #[]) ⟨by simp[Frame.at],rfl,rfl,rfl,⟨_,Tryz.func58⟩⟩ hv' ⟨rfl,rfl,rfl,_,Tryz.func58,?_⟩ (hr S' v' PB hv' hfill);simp[results,Tryz.results58]
end
