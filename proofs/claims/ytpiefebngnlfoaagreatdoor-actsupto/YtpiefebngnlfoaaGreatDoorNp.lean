/-
  The statement Acts, second form (arguments of bulk at most 1048576), as its card: for every three arguments the function mosaiclaw.Acts answers true (every script of Put, Get, Delete, List, Scrub and mounting anew, on two stores in turns, of blank disks: all answers are the document's; what came out is the caller's), its call ends without a race, and all that was there before reads as it did. Condition: the bulk; the package variable that is listed starts as the program's text lays it.
-/
import Derived.Test.YtpiefebngnlfoaaGreatDoorNt
import Derived.Test.YtpiefebngnlfoaaGreatDoorCards
import Derived.Test.YtpiefebngnlfoaaGreatDoorTie
import Derived.Deep.DeepWitnessRowRef
import Derived.Stop.LaidErr
import Derived.Stop.JoinedAt
import Derived.JoinedCond
set_option maxRecDepth 99999
set_option maxHeartbeats 0
set_option linter.unusedVariables false
set_option linter.unusedSimpArgs false
set_option linter.unnecessarySimpa false
namespace Go.Proofs.YtpiefebngnlfoaaGreatDoor.actsupto
open Go.ChangeShapes Go.WideShapes Go.ChangeAt Go.RowKit Go.Conc Go.Vw
theorem Iz{W:World}{Post:Value->World->Prop}(CW:∀b,kB W b->Tryz.prog.globals.size<=b)(hg:Tryz.prog.globals.size<=W.heap.size)(t:TypeId)(e:Value)(rv:W.cell? ⟨0,0,none⟩=some (.iface t e))(i0:Int)(xx:-9223372036854775808<=i0∧i0<=9223372036854775807)(i1:Int)(FB:-9223372036854775808<=i1∧i1<=9223372036854775807)(p2:Option Addr)(n2 c2:Nat)(A2:Nat->Opp)(hA2:lR (fD W).heap.size (fD W) p2 n2 A2)(LU:n2<=1048576)(qy:∀W',Old W W'->Post (.bool true) W'):∃M last o w' t',runNT Tryz.prog (M+1) (solo (G (Frame.enter Tryz.prog 3 #[.int .i64 i0,.int .i64 i1,.slice p2 n2 c2] .normal) []) W) #[]=(.ended o w',t')∧runN Tryz.prog M (solo (G (Frame.enter Tryz.prog 3 #[.int .i64 i0,.int .i64 i1,.slice p2 n2 c2] .normal) []) W)=.next last∧step Tryz.prog last=.ended o w'∧Conc.Good Tryz.prog Post last o w' t':=by refine Ka CW ?_;rw[enter_at _ Tryz.func3 (c:=Tryz.f3.body.getD .skip) rfl,Tryz.ntmps3,qA (by simp)];refine Pd t e (wO rv) (by rw[(xJ CW).size];exact hg) i0 i1 xx.1 xx.2 FB.1 FB.2 p2 n2 c2 A2 hA2 LU _ [] λf' todo S' v' h2 hk=>?_;refine Reach.done ⟨_,.bool true,rfl,⟨rfl,rfl,rfl,_,Tryz.func3,?_⟩,by kernel_rfl,λW' hR hF=>qy W' (Zi CW hk hR hF)⟩;show(results _ (TA 155 f')).run _ _=_;simp[results,Tryz.results3,h2]
theorem Hr{n:Int}(h:(Lit.int .i64 n).wf=true):-9223372036854775808<=n∧n<=9223372036854775807:=by
 simp only[Lit.wf,bq,decide_eq_true_eq]at h;have m1:IntKind.i64.min=-9223372036854775808:=by decide
 have m2:IntKind.i64.max=9223372036854775807:=by decide
 omega
def Iy:String:=match (Rows.laid_mosaic_block_errNone:DataW Unit) with
 |.iface t _=>t
 |_=> ""
theorem gE:Tryz.prog.globalNamed (Rows.actsUptoRow.named.headD "")=some 0:=by kernel_rfl
theorem T3:(Tryz.prog.globals[0]?).map (·.type)=some 184:=by kernel_rfl
theorem Xg(u:TypeId)(h:Tryz.prog.typeName? 3 u=some Iy):u=219:=
 typeName_ptr_named (nm:= "errors.errorString") (by kernel_rfl) (by kernel_rfl) (by decide) u (h.trans (congrArg some (by kernel_rfl)))
theorem Vq{W:World}(hL:laidMetH Tryz.prog Rows.actsUptoRow.laid W):∃a:Addr,W.cell? ⟨0,0,none⟩=some (.iface 219 (.pointer (some a))):=by obtain⟨a0,s0,AS,_⟩:=laid_sentinel (n:=Rows.actsUptoRow.named.headD "") (nm:=Iy) hL gE T3 Tryz.underlying184 Xg Tryz.underlying219 Tryz.underlying235 rfl rfl Tryz.underlying9 (by kernel_rfl) (by kernel_rfl);exact⟨a0,by simpa using World.var?_cell gE AS 0⟩
def Hd:ByteArray:={data:=#[98,108,111,99,107,58,32,116,104,101,114,101,32,105,115,32,110,111,32,112,105,101,99,101,32,105,110,32,105,116]}
def Ix(P:Program):Nat:=(World.holding P default ⟨#[],#[],[]⟩).heap.size
def zN(P:Program)(os:Os):World:=
 {World.holding P os ⟨#[.cells #[.string Hd] 235],#[],[]⟩ with heap:=(World.holding P os ⟨#[.cells #[.string Hd] 235],#[],[]⟩).heap.modify 0 λ
   |.cells _ t frozen=>.cells #[.iface 219 (.pointer (some ⟨Ix P,0,none⟩))] t frozen
   |o=>o}
theorem Vh(os:Os)(args:Array Value):laidMet Tryz.prog Rows.actsUptoRow.laid ((zN Tryz.prog os).forCall (λ_ _=>0) ⟨#[],args,[]⟩).memory:=
 laidMet_of_run (ps:=[.cell 0 0,.cell (Ix Tryz.prog) 0]) 8 (by kernel_rfl) (by kernel_rfl) (by kernel_rfl)
theorem Il(os:Os){H:Type}(enc:TypeId×Value->H):∃places,DataW.whole enc Tryz.prog ((zN Tryz.prog os).forCall (λ_ _=>0) ⟨#[],#[.int .i64 0,.int .i64 0,.slice none 0 0],[]⟩).memory Tryz.f3.params.toList (Rows.OpenSpec.upto Rows.actsSpec).vars false #[Value.int .i64 0,Value.int .i64 0,Value.slice none 0 0].toList 8=some ([.lit (.int .i64 0),.lit (.int .i64 0),.nil],[],places):=
 ⟨[],by kernel_rfl⟩
theorem wit(os:Os){H:Type}(enc:TypeId×Value->H):∃(w:World)(tape:Tape)(i:Input),w.os=os∧(w.forCall tape i).Shaped Tryz.checked.prog∧i.vars=[]∧Input.okWide Tryz.checked.prog (w.forCall tape i) .any w.heap.size 3 i∧(Rows.OpenSpec.upto Rows.actsSpec).preRow enc Tryz.checked.prog Tryz.f3 Rows.actsUptoRow.domain false Rows.actsUptoRow.laid (w.forCall tape i).memory i.args∧({} : Assume).holds Tryz.checked.prog (lone (Frame.enter Tryz.checked.prog 3 i.args .normal) [] (w.forCall tape i)):=by
 obtain⟨places,hx⟩:=Il os enc;exact witness_row_atRef (enc:=enc) (C:=Tryz.checked) false (zN Tryz.prog os) #[.int .i64 0,.int .i64 0,.slice none 0 0] rfl (by kernel_rfl) (by kernel_rfl) (by kernel_rfl)
  (OpenSpec.preRow_of_cond 8 hx (by kernel_rfl) (λk hk=>by
   obtain rfl:=bm hk
   kernel_rfl) (by kernel_rfl) (Vh os _))
theorem Zv(os:Os)(started:os.Started)(H:Type)(enc:TypeId×Value->H)(F:Stop.Interp):ReturnsInLeavingWide {} Tryz.checked os 3 .any ((Rows.OpenSpec.upto Rows.actsSpec).preRow enc Tryz.prog Tryz.f3 Rows.actsUptoRow.domain false Rows.actsUptoRow.laid) (((Rows.OpenSpec.upto Rows.actsSpec).at F).post enc Tryz.prog Tryz.f3 false true false false):=by
 refine returnsInLeavingWide_of_good (C:=Tryz.checked) own started (wit os enc) ?_;intro w tape i _ vk _ dx GI _;obtain⟨_,_,_,PC,SO,_,_,_,_,CM⟩:=dx;have e:PC=Tryz.f3:=bm (SO.symm.trans Tryz.func3);subst e;obtain⟨⟨hp,hl⟩,hz⟩:=GI;obtain⟨ds,gs,before,hw,hc,hk⟩:=OpenSpec.pre_parts hp;have hW:=DataW.Whole.of_heap (w':=w.forCall tape i) (by rfl) hw;have hL:laidMetH Tryz.prog Rows.actsUptoRow.laid (w.forCall tape i):=hl.of_heap (by rfl);have ZH:=hk _ rfl;clear hw hz hc SO hk hl hp;refine(?_:∃N last o w' t',_∧_∧_∧Conc.Good Tryz.prog (λv w'=>((Rows.OpenSpec.upto Rows.actsSpec).at F).post enc Tryz.prog Tryz.f3 false true false false (w.forCall tape i) i.args v w') last o w' t').imp λN h=>h.imp λlast h=>h.imp λo h=>h.imp λw' h=>h.imp λt' h=>⟨h.1,h.2.1,h.2.2.1,h.2.2.2.mono λv hp=>ChangeSpec.post_blind hp⟩;generalize w.heap.size=base at CM;generalize w.forCall tape i=W at *
 generalize i.args=args at *
 have fh:∀(j:Nat) t v,Tryz.f3.params[j]?=some t->args[j]?=some v->Value.okWide Tryz.prog W .any base t v:=CM;have AI:=hW;obtain⟨p,q,NM,hV,rfl,hfz,gh⟩:=hW;have hA:DataW.TrodAll enc Tryz.prog W 0 (λ_=>true) true Tryz.f3.params.toList args.toList ds p:=NM;rw[Tryz.params3]at hA fh;obtain⟨v0,vs0,d0,ds0,p0,q0,JW,rfl,rfl,h0,r0⟩:=trodAll_cons hA;obtain⟨v1,vs1,d1,ds1,p1,q1,rfl,rfl,rfl,h1,r1⟩:=trodAll_cons r0;obtain⟨v2,vs2,d2,ds2,p2,q2,rfl,rfl,rfl,h2,r2⟩:=trodAll_cons r1;obtain⟨rfl,rfl,rfl⟩:=trodAll_nil r2;obtain rfl:args=#[v0,v1,v2]:=by cases args;simp_all
 obtain⟨rfl,rfl⟩:=trodVars_none hV;have hblk:Rows.uptoBulk d2<=1048576:=by have hh:Rows.uptoBulkAll ([d0,d1,d2]++[])<=1048576:=of_decide_eq_true ZH;simp only[bo,Rows.uptoBulkAll]at hh;omega
 obtain⟨a0,rfl,rfl,rfl,w0⟩:=open_int Tryz.underlying3 (fh 0 3 v0 rfl rfl) h0;obtain⟨a1,rfl,rfl,rfl,w1⟩:=open_int Tryz.underlying3 (fh 1 3 v1 rfl rfl) h1;obtain⟨U9,V3,cc2,AA2,rfl,s8,YR⟩:=Ut (fh 2 22 v2 rfl rfl) h2 hblk;obtain⟨ea,hea⟩:=Vq hL;clear NM CM;simp only[bo]at AI;refine Iz (Nd vk) (Lm vk) 219 _ hea a0 (Hr w0) a1 (Hr w1) U9 V3 cc2 AA2 s8 YR λW' hO=>?_;have RS:∀x∈p2,x.block<W.heap.size:=λx hx=>by simpa using AI.lt x (by simp[hx])
 have U3:=WideElems.Trod_stays (sp':=λb=>decide (b<W.heap.size)) laid (by kernel_rfl) (of_decide_eq_true (by kernel_rfl)) h2 (λx hx=>hO.same (RS x hx)) (λx hx=>by simpa using RS x hx)
 exact⟨_,_,_,[],_,[],AI,trodAll_cons_mk (shut_bool Tryz.underlying4 _) trodAll_mk0,(trodAll_cons_mk (shut_int Tryz.underlying3 w0) (trodAll_cons_mk (shut_int Tryz.underlying3 w1) (trodAll_cons_mk U3 trodAll_mk0))),rfl,hO.kept _,λh=>by cases h⟩
theorem Jd{p:Pinned}{s:OpenSpec}{c:OpenClaim}(f:FuncId)(fn:Func)(names:c.program=p.name∧c.sum=p.sum∧c.spec=s.name)(plain:c.start=.entering∧c.outside=[]∧c.inits=[]∧c.under=none∧c.noBlocks=false∧c.leaving=true∧c.followed=none∧c.still=false)(none_:c.initsInPlace=[]∧c.initsUnfollowed=false∧c.initsRecurse=false∧c.initsNamed=[]∧c.initsPassed=[])(YU:c.narrowed=s.cond.isSome)
  (ny:p.checked.prog.funcNamed c.func=some f) (hf:p.checked.prog.funcs[f]?=some fn) (closed:joinedFacts p.checked.prog f fn s.bare c=true) (SF:fn.isInstance p.checked.prog c.origin c.targs) (QD:fn.isWrapper p.checked.prog c.wrapper c.mainSum)
  (h:∀os:Os,os.Started->∀(H:Type)(enc:TypeId×Value->H),∀F:Stop.Interp,ReturnsInLeavingWide c.assume p.checked os f .any (c.pre enc p.checked.prog fn s) ((s.at F).post enc p.checked.prog fn c.apart c.fresh c.handsOn c.again)):c.holds p s:=by
 obtain⟨hstart,uf,qb,ik,eu,hlv,ZU,KY⟩:=plain;simp only[joinedFacts,bq,beq_iff_eq,Array.all_eq_true_iff_forall_mem,List.all_eq_true,decide_eq_true_eq]at closed;obtain⟨⟨⟨⟨⟨⟨⟨⟨⟨⟨⟨⟨⟨⟨⟨⟨⟨⟨⟨⟨⟨⟨⟨⟨⟨⟨⟨⟨⟨⟨⟨a1,a2⟩,a3⟩,a4⟩,a5⟩,a6⟩,a7⟩,a8⟩,a9⟩,iq⟩,gu⟩,a12⟩,a13⟩,a14⟩,M5⟩,a16⟩,a17⟩,a18⟩,a19⟩,a20⟩,a21⟩,a22⟩,a23⟩,a24⟩,a25⟩,a26⟩,a27⟩,a28⟩,a29⟩,a30⟩,a31⟩,a32⟩:=closed;have quiet:∀os:Os,Stop.quiet p.checked.prog os:=λos k hk=>by rw[a9]at hk;cases hk
 have fits:c.startFits p.checked.prog:=by unfold OpenClaim.startFits;rw[hstart];exact a26
 have told:c.startTold p.checked.prog:=by unfold OpenClaim.startTold;rw[hstart];exact⟨qb,ik,none_⟩
 refine⟨a1,names.1,names.2.1,names.2.2,a2,a3,fits,told,f,fn,ny,hf,⟨a4,a20⟩,(λhb=>by rw[eu]at hb;cases hb),by unfold OpenClaim.namedList;rw[ZU];exact a5,SF,QD,a6.trans a7.symm,⟨a8.trans a9.symm,by unfold Program.envWorded;rw[a9];rfl,a25⟩,iq,gu,a12,a13,a14,⟨M5,a31,a32⟩,⟨a16,a21⟩,⟨a17,a22,a29,a30⟩,⟨a23,a27,a28,a18⟩,?_,λn zv=>varReadable_some (a19 n zv),⟨_,by unfold OpenClaim.world;rw[uf,hstart];exact WideRow.started_initial,quiet _⟩,[],by unfold OpenClaim.lists;rw[ZU],λos st _ H enc inj=>?_⟩
 .rw[uf,YU];cases vk:c.shortTexts with
  |none=>simp
  |some _=>rw[vk]at a24;cases a24
 .have kq:os.Started:=by unfold OpenClaim.world at st;rw[uf,hstart]at st;exact st
  rw[OpenClaim.post_not_still KY];unfold OpenClaim.form;rw[hstart,a6];intro F;have e1:c.okInput=Input.okWide:=by unfold OpenClaim.okInput;rw[eu]
  have e2:c.atReturn p.checked.prog=leavingAtReturn p.checked.prog:=by unfold OpenClaim.atReturn;rw[hlv]
  have e3:c.always p.checked.prog []=nothingAlways:=by unfold OpenClaim.always;rw[ZU]
  have e4:s.post enc p.checked.prog fn F c.outside c.apart c.fresh c.handsOn c.again=(s.at F).post enc p.checked.prog fn c.apart c.fresh c.handsOn c.again:=by rw[uf];rfl
  rw[e1,e2,e3];show ReturnsInOpen _ _ _ _ _ _ _ _ (s.post enc p.checked.prog fn F c.outside c.apart c.fresh c.handsOn c.again) _ _;rw[e4];exact h os kq H enc F a26
theorem over:Rows.actsUptoRow.holds Tryz.pinned (Rows.OpenSpec.upto Rows.actsSpec):=by
 refine Jd 3 Tryz.f3 ⟨rfl,rfl,rfl⟩ ⟨rfl,rfl,rfl,rfl,rfl,rfl,rfl,rfl⟩ ⟨rfl,rfl,rfl,rfl,rfl⟩ rfl (by kernel_rfl) Tryz.func3 (by kernel_rfl) (of_decide_eq_true (by kernel_rfl)) (by unfold Func.isWrapper;first|(rw[ai (by decide +kernel)];kernel_rfl)|(rw[ah (by decide +kernel)];exact⟨rfl,rfl⟩)) λos started H enc F=>?_
 rw[OpenClaim.pre_eq_preRow];exact Zv os started H enc F
theorem Uy:∀f fn,Tryz.pinned.checked.prog.funcNamed Rows.actsUptoRow.func=some f->Tryz.pinned.checked.prog.funcs[f]?=some fn->false=Tryz.pinned.checked.prog.looks []∧∀(j:Nat) t,fn.params[j]?=some t->Tryz.pinned.checked.prog.wantsStandIn t=false:=by
 intro f fn hf ny;obtain rfl:f=3:=bm (hf.symm.trans (by kernel_rfl));obtain rfl:fn=Tryz.f3:=bm (ny.symm.trans Tryz.func3);refine⟨by kernel_rfl,λj t ht=>?_⟩;rw[Tryz.params3]at ht;have h3:t=3∨t=22:=by
  rcases j with _|_|_|j
  .exact .inl (by simpa using ht.symm)
  .exact .inl (by simpa using ht.symm)
  .exact .inr ((by simpa using ht.symm))
  .simp at ht
 rcases h3 with rfl|rfl
 .exact(show Tryz.prog.wantsStandIn 3=false by kernel_rfl)
 .exact(show Tryz.prog.wantsStandIn 22=false by kernel_rfl)
theorem proved:Rows.ActsUptoCardSaid:=by refine⟨?_,λD hD=>(by cases hD),actsUpto_row_tie,(λh=>(by cases h)),by kernel_rfl⟩;exact Claim7.tied_new_at .later [.sentinel] true (Claim7.new_of_sixth over Rows.actsUptoCard.stood.harness false rfl ⟨rfl,rfl⟩ (by kernel_rfl) (by kernel_rfl) Uy) (by kernel_rfl)
#print axioms proved
