/-
  The statement Survives, second form (arguments of bulk at most 1048576), as its card: for every four arguments the function mosaickeep.Survives answers true (whatever is damaged on any four disks, every value is told as it was, all is made good again, and so on, any number of times), its call ends without a race, and all that was there before reads as it did. Condition: the bulk; the package variable that is listed starts as the program's text lays it.
-/
import Derived.Test.YtpiefebngnlfoaaGreatDoorNm
import Derived.Test.YtpiefebngnlfoaaGreatDoorNo
import Derived.Test.YtpiefebngnlfoaaGreatDoorCards
import Derived.Test.YtpiefebngnlfoaaGreatDoorTie
import Derived.Deep.DeepWitnessRowRef
import Derived.Stop.LaidErr
import Derived.Stop.JoinedAt
import Derived.JoinedCond
import Derived.SevenTiedAt
set_option maxRecDepth 100000
set_option maxHeartbeats 16000000
set_option linter.unusedVariables false
set_option linter.unusedSimpArgs false
set_option linter.unnecessarySimpa false
namespace Go.Proofs.YtpiefebngnlfoaaGreatDoor.survivesupto
open Go.ChangeShapes Go.WideShapes Go.ChangeAt Go.RowKit Go.Conc Go.Vw
theorem ends{W:World}{Post:Value→World→Prop}(hodd:∀ b,Odd W b→Tryz.prog.globals.size≤b)(hg:Tryz.prog.globals.size≤W.heap.size)(t:TypeId)(e:Value)(hg0:W.cell? ⟨0,0,none⟩=some (.iface t e))(n b:Int)(hn:-9223372036854775808≤n∧n≤9223372036854775807)(hb:-9223372036854775808≤b∧b≤9223372036854775807)(p:Option Addr)(na cap:Nat)(A:Nat→Ac)(hA:znY (zaT W).heap.size (zaT W) p na A)(hna:na≤1048576)(q:Option Addr)(nl capq:Nat)(Q:Nat→Dms)(hQ:ynC (zaT W).heap.size (zaT W) q nl Q)(hnl:nl≤1048576)(hpost:∀ W',Old W W'→Post (.bool true) W') :
  ∃ M last o w' t',runNT Tryz.prog (M+1) (solo (G (Frame.enter Tryz.prog 4 #[.int .i64 n,.int .i64 b,.slice p na cap,.slice q nl capq] .normal) []) W) #[]=(.ended o w',t')∧runN Tryz.prog M (solo (G (Frame.enter Tryz.prog 4 #[.int .i64 n,.int .i64 b,.slice p na cap,.slice q nl capq] .normal) []) W)=.next last∧step Tryz.prog last=.ended o w'∧Conc.Good Tryz.prog Post last o w' t':=by
 refine zqV hodd ?_;rw[enter_at _ Tryz.func4 (c:=Tryz.f4.body.getD .skip) rfl,Tryz.ntmps4,zkE (by simp)];refine ynD t e (zgH hg0) (by rw[(znK hodd).size];exact hg) n b hn.1 hn.2 hb.1 hb.2 p na cap A hA hna q nl capq Q hQ (by omega) _ [] fun f' todo S' v' h2 hk=>?_
 refine Reach.done ⟨_,.bool true,rfl,⟨rfl,rfl,rfl,_,Tryz.func4,?_⟩,by kernel_rfl,fun W' hR hF=>hpost W' (ylR hodd hk hR hF)⟩
 show(results _ (TA 97 f')).run _ _=_;simp[results,Tryz.results4,h2]
theorem yiH{n:Int}(h:(Lit.int .i64 n).wf=true):-9223372036854775808≤n∧n≤9223372036854775807:=by
 simp only[Lit.wf,Bool.and_eq_true,decide_eq_true_eq]at h;have m1:IntKind.i64.min=-9223372036854775808:=by decide
 have m2:IntKind.i64.max=9223372036854775807:=by decide
 omega
def errT:String:=match (Rows.laid_mosaic_block_errNone:DataW Unit) with
 |.iface t _=>t
 |_=> ""
theorem gE:Tryz.prog.globalNamed (Rows.survivesUptoRow.named.headD "")=some 0:=by kernel_rfl
theorem ymL:(Tryz.prog.globals[0]?).map (·.type)=some 184:=by kernel_rfl
theorem yjT(u:TypeId)(h:Tryz.prog.typeName? 3 u=some errT):u=219:=
 typeName_ptr_named (nm:= "errors.errorString") (by kernel_rfl) (by kernel_rfl) (by decide) u (h.trans (congrArg some (by kernel_rfl)))
theorem yhJ{W:World}(hL:laidMetH Tryz.prog Rows.survivesUptoRow.laid W):∃ a:Addr,W.cell? ⟨0,0,none⟩=some (.iface 219 (.pointer (some a))):=by
 obtain⟨a0,s0,hv0,_⟩:=laid_sentinel (n:=Rows.survivesUptoRow.named.headD "") (nm:=errT) hL gE ymL Tryz.underlying184 yjT Tryz.underlying219 Tryz.underlying235 rfl rfl Tryz.underlying9 (by kernel_rfl) (by kernel_rfl);exact⟨a0,by simpa using World.var?_cell gE hv0 0⟩
def ydU:ByteArray:={data:=#[98,108,111,99,107,58,32,116,104,101,114,101,32,105,115,32,110,111,32,112,105,101,99,101,32,105,110,32,105,116]}
def lowP(P:Program):Nat:=(World.holding P default ⟨#[],#[],[]⟩).heap.size
def ykB(P:Program)(os:Os):World:=
 {World.holding P os ⟨#[.cells #[.string ydU] 235],#[],[]⟩ with heap:=(World.holding P os ⟨#[.cells #[.string ydU] 235],#[],[]⟩).heap.modify 0 fun
   |.cells _ t frozen=>.cells #[.iface 219 (.pointer (some ⟨lowP P,0,none⟩))] t frozen
   |o=>o}
theorem ygX(os:Os)(args:Array Value):laidMet Tryz.prog Rows.survivesUptoRow.laid ((ykB Tryz.prog os).forCall (fun _ _=>0) ⟨#[],args,[]⟩).memory:=
 laidMet_of_run (ps:=[.cell 0 0,.cell (lowP Tryz.prog) 0]) 8 (by kernel_rfl) (by kernel_rfl) (by kernel_rfl)
theorem ylM(os:Os){H:Type}(enc:TypeId×Value→H):∃ places,DataW.whole enc Tryz.prog ((ykB Tryz.prog os).forCall (fun _ _=>0) ⟨#[],#[.int .i64 0,.int .i64 0,.slice none 0 0,.slice none 0 0],[]⟩).memory Tryz.f4.params.toList (Rows.OpenSpec.upto Rows.survivesSpec).vars false #[Value.int .i64 0,Value.int .i64 0,Value.slice none 0 0,Value.slice none 0 0].toList 8=some ([.lit (.int .i64 0),.lit (.int .i64 0),.nil,.nil],[],places):=
 ⟨[],by kernel_rfl⟩
theorem wit(os:Os){H:Type}(enc:TypeId×Value→H):∃ (w:World) (tape:Tape) (i:Input),w.os=os∧(w.forCall tape i).Shaped Tryz.checked.prog∧i.vars=[]∧Input.okWide Tryz.checked.prog (w.forCall tape i) .any w.heap.size 4 i∧
  (Rows.OpenSpec.upto Rows.survivesSpec).preRow enc Tryz.checked.prog Tryz.f4 Rows.survivesUptoRow.domain false Rows.survivesUptoRow.laid (w.forCall tape i).memory i.args∧({} : Assume).holds Tryz.checked.prog (lone (Frame.enter Tryz.checked.prog 4 i.args .normal) [] (w.forCall tape i)):=by
 obtain⟨places,hx⟩:=ylM os enc;exact witness_row_atRef (enc:=enc) (C:=Tryz.checked) false (ykB Tryz.prog os) #[.int .i64 0,.int .i64 0,.slice none 0 0,.slice none 0 0] rfl (by kernel_rfl) (by kernel_rfl) (by kernel_rfl)
  (OpenSpec.preRow_of_cond 8 hx (by kernel_rfl) (fun k hk=>by
   obtain rfl:=Option.some.inj hk
   kernel_rfl) (by kernel_rfl) (ygX os _))
theorem ymC(os:Os)(started:os.Started)(H:Type)(enc:TypeId×Value→H)(F:Stop.Interp) :
  ReturnsInLeavingWide {} Tryz.checked os 4 .any ((Rows.OpenSpec.upto Rows.survivesSpec).preRow enc Tryz.prog Tryz.f4 Rows.survivesUptoRow.domain false Rows.survivesUptoRow.laid) (((Rows.OpenSpec.upto Rows.survivesSpec).at F).post enc Tryz.prog Tryz.f4 false true false false):=by
 refine returnsInLeavingWide_of_good (C:=Tryz.checked) own started (wit os enc) ?_;intro w tape i _ hsh _ hok hpre _;obtain⟨_,_,_,fn',hfn',_,_,_,_,hval0⟩:=hok;have e:fn'=Tryz.f4:=Option.some.inj (hfn'.symm.trans Tryz.func4);subst e;obtain⟨⟨hp,hl⟩,hz⟩:=hpre;obtain⟨ds,gs,before,hw,hc,hk⟩:=OpenSpec.pre_parts hp;have hW:=DataW.Whole.of_heap (w':=w.forCall tape i) (by rfl) hw;have hL:laidMetH Tryz.prog Rows.survivesUptoRow.laid (w.forCall tape i):=hl.of_heap (by rfl);have hk1:=hk _ rfl;clear hw hz hc hfn' hk hl hp;refine(?_:∃ N last o w' t',_∧_∧_∧Conc.Good Tryz.prog (fun v w'=>((Rows.OpenSpec.upto Rows.survivesSpec).at F).post enc Tryz.prog Tryz.f4 false true false false (w.forCall tape i) i.args v w') last o w' t').imp fun N h=>h.imp fun last h=>h.imp fun o h=>h.imp fun w' h=>h.imp fun t' h=>⟨h.1,h.2.1,h.2.2.1,h.2.2.2.mono fun v hp=>ChangeSpec.post_blind hp⟩
 generalize w.heap.size=base at hval0;generalize w.forCall tape i=W at *
 generalize i.args=args at *
 have hval:∀ (j:Nat) t v,Tryz.f4.params[j]?=some t→args[j]?=some v→Value.okWide Tryz.prog W .any base t v:=hval0;have hW':=hW;obtain⟨p,q,hA0,hV,rfl,hfz,hnd⟩:=hW;have hA:DataW.TrodAll enc Tryz.prog W 0 (fun _=>true) true Tryz.f4.params.toList args.toList ds p:=hA0;rw[Tryz.params4]at hA hval;obtain⟨v0,vs0,d0,ds0,p0,q0,hargs,rfl,rfl,h0,r0⟩:=trodAll_cons hA;obtain⟨v1,vs1,d1,ds1,p1,q1,rfl,rfl,rfl,h1,r1⟩:=trodAll_cons r0;obtain⟨v2,vs2,d2,ds2,p2,q2,rfl,rfl,rfl,h2,r2⟩:=trodAll_cons r1;obtain⟨v3,vs3,d3,ds3,p3,q3,rfl,rfl,rfl,h3,r3⟩:=trodAll_cons r2;obtain⟨rfl,rfl,rfl⟩:=trodAll_nil r3;obtain rfl:args=#[v0,v1,v2,v3]:=by cases args;simp_all
 obtain⟨rfl,rfl⟩:=trodVars_none hV;have hblk:Rows.uptoBulk d2≤1048576∧Rows.uptoBulk d3≤1048576:=by
  have hh:Rows.uptoBulkAll ([d0,d1,d2,d3]++[])≤1048576:=of_decide_eq_true hk1;simp only[List.append_nil,Rows.uptoBulkAll]at hh;omega
 obtain⟨a0,rfl,rfl,rfl,w0⟩:=open_int Tryz.underlying3 (hval 0 3 v0 rfl rfl) h0;obtain⟨a1,rfl,rfl,rfl,w1⟩:=open_int Tryz.underlying3 (hval 1 3 v1 rfl rfl) h1;obtain⟨pa,na,ca,A,rfl,hA2,hna⟩:=zsO (hval 2 54 v2 rfl rfl) h2 hblk.1;obtain⟨pq,nq,cq,Q,rfl,hQ3,hnq⟩:=ynF (hval 3 55 v3 rfl rfl) h3 hblk.2;obtain⟨ea,hea⟩:=yhJ hL;clear hA0 hval0;simp only[List.append_nil]at hW';refine ends (zyH hsh) (zuB hsh) 219 _ hea a0 a1 (yiH w0) (yiH w1) pa na ca A hA2 hna pq nq cq Q hQ3 hnq fun W' hO=>?_
 have hlt2:∀ x∈p2,x.block<W.heap.size:=fun x hx=>by simpa using hW'.lt x (by simp[hx])
 have hlt3:∀ x∈p3,x.block<W.heap.size:=fun x hx=>by simpa using hW'.lt x (by simp[hx])
 have tt2:=WideElems.Trod_stays (sp':=fun b=>decide (b<W.heap.size)) laid (by kernel_rfl) (of_decide_eq_true (by kernel_rfl)) h2 (fun x hx=>hO.same (hlt2 x hx)) (fun x hx=>by simpa using hlt2 x hx)
 have tt3:=WideElems.Trod_stays (sp':=fun b=>decide (b<W.heap.size)) laid (by kernel_rfl) (of_decide_eq_true (by kernel_rfl)) h3 (fun x hx=>hO.same (hlt3 x hx)) (fun x hx=>by simpa using hlt3 x hx)
 exact⟨_,_,_,[],_,[],hW',trodAll_cons_mk (shut_bool Tryz.underlying4 _) trodAll_mk0,trodAll_cons_mk (shut_int Tryz.underlying3 w0) (trodAll_cons_mk (shut_int Tryz.underlying3 w1) (trodAll_cons_mk tt2 (trodAll_cons_mk tt3 trodAll_mk0))),rfl,hO.kept _,fun h=>by cases h⟩
theorem zjT{p:Pinned}{s:OpenSpec}{c:OpenClaim}(f:FuncId)(fn:Func)(names:c.program=p.name∧c.sum=p.sum∧c.spec=s.name)(plain:c.start=.entering∧c.outside=[]∧c.inits=[]∧c.under=none∧c.noBlocks=false∧c.leaving=true∧c.followed=none∧c.still=false)(none_:c.initsInPlace=[]∧c.initsUnfollowed=false∧c.initsRecurse=false∧c.initsNamed=[]∧c.initsPassed=[])(hnar:c.narrowed=s.cond.isSome)
  (hfn:p.checked.prog.funcNamed c.func=some f) (hf:p.checked.prog.funcs[f]?=some fn) (closed:joinedFacts p.checked.prog f fn s.bare c=true) (hinst:fn.isInstance p.checked.prog c.origin c.targs) (hwrap:fn.isWrapper p.checked.prog c.wrapper c.mainSum)
  (h:∀ os:Os,os.Started→∀ (H:Type) (enc:TypeId×Value→H),∀ F:Stop.Interp,ReturnsInLeavingWide c.assume p.checked os f .any (c.pre enc p.checked.prog fn s) ((s.at F).post enc p.checked.prog fn c.apart c.fresh c.handsOn c.again)):c.holds p s:=by
 obtain⟨hstart,hout,hin,hun,hnb,hlv,hfo,hstill⟩:=plain;simp only[joinedFacts,Bool.and_eq_true,beq_iff_eq,Array.all_eq_true_iff_forall_mem,List.all_eq_true,decide_eq_true_eq]at closed;obtain⟨⟨⟨⟨⟨⟨⟨⟨⟨⟨⟨⟨⟨⟨⟨⟨⟨⟨⟨⟨⟨⟨⟨⟨⟨⟨⟨⟨⟨⟨⟨a1,a2⟩,a3⟩,a4⟩,a5⟩,a6⟩,a7⟩,a8⟩,a9⟩,a10⟩,a11⟩,a12⟩,a13⟩,a14⟩,a15⟩,a16⟩,a17⟩,a18⟩,a19⟩,a20⟩,a21⟩,a22⟩,a23⟩,a24⟩,a25⟩,a26⟩,a27⟩,a28⟩,a29⟩,a30⟩,a31⟩,a32⟩:=closed;have quiet:∀ os:Os,Stop.quiet p.checked.prog os:=fun os k hk=>by rw[a9]at hk;cases hk
 have fits:c.startFits p.checked.prog:=by unfold OpenClaim.startFits;rw[hstart];exact a26
 have told:c.startTold p.checked.prog:=by unfold OpenClaim.startTold;rw[hstart];exact⟨hin,hun,none_⟩
 refine⟨a1,names.1,names.2.1,names.2.2,a2,a3,fits,told,f,fn,hfn,hf,⟨a4,a20⟩,(fun hb=>by rw[hnb]at hb;cases hb),by unfold OpenClaim.namedList;rw[hfo];exact a5,hinst,hwrap,a6.trans a7.symm,⟨a8.trans a9.symm,by unfold Program.envWorded;rw[a9];rfl,a25⟩,a10,a11,a12,a13,a14,⟨a15,a31,a32⟩,⟨a16,a21⟩,⟨a17,a22,a29,a30⟩,⟨a23,a27,a28,a18⟩,?_,fun n hn'=>varReadable_some (a19 n hn'),⟨_,by unfold OpenClaim.world;rw[hout,hstart];exact WideRow.started_initial,quiet _⟩,[],by unfold OpenClaim.lists;rw[hfo],fun os st _ H enc inj=>?_⟩
 ·rw[hout,hnar];cases hsh:c.shortTexts with
  |none=>simp
  |some _=>rw[hsh]at a24;cases a24
 ·have st':os.Started:=by unfold OpenClaim.world at st;rw[hout,hstart]at st;exact st
  rw[OpenClaim.post_not_still hstill];unfold OpenClaim.form;rw[hstart,a6];intro F;have e1:c.okInput=Input.okWide:=by unfold OpenClaim.okInput;rw[hnb]
  have e2:c.atReturn p.checked.prog=leavingAtReturn p.checked.prog:=by unfold OpenClaim.atReturn;rw[hlv]
  have e3:c.always p.checked.prog []=nothingAlways:=by unfold OpenClaim.always;rw[hfo]
  have e4:s.post enc p.checked.prog fn F c.outside c.apart c.fresh c.handsOn c.again=(s.at F).post enc p.checked.prog fn c.apart c.fresh c.handsOn c.again:=by rw[hout];rfl
  rw[e1,e2,e3];show ReturnsInOpen _ _ _ _ _ _ _ _ (s.post enc p.checked.prog fn F c.outside c.apart c.fresh c.handsOn c.again) _ _;rw[e4];exact h os st' H enc F a26
theorem over:Rows.survivesUptoRow.holds Tryz.pinned (Rows.OpenSpec.upto Rows.survivesSpec):=by
 refine zjT 4 Tryz.f4 ⟨rfl,rfl,rfl⟩ ⟨rfl,rfl,rfl,rfl,rfl,rfl,rfl,rfl⟩ ⟨rfl,rfl,rfl,rfl,rfl⟩ rfl (by kernel_rfl) Tryz.func4 (by kernel_rfl) (of_decide_eq_true (by kernel_rfl)) (by unfold Func.isWrapper;first|(rw[if_pos (by decide +kernel)];kernel_rfl)|(rw[if_neg (by decide +kernel)];exact⟨rfl,rfl⟩)) fun os started H enc F=>?_
 rw[OpenClaim.pre_eq_preRow];exact ymC os started H enc F
theorem ygS:∀ f fn,Tryz.pinned.checked.prog.funcNamed Rows.survivesUptoRow.func=some f→Tryz.pinned.checked.prog.funcs[f]?=some fn→false=Tryz.pinned.checked.prog.looks []∧∀ (j:Nat) t,fn.params[j]?=some t→Tryz.pinned.checked.prog.wantsStandIn t=false:=by
 intro f fn hf hfn;obtain rfl:f=4:=Option.some.inj (hf.symm.trans (by kernel_rfl));obtain rfl:fn=Tryz.f4:=Option.some.inj (hfn.symm.trans Tryz.func4);refine⟨by kernel_rfl,fun j t ht=>?_⟩
 rw[Tryz.params4]at ht;have h3:t=3∨t=54∨t=55:=by
  rcases j with _|_|_|_|j
  ·exact .inl (by simpa using ht.symm)
  ·exact .inl (by simpa using ht.symm)
  ·exact .inr (.inl (by simpa using ht.symm))
  ·exact .inr (.inr (by simpa using ht.symm))
  ·simp at ht
 rcases h3 with rfl|rfl|rfl
 ·exact(show Tryz.prog.wantsStandIn 3=false by kernel_rfl)
 ·exact(show Tryz.prog.wantsStandIn 54=false by kernel_rfl)
 ·exact(show Tryz.prog.wantsStandIn 55=false by kernel_rfl)
theorem proved:Rows.SurvivesUptoCardSaid:=by
 refine⟨?_,fun D hD=>(by cases hD),survivesUpto_row_tie,(fun h=>(by cases h)),by kernel_rfl⟩
 exact Claim7.tied_new_at .later [.sentinel] true (Claim7.new_of_sixth over Rows.survivesUptoCard.stood.harness false rfl ⟨rfl,rfl⟩ (by kernel_rfl) (by kernel_rfl) ygS) (by kernel_rfl)
#print axioms proved
end Go.Proofs.YtpiefebngnlfoaaGreatDoor.survivesupto
