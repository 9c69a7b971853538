/-
  The statement Metered, second form (arguments of bulk at most 1048576), as its card: for every seven arguments the function mosaickeep.Metered answers true (writes are counted: with none the disks are as they were mounted; one more changes one block at most; where none is lost it is the same whenever it is done), its call ends without a race, and all that was there before reads as it did. Condition: the bulk; the package variable that is listed starts as the program's text lays it.
-/
import Derived.Test.YtpiefebngnlfoabGreatDoorNs
import Derived.Test.YtpiefebngnlfoabGreatDoorNo
import Derived.Test.YtpiefebngnlfoabGreatDoorCards
import Derived.Test.YtpiefebngnlfoabGreatDoorTie
import Derived.Deep.DeepWitnessRowRef
import Derived.Stop.LaidErr
import Derived.Stop.JoinedAt
import Derived.JoinedCond
set_option maxRecDepth 99999
set_option maxHeartbeats 0
set_option linter.unusedVariables false
set_option linter.unusedSimpArgs false
set_option linter.unnecessarySimpa false
namespace Go.Proofs.YtpiefebngnlfoabGreatDoor.meteredupto
open Go.ChangeShapes Go.WideShapes Go.ChangeAt Go.RowKit Go.Conc Go.Vw
theorem Ka{W:World}{Post:Value->World->Prop}(hodd:∀ b,kO W b->Tryz.prog.globals.size<=b)(hg:Tryz.prog.globals.size<=W.heap.size)(t:TypeId)(e:Value)(hg0:W.cell? ⟨0,0,none⟩=some (.iface t e))(i0:Int)(hi0:-9223372036854775808<=i0∧i0<=9223372036854775807)(i1:Int)(hi1:-9223372036854775808<=i1∧i1<=9223372036854775807)(p2:Option Addr)(n2 c2:Nat)(A2:Nat->Ac)(hA2:iK (cS W).heap.size (cS W) p2 n2 A2)(hn2:n2<=1048576)(p3:Option Addr)(n3 c3:Nat)(A3:Nat->Dm)(hA3:mB (cS W).heap.size (cS W) p3 n3 A3)(hn3:n3<=1048576)(p4:Option Addr)(n4 c4:Nat)(A4:Nat->Ac)(hA4:iK (cS W).heap.size (cS W) p4 n4 A4)(hn4:n4<=1048576)(i5:Int)(hi5:-9223372036854775808<=i5∧i5<=9223372036854775807)(i6:Int)(hi6:-9223372036854775808<=i6∧i6<=9223372036854775807)(hpost:∀ W',Old W W'->Post (.bool true) W') :
  ∃ M last o w' t',runNT Tryz.prog (M+1) (solo (G (Frame.enter Tryz.prog 5 #[.int .i64 i0,.int .i64 i1,.slice p2 n2 c2,.slice p3 n3 c3,.slice p4 n4 c4,.int .i64 i5,.int .i64 i6] .normal) []) W) #[]=(.ended o w',t')∧runN Tryz.prog M (solo (G (Frame.enter Tryz.prog 5 #[.int .i64 i0,.int .i64 i1,.slice p2 n2 c2,.slice p3 n3 c3,.slice p4 n4 c4,.int .i64 i5,.int .i64 i6] .normal) []) W)=.next last∧step Tryz.prog last=.ended o w'∧Conc.Good Tryz.prog Post last o w' t':=by
 refine Ld hodd ?_;rw[enter_at _ Tryz.func5 (c:=Tryz.f5.body.getD .skip) rfl,Tryz.ntmps5,qU (by simp)];refine La t e (qF hg0) (by rw[(yP hodd).size];exact hg) i0 i1 i5 i6 hi0.1 hi0.2 hi1.1 hi1.2 hi5.1 hi5.2 hi6.1 hi6.2 p2 n2 c2 A2 hA2 hn2 p3 n3 c3 A3 hA3 (by omega) p4 n4 c4 A4 hA4 hn4 _ [] fun f' todo S' v' h2 hk=>?_
 refine Reach.done ⟨_,.bool true,rfl,⟨rfl,rfl,rfl,_,Tryz.func5,?_⟩,by kernel_rfl,fun W' hR hF=>hpost W' (Zp hodd hk hR hF)⟩
 show(results _ (TA 118 f')).run _ _=_;simp[results,Tryz.results5,h2]
theorem vP{n:Int}(h:(Lit.int .i64 n).wf=true):-9223372036854775808<=n∧n<=9223372036854775807:=by
 simp only[Lit.wf,Bool.and_eq_true,decide_eq_true_eq]at h;have m1:IntKind.i64.min=-9223372036854775808:=by decide
 have m2:IntKind.i64.max=9223372036854775807:=by decide
 omega
def Jz:String:=match (Rows.laid_mosaic_block_errNone:DataW Unit) with
 |.iface t _=>t
 |_=> ""
theorem gE:Tryz.prog.globalNamed (Rows.meteredUptoRow.named.headD "")=some 0:=by kernel_rfl
theorem zaF:(Tryz.prog.globals[0]?).map (·.type)=some 189:=by kernel_rfl
theorem Xw(u:TypeId)(h:Tryz.prog.typeName? 3 u=some Jz):u=198:=
 typeName_ptr_named (nm:= "errors.errorString") (by kernel_rfl) (by kernel_rfl) (by decide) u (h.trans (congrArg some (by kernel_rfl)))
theorem Wp{W:World}(hL:laidMetH Tryz.prog Rows.meteredUptoRow.laid W):∃ a:Addr,W.cell? ⟨0,0,none⟩=some (.iface 198 (.pointer (some a))):=by
 obtain⟨a0,s0,hv0,_⟩:=laid_sentinel (n:=Rows.meteredUptoRow.named.headD "") (nm:=Jz) hL gE zaF Tryz.underlying189 Xw Tryz.underlying198 Tryz.underlying214 rfl rfl Tryz.underlying9 (by kernel_rfl) (by kernel_rfl);exact⟨a0,by simpa using World.var?_cell gE hv0 0⟩
def Ii:ByteArray:={data:=#[98,108,111,99,107,58,32,116,104,101,114,101,32,105,115,32,110,111,32,112,105,101,99,101,32,105,110,32,105,116]}
def Jy(P:Program):Nat:=(World.holding P default ⟨#[],#[],[]⟩).heap.size
def Av(P:Program)(os:Os):World:=
 {World.holding P os ⟨#[.cells #[.string Ii] 214],#[],[]⟩ with heap:=(World.holding P os ⟨#[.cells #[.string Ii] 214],#[],[]⟩).heap.modify 0 fun
   |.cells _ t frozen=>.cells #[.iface 198 (.pointer (some ⟨Jy P,0,none⟩))] t frozen
   |o=>o}
theorem Wd(os:Os)(args:Array Value):laidMet Tryz.prog Rows.meteredUptoRow.laid ((Av Tryz.prog os).forCall (fun _ _=>0) ⟨#[],args,[]⟩).memory:=
 laidMet_of_run (ps:=[.cell 0 0,.cell (Jy Tryz.prog) 0]) 8 (by kernel_rfl) (by kernel_rfl) (by kernel_rfl)
theorem Jn(os:Os){H:Type}(enc:TypeId×Value->H):∃ places,DataW.whole enc Tryz.prog ((Av Tryz.prog os).forCall (fun _ _=>0) ⟨#[],#[.int .i64 0,.int .i64 0,.slice none 0 0,.slice none 0 0,.slice none 0 0,.int .i64 0,.int .i64 0],[]⟩).memory Tryz.f5.params.toList (Rows.OpenSpec.upto Rows.meteredSpec).vars false #[Value.int .i64 0,Value.int .i64 0,Value.slice none 0 0,Value.slice none 0 0,Value.slice none 0 0,Value.int .i64 0,Value.int .i64 0].toList 8=some ([.lit (.int .i64 0),.lit (.int .i64 0),.nil,.nil,.nil,.lit (.int .i64 0),.lit (.int .i64 0)],[],places):=
 ⟨[],by kernel_rfl⟩
theorem wit(os:Os){H:Type}(enc:TypeId×Value->H):∃ (w:World) (tape:Tape) (i:Input),w.os=os∧(w.forCall tape i).Shaped Tryz.checked.prog∧i.vars=[]∧Input.okWide Tryz.checked.prog (w.forCall tape i) .any w.heap.size 5 i∧
  (Rows.OpenSpec.upto Rows.meteredSpec).preRow enc Tryz.checked.prog Tryz.f5 Rows.meteredUptoRow.domain false Rows.meteredUptoRow.laid (w.forCall tape i).memory i.args∧({} : Assume).holds Tryz.checked.prog (lone (Frame.enter Tryz.checked.prog 5 i.args .normal) [] (w.forCall tape i)):=by
 obtain⟨places,hx⟩:=Jn os enc;exact witness_row_atRef (enc:=enc) (C:=Tryz.checked) false (Av Tryz.prog os) #[.int .i64 0,.int .i64 0,.slice none 0 0,.slice none 0 0,.slice none 0 0,.int .i64 0,.int .i64 0] rfl (by kernel_rfl) (by kernel_rfl) (by kernel_rfl)
  (OpenSpec.preRow_of_cond 8 hx (by kernel_rfl) (fun k hk=>by
   obtain rfl:=Option.some.inj hk
   kernel_rfl) (by kernel_rfl) (Wd os _))
theorem Zz(os:Os)(started:os.Started)(H:Type)(enc:TypeId×Value->H)(F:Stop.Interp) :
  ReturnsInLeavingWide {} Tryz.checked os 5 .any ((Rows.OpenSpec.upto Rows.meteredSpec).preRow enc Tryz.prog Tryz.f5 Rows.meteredUptoRow.domain false Rows.meteredUptoRow.laid) (((Rows.OpenSpec.upto Rows.meteredSpec).at F).post enc Tryz.prog Tryz.f5 false true false false):=by
 refine returnsInLeavingWide_of_good (C:=Tryz.checked) own started (wit os enc) ?_;intro w tape i _ hsh _ hok hpre _;obtain⟨_,_,_,fn',hfn',_,_,_,_,hval0⟩:=hok;have e:fn'=Tryz.f5:=Option.some.inj (hfn'.symm.trans Tryz.func5);subst e;obtain⟨⟨hp,hl⟩,hz⟩:=hpre;obtain⟨ds,gs,before,hw,hc,hk⟩:=OpenSpec.pre_parts hp;have hW:=DataW.Whole.of_heap (w':=w.forCall tape i) (by rfl) hw;have hL:laidMetH Tryz.prog Rows.meteredUptoRow.laid (w.forCall tape i):=hl.of_heap (by rfl);have hk1:=hk _ rfl;clear hw hz hc hfn' hk hl hp;refine(?_:∃ N last o w' t',_∧_∧_∧Conc.Good Tryz.prog (fun v w'=>((Rows.OpenSpec.upto Rows.meteredSpec).at F).post enc Tryz.prog Tryz.f5 false true false false (w.forCall tape i) i.args v w') last o w' t').imp fun N h=>h.imp fun last h=>h.imp fun o h=>h.imp fun w' h=>h.imp fun t' h=>⟨h.1,h.2.1,h.2.2.1,h.2.2.2.mono fun v hp=>ChangeSpec.post_blind hp⟩
 generalize w.heap.size=base at hval0;generalize w.forCall tape i=W at *
 generalize i.args=args at *
 have hval:∀ (j:Nat) t v,Tryz.f5.params[j]?=some t->args[j]?=some v->Value.okWide Tryz.prog W .any base t v:=hval0;have hW':=hW;obtain⟨p,q,hA0,hV,rfl,hfz,hnd⟩:=hW;have hA:DataW.TrodAll enc Tryz.prog W 0 (fun _=>true) true Tryz.f5.params.toList args.toList ds p:=hA0;rw[Tryz.params5]at hA hval;obtain⟨v0,vs0,d0,ds0,p0,q0,hargs,rfl,rfl,h0,r0⟩:=trodAll_cons hA;obtain⟨v1,vs1,d1,ds1,p1,q1,rfl,rfl,rfl,h1,r1⟩:=trodAll_cons r0;obtain⟨v2,vs2,d2,ds2,p2,q2,rfl,rfl,rfl,h2,r2⟩:=trodAll_cons r1;obtain⟨v3,vs3,d3,ds3,p3,q3,rfl,rfl,rfl,h3,r3⟩:=trodAll_cons r2;obtain⟨v4,vs4,d4,ds4,p4,q4,rfl,rfl,rfl,h4,r4⟩:=trodAll_cons r3;obtain⟨v5,vs5,d5,ds5,p5,q5,rfl,rfl,rfl,h5,r5⟩:=trodAll_cons r4;obtain⟨v6,vs6,d6,ds6,p6,q6,rfl,rfl,rfl,h6,r6⟩:=trodAll_cons r5;obtain⟨rfl,rfl,rfl⟩:=trodAll_nil r6;obtain rfl:args=#[v0,v1,v2,v3,v4,v5,v6]:=by cases args;simp_all
 obtain⟨rfl,rfl⟩:=trodVars_none hV;have hblk:Rows.uptoBulk d2<=1048576∧Rows.uptoBulk d3<=1048576∧Rows.uptoBulk d4<=1048576:=by
  have hh:Rows.uptoBulkAll ([d0,d1,d2,d3,d4,d5,d6]++[])<=1048576:=of_decide_eq_true hk1;simp only[List.append_nil,Rows.uptoBulkAll]at hh;omega
 obtain⟨a0,rfl,rfl,rfl,w0⟩:=open_int Tryz.underlying3 (hval 0 3 v0 rfl rfl) h0;obtain⟨a1,rfl,rfl,rfl,w1⟩:=open_int Tryz.underlying3 (hval 1 3 v1 rfl rfl) h1;obtain⟨a5,rfl,rfl,rfl,w5⟩:=open_int Tryz.underlying3 (hval 5 3 v5 rfl rfl) h5;obtain⟨a6,rfl,rfl,rfl,w6⟩:=open_int Tryz.underlying3 (hval 6 3 v6 rfl rfl) h6;obtain⟨pp2,nn2,cc2,AA2,rfl,hAA2,hnn2⟩:=Fc (hval 2 22 v2 rfl rfl) h2 hblk.1;obtain⟨pp3,nn3,cc3,AA3,rfl,hAA3,hnn3⟩:=Sq (hval 3 23 v3 rfl rfl) h3 hblk.2.1;obtain⟨pp4,nn4,cc4,AA4,rfl,hAA4,hnn4⟩:=Fc (hval 4 22 v4 rfl rfl) h4 hblk.2.2;obtain⟨ea,hea⟩:=Wp hL;clear hA0 hval0;simp only[List.append_nil]at hW';refine Ka (Om hsh) (Mk hsh) 198 _ hea a0 (vP w0) a1 (vP w1) pp2 nn2 cc2 AA2 hAA2 hnn2 pp3 nn3 cc3 AA3 hAA3 hnn3 pp4 nn4 cc4 AA4 hAA4 hnn4 a5 (vP w5) a6 (vP w6) fun W' hO=>?_
 have hlt2:∀ x∈p2,x.block<W.heap.size:=fun x hx=>by simpa using hW'.lt x (by simp[hx])
 have hlt3:∀ x∈p3,x.block<W.heap.size:=fun x hx=>by simpa using hW'.lt x (by simp[hx])
 have hlt4:∀ x∈p4,x.block<W.heap.size:=fun x hx=>by simpa using hW'.lt x (by simp[hx])
 have tt2:=WideElems.Trod_stays (sp':=fun b=>decide (b<W.heap.size)) laid (by kernel_rfl) (of_decide_eq_true (by kernel_rfl)) h2 (fun x hx=>hO.same (hlt2 x hx)) (fun x hx=>by simpa using hlt2 x hx)
 have tt3:=WideElems.Trod_stays (sp':=fun b=>decide (b<W.heap.size)) laid (by kernel_rfl) (of_decide_eq_true (by kernel_rfl)) h3 (fun x hx=>hO.same (hlt3 x hx)) (fun x hx=>by simpa using hlt3 x hx)
 have tt4:=WideElems.Trod_stays (sp':=fun b=>decide (b<W.heap.size)) laid (by kernel_rfl) (of_decide_eq_true (by kernel_rfl)) h4 (fun x hx=>hO.same (hlt4 x hx)) (fun x hx=>by simpa using hlt4 x hx)
 exact⟨_,_,_,[],_,[],hW',trodAll_cons_mk (shut_bool Tryz.underlying4 _) trodAll_mk0,(trodAll_cons_mk (shut_int Tryz.underlying3 w0) (trodAll_cons_mk (shut_int Tryz.underlying3 w1) (trodAll_cons_mk tt2 (trodAll_cons_mk tt3 (trodAll_cons_mk tt4 (trodAll_cons_mk (shut_int Tryz.underlying3 w5) (trodAll_cons_mk (shut_int Tryz.underlying3 w6) trodAll_mk0))))))),rfl,hO.kept _,fun h=>by cases h⟩
theorem Ke{p:Pinned}{s:OpenSpec}{c:OpenClaim}(f:FuncId)(fn:Func)(names:c.program=p.name∧c.sum=p.sum∧c.spec=s.name)(plain:c.start=.entering∧c.outside=[]∧c.inits=[]∧c.under=none∧c.noBlocks=false∧c.leaving=true∧c.followed=none∧c.still=false)(none_:c.initsInPlace=[]∧c.initsUnfollowed=false∧c.initsRecurse=false∧c.initsNamed=[]∧c.initsPassed=[])(hnar:c.narrowed=s.cond.isSome)
  (hfn:p.checked.prog.funcNamed c.func=some f) (hf:p.checked.prog.funcs[f]?=some fn) (closed:joinedFacts p.checked.prog f fn s.bare c=true) (hinst:fn.isInstance p.checked.prog c.origin c.targs) (hwrap:fn.isWrapper p.checked.prog c.wrapper c.mainSum)
  (h:∀ os:Os,os.Started->∀ (H:Type) (enc:TypeId×Value->H),∀ F:Stop.Interp,ReturnsInLeavingWide c.assume p.checked os f .any (c.pre enc p.checked.prog fn s) ((s.at F).post enc p.checked.prog fn c.apart c.fresh c.handsOn c.again)):c.holds p s:=by
 obtain⟨hstart,hout,hin,hun,hnb,hlv,hfo,hstill⟩:=plain;simp only[joinedFacts,Bool.and_eq_true,beq_iff_eq,Array.all_eq_true_iff_forall_mem,List.all_eq_true,decide_eq_true_eq]at closed;obtain⟨⟨⟨⟨⟨⟨⟨⟨⟨⟨⟨⟨⟨⟨⟨⟨⟨⟨⟨⟨⟨⟨⟨⟨⟨⟨⟨⟨⟨⟨⟨a1,a2⟩,a3⟩,a4⟩,a5⟩,a6⟩,a7⟩,a8⟩,a9⟩,a10⟩,a11⟩,a12⟩,a13⟩,a14⟩,a15⟩,a16⟩,a17⟩,a18⟩,a19⟩,a20⟩,a21⟩,a22⟩,a23⟩,a24⟩,a25⟩,a26⟩,a27⟩,a28⟩,a29⟩,a30⟩,a31⟩,a32⟩:=closed;have quiet:∀ os:Os,Stop.quiet p.checked.prog os:=fun os k hk=>by rw[a9]at hk;cases hk
 have fits:c.startFits p.checked.prog:=by unfold OpenClaim.startFits;rw[hstart];exact a26
 have told:c.startTold p.checked.prog:=by unfold OpenClaim.startTold;rw[hstart];exact⟨hin,hun,none_⟩
 refine⟨a1,names.1,names.2.1,names.2.2,a2,a3,fits,told,f,fn,hfn,hf,⟨a4,a20⟩,(fun hb=>by rw[hnb]at hb;cases hb),by unfold OpenClaim.namedList;rw[hfo];exact a5,hinst,hwrap,a6.trans a7.symm,⟨a8.trans a9.symm,by unfold Program.envWorded;rw[a9];rfl,a25⟩,a10,a11,a12,a13,a14,⟨a15,a31,a32⟩,⟨a16,a21⟩,⟨a17,a22,a29,a30⟩,⟨a23,a27,a28,a18⟩,?_,fun n hn'=>varReadable_some (a19 n hn'),⟨_,by unfold OpenClaim.world;rw[hout,hstart];exact WideRow.started_initial,quiet _⟩,[],by unfold OpenClaim.lists;rw[hfo],fun os st _ H enc inj=>?_⟩
 .rw[hout,hnar];cases hsh:c.shortTexts with
  |none=>simp
  |some _=>rw[hsh]at a24;cases a24
 .have st':os.Started:=by unfold OpenClaim.world at st;rw[hout,hstart]at st;exact st
  rw[OpenClaim.post_not_still hstill];unfold OpenClaim.form;rw[hstart,a6];intro F;have e1:c.okInput=Input.okWide:=by unfold OpenClaim.okInput;rw[hnb]
  have e2:c.atReturn p.checked.prog=leavingAtReturn p.checked.prog:=by unfold OpenClaim.atReturn;rw[hlv]
  have e3:c.always p.checked.prog []=nothingAlways:=by unfold OpenClaim.always;rw[hfo]
  have e4:s.post enc p.checked.prog fn F c.outside c.apart c.fresh c.handsOn c.again=(s.at F).post enc p.checked.prog fn c.apart c.fresh c.handsOn c.again:=by rw[hout];rfl
  rw[e1,e2,e3];show ReturnsInOpen _ _ _ _ _ _ _ _ (s.post enc p.checked.prog fn F c.outside c.apart c.fresh c.handsOn c.again) _ _;rw[e4];exact h os st' H enc F a26
theorem over:Rows.meteredUptoRow.holds Tryz.pinned (Rows.OpenSpec.upto Rows.meteredSpec):=by
 refine Ke 5 Tryz.f5 ⟨rfl,rfl,rfl⟩ ⟨rfl,rfl,rfl,rfl,rfl,rfl,rfl,rfl⟩ ⟨rfl,rfl,rfl,rfl,rfl⟩ rfl (by kernel_rfl) Tryz.func5 (by kernel_rfl) (of_decide_eq_true (by kernel_rfl)) (by unfold Func.isWrapper;first|(rw[if_pos (by decide +kernel)];kernel_rfl)|(rw[if_neg (by decide +kernel)];exact⟨rfl,rfl⟩)) fun os started H enc F=>?_
 rw[OpenClaim.pre_eq_preRow];exact Zz os started H enc F
theorem Vy:∀ f fn,Tryz.pinned.checked.prog.funcNamed Rows.meteredUptoRow.func=some f->Tryz.pinned.checked.prog.funcs[f]?=some fn->false=Tryz.pinned.checked.prog.looks []∧∀ (j:Nat) t,fn.params[j]?=some t->Tryz.pinned.checked.prog.wantsStandIn t=false:=by
 intro f fn hf hfn;obtain rfl:f=5:=Option.some.inj (hf.symm.trans (by kernel_rfl));obtain rfl:fn=Tryz.f5:=Option.some.inj (hfn.symm.trans Tryz.func5);refine⟨by kernel_rfl,fun j t ht=>?_⟩
 rw[Tryz.params5]at ht;have h3:t=3∨t=22∨t=23:=by
  rcases j with _|_|_|_|_|_|_|j
  .exact .inl (by simpa using ht.symm)
  .exact .inl (by simpa using ht.symm)
  .exact .inr (.inl (by simpa using ht.symm))
  .exact .inr (.inr ((by simpa using ht.symm)))
  .exact .inr (.inl (by simpa using ht.symm))
  .exact .inl (by simpa using ht.symm)
  .exact .inl (by simpa using ht.symm)
  .simp at ht
 rcases h3 with rfl|rfl|rfl
 .exact(show Tryz.prog.wantsStandIn 3=false by kernel_rfl)
 .exact(show Tryz.prog.wantsStandIn 22=false by kernel_rfl)
 .exact(show Tryz.prog.wantsStandIn 23=false by kernel_rfl)
theorem proved:Rows.MeteredUptoCardSaid:=by
 refine⟨?_,fun D hD=>(by cases hD),meteredUpto_row_tie,(fun h=>(by cases h)),by kernel_rfl⟩
 exact Claim7.tied_new_at .later [.sentinel] true (Claim7.new_of_sixth over Rows.meteredUptoCard.stood.harness false rfl ⟨rfl,rfl⟩ (by kernel_rfl) (by kernel_rfl) Vy) (by kernel_rfl)
#print axioms proved
