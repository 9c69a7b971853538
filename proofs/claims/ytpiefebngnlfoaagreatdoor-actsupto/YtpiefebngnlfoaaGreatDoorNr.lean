import Derived.Conc.LeavingOf
import Derived.Carry
import Derived.ChangeSlices
import Derived.ProofKit
import Derived.OpenShut
import Derived.Test.YtpiefebngnlfoaaGreatDoorNn
import Derived.Deep.Strs
import Derived.Lib.SmallJoins
set_option maxRecDepth 99999
set_option maxHeartbeats 0
set_option linter.unusedVariables false
set_option linter.unusedSimpArgs false
set_option linter.unnecessarySimpa false
namespace Go.Proofs.YtpiefebngnlfoaaGreatDoor
open Go.ChangeShapes Go.WideShapes Go.ChangeAt Go.RowKit Go.Conc Go.Vw
structure Old(W W':World):Prop where
 size:W.heap.size<=W'.heap.size
 os:W'.os=W.os
 output:W'.output=W.output
 block:∀b,b<W.heap.size->W'.heap[b]?=W.heap[b]?
theorem Zi{W W' v':World}{S':Nat->Prop}(CW:∀b,kB W b->Tryz.prog.globals.size<=b)(hk:Kp (fD W) (λ_=>False) v')(hR:Rel Tryz.prog S' 0 v' W')(hF:Fx (kB W) W S' W'):Old W W':=by
 have h0:=xJ (P:=Tryz.prog) CW;refine⟨?_,?_,?_,λb hb=>?_⟩
 .rw[<-hR.size,<-h0.size];exact hk.size
 .rw[<-hR.os,hk.os];exact h0.os
 .rw[<-hR.output,hk.output];exact h0.output
 .by_cases ho:kB W b
  .exact(hF b ho).2
  .have hs:=h0.seen b ho;have hi:W.heap[b]?=some W.heap[b]:=bf hb;rw[hi]at hs;have ht:=h0.tame b ho _ hs;have hv:=hk.objs b _ (λx=>x) hs ht;by_cases hS:S' b
   .exfalso;have hj:=hR.hid b hS;rw[hv]at hj;have jo:=bm hj;rw[jo]at ht;exact ht
   .rw[<-hR.seen b hS,hv,hi]
theorem Old.kept{W W':World}(h:Old W W')(may:MemPlace->Prop):W.keptBut W' may:=by
 refine⟨h.os,h.output,λi hi=>?_⟩;rw[h.block i hi];cases W.heap[i]? with
 |none=>rfl
 |some o=>cases o<;>simp
theorem Old.same{W W':World}(h:Old W W'){p:MemPlace}(hp:p.block<W.heap.size):W.sameAt W' p:=by
 cases p with
 |cell b o=>exact World.cell?_of_block (w:=W) (h.block b hp)
 |map b=>exact h.block b hp
theorem wO{W:World}{a:Addr}{x:Value}(h:W.cell? a=some x):(fD W).cell? a=some x:=by
 unfold World.cell? at h⊢;cases hb:W.heap[a.block]? with
 |none=>simp[hb]at h
 |some o=>
  have ho:(fD W).heap[a.block]?=some (if oO o then o else eR):=by show(W.heap.map _)[a.block]?=_;rw[bj,hb];rfl
  cases o with
  |cells c t fr=>have:oO (Obj.cells c t fr)=true:=rfl;rw[ai this]at ho;rw[ho];rw[hb]at h;exact h
  |_=>simp[hb]at h
theorem own:ownKnob Tryz.prog.godebug=none:=by kernel_rfl
theorem laid:laidOutB Tryz.prog=true:=by kernel_rfl
theorem plain:((List.range Tryz.prog.globals.size).all λg=>(((begin Tryz.prog (λ_ _=>0) default).world.heap[g]?).bind Obj.row?).isSome)=true:=by kernel_rfl
theorem By{W:World}(h:W.ShapedOpen Tryz.prog){b:Nat}(hb:b<Tryz.prog.globals.size):∃cs t,W.heap[b]?=some (.cells cs t):=by have:=List.all_eq_true.1 plain b (by simpa using hb);obtain⟨⟨zero,t⟩,hz⟩:=Option.isSome_iff_exists.1 this;obtain⟨cs,hc,_⟩:=h.1 b zero t hb hz;exact⟨cs,t,hc⟩
theorem Nd{W:World}(h:W.ShapedOpen Tryz.prog):∀b,kB W b->Tryz.prog.globals.size<=b:=by intro b ⟨o,ho,hn⟩;refine Nat.le_of_not_lt λhb=>?_;obtain⟨cs,t,hc⟩:=By h hb;rw[hc]at ho;cases ho;exact hn trivial
theorem Lm{W:World}(h:W.ShapedOpen Tryz.prog):Tryz.prog.globals.size<=W.heap.size:=by refine Nat.le_of_not_lt λhb=>?_;obtain⟨cs,t,hc⟩:=By h hb;simp at hc
theorem Eo{W:World}{a:Addr}{x:Value}(h:W.cell? a=some x):a.spot=none:=by
 unfold World.cell? at h;split at h
 .split at h
  .cases h
  .rename_i hs;simpa using hs
 .cases h
theorem He{W:World}{a:Addr}{x:Value}(h:W.cell? a=some x):a.block<W.heap.size:=by
 unfold World.cell? at h;cases hb:W.heap[a.block]? with
 |none=>rw[hb]at h;cases h
 |some o=>exact(Array.getElem?_eq_some_iff.1 hb).1
theorem Cs(W:World):(fD W).heap.size=W.heap.size:=by show(W.heap.map _).size=_;simp
theorem Vz{H:Type}(d:DataW H):1<=Rows.uptoBulk d:=by
 cases d with
 |lit l=>cases l<;>simp[Rows.uptoBulk]
 |_=>simp[Rows.uptoBulk]
theorem yD{H:Type} : ∀l:List (DataW H),l.length<=Rows.uptoBulkAll l
 |[]=>Nat.zero_le _
 |d::l=>by have h1:=Vz d;have h2:=yD l;simp only[Rows.uptoBulkAll,av];omega
theorem Fz{H:Type} : ∀{l:List (DataW H)}{d:DataW H},d∈l->Rows.uptoBulk d<=Rows.uptoBulkAll l
 |x::l,d,h=>by
  simp only[Rows.uptoBulkAll];rcases List.mem_cons.1 h with rfl|h
  .omega
  .have:=Fz h;omega
theorem Kv{H:Type}{enc:TypeId×Value->H}{W:World}{fuel:Nat}{v:Value}{x:DataW H×List MemPlace}(h:DataW.trod enc Tryz.prog W 0 (λ_=>true) true fuel 43 [v]=some x)(hb:Rows.uptoBulk x.1<=1048576):∃(p:Option Addr)(len cap:Nat)(y:Nat->Nat),v=.slice p len cap∧len<=1048576∧(∀i,y i<256)∧fA (fD W).heap.size (fD W) p len cap y:=by
 rcases open_ints Tryz.underlying43 Tryz.underlying5 (by kernel_rfl) h with⟨ns,_⟩|⟨a,len,cap,zs,ns,_,hl,hm,hz,hx,lg,hw⟩
 .simp only[List.cons.injEq,and_true]at ns;exact⟨none,0,0,λ_=>0,ns,by decide,λ_=>Nat.zero_lt_succ _,.inl (.inl ⟨rfl,rfl,rfl⟩),λh=>absurd h (by omega)⟩
 .simp only[List.cons.injEq,and_true]at ns;simp only[if_true]at hz;have hlen:len<=1048576:=by
   rw[(Prod.ext_iff.1 hx).1]at hb;have h1:=yD (H:=H) (lits .u8 (zs.take len));have h2:(lits (H:=H) .u8 (zs.take len)).length=len:=by simp[lits];omega
   simp only[Rows.uptoBulk]at hb;omega
  by_cases h0:cap=0
  .exact⟨some a,len,cap,λ_=>0,ns,hlen,λ_=>Nat.zero_lt_succ _,.inr ⟨⟨a,rfl⟩,by omega,h0⟩,λh=>absurd h (by omega)⟩
  .have hs:a.spot=none:=by
    have:=Eo (lg 0 (by omega));simpa [Addr.add] using this
   have dp:=He (lg 0 (by omega));obtain⟨b,off,spot⟩:=a;simp only at hs;subst hs;rw[Addr.add_lit]at dp;simp only at dp;have OR:∀i,0<=zs.getD i 0∧zs.getD i 0<=255:=λi=>by have:=range_u8 hw i;simpa [List.getD] using this
   refine⟨some ⟨b,off,none⟩,len,cap,λi=>(zs.getD i 0).toNat,ns,hlen,λi=>by have:=OR i;show(zs.getD i 0).toNat<256;omega,.inl (.inr ⟨b,off,rfl,hl,λj hj=>?_⟩),λ_ a ha=>?_⟩
   .have:=wO (lg j (by omega));rw[Addr.add_lit]at this;rw[this];have:=OR j;congr 2;show zs.getD j 0=((zs.getD j 0).toNat:Int);omega
   .cases ha;rw[Cs];exact⟨dp,.inl dp⟩
def lR(N:Nat)(w:World)(p:Option Addr)(na:Nat)(A:Nat->Opp):Prop:=∀i,i<na->(∃B off,p=some ⟨B,off,none⟩∧B<N∧∀k y,(A i).agg[k]?=some y->w.cell? ⟨B,off+i*4+k,none⟩=some y)∧(A i).Ok N w
theorem lR.fr{N:Nat}{w w':World}{p:Option Addr}{na:Nat}{A:Nat->Opp}(h:lR N w p na A)(hF:Fr N w w'):lR N w' p na A:=λi hi=>by obtain⟨⟨B,off,h1,h2,h3⟩,h4⟩:=h i hi;exact⟨⟨B,off,h1,h2,λk y hy=>Kp.cell hF (λhb=>by have:=hb.1;omega) (h3 k y hy)⟩,h4.fr hF⟩
theorem Qb{o:Oper}{a:Act}{x:Operand}{b off:Nat}{c:Opp}{u:World}(dm:o.op=.load 46 x)(hx:a.eval x=.pointer (some ⟨b,off,none⟩))(h:∀k y,c.agg[k]?=some y->u.cell? ⟨b,off+k,none⟩=some y):(execOp a.eval o).run Tryz.prog u=.ok (.value (.agg c.agg)) u:=by have hl:=run_loadAt_mid (P:=Tryz.prog) u b off 46 c.agg.toList _ (λi r hy=>h i r (by rw[<-bd];exact hy)) Tryz.underlying46 rfl (by kernel_rfl);unfold execOp;simp only[dm,hx,df,hl,dc,dg]
theorem Pn:∃f0 f1 f2 f3,Tryz.prog.underlying 46=some (.struct #[f0,f1,f2,f3])∧(f0.type=3∧f1.type=3∧f2.type=3∧f3.type=43)∧f0.offset=0∧f1.offset=1∧f2.offset=2∧f3.offset=3∧Tryz.prog.cellsOf 46=4∧Tryz.prog.cellsOf 3=1∧Tryz.prog.cellsOf 43=1:=⟨_,_,_,_,Tryz.underlying46,⟨rfl,rfl,rfl,rfl⟩,rfl,rfl,rfl,rfl,by kernel_rfl,by kernel_rfl,by kernel_rfl⟩
theorem Oe{H:Type}{enc:TypeId×Value->H}{W:World}{fuel:Nat}{cs:List Value}{x:DataW H×List MemPlace}(hf:DataW.trod enc Tryz.prog W 0 (λ_=>true) true fuel 22 cs=some x)(hb:Rows.uptoBulk x.1<=1048576):∃(p:Option Addr)(na cap:Nat)(A:Nat->Opp),cs=[.slice p na cap]∧lR (fD W).heap.size (fD W) p na A∧na<=1048576:=by
 obtain⟨f0,f1,f2,f3,hu,⟨t0,t1,t2,t3⟩,o0,o1,o2,o3,hc,BD,ns⟩:=Pn;rcases Deep.open_slice Tryz.underlying22 hf with⟨rfl,_⟩|⟨a,len,cap,m,n,D,Pl,rfl,_,hl,hm,zw,hx,hr⟩
 .exact⟨none,0,0,λ_=>⟨0,0,0,none,0,0,λ_=>0⟩,rfl,λi hi=>absurd hi (by omega),by omega⟩
 .by_cases h0:len=0
  .subst h0;exact⟨_,0,cap,λ_=>⟨0,0,0,none,0,0,λ_=>0⟩,rfl,λi hi=>absurd hi (by omega),by omega⟩
  simp only[if_true]at zw;have OD:a.spot=none:=by
   obtain⟨AO,q1,q2⟩:=hr 0 (by omega);rw[hc]at q1;obtain⟨_,ql,lg⟩:=World.cells?_some q1;have h3:0<AO.length:=by rw[ql];omega
   have:=Eo ((lg 0 (by omega)).trans (List.getElem?_eq_getElem h3));simpa [Addr.add] using this
  obtain⟨b,off,spot⟩:=a;simp only at OD;subst OD;have hd:=(Prod.ext_iff.1 hx).1;simp only at hd;rw[hd]at hb;simp only[Rows.uptoBulk]at hb;have JU:=yD (H:=H) ((List.range len).map D);rw[bz,List.length_range]at JU;have each:∀i,∃ac:Opp,i<len->(∀k y,ac.agg[k]?=some y->(fD W).cell? ⟨b,off+i*4+k,none⟩=some y)∧b<(fD W).heap.size∧ac.Ok (fD W).heap.size (fD W):=by
   intro i;by_cases hi:i<len
   .obtain⟨AO,q1,q2⟩:=hr i (by omega);obtain⟨y0,y1,y2,y3,n',hy,G3,s0,s1,s2,s3⟩:=Joins.trod_struct4 hu q2;rw[hc]at q1 G3;obtain⟨_,_,lg⟩:=World.cells?_some q1;rw[t0,o0,BD]at s0;rw[t1,o1,BD]at s1;rw[t2,o2,BD]at s2;rw[t3,o3,ns]at s3;match AO,G3 with
    |[c0,c1,c2,c3],_=>
     obtain⟨z,e0,_,hwf⟩:=DataW.trod_int Tryz.underlying3 s0;obtain⟨bb,e1,_,XL⟩:=DataW.trod_int Tryz.underlying3 s1;obtain⟨z2,e2,_,XK⟩:=DataW.trod_int Tryz.underlying3 s2;simp at e0 e1 e2;subst e0 e1 e2;have I7:Rows.uptoBulk (D i)<=1048576:=by have:=Fz (H:=H) (l:=(List.range len).map D) (List.mem_map.2 ⟨i,List.mem_range.2 hi,rfl⟩);omega
     have hD:=(Prod.ext_iff.1 hy).1;simp only at hD;rw[hD]at I7;simp only[Rows.uptoBulk,Rows.uptoBulkAll]at I7;obtain⟨p',WT,gz,yy,e3,hlen,dp,qo⟩:=Kv (v:=c3) (by simpa using s3) (by omega);subst e3;have OR:=bounds_i64 XL;have TH:=bounds_i64 XK;refine⟨⟨z,bb,z2,p',WT,gz,yy⟩,λ_=>⟨λk y hk=>?_,?_,OR.1,OR.2,TH.1,TH.2,Nat.lt_of_le_of_lt hlen (by decide),dp,qo⟩⟩
     .have hk3:k<4:=(Array.getElem?_eq_some_iff.1 hk).1;have:=lg k hk3;rw[Addr.add_lit,Addr.add_lit]at this;have MR:W.cell? ⟨b,off+i*4+k,none⟩=some y:=by
       rw[this,<-hk];rcases(by omega:k=0∨k=1∨k=2∨k=3) with rfl|rfl|rfl|rfl<;>rfl
      exact wO MR
     .have:=lg 0 (by omega);rw[Addr.add_lit,Addr.add_lit]at this;rw[Cs];exact He (this.trans rfl)
   .exact⟨⟨0,0,0,none,0,0,λ_=>0⟩,λh=>absurd h hi⟩
  obtain⟨A,hA⟩:=Classical.axiomOfChoice each;exact⟨some ⟨b,off,none⟩,len,cap,A,rfl,λi hi=>⟨⟨b,off,rfl,(hA i hi).2.1,(hA i hi).1⟩,(hA i hi).2.2⟩,by omega⟩
theorem Ut{H:Type}{enc:TypeId×Value->H}{W:World}{base:Nat}{v:Value}{d:DataW H}{ps:List MemPlace}(fh:Value.okWide Tryz.prog W .any base 22 v)(h:DataW.Trod enc Tryz.prog W 0 (λ_=>true) true 22 v d ps)(hb:Rows.uptoBulk d<=1048576):∃(p:Option Addr)(na cap:Nat)(A:Nat->Opp),v=.slice p na cap∧lR (fD W).heap.size (fD W) p na A∧na<=1048576:=by obtain⟨a0,len,cap,rfl⟩:=okWide_slice Tryz.underlying22 fh;obtain⟨fuel,hf⟩:=h;obtain⟨p,na,c,A,q,hA⟩:=Oe hf hb;simp[Value.cells]at q;obtain⟨rfl,rfl,rfl⟩:=q;exact⟨_,_,_,A,rfl,hA⟩
