import Derived.Conc.LeavingOf
import Derived.Carry
import Derived.ChangeSlices
import Derived.ProofKit
import Derived.OpenShut
import Derived.Deep.Strs
import Derived.Deep.Grids
import Derived.Lib.SmallJoins
import Derived.Test.YtpiefebngnlfoabGreatDoorNu
import Derived.Deep.SlicePairs
set_option maxRecDepth 99999
set_option maxHeartbeats 0
set_option linter.unusedVariables false
set_option linter.unusedSimpArgs false
set_option linter.unnecessarySimpa false
namespace Go.Proofs.YtpiefebngnlfoabGreatDoor
open Go.ChangeShapes Go.WideShapes Go.ChangeAt Go.RowKit Go.Conc Go.Vw
structure Old(W W':World):Prop where
 size:W.heap.size<=W'.heap.size
 os:W'.os=W.os
 output:W'.output=W.output
 block:∀ b,b<W.heap.size->W'.heap[b]?=W.heap[b]?
theorem Zf{W W' v':World}{S':Nat->Prop}(hodd:∀ b,kH W b->Tryz.prog.globals.size<=b)(hk:Kp (cK W) (fun _=>False) v')(hR:Rel Tryz.prog S' 0 v' W')(hF:Fx (kH W) W S' W'):Old W W':=by
 have h0:=yC (P:=Tryz.prog) hodd;refine⟨?_,?_,?_,fun b hb=>?_⟩
 .rw[<-hR.size,<-h0.size];exact hk.size
 .rw[<-hR.os,hk.os];exact h0.os
 .rw[<-hR.output,hk.output];exact h0.output
 .by_cases ho:kH W b
  .exact(hF b ho).2
  .have hs:=h0.seen b ho;have hi:W.heap[b]?=some W.heap[b]:=Array.getElem?_eq_getElem hb;rw[hi]at hs;have ht:=h0.tame b ho _ hs;have hv:=hk.objs b _ (fun x=>x) hs ht;by_cases hS:S' b
   .exfalso;have hj:=hR.hid b hS;rw[hv]at hj;have hj':=Option.some.inj hj;rw[hj']at ht;exact ht
   .rw[<-hR.seen b hS,hv,hi]
theorem Old.kept{W W':World}(h:Old W W')(may:MemPlace->Prop):W.keptBut W' may:=by
 refine⟨h.os,h.output,fun i hi=>?_⟩
 rw[h.block i hi];cases W.heap[i]? with
 |none=>rfl
 |some o=>cases o<;>simp
theorem Old.same{W W':World}(h:Old W W'){p:MemPlace}(hp:p.block<W.heap.size):W.sameAt W' p:=by
 cases p with
 |cell b o=>exact World.cell?_of_block (w:=W) (h.block b hp)
 |map b=>exact h.block b hp
theorem mG{W:World}{a:Addr}{x:Value}(h:W.cell? a=some x):(cK W).cell? a=some x:=by
 unfold World.cell? at h ⊢;cases hb:W.heap[a.block]? with
 |none=>simp[hb]at h
 |some o=>
  have ho:(cK W).heap[a.block]?=some (if pB o then o else eR):=by
   show(W.heap.map _)[a.block]?=_;rw[Array.getElem?_map,hb];rfl
  cases o with
  |cells c t fr=>
   have:pB (Obj.cells c t fr)=true:=rfl;rw[if_pos this]at ho;rw[ho];rw[hb]at h;exact h
  |_=>simp[hb]at h
theorem own:ownKnob Tryz.prog.godebug=none:=by kernel_rfl
theorem laid:laidOutB Tryz.prog=true:=by kernel_rfl
theorem plain:((List.range Tryz.prog.globals.size).all fun g=>(((begin Tryz.prog (fun _ _=>0) default).world.heap[g]?).bind Obj.row?).isSome)=true:=by kernel_rfl
theorem Co{W:World}(h:W.ShapedOpen Tryz.prog){b:Nat}(hb:b<Tryz.prog.globals.size):∃ cs t,W.heap[b]?=some (.cells cs t):=by
 have:=List.all_eq_true.1 plain b (by simpa using hb);obtain⟨⟨zero,t⟩,hz⟩:=Option.isSome_iff_exists.1 this;obtain⟨cs,hc,_⟩:=h.1 b zero t hb hz;exact⟨cs,t,hc⟩
theorem Nw{W:World}(h:W.ShapedOpen Tryz.prog):∀ b,kH W b->Tryz.prog.globals.size<=b:=by
 intro b ⟨o,ho,hn⟩;refine Nat.le_of_not_lt fun hb=>?_
 obtain⟨cs,t,hc⟩:=Co h hb;rw[hc]at ho;cases ho
 exact hn trivial
theorem Lp{W:World}(h:W.ShapedOpen Tryz.prog):Tryz.prog.globals.size<=W.heap.size:=by
 refine Nat.le_of_not_lt fun hb=>?_
 obtain⟨cs,t,hc⟩:=Co h hb;simp at hc
theorem qS{W:World}{a:Addr}{x:Value}(h:W.cell? a=some x):a.spot=none:=by
 unfold World.cell? at h;split at h
 .split at h
  .cases h
  .rename_i hs;simpa using hs
 .cases h
theorem rL{W:World}{a:Addr}{x:Value}(h:W.cell? a=some x):a.block<W.heap.size:=by
 unfold World.cell? at h;cases hb:W.heap[a.block]? with
 |none=>rw[hb]at h;cases h
 |some o=>exact(Array.getElem?_eq_some_iff.1 hb).1
theorem qI(W:World):(cK W).heap.size=W.heap.size:=by
 show(W.heap.map _).size=_;simp
theorem Wf{H:Type}(d:DataW H):1<=Rows.uptoBulk d:=by
 cases d with
 |lit l=>cases l<;>simp[Rows.uptoBulk]
 |_=>simp[Rows.uptoBulk]
theorem oT{H:Type} : ∀ l:List (DataW H),l.length<=Rows.uptoBulkAll l
 |[]=>Nat.zero_le _
 |d :: l=>by
  have h1:=Wf d;have h2:=oT l;simp only[Rows.uptoBulkAll,List.length_cons];omega
theorem uR{H:Type} : ∀ {l:List (DataW H)} {d:DataW H},d∈l->Rows.uptoBulk d<=Rows.uptoBulkAll l
 |x :: l,d,h=>by
  simp only[Rows.uptoBulkAll];rcases List.mem_cons.1 h with rfl|h
  .omega
  .have:=uR h;omega
theorem Ky{H:Type}{enc:TypeId×Value->H}{W:World}{fuel:Nat}{v:Value}{x:DataW H×List MemPlace}(h:DataW.trod enc Tryz.prog W 0 (fun _=>true) true fuel 48 [v]=some x)(hb:Rows.uptoBulk x.1<=1048576) :
  ∃ (p:Option Addr) (len cap:Nat) (y:Nat->Nat),v=.slice p len cap∧len<2 ^ 62∧(∀ i,y i<256)∧iN (cK W).heap.size (cK W) p len cap y:=by
 rcases open_ints Tryz.underlying48 Tryz.underlying5 (by kernel_rfl) h with⟨hcs,_⟩|⟨a,len,cap,zs,hcs,_,hl,hm,hz,hx,hcell,hw⟩
 .simp only[List.cons.injEq,and_true]at hcs;exact⟨none,0,0,fun _=>0,hcs,by decide,fun _=>Nat.zero_lt_succ _,.inl (.inl ⟨rfl,rfl,rfl⟩),fun h=>absurd h (by omega)⟩
 .simp only[List.cons.injEq,and_true]at hcs;simp only[if_true]at hz;have hlen:len<2 ^ 62:=by
   rw[(Prod.ext_iff.1 hx).1]at hb;have h1:=oT (H:=H) (lits .u8 (zs.take len));have h2:(lits (H:=H) .u8 (zs.take len)).length=len:=by
    simp[lits];omega
   simp only[Rows.uptoBulk]at hb;omega
  by_cases h0:cap=0
  .exact⟨some a,len,cap,fun _=>0,hcs,hlen,fun _=>Nat.zero_lt_succ _,.inr ⟨⟨a,rfl⟩,by omega,h0⟩,fun h=>absurd h (by omega)⟩
  .have hs:a.spot=none:=by
    have:=qS (hcell 0 (by omega));simpa [Addr.add] using this
   have hlt:=rL (hcell 0 (by omega));obtain⟨b,off,spot⟩:=a;simp only at hs;subst hs;rw[Addr.add_lit]at hlt;simp only at hlt;have hbd:∀ i,0<=zs.getD i 0∧zs.getD i 0<=255:=fun i=>by
    have:=range_u8 hw i;simpa [List.getD] using this
   refine⟨some ⟨b,off,none⟩,len,cap,fun i=>(zs.getD i 0).toNat,hcs,hlen,fun i=>by have:=hbd i;show(zs.getD i 0).toNat<256;omega,.inl (.inr ⟨b,off,rfl,hl,fun j hj=>?_⟩),fun _ a ha=>?_⟩
   .have:=mG (hcell j (by omega));rw[Addr.add_lit]at this;rw[this];have:=hbd j;congr 2;show zs.getD j 0=((zs.getD j 0).toNat:Int);omega
   .cases ha
    rw[qI];exact⟨hlt,.inl hlt⟩
theorem Nq:∃ f0 f1 f2,Tryz.prog.underlying 50=some (.struct #[f0,f1,f2])∧(f0.type=3∧f1.type=4∧f2.type=48)∧f0.offset=0∧f1.offset=1∧f2.offset=2∧Tryz.prog.cellsOf 50=3∧Tryz.prog.cellsOf 3=1∧Tryz.prog.cellsOf 4=1∧Tryz.prog.cellsOf 48=1:=⟨_,_,_,Tryz.underlying50,⟨rfl,rfl,rfl⟩,rfl,rfl,rfl,by kernel_rfl,by kernel_rfl,by kernel_rfl,by kernel_rfl⟩
theorem Cf{H:Type}{enc:TypeId×Value->H}{W:World}{fuel:Nat}{cs:List Value}{x:DataW H×List MemPlace}(hf:DataW.trod enc Tryz.prog W 0 (fun _=>true) true fuel 22 cs=some x)(hb:Rows.uptoBulk x.1<=1048576) :
  ∃ (p:Option Addr) (na cap:Nat) (A:Nat->Ac),cs=[.slice p na cap]∧kD (cK W).heap.size (cK W) p na A∧na<=1048576:=by
 obtain⟨f0,f1,f2,hu,⟨t0,t1,t2⟩,o0,o1,o2,hc,hci,hcb,hcs⟩:=Nq;rcases Deep.open_slice Tryz.underlying22 hf with⟨rfl,_⟩|⟨a,len,cap,m,n,D,Pl,rfl,_,hl,hm,hmm,hx,hr⟩
 .exact⟨none,0,0,fun _=>⟨0,false,none,0,0,fun _=>0⟩,rfl,fun i hi=>absurd hi (by omega),by omega⟩
 .by_cases h0:len=0
  .subst h0;exact⟨_,0,cap,fun _=>⟨0,false,none,0,0,fun _=>0⟩,rfl,fun i hi=>absurd hi (by omega),by omega⟩
  simp only[if_true]at hmm;have hsp:a.spot=none:=by
   obtain⟨cs',q1,q2⟩:=hr 0 (by omega);rw[hc]at q1;obtain⟨_,ql,hcell⟩:=World.cells?_some q1;have h3:0<cs'.length:=by rw[ql];omega
   have:=qS ((hcell 0 (by omega)).trans (List.getElem?_eq_getElem h3));simpa [Addr.add] using this
  obtain⟨b,off,spot⟩:=a;simp only at hsp;subst hsp;have hd:=(Prod.ext_iff.1 hx).1;simp only at hd;rw[hd]at hb;simp only[Rows.uptoBulk]at hb;have hbl:=oT (H:=H) ((List.range len).map D);rw[List.length_map,List.length_range]at hbl;have each:∀ i,∃ ac:Ac,i<len->(∀ k y,ac.agg[k]?=some y->(cK W).cell? ⟨b,off+i*3+k,none⟩=some y)∧b<(cK W).heap.size∧ac.Ok (cK W).heap.size (cK W):=by
   intro i;by_cases hi:i<len
   .obtain⟨cs',q1,q2⟩:=hr i (by omega);obtain⟨y0,y1,y2,n',hy,hl3,s0,s1,s2⟩:=Deep.trod_struct3 hu q2;rw[hc]at q1 hl3;obtain⟨_,_,hcell⟩:=World.cells?_some q1;rw[t0,o0,hci]at s0;rw[t1,o1,hcb]at s1;rw[t2,o2,hcs]at s2;match cs',hl3 with
    |[c0,c1,c2],_=>
     obtain⟨z,e0,_,hwf⟩:=DataW.trod_int Tryz.underlying3 s0;obtain⟨bb,e1,_⟩:=DataW.trod_bool Tryz.underlying4 s1;simp at e0 e1;subst e0 e1;have hbD:Rows.uptoBulk (D i)<=1048576:=by
      have:=uR (H:=H) (l:=(List.range len).map D) (List.mem_map.2 ⟨i,List.mem_range.2 hi,rfl⟩);omega
     have hD:=(Prod.ext_iff.1 hy).1;simp only at hD;rw[hD]at hbD;simp only[Rows.uptoBulk,Rows.uptoBulkAll]at hbD;obtain⟨p',len',cap',yy,e2,hlen,hlt,hsl⟩:=Ky (v:=c2) (by simpa using s2) (by omega);subst e2;have hbd:=bounds_i64 hwf;refine⟨⟨z,bb,p',len',cap',yy⟩,fun _=>⟨fun k y hk=>?_,?_,hbd.1,hbd.2,hlen,hlt,hsl⟩⟩
     .have hk3:k<3:=(Array.getElem?_eq_some_iff.1 hk).1;have:=hcell k hk3;rw[Addr.add_lit,Addr.add_lit]at this;have hcell':W.cell? ⟨b,off+i*3+k,none⟩=some y:=by
       rw[this,<-hk];rcases(by omega:k=0∨k=1∨k=2) with rfl|rfl|rfl<;>rfl
      exact mG hcell'
     .have:=hcell 0 (by omega);rw[Addr.add_lit,Addr.add_lit]at this;rw[qI];exact rL (this.trans rfl)
   .exact⟨⟨0,false,none,0,0,fun _=>0⟩,fun h=>absurd h hi⟩
  obtain⟨A,hA⟩:=Classical.axiomOfChoice each;exact⟨some ⟨b,off,none⟩,len,cap,A,rfl,fun i hi=>⟨⟨b,off,rfl,(hA i hi).2.1,(hA i hi).1⟩,(hA i hi).2.2⟩,by omega⟩
theorem Sa{H:Type}{enc:TypeId×Value->H}{W:World}{base:Nat}{v:Value}{d:DataW H}{ps:List MemPlace}(hval:Value.okWide Tryz.prog W .any base 22 v)(h:DataW.Trod enc Tryz.prog W 0 (fun _=>true) true 22 v d ps)(hb:Rows.uptoBulk d<=1048576) :
  ∃ (p:Option Addr) (na cap:Nat) (A:Nat->Ac),v=.slice p na cap∧kD (cK W).heap.size (cK W) p na A∧na<=1048576:=by
 obtain⟨a0,len,cap,rfl⟩:=okWide_slice Tryz.underlying22 hval;obtain⟨fuel,hf⟩:=h;obtain⟨p,na,c,A,q,hA⟩:=Cf hf hb;simp[Value.cells]at q;obtain⟨rfl,rfl,rfl⟩:=q;exact⟨_,_,_,A,rfl,hA⟩
theorem Kz{H:Type}{enc:TypeId×Value->H}{W:World}{fuel:Nat}{v:Value}{x:DataW H×List MemPlace}(h:DataW.trod enc Tryz.prog W 0 (fun _=>true) true fuel 68 [v]=some x)(hb:Rows.uptoBulk x.1<=1048576) :
  ∃ (p:Option Addr) (len cap:Nat) (y:Nat->Bool),v=.slice p len cap∧len<2 ^ 62∧∀ k,k<len->∃ B off,p=some ⟨B,off,none⟩∧B<(cK W).heap.size∧(cK W).cell? ⟨B,off+k,none⟩=some (.bool (y k)):=by
 rcases Deep.open_bools Tryz.underlying68 Tryz.underlying4 (by kernel_rfl) h with⟨hcs,_⟩|⟨a,len,cap,B,hcs,_,hl,hm,hx,hcell⟩
 .simp only[List.cons.injEq,and_true]at hcs;exact⟨none,0,0,fun _=>false,hcs,by decide,fun k hk=>absurd hk (by omega)⟩
 .simp only[List.cons.injEq,and_true]at hcs;have hlen:len<2 ^ 62:=by
   rw[(Prod.ext_iff.1 hx).1]at hb;simp only[Deep.boolRow,Rows.uptoBulk]at hb;have h1:=oT (H:=H) ((List.range len).map fun i=>.lit (.bool (B i)))
   rw[List.length_map,List.length_range]at h1;omega
  refine⟨some a,len,cap,B,hcs,hlen,fun k hk=>?_⟩
  have hs:a.spot=none:=by
   have:=qS (hcell 0 (by omega));simpa [Addr.add] using this
  have hlt:=rL (hcell 0 (by omega));have hck:=hcell k (by omega);obtain⟨b,off,spot⟩:=a;simp only at hs;subst hs;rw[Addr.add_lit]at hlt hck;exact⟨b,off,rfl,by rw[qI];exact hlt,mG hck⟩
theorem Np:∃ f0 f1 f2 f3,Tryz.prog.underlying 70=some (.struct #[f0,f1,f2,f3])∧(f0.type=3∧f1.type=4∧f2.type=3∧f3.type=68)∧f0.offset=0∧f1.offset=1∧f2.offset=2∧f3.offset=3∧Tryz.prog.cellsOf 70=4∧Tryz.prog.cellsOf 3=1∧Tryz.prog.cellsOf 4=1∧Tryz.prog.cellsOf 68=1:=⟨_,_,_,_,Tryz.underlying70,⟨rfl,rfl,rfl,rfl⟩,rfl,rfl,rfl,rfl,by kernel_rfl,by kernel_rfl,by kernel_rfl,by kernel_rfl⟩
theorem Ms{H:Type}{enc:TypeId×Value->H}{W:World}{fuel:Nat}{cs:List Value}{x:DataW H×List MemPlace}(hf:DataW.trod enc Tryz.prog W 0 (fun _=>true) true fuel 23 cs=some x)(hb:Rows.uptoBulk x.1<=1048576) :
  ∃ (p:Option Addr) (na cap:Nat) (A:Nat->Dm),cs=[.slice p na cap]∧kV (cK W).heap.size (cK W) p na A∧na<=1048576:=by
 obtain⟨f0,f1,f2,f3,hu,⟨t0,t1,t2,t3⟩,o0,o1,o2,o3,hc,hci,hcb,hcs⟩:=Np;rcases Deep.open_slice Tryz.underlying23 hf with⟨rfl,_⟩|⟨a,len,cap,m,n,D,Pl,rfl,_,hl,hm,hmm,hx,hr⟩
 .exact⟨none,0,0,fun _=>⟨0,false,0,none,0,0,fun _=>false⟩,rfl,fun i hi=>absurd hi (by omega),by omega⟩
 .by_cases h0:len=0
  .subst h0;exact⟨_,0,cap,fun _=>⟨0,false,0,none,0,0,fun _=>false⟩,rfl,fun i hi=>absurd hi (by omega),by omega⟩
  simp only[if_true]at hmm;have hsp:a.spot=none:=by
   obtain⟨cs',q1,q2⟩:=hr 0 (by omega);rw[hc]at q1;obtain⟨_,ql,hcell⟩:=World.cells?_some q1;have h3:0<cs'.length:=by rw[ql];omega
   have:=qS ((hcell 0 (by omega)).trans (List.getElem?_eq_getElem h3));simpa [Addr.add] using this
  obtain⟨b,off,spot⟩:=a;simp only at hsp;subst hsp;have hd:=(Prod.ext_iff.1 hx).1;simp only at hd;rw[hd]at hb;simp only[Rows.uptoBulk]at hb;have hbl:=oT (H:=H) ((List.range len).map D);rw[List.length_map,List.length_range]at hbl;have each:∀ i,∃ ac:Dm,i<len->(∀ k y,ac.agg[k]?=some y->(cK W).cell? ⟨b,off+i*4+k,none⟩=some y)∧b<(cK W).heap.size∧ac.Ok (cK W).heap.size (cK W):=by
   intro i;by_cases hi:i<len
   .obtain⟨cs',q1,q2⟩:=hr i (by omega);obtain⟨y0,y1,y2,y3,n',hy,hl4,s0,s1,s2,s3⟩:=Joins.trod_struct4 hu q2;rw[hc]at q1 hl4;obtain⟨_,_,hcell⟩:=World.cells?_some q1;rw[t0,o0,hci]at s0;rw[t1,o1,hcb]at s1;rw[t2,o2,hci]at s2;rw[t3,o3,hcs]at s3;match cs',hl4 with
    |[c0,c1,c2,c3],_=>
     obtain⟨z,e0,_,hwf⟩:=DataW.trod_int Tryz.underlying3 s0;obtain⟨bb,e1,_⟩:=DataW.trod_bool Tryz.underlying4 s1;obtain⟨z2,e2,_,hwf2⟩:=DataW.trod_int Tryz.underlying3 s2;simp at e0 e1 e2;subst e0 e1 e2;have hbD:Rows.uptoBulk (D i)<=1048576:=by
      have:=uR (H:=H) (l:=(List.range len).map D) (List.mem_map.2 ⟨i,List.mem_range.2 hi,rfl⟩);omega
     have hD:=(Prod.ext_iff.1 hy).1;simp only at hD;rw[hD]at hbD;simp only[Rows.uptoBulk,Rows.uptoBulkAll]at hbD;obtain⟨p',len',cap',yy,e3,hlen,hbits⟩:=Kz (v:=c3) (by simpa using s3) (by omega);subst e3;have hbd:=bounds_i64 hwf;have hbd2:=bounds_i64 hwf2;refine⟨⟨z,bb,z2,p',len',cap',yy⟩,fun _=>⟨fun k y hk=>?_,?_,hbd.1,hbd.2,hbd2.1,hbd2.2,hlen,hbits⟩⟩
     .have hk3:k<4:=(Array.getElem?_eq_some_iff.1 hk).1;have:=hcell k hk3;rw[Addr.add_lit,Addr.add_lit]at this;have hcell':W.cell? ⟨b,off+i*4+k,none⟩=some y:=by
       rw[this,<-hk];rcases(by omega:k=0∨k=1∨k=2∨k=3) with rfl|rfl|rfl|rfl<;>rfl
      exact mG hcell'
     .have:=hcell 0 (by omega);rw[Addr.add_lit,Addr.add_lit]at this;rw[qI];exact rL (this.trans rfl)
   .exact⟨⟨0,false,0,none,0,0,fun _=>false⟩,fun h=>absurd h hi⟩
  obtain⟨A,hA⟩:=Classical.axiomOfChoice each;exact⟨some ⟨b,off,none⟩,len,cap,A,rfl,fun i hi=>⟨⟨b,off,rfl,(hA i hi).2.1,(hA i hi).1⟩,(hA i hi).2.2⟩,by omega⟩
theorem Rz{H:Type}{enc:TypeId×Value->H}{W:World}{base:Nat}{v:Value}{d:DataW H}{ps:List MemPlace}(hval:Value.okWide Tryz.prog W .any base 23 v)(h:DataW.Trod enc Tryz.prog W 0 (fun _=>true) true 23 v d ps)(hb:Rows.uptoBulk d<=1048576) :
  ∃ (p:Option Addr) (na cap:Nat) (A:Nat->Dm),v=.slice p na cap∧kV (cK W).heap.size (cK W) p na A∧na<=1048576:=by
 obtain⟨a0,len,cap,rfl⟩:=okWide_slice Tryz.underlying23 hval;obtain⟨fuel,hf⟩:=h;obtain⟨p,na,c,A,q,hA⟩:=Ms hf hb;simp[Value.cells]at q;obtain⟨rfl,rfl,rfl⟩:=q;exact⟨_,_,_,A,rfl,hA⟩
theorem No:∃ f0 f1,Tryz.prog.underlying 60=some (.struct #[f0,f1])∧(f0.type=22∧f1.type=3)∧f0.offset=0∧f1.offset=1∧Tryz.prog.cellsOf 60=2∧Tryz.prog.cellsOf f0.type=1∧Tryz.prog.cellsOf f1.type=1:=⟨_,_,Tryz.underlying60,⟨rfl,rfl⟩,rfl,rfl,by kernel_rfl,by kernel_rfl,by kernel_rfl⟩
theorem Mr{H:Type}{enc:TypeId×Value->H}{W:World}{base:Nat}{v:Value}{d:DataW H}{ps:List MemPlace}(hval:Value.okWide Tryz.prog W .any base 56 v)(h:DataW.Trod enc Tryz.prog W 0 (fun _=>true) true 56 v d ps)(hb:Rows.uptoBulk d<=1048576) :
  ∃ (p:Option Addr) (nr cap:Nat) (R:Nat->Rnd),v=.slice p nr cap∧nM (cK W).heap.size (cK W) p nr R∧nr<=1048576:=by
 obtain⟨a0,len,cap,rfl⟩:=okWide_slice Tryz.underlying56 hval;obtain⟨fuel,hf⟩:=h;obtain⟨f0,f1,hu,⟨t0,t1⟩,o0,o1,hc,hc0,hc1⟩:=No;rcases Deep.open_slice_pairs Tryz.underlying56 hu hc o0 o1 hc0 hc1 hf with⟨hcs',_⟩|⟨a,len',cap',m,n,V0,V1,D0,D1,P0,P1,hcs',_,hl,hm,hmm,hx,hr⟩
 .simp[Value.cells]at hcs';obtain⟨rfl,rfl,rfl⟩:=hcs';exact⟨none,0,0,fun _=>⟨none,0,0,fun _=>⟨0,false,none,0,0,fun _=>0⟩,0⟩,rfl,fun i hi=>absurd hi (by omega),by omega⟩
 .simp[Value.cells]at hcs';obtain⟨rfl,rfl,rfl⟩:=hcs';simp only[if_true]at hmm;have hd:=(Prod.ext_iff.1 hx).1;simp only at hd;rw[hd]at hb;simp only[Rows.uptoBulk]at hb;have hbl:=oT (H:=H) ((List.range len).map fun i=>.agg [D0 i,D1 i])
  rw[List.length_map,List.length_range]at hbl;have each:∀ i,∃ r:Rnd,i<len->V0 i=.slice r.p r.n r.cap∧V1 i=.int .i64 r.wr∧r.Ok (cK W).heap.size (cK W):=by
   intro i;by_cases hi:i<len
   .obtain⟨_,_,s0,s1⟩:=hr i (by omega);rw[t0]at s0;rw[t1]at s1;have hbD:Rows.uptoBulk (.agg [D0 i,D1 i]:DataW H)<=1048576:=by
     have:=uR (H:=H) (l:=(List.range len).map fun i=>.agg [D0 i,D1 i]) (List.mem_map.2 ⟨i,List.mem_range.2 hi,rfl⟩)
     omega
    simp only[Rows.uptoBulk,Rows.uptoBulkAll]at hbD;obtain⟨p,na,c,A,q,hA,hn⟩:=Cf s0 (by show Rows.uptoBulk (D0 i)<=1048576;omega);obtain⟨z,e1,_,hwf⟩:=DataW.trod_int Tryz.underlying3 s1;simp only[List.cons.injEq,and_true]at q e1;have hbd:=bounds_i64 hwf;exact⟨⟨p,na,c,A,z⟩,fun _=>⟨q,e1,hA,hn,hbd.1,hbd.2⟩⟩
   .exact⟨⟨none,0,0,fun _=>⟨0,false,none,0,0,fun _=>0⟩,0⟩,fun h=>absurd h hi⟩
  obtain⟨R,hR⟩:=Classical.axiomOfChoice each;refine⟨some a,len,cap,R,rfl,fun i hi=>⟨?_,(hR i hi).2.2⟩,by omega⟩
  obtain⟨c0,c1,_,_⟩:=hr i (by omega);have hs:=qS (hr 0 (by omega)).1;have hlt:=rL c0;obtain⟨b,off,spot⟩:=a;have hs:spot=none:=by simpa [Addr.add] using hs
  subst hs;rw[Addr.add_lit]at hlt c0 c1;refine⟨b,off,rfl,by rw[qI];exact hlt,fun k y hk=>?_⟩
  have hk2:k<2:=(Array.getElem?_eq_some_iff.1 hk).1;rcases(by omega:k=0∨k=1) with rfl|rfl
  .have:y=V0 i:=by rw[(hR i hi).1];exact(Option.some.inj hk).symm
   rw[this];exact mG c0
  .have:y=V1 i:=by rw[(hR i hi).2.1];exact(Option.some.inj hk).symm
   rw[this];exact mG c1
