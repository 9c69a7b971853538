import Derived.Test.YtpiefebngnlfoaaGreatDoorNs
set_option maxRecDepth 99999
set_option maxHeartbeats 0
set_option linter.unusedVariables false
set_option linter.unusedSimpArgs false
namespace Go.Proofs.YtpiefebngnlfoaaGreatDoor
open Go.RowKit Go.Conc Go.Vw
section
variable {N W:Nat}{v w w0:World}{S:Nat->Prop}
theorem R4{f:Nat->Value}{Stop:Goroutine->(Nat->Prop)->World->Prop}{cs:List Frame}{k0:List Item}{t:TypeId}{e:Value}{x:Nat->Sx}{T:Nat->List It}{G0:Wv}{m q:Nat}(hm:m<9223372036854775000)(hq:q<1099511626000)(tz:Gl N t e w0)(DZ:Wd N W 0 m q x T G0 w0)
  (f7:f 7=.pointer (some ⟨W,0,none⟩)) (f12:f 12=.bool true) (f15:f 15=.int .i64 0)
  (next:∀f' S' w' g,Wd N W 0 m (q+44) x T g w'->Fr N w0 w'->f' 7=.pointer (some ⟨W,0,none⟩)->f' 12=.bool true->Vw.Reach Tryz.prog Stop (G ((base 3).at ⟨TA 155 f',[]⟩ k0) cs) S' w') :
  Vw.Reach Tryz.prog Stop (G ((base 3).at ⟨TA 155 f,[]⟩ (.code (gU 2 (Tryz.f3.body.getD .skip))::.inBlock 4::k0)) cs) S w0:=by
 have e0:gU 2 (Tryz.f3.body.getD .skip)=.loop _:=rfl;rw[e0];clear e0;refine bF (λd f' S' w=>∃k g,d=2-k∧k<=2∧Wd N W 0 m (q+22*k) x T g w∧Fr N w0 w∧f' 7=.pointer (some ⟨W,0,none⟩)∧f' 12=.bool true∧f' 15=.int .i64 (k:Nat)) 2 ⟨0,G0,by omega,by omega,DZ,.refl _ _,f7,f12,f15⟩ ?_;clear f7 f12 f15 DZ f;rintro d f S' w ⟨k,g,rfl,hk2,hd,pw,g7,g12,g15⟩ dj;by_cases hk:k<2
 .have ll:(k:Int)<2:=by omega
  repeat refine rN ?_
  refine rX (by simp[Act.eval,ll,hk]) ?_;repeat refine rN ?_
  refine R5 hk hm (by omega) (tz.fr pw) hd (by simp[g7]) (by simp[g12]) (by simp[g15]) (by simp) λf1 S1 w1 g1 SV EM a7 a12 M5=>?_
  repeat refine rN ?_
  refine rK Tryz.func13 (Gv SV hk (by omega)) ?_;rintro _ S2 w2 _ ⟨rfl,g',qh,pe⟩;repeat refine rN ?_
  refine dj _ _ _ (2-(k+1)) (by omega) ⟨k+1,g',rfl,by omega,by rw[show q+22*(k+1)=q+22*k+21+1 by omega];exact qh,(pw.trans EM).trans pe,by simp[a7],by simp,by simp⟩
 .obtain rfl:k=2:=by omega
  repeat refine rN ?_
  refine rZ (by simp[Act.eval,g15]) ?_;refine bC rfl ?_;exact next _ _ _ g (by rw[show q+44=q+22*2 by omega];exact hd) pw (by simp[g7]) (by simp[g12])
end
def iL(i:Nat):Nat:=if i=0 then 98 else if i=1 then 101 else if i=2 then 103 else if i=3 then 117 else if i=4 then 110 else 0
theorem Yp(i:Nat):iL i<256:=by
 unfold iL;repeat' split
 all_goals omega
theorem Ms{u:World}{o:Oper}{a:Act}(dm:o.op=Op.buildSlice 43 5 #[(0,.const (.int .u8 98)),(1,.const (.int .u8 101)),(2,.const (.int .u8 103)),(3,.const (.int .u8 117)),(4,.const (.int .u8 110))]):(execOp a.eval o).run Tryz.prog u=.ok (.value (.slice (some ⟨u.heap.size,0,none⟩) 5 5)) (u.alloc (.cells (aE 5 iL) 5)):=by
 obtain⟨inf,hq,h3,h1,_⟩:=Ed;have e:(aE 5 iL)=#[.int .u8 98,.int .u8 101,.int .u8 103,.int .u8 117,.int .u8 110]:=by
  apply au;intro c;match c with
  |0=>simp[aE,iL]
  |1=>simp[aE,iL]
  |2=>simp[aE,iL]
  |3=>simp[aE,iL]
  |4=>simp[aE,iL]
  |c+5=>simp[aE,iL]
 rw[e];simp[execOp,dm,Act.eval,Instr.buildSlice,cw Tryz.underlying43,sizeOf,typeInfo,hq,h1,zeroValue,h3,Value.cells,Instr.fill,newRow];refine congrArg (λc=>u.alloc (Obj.cells c 5)) ?_;apply au;intro c;match c with
 |0=>simp
 |1=>simp
 |2=>simp
 |3=>simp
 |4=>simp
 |c+5=>simp
section
variable {v w:World}{S:Nat->Prop}
theorem Pd(t:TypeId)(e:Value)(rv:v.cell? ⟨0,0,none⟩=some (.iface t e))(hg:Tryz.prog.globals.size<=v.heap.size)(nn bb:Int)(jb:-9223372036854775808<=nn)(LU:nn<=9223372036854775807)(fg:-9223372036854775808<=bb)(ko:bb<=9223372036854775807)(p:Option Addr)(L cap:Nat)(A:Nat->Opp)(hA:lR v.heap.size v p L A)(hL:L<=1048576):∀(Stop:Goroutine->(Nat->Prop)->World->Prop)(cs:List Frame),(∀f' todo S' v',f' 6=.bool true->Kp v (λ_=>False) v'->Vw.Reach Tryz.prog Stop (G {(base 3).at ⟨TA 155 f',[]⟩ todo with mode:=.returning} cs) S' v')->Vw.Reach Tryz.prog Stop (G ((base 3).at ⟨TA 155 (eG #[.int .i64 nn,.int .i64 bb,.slice p L cap]),[]⟩ [.code (Tryz.f3.body.getD .skip)]) cs) S v:=by
 intro Stop cs ret;simp only[Tryz.f3,ao];have g0:eG #[.int .i64 nn,.int .i64 bb,.slice p L cap] 0=.int .i64 nn:=rfl;have g1:eG #[.int .i64 nn,.int .i64 bb,.slice p L cap] 1=.int .i64 bb:=rfl;have g2:eG #[.int .i64 nn,.int .i64 bb,.slice p L cap] 2=.slice p L cap:=rfl;generalize eG #[.int .i64 nn,.int .i64 bb,.slice p L cap]=f at g0 g1 g2;have h0v:0<v.heap.size:=by
  cases hq:v.heap[0]? with
  |none=>simp[World.cell?,hq]at rv
  |some o=>exact(Array.getElem?_eq_some_iff.1 hq).1
 have tz:Gl v.heap.size t e v:=⟨h0v,rv,hg,ae _⟩;repeat refine rN ?_
 refine aN (Q:=λy w=>y=.pointer (some ⟨v.heap.size,0,none⟩)∧Ext v w∧w.heap[v.heap.size]?=some (.cells #[aY,aY,aY,aY,aY,aY,aY] 34)) aB rfl rfl (by kernel_rfl) (λu hu=>⟨_,_,.inl (gR (x:=.tmp 19) (y:=.agg #[aY,aY,aY,aY,aY,aY,aY]) rfl (by simp[aY]) u),by rw[hu.heap],(Ext.twin hu).trans _ _ _ (Ext.alloc _ _),by rw[<-hu.heap];exact bI _ _⟩) ?_;rintro _ w1 ⟨rfl,eh,sb⟩;simp only[stO_some];obtain⟨N,hN⟩:∃N,v.heap.size=N:=⟨_,rfl⟩
 have ij:∀w',Fr N v w'->Kp v (λ_=>False) w':=λw' hF=>⟨hF.size,hF.os,hF.output,λb o _ ho ht=>hF.objs b o (λhm=>by
  have:=(Array.getElem?_eq_some_iff.1 ho).1;have:=hm.1
  omega) ho ht⟩
 rw[hN]at sb tz hA;simp only[hN];have ox:Fr N v w1:=.ext eh;have OV:PW N N 0 0 0 0 (42*L+42) (λ_=>⟨0,0,0,0,0,0,0,0,λ_=>0,λ_=>0,⟨λ_ _ _=>0,λ_ _ _=>0,0⟩,[]⟩) aY aY aY w1:=⟨ae _,sb,World.ownsRow_nil _ _ _ _,World.ownsRow_nil _ _ _ _,World.ownsRow_nil _ _ _ _,λk hk=>by omega,λh=>by omega⟩
 repeat refine rN ?_
 refine R2 nn bb jb LU fg ko (by omega) (tz.fr ox) OV (by simp[g0]) (by simp[g1]) (by simp) (by simp) λf2 S2 w2 x sv nv lv FQ pe a2 a7=>?_;have a2':f2 2=.slice p L cap:=by rw[a2];simp[g2]
 have qh:=FQ.wd;have HY:=ox.trans pe;clear g0 g1 g2 a2 OV FQ sb f;repeat refine rN ?_
 refine aN (Q:=λy w=>y=.slice (some ⟨w2.heap.size,0,none⟩) 5 5∧Ext w2 w∧w.heap[w2.heap.size]?=some (.cells (aE 5 iL) 5)) aB rfl rfl (by kernel_rfl) (λu hu=>⟨_,_,.inl (Ms rfl),by rw[hu.heap],(Ext.twin hu).trans _ _ _ (Ext.alloc _ _),by rw[<-hu.heap];exact bI _ _⟩) ?_;rintro _ w3 ⟨rfl,ef,km⟩;simp only[stO_some];refine Ny rfl rfl rfl Tryz.underlying43 Tryz.underlying5 (g:=w2.heap.size) (o':=0) (m:=5) (c:=5) (by simp) km λw4 fr4 jd=>?_;simp only[stO_some];have kl:=jd.at_;have gn:Ext w2 w4:=bO ef (ae _) jd;have hd4:=qh.kp0 (aS gn);have UB:=HY.trans (.ext gn);have SJ:=tz.fr UB;have U5:fA N w4 (some ⟨w2.heap.size,0,none⟩) 5 5 iL:=⟨.inl (.inr ⟨w2.heap.size,0,rfl,ae _,λi hi=>by rw[ab _ _ _ _ _ _ kl,an];exact eE _ _ _ hi⟩),λ_ a ha=>by cases ha;exact⟨(Array.getElem?_eq_some_iff.1 kl).1,.inr ⟨_,_,kl⟩⟩⟩
 repeat refine rN ?_
 refine rK Tryz.func9 (Hs (n:=42*L) (k:=0) 9999 5 5 (some ⟨w2.heap.size,0,none⟩) iL hd4 (by omega) U5 Yp (by omega) (by omega) SJ.glob SJ.size) ?_;rintro _ S5 w5 _ ⟨rfl,x5,T5,g5,hd5,rq⟩;have wm:=UB.trans rq;have MJ:=tz.fr wm;repeat refine rN ?_
 refine R3 p L cap A hL MJ hd5 (hA.fr wm) (by simp[a2']) (by simp[a7]) (by simp) (by simp) λf6 S6 w6 x6 T6 g6 hd6 VY b7 b12=>?_;have UA:=wm.trans VY;repeat refine rN ?_
 refine R4 (by omega) (by omega) (tz.fr UA) hd6 (by simp[b7]) (by simp[b12]) (by simp) λf7 S7 w7 g7 a_ hF7 c7 c12=>?_;have n_:=UA.trans hF7;have H_:=a_.cnt;repeat refine rN ?_
 refine rK Tryz.func11 (Gu a_.mem (by omega) (by omega) (by omega)) ?_;rintro _ S8 w8 _ ⟨rfl,e1,e2⟩;subst S8 w8;repeat refine rN ?_
 refine aM λtodo=>?_;exact ret _ _ S7 w7 (by simp) (ij w7 n_)
end
