import Derived.Test.YtpiefebngnlfoaaGreatDoorNi
import Derived.Test.YtpiefebngnlfoaaGreatDoorNk
import Derived.Test.YtpiefebngnlfoaaGreatDoorNl
import Derived.Test.YtpiefebngnlfoaaGreatDoorNm
set_option maxRecDepth 99999
set_option maxHeartbeats 0
set_option linter.unusedVariables false
set_option linter.unusedSimpArgs false
namespace Go.Proofs.YtpiefebngnlfoaaGreatDoor
open Go.RowKit Go.Conc Go.Vw
structure Opp where
 kind:Int
 a:Int
 n:Int
 p:Option Addr
 len:Nat
 cap:Nat
 val:Nat->Nat
def Opp.agg(o:Opp):Array Value:=#[.int .i64 o.kind,.int .i64 o.a,.int .i64 o.n,.slice o.p o.len o.cap]
structure Opp.Ok(N:Nat)(w:World)(o:Opp):Prop where
 a1:-9223372036854775808<=o.a
 a2:o.a<=9223372036854775807
 n1:-9223372036854775808<=o.n
 n2:o.n<=9223372036854775807
 len:o.len<140737488355328
 val:∀i,o.val i<256
 sl:fA N w o.p o.len o.cap o.val
theorem Opp.Ok.fr{N:Nat}{w w':World}{o:Opp}(h:o.Ok N w)(hF:Fr N w w'):o.Ok N w':=⟨h.a1,h.a2,h.n1,h.n2,h.len,h.val,h.sl.kp (Mut.off N w) hF⟩
theorem Dk{h:Nat->Hl} : ∀{n:Nat},(∀i,i<n->(h i).bad=0)->cQ h n=0
 |0,_=>rfl
 |n+1,hb=>by have e:cQ h (n+1)=cQ h n+(h n).bad:=rfl;rw[e,Dk λi hi=>hb i (by omega),hb n (by omega)]
section
variable {N W n m q k:Nat}{x:Nat->Sx}{T:Nat->List It}{g:Wv}{v w w':World}{S:Nat->Prop}
theorem Tw(num:Int)(h1:-9223372036854775808<=num)(h2:num<=9223372036854775807)(h:Wd N W n m q x T g v)(hk:k<2)(hm:m<9223372036854775808)(hg:Tryz.prog.globals.size<=v.heap.size):aJ Tryz.prog 20 #[.pointer (some ⟨(x k).X,0,none⟩),.int .i64 num] S v λy S' v'=>y=.int .i64 0∧Wd N W n m q x T g v'∧Fr N v v':=by
 have hH:=h.st k hk;have AE:=hH.b23;have E3:=hH.turn;have hl:=hH.len;exact λStop c cs hr=>Tx num h1 (by omega) (by omega) hg (by omega) hH.n14 hH.n18 (by omega) hH.st Stop c cs λy S' v' hv ⟨n',hh,hT,_,q1,q2,q3⟩=>by
  have hz:cQ hh n'=0:=Dk λi hi=>by obtain⟨e,he,hq⟩:=hT.yes i hi;rw[hq];unfold cM;rw[yC (hH.sound e he)]
  rw[hz,Nat.min_zero]at q1 q3;have q3:(x k).St v':=q3;refine hr y S' v' hv ⟨q1,⟨h.mem.st_kp hH q2,λi hi=>?_,h.ap,h.cnt⟩,.of hH.off q2⟩;by_cases e:i=k
  .rw[e];exact hH.put_st q3
  .refine(h.st i hi).two hH (λb=>?_) q2;rcases kR hk with rfl|rfl<;>rcases kR hi with rfl|rfl
   .exact absurd rfl e
   .exact λq1 q2=>h.ap b q2 q1
   .exact h.ap b
   .exact absurd rfl e
theorem Xc{t:TypeId}{e:Value}(o:Opp)(tz:Gl N t e v)(h:Wd N W (n+42) m q x T g v)(ho:o.Ok N v)(hq:q<1099511627776)(hm:m<1152921504606846976)(hn:n+42+28*23<=1099511627776):aJ Tryz.prog 10 #[.pointer (some ⟨W,0,none⟩),.agg o.agg] S v λy S' v'=>y=.bool true∧∃x' T' g',Wd N W n (m+1) (q+1) x' T' g' v'∧Fr N v v':=by
 refine cX Tryz.func10 rfl Tryz.ntmps10 λStop cc cs ret f g0 g1=>?_
 repeat refine rN ?_
 refine aN (Q:=λy w=>y=.pointer (some ⟨v.heap.size,0,none⟩)∧Ext v w∧w.heap[v.heap.size]?=some (.cells o.agg 46)) aB rfl rfl (by kernel_rfl) (λu hu=>⟨_,_,.inl (gR (x:=.tmp 1) (y:=.agg o.agg) rfl (by simp[g1]) u),by rw[hu.heap],(Ext.twin hu).trans _ _ _ (Ext.alloc _ _),by rw[<-hu.heap];exact bI _ _⟩) ?_;rintro _ w1 ⟨rfl,eh,fg⟩;simp only[stO_some];have cB:w1.cell? ⟨v.heap.size,0,none⟩=some (.int .i64 o.kind)∧w1.cell? ⟨v.heap.size,1,none⟩=some (.int .i64 o.a)∧w1.cell? ⟨v.heap.size,2,none⟩=some (.int .i64 o.n)∧w1.cell? ⟨v.heap.size,3,none⟩=some (.slice o.p o.len o.cap):=⟨(ab _ _ _ _ _ _ fg).trans rfl,(ab _ _ _ _ _ _ fg).trans rfl,(ab _ _ _ _ _ _ fg).trans rfl,(ab _ _ _ _ _ _ fg).trans rfl⟩;obtain⟨cK,cA,cN,cV⟩:=cB;have hd:=h.kp0 (aS eh);have ox:Fr N v w1:=.ext eh;have ni:=tz.fr ox;have YQ:=ho.fr ox;have dp:=xV o.a (n:=2) (by omega);have F6:=yO (S:=S) (v:=w1) o.a 2 (by omega) (by omega) ho.a1 ho.a2;obtain⟨bs,AO,es,ns,sc,sk⟩:=hd.mem.sC;generalize nF o.a 2=k at dp F6;have ll:(k:Int)<2:=by omega
 have sk:=sk k dp;generalize vb:v.heap.size=bx at *
 repeat refine rN ?_
 refine Bf aB (by first|kernel_rfl|rfl) ?_
 simp only[bh,av,cf,Nat.reduceAdd,an];refine hU 0 ?_;co_applyP hT (i:=1) rfl (λ_ dt=>run_eq_of ?u3_1) ?v3_1
 case u3_1=>intro K_ dr;(have hc:=(Ext.twin dt).cell cA);go_simp;(try rw[wI _]);(try rw[wU _]);exact dr
 simp only[sS,sN];refine hU 2 ?_;refine hU 3 ?_;refine hU 4 ?_;co_applyP hT (i:=5) rfl (λ_ dt=>run_eq_of ?u5_5) ?v5_5
 case u5_5=>intro K_ dr;(have hc:=(Ext.twin dt).cell sc);go_simp;(try rw[wI _]);(try rw[wU _]);exact dr
 simp only[sS,sN];refine hU 6 ?_;refine hC (i:=7) rfl Tryz.func6 rfl (vs:=#[.int .i64 o.a,.int .i64 ((2:Nat):Int)]) (by simp[Act.eval]) F6 ?_;simp only[sS,sN];refine hU 8 ?_;refine hD ?_;repeat refine rM cK ?_
 by_cases k1:o.kind=1
 .skip;refine rX (by simp[Act.eval,k1]) ?_;repeat refine rM cN ?_
  repeat refine rM cV ?_
  refine rK Tryz.func9 (Hs o.n o.len o.cap o.p o.val hd dp YQ.sl ho.val ho.len hm ni.glob ni.size) ?_;rintro _ S2 w2 _ ⟨rfl,x',T',g',qh,pe⟩;repeat refine rN ?_
  refine aM λtodo=>?_;refine ret _ _ S2 w2 (.bool true) ?_ ⟨rfl,x',T',g',qh.le (ae _) (ae _) (by omega),ox.trans pe⟩;simp[results,Tryz.results10]
 refine rZ (by simp[Act.eval,k1]) ?_;repeat refine rN ?_
 by_cases k2:o.kind=2
 .skip;refine rX (by simp[Act.eval,k2]) ?_;repeat refine rM cN ?_
  refine rK Tryz.func12 (Hy o.n hd dp hq (by omega) ni.glob) ?_;rintro _ S2 w2 _ ⟨rfl,g',qh,pe⟩;repeat refine rN ?_
  refine aM λtodo=>?_;refine ret _ _ S2 w2 (.bool true) ?_ ⟨rfl,x,T,g',qh.le (by omega) (by omega) (by omega),ox.trans pe⟩;simp[results,Tryz.results10]
 refine rZ (by simp[Act.eval,k2]) ?_;repeat refine rN ?_
 by_cases k3:o.kind=3
 .skip;refine rX (by simp[Act.eval,k3]) ?_;repeat refine rM cN ?_
  refine rK Tryz.func33 (Qp o.n hd dp ni.size) ?_;rintro _ S2 w2 _ ⟨rfl,x',T',g',qh,pe⟩;repeat refine rN ?_
  refine aM λtodo=>?_;refine ret _ _ S2 w2 (.bool true) ?_ ⟨rfl,x',T',g',qh.le (ae _) (ae _) (by omega),ox.trans pe⟩;simp[results,Tryz.results10]
 refine rZ (by simp[Act.eval,k3]) ?_;repeat refine rN ?_
 by_cases k4:o.kind=4
 .skip;refine rX (by simp[Act.eval,k4]) ?_;repeat refine rN ?_
  refine rK Tryz.func13 (Gv hd dp hq) ?_;rintro _ S2 w2 _ ⟨rfl,g',qh,pe⟩;repeat refine rN ?_
  refine aM λtodo=>?_;refine ret _ _ S2 w2 (.bool true) ?_ ⟨rfl,x,T,g',qh.le (by omega) (by omega) (by omega),ox.trans pe⟩;simp[results,Tryz.results10]
 refine rZ (by simp[Act.eval,k4]) ?_;repeat refine rN ?_
 by_cases k5:o.kind=5
 .skip;refine rX (by simp[Act.eval,k5]) ?_;repeat refine rN ?_
  refine Bf aB (by first|kernel_rfl|rfl) ?_
  simp only[bh,av,cf,Nat.reduceAdd,an];refine hU 0 ?_;refine hU 1 ?_;refine hU 2 ?_;co_applyP hT (i:=3) rfl (λ_ dt=>run_eq_of ?u10_3) ?v10_3
  case u10_3=>intro K_ dr;(have hc:=(Ext.twin dt).cell sc);go_simp;(try rw[wI _]);(try rw[wU _]);exact dr
  simp only[sS,sN];refine hU 4 ?_;refine hU 5 ?_;co_applyP hT (i:=6) rfl (λ_ dt=>run_eq_of ?u12_6) ?v12_6
  case u12_6=>intro K_ dr;(have hc:=(Ext.twin dt).cell sk);go_simp;(try rw[wI _]);(try rw[wU _]);exact dr
  simp only[sS,sN];refine hU 7 ?_;co_applyP hT (i:=8) rfl (λ_ dt=>run_eq_of ?u14_8) ?v14_8
  case u14_8=>intro K_ dr;(have hc:=(Ext.twin dt).cell cN);go_simp;(try rw[wI _]);(try rw[wU _]);exact dr
  simp only[sS,sN];refine hL 9 [10] ?_;refine rK Tryz.func20 (Tw o.n ho.n1 ho.n2 hd dp (by omega) ni.glob) ?_;rintro _ S2 w2 _ ⟨rfl,qh,pe⟩;repeat refine rN ?_
  refine aM λtodo=>?_;refine ret _ _ S2 w2 (.bool true) ?_ ⟨rfl,x,T,g,qh.le (by omega) (by omega) (by omega),ox.trans pe⟩;simp[results,Tryz.results10]
 refine rZ (by simp[Act.eval,k5]) ?_;repeat refine rN ?_
 by_cases k6:o.kind=6
 .skip;refine rX (by simp[Act.eval,k6]) ?_;repeat refine rN ?_
  refine rK Tryz.func34 (Rm ni hd dp hq (by omega) hn) ?_;rintro _ S2 w2 _ ⟨rfl,x',g',qh,pe⟩;repeat refine rN ?_
  refine aM λtodo=>?_;refine ret _ _ S2 w2 (.bool true) ?_ ⟨rfl,x',T,g',qh.le (by omega) (by omega) (by omega),ox.trans pe⟩;simp[results,Tryz.results10]
 refine rZ (by simp[Act.eval,k6]) ?_;repeat refine rN ?_
 refine aM λtodo=>?_;refine ret _ _ S w1 (.bool true) ?_ ⟨rfl,x,T,g,hd.le (by omega) (by omega) (by omega),ox⟩;simp[results,Tryz.results10]
end
