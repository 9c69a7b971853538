import Derived.Test.YtpiefebngnlfoaaGreatDoorMg
set_option maxRecDepth 99999
set_option maxHeartbeats 0
set_option linter.unusedVariables false
set_option linter.unusedSimpArgs false
namespace Go.Vw
open Go.Conc
section
variable {P:Program}{a:Act}{w:World}
end
section
variable {P:Program}{Stop:Goroutine->(Nat->Prop)->World->Prop}{S:Nat->Prop}{v:World}{fn:FuncId}{cs:List Frame}{k:List Item}{n:Nat}{f:Nat->Value}{ops:Array Oper}{i:Nat}{rest:List Nat}{o:Oper}
end
end Go.Vw
namespace Go.Proofs.YtpiefebngnlfoaaGreatDoor
open Go.RowKit Go.Conc Go.Vw
structure Hl where
 id:Nat
 size:Nat
 bad:Nat
def lL(x:Hl)(k:Nat):Value:=.int .i64 ((if k=0 then x.id else if k=1 then x.size else x.bad:Nat):Int)
def bR(x:Hl):Array Value:=#[.int .i64 (x.id:Nat),.int .i64 (x.size:Nat),.int .i64 (x.bad:Nat)]
def hA(n:Nat)(h:Nat->Hl):Array Value:=(Array.range (n*3)).map λi=>lL (h (i/3)) (i%3)
def cY(h:Nat->Hl)(j:Nat)(x:Hl):Nat->Hl:=λi=>if i=j then x else h i
theorem fT(n:Nat)(h:Nat->Hl):(hA n h).size=n*3:=by simp[hA]
theorem fN{n i:Nat}{h:Nat->Hl}(hi:i<n*3):(hA n h)[i]?=some (lL (h (i/3)) (i%3)):=by simp[hA,hi]
theorem Fo{x:Hl}{k:Nat}(hk:k<3):(bR x)[k]?=some (lL x k):=by
 match k,hk with
 |0,_=>rfl
 |1,_=>rfl
 |2,_=>rfl
theorem Rv{n j:Nat}{h:Nat->Hl}(hj:j<n)(x:Hl):((hA n h).toList.take (j*3)++(bR x).toList++(hA n h).toList.drop (j*3+3)).toArray=hA n (cY h j x):=by
 apply au;intro i;rw[List.getElem?_toArray,List.append_assoc,List.getElem?_append];have hl:((hA n h).toList.take (j*3)).length=j*3:=by rw[List.length_take,Array.length_toList,fT];omega
 rw[hl];by_cases h1:i<j*3
 .rw[ai h1,List.getElem?_take,ai h1,bd,fN (by omega),fN (by omega)];unfold cY;rw[ah (by omega)]
 .rw[ah h1,List.getElem?_append];have G4:(bR x).toList.length=3:=rfl;rw[G4];by_cases h2:i-j*3<3
  .rw[ai h2,bd,Fo h2,fN (by omega)];unfold cY;rw[ai (by omega),show i%3=i-j*3 by omega]
  .rw[ah h2,List.getElem?_drop,bd,show j*3+3+(i-j*3-3)=i by omega];by_cases h3:i<n*3
   .rw[fN h3,fN h3];unfold cY;rw[ah (by omega)]
   .rw[af (by rw[fT];omega),af (by rw[fT];omega)]
theorem Fn(x:Hl):∀y∈(bR x).toList,y.oneCell'=true:=by simp[bR,Value.oneCell']
theorem mP:∃i,Tryz.prog.info? 94=some i∧i.size=3∧i.zero=some (.agg (bR ⟨0,0,0⟩)):=⟨_,rfl,rfl,rfl⟩
section
variable {w w' v:World}{S:Nat->Prop}
theorem Dp{o:Oper}{a:Act}{x:Operand}{b n j:Nat}{h:Nat->Hl}{u:World}(dm:o.op=.load 94 x)(hx:a.eval x=.pointer (some ⟨b,j*3,none⟩))(hb:u.heap[b]?=some (.cells (hA n h) 94))(hj:j<n):(execOp a.eval o).run Tryz.prog u=.ok (.value (.agg (bR (h j)))) u:=by
 have hl:=run_loadAt_mid (P:=Tryz.prog) u b (j*3) 94 (bR (h j)).toList _ (λi z hy=>by
  have hi:i<3:=(List.getElem?_eq_some_iff.1 hy).1;rw[bd,Fo hi]at hy
  rw[ab _ _ _ _ _ _ hb,fN (by omega),<-hy,show(j*3+i)/3=j by omega,show(j*3+i)%3=i by omega]) Tryz.underlying94 rfl (by kernel_rfl)
 unfold execOp;simp only[dm,hx,df,hl,dc,dg]
end
