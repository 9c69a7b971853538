import Derived.Test.YtpiefebngnlfoaaGreatDoorLj
import Derived.Test.YtpiefebngnlfoaaGreatDoorLh
import Derived.Laws.BytesArg
set_option maxRecDepth 100000
set_option maxHeartbeats 16000000
set_option linter.unusedVariables false
set_option linter.unusedSimpArgs false
namespace Go.Proofs.YtpiefebngnlfoaaGreatDoor
open Go.RowKit Go.Conc Go.Vw
theorem yhC:∃ i z,Tryz.prog.info? 4=some i∧i.zero=some z∧i.size=1∧i.bytes=1∧z.cells=#[z]:=⟨_,_,rfl,rfl,rfl,rfl,rfl⟩
theorem z92:Tryz.zeroCells137=zcY 96:=by kernel_rfl
theorem zqD(y0 y1:Value)(f:Nat→Value):(((Array.map f (Array.range 2)).setIfInBounds 0 y0).setIfInBounds 1 y1)=#[y0,y1]:=by
 apply Array.ext';simp[List.range,List.range.loop]
theorem zoO{P:Program}{o:Oper}{a:Act}{x0 x1:Operand}{t e:TypeId}{i:TypeInfo}{z y0 y1:Value}(hop:o.op=Op.buildSlice t 2 #[(0,x0),(1,x1)])
  (h1:P.underlying t=some (.slice e)) (h2:P.info? e=some i) (h3:i.zero=some z) (h4:i.size=1) (h6:z.cells=#[z]) (hx0:a.eval x0=y0) (hy0:y0.cells=#[y0]) (hx1:a.eval x1=y1) (hy1:y1.cells=#[y1]) (u:World) :
  (execOp a.eval o).run P u=.ok (.value (.slice (some ⟨u.heap.size,0,none⟩) 2 2)) (u.alloc (.cells #[y0,y1] e)):=by
 have q:∀ f:Nat→Value,(((Array.map f (Array.range 2)).setIfInBounds 0 y0).setIfInBounds 1 y1)=#[y0,y1]:=zqD y0 y1;simp[execOp,hop,hx0,hy0,hx1,hy1,Instr.buildSlice,run_underlying h1,sizeOf,typeInfo,h2,h4,zeroValue,h3,h6,Instr.fill,newRow];rw[q]
section
variable {X D DB M:Nat}{RB:Nat→Nat}{nd nb:Nat}{r l:Value}{w w' v:World}{S:Nat→Prop}
end
theorem ykA(s:ByteArray):∀ (k i:Nat) (r:List UInt8),s.size - i≤k→r≠[]→ByteArray.toList.loop s i r≠[]:=by
 intro k;induction k with
 |zero=>
  intro i r hk hr;unfold ByteArray.toList.loop;rw[if_neg (by omega)];simpa using hr
 |succ k ih=>
  intro i r hk hr;unfold ByteArray.toList.loop;split
  ·exact ih _ _ (by omega) (by simp)
  ·simpa using hr
theorem yaO{s:ByteArray}(h:s.size≠0):¬s.toList=[]:=by
 unfold ByteArray.toList ByteArray.toList.loop;rw[if_pos (by omega)];exact ykA s s.size _ _ (by omega) (by simp)
def fstZ(z:Nat→Nat):Nat→Nat
 |0=>0
 |k+1=>if fstZ z k≠0 then fstZ z k else z k
theorem znI(z:Nat→Nat)(k:Nat):fstZ z (k+1)=if fstZ z k≠0 then fstZ z k else z k:=rfl
def okZ(z:Nat→Nat):Nat→Bool
 |0=>true
 |k+1=>okZ z k&&(decide (z k=0)||decide (fstZ z k=0)||decide (z k=fstZ z k))
theorem zrep(n:Nat):(Array.range n).map (fun i=>(zcY 96)[i % (zcY 96).size]!)=zcY n:=by
 unfold zcY;apply Array.map_congr_left;intro i _;have h:i % ((Array.range 96).map fun _=>Value.int .u8 0).size<96:=by
  have:((Array.range 96).map fun _=>Value.int .u8 0).size=96:=by simp
  rw[this];exact Nat.mod_lt _ (by omega)
 rw[getElem!_pos _ _ (by simpa using h)];simp
theorem ydL:∃ i,Tryz.prog.info? 137=some i∧i.zero=some (.agg (zcY 96))∧i.size=96∧i.bytes=96:=by
 rw[←z92];exact⟨_,rfl,rfl,rfl,rfl⟩
theorem zuD(m:Nat)(hm:m≤64)(hm0:m≠0)(u:World):(Instr.makeSlice 116 (.int .i64 (m:Nat)) (.int .i64 (m:Nat))).run Tryz.prog u=.ok (.slice (some ⟨u.heap.size,0,none⟩) m m) (u.alloc (.cells (zcY (m*96)) 137)):=by
 obtain⟨inf,hq,h3,h1,h2⟩:=ydL;have wl:IntKind.i64.wrap (m:Int)=(m:Int):=by rw[IntKind.wrap_i64];omega
 have n1:¬((m:Int)<0):=by omega
 have n2:¬((281474976710656:Int)<96*(m:Int)):=by omega
 have n3:¬(m*96 > roomBytes):=by simp only[roomBytes];omega
 have hz:=zrep (m*96);simp[Instr.makeSlice,run_underlying Tryz.underlying116,asInt,asIntOf,typeInfo,hq,h1,h2,h3,sizeOf,askRoom,newRow,zeroValue,wl,n1,n2,n3,hm0,Value.cells,hz];intro h0;exact absurd h0 (by omega)
theorem ybJ{o:Oper}{a:Act}{l c:Operand}(m:Nat)(hm:m≤64)(hm0:m≠0)(hop:o.op=.makeSlice 116 l c)(hl:a.eval l=.int .i64 (m:Nat))(hc:a.eval c=.int .i64 (m:Nat))(u:World):(execOp a.eval o).run Tryz.prog u=.ok (.value (.slice (some ⟨u.heap.size,0,none⟩) m m)) (u.alloc (.cells (zcY (m*96)) 137)):=by
 unfold execOp;simp only[hop,hl,hc,Sem.run_bind,zuD m hm hm0 u,Result.andThen_ok,Sem.run_pure]
def zfR(n j nb:Nat)(RB:Nat→Nat):Array Value:=(Array.range n).map fun i=>if i<j then .slice (some ⟨RB i,0,none⟩) nb nb else .slice none 0 0
theorem zyU(n j nb:Nat)(RB:Nat→Nat):(zfR n j nb RB).size=n:=by simp[zfR]
theorem zgB{n j nb i:Nat}{RB:Nat→Nat}(hi:i<n):(zfR n j nb RB)[i]?=some (if i<j then .slice (some ⟨RB i,0,none⟩) nb nb else .slice none 0 0):=by simp[zfR,hi]
theorem zmO{n j nb g:Nat}{RB:Nat→Nat}(hj:j<n):(zfR n j nb RB).setIfInBounds j (.slice (some ⟨g,0,none⟩) nb nb)=zfR n (j+1) nb fun i=>if i=j then g else RB i:=by
 apply Array.ext_getElem?;intro i;rw[Array.getElem?_setIfInBounds];by_cases e:j=i
 ·subst e;simp[zfR,hj]
 ·rw[if_neg e];by_cases hi:i<n
  ·rw[zgB hi,zgB hi];have:¬i=j:=fun h=>e h.symm
   simp only[this,if_false];by_cases h1:i<j
   ·rw[if_pos h1,if_pos (by omega)]
   ·rw[if_neg h1,if_neg (by omega)]
  ·simp[zfR,hi]
end Go.Proofs.YtpiefebngnlfoaaGreatDoor
