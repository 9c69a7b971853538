import Derived.Test.YtpiefebngnlfoaaGreatDoorLk
set_option maxRecDepth 100000
set_option maxHeartbeats 16000000
set_option linter.unusedVariables false
set_option linter.unusedSimpArgs false
namespace Go.Proofs.YtpiefebngnlfoaaGreatDoor
open Go.RowKit Go.Conc Go.Vw
theorem ymH:∃ i,Tryz.prog.info? 94=some i∧i.size=3∧i.bytes=24:=⟨_,rfl,rfl,rfl⟩
theorem ybM{o:Oper}{a:Act}{l c:Operand}(hop:o.op=.makeSlice 91 l c)(hl:a.eval l=.int .i64 0)(hc:a.eval c=.int .i64 0)(u:World):(execOp a.eval o).run Tryz.prog u=.ok (.value (.slice (some ⟨u.heap.size,0,none⟩) 0 0)) (u.alloc (.cells #[] 94)):=by
 obtain⟨inf,hq,h1,h2⟩:=ymH;have wl:IntKind.i64.wrap 0=0:=rfl;unfold execOp;simp[hop,hl,hc,Instr.makeSlice,run_underlying Tryz.underlying91,asInt,asIntOf,typeInfo,hq,h1,h2,sizeOf,askRoom,newRow,wl];have e:Array.map (fun _:Nat=>(default:Value)) (Array.range 0)=#[]:=by
  apply Array.ext';simp
 rw[e]
section
variable {X D DB M:Nat}{RB:Nat→Nat}{nd nb:Nat}{r l:Value}{v:World}{S:Nat→Prop}
end
def zs(n:Nat):ByteArray:=strOfNums (List.replicate n 0)
theorem zvT:∃ i z,Tryz.prog.info? 9=some i∧i.zero=some z∧i.size=1∧i.bytes=16∧z.cells=#[z]:=⟨_,_,rfl,rfl,rfl,rfl,rfl⟩
theorem yfU{B n c:Nat}{u:World}(hz:∀ i,i<n→u.cell? ⟨B,i,none⟩=some (.int .u8 0)):(convert 43 9 (.slice (some ⟨B,0,none⟩) n c)).run Tryz.prog u=.ok (.string (zs n)) u:=
 run_convert_bytes_arg (P:=Tryz.prog) u 43 5 Tryz.underlying43 Tryz.underlying5 B 0 n c (List.replicate n 0) (by simp) (fun i hi=>by rw[Nat.zero_add,hz i hi];simp[List.getD,List.getElem?_replicate,hi]) 9 Tryz.underlying9
theorem ycY{w:World}{b:Nat}{e:Value}{t:TypeId}(h:w.heap[b]?=some (.cells #[e] t)):∀ j y,[e][j]?=some y→w.cell? ((⟨b,0,none⟩:Addr).add j)=some y:=by
 intro j y hy;cases j with
 |zero=>
  simp only[List.getElem?_cons_zero,Option.some.injEq]at hy;subst hy;rw[Addr.add_lit];exact(cell_of_row _ b 0 _ _ _ h).trans rfl
 |succ j=>simp at hy
def txts(z:Nat→Nat)(k:Nat):List Value:=(List.range k).map fun i=>.string (zs (z i))
theorem yaK(z:Nat→Nat)(k:Nat):txts z k++[.string (zs (z k))]=txts z (k+1):=by
 simp[txts,List.range_succ]
end Go.Proofs.YtpiefebngnlfoaaGreatDoor
