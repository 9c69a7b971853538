/-
  disk.Disks, blank: Blocks, Read, Holds.
-/
import Derived.Test.YtpiefebngnlfoaaDoorLi
import Derived.Deep.MidRow
import Derived.Laws.IdiomRangeMap
set_option linter.unusedVariables false
set_option linter.unusedSimpArgs false
namespace Go.Proofs.YtpiefebngnlfoaaDoor
open Go.RowKit Go.Conc Go.Vw

/-- Blank disks: nd of nb blocks. -/
structure Dk (D DB : Nat) (RB : Nat → Nat) (nd nb : Nat) (r l : Value) (w : World) : Prop where
  row : w.heap[D]? = some (.cells #[.slice (some ⟨DB, 0, none⟩) nd nd, r, l] 73)
  all : ∀ d, d < nd → w.cell? ⟨DB, d, none⟩ = some (.slice (some ⟨RB d, 0, none⟩) nb nb)
  blk : ∀ d, d < nd → ∀ i, i < nb * 96 → w.cell? ⟨RB d, i, none⟩ = some (.int .u8 0)
theorem Dk.ext {D DB : Nat} {RB : Nat → Nat} {nd nb : Nat} {r l : Value} {w w' : World} (h : Dk D DB RB nd nb r l w) (hE : Ext w w') : Dk D DB RB nd nb r l w' :=
  ⟨hE.row h.row, fun d hd => hE.cell (h.all d hd), fun d hd i hi => hE.cell (h.blk d hd i hi)⟩
theorem Dk.bel {D DB : Nat} {RB : Nat → Nat} {nd nb : Nat} {r l : Value} {w : World} (h : Dk D DB RB nd nb r l w) : w.cell? ⟨D, 0, none⟩ = some (.slice (some ⟨DB, 0, none⟩) nd nd) := by
  rw [cell_of_row _ _ _ _ _ _ h.row]
  rfl
theorem results_nil {P : Program} {gf : Func} (h : gf.results = #[]) (tmps : Array Value) (w : World) (es : Array Event) : (results gf tmps).runT P w es = (.ok (.tuple #[]) w, es) := by
  have : results gf tmps = (Pure.pure (.tuple #[]) : Sem Value) := by
    unfold results
    rw [h]
    simp
  rw [this]
  rfl
set_option maxRecDepth 100000 in
/-- A blank block is loaded. -/
theorem run_loadBlk {o : Oper} {a : Act} {x : Operand} {b off : Nat} {u : World} (hop : o.op = .load 92 x) (hx : a.eval x = .pointer (some ⟨b, off, none⟩)) (hz : ∀ j, j < 96 → u.cell? ⟨b, off + j, none⟩ = some (.int .u8 0)) : (execOp a.eval o).run Tryd.prog u = .ok (.value (.agg (zerosA 96))) u := by
  have h := run_loadAt_mid (P := Tryd.prog) u b off 92 (zerosA 96).toList _ (fun j y hy => by
    have hj : j < 96 := by
      have := (List.getElem?_eq_some_iff.1 hy).1
      simpa [zerosA_size] using this
    rw [Array.getElem?_toList, zerosA_get hj] at hy
    cases hy
    exact hz j hj) Tryd.underlying92 rfl (by rw [show (zerosA 96).toList.length = 96 by simp [zerosA_size]]; kernel_rfl)
  unfold execOp
  simp only [hop, hx, Sem.run_bind, h, Result.andThen_ok, Sem.run_pure]
set_option maxRecDepth 100000 in
theorem eq_blk (u : World) : (do eqGuard .eql 92 (.tmp 18) (.tmp 19) (.agg (zerosA 96)) (.agg (zerosA 96)); binOp .eql 92 (.agg (zerosA 96)) (.agg (zerosA 96)) : Sem Value).run Tryd.prog u = .ok (.bool true) u := by
  kernel_rfl
theorem run_eqBlk {o : Oper} {a : Act} {u : World} (hop : o.op = .binOp .eql 92 (.tmp 18) (.tmp 19) 92) (h1 : a.eval (.tmp 18) = .agg (zerosA 96)) (h2 : a.eval (.tmp 19) = .agg (zerosA 96)) : (execOp a.eval o).run Tryd.prog u = .ok (.value (.bool true)) u := by
  unfold execOp
  simp only [hop, h1, h2]
  rw [Sem.run_bind, eq_blk]
  rfl
set_option maxRecDepth 100000 in
theorem blocks_r {S : Nat → Prop} {v : World} (D DB : Nat) (RB : Nat → Nat) (nd nb : Nat) (r l : Value) (hnd : 0 < nd) (hD : Dk D DB RB nd nb r l v) :
    CallsR Tryd.prog 17 #[.pointer (some ⟨D, 0, none⟩)] S v fun x S' v' => x = .int .i64 (nb : Nat) ∧ S' = S ∧ v' = v := by
  refine callsR_body Tryd.func17 rfl Tryd.ntmps17 (by simp) fun Stop cc cs ret => ?_
  have g0 : argF #[.pointer (some ⟨D, 0, none⟩)] 0 = .pointer (some ⟨D, 0, none⟩) := rfl
  generalize argF #[.pointer (some ⟨D, 0, none⟩)] = f at g0
  have c0 := hD.bel
  have c1 := hD.all 0 hnd
  repeat (first|refine rA ?_|refine rB ?_|refine rC ?_|refine rD ?_|(refine rR ?_;simp only [tO, Nat.reduceAdd])|refine rE ?_|(refine rO goodFF rfl ?_;intro _ hu_ K_ hK_;(have hc := (Ext.twin hu_).cell c0; have hc' := (Ext.twin hu_).cell c1);go_simp;(try rw [wI _]);(try rw [wU _]);refine hK_ _ ?_;clear hK_ K_ hu_;simp only [sS, sN])|(refine rP rfl ?_;simp only [sS, sN])|(refine rP2 rfl ?_;simp only [sS, sN]))
  refine reach_ret fun todo => ?_
  refine ret _ _ _ _ (.int .i64 (nb : Nat)) ?_ ⟨rfl, rfl, rfl⟩
  simp [results, Tryd.results17]
set_option maxRecDepth 100000 in
set_option maxHeartbeats 1000000 in
theorem read_r {S : Nat → Prop} {v : World} (t : TypeId) (e : Value) (D DB : Nat) (RB : Nat → Nat) (nd nb d p : Nat) (r l : Value) (hg0 : v.cell? ⟨0, 0, none⟩ = some (.iface t e)) (hd : d < nd) (hp : p < nb) (hnd : nd ≤ 18) (hnb : nb ≤ 64) (hD : Dk D DB RB nd nb r l v) :
    CallsR Tryd.prog 47 #[.pointer (some ⟨D, 0, none⟩), .int .i64 (d : Nat), .int .i64 (p : Nat)] S v fun x S' v' => x = .tuple #[.agg piece0, .bool false] ∧ S' = S ∧ Ext v v' := by
  intro Stop cc cs ret
  rw [enter_at _ Tryd.func47 (c := Tryd.f47.body.getD .skip) rfl, Tryd.ntmps47, TA_enter (by simp)]
  have g0 : argF #[.pointer (some ⟨D, 0, none⟩), .int .i64 (d : Nat), .int .i64 (p : Nat)] 0 = .pointer (some ⟨D, 0, none⟩) := rfl
  have g1 : argF #[.pointer (some ⟨D, 0, none⟩), .int .i64 (d : Nat), .int .i64 (p : Nat)] 1 = .int .i64 (d : Nat) := rfl
  have g2 : argF #[.pointer (some ⟨D, 0, none⟩), .int .i64 (d : Nat), .int .i64 (p : Nat)] 2 = .int .i64 (p : Nat) := rfl
  generalize argF #[.pointer (some ⟨D, 0, none⟩), .int .i64 (d : Nat), .int .i64 (p : Nat)] = f at g0 g1 g2
  simp only [Tryd.f47, Option.getD_some]
  have hdI : (d : Int) < (nd : Int) := by omega
  have hpI : (p : Int) < (nb : Int) := by omega
  repeat (first|refine rA ?_|refine rB ?_|refine rC ?_|refine rD ?_|(refine rR ?_;simp only [tO, Nat.reduceAdd])|refine rE ?_|(refine rO goodFF rfl ?_;intro _ hu_ K_ hK_;go_simp;(try rw [wI _]);(try rw [wU _]);refine hK_ _ ?_;clear hK_ K_ hu_;simp only [sS, sN])|(refine rP rfl ?_;simp only [sS, sN])|(refine rP2 rfl ?_;simp only [sS, sN]))
  refine reach_alloc goodFF rfl rfl (by kernel_rfl) (.agg piece0) rfl (by kernel_rfl) fun w1 hE1 hb1 hs1 => ?_
  simp only [stO_some]
  repeat (first|refine rA ?_|refine rB ?_|refine rC ?_|refine rD ?_|(refine rR ?_;simp only [tO, Nat.reduceAdd])|refine rE ?_|(refine rO goodFF rfl ?_;intro _ hu_ K_ hK_;go_simp;(try rw [wI _]);(try rw [wU _]);refine hK_ _ ?_;clear hK_ K_ hu_;simp only [sS, sN])|(refine rP rfl ?_;simp only [sS, sN])|(refine rP2 rfl ?_;simp only [sS, sN]))
  refine reach_defer rfl rfl (by simp [base]) rfl ?_
  have c0 := hE1.cell hD.bel
  have c1 := hE1.cell (hD.all d hd)
  have hz : ∀ u, Vw.Twin w1 u → ∀ j, j < 96 → u.cell? ⟨RB d, p * 96 + j, none⟩ = some (.int .u8 0) := fun u hu j hj => (Ext.twin hu).cell (hE1.cell (hD.blk d hd _ (by omega)))
  simp only [Act.put]
  repeat (first|refine sA ?_|(refine sR ?_;simp only [tO, Nat.reduceAdd])|refine sE ?_|(refine sO goodFF rfl ?_;intro _ hu_ K_ hK_;(have hc := (Ext.twin hu_).cell c0; have hc' := (Ext.twin hu_).cell c1);go_simp;(try rw [wI _]);(try rw [wU _]);refine hK_ _ ?_;clear hK_ K_ hu_;simp only [sS, sN]))
  refine reach_opS (by simp [base]) rfl rfl (Sim.execOp goodFF.cc goodFF.closed (fun g => rfl) (by kernel_rfl)) fun u hu => ⟨_, u, .inl (run_loadBlk (x := .tmp 16) (b := RB d) (off := p * 96) rfl (by simp) (hz u hu)), Reach.twin ⟨hu.heap.symm, hu.os.symm, hu.output.symm⟩ ?_⟩
  simp only [TA_put, stO_some]
  refine reach_callP rfl (by rfl) rfl Tryd.func68 (by kernel_rfl) rfl (vs := #[.agg (zerosA 96)]) (by simp [Act.eval]) (open_p t e (hE1.cell hg0)) fun x S' w2 todo hv h => ?_
  obtain ⟨rfl, eS, hE2⟩ := h
  subst S'
  refine reach_deferred (by simp) rfl Tryd.func67 (by kernel_rfl) rfl ?_
  simp only [Tryd.ntmps67, Tryd.f67]
  refine reach_ctl rfl (fun _ => stepG_region) ?_
  refine reach_recover (rest := []) rfl rfl rfl (fun w => rfl) rfl ?_
  refine reach_ctl rfl (fun _ => stepG_region_end) ?_
  refine reach_ctl rfl (fun _ => stepG_end) ?_
  refine reach_backD (y := .tuple #[]) rfl rfl Tryd.func67 (fun w => ?_) rfl ?_
  · exact results_nil Tryd.results67 _ _ _
  have hb2 : w2.heap[v.heap.size]? = some (.cells piece0 96) := hE2.row hb1
  refine reach_back (fn := 47) (x := .tuple #[.agg piece0, .bool false]) Tryd.func47 ?_ (ret _ S w2 hv ⟨rfl, rfl, hE1.trans _ _ _ hE2⟩)
  have hl := run_loadVar_row (P := Tryd.prog) w2 v.heap.size 96 96 piece0 (0, 0) _ hb2 Tryd.underlying96 rfl (by kernel_rfl)
  show (results Tryd.f47 (TA 19 _)).run Tryd.prog w2 = _
  simp [results, Tryd.results47, asAddr, hl]
set_option maxRecDepth 100000 in
set_option maxHeartbeats 1000000 in
theorem holds_r {S : Nat → Prop} {v : World} (D DB : Nat) (RB : Nat → Nat) (nd nb d p : Nat) (r l : Value) (hd : d < nd) (hp : p < nb) (hnd : nd ≤ 18) (hnb : nb ≤ 64) (hD : Dk D DB RB nd nb r l v) :
    CallsR Tryd.prog 44 #[.pointer (some ⟨D, 0, none⟩), .int .i64 (d : Nat), .int .i64 (p : Nat), .agg (zerosA 96)] S v fun x S' v' => x = .bool true ∧ S' = S ∧ Ext v v' := by
  refine callsR_body Tryd.func44 rfl Tryd.ntmps44 (by simp) fun Stop cc cs ret => ?_
  have g0 : argF #[.pointer (some ⟨D, 0, none⟩), .int .i64 (d : Nat), .int .i64 (p : Nat), .agg (zerosA 96)] 0 = .pointer (some ⟨D, 0, none⟩) := rfl
  have g1 : argF #[.pointer (some ⟨D, 0, none⟩), .int .i64 (d : Nat), .int .i64 (p : Nat), .agg (zerosA 96)] 1 = .int .i64 (d : Nat) := rfl
  have g2 : argF #[.pointer (some ⟨D, 0, none⟩), .int .i64 (d : Nat), .int .i64 (p : Nat), .agg (zerosA 96)] 2 = .int .i64 (p : Nat) := rfl
  have g3 : argF #[.pointer (some ⟨D, 0, none⟩), .int .i64 (d : Nat), .int .i64 (p : Nat), .agg (zerosA 96)] 3 = .agg (zerosA 96) := rfl
  generalize argF #[.pointer (some ⟨D, 0, none⟩), .int .i64 (d : Nat), .int .i64 (p : Nat), .agg (zerosA 96)] = f at g0 g1 g2 g3
  have hdI : (d : Int) < (nd : Int) := by omega
  have hpI : (p : Int) < (nb : Int) := by omega
  repeat (first|refine rA ?_|refine rB ?_|refine rC ?_|refine rD ?_|(refine rR ?_;simp only [tO, Nat.reduceAdd])|refine rE ?_|(refine rO goodFF rfl ?_;intro _ hu_ K_ hK_;go_simp;(try rw [wI _]);(try rw [wU _]);refine hK_ _ ?_;clear hK_ K_ hu_;simp only [sS, sN])|(refine rP rfl ?_;simp only [sS, sN])|(refine rP2 rfl ?_;simp only [sS, sN]))
  refine reach_turnQ (Q := fun y w => y = .pointer (some ⟨v.heap.size, 0, none⟩) ∧ Ext v w ∧ w.heap[v.heap.size]? = some (.cells (zerosA 96) 92)) goodFF rfl rfl (by kernel_rfl) (fun u hu => ⟨_, _, .inl (run_box (x := .tmp 3) (y := .agg (zerosA 96)) rfl (by simp [g3]) u), by rw [hu.heap], (Ext.twin hu).trans _ _ _ (Ext.alloc _ _), by rw [← hu.heap]; exact alloc_at _ _⟩) ?_
  rintro _ w1 ⟨rfl, hE1, hb1⟩
  simp only [stO_some]
  have c0 := hE1.cell hD.bel
  have c1 := hE1.cell (hD.all d hd)
  have hz : ∀ u, Vw.Twin w1 u → ∀ j, j < 96 → u.cell? ⟨RB d, p * 96 + j, none⟩ = some (.int .u8 0) := fun u hu j hj => (Ext.twin hu).cell (hE1.cell (hD.blk d hd _ (by omega)))
  have hz2 : ∀ u, Vw.Twin w1 u → ∀ j, j < 96 → u.cell? ⟨v.heap.size, 0 + j, none⟩ = some (.int .u8 0) := fun u hu j hj => (Ext.twin hu).cell (by rw [cell_of_row _ _ _ _ _ _ hb1, Nat.zero_add]; exact zerosA_get hj)
  repeat (first|refine rA ?_|refine rB ?_|refine rC ?_|refine rD ?_|(refine rR ?_;simp only [tO, Nat.reduceAdd])|refine rE ?_|(refine rO goodFF rfl ?_;intro _ hu_ K_ hK_;go_simp;(try rw [wI _]);(try rw [wU _]);refine hK_ _ ?_;clear hK_ K_ hu_;simp only [sS, sN])|(refine rP rfl ?_;simp only [sS, sN])|(refine rP2 rfl ?_;simp only [sS, sN]))
  refine reach_draw goodFF (by first | kernel_rfl | rfl) ?_
  simp only [List.size_toArray, List.length_cons, List.length_nil, Nat.reduceAdd, Nat.zero_add]
  co_applyP rT (i := 0) rfl (fun _ hu_ => run_eq_of ?u1_0) ?v1_0
  case u1_0 => intro K_ hK_;go_simp;(try rw [wI _]);(try rw [wU _]);exact hK_
  simp only [sS, sN]
  co_applyP rT (i := 1) rfl (fun _ hu_ => run_eq_of ?u1_1) ?v1_1
  case u1_1 => intro K_ hK_;go_simp;(try rw [wI _]);(try rw [wU _]);exact hK_
  simp only [sS, sN]
  co_applyP rT (i := 2) rfl (fun _ hu_ => run_eq_of ?u1_2) ?v1_2
  case u1_2 => intro K_ hK_;go_simp;(try rw [wI _]);(try rw [wU _]);exact hK_
  simp only [sS, sN]
  co_applyP rT (i := 3) rfl (fun _ hu_ => run_eq_of ?u2) ?v2
  case u2 => intro K_ hK_;(have hc := (Ext.twin hu_).cell c0);go_simp;(try rw [wI _]);(try rw [wU _]);exact hK_
  simp only [sS, sN]
  co_applyP rT (i := 4) rfl (fun _ hu_ => run_eq_of ?u3_4) ?v3_4
  case u3_4 => intro K_ hK_;go_simp;(try rw [wI _]);(try rw [wU _]);exact hK_
  simp only [sS, sN]
  co_applyP rT (i := 5) rfl (fun _ hu_ => run_eq_of ?u3_5) ?v3_5
  case u3_5 => intro K_ hK_;go_simp;(try rw [wI _]);(try rw [wU _]);exact hK_
  simp only [sS, sN]
  co_applyP rT (i := 6) rfl (fun _ hu_ => run_eq_of ?u4) ?v4
  case u4 => intro K_ hK_;(have hc := (Ext.twin hu_).cell c1);go_simp;(try rw [wI _]);(try rw [wU _]);exact hK_
  simp only [sS, sN]
  co_applyP rT (i := 7) rfl (fun _ hu_ => run_eq_of ?u5_7) ?v5_7
  case u5_7 => intro K_ hK_;go_simp;(try rw [wI _]);(try rw [wU _]);exact hK_
  simp only [sS, sN]
  co_applyP rT (i := 8) rfl (fun _ hu_ => run_eq_of ?u5_8) ?v5_8
  case u5_8 => intro K_ hK_;go_simp;(try rw [wI _]);(try rw [wU _]);exact hK_
  simp only [sS, sN]
  co_applyP rT (i := 9) rfl (fun u hu_ => run_loadBlk (x := .tmp 17) (b := RB d) (off := p * 96) rfl (by simp) (hz u hu_)) ?v9
  simp only [sS, sN]
  co_applyP rT (i := 10) rfl (fun u hu_ => run_loadBlk (x := .tmp 7) (b := v.heap.size) (off := 0) rfl (by simp) (hz2 u hu_)) ?v10
  simp only [sS, sN]
  co_applyP rT (i := 11) rfl (fun u hu_ => run_eqBlk rfl (by simp) (by simp)) ?v11
  simp only [sS, sN]
  co_applyP rT (i := 12) rfl (fun _ hu_ => run_eq_of ?u6) ?v6
  case u6 => intro K_ hK_;go_simp;(try rw [wI _]);(try rw [wU _]);exact hK_
  simp only [sS, sN]
  refine anyR_done (by first | kernel_rfl | decide +kernel) ?_ _
  repeat (first|refine rA ?_|refine rB ?_|refine rC ?_|refine rD ?_|(refine rR ?_;simp only [tO, Nat.reduceAdd])|refine rE ?_|(refine rO goodFF rfl ?_;intro _ hu_ K_ hK_;go_simp;(try rw [wI _]);(try rw [wU _]);refine hK_ _ ?_;clear hK_ K_ hu_;simp only [sS, sN])|(refine rP rfl ?_;simp only [sS, sN])|(refine rP2 rfl ?_;simp only [sS, sN]))
  refine reach_ret fun todo => ?_
  refine ret _ _ S w1 (.bool true) ?_ ⟨rfl, rfl, hE1⟩
  simp [results, Tryd.results44]
end Go.Proofs.YtpiefebngnlfoaaDoor

/-
  Maps that are empty: makeMap, range, next.
-/
set_option linter.unusedVariables false
set_option linter.unusedSimpArgs false
namespace Go.Vw
open Go.Conc
section
variable {P : Program} {S : Nat → Prop} {v : World} {o : Oper} {a : Act} {α : Type}
theorem sim_makeMapOp {t : TypeId} (hop : o.op = .makeMap t none) : Sim P S (execOp a.eval o) := by
  unfold execOp
  simp only [hop, Option.map_none]
  exact Sim.bind (Sim.makeMap t) fun _ => Sim.pure _
theorem run_makeMapOp {t : TypeId} {u : World} (hop : o.op = .makeMap t none) : (execOp a.eval o).run P u = .ok (.value (.map (some u.heap.size))) (u.alloc (.map #[] 0)) := by
  unfold execOp
  simp [hop, Instr.makeMap]
theorem Sim.range (t : TypeId) (m : Nat) : Sim P S (Instr.range t (.map (some m))) := by
  unfold Instr.range
  refine Sim.bind (Sim.underlying t) fun d => ?_
  cases d with
  | map key elem =>
    refine Sim.getThen (fun _ o => ?_) (fun v es => Dead.first (Dead.stuck _ _ _))
    cases o with
    | map entries clock =>
      show Sim P S (Go.newObj (.mapIter (some m) clock #[] clock) >>= fun l => Pure.pure (Value.pointer (some ⟨l, 0, none⟩)))
      exact Sim.bind (Sim.newObj trivial) fun _ => Sim.pure _
    | _ => exact Sim.of_dead fun v W es _ => Dead.first (Dead.stuck _ _ _)
  | _ => exact Sim.of_dead fun v W es _ => Dead.first (Dead.stuck _ _ _)
theorem Sim.next (r : Nat) (t : TypeId) : Sim P S (Instr.next (.pointer (some ⟨r, 0, none⟩)) false t) := by
  unfold Instr.next
  refine Sim.getThen (fun hs o => ?_) (fun v es => Dead.stuck _ _ _)
  cases o with
  | mapIter mo since seen last =>
    cases mo with
    | none => exact Sim.pure _
    | some m =>
      refine Sim.getThen (fun _ o => ?_) (fun v es => Dead.stuck _ _ _)
      cases o with
      | map es clock =>
        simp only []
        split
        · exact Sim.of_dead fun v W es _ => Dead.first (Dead.unsupported _ _ _)
        · refine Sim.bind (Sim.choose _) fun i => ?_
          split
          · exact Sim.bind (Sim.setObj hs trivial) fun _ => Sim.pure _
          · exact Sim.pure _
          · exact Sim.stuck _
      | _ => exact Sim.stuck _
  | _ => exact Sim.stuck _
theorem sim_rangeOp {t : TypeId} {x : Operand} {m : Nat} (hop : o.op = .range t x) (hx : a.eval x = .map (some m)) : Sim P S (execOp a.eval o) := by
  unfold execOp
  simp only [hop, hx]
  exact Sim.bind (Sim.range t m) fun _ => Sim.pure _
theorem run_rangeOp {t kt et : TypeId} {x : Operand} {m c : Nat} {es : Array MapEntry} {u : World} (hop : o.op = .range t x) (hx : a.eval x = .map (some m)) (ht : P.underlying t = some (.map kt et)) (hm : u.heap[m]? = some (.map es c)) :
    (execOp a.eval o).run P u = .ok (.value (.pointer (some ⟨u.heap.size, 0, none⟩))) (u.alloc (.mapIter (some m) c #[] c)) := by
  unfold execOp
  simp [hop, hx, run_range_map u t kt et m es c ht hm]
theorem sim_nextOp {x : Operand} {r : Nat} (hop : o.op = .next x false) (hx : a.eval x = .pointer (some ⟨r, 0, none⟩)) : Sim P S (execOp a.eval o) := by
  unfold execOp
  simp only [hop, hx]
  exact Sim.bind (Sim.next r _) fun _ => Sim.pure _
/-- Nothing is left where nothing is. -/
theorem run_nextOp {x : Operand} {r m c since last : Nat} {u : World} (hop : o.op = .next x false) (hx : a.eval x = .pointer (some ⟨r, 0, none⟩)) (hr : u.heap[r]? = some (.mapIter (some m) since #[] last)) (hm : u.heap[m]? = some (.map #[] c)) :
    ∃ w', Twin u w' ∧ (execOp a.eval o).run P u = .ok (.value (.tuple #[.bool false])) w' := by
  refine ⟨u, .refl u, ?_⟩
  unfold execOp
  simp [hop, hx, Instr.next, getObj, Sem.run, hr, hm, choose, Question.forced]
end
section
variable {P : Program} {Stop : Goroutine → (Nat → Prop) → World → Prop} {S : Nat → Prop} {v : World} {fn : FuncId} {cs : List Frame} {k : List Item} {n : Nat} {f : Nat → Value} {ops : Array Oper} {i : Nat} {rest : List Nat} {dst : Option Tmp} {op : Op} {ty : TypeId} {pos : String} {aft : Array Edge} {grd : Option (Nat × Bool)}
theorem reach_mkmap {t : TypeId} (ho : ops[i]? = some ⟨dst, op, ty, pos, aft, grd⟩) (hw : Region.wanted ⟨dst, op, ty, pos, aft, grd⟩ (yielded ops (TA n f)) = true) (hop : op = .makeMap t none)
    (hn : ∀ v', Ext v v' → v'.heap[v.heap.size]? = some (.map #[] 0) → Reach P Stop (G ((base fn).at ⟨TA n (stO f dst (.map (some v.heap.size))), []⟩ (.inRegion ops rest :: k)) cs) S v') :
    Reach P Stop (G ((base fn).at ⟨TA n f, []⟩ (.inRegion ops (i :: rest) :: k)) cs) S v := by
  refine reach_opS (by simp [base]) ho hw (sim_makeMapOp hop) fun u hu => ⟨_, _, .inl (run_makeMapOp hop), ?_⟩
  rw [TA_put]
  have := hn (u.alloc (.map #[] 0)) ((Ext.twin hu).trans _ _ _ (Ext.alloc _ _)) (by rw [← hu.heap]; exact alloc_at _ _)
  rwa [← hu.heap] at this
theorem reach_range {t kt et : TypeId} {x : Operand} {m c : Nat} {es : Array MapEntry} (ho : ops[i]? = some ⟨dst, op, ty, pos, aft, grd⟩) (hw : Region.wanted ⟨dst, op, ty, pos, aft, grd⟩ (yielded ops (TA n f)) = true) (hop : op = .range t x) (hx : (⟨TA n f, []⟩ : Act).eval x = .map (some m)) (ht : P.underlying t = some (.map kt et)) (hm : v.heap[m]? = some (.map es c))
    (hn : ∀ v', Ext v v' → v'.heap[v.heap.size]? = some (.mapIter (some m) c #[] c) → Reach P Stop (G ((base fn).at ⟨TA n (stO f dst (.pointer (some ⟨v.heap.size, 0, none⟩))), []⟩ (.inRegion ops rest :: k)) cs) S v') :
    Reach P Stop (G ((base fn).at ⟨TA n f, []⟩ (.inRegion ops (i :: rest) :: k)) cs) S v := by
  refine reach_opS (by simp [base]) ho hw (sim_rangeOp hop hx) fun u hu => ⟨_, _, .inl (run_rangeOp hop hx ht ((Ext.twin hu).row hm)), ?_⟩
  rw [TA_put]
  have := hn (u.alloc (.mapIter (some m) c #[] c)) ((Ext.twin hu).trans _ _ _ (Ext.alloc _ _)) (by rw [← hu.heap]; exact alloc_at _ _)
  rwa [← hu.heap] at this
theorem reach_nextE {x : Operand} {r m c since last : Nat} (ho : ops[i]? = some ⟨dst, op, ty, pos, aft, grd⟩) (hw : Region.wanted ⟨dst, op, ty, pos, aft, grd⟩ (yielded ops (TA n f)) = true) (hop : op = .next x false) (hx : (⟨TA n f, []⟩ : Act).eval x = .pointer (some ⟨r, 0, none⟩)) (hr : v.heap[r]? = some (.mapIter (some m) since #[] last)) (hm : v.heap[m]? = some (.map #[] c))
    (hn : Reach P Stop (G ((base fn).at ⟨TA n (stO f dst (.tuple #[.bool false])), []⟩ (.inRegion ops rest :: k)) cs) S v) :
    Reach P Stop (G ((base fn).at ⟨TA n f, []⟩ (.inRegion ops (i :: rest) :: k)) cs) S v := by
  refine reach_opS (by simp [base]) ho hw (sim_nextOp hop hx) fun u hu => ?_
  obtain ⟨w', ht, hr⟩ := run_nextOp (P := P) (o := ⟨dst, op, ty, pos, aft, grd⟩) hop hx ((Ext.twin hu).row hr) ((Ext.twin hu).row hm)
  refine ⟨_, w', .inl hr, ?_⟩
  rw [TA_put]
  exact Reach.twin ⟨(hu.trans ht).heap.symm, (hu.trans ht).os.symm, (hu.trans ht).output.symm⟩ hn
end
end Go.Vw

/-
  A store of blank disks: piecesIn, survey, takenSlots, blank, sweep.
-/
set_option linter.unusedVariables false
set_option linter.unusedSimpArgs false
namespace Go.Proofs.YtpiefebngnlfoaaDoor
open Go.RowKit Go.Conc Go.Vw

/-- A store in which nothing is. -/
structure Sto (X D DB M : Nat) (RB : Nat → Nat) (nd nb : Nat) (r l : Value) (w : World) : Prop where
  row : w.heap[X]? = some (.cells #[.pointer (some ⟨D, 0, none⟩), .map (some M), .int .u64 0] 49)
  map : w.heap[M]? = some (.map #[] 0)
  dk : Dk D DB RB nd nb r l w
section
variable {X D DB M : Nat} {RB : Nat → Nat} {nd nb : Nat} {r l : Value} {w w' v : World} {S : Nat → Prop}
theorem Sto.ext (h : Sto X D DB M RB nd nb r l w) (hE : Ext w w') : Sto X D DB M RB nd nb r l w' := ⟨hE.row h.row, hE.row h.map, h.dk.ext hE⟩
theorem Sto.c0 (h : Sto X D DB M RB nd nb r l w) : w.cell? ⟨X, 0, none⟩ = some (.pointer (some ⟨D, 0, none⟩)) := by rw [cell_of_row _ _ _ _ _ _ h.row]; rfl
theorem Sto.c1 (h : Sto X D DB M RB nd nb r l w) : w.cell? ⟨X, 1, none⟩ = some (.map (some M)) := by rw [cell_of_row _ _ _ _ _ _ h.row]; rfl
set_option maxRecDepth 100000 in
set_option maxHeartbeats 2000000 in
theorem piecesIn_r (t : TypeId) (e : Value) (p : Nat) (hg0 : v.cell? ⟨0, 0, none⟩ = some (.iface t e)) (hp : p < nb) (hn1 : 14 ≤ nd) (hnd : nd ≤ 18) (hnb : nb ≤ 64) (hX : Sto X D DB M RB nd nb r l v) :
    CallsR Tryd.prog 33 #[.pointer (some ⟨X, 0, none⟩), .int .i64 (p : Nat)] S v fun x S' v' => ∃ m, x = .map (some m) ∧ v'.heap[m]? = some (.map #[] 0) ∧ S' = S ∧ Ext v v' := by
  refine callsR_body Tryd.func33 rfl Tryd.ntmps33 (by simp) fun Stop cc cs ret => ?_
  have g0 : argF #[.pointer (some ⟨X, 0, none⟩), .int .i64 (p : Nat)] 0 = .pointer (some ⟨X, 0, none⟩) := rfl
  have g1 : argF #[.pointer (some ⟨X, 0, none⟩), .int .i64 (p : Nat)] 1 = .int .i64 (p : Nat) := rfl
  generalize argF #[.pointer (some ⟨X, 0, none⟩), .int .i64 (p : Nat)] = f at g0 g1
  repeat (first|refine rA ?_|refine rB ?_|refine rC ?_|refine rD ?_|(refine rR ?_;simp only [tO, Nat.reduceAdd])|refine rE ?_|(refine rO goodFF rfl ?_;intro _ hu_ K_ hK_;go_simp;(try rw [wI _]);(try rw [wU _]);refine hK_ _ ?_;clear hK_ K_ hu_;simp only [sS, sN])|(refine rP rfl ?_;simp only [sS, sN])|(refine rP2 rfl ?_;simp only [sS, sN]))
  refine reach_mkmap rfl rfl rfl fun w1 hE1 hm1 => ?_
  simp only [stO_some]
  repeat (first|refine rA ?_|refine rB ?_|refine rC ?_|refine rD ?_|(refine rR ?_;simp only [tO, Nat.reduceAdd])|refine rE ?_|(refine rO goodFF rfl ?_;intro _ hu_ K_ hK_;go_simp;(try rw [wI _]);(try rw [wU _]);refine hK_ _ ?_;clear hK_ K_ hu_;simp only [sS, sN])|(refine rP rfl ?_;simp only [sS, sN])|(refine rP2 rfl ?_;simp only [sS, sN]))
  refine reach_rounds (fun d f' S' w => ∃ j, d = 14 - j ∧ j ≤ 14 ∧ S' = S ∧ Ext w1 w ∧ f' 0 = .pointer (some ⟨X, 0, none⟩) ∧ f' 1 = .int .i64 (p : Nat) ∧ f' 5 = .map (some v.heap.size) ∧ f' 11 = .int .i64 (j : Nat)) 14 ⟨0, by omega, by omega, rfl, .refl _, by simp [g0], by simp [g1], by simp, by simp⟩ ?_
  clear g0 g1 f
  rintro d f S' w ⟨j, rfl, hj, eS, hEw, g0, g1, g5, g11⟩ nxt
  subst S'
  have hEv := hE1.trans _ _ _ hEw
  have hXw := hX.ext hEv
  repeat (first|refine rA ?_|refine rB ?_|refine rC ?_|refine rD ?_|(refine rR ?_;simp only [tO, Nat.reduceAdd])|refine rE ?_|(refine rO goodFF rfl ?_;intro _ hu_ K_ hK_;go_simp;(try rw [wI _]);(try rw [wU _]);refine hK_ _ ?_;clear hK_ K_ hu_;simp only [sS, sN])|(refine rP rfl ?_;simp only [sS, sN])|(refine rP2 rfl ?_;simp only [sS, sN]))
  by_cases hlt : j < 14
  · have hjI : (j : Int) < 14 := by omega
    have c0 := hXw.c0
    (refine reach_cond (t := true) (by simp [Act.eval, g11, hjI]) ?_; simp only [if_true, if_false, reduceIte, Bool.false_eq_true])
    repeat (first|refine rA ?_|refine rB ?_|refine rC ?_|refine rD ?_|(refine rR ?_;simp only [tO, Nat.reduceAdd])|refine rE ?_|(refine rO goodFF rfl ?_;intro _ hu_ K_ hK_;(have hc := (Ext.twin hu_).cell c0);go_simp;(try rw [wI _]);(try rw [wU _]);refine hK_ _ ?_;clear hK_ K_ hu_;simp only [sS, sN])|(refine rP rfl ?_;simp only [sS, sN])|(refine rP2 rfl ?_;simp only [sS, sN]))
    (refine reach_callR rfl (by first | rfl | simp [Region.wanted, yielded, TA_get, *]) rfl Tryd.func47 (by kernel_rfl) rfl (by simp [Act.eval, *]; try rfl) (read_r t e D DB RB nd nb j p r l (hEv.cell hg0) (by omega) hp hnd hnb hXw.dk) ?_)
    rintro _ S1 w2 _ ⟨rfl, e1, hE2⟩
    subst S1
    simp only [stO_some]
    repeat (first|refine rA ?_|refine rB ?_|refine rC ?_|refine rD ?_|(refine rR ?_;simp only [tO, Nat.reduceAdd])|refine rE ?_|(refine rO goodFF rfl ?_;intro _ hu_ K_ hK_;go_simp;(try rw [wI _]);(try rw [wU _]);refine hK_ _ ?_;clear hK_ K_ hu_;simp only [sS, sN])|(refine rP rfl ?_;simp only [sS, sN])|(refine rP2 rfl ?_;simp only [sS, sN]))
    refine reach_alloc goodFF rfl rfl (by kernel_rfl) (.agg piece0) rfl (by kernel_rfl) fun w3 hE3 hb3 hs3 => ?_
    simp only [stO_some]
    repeat (first|refine rA ?_|refine rB ?_|refine rC ?_|refine rD ?_|(refine rR ?_;simp only [tO, Nat.reduceAdd])|refine rE ?_|(refine rO goodFF rfl ?_;intro _ hu_ K_ hK_;go_simp;(try rw [wI _]);(try rw [wU _]);refine hK_ _ ?_;clear hK_ K_ hu_;simp only [sS, sN])|(refine rP rfl ?_;simp only [sS, sN])|(refine rP2 rfl ?_;simp only [sS, sN]))
    refine reach_storeRow goodFF rfl rfl (by kernel_rfl) (x := .tmp 7) (y := .tmp 22) (g := w2.heap.size) (c := piece0) rfl (by simp) (by simp) hb3 (by kernel_rfl) rfl (by kernel_rfl) fun w4 hW => ?_
    have hE4 := wr_same hW hb3
    simp only [stO_none]
    repeat (first|refine rA ?_|refine rB ?_|refine rC ?_|refine rD ?_|(refine rR ?_;simp only [tO, Nat.reduceAdd])|refine rE ?_|(refine rO goodFF rfl ?_;intro _ hu_ K_ hK_;go_simp;(try rw [wI _]);(try rw [wU _]);refine hK_ _ ?_;clear hK_ K_ hu_;simp only [sS, sN])|(refine rP rfl ?_;simp only [sS, sN])|(refine rP2 rfl ?_;simp only [sS, sN]))
    (refine reach_cond (t := true) (by simp [Act.eval]) ?_; simp only [if_true, if_false, reduceIte, Bool.false_eq_true])
    refine reach_exit rfl ?_
    repeat (first|refine rA ?_|refine rB ?_|refine rC ?_|refine rD ?_|(refine rR ?_;simp only [tO, Nat.reduceAdd])|refine rE ?_|(refine rO goodFF rfl ?_;intro _ hu_ K_ hK_;go_simp;(try rw [wI _]);(try rw [wU _]);refine hK_ _ ?_;clear hK_ K_ hu_;simp only [sS, sN])|(refine rP rfl ?_;simp only [sS, sN])|(refine rP2 rfl ?_;simp only [sS, sN]))
    refine nxt _ _ _ (14 - (j + 1)) (by omega) ⟨j + 1, rfl, by omega, rfl, hEw.trans _ _ _ (hE2.trans _ _ _ (hE3.trans _ _ _ hE4)), by simp [g0], by simp [g1], by simp [g5], by simp⟩
  · obtain rfl : j = 14 := by omega
    (refine reach_cond (t := false) (by simp [Act.eval, g11]) ?_; simp only [if_true, if_false, reduceIte, Bool.false_eq_true])
    refine reach_exit rfl ?_
    repeat (first|refine rA ?_|refine rB ?_|refine rC ?_|refine rD ?_|(refine rR ?_;simp only [tO, Nat.reduceAdd])|refine rE ?_|(refine rO goodFF rfl ?_;intro _ hu_ K_ hK_;go_simp;(try rw [wI _]);(try rw [wU _]);refine hK_ _ ?_;clear hK_ K_ hu_;simp only [sS, sN])|(refine rP rfl ?_;simp only [sS, sN])|(refine rP2 rfl ?_;simp only [sS, sN]))
    refine reach_ret fun todo => ?_
    refine ret _ _ S w (.map (some v.heap.size)) ?_ ⟨_, rfl, hEw.row hm1, rfl, hEv⟩
    simp [results, Tryd.results33]
set_option maxRecDepth 100000 in
set_option maxHeartbeats 2000000 in
theorem survey_r (t : TypeId) (e : Value) (p : Nat) (hg0 : v.cell? ⟨0, 0, none⟩ = some (.iface t e)) (hp : p < nb) (hn1 : 14 ≤ nd) (hnd : nd ≤ 18) (hnb : nb ≤ 64) (hX : Sto X D DB M RB nd nb r l v) :
    CallsR Tryd.prog 18 #[.pointer (some ⟨X, 0, none⟩), .int .i64 (p : Nat)] S v fun x S' v' => x = .tuple #[] ∧ S' = S ∧ Ext v v' := by
  refine callsR_body Tryd.func18 rfl Tryd.ntmps18 (by simp) fun Stop cc cs ret => ?_
  have g0 : argF #[.pointer (some ⟨X, 0, none⟩), .int .i64 (p : Nat)] 0 = .pointer (some ⟨X, 0, none⟩) := rfl
  have g1 : argF #[.pointer (some ⟨X, 0, none⟩), .int .i64 (p : Nat)] 1 = .int .i64 (p : Nat) := rfl
  generalize argF #[.pointer (some ⟨X, 0, none⟩), .int .i64 (p : Nat)] = f at g0 g1
  repeat (first|refine rA ?_|refine rB ?_|refine rC ?_|refine rD ?_|(refine rR ?_;simp only [tO, Nat.reduceAdd])|refine rE ?_|(refine rO goodFF rfl ?_;intro _ hu_ K_ hK_;go_simp;(try rw [wI _]);(try rw [wU _]);refine hK_ _ ?_;clear hK_ K_ hu_;simp only [sS, sN])|(refine rP rfl ?_;simp only [sS, sN])|(refine rP2 rfl ?_;simp only [sS, sN]))
  (refine reach_callR rfl (by first | rfl | simp [Region.wanted, yielded, TA_get, *]) rfl Tryd.func33 (by kernel_rfl) rfl (by simp [Act.eval, *]; try rfl) (piecesIn_r t e p hg0 hp hn1 hnd hnb hX) ?_)
  rintro _ S1 w1 _ ⟨m, rfl, hm, e1, hE1⟩
  subst S1
  simp only [stO_some]
  refine reach_range rfl rfl rfl (m := m) (by simp) Tryd.underlying75 hm fun w2 hE2 hi2 => ?_
  simp only [stO_some]
  repeat (first|refine rA ?_|refine rB ?_|refine rC ?_|refine rD ?_|(refine rR ?_;simp only [tO, Nat.reduceAdd])|refine rE ?_|(refine rO goodFF rfl ?_;intro _ hu_ K_ hK_;go_simp;(try rw [wI _]);(try rw [wU _]);refine hK_ _ ?_;clear hK_ K_ hu_;simp only [sS, sN])|(refine rP rfl ?_;simp only [sS, sN])|(refine rP2 rfl ?_;simp only [sS, sN]))
  refine reach_rounds (fun d f' S' w => S' = S ∧ w = w2 ∧ f' 11 = .pointer (some ⟨w1.heap.size, 0, none⟩)) 0 ⟨rfl, rfl, by simp⟩ ?_
  clear g0 g1 f
  rintro d f S' w ⟨eS, eW, g11⟩ nxt
  subst S' w
  repeat (first|refine rA ?_|refine rB ?_|refine rC ?_|refine rD ?_|(refine rR ?_;simp only [tO, Nat.reduceAdd])|refine rE ?_|(refine rO goodFF rfl ?_;intro _ hu_ K_ hK_;go_simp;(try rw [wI _]);(try rw [wU _]);refine hK_ _ ?_;clear hK_ K_ hu_;simp only [sS, sN])|(refine rP rfl ?_;simp only [sS, sN])|(refine rP2 rfl ?_;simp only [sS, sN]))
  refine reach_nextE rfl rfl rfl (r := w1.heap.size) (m := m) (by simp [g11]) hi2 (hE2.row hm) ?_
  simp only [stO_some]
  repeat (first|refine rA ?_|refine rB ?_|refine rC ?_|refine rD ?_|(refine rR ?_;simp only [tO, Nat.reduceAdd])|refine rE ?_|(refine rO goodFF rfl ?_;intro _ hu_ K_ hK_;go_simp;(try rw [wI _]);(try rw [wU _]);refine hK_ _ ?_;clear hK_ K_ hu_;simp only [sS, sN])|(refine rP rfl ?_;simp only [sS, sN])|(refine rP2 rfl ?_;simp only [sS, sN]))
  (refine reach_cond (t := false) (by simp [Act.eval]) ?_; simp only [if_true, if_false, reduceIte, Bool.false_eq_true])
  refine reach_exit rfl ?_
  repeat (first|refine rA ?_|refine rB ?_|refine rC ?_|refine rD ?_|(refine rR ?_;simp only [tO, Nat.reduceAdd])|refine rE ?_|(refine rO goodFF rfl ?_;intro _ hu_ K_ hK_;go_simp;(try rw [wI _]);(try rw [wU _]);refine hK_ _ ?_;clear hK_ K_ hu_;simp only [sS, sN])|(refine rP rfl ?_;simp only [sS, sN])|(refine rP2 rfl ?_;simp only [sS, sN]))
  refine reach_end ?_
  refine ret _ _ S w2 (.tuple #[]) ?_ ⟨rfl, rfl, hE1.trans _ _ _ hE2⟩
  simp [results, Tryd.results18]
end
end Go.Proofs.YtpiefebngnlfoaaDoor
