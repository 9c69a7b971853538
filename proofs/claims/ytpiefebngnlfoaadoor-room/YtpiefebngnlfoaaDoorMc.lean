/-
  Disks that hold something: Blocks, Read, Holds, Write.
-/
import Derived.Test.YtpiefebngnlfoaaDoorMb
import Derived.Test.YtpiefebngnlfoaaDoorLl
set_option linter.unusedVariables false
set_option linter.unusedSimpArgs false
namespace Go.Vw
open Go.Conc
section
variable {P : Program} {Stop : Goroutine → (Nat → Prop) → World → Prop} {S : Nat → Prop} {v : World} {fn : FuncId} {cs : List Frame} {k : List Item} {n : Nat} {f : Nat → Value} {ops : Array Oper} {i : Nat} {rest : List Nat} {o : Oper} {ds : List Deferred}
theorem reach_callS {g : FuncId} {gf : Func} {c : Code} {args : Array Operand} {ats : Array TypeId} {vs : Array Value} {Post : Value → (Nat → Prop) → World → Prop} (ho : ops[i]? = some o) (hw : Region.wanted o (yielded ops (TA n f)) = true) (hop : o.op = .call { callee := .value (.func g), args, argTypes := ats })
    (hf : P.funcs[g]? = some gf) (hname : (gf.name == "runtime.NumGoroutine") = false) (hb : gf.body = some c) (hvs : args.map (⟨TA n f, ds⟩ : Act).eval = vs) (hc : CallsR P g vs S v Post)
    (hn : ∀ x S' v', View P S' v' → Post x S' v' → Reach P Stop (G ((base fn).at ⟨TA n (stO f o.dst x), ds⟩ (.inRegion ops rest :: k)) cs) S' v') :
    Reach P Stop (G ((base fn).at ⟨TA n f, ds⟩ (.inRegion ops (i :: rest) :: k)) cs) S v :=
  reach_ctl rfl (fun w => stepG_callBody ho hw (by simp [base]) hop hf hname hb hvs) (hc Stop _ cs fun x S' v' hv q => by
    rw [Frame.finish_at, ho]
    show Reach P Stop (G ((base fn).at (Act.put ⟨TA n f, ds⟩ o.dst x) (.inRegion ops rest :: k)) cs) S' v'
    rw [TA_put]
    exact hn x S' v' hv q)
theorem sRet {tmps : Array Value} (h : ∀ todo, Reach P Stop (G { (base fn).at ⟨tmps, ds⟩ todo with mode := .returning } cs) S v) : Reach P Stop (G ((base fn).at ⟨tmps, ds⟩ (.code .ret :: k)) cs) S v := reach_ctl rfl (fun _ => stepG_ret') (h _)
end
theorem Kp.wr {v0 w w' : World} {X : Nat → Prop} {g : Nat} {o : Obj} (h : Kp v0 X w) (hg : X g ∨ v0.heap.size ≤ g) (hW : Wr w g o w') : Kp v0 X w' := by
  refine ⟨by rw [hW.size]; exact h.size, hW.os.trans h.os, hW.output.trans h.output, fun b ob hb hc ht => ?_⟩
  have : b ≠ g := by
    rintro rfl
    rcases hg with hg | hg
    · exact hb hg
    · have := (Array.getElem?_eq_some_iff.1 hc).1
      omega
  exact (hW.other b this).trans (h.objs b ob hb hc ht)
end Go.Vw
namespace Go.Proofs.YtpiefebngnlfoaaDoor
open Go.RowKit Go.Conc Go.Vw

/-- The bytes of a disk, its blocks being these. -/
def flat (x : Nat → Nat → Nat) (i : Nat) : Nat := x (i / 96) (i % 96)
/-- What the blocks are, one being written. -/
def updC (c : Nat → Nat → Nat → Nat) (d p : Nat) (b : Nat → Nat) : Nat → Nat → Nat → Nat := fun d' p' i => if d' = d ∧ p' = p then b i else c d' p' i
structure Disk (D DB DA : Nat) (RB RA : Nat → Nat) (nd nb : Nat) (c : Nat → Nat → Nat → Nat) (w : World) : Prop where
  row : ∃ left : Nat, left ≤ 1099511627776 ∧ w.heap[D]? = some (.cells #[.slice (some ⟨DB, 0, none⟩) nd nd, .slice (some ⟨DA, 0, none⟩) nd nd, .int .i64 (left : Nat)] 73)
  db : w.heap[DB]? = some (.cells (drowsA nd nd nb RB) 74)
  da : w.heap[DA]? = some (.cells (drowsA nd nd nb RA) 74)
  rb : ∀ d, d < nd → w.heap[RB d]? = some (.cells (bytesA (nb * 96) (flat (c d))) 92)
  ra : ∀ d, d < nd → ∃ x, w.heap[RA d]? = some (.cells (bytesA (nb * 96) x) 92)
  inj : ∀ d d', d < nd → d' < nd → RB d = RB d' → d = d'
  apart : ∀ d d', d < nd → d' < nd → RB d ≠ RA d'
/-- The memory of disks. -/
def DOwn (D : Nat) (RB RA : Nat → Nat) (nd : Nat) (b : Nat) : Prop := b = D ∨ ∃ d, d < nd ∧ (b = RB d ∨ b = RA d)
section
variable {D DB DA : Nat} {RB RA : Nat → Nat} {nd nb : Nat} {c : Nat → Nat → Nat → Nat} {w w' v : World} {S : Nat → Prop}
theorem Disk.kp (h : Disk D DB DA RB RA nd nb c w) {X : Nat → Prop} (hK : Kp w X w') (h1 : ¬ X D) (h2 : ¬ X DB) (h3 : ¬ X DA) (h4 : ∀ d, d < nd → ¬ X (RB d) ∧ ¬ X (RA d)) : Disk D DB DA RB RA nd nb c w' :=
  ⟨let ⟨l, q1, q2⟩ := h.row; ⟨l, q1, hK.cells _ _ _ _ h1 q2⟩, hK.cells _ _ _ _ h2 h.db, hK.cells _ _ _ _ h3 h.da, fun d hd => hK.cells _ _ _ _ (h4 d hd).1 (h.rb d hd), fun d hd => let ⟨x, q⟩ := h.ra d hd; ⟨x, hK.cells _ _ _ _ (h4 d hd).2 q⟩, h.inj, h.apart⟩
theorem Disk.kp0 (h : Disk D DB DA RB RA nd nb c w) (hK : Kp w (fun _ => False) w') : Disk D DB DA RB RA nd nb c w' := h.kp hK (fun x => x) (fun x => x) (fun x => x) fun _ _ => ⟨fun x => x, fun x => x⟩
theorem Disk.ext (h : Disk D DB DA RB RA nd nb c w) (hE : Ext w w') : Disk D DB DA RB RA nd nb c w' := h.kp0 (kp_ext hE)
theorem Disk.bel (h : Disk D DB DA RB RA nd nb c w) : w.cell? ⟨D, 0, none⟩ = some (.slice (some ⟨DB, 0, none⟩) nd nd) := by
  obtain ⟨l, _, q⟩ := h.row
  exact (cell_of_row _ _ _ _ _ _ q).trans rfl
theorem Disk.actc (h : Disk D DB DA RB RA nd nb c w) : w.cell? ⟨D, 1, none⟩ = some (.slice (some ⟨DA, 0, none⟩) nd nd) := by
  obtain ⟨l, _, q⟩ := h.row
  exact (cell_of_row _ _ _ _ _ _ q).trans rfl
theorem Disk.all (h : Disk D DB DA RB RA nd nb c w) {d : Nat} (hd : d < nd) : w.cell? ⟨DB, d, none⟩ = some (.slice (some ⟨RB d, 0, none⟩) nb nb) := by
  rw [cell_of_row _ _ _ _ _ _ h.db, rowsA_get hd, if_pos hd]
theorem Disk.allA (h : Disk D DB DA RB RA nd nb c w) {d : Nat} (hd : d < nd) : w.cell? ⟨DA, d, none⟩ = some (.slice (some ⟨RA d, 0, none⟩) nb nb) := by
  rw [cell_of_row _ _ _ _ _ _ h.da, rowsA_get hd, if_pos hd]
theorem Disk.blk (h : Disk D DB DA RB RA nd nb c w) {d p j : Nat} (hd : d < nd) (hp : p < nb) (hj : j < 96) : w.cell? ⟨RB d, p * 96 + j, none⟩ = some (.int .u8 (c d p j : Nat)) := by
  rw [cell_of_row _ _ _ _ _ _ (h.rb d hd), bytesA_get _ _ _ (by omega)]
  unfold flat
  rw [show (p * 96 + j) / 96 = p by omega, show (p * 96 + j) % 96 = j by omega]
set_option maxRecDepth 100000 in
theorem run_loadBlkG {o : Oper} {a : Act} {x : Operand} {b off : Nat} {y : Nat → Nat} {u : World} (hop : o.op = .load 92 x) (hx : a.eval x = .pointer (some ⟨b, off, none⟩)) (hz : ∀ j, j < 96 → u.cell? ⟨b, off + j, none⟩ = some (.int .u8 (y j : Nat))) : (execOp a.eval o).run Tryd.prog u = .ok (.value (.agg (bytesA 96 y))) u := by
  have h := run_loadAt_mid (P := Tryd.prog) u b off 92 (bytesA 96 y).toList _ (fun j z hy => by
    have hj : j < 96 := by
      have := (List.getElem?_eq_some_iff.1 hy).1
      simpa [bytesA_size] using this
    rw [Array.getElem?_toList, bytesA_get _ _ _ hj] at hy
    cases hy
    exact hz j hj) Tryd.underlying92 rfl (by rw [show (bytesA 96 y).toList.length = 96 by simp [bytesA_size]]; kernel_rfl)
  unfold execOp
  simp only [hop, hx, Sem.run_bind, h, Result.andThen_ok, Sem.run_pure]
set_option maxRecDepth 100000 in
theorem blocksG_r (hnd : 0 < nd) (hD : Disk D DB DA RB RA nd nb c v) :
    CallsR Tryd.prog 17 #[.pointer (some ⟨D, 0, none⟩)] S v fun x S' v' => x = .int .i64 (nb : Nat) ∧ S' = S ∧ v' = v := by
  refine callsR_body Tryd.func17 rfl Tryd.ntmps17 (by simp) fun Stop cc cs ret => ?_
  have g0 : argF #[.pointer (some ⟨D, 0, none⟩)] 0 = .pointer (some ⟨D, 0, none⟩) := rfl
  generalize argF #[.pointer (some ⟨D, 0, none⟩)] = f at g0
  have c0 := hD.bel
  have c1 := hD.all hnd
  repeat (first|refine rA ?_|refine rB ?_|refine rC ?_|refine rD ?_|(refine rR ?_;simp only [tO, Nat.reduceAdd])|refine rE ?_|(refine rO goodFG rfl ?_;intro _ hu_ K_ hK_;(have hc := (Ext.twin hu_).cell c0; have hc' := (Ext.twin hu_).cell c1);go_simp;(try rw [wI _]);(try rw [wU _]);refine hK_ _ ?_;clear hK_ K_ hu_;simp only [sS, sN])|(refine rP rfl ?_;simp only [sS, sN])|(refine rP2 rfl ?_;simp only [sS, sN]))
  refine reach_ret fun todo => ?_
  refine ret _ _ _ _ (.int .i64 (nb : Nat)) ?_ ⟨rfl, rfl, rfl⟩
  simp [results, Tryd.results17]
set_option maxRecDepth 100000 in
set_option maxHeartbeats 2000000 in
theorem readS_r (id size turn k m d p : Nat) (y : Nat → Nat) (hid : id ≤ 9999) (hid0 : 1 ≤ id) (hsz : size ≤ 400) (hk : k < 14) (ht : turn < 18446744073709551616) (hm : m = (size + 9) / 10) (hy : ∀ i, y i < 256) (hd : d < nd) (hp : p < nb) (hnd : nd ≤ 18) (hnb : nb ≤ 64) (hD : Disk D DB DA RB RA nd nb c v) (hc : ∀ j, j < 96 → c d p j = sealF id size turn k m y j) :
    CallsR Tryd.prog 47 #[.pointer (some ⟨D, 0, none⟩), .int .i64 (d : Nat), .int .i64 (p : Nat)] S v fun x S' v' => S' = S ∧ Ext v v' ∧ ∃ B c, x = .tuple #[.agg (pieceA id size turn k (some ⟨B, 0, none⟩) m c), .bool true] ∧ m ≤ c ∧ v.heap.size ≤ B ∧ BytesAt v' B 0 m y ∧ ∃ C, v'.heap[B]? = some (.cells C 5) := by
  intro Stop cc cs ret
  rw [enter_at _ Tryd.func47 (c := Tryd.f47.body.getD .skip) rfl, Tryd.ntmps47, TA_enter (by simp)]
  have g0 : argF #[.pointer (some ⟨D, 0, none⟩), .int .i64 (d : Nat), .int .i64 (p : Nat)] 0 = .pointer (some ⟨D, 0, none⟩) := rfl
  have g1 : argF #[.pointer (some ⟨D, 0, none⟩), .int .i64 (d : Nat), .int .i64 (p : Nat)] 1 = .int .i64 (d : Nat) := rfl
  have g2 : argF #[.pointer (some ⟨D, 0, none⟩), .int .i64 (d : Nat), .int .i64 (p : Nat)] 2 = .int .i64 (p : Nat) := rfl
  generalize argF #[.pointer (some ⟨D, 0, none⟩), .int .i64 (d : Nat), .int .i64 (p : Nat)] = f at g0 g1 g2
  simp only [Tryd.f47, Option.getD_some]
  have hdI : (d : Int) < (nd : Int) := by omega
  have hpI : (p : Int) < (nb : Int) := by omega
  have HM := hide hm
  clear hm
  repeat (first|refine rA ?_|refine rB ?_|refine rC ?_|refine rD ?_|(refine rR ?_;simp only [tO, Nat.reduceAdd])|refine rE ?_|(refine rO goodFG rfl ?_;intro _ hu_ K_ hK_;go_simp;(try rw [wI _]);(try rw [wU _]);refine hK_ _ ?_;clear hK_ K_ hu_;simp only [sS, sN])|(refine rP rfl ?_;simp only [sS, sN])|(refine rP2 rfl ?_;simp only [sS, sN]))
  refine reach_alloc goodFG rfl rfl (by kernel_rfl) (.agg piece0) rfl (by kernel_rfl) fun w1 hE1 hb1 hs1 => ?_
  simp only [stO_some]
  repeat (first|refine rA ?_|refine rB ?_|refine rC ?_|refine rD ?_|(refine rR ?_;simp only [tO, Nat.reduceAdd])|refine rE ?_|(refine rO goodFG rfl ?_;intro _ hu_ K_ hK_;go_simp;(try rw [wI _]);(try rw [wU _]);refine hK_ _ ?_;clear hK_ K_ hu_;simp only [sS, sN])|(refine rP rfl ?_;simp only [sS, sN])|(refine rP2 rfl ?_;simp only [sS, sN]))
  refine reach_defer rfl rfl (by simp [base]) rfl ?_
  have hD1 := hD.ext hE1
  have c0 := hD1.bel
  have c1 := hD1.all hd
  have hz : ∀ u, Vw.Twin w1 u → ∀ j, j < 96 → u.cell? ⟨RB d, p * 96 + j, none⟩ = some (.int .u8 (sealF id size turn k m y j : Nat)) := fun u hu j hj => (Ext.twin hu).cell (by rw [hD1.blk hd hp hj, hc j hj])
  simp only [Act.put]
  repeat (first|refine sA ?_|(refine sR ?_;simp only [tO, Nat.reduceAdd])|refine sE ?_|(refine sO goodFG rfl ?_;intro _ hu_ K_ hK_;(have hc := (Ext.twin hu_).cell c0; have hc' := (Ext.twin hu_).cell c1);go_simp;(try rw [wI _]);(try rw [wU _]);refine hK_ _ ?_;clear hK_ K_ hu_;simp only [sS, sN]))
  refine reach_opS (by simp [base]) rfl rfl (Sim.execOp goodFG.cc goodFG.closed (fun g => rfl) (by kernel_rfl)) fun u hu => ⟨_, u, .inl (run_loadBlkG (x := .tmp 16) (b := RB d) (off := p * 96) rfl (by simp) (hz u hu)), Reach.twin ⟨hu.heap.symm, hu.os.symm, hu.output.symm⟩ ?_⟩
  simp only [TA_put, stO_some]
  refine reach_callS rfl (by rfl) rfl Tryd.func68 (by kernel_rfl) rfl (vs := #[.agg (bytesA 96 (sealF id size turn k m y))]) (by simp [Act.eval]) (openS_r id size turn k m y hid hid0 hsz hk ht HM.out hy) fun x S' w2 hv h => ?_
  obtain ⟨eS, hE2, B, cB, rfl, hcB, hVB, hBy, C, hC⟩ := h
  subst S'
  try simp only [stO_some]
  have hb2 := hE2.row hb1
  have hrun : ∀ (u : World) (a : Act) (o : Oper), Vw.Twin w2 u → o.op = .store 96 (.tmp 6) (.tmp 18) → a.eval (.tmp 6) = .pointer (some ⟨v.heap.size, 0, none⟩) → a.eval (.tmp 18) = .agg (pieceA id size turn k (some ⟨B, 0, none⟩) m cB) → (execOp a.eval o).run Tryd.prog u = .ok .skip (u.setRow v.heap.size (pieceA id size turn k (some ⟨B, 0, none⟩) m cB)) := fun u a o hu hop h1 h2 => by
    have hst := run_storeVar_row (P := Tryd.prog) u v.heap.size 96 96 piece0 (pieceA id size turn k (some ⟨B, 0, none⟩) m cB) ((Ext.twin hu).row hb2) (by kernel_rfl) rfl (by simp [pieceA, Value.oneCell'])
    unfold execOp
    simp [hop, h1, h2, Instr.storeAt, Instr.sureAddr, hst]
  refine reach_opS (by simp [base]) rfl rfl (Sim.execOp goodFG.cc goodFG.closed (fun g => rfl) (by kernel_rfl)) fun u hu => ⟨undef, _, .inr ⟨hrun u _ _ hu rfl (by simp) (by simp), rfl⟩, Reach.twin (twin_setRow hu v.heap.size (pieceA id size turn k (some ⟨B, 0, none⟩) m cB)).symm ?_⟩
  have hW3 := wr_setRow (c := pieceA id size turn k (some ⟨B, 0, none⟩) m cB) hb2
  generalize w2.setRow v.heap.size (pieceA id size turn k (some ⟨B, 0, none⟩) m cB) = w3 at hW3
  try simp only [TA_put, stO_none]
  have hE3 : Ext v w3 := ext_wr (hE1.trans _ _ _ hE2) (Nat.le_refl _) hW3
  have hne : B ≠ v.heap.size := by omega
  repeat (first|refine sA ?_|(refine sR ?_;simp only [tO, Nat.reduceAdd])|refine sE ?_|(refine sO goodFG rfl ?_;intro _ hu_ K_ hK_;go_simp;(try rw [wI _]);(try rw [wU _]);refine hK_ _ ?_;clear hK_ K_ hu_;simp only [sS, sN]))
  refine sRet fun todo => ?_
  refine reach_deferred (by simp) rfl Tryd.func67 (by kernel_rfl) rfl ?_
  simp only [Tryd.ntmps67, Tryd.f67]
  refine reach_ctl rfl (fun _ => stepG_region) ?_
  refine reach_recoverNot (rest := []) rfl rfl rfl (fun w => rfl) rfl ?_
  refine reach_ctl rfl (fun _ => stepG_region_end) ?_
  refine reach_ctl rfl (fun _ => stepG_end) ?_
  refine reach_backR (y := .tuple #[]) rfl rfl Tryd.func67 (fun w => ?_) rfl ?_
  · exact results_nil Tryd.results67 _ _ _
  refine reach_view fun hv3 => ?_
  refine reach_back (fn := 47) (x := .tuple #[.agg (pieceA id size turn k (some ⟨B, 0, none⟩) m cB), .bool true]) Tryd.func47 ?_ (ret _ S w3 hv3 ⟨rfl, hE3, B, cB, rfl, hcB, by omega, fun j hj => ?_, C, wr_row hW3 hC hne⟩)
  · have hl := run_loadVar_row (P := Tryd.prog) w3 v.heap.size 96 96 (pieceA id size turn k (some ⟨B, 0, none⟩) m cB) (0, 0) _ hW3.at_ Tryd.underlying96 rfl (by kernel_rfl)
    show (results Tryd.f47 (TA 19 _)).run Tryd.prog w3 = _
    simp [results, Tryd.results47, asAddr, hl]
  · have := hBy j hj
    rw [← this]
    exact World.cell?_of_block (hW3.other B hne)
set_option maxRecDepth 100000 in
set_option maxHeartbeats 1000000 in
theorem holdsG_r (d p : Nat) (b : Nat → Nat) (hd : d < nd) (hp : p < nb) (hnd : nd ≤ 18) (hnb : nb ≤ 64) (hD : Disk D DB DA RB RA nd nb c v) :
    CallsR Tryd.prog 44 #[.pointer (some ⟨D, 0, none⟩), .int .i64 (d : Nat), .int .i64 (p : Nat), .agg (bytesA 96 b)] S v fun x S' v' => x = .bool (eqF (c d p) b 0 96) ∧ S' = S ∧ Ext v v' := by
  refine callsR_body Tryd.func44 rfl Tryd.ntmps44 (by simp) fun Stop cc cs ret => ?_
  have g0 : argF #[.pointer (some ⟨D, 0, none⟩), .int .i64 (d : Nat), .int .i64 (p : Nat), .agg (bytesA 96 b)] 0 = .pointer (some ⟨D, 0, none⟩) := rfl
  have g1 : argF #[.pointer (some ⟨D, 0, none⟩), .int .i64 (d : Nat), .int .i64 (p : Nat), .agg (bytesA 96 b)] 1 = .int .i64 (d : Nat) := rfl
  have g2 : argF #[.pointer (some ⟨D, 0, none⟩), .int .i64 (d : Nat), .int .i64 (p : Nat), .agg (bytesA 96 b)] 2 = .int .i64 (p : Nat) := rfl
  have g3 : argF #[.pointer (some ⟨D, 0, none⟩), .int .i64 (d : Nat), .int .i64 (p : Nat), .agg (bytesA 96 b)] 3 = .agg (bytesA 96 b) := rfl
  generalize argF #[.pointer (some ⟨D, 0, none⟩), .int .i64 (d : Nat), .int .i64 (p : Nat), .agg (bytesA 96 b)] = f at g0 g1 g2 g3
  have hdI : (d : Int) < (nd : Int) := by omega
  have hpI : (p : Int) < (nb : Int) := by omega
  repeat (first|refine rA ?_|refine rB ?_|refine rC ?_|refine rD ?_|(refine rR ?_;simp only [tO, Nat.reduceAdd])|refine rE ?_|(refine rO goodFG rfl ?_;intro _ hu_ K_ hK_;go_simp;(try rw [wI _]);(try rw [wU _]);refine hK_ _ ?_;clear hK_ K_ hu_;simp only [sS, sN])|(refine rP rfl ?_;simp only [sS, sN])|(refine rP2 rfl ?_;simp only [sS, sN]))
  refine reach_turnQ (Q := fun y w => y = .pointer (some ⟨v.heap.size, 0, none⟩) ∧ Ext v w ∧ w.heap[v.heap.size]? = some (.cells (bytesA 96 b) 92)) goodFG rfl rfl (by kernel_rfl) (fun u hu => ⟨_, _, .inl (run_box (x := .tmp 3) (y := .agg (bytesA 96 b)) rfl (by simp [g3]) u), by rw [hu.heap], (Ext.twin hu).trans _ _ _ (Ext.alloc _ _), by rw [← hu.heap]; exact alloc_at _ _⟩) ?_
  rintro _ w1 ⟨rfl, hE1, hb1⟩
  simp only [stO_some]
  have hD1 := hD.ext hE1
  have c0 := hD1.bel
  have c1 := hD1.all hd
  have hz : ∀ u, Vw.Twin w1 u → ∀ j, j < 96 → u.cell? ⟨RB d, p * 96 + j, none⟩ = some (.int .u8 (c d p j : Nat)) := fun u hu j hj => (Ext.twin hu).cell (hD1.blk hd hp hj)
  have hz2 : ∀ u, Vw.Twin w1 u → ∀ j, j < 96 → u.cell? ⟨v.heap.size, 0 + j, none⟩ = some (.int .u8 (b j : Nat)) := fun u hu j hj => (Ext.twin hu).cell (by rw [cell_of_row _ _ _ _ _ _ hb1, Nat.zero_add]; exact bytesA_get _ _ _ hj)
  repeat (first|refine rA ?_|refine rB ?_|refine rC ?_|refine rD ?_|(refine rR ?_;simp only [tO, Nat.reduceAdd])|refine rE ?_|(refine rO goodFG rfl ?_;intro _ hu_ K_ hK_;go_simp;(try rw [wI _]);(try rw [wU _]);refine hK_ _ ?_;clear hK_ K_ hu_;simp only [sS, sN])|(refine rP rfl ?_;simp only [sS, sN])|(refine rP2 rfl ?_;simp only [sS, sN]))
  refine reach_draw goodFG (by first | kernel_rfl | rfl) ?_
  simp only [List.size_toArray, List.length_cons, List.length_nil, Nat.reduceAdd, Nat.zero_add]
  co_applyP rT (i := 0) rfl (fun _ hu_ => run_eq_of ?u1_0) ?v1_0
  case u1_0 => intro K_ hK_;go_simp;(try rw [wI _]);(try rw [wU _]);exact hK_
  simp only [sS, sN]
  co_applyP rT (i := 1) rfl (fun _ hu_ => run_eq_of ?u1_1) ?v1_1
  case u1_1 => intro K_ hK_;go_simp;(try rw [wI _]);(try rw [wU _]);exact hK_
  simp only [sS, sN]
  co_applyP rT (i := 2) rfl (fun _ hu_ => run_eq_of ?u1_2) ?v1_2
  case u1_2 => intro K_ hK_;go_simp;(try rw [wI _]);(try rw [wU _]);exact hK_
  simp only [sS, sN]
  co_applyP rT (i := 3) rfl (fun _ hu_ => run_eq_of ?u2) ?v2
  case u2 => intro K_ hK_;(have hc := (Ext.twin hu_).cell c0);go_simp;(try rw [wI _]);(try rw [wU _]);exact hK_
  simp only [sS, sN]
  co_applyP rT (i := 4) rfl (fun _ hu_ => run_eq_of ?u3_4) ?v3_4
  case u3_4 => intro K_ hK_;go_simp;(try rw [wI _]);(try rw [wU _]);exact hK_
  simp only [sS, sN]
  co_applyP rT (i := 5) rfl (fun _ hu_ => run_eq_of ?u3_5) ?v3_5
  case u3_5 => intro K_ hK_;go_simp;(try rw [wI _]);(try rw [wU _]);exact hK_
  simp only [sS, sN]
  co_applyP rT (i := 6) rfl (fun _ hu_ => run_eq_of ?u4) ?v4
  case u4 => intro K_ hK_;(have hc := (Ext.twin hu_).cell c1);go_simp;(try rw [wI _]);(try rw [wU _]);exact hK_
  simp only [sS, sN]
  co_applyP rT (i := 7) rfl (fun _ hu_ => run_eq_of ?u5_7) ?v5_7
  case u5_7 => intro K_ hK_;go_simp;(try rw [wI _]);(try rw [wU _]);exact hK_
  simp only [sS, sN]
  co_applyP rT (i := 8) rfl (fun _ hu_ => run_eq_of ?u5_8) ?v5_8
  case u5_8 => intro K_ hK_;go_simp;(try rw [wI _]);(try rw [wU _]);exact hK_
  simp only [sS, sN]
  co_applyP rT (i := 9) rfl (fun u hu_ => run_loadBlkG (x := .tmp 17) (b := RB d) (off := p * 96) (y := c d p) rfl (by simp) (hz u hu_)) ?v9
  simp only [sS, sN]
  co_applyP rT (i := 10) rfl (fun u hu_ => run_loadBlkG (x := .tmp 7) (b := v.heap.size) (off := 0) (y := b) rfl (by simp) (hz2 u hu_)) ?v10
  simp only [sS, sN]
  co_applyP rT (i := 11) rfl (fun u hu_ => run_eqlBlk (xo := .tmp 18) (yo := .tmp 19) (x := c d p) (y := b) rfl (by simp) (by simp)) ?v11
  simp only [sS, sN]
  co_applyP rT (i := 12) rfl (fun _ hu_ => run_eq_of ?u6) ?v6
  case u6 => intro K_ hK_;go_simp;(try rw [wI _]);(try rw [wU _]);exact hK_
  simp only [sS, sN]
  refine anyR_done (by first | kernel_rfl | decide +kernel) ?_ _
  repeat (first|refine rA ?_|refine rB ?_|refine rC ?_|refine rD ?_|(refine rR ?_;simp only [tO, Nat.reduceAdd])|refine rE ?_|(refine rO goodFG rfl ?_;intro _ hu_ K_ hK_;go_simp;(try rw [wI _]);(try rw [wU _]);refine hK_ _ ?_;clear hK_ K_ hu_;simp only [sS, sN])|(refine rP rfl ?_;simp only [sS, sN])|(refine rP2 rfl ?_;simp only [sS, sN]))
  refine reach_ret fun todo => ?_
  refine ret _ _ S w1 (.bool (eqF (c d p) b 0 96)) ?_ ⟨rfl, rfl, hE1⟩
  simp [results, Tryd.results44]
/-- A block is stored into a row. -/
def putB (x : Nat → Nat) (off : Nat) (b : Nat → Nat) (i : Nat) : Nat := if off ≤ i ∧ i < off + 96 then b (i - off) else x i
theorem reach_storeBlk {Stop : Goroutine → (Nat → Prop) → World → Prop} {fn : FuncId} {cs : List Frame} {k : List Item} {n : Nat} {f : Nat → Value} {ops : Array Oper} {i : Nat} {rest : List Nat} {dst : Option Tmp} {op : Op} {ty : TypeId} {pos : String} {aft : Array Edge} {grd : Option (Nat × Bool)}
    (ho : ops[i]? = some ⟨dst, op, ty, pos, aft, grd⟩) (hw : Region.wanted ⟨dst, op, ty, pos, aft, grd⟩ (yielded ops (TA n f)) = true) (hok : okOper Tryd.prog FG ⟨dst, op, ty, pos, aft, grd⟩ = true) {x y : Operand} {g off N : Nat} {old b : Nat → Nat}
    (hop : op = .store 92 x y) (hx : (⟨TA n f, []⟩ : Act).eval x = .pointer (some ⟨g, off, none⟩)) (hy : (⟨TA n f, []⟩ : Act).eval y = .agg (bytesA 96 b)) (hrow : v.heap[g]? = some (.cells (bytesA N old) 92)) (hfit : off + 96 ≤ N)
    (hn : ∀ v', Wr v g (.cells (bytesA N (putB old off b)) 92) v' → Vw.Reach Tryd.prog Stop (G ((base fn).at ⟨TA n (stO f dst undef), []⟩ (.inRegion ops rest :: k)) cs) S v') :
    Vw.Reach Tryd.prog Stop (G ((base fn).at ⟨TA n f, []⟩ (.inRegion ops (i :: rest) :: k)) cs) S v := by
  have hsp : ((bytesA N old).toList.take off ++ (bytesA 96 b).toList ++ (bytesA N old).toList.drop (off + 96)).toArray = bytesA N (putB old off b) := by
    have h1 := splice_bytes N off 96 b old hfit
    have h2 : (bytesA 96 b).toList = (List.range 96).map (fun j => Value.int .u8 ((b j : Nat) : Int)) := by simp [bytesA, Array.toList_range]
    rw [h2, h1]
    rfl
  refine reach_turn goodFG ho hw hok (x := undef) (fun u hu => ⟨_, twin_setRow hu g (bytesA N (putB old off b)), .inr ⟨?_, rfl⟩⟩) (hn _ (wr_setRow hrow))
  obtain ⟨inf, q1, q2, q3, q4⟩ := infoBlk
  have hst := run_storeCells_at (P := Tryd.prog) g off 92 (bytesA 96 b).toList 0 (bytesA N old) u ((Ext.twin hu).row hrow) (by rw [Array.length_toList, bytesA_size, bytesA_size]; omega) bytesA_mem
  rw [Array.length_toList, bytesA_size, Nat.add_zero, hsp] at hst
  generalize (Act.eval ⟨TA n f, []⟩) = ρ at hx hy ⊢
  unfold execOp
  simp [hop, hx, hy, Instr.storeAt, Instr.sureAddr, storeVar, sizeOf, typeInfo, q1, q3, Value.cells, bytesA_size, hst]
theorem putB_flat (c : Nat → Nat → Nat → Nat) (d p : Nat) (b : Nat → Nat) : putB (flat (c d)) (p * 96) b = flat (updC c d p b d) := by
  funext i
  unfold putB flat updC
  by_cases h : p * 96 ≤ i ∧ i < p * 96 + 96
  · rw [if_pos h, if_pos ⟨rfl, by omega⟩, show i - p * 96 = i % 96 by omega]
  · rw [if_neg h, if_neg (by omega)]
theorem flat_other (c : Nat → Nat → Nat → Nat) (d p : Nat) (b : Nat → Nat) {d' : Nat} (h : d' ≠ d) : flat (updC c d p b d') = flat (c d') := by
  funext i
  unfold flat updC
  rw [if_neg (fun e => h e.1)]
theorem ne_of_type {w : World} {a b : Nat} {c c' : Array Value} {t t' : TypeId} {fr fr' : Nat × Nat} (h : w.heap[a]? = some (.cells c t fr)) (h' : w.heap[b]? = some (.cells c' t' fr')) (hne : t ≠ t') : a ≠ b := fun e => by
  rw [e, h'] at h
  exact hne (Obj.cells.inj (Option.some.inj h)).2.1.symm
theorem Disk.wrB (h : Disk D DB DA RB RA nd nb c w) {d p : Nat} {b : Nat → Nat} (hd : d < nd) (hW : Wr w (RB d) (.cells (bytesA (nb * 96) (putB (flat (c d)) (p * 96) b)) 92) w') : Disk D DB DA RB RA nd nb (updC c d p b) w' := by
  have hr := h.rb d hd
  refine ⟨let ⟨l, q1, q2⟩ := h.row; ⟨l, q1, wr_row hW q2 (ne_of_type q2 hr (by decide))⟩, wr_row hW h.db (ne_of_type h.db hr (by decide)), wr_row hW h.da (ne_of_type h.da hr (by decide)), fun d' hd' => ?_, fun d' hd' => let ⟨x, q⟩ := h.ra d' hd'; ⟨x, wr_row hW q (fun e => h.apart d d' hd hd' e.symm)⟩, h.inj, h.apart⟩
  by_cases e : d' = d
  · subst e
    rw [← putB_flat]
    exact hW.at_
  · rw [flat_other c d p b e]
    exact wr_row hW (h.rb d' hd') fun e' => e (h.inj d' d hd' hd e')
theorem Disk.wrA (h : Disk D DB DA RB RA nd nb c w) {d : Nat} {x : Nat → Nat} (hd : d < nd) (hW : Wr w (RA d) (.cells (bytesA (nb * 96) x) 92) w') : Disk D DB DA RB RA nd nb c w' := by
  obtain ⟨x0, hr⟩ := h.ra d hd
  refine ⟨let ⟨l, q1, q2⟩ := h.row; ⟨l, q1, wr_row hW q2 (ne_of_type q2 hr (by decide))⟩, wr_row hW h.db (ne_of_type h.db hr (by decide)), wr_row hW h.da (ne_of_type h.da hr (by decide)), fun d' hd' => wr_row hW (h.rb d' hd') (h.apart d' d hd' hd), fun d' hd' => ?_, h.inj, h.apart⟩
  by_cases e : RA d' = RA d
  · exact ⟨x, by rw [e]; exact hW.at_⟩
  · obtain ⟨x', q⟩ := h.ra d' hd'
    exact ⟨x', wr_row hW q e⟩
theorem Disk.wrL (h : Disk D DB DA RB RA nd nb c w) {left : Nat} (hl : left ≤ 1099511627776) (hW : Wr w D (.cells #[.slice (some ⟨DB, 0, none⟩) nd nd, .slice (some ⟨DA, 0, none⟩) nd nd, .int .i64 (left : Nat)] 73) w') : Disk D DB DA RB RA nd nb c w' := by
  obtain ⟨l, q1, q2⟩ := h.row
  exact ⟨⟨left, hl, hW.at_⟩, wr_row hW h.db (ne_of_type h.db q2 (by decide)), wr_row hW h.da (ne_of_type h.da q2 (by decide)), fun d hd => wr_row hW (h.rb d hd) (ne_of_type (h.rb d hd) q2 (by decide)), fun d hd => let ⟨x, q⟩ := h.ra d hd; ⟨x, wr_row hW q (ne_of_type q q2 (by decide))⟩, h.inj, h.apart⟩
set_option maxRecDepth 100000 in
set_option maxHeartbeats 2000000 in
theorem write_r (d p : Nat) (b : Nat → Nat) (hd : d < nd) (hp : p < nb) (hnd : nd ≤ 18) (hnb : nb ≤ 64) (hD : Disk D DB DA RB RA nd nb c v) :
    CallsR Tryd.prog 45 #[.pointer (some ⟨D, 0, none⟩), .int .i64 (d : Nat), .int .i64 (p : Nat), .agg (bytesA 96 b)] S v fun x S' v' => x = .tuple #[] ∧ S' = S ∧ Kp v (DOwn D RB RA nd) v' ∧ Disk D DB DA RB RA nd nb (updC c d p b) v' := by
  refine callsR_body Tryd.func45 rfl Tryd.ntmps45 (by simp) fun Stop cc cs ret => ?_
  have g0 : argF #[.pointer (some ⟨D, 0, none⟩), .int .i64 (d : Nat), .int .i64 (p : Nat), .agg (bytesA 96 b)] 0 = .pointer (some ⟨D, 0, none⟩) := rfl
  have g1 : argF #[.pointer (some ⟨D, 0, none⟩), .int .i64 (d : Nat), .int .i64 (p : Nat), .agg (bytesA 96 b)] 1 = .int .i64 (d : Nat) := rfl
  have g2 : argF #[.pointer (some ⟨D, 0, none⟩), .int .i64 (d : Nat), .int .i64 (p : Nat), .agg (bytesA 96 b)] 2 = .int .i64 (p : Nat) := rfl
  have g3 : argF #[.pointer (some ⟨D, 0, none⟩), .int .i64 (d : Nat), .int .i64 (p : Nat), .agg (bytesA 96 b)] 3 = .agg (bytesA 96 b) := rfl
  generalize argF #[.pointer (some ⟨D, 0, none⟩), .int .i64 (d : Nat), .int .i64 (p : Nat), .agg (bytesA 96 b)] = f at g0 g1 g2 g3
  have hdI : (d : Int) < (nd : Int) := by omega
  have hpI : (p : Int) < (nb : Int) := by omega
  repeat (first|refine rA ?_|refine rB ?_|refine rC ?_|refine rD ?_|(refine rR ?_;simp only [tO, Nat.reduceAdd])|refine rE ?_|(refine rO goodFG rfl ?_;intro _ hu_ K_ hK_;go_simp;(try rw [wI _]);(try rw [wU _]);refine hK_ _ ?_;clear hK_ K_ hu_;simp only [sS, sN])|(refine rP rfl ?_;simp only [sS, sN])|(refine rP2 rfl ?_;simp only [sS, sN]))
  refine reach_turnQ (Q := fun y w => y = .pointer (some ⟨v.heap.size, 0, none⟩) ∧ Ext v w ∧ w.heap[v.heap.size]? = some (.cells (bytesA 96 b) 92)) goodFG rfl rfl (by kernel_rfl) (fun u hu => ⟨_, _, .inl (run_box (x := .tmp 3) (y := .agg (bytesA 96 b)) rfl (by simp [g3]) u), by rw [hu.heap], (Ext.twin hu).trans _ _ _ (Ext.alloc _ _), by rw [← hu.heap]; exact alloc_at _ _⟩) ?_
  rintro _ w1 ⟨rfl, hE1, hb1⟩
  simp only [stO_some]
  have hD1 := hD.ext hE1
  have c0 := hD1.bel
  have c1 := hD1.all hd
  have hbx : ∀ {w : World}, w.heap[v.heap.size]? = some (.cells (bytesA 96 b) 92) → ∀ u, Vw.Twin w u → ∀ j, j < 96 → u.cell? ⟨v.heap.size, 0 + j, none⟩ = some (.int .u8 (b j : Nat)) := fun hw u hu j hj => (Ext.twin hu).cell (by rw [cell_of_row _ _ _ _ _ _ hw, Nat.zero_add]; exact bytesA_get _ _ _ hj)
  have hlt : ∀ d, d < nd → RB d < v.heap.size ∧ RA d < v.heap.size := fun d hd => ⟨(Array.getElem?_eq_some_iff.1 (hD.rb d hd)).1, let ⟨x, q⟩ := hD.ra d hd; (Array.getElem?_eq_some_iff.1 q).1⟩
  have hDlt : D < v.heap.size := by
    obtain ⟨_, _, q⟩ := hD.row
    exact (Array.getElem?_eq_some_iff.1 q).1
  repeat (first|refine rA ?_|refine rB ?_|refine rC ?_|refine rD ?_|(refine rR ?_;simp only [tO, Nat.reduceAdd])|refine rE ?_|(refine rO goodFG rfl ?_;intro _ hu_ K_ hK_;go_simp;(try rw [wI _]);(try rw [wU _]);refine hK_ _ ?_;clear hK_ K_ hu_;simp only [sS, sN])|(refine rP rfl ?_;simp only [sS, sN])|(refine rP2 rfl ?_;simp only [sS, sN]))
  refine reach_drawC goodFG (by first | kernel_rfl | rfl) ?_
  simp only [List.size_toArray, List.length_cons, List.length_nil, Nat.reduceAdd, Nat.zero_add]
  co_applyP cT (i := 0) rfl (fun _ hu_ => run_eq_of ?u8_0) ?v8_0
  case u8_0 => intro K_ hK_;go_simp;(try rw [wI _]);(try rw [wU _]);exact hK_
  simp only [sS, sN]
  co_applyP cT (i := 1) rfl (fun _ hu_ => run_eq_of ?u8_1) ?v8_1
  case u8_1 => intro K_ hK_;go_simp;(try rw [wI _]);(try rw [wU _]);exact hK_
  simp only [sS, sN]
  co_applyP cT (i := 2) rfl (fun _ hu_ => run_eq_of ?u8_2) ?v8_2
  case u8_2 => intro K_ hK_;go_simp;(try rw [wI _]);(try rw [wU _]);exact hK_
  simp only [sS, sN]
  co_applyP cT (i := 3) rfl (fun _ hu_ => run_eq_of ?u9_3) ?v9_3
  case u9_3 => intro K_ hK_;(have hc := (Ext.twin hu_).cell c0);go_simp;(try rw [wI _]);(try rw [wU _]);exact hK_
  simp only [sS, sN]
  co_applyP cT (i := 4) rfl (fun _ hu_ => run_eq_of ?u10_4) ?v10_4
  case u10_4 => intro K_ hK_;go_simp;(try rw [wI _]);(try rw [wU _]);exact hK_
  simp only [sS, sN]
  co_applyP cT (i := 5) rfl (fun _ hu_ => run_eq_of ?u10_5) ?v10_5
  case u10_5 => intro K_ hK_;go_simp;(try rw [wI _]);(try rw [wU _]);exact hK_
  simp only [sS, sN]
  co_applyP cT (i := 6) rfl (fun _ hu_ => run_eq_of ?u11_6) ?v11_6
  case u11_6 => intro K_ hK_;(have hc := (Ext.twin hu_).cell c1);go_simp;(try rw [wI _]);(try rw [wU _]);exact hK_
  simp only [sS, sN]
  co_applyP cT (i := 7) rfl (fun _ hu_ => run_eq_of ?u12_7) ?v12_7
  case u12_7 => intro K_ hK_;go_simp;(try rw [wI _]);(try rw [wU _]);exact hK_
  simp only [sS, sN]
  co_applyP cT (i := 8) rfl (fun u hu_ => run_loadBlkG (x := .tmp 7) (b := v.heap.size) (off := 0) (y := b) rfl (by simp) (hbx hb1 u hu_)) ?v8
  simp only [sS, sN]
  co_applyP cT (i := 9) rfl (fun _ hu_ => run_eq_of ?u13_9) ?v13_9
  case u13_9 => intro K_ hK_;go_simp;(try rw [wI _]);(try rw [wU _]);exact hK_
  simp only [sS, sN]
  refine cL 10 ?_
  refine reach_storeBlk rfl rfl (by kernel_rfl) (x := .tmp 17) (y := .tmp 16) (g := RB d) (off := p * 96) (b := b) rfl (by simp) (by simp) (hD1.rb d hd) (by omega) fun w2 hW2 => ?_
  simp only [stO_none]
  have hD2 := hD1.wrB hd hW2
  have hK2 : Kp v (DOwn D RB RA nd) w2 := ((Kp.refl v _).ext hE1).wr (.inl (.inr ⟨d, hd, .inl rfl⟩)) hW2
  have hb2 := wr_row hW2 hb1 (by have := (hlt d hd).1; omega)
  obtain ⟨left, hl, hrow⟩ := hD2.row
  have c2 : w2.cell? ⟨D, 2, none⟩ = some (.int .i64 (left : Nat)) := (cell_of_row _ _ _ _ _ _ hrow).trans rfl
  by_cases h0 : 0 < left
  · have h0I : (0 : Int) < (left : Int) := by omega
    have hlI : IntKind.i64.wrap ((left : Int) - 1) = ((left - 1 : Nat) : Int) := by rw [IntKind.wrap_i64]; omega
    have HL := hide hlI
    clear hlI
    repeat (first|refine rA ?_|refine rB ?_|refine rC ?_|refine rD ?_|(refine rR ?_;simp only [tO, Nat.reduceAdd])|refine rE ?_|(refine rO goodFG rfl ?_;intro _ hu_ K_ hK_;(have hc := (Ext.twin hu_).cell c2);go_simp;(try rw [wI _]);(try rw [wU _]);refine hK_ _ ?_;clear hK_ K_ hu_;simp only [sS, sN])|(refine rP rfl ?_;simp only [sS, sN])|(refine rP2 rfl ?_;simp only [sS, sN]))
    (refine reach_cond (t := true) (by simp [Act.eval, h0I, h0]) ?_; simp only [if_true, if_false, reduceIte, Bool.false_eq_true])
    repeat (first|refine rA ?_|refine rB ?_|refine rC ?_|refine rD ?_|(refine rR ?_;simp only [tO, Nat.reduceAdd])|refine rE ?_|(refine rO goodFG rfl ?_;intro _ hu_ K_ hK_;(have hc := (Ext.twin hu_).cell c2);go_simp;(try rw [wI _]);(try rw [wU _]);refine hK_ _ ?_;clear hK_ K_ hu_;simp only [sS, sN])|(refine rP rfl ?_;simp only [sS, sN])|(refine rP2 rfl ?_;simp only [sS, sN]))
    refine reach_store1 goodFG rfl rfl (by kernel_rfl) (x := .tmp 29) (y := .tmp 27) (g := D) (j := 2) (z := .int .i64 ((left - 1 : Nat) : Int)) rfl (by simp) (by simp; omega) rfl rfl hrow (by simp) (by kernel_rfl) fun w3 hW3 => ?_
    simp only [stO_none]
    have hD3 := hD2.wrL (left := left - 1) (by omega) hW3
    have hK3 : Kp v (DOwn D RB RA nd) w3 := hK2.wr (.inl (.inl rfl)) hW3
    have hb3 := wr_row hW3 hb2 (by have := hDlt; omega)
    have c3 := hD3.actc
    have c4 := hD3.allA hd
    obtain ⟨x0, hra⟩ := hD3.ra d hd
    repeat (first|refine rA ?_|refine rB ?_|refine rC ?_|refine rD ?_|(refine rR ?_;simp only [tO, Nat.reduceAdd])|refine rE ?_|(refine rO goodFG rfl ?_;intro _ hu_ K_ hK_;go_simp;(try rw [wI _]);(try rw [wU _]);refine hK_ _ ?_;clear hK_ K_ hu_;simp only [sS, sN])|(refine rP rfl ?_;simp only [sS, sN])|(refine rP2 rfl ?_;simp only [sS, sN]))
    refine reach_drawC goodFG (by first | kernel_rfl | rfl) ?_
    simp only [List.size_toArray, List.length_cons, List.length_nil, Nat.reduceAdd, Nat.zero_add]
    co_applyP cT (i := 0) rfl (fun _ hu_ => run_eq_of ?u15_0) ?v15_0
    case u15_0 => intro K_ hK_;go_simp;(try rw [wI _]);(try rw [wU _]);exact hK_
    simp only [sS, sN]
    co_applyP cT (i := 1) rfl (fun _ hu_ => run_eq_of ?u15_1) ?v15_1
    case u15_1 => intro K_ hK_;go_simp;(try rw [wI _]);(try rw [wU _]);exact hK_
    simp only [sS, sN]
    co_applyP cT (i := 2) rfl (fun _ hu_ => run_eq_of ?u15_2) ?v15_2
    case u15_2 => intro K_ hK_;go_simp;(try rw [wI _]);(try rw [wU _]);exact hK_
    simp only [sS, sN]
    co_applyP cT (i := 3) rfl (fun _ hu_ => run_eq_of ?u16_3) ?v16_3
    case u16_3 => intro K_ hK_;(have hc := (Ext.twin hu_).cell c3);go_simp;(try rw [wI _]);(try rw [wU _]);exact hK_
    simp only [sS, sN]
    co_applyP cT (i := 4) rfl (fun _ hu_ => run_eq_of ?u17_4) ?v17_4
    case u17_4 => intro K_ hK_;go_simp;(try rw [wI _]);(try rw [wU _]);exact hK_
    simp only [sS, sN]
    co_applyP cT (i := 5) rfl (fun _ hu_ => run_eq_of ?u17_5) ?v17_5
    case u17_5 => intro K_ hK_;go_simp;(try rw [wI _]);(try rw [wU _]);exact hK_
    simp only [sS, sN]
    co_applyP cT (i := 6) rfl (fun _ hu_ => run_eq_of ?u18_6) ?v18_6
    case u18_6 => intro K_ hK_;(have hc := (Ext.twin hu_).cell c4);go_simp;(try rw [wI _]);(try rw [wU _]);exact hK_
    simp only [sS, sN]
    co_applyP cT (i := 7) rfl (fun _ hu_ => run_eq_of ?u19_7) ?v19_7
    case u19_7 => intro K_ hK_;go_simp;(try rw [wI _]);(try rw [wU _]);exact hK_
    simp only [sS, sN]
    co_applyP cT (i := 8) rfl (fun u hu_ => run_loadBlkG (x := .tmp 7) (b := v.heap.size) (off := 0) (y := b) rfl (by simp) (hbx hb3 u hu_)) ?w8
    simp only [sS, sN]
    co_applyP cT (i := 9) rfl (fun _ hu_ => run_eq_of ?u20_9) ?v20_9
    case u20_9 => intro K_ hK_;go_simp;(try rw [wI _]);(try rw [wU _]);exact hK_
    simp only [sS, sN]
    refine cL 10 ?_
    refine reach_storeBlk rfl rfl (by kernel_rfl) (x := .tmp 39) (y := .tmp 38) (g := RA d) (off := p * 96) (b := b) rfl (by simp) (by simp) hra (by omega) fun w4 hW4 => ?_
    simp only [stO_none]
    repeat (first|refine rA ?_|refine rB ?_|refine rC ?_|refine rD ?_|(refine rR ?_;simp only [tO, Nat.reduceAdd])|refine rE ?_|(refine rO goodFG rfl ?_;intro _ hu_ K_ hK_;go_simp;(try rw [wI _]);(try rw [wU _]);refine hK_ _ ?_;clear hK_ K_ hu_;simp only [sS, sN])|(refine rP rfl ?_;simp only [sS, sN])|(refine rP2 rfl ?_;simp only [sS, sN]))
    refine reach_end ?_
    refine ret _ _ S w4 (.tuple #[]) ?_ ⟨rfl, rfl, hK3.wr (.inl (.inr ⟨d, hd, .inr rfl⟩)) hW4, hD3.wrA hd hW4⟩
    simp [results, Tryd.results45]
  · have h0I : ¬ (0 : Int) < (left : Int) := by omega
    repeat (first|refine rA ?_|refine rB ?_|refine rC ?_|refine rD ?_|(refine rR ?_;simp only [tO, Nat.reduceAdd])|refine rE ?_|(refine rO goodFG rfl ?_;intro _ hu_ K_ hK_;(have hc := (Ext.twin hu_).cell c2);go_simp;(try rw [wI _]);(try rw [wU _]);refine hK_ _ ?_;clear hK_ K_ hu_;simp only [sS, sN])|(refine rP rfl ?_;simp only [sS, sN])|(refine rP2 rfl ?_;simp only [sS, sN]))
    (refine reach_cond (t := false) (by simp [Act.eval, h0I, h0]) ?_; simp only [if_true, if_false, reduceIte, Bool.false_eq_true])
    repeat (first|refine rA ?_|refine rB ?_|refine rC ?_|refine rD ?_|(refine rR ?_;simp only [tO, Nat.reduceAdd])|refine rE ?_|(refine rO goodFG rfl ?_;intro _ hu_ K_ hK_;go_simp;(try rw [wI _]);(try rw [wU _]);refine hK_ _ ?_;clear hK_ K_ hu_;simp only [sS, sN])|(refine rP rfl ?_;simp only [sS, sN])|(refine rP2 rfl ?_;simp only [sS, sN]))
    refine reach_end ?_
    refine ret _ _ S w2 (.tuple #[]) ?_ ⟨rfl, rfl, hK2, hD2⟩
    simp [results, Tryd.results45]
end
end Go.Proofs.YtpiefebngnlfoaaDoor
