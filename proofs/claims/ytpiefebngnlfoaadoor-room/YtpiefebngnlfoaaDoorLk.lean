/-
  A store of blank disks, on: takenSlots, blank, sweep.
-/
import Derived.Test.YtpiefebngnlfoaaDoorLj
import Derived.Test.YtpiefebngnlfoaaDoorLh
import Derived.Laws.BytesArg
set_option linter.unusedVariables false
set_option linter.unusedSimpArgs false
namespace Go.Proofs.YtpiefebngnlfoaaDoor
open Go.RowKit Go.Conc Go.Vw

set_option maxRecDepth 100000 in
theorem infoBool : ∃ i z, Tryd.prog.info? 4 = some i ∧ i.zero = some z ∧ i.size = 1 ∧ i.bytes = 1 ∧ z.cells = #[z] := ⟨_, _, rfl, rfl, rfl, rfl, rfl⟩
set_option maxRecDepth 100000 in
theorem z92 : Tryd.zeroCells92 = zerosA 96 := by kernel_rfl
/-- Fourteen times no. -/
def no14 : Array Value := #[.bool false, .bool false, .bool false, .bool false, .bool false, .bool false, .bool false, .bool false, .bool false, .bool false, .bool false, .bool false, .bool false, .bool false]
theorem no14_get {j : Nat} (h : j < 14) : no14[j]? = some (.bool false) := by
  match j, h with
  | 0, _ => rfl
  | 1, _ => rfl
  | 2, _ => rfl
  | 3, _ => rfl
  | 4, _ => rfl
  | 5, _ => rfl
  | 6, _ => rfl
  | 7, _ => rfl
  | 8, _ => rfl
  | 9, _ => rfl
  | 10, _ => rfl
  | 11, _ => rfl
  | 12, _ => rfl
  | 13, _ => rfl
theorem set_all2 (y0 y1 : Value) (f : Nat → Value) : (((Array.map f (Array.range 2)).setIfInBounds 0 y0).setIfInBounds 1 y1) = #[y0, y1] := by
  apply Array.ext'
  simp [List.range, List.range.loop]
theorem run_build2 {P : Program} {o : Oper} {a : Act} {x0 x1 : Operand} {t e : TypeId} {i : TypeInfo} {z y0 y1 : Value} (hop : o.op = Op.buildSlice t 2 #[(0, x0), (1, x1)])
    (h1 : P.underlying t = some (.slice e)) (h2 : P.info? e = some i) (h3 : i.zero = some z) (h4 : i.size = 1) (h6 : z.cells = #[z]) (hx0 : a.eval x0 = y0) (hy0 : y0.cells = #[y0]) (hx1 : a.eval x1 = y1) (hy1 : y1.cells = #[y1]) (u : World) :
    (execOp a.eval o).run P u = .ok (.value (.slice (some ⟨u.heap.size, 0, none⟩) 2 2)) (u.alloc (.cells #[y0, y1] e)) := by
  have q : ∀ f : Nat → Value, (((Array.map f (Array.range 2)).setIfInBounds 0 y0).setIfInBounds 1 y1) = #[y0, y1] := set_all2 y0 y1
  simp [execOp, hop, hx0, hy0, hx1, hy1, Instr.buildSlice, run_underlying h1, sizeOf, typeInfo, h2, h4, zeroValue, h3, h6, Instr.fill, newRow]
  rw [q]
section
variable {X D DB M : Nat} {RB : Nat → Nat} {nd nb : Nat} {r l : Value} {w w' v : World} {S : Nat → Prop}
set_option maxRecDepth 100000 in
set_option maxHeartbeats 2000000 in
theorem taken_r (hb4 : 4 ≤ nb) (hn1 : 14 ≤ nd) (hnd : nd ≤ 18) (hnb : nb ≤ 64) (hX : Sto X D DB M RB nd nb r l v) :
    CallsR Tryd.prog 35 #[.pointer (some ⟨X, 0, none⟩)] S v fun x S' v' => ∃ g, x = .slice (some ⟨g, 0, none⟩) nb nb ∧ (∀ j, j < nb → v'.cell? ⟨g, j, none⟩ = some (.bool false)) ∧ S' = S ∧ Ext v v' := by
  refine callsR_body Tryd.func35 rfl Tryd.ntmps35 (by simp) fun Stop cc cs ret => ?_
  have g0 : argF #[.pointer (some ⟨X, 0, none⟩)] 0 = .pointer (some ⟨X, 0, none⟩) := rfl
  generalize argF #[.pointer (some ⟨X, 0, none⟩)] = f at g0
  have c0 := hX.c0
  repeat (first|refine rA ?_|refine rB ?_|refine rC ?_|refine rD ?_|(refine rR ?_;simp only [tO, Nat.reduceAdd])|refine rE ?_|(refine rO goodFF rfl ?_;intro _ hu_ K_ hK_;(have hc := (Ext.twin hu_).cell c0);go_simp;(try rw [wI _]);(try rw [wU _]);refine hK_ _ ?_;clear hK_ K_ hu_;simp only [sS, sN])|(refine rP rfl ?_;simp only [sS, sN])|(refine rP2 rfl ?_;simp only [sS, sN]))
  (refine reach_callR rfl (by first | rfl | simp [Region.wanted, yielded, TA_get, *]) rfl Tryd.func17 (by kernel_rfl) rfl (by simp [Act.eval, *]; try rfl) (blocks_r D DB RB nd nb r l (by omega) hX.dk) ?_)
  rintro _ S1 w1 _ ⟨rfl, e1, e2⟩
  subst S1 w1
  simp only [stO_some]
  repeat (first|refine rA ?_|refine rB ?_|refine rC ?_|refine rD ?_|(refine rR ?_;simp only [tO, Nat.reduceAdd])|refine rE ?_|(refine rO goodFF rfl ?_;intro _ hu_ K_ hK_;go_simp;(try rw [wI _]);(try rw [wU _]);refine hK_ _ ?_;clear hK_ K_ hu_;simp only [sS, sN])|(refine rP rfl ?_;simp only [sS, sN])|(refine rP2 rfl ?_;simp only [sS, sN]))
  refine reach_makeV goodFF rfl rfl (by kernel_rfl) rfl (m := nb) (wd := 1) (z := .bool false) (by simp) (by simp) (by omega) (by omega) (by omega) Tryd.underlying78 (by kernel_rfl) rfl fun w1 hE1 hr1 hs1 => ?_
  simp only [stO_some]
  have hX1 := hX.ext hE1
  have c1 := hX1.c1
  repeat (first|refine rA ?_|refine rB ?_|refine rC ?_|refine rD ?_|(refine rR ?_;simp only [tO, Nat.reduceAdd])|refine rE ?_|(refine rO goodFF rfl ?_;intro _ hu_ K_ hK_;(have hc := (Ext.twin hu_).cell c1);go_simp;(try rw [wI _]);(try rw [wU _]);refine hK_ _ ?_;clear hK_ K_ hu_;simp only [sS, sN])|(refine rP rfl ?_;simp only [sS, sN])|(refine rP2 rfl ?_;simp only [sS, sN]))
  refine reach_range rfl rfl rfl (m := M) (by simp) Tryd.underlying46 hX1.map fun w2 hE2 hi2 => ?_
  simp only [stO_some]
  repeat (first|refine rA ?_|refine rB ?_|refine rC ?_|refine rD ?_|(refine rR ?_;simp only [tO, Nat.reduceAdd])|refine rE ?_|(refine rO goodFF rfl ?_;intro _ hu_ K_ hK_;go_simp;(try rw [wI _]);(try rw [wU _]);refine hK_ _ ?_;clear hK_ K_ hu_;simp only [sS, sN])|(refine rP rfl ?_;simp only [sS, sN])|(refine rP2 rfl ?_;simp only [sS, sN]))
  refine reach_rounds (fun d f' S' w => S' = S ∧ w = w2 ∧ f' 16 = .pointer (some ⟨w1.heap.size, 0, none⟩) ∧ f' 3 = .slice (some ⟨v.heap.size, 0, none⟩) nb nb) 0 ⟨rfl, rfl, by simp, by simp⟩ ?_
  clear g0 f
  rintro d f S' w ⟨eS, eW, g16, g3⟩ nxt
  subst S' w
  repeat (first|refine rA ?_|refine rB ?_|refine rC ?_|refine rD ?_|(refine rR ?_;simp only [tO, Nat.reduceAdd])|refine rE ?_|(refine rO goodFF rfl ?_;intro _ hu_ K_ hK_;go_simp;(try rw [wI _]);(try rw [wU _]);refine hK_ _ ?_;clear hK_ K_ hu_;simp only [sS, sN])|(refine rP rfl ?_;simp only [sS, sN])|(refine rP2 rfl ?_;simp only [sS, sN]))
  refine reach_nextE rfl rfl rfl (r := w1.heap.size) (m := M) (by simp [g16]) hi2 (hE2.row hX1.map) ?_
  simp only [stO_some]
  repeat (first|refine rA ?_|refine rB ?_|refine rC ?_|refine rD ?_|(refine rR ?_;simp only [tO, Nat.reduceAdd])|refine rE ?_|(refine rO goodFF rfl ?_;intro _ hu_ K_ hK_;go_simp;(try rw [wI _]);(try rw [wU _]);refine hK_ _ ?_;clear hK_ K_ hu_;simp only [sS, sN])|(refine rP rfl ?_;simp only [sS, sN])|(refine rP2 rfl ?_;simp only [sS, sN]))
  (refine reach_cond (t := false) (by simp [Act.eval]) ?_; simp only [if_true, if_false, reduceIte, Bool.false_eq_true])
  refine reach_exit rfl ?_
  repeat (first|refine rA ?_|refine rB ?_|refine rC ?_|refine rD ?_|(refine rR ?_;simp only [tO, Nat.reduceAdd])|refine rE ?_|(refine rO goodFF rfl ?_;intro _ hu_ K_ hK_;go_simp;(try rw [wI _]);(try rw [wU _]);refine hK_ _ ?_;clear hK_ K_ hu_;simp only [sS, sN])|(refine rP rfl ?_;simp only [sS, sN])|(refine rP2 rfl ?_;simp only [sS, sN]))
  refine reach_ret fun todo => ?_
  refine ret _ _ S w2 (.slice (some ⟨v.heap.size, 0, none⟩) nb nb) ?_ ⟨_, rfl, fun j hj => ?_, rfl, hE1.trans _ _ _ hE2⟩
  · simp [results, Tryd.results35]
  · rw [cell_of_row _ _ _ _ _ _ (hE2.row hr1)]
    simp [hj]
set_option maxRecDepth 100000 in
set_option maxHeartbeats 4000000 in
theorem blank_r (p : Nat) (hp : p < nb) (hn1 : 14 ≤ nd) (hnd : nd ≤ 18) (hnb : nb ≤ 64) (hX : Sto X D DB M RB nd nb r l v) :
    CallsR Tryd.prog 28 #[.pointer (some ⟨X, 0, none⟩), .int .i64 (p : Nat), .agg no14] S v fun x S' v' => x = .tuple #[] ∧ S' = S ∧ Ext v v' := by
  obtain ⟨ib, zb, ib1, ib2, ib3, ib4, ib5⟩ := infoBool
  refine callsR_body Tryd.func28 rfl Tryd.ntmps28 (by simp) fun Stop cc cs ret => ?_
  have g0 : argF #[.pointer (some ⟨X, 0, none⟩), .int .i64 (p : Nat), .agg no14] 0 = .pointer (some ⟨X, 0, none⟩) := rfl
  have g1 : argF #[.pointer (some ⟨X, 0, none⟩), .int .i64 (p : Nat), .agg no14] 1 = .int .i64 (p : Nat) := rfl
  have g2 : argF #[.pointer (some ⟨X, 0, none⟩), .int .i64 (p : Nat), .agg no14] 2 = .agg no14 := rfl
  generalize argF #[.pointer (some ⟨X, 0, none⟩), .int .i64 (p : Nat), .agg no14] = f at g0 g1 g2
  repeat (first|refine rA ?_|refine rB ?_|refine rC ?_|refine rD ?_|(refine rR ?_;simp only [tO, Nat.reduceAdd])|refine rE ?_|(refine rO goodFF rfl ?_;intro _ hu_ K_ hK_;go_simp;(try rw [wI _]);(try rw [wU _]);refine hK_ _ ?_;clear hK_ K_ hu_;simp only [sS, sN])|(refine rP rfl ?_;simp only [sS, sN])|(refine rP2 rfl ?_;simp only [sS, sN]))
  refine reach_turnQ (Q := fun y w => y = .pointer (some ⟨v.heap.size, 0, none⟩) ∧ Ext v w ∧ w.heap[v.heap.size]? = some (.cells no14 54)) goodFF rfl rfl (by kernel_rfl) (fun u hu => ⟨_, _, .inl (run_box (x := .tmp 2) (y := .agg no14) rfl (by simp [g2]) u), by rw [hu.heap], (Ext.twin hu).trans _ _ _ (Ext.alloc _ _), by rw [← hu.heap]; exact alloc_at _ _⟩) ?_
  rintro _ w1 ⟨rfl, hE1, hb1⟩
  simp only [stO_some]
  repeat (first|refine rA ?_|refine rB ?_|refine rC ?_|refine rD ?_|(refine rR ?_;simp only [tO, Nat.reduceAdd])|refine rE ?_|(refine rO goodFF rfl ?_;intro _ hu_ K_ hK_;go_simp;(try rw [wI _]);(try rw [wU _]);refine hK_ _ ?_;clear hK_ K_ hu_;simp only [sS, sN])|(refine rP rfl ?_;simp only [sS, sN])|(refine rP2 rfl ?_;simp only [sS, sN]))
  refine reach_turnQ (Q := fun y w => y = .slice (some ⟨w1.heap.size, 0, none⟩) 2 2 ∧ Ext w1 w ∧ w.heap[w1.heap.size]? = some (.cells #[.bool false, .bool true] 4)) goodFF rfl rfl (by kernel_rfl) (fun u hu => ⟨_, _, .inl (run_build2 (x0 := .const (.bool false)) (x1 := .const (.bool true)) (y0 := .bool false) (y1 := .bool true) rfl Tryd.underlying78 ib1 ib2 ib3 ib5 rfl rfl rfl rfl u), by rw [hu.heap], (Ext.twin hu).trans _ _ _ (Ext.alloc _ _), by rw [← hu.heap]; exact alloc_at _ _⟩) ?_
  rintro _ w2 ⟨rfl, hE2, hb2⟩
  simp only [stO_some]
  repeat (first|refine rA ?_|refine rB ?_|refine rC ?_|refine rD ?_|(refine rR ?_;simp only [tO, Nat.reduceAdd])|refine rE ?_|(refine rO goodFF rfl ?_;intro _ hu_ K_ hK_;go_simp;(try rw [wI _]);(try rw [wU _]);refine hK_ _ ?_;clear hK_ K_ hu_;simp only [sS, sN])|(refine rP rfl ?_;simp only [sS, sN])|(refine rP2 rfl ?_;simp only [sS, sN]))
  have hE12 := hE1.trans _ _ _ hE2
  refine reach_rounds (fun d f' S' w => ∃ i, d = 2 - i ∧ i ≤ 2 ∧ S' = S ∧ Ext w2 w ∧ f' 0 = .pointer (some ⟨X, 0, none⟩) ∧ f' 1 = .int .i64 (p : Nat) ∧ f' 5 = .pointer (some ⟨v.heap.size, 0, none⟩) ∧ f' 9 = .slice (some ⟨w1.heap.size, 0, none⟩) 2 2 ∧ f' 10 = .int .i64 2 ∧ f' 11 = .int .i64 (i : Nat)) 2 ⟨0, by omega, by omega, rfl, .refl _, by simp [g0], by simp [g1], by simp, by simp, by simp, by simp⟩ ?_
  clear g0 g1 g2 f
  rintro d f S' w ⟨i, rfl, hi, eS, hEw, g0, g1, g5, g9, g10, g11⟩ nxt
  subst S'
  repeat (first|refine rA ?_|refine rB ?_|refine rC ?_|refine rD ?_|(refine rR ?_;simp only [tO, Nat.reduceAdd])|refine rE ?_|(refine rO goodFF rfl ?_;intro _ hu_ K_ hK_;go_simp;(try rw [wI _]);(try rw [wU _]);refine hK_ _ ?_;clear hK_ K_ hu_;simp only [sS, sN])|(refine rP rfl ?_;simp only [sS, sN])|(refine rP2 rfl ?_;simp only [sS, sN]))
  by_cases hlt : i < 2
  · have hiI : (i : Int) < 2 := by omega
    have hci : w.cell? ⟨w1.heap.size, i, none⟩ = some (.bool (decide (i = 1))) := by
      rw [cell_of_row _ _ _ _ _ _ (hEw.row hb2)]
      match i, hlt with
      | 0, _ => rfl
      | 1, _ => rfl
    (refine reach_cond (t := true) (by simp [Act.eval, g11, hiI]) ?_; simp only [if_true, if_false, reduceIte, Bool.false_eq_true])
    repeat (first|refine rA ?_|refine rB ?_|refine rC ?_|refine rD ?_|(refine rR ?_;simp only [tO, Nat.reduceAdd])|refine rE ?_|(refine rO goodFF rfl ?_;intro _ hu_ K_ hK_;(have hc := (Ext.twin hu_).cell hci);go_simp;(try rw [wI _]);(try rw [wU _]);refine hK_ _ ?_;clear hK_ K_ hu_;simp only [sS, sN])|(refine rP rfl ?_;simp only [sS, sN])|(refine rP2 rfl ?_;simp only [sS, sN]))
    generalize decide (i = 1) = last at hci
    refine reach_rounds (fun d f' S' w' => ∃ k, d = 14 - k ∧ k ≤ 14 ∧ S' = S ∧ Ext w w' ∧ f' 0 = .pointer (some ⟨X, 0, none⟩) ∧ f' 1 = .int .i64 (p : Nat) ∧ f' 5 = .pointer (some ⟨v.heap.size, 0, none⟩) ∧ f' 9 = .slice (some ⟨w1.heap.size, 0, none⟩) 2 2 ∧ f' 10 = .int .i64 2 ∧ f' 11 = .int .i64 (i : Nat) ∧ f' 7 = .bool last ∧ f' 15 = .int .i64 (k : Nat)) 14 ⟨0, by omega, by omega, rfl, .refl _, by simp [g0], by simp [g1], by simp [g5], by simp [g9], by simp [g10], by simp [g11], by simp, by simp⟩ ?_
    clear g0 g1 g5 g9 g10 g11 f
    rintro d f S' w' ⟨k, rfl, hk, eS, hEw', g0, g1, g5, g9, g10, g11, g7, g15⟩ nxt2
    subst S'
    have hEv := hE12.trans _ _ _ (hEw.trans _ _ _ hEw')
    repeat (first|refine rA ?_|refine rB ?_|refine rC ?_|refine rD ?_|(refine rR ?_;simp only [tO, Nat.reduceAdd])|refine rE ?_|(refine rO goodFF rfl ?_;intro _ hu_ K_ hK_;go_simp;(try rw [wI _]);(try rw [wU _]);refine hK_ _ ?_;clear hK_ K_ hu_;simp only [sS, sN])|(refine rP rfl ?_;simp only [sS, sN])|(refine rP2 rfl ?_;simp only [sS, sN]))
    by_cases hlk : k < 14
    · have hkI : (k : Int) < 14 := by omega
      have hck : w'.cell? ⟨v.heap.size, k, none⟩ = some (.bool false) := by
        rw [cell_of_row _ _ _ _ _ _ ((hE2.trans _ _ _ (hEw.trans _ _ _ hEw')).row hb1)]
        exact no14_get hlk
      have hXw := hX.ext hEv
      have c0 := hXw.c0
      (refine reach_cond (t := true) (by simp [Act.eval, g15, hkI]) ?_; simp only [if_true, if_false, reduceIte, Bool.false_eq_true])
      cases last with
      | true =>
        repeat (first|refine rA ?_|refine rB ?_|refine rC ?_|refine rD ?_|(refine rR ?_;simp only [tO, Nat.reduceAdd])|refine rE ?_|(refine rO goodFF rfl ?_;intro _ hu_ K_ hK_;(have hc := (Ext.twin hu_).cell hck);go_simp;(try rw [wI _]);(try rw [wU _]);refine hK_ _ ?_;clear hK_ K_ hu_;simp only [sS, sN])|(refine rP rfl ?_;simp only [sS, sN])|(refine rP2 rfl ?_;simp only [sS, sN]))
        (refine reach_cond (t := false) (by simp [Act.eval]) ?_; simp only [if_true, if_false, reduceIte, Bool.false_eq_true])
        repeat (first|refine rA ?_|refine rB ?_|refine rC ?_|refine rD ?_|(refine rR ?_;simp only [tO, Nat.reduceAdd])|refine rE ?_|(refine rO goodFF rfl ?_;intro _ hu_ K_ hK_;go_simp;(try rw [wI _]);(try rw [wU _]);refine hK_ _ ?_;clear hK_ K_ hu_;simp only [sS, sN])|(refine rP rfl ?_;simp only [sS, sN])|(refine rP2 rfl ?_;simp only [sS, sN]))
        refine nxt2 _ _ _ (14 - (k + 1)) (by omega) ⟨k + 1, rfl, by omega, rfl, hEw', by simp [g0], by simp [g1], by simp [g5], by simp [g9], by simp [g10], by simp [g11], by simp [g7], by simp⟩
      | false =>
        repeat (first|refine rA ?_|refine rB ?_|refine rC ?_|refine rD ?_|(refine rR ?_;simp only [tO, Nat.reduceAdd])|refine rE ?_|(refine rO goodFF rfl ?_;intro _ hu_ K_ hK_;(have hc := (Ext.twin hu_).cell hck; have hc' := (Ext.twin hu_).cell c0);go_simp;(try rw [wI _]);(try rw [wU _]);refine hK_ _ ?_;clear hK_ K_ hu_;simp only [sS, sN])|(refine rP rfl ?_;simp only [sS, sN])|(refine rP2 rfl ?_;simp only [sS, sN]))
        rw [z92]
        (refine reach_callR rfl (by first | rfl | simp [Region.wanted, yielded, TA_get, *]) rfl Tryd.func44 (by kernel_rfl) rfl (by simp [Act.eval, *]; try rfl) (holds_r D DB RB nd nb k p r l (by omega) hp hnd hnb hXw.dk) ?_)
        rintro _ S1 w3 _ ⟨rfl, e1, hE3⟩
        subst S1
        simp only [stO_some]
        repeat (first|refine rA ?_|refine rB ?_|refine rC ?_|refine rD ?_|(refine rR ?_;simp only [tO, Nat.reduceAdd])|refine rE ?_|(refine rO goodFF rfl ?_;intro _ hu_ K_ hK_;go_simp;(try rw [wI _]);(try rw [wU _]);refine hK_ _ ?_;clear hK_ K_ hu_;simp only [sS, sN])|(refine rP rfl ?_;simp only [sS, sN])|(refine rP2 rfl ?_;simp only [sS, sN]))
        (refine reach_cond (t := false) (by simp [Act.eval]) ?_; simp only [if_true, if_false, reduceIte, Bool.false_eq_true])
        repeat (first|refine rA ?_|refine rB ?_|refine rC ?_|refine rD ?_|(refine rR ?_;simp only [tO, Nat.reduceAdd])|refine rE ?_|(refine rO goodFF rfl ?_;intro _ hu_ K_ hK_;go_simp;(try rw [wI _]);(try rw [wU _]);refine hK_ _ ?_;clear hK_ K_ hu_;simp only [sS, sN])|(refine rP rfl ?_;simp only [sS, sN])|(refine rP2 rfl ?_;simp only [sS, sN]))
        refine nxt2 _ _ _ (14 - (k + 1)) (by omega) ⟨k + 1, rfl, by omega, rfl, hEw'.trans _ _ _ hE3, by simp [g0], by simp [g1], by simp [g5], by simp [g9], by simp [g10], by simp [g11], by simp [g7], by simp⟩
    · obtain rfl : k = 14 := by omega
      (refine reach_cond (t := false) (by simp [Act.eval, g15]) ?_; simp only [if_true, if_false, reduceIte, Bool.false_eq_true])
      refine reach_exit rfl ?_
      repeat (first|refine rA ?_|refine rB ?_|refine rC ?_|refine rD ?_|(refine rR ?_;simp only [tO, Nat.reduceAdd])|refine rE ?_|(refine rO goodFF rfl ?_;intro _ hu_ K_ hK_;go_simp;(try rw [wI _]);(try rw [wU _]);refine hK_ _ ?_;clear hK_ K_ hu_;simp only [sS, sN])|(refine rP rfl ?_;simp only [sS, sN])|(refine rP2 rfl ?_;simp only [sS, sN]))
      refine nxt _ _ _ (2 - (i + 1)) (by omega) ⟨i + 1, rfl, by omega, rfl, hEw.trans _ _ _ hEw', by simp [g0], by simp [g1], by simp [g5], by simp [g9], by simp [g10], by simp⟩
  · obtain rfl : i = 2 := by omega
    (refine reach_cond (t := false) (by simp [Act.eval, g11]) ?_; simp only [if_true, if_false, reduceIte, Bool.false_eq_true])
    refine reach_exit rfl ?_
    repeat (first|refine rA ?_|refine rB ?_|refine rC ?_|refine rD ?_|(refine rR ?_;simp only [tO, Nat.reduceAdd])|refine rE ?_|(refine rO goodFF rfl ?_;intro _ hu_ K_ hK_;go_simp;(try rw [wI _]);(try rw [wU _]);refine hK_ _ ?_;clear hK_ K_ hu_;simp only [sS, sN])|(refine rP rfl ?_;simp only [sS, sN])|(refine rP2 rfl ?_;simp only [sS, sN]))
    refine reach_end ?_
    refine ret _ _ S w (.tuple #[]) ?_ ⟨rfl, rfl, hE12.trans _ _ _ hEw⟩
    simp [results, Tryd.results28]
set_option maxRecDepth 100000 in
set_option maxHeartbeats 2000000 in
theorem sweep_r (hb4 : 4 ≤ nb) (hn1 : 14 ≤ nd) (hnd : nd ≤ 18) (hnb : nb ≤ 64) (hX : Sto X D DB M RB nd nb r l v) :
    CallsR Tryd.prog 19 #[.pointer (some ⟨X, 0, none⟩)] S v fun x S' v' => x = .tuple #[] ∧ S' = S ∧ Ext v v' := by
  refine callsR_body Tryd.func19 rfl Tryd.ntmps19 (by simp) fun Stop cc cs ret => ?_
  have g0 : argF #[.pointer (some ⟨X, 0, none⟩)] 0 = .pointer (some ⟨X, 0, none⟩) := rfl
  generalize argF #[.pointer (some ⟨X, 0, none⟩)] = f at g0
  repeat (first|refine rA ?_|refine rB ?_|refine rC ?_|refine rD ?_|(refine rR ?_;simp only [tO, Nat.reduceAdd])|refine rE ?_|(refine rO goodFF rfl ?_;intro _ hu_ K_ hK_;go_simp;(try rw [wI _]);(try rw [wU _]);refine hK_ _ ?_;clear hK_ K_ hu_;simp only [sS, sN])|(refine rP rfl ?_;simp only [sS, sN])|(refine rP2 rfl ?_;simp only [sS, sN]))
  (refine reach_callR rfl (by first | rfl | simp [Region.wanted, yielded, TA_get, *]) rfl Tryd.func35 (by kernel_rfl) rfl (by simp [Act.eval, *]; try rfl) (taken_r hb4 hn1 hnd hnb hX) ?_)
  rintro _ S1 w1 _ ⟨g, rfl, hg, e1, hE1⟩
  subst S1
  simp only [stO_some]
  repeat (first|refine rA ?_|refine rB ?_|refine rC ?_|refine rD ?_|(refine rR ?_;simp only [tO, Nat.reduceAdd])|refine rE ?_|(refine rO goodFF rfl ?_;intro _ hu_ K_ hK_;go_simp;(try rw [wI _]);(try rw [wU _]);refine hK_ _ ?_;clear hK_ K_ hu_;simp only [sS, sN])|(refine rP rfl ?_;simp only [sS, sN])|(refine rP2 rfl ?_;simp only [sS, sN]))
  refine reach_rounds (fun d f' S' w => ∃ j, d = nb - j ∧ j ≤ nb ∧ S' = S ∧ Ext w1 w ∧ f' 0 = .pointer (some ⟨X, 0, none⟩) ∧ f' 5 = .slice (some ⟨g, 0, none⟩) nb nb ∧ f' 6 = .int .i64 (nb : Nat) ∧ f' 7 = .int .i64 (j : Nat)) nb ⟨0, by omega, by omega, rfl, .refl _, by simp [g0], by simp, by simp, by simp⟩ ?_
  clear g0 f
  rintro d f S' w ⟨j, rfl, hj, eS, hEw, g0, g5, g6, g7⟩ nxt
  subst S'
  have hEv := hE1.trans _ _ _ hEw
  repeat (first|refine rA ?_|refine rB ?_|refine rC ?_|refine rD ?_|(refine rR ?_;simp only [tO, Nat.reduceAdd])|refine rE ?_|(refine rO goodFF rfl ?_;intro _ hu_ K_ hK_;go_simp;(try rw [wI _]);(try rw [wU _]);refine hK_ _ ?_;clear hK_ K_ hu_;simp only [sS, sN])|(refine rP rfl ?_;simp only [sS, sN])|(refine rP2 rfl ?_;simp only [sS, sN]))
  by_cases hlt : j < nb
  · have hjI : (j : Int) < (nb : Int) := by omega
    have hcj := hEw.cell (hg j hlt)
    (refine reach_cond (t := true) (by simp [Act.eval, g7, g6, hjI, hlt]) ?_; simp only [if_true, if_false, reduceIte, Bool.false_eq_true])
    repeat (first|refine rA ?_|refine rB ?_|refine rC ?_|refine rD ?_|(refine rR ?_;simp only [tO, Nat.reduceAdd])|refine rE ?_|(refine rO goodFF rfl ?_;intro _ hu_ K_ hK_;(have hc := (Ext.twin hu_).cell hcj);go_simp;(try rw [wI _]);(try rw [wU _]);refine hK_ _ ?_;clear hK_ K_ hu_;simp only [sS, sN])|(refine rP rfl ?_;simp only [sS, sN])|(refine rP2 rfl ?_;simp only [sS, sN]))
    (refine reach_cond (t := true) (by simp [Act.eval]) ?_; simp only [if_true, if_false, reduceIte, Bool.false_eq_true])
    repeat (first|refine rA ?_|refine rB ?_|refine rC ?_|refine rD ?_|(refine rR ?_;simp only [tO, Nat.reduceAdd])|refine rE ?_|(refine rO goodFF rfl ?_;intro _ hu_ K_ hK_;go_simp;(try rw [wI _]);(try rw [wU _]);refine hK_ _ ?_;clear hK_ K_ hu_;simp only [sS, sN])|(refine rP rfl ?_;simp only [sS, sN])|(refine rP2 rfl ?_;simp only [sS, sN]))
    (refine reach_callR rfl (by first | rfl | simp [Region.wanted, yielded, TA_get, *]) rfl Tryd.func28 (by kernel_rfl) rfl (by simp [Act.eval, *]; try rfl) (blank_r j hlt hn1 hnd hnb (hX.ext hEv)) ?_)
    rintro _ S1 w2 _ ⟨rfl, e1, hE2⟩
    subst S1
    simp only [stO_some]
    repeat (first|refine rA ?_|refine rB ?_|refine rC ?_|refine rD ?_|(refine rR ?_;simp only [tO, Nat.reduceAdd])|refine rE ?_|(refine rO goodFF rfl ?_;intro _ hu_ K_ hK_;go_simp;(try rw [wI _]);(try rw [wU _]);refine hK_ _ ?_;clear hK_ K_ hu_;simp only [sS, sN])|(refine rP rfl ?_;simp only [sS, sN])|(refine rP2 rfl ?_;simp only [sS, sN]))
    refine nxt _ _ _ (nb - (j + 1)) (by omega) ⟨j + 1, rfl, by omega, rfl, hEw.trans _ _ _ hE2, by simp [g0], by simp [g5], by simp [g6], by simp⟩
  · obtain rfl : j = nb := by omega
    (refine reach_cond (t := false) (by simp [Act.eval, g7, g6]) ?_; simp only [if_true, if_false, reduceIte, Bool.false_eq_true])
    refine reach_exit rfl ?_
    repeat (first|refine rA ?_|refine rB ?_|refine rC ?_|refine rD ?_|(refine rR ?_;simp only [tO, Nat.reduceAdd])|refine rE ?_|(refine rO goodFF rfl ?_;intro _ hu_ K_ hK_;go_simp;(try rw [wI _]);(try rw [wU _]);refine hK_ _ ?_;clear hK_ K_ hu_;simp only [sS, sN])|(refine rP rfl ?_;simp only [sS, sN])|(refine rP2 rfl ?_;simp only [sS, sN]))
    refine reach_end ?_
    refine ret _ _ S w (.tuple #[]) ?_ ⟨rfl, rfl, hEv⟩
    simp [results, Tryd.results19]
end
end Go.Proofs.YtpiefebngnlfoaaDoor

/-
  Disks of noughts: oneLength, allBlocks, New.
-/
set_option linter.unusedVariables false
set_option linter.unusedSimpArgs false
namespace Go.Proofs.YtpiefebngnlfoaaDoor
open Go.RowKit Go.Conc Go.Vw

theorem loop_ne (s : ByteArray) : ∀ (k i : Nat) (r : List UInt8), s.size - i ≤ k → r ≠ [] → ByteArray.toList.loop s i r ≠ [] := by
  intro k
  induction k with
  | zero =>
    intro i r hk hr
    unfold ByteArray.toList.loop
    rw [if_neg (by omega)]
    simpa using hr
  | succ k ih =>
    intro i r hk hr
    unfold ByteArray.toList.loop
    split
    · exact ih _ _ (by omega) (by simp)
    · simpa using hr
theorem toList_ne {s : ByteArray} (h : s.size ≠ 0) : ¬ s.toList = [] := by
  unfold ByteArray.toList ByteArray.toList.loop
  rw [if_pos (by omega)]
  exact loop_ne s s.size _ _ (by omega) (by simp)
/-- A text of noughts. -/
def AllZ (s : ByteArray) (n : Nat) : Prop := s.data.toList = List.replicate n 0
theorem AllZ.size {s : ByteArray} {n : Nat} (h : AllZ s n) : s.size = n := by
  have h1 : s.data.toList.length = n := by rw [h, List.length_replicate]
  rw [Array.length_toList] at h1
  exact h1
theorem AllZ.extract {s : ByteArray} {n : Nat} (h : AllZ s n) (a b : Nat) (hab : a ≤ b) (hb : b ≤ n) : AllZ (s.extract a b) (b - a) := by
  unfold AllZ at *
  rw [ByteArray.data_extract, Array.toList_extract, h]
  rw [List.extract, List.drop_replicate, List.take_replicate, Nat.min_eq_left (by omega)]
theorem AllZ.cells {s : ByteArray} {n : Nat} (h : AllZ s n) : (s.data.map fun b => Value.int .u8 b.toNat) = zerosA n := by
  apply Array.ext'
  rw [Array.toList_map, h]
  apply List.ext_getElem?
  intro i
  simp [zerosA, List.getElem?_replicate]
  by_cases hi : i < n <;> simp [hi]
/-- The first length that is not 0. -/
def fstZ (z : Nat → Nat) : Nat → Nat
  | 0 => 0
  | k + 1 => if fstZ z k ≠ 0 then fstZ z k else z k
theorem fstZ_succ (z : Nat → Nat) (k : Nat) : fstZ z (k + 1) = if fstZ z k ≠ 0 then fstZ z k else z k := rfl
/-- Those that are not 0 are the same. -/
def okZ (z : Nat → Nat) : Nat → Bool
  | 0 => true
  | k + 1 => okZ z k && (decide (z k = 0) || decide (fstZ z k = 0) || decide (z k = fstZ z k))
theorem okZ_false {z : Nat → Nat} {j n : Nat} (hj : j ≤ n) (h : okZ z j = false) : okZ z n = false := by
  induction n with
  | zero =>
    obtain rfl : j = 0 := by omega
    exact h
  | succ n ih =>
    by_cases e : j = n + 1
    · rw [← e]; exact h
    · unfold okZ
      rw [ih (by omega)]
      rfl
/-- Texts of noughts, of these lengths. -/
def TextsV (w : World) (B n : Nat) (z : Nat → Nat) : Prop := ∀ j, j < n → ∃ s, w.cell? ⟨B, j, none⟩ = some (.string s) ∧ AllZ s (z j)
theorem TextsV.ext {w w' : World} {B n : Nat} {z : Nat → Nat} (h : TextsV w B n z) (hE : Ext w w') : TextsV w' B n z := fun j hj => let ⟨s, a, b⟩ := h j hj; ⟨s, hE.cell a, b⟩
theorem size0 {s : ByteArray} {n : Nat} (h : AllZ s n) : (s = ByteArray.mk #[]) ↔ n = 0 := by
  constructor
  · intro e
    have := h.size
    rw [e] at this
    simpa [ByteArray.size] using this.symm
  · intro e
    subst e
    cases s with
    | mk d =>
      have : d.toList = [] := h
      simp at this
      rw [this]
set_option maxRecDepth 100000 in
set_option maxHeartbeats 2000000 in
theorem oneLen_r {S : Nat → Prop} {v : World} (B n c : Nat) (z : Nat → Nat) (hn : n < 2 ^ 62) (hz : ∀ j, z j ≤ 7000) (hT : TextsV v B n z) :
    CallsR Tryd.prog 31 #[.slice (some ⟨B, 0, none⟩) n c] S v fun x S' v' => x = .tuple #[.int .i64 ((if okZ z n = true then fstZ z n else 0 : Nat) : Int), .bool (okZ z n)] ∧ S' = S ∧ v' = v := by
  refine callsR_body Tryd.func31 rfl Tryd.ntmps31 (by simp) fun Stop cc cs ret => ?_
  have g0 : argF #[.slice (some ⟨B, 0, none⟩) n c] 0 = .slice (some ⟨B, 0, none⟩) n c := rfl
  generalize argF #[.slice (some ⟨B, 0, none⟩) n c] = f at g0
  repeat (first|refine rA ?_|refine rB ?_|refine rC ?_|refine rD ?_|(refine rR ?_;simp only [tO, Nat.reduceAdd])|refine rE ?_|(refine rO goodFF rfl ?_;intro _ hu_ K_ hK_;go_simp;(try rw [wI _]);(try rw [wU _]);refine hK_ _ ?_;clear hK_ K_ hu_;simp only [sS, sN])|(refine rP rfl ?_;simp only [sS, sN])|(refine rP2 rfl ?_;simp only [sS, sN]))
  refine reach_rounds (fun d f' S' w => ∃ j, d = n - j ∧ j ≤ n ∧ S' = S ∧ w = v ∧ Hid (okZ z j = true) ∧ f' 7 = .slice (some ⟨B, 0, none⟩) n c ∧ f' 8 = .int .i64 (n : Nat) ∧ f' 9 = .int .i64 (j : Nat) ∧ f' 4 = .int .i64 ((fstZ z j : Nat) : Int)) n ⟨0, by omega, by omega, rfl, rfl, hide rfl, by simp [g0], by simp [g0], by simp, by simp [fstZ]⟩ ?_
  clear g0 f
  rintro d f S' w ⟨j, rfl, hj, eS, eW, HO, g7, g8, g9, g4⟩ nxt
  subst S' w
  repeat (first|refine rA ?_|refine rB ?_|refine rC ?_|refine rD ?_|(refine rR ?_;simp only [tO, Nat.reduceAdd])|refine rE ?_|(refine rO goodFF rfl ?_;intro _ hu_ K_ hK_;go_simp;(try rw [wI _]);(try rw [wU _]);refine hK_ _ ?_;clear hK_ K_ hu_;simp only [sS, sN])|(refine rP rfl ?_;simp only [sS, sN])|(refine rP2 rfl ?_;simp only [sS, sN]))
  by_cases hlt : j < n
  · have hjI : (j : Int) < (n : Int) := by omega
    obtain ⟨s, hs, hA⟩ := hT j hlt
    have hsz := hA.size
    have h0 := size0 hA
    have hzj := hz j
    (refine reach_cond (t := true) (by simp [Act.eval, g9, g8, hjI, hlt]) ?_; simp only [if_true, if_false, reduceIte, Bool.false_eq_true])
    by_cases hz0 : z j = 0
    · have hs0 := h0.2 hz0
      subst hs0
      repeat (first|refine rA ?_|refine rB ?_|refine rC ?_|refine rD ?_|(refine rR ?_;simp only [tO, Nat.reduceAdd])|refine rE ?_|(refine rO goodFF rfl ?_;intro _ hu_ K_ hK_;(have hc := (Ext.twin hu_).cell hs);go_simp;(try rw [wI _]);(try rw [wU _]);refine hK_ _ ?_;clear hK_ K_ hu_;simp only [sS, sN])|(refine rP rfl ?_;simp only [sS, sN])|(refine rP2 rfl ?_;simp only [sS, sN]))
      (refine reach_cond (t := true) (by simp [Act.eval]) ?_; simp only [if_true, if_false, reduceIte, Bool.false_eq_true])
      refine reach_exit rfl ?_
      repeat (first|refine rA ?_|refine rB ?_|refine rC ?_|refine rD ?_|(refine rR ?_;simp only [tO, Nat.reduceAdd])|refine rE ?_|(refine rO goodFF rfl ?_;intro _ hu_ K_ hK_;go_simp;(try rw [wI _]);(try rw [wU _]);refine hK_ _ ?_;clear hK_ K_ hu_;simp only [sS, sN])|(refine rP rfl ?_;simp only [sS, sN])|(refine rP2 rfl ?_;simp only [sS, sN]))
      have n1 : okZ z (j + 1) = true := by
        unfold okZ
        rw [HO.out, hz0]
        rfl
      have n2 : fstZ z (j + 1) = fstZ z j := by
        rw [fstZ_succ]
        split
        · rfl
        · rename_i hf
          rw [hz0]
          omega
      refine nxt _ _ _ (n - (j + 1)) (by omega) ⟨j + 1, rfl, by omega, rfl, rfl, hide n1, by simp [g7], by simp [g8], by simp, by simp [g4, n2]⟩
    · have hs0 : ¬ s.toList = [] := toList_ne (by omega)
      clear h0
      by_cases hf : fstZ z j = 0
      · have n1 : okZ z (j + 1) = true := by
          unfold okZ
          rw [HO.out, hf]
          simp
        have n2 : fstZ z (j + 1) = z j := by
          rw [fstZ_succ, hf]
          simp
        have HN1 := hide n1
        have HN2 := hide n2
        have HZ := hide hz0
        clear n1 n2 hz0
        rw [hf] at g4
        repeat (first|refine rA ?_|refine rB ?_|refine rC ?_|refine rD ?_|(refine rR ?_;simp only [tO, Nat.reduceAdd])|refine rE ?_|(refine rO goodFF rfl ?_;intro _ hu_ K_ hK_;(have hc := (Ext.twin hu_).cell hs);go_simp;(try rw [wI _]);(try rw [wU _]);refine hK_ _ ?_;clear hK_ K_ hu_;simp only [sS, sN])|(refine rP rfl ?_;simp only [sS, sN])|(refine rP2 rfl ?_;simp only [sS, sN]))
        (refine reach_cond (t := false) (by simp [Act.eval, hs0]) ?_; simp only [if_true, if_false, reduceIte, Bool.false_eq_true])
        repeat (first|refine rA ?_|refine rB ?_|refine rC ?_|refine rD ?_|(refine rR ?_;simp only [tO, Nat.reduceAdd])|refine rE ?_|(refine rO goodFF rfl ?_;intro _ hu_ K_ hK_;go_simp;(try rw [wI _]);(try rw [wU _]);refine hK_ _ ?_;clear hK_ K_ hu_;simp only [sS, sN])|(refine rP rfl ?_;simp only [sS, sN])|(refine rP2 rfl ?_;simp only [sS, sN]))
        (refine reach_cond (t := false) (by simp [Act.eval]) ?_; simp only [if_true, if_false, reduceIte, Bool.false_eq_true])
        repeat (first|refine rA ?_|refine rB ?_|refine rC ?_|refine rD ?_|(refine rR ?_;simp only [tO, Nat.reduceAdd])|refine rE ?_|(refine rO goodFF rfl ?_;intro _ hu_ K_ hK_;go_simp;(try rw [wI _]);(try rw [wU _]);refine hK_ _ ?_;clear hK_ K_ hu_;simp only [sS, sN])|(refine rP rfl ?_;simp only [sS, sN])|(refine rP2 rfl ?_;simp only [sS, sN]))
        refine nxt _ _ _ (n - (j + 1)) (by omega) ⟨j + 1, rfl, by omega, rfl, rfl, HN1, by simp [g7], by simp [g8], by simp, by simp [HN2.out, hsz]⟩
      · by_cases he : z j = fstZ z j
        · have n1 : okZ z (j + 1) = true := by
            unfold okZ
            rw [HO.out]
            simp [he]
          have n2 : fstZ z (j + 1) = z j := by
            rw [fstZ_succ, if_pos hf]
            exact he.symm
          have HN1 := hide n1
          have HN2 := hide n2
          have HZ := hide hz0
          clear n1 n2 hz0
          have hfI : ¬ ((fstZ z j : Nat) : Int) = 0 := by omega
          have heI : ((s.size : Nat) : Int) = ((fstZ z j : Nat) : Int) := by omega
          have heN : s.size = fstZ z j := by omega
          have heZ : ((fstZ z j : Nat) : Int) = ((z j : Nat) : Int) := by omega
          repeat (first|refine rA ?_|refine rB ?_|refine rC ?_|refine rD ?_|(refine rR ?_;simp only [tO, Nat.reduceAdd])|refine rE ?_|(refine rO goodFF rfl ?_;intro _ hu_ K_ hK_;(have hc := (Ext.twin hu_).cell hs);go_simp;(try rw [wI _]);(try rw [wU _]);refine hK_ _ ?_;clear hK_ K_ hu_;simp only [sS, sN])|(refine rP rfl ?_;simp only [sS, sN])|(refine rP2 rfl ?_;simp only [sS, sN]))
          (refine reach_cond (t := false) (by simp [Act.eval, hs0]) ?_; simp only [if_true, if_false, reduceIte, Bool.false_eq_true])
          repeat (first|refine rA ?_|refine rB ?_|refine rC ?_|refine rD ?_|(refine rR ?_;simp only [tO, Nat.reduceAdd])|refine rE ?_|(refine rO goodFF rfl ?_;intro _ hu_ K_ hK_;go_simp;(try rw [wI _]);(try rw [wU _]);refine hK_ _ ?_;clear hK_ K_ hu_;simp only [sS, sN])|(refine rP rfl ?_;simp only [sS, sN])|(refine rP2 rfl ?_;simp only [sS, sN]))
          (refine reach_cond (t := false) (by simp [Act.eval, hfI, hf, heI, heN]) ?_; simp only [if_true, if_false, reduceIte, Bool.false_eq_true])
          repeat (first|refine rA ?_|refine rB ?_|refine rC ?_|refine rD ?_|(refine rR ?_;simp only [tO, Nat.reduceAdd])|refine rE ?_|(refine rO goodFF rfl ?_;intro _ hu_ K_ hK_;go_simp;(try rw [wI _]);(try rw [wU _]);refine hK_ _ ?_;clear hK_ K_ hu_;simp only [sS, sN])|(refine rP rfl ?_;simp only [sS, sN])|(refine rP2 rfl ?_;simp only [sS, sN]))
          refine nxt _ _ _ (n - (j + 1)) (by omega) ⟨j + 1, rfl, by omega, rfl, rfl, HN1, by simp [g7], by simp [g8], by simp, by simp [HN2.out, hsz, heZ]⟩
        · have n1 : okZ z (j + 1) = false := by
            unfold okZ
            rw [HO.out]
            simp [he, hf, hz0]
          have nn : okZ z n = false := okZ_false (by omega) n1
          have HN := hide nn
          have HZ := hide hz0
          clear n1 nn hz0
          have hfI : ¬ ((fstZ z j : Nat) : Int) = 0 := by omega
          have heI : ¬ ((s.size : Nat) : Int) = ((fstZ z j : Nat) : Int) := by omega
          have heN : ¬ s.size = fstZ z j := by omega
          have heZ : ¬ ((z j : Nat) : Int) = ((fstZ z j : Nat) : Int) := by omega
          repeat (first|refine rA ?_|refine rB ?_|refine rC ?_|refine rD ?_|(refine rR ?_;simp only [tO, Nat.reduceAdd])|refine rE ?_|(refine rO goodFF rfl ?_;intro _ hu_ K_ hK_;(have hc := (Ext.twin hu_).cell hs);go_simp;(try rw [wI _]);(try rw [wU _]);refine hK_ _ ?_;clear hK_ K_ hu_;simp only [sS, sN])|(refine rP rfl ?_;simp only [sS, sN])|(refine rP2 rfl ?_;simp only [sS, sN]))
          (refine reach_cond (t := false) (by simp [Act.eval, hs0]) ?_; simp only [if_true, if_false, reduceIte, Bool.false_eq_true])
          repeat (first|refine rA ?_|refine rB ?_|refine rC ?_|refine rD ?_|(refine rR ?_;simp only [tO, Nat.reduceAdd])|refine rE ?_|(refine rO goodFF rfl ?_;intro _ hu_ K_ hK_;go_simp;(try rw [wI _]);(try rw [wU _]);refine hK_ _ ?_;clear hK_ K_ hu_;simp only [sS, sN])|(refine rP rfl ?_;simp only [sS, sN])|(refine rP2 rfl ?_;simp only [sS, sN]))
          (refine reach_cond (t := true) (by simp [Act.eval, hfI, hf, heI, heN, heZ]) ?_; simp only [if_true, if_false, reduceIte, Bool.false_eq_true])
          repeat (first|refine rA ?_|refine rB ?_|refine rC ?_|refine rD ?_|(refine rR ?_;simp only [tO, Nat.reduceAdd])|refine rE ?_|(refine rO goodFF rfl ?_;intro _ hu_ K_ hK_;go_simp;(try rw [wI _]);(try rw [wU _]);refine hK_ _ ?_;clear hK_ K_ hu_;simp only [sS, sN])|(refine rP rfl ?_;simp only [sS, sN])|(refine rP2 rfl ?_;simp only [sS, sN]))
          refine reach_ret fun todo => ?_
          refine ret _ _ S v (.tuple #[.int .i64 0, .bool false]) ?_ ⟨by rw [HN.out]; rfl, rfl, rfl⟩
          simp [results, Tryd.results31]
  · obtain rfl : j = n := by omega
    have hok := HO.out
    (refine reach_cond (t := false) (by simp [Act.eval, g9, g8]) ?_; simp only [if_true, if_false, reduceIte, Bool.false_eq_true])
    refine reach_exit rfl ?_
    repeat (first|refine rA ?_|refine rB ?_|refine rC ?_|refine rD ?_|(refine rR ?_;simp only [tO, Nat.reduceAdd])|refine rE ?_|(refine rO goodFF rfl ?_;intro _ hu_ K_ hK_;go_simp;(try rw [wI _]);(try rw [wU _]);refine hK_ _ ?_;clear hK_ K_ hu_;simp only [sS, sN])|(refine rP rfl ?_;simp only [sS, sN])|(refine rP2 rfl ?_;simp only [sS, sN]))
    refine reach_ret fun todo => ?_
    refine ret _ _ _ _ (.tuple #[.int .i64 ((fstZ z j : Nat) : Int), .bool true]) ?_ ⟨by rw [hok]; rfl, rfl, rfl⟩
    simp [results, Tryd.results31]
end Go.Proofs.YtpiefebngnlfoaaDoor

/-
  Disks of noughts, on: allBlocks.
-/
set_option linter.unusedVariables false
set_option linter.unusedSimpArgs false
namespace Go.Proofs.YtpiefebngnlfoaaDoor
open Go.RowKit Go.Conc Go.Vw

theorem zerosA_list (n : Nat) : (zerosA n).toList = List.replicate n (.int .u8 0) := by
  apply List.ext_getElem?
  intro i
  simp [zerosA, List.getElem?_replicate]
  by_cases hi : i < n <;> simp [hi]
theorem zrep (n : Nat) : (Array.range n).map (fun i => (zerosA 96)[i % (zerosA 96).size]!) = zerosA n := by
  unfold zerosA
  apply Array.map_congr_left
  intro i _
  have h : i % ((Array.range 96).map fun _ => Value.int .u8 0).size < 96 := by
    have : ((Array.range 96).map fun _ => Value.int .u8 0).size = 96 := by simp
    rw [this]
    exact Nat.mod_lt _ (by omega)
  rw [getElem!_pos _ _ (by simpa using h)]
  simp
set_option maxRecDepth 100000 in
theorem infoBlk : ∃ i, Tryd.prog.info? 92 = some i ∧ i.zero = some (.agg (zerosA 96)) ∧ i.size = 96 ∧ i.bytes = 96 := by
  rw [← z92]
  exact ⟨_, rfl, rfl, rfl, rfl⟩
theorem run_makeBlk (m : Nat) (hm : m ≤ 64) (hm0 : m ≠ 0) (u : World) : (Instr.makeSlice 74 (.int .i64 (m : Nat)) (.int .i64 (m : Nat))).run Tryd.prog u = .ok (.slice (some ⟨u.heap.size, 0, none⟩) m m) (u.alloc (.cells (zerosA (m * 96)) 92)) := by
  obtain ⟨inf, hq, h3, h1, h2⟩ := infoBlk
  have wl : IntKind.i64.wrap (m : Int) = (m : Int) := by rw [IntKind.wrap_i64]; omega
  have n1 : ¬ ((m : Int) < 0) := by omega
  have n2 : ¬ ((281474976710656 : Int) < 96 * (m : Int)) := by omega
  have n3 : ¬ (m * 96 > roomBytes) := by simp only [roomBytes]; omega
  have hz := zrep (m * 96)
  simp [Instr.makeSlice, run_underlying Tryd.underlying74, asInt, asIntOf, typeInfo, hq, h1, h2, h3, sizeOf, askRoom, newRow, zeroValue, wl, n1, n2, n3, hm0, Value.cells, hz]
  intro h0
  exact absurd h0 (by omega)
theorem run_mkBlk {o : Oper} {a : Act} {l c : Operand} (m : Nat) (hm : m ≤ 64) (hm0 : m ≠ 0) (hop : o.op = .makeSlice 74 l c) (hl : a.eval l = .int .i64 (m : Nat)) (hc : a.eval c = .int .i64 (m : Nat)) (u : World) : (execOp a.eval o).run Tryd.prog u = .ok (.value (.slice (some ⟨u.heap.size, 0, none⟩) m m)) (u.alloc (.cells (zerosA (m * 96)) 92)) := by
  unfold execOp
  simp only [hop, hl, hc, Sem.run_bind, run_makeBlk m hm hm0 u, Result.andThen_ok, Sem.run_pure]
theorem splice_zeros (N o k : Nat) (h : o + k ≤ N) : ((zerosA N).toList.take o ++ List.replicate k (Value.int .u8 0) ++ (zerosA N).toList.drop (o + k)).toArray = zerosA N := by
  apply Array.ext'
  rw [zerosA_list, List.take_replicate, List.drop_replicate, List.replicate_append_replicate, List.replicate_append_replicate, Nat.min_eq_left (by omega), show o + k + (N - (o + k)) = N by omega]
/-- Noughts are copied onto noughts. -/
theorem run_copyZ {o : Oper} {a : Act} {d s : Operand} {g off cp N m : Nat} {x : ByteArray} {u : World} (hop : o.op = Op.call { callee := Callee.builtin Builtin.copy, args := #[d, s], argTypes := #[25, 9] }) (hd : a.eval d = .slice (some ⟨g, off, none⟩) 96 cp) (hs : a.eval s = .string x) (hx : AllZ x m) (hg : u.heap[g]? = some (.cells (zerosA N) 92)) (hN : off + 96 ≤ N) :
    (execOp a.eval o).run Tryd.prog u = .ok (.value (goInt ((min m 96 : Nat) : Int))) u := by
  obtain ⟨ib, zb, ib1, ib2, ib3, ib4, ib5⟩ := infoB
  have hsz := hx.size
  have hk : min m 96 ≤ m := Nat.min_le_left _ _
  have hc := (hx.extract 0 (min m 96) (by omega) hk).cells
  rw [Nat.sub_zero] at hc
  have hst := run_storeCells_at (P := Tryd.prog) g off 92 (zerosA (min m 96)).toList 0 (zerosA N) u hg (by rw [zerosA_list, List.length_replicate, zerosA_size]; omega) (by
    rw [zerosA_list]
    intro v hv
    rw [List.eq_of_mem_replicate hv]
    rfl)
  rw [zerosA_list (min m 96), List.length_replicate, Nat.add_zero, splice_zeros N off (min m 96) (by omega), setRow_self u g (zerosA N) 92 (0, 0) hg] at hst
  have hrun : (Builtin.copy_ #[25, 9] o.type #[.slice (some ⟨g, off, none⟩) 96 cp, .string x]).run Tryd.prog u = .ok (goInt ((min m 96 : Nat) : Int)) u := by
    have hx' : x.data.toList = List.replicate m 0 := hx
    have hmn : Nat.min m 96 = min m 96 := rfl
    simp [Builtin.copy_, run_underlying Tryd.underlying25, Builtin.lenOf, hsz, sizeOf, typeInfo, ib1, ib3, Builtin.firstCells, hx', hmn, List.take_replicate]
    rw [hst]
    rfl
  unfold execOp
  simp [hop, hd, hs, resolve, invoke, builtin, hrun]
/-- Some disks so far. -/
def drowsA (n j nb : Nat) (RB : Nat → Nat) : Array Value := (Array.range n).map fun i => if i < j then .slice (some ⟨RB i, 0, none⟩) nb nb else .slice none 0 0
theorem rowsA_size (n j nb : Nat) (RB : Nat → Nat) : (drowsA n j nb RB).size = n := by simp [drowsA]
theorem rowsA_get {n j nb i : Nat} {RB : Nat → Nat} (hi : i < n) : (drowsA n j nb RB)[i]? = some (if i < j then .slice (some ⟨RB i, 0, none⟩) nb nb else .slice none 0 0) := by simp [drowsA, hi]
theorem rowsA_set {n j nb g : Nat} {RB : Nat → Nat} (hj : j < n) : (drowsA n j nb RB).setIfInBounds j (.slice (some ⟨g, 0, none⟩) nb nb) = drowsA n (j + 1) nb fun i => if i = j then g else RB i := by
  apply Array.ext_getElem?
  intro i
  rw [Array.getElem?_setIfInBounds]
  by_cases e : j = i
  · subst e
    simp [drowsA, hj]
  · rw [if_neg e]
    by_cases hi : i < n
    · rw [rowsA_get hi, rowsA_get hi]
      have : ¬ i = j := fun h => e h.symm
      simp only [this, if_false]
      by_cases h1 : i < j
      · rw [if_pos h1, if_pos (by omega)]
      · rw [if_neg h1, if_neg (by omega)]
    · simp [drowsA, hi]
/-- All disks. -/
structure AllB (v : World) (DB n j nb : Nat) (RB : Nat → Nat) (w : World) : Prop where
  ext : Ext v w
  new : v.heap.size ≤ DB
  row : w.heap[DB]? = some (.cells (drowsA n j nb RB) 74)
  blk : ∀ i, i < j → DB < RB i ∧ w.heap[RB i]? = some (.cells (zerosA (nb * 96)) 92)
  inj : ∀ i i', i < j → i' < j → RB i = RB i' → i = i'
theorem AllB.more {v w w' : World} {DB n j nb : Nat} {RB : Nat → Nat} (h : AllB v DB n j nb RB w) (hE : Ext w w') : AllB v DB n j nb RB w' :=
  ⟨h.ext.trans _ _ _ hE, h.new, hE.row h.row, fun i hi => ⟨(h.blk i hi).1, hE.row (h.blk i hi).2⟩, h.inj⟩
theorem AllB.step {v w w1 w2 : World} {DB n j nb : Nat} {RB : Nat → Nat} (h : AllB v DB n j nb RB w) (hj : j < n) (hE : Ext w w1) (hg : w1.heap[w.heap.size]? = some (.cells (zerosA (nb * 96)) 92)) (hW : Wr w1 DB (.cells ((drowsA n j nb RB).setIfInBounds j (.slice (some ⟨w.heap.size, 0, none⟩) nb nb)) 74) w2) :
    AllB v DB n (j + 1) nb (fun i => if i = j then w.heap.size else RB i) w2 := by
  have hlt : DB < w.heap.size := (Array.getElem?_eq_some_iff.1 h.row).1
  rw [rowsA_set hj] at hW
  have hlt' : ∀ i, i < j → RB i < w.heap.size := fun i hi => (Array.getElem?_eq_some_iff.1 (h.blk i hi).2).1
  refine ⟨wr_ext (h.ext.trans _ _ _ hE) h.new hW, h.new, hW.at_, fun i hi => ?_, fun i i' hi hi' e => ?_⟩
  rotate_left
  · by_cases e1 : i = j
    · by_cases e2 : i' = j
      · rw [e1, e2]
      · simp only [e1, e2, if_true, if_false] at e
        have := hlt' i' (by omega)
        omega
    · by_cases e2 : i' = j
      · simp only [e1, e2, if_true, if_false] at e
        have := hlt' i (by omega)
        omega
      · simp only [e1, e2, if_false] at e
        exact h.inj i i' (by omega) (by omega) e
  by_cases e : i = j
  · subst e
    simp only [if_true]
    exact ⟨hlt, (hW.other _ (by omega)).trans hg⟩
  · simp only [e, if_false]
    obtain ⟨h1, h2⟩ := h.blk i (by omega)
    exact ⟨h1, (hW.other _ (by omega)).trans (hE.row h2)⟩
set_option maxRecDepth 100000 in
set_option maxHeartbeats 4000000 in
theorem allBlocks_r {S : Nat → Prop} {v : World} (B n c nb : Nat) (z : Nat → Nat) (hn : n ≤ 18) (hn0 : n ≠ 0) (hz : ∀ j, z j ≤ 7000) (hnb : nb ≤ 64) (hb4 : 4 ≤ nb) (hT : TextsV v B n z) :
    CallsR Tryd.prog 32 #[.slice (some ⟨B, 0, none⟩) n c, .int .i64 (nb : Nat)] S v fun x S' v' => S' = S ∧ ∃ DB RB, x = .slice (some ⟨DB, 0, none⟩) n n ∧ AllB v DB n n nb RB v' := by
  refine callsR_body Tryd.func32 rfl Tryd.ntmps32 (by simp) fun Stop cc cs ret => ?_
  have g0 : argF #[.slice (some ⟨B, 0, none⟩) n c, .int .i64 (nb : Nat)] 0 = .slice (some ⟨B, 0, none⟩) n c := rfl
  have g1 : argF #[.slice (some ⟨B, 0, none⟩) n c, .int .i64 (nb : Nat)] 1 = .int .i64 (nb : Nat) := rfl
  generalize argF #[.slice (some ⟨B, 0, none⟩) n c, .int .i64 (nb : Nat)] = f at g0 g1
  repeat (first|refine rA ?_|refine rB ?_|refine rC ?_|refine rD ?_|(refine rR ?_;simp only [tO, Nat.reduceAdd])|refine rE ?_|(refine rO goodFF rfl ?_;intro _ hu_ K_ hK_;go_simp;(try rw [wI _]);(try rw [wU _]);refine hK_ _ ?_;clear hK_ K_ hu_;simp only [sS, sN])|(refine rP rfl ?_;simp only [sS, sN])|(refine rP2 rfl ?_;simp only [sS, sN]))
  refine reach_makeV goodFF rfl rfl (by kernel_rfl) rfl (m := n) (wd := 24) (z := .slice none 0 0) (by simp [g0]) (by simp [g0]) (by omega) (by omega) hn0 Tryd.underlying70 (by kernel_rfl) rfl fun w1 hE1 hr1 hs1 => ?_
  simp only [stO_some]
  have hA0 : AllB v v.heap.size n 0 nb (fun _ => 0) w1 := ⟨hE1, Nat.le_refl _, by rw [hr1]; congr 2, fun i hi => by omega, fun i i' hi => by omega⟩
  repeat (first|refine rA ?_|refine rB ?_|refine rC ?_|refine rD ?_|(refine rR ?_;simp only [tO, Nat.reduceAdd])|refine rE ?_|(refine rO goodFF rfl ?_;intro _ hu_ K_ hK_;go_simp;(try rw [wI _]);(try rw [wU _]);refine hK_ _ ?_;clear hK_ K_ hu_;simp only [sS, sN])|(refine rP rfl ?_;simp only [sS, sN])|(refine rP2 rfl ?_;simp only [sS, sN]))
  refine reach_rounds (fun d f' S' w => ∃ j RB, d = n - j ∧ j ≤ n ∧ S' = S ∧ AllB v v.heap.size n j nb RB w ∧ f' 1 = .int .i64 (nb : Nat) ∧ f' 5 = .slice (some ⟨v.heap.size, 0, none⟩) n n ∧ f' 13 = .slice (some ⟨B, 0, none⟩) n c ∧ f' 14 = .int .i64 (n : Nat) ∧ f' 15 = .int .i64 (j : Nat)) n ⟨0, _, by omega, by omega, rfl, hA0, by simp [g1], by simp, by simp [g0], by simp [g0], by simp⟩ ?_
  clear g0 g1 f hA0
  rintro d f S' w ⟨j, RB, rfl, hj, eS, hA, g1, g5, g13, g14, g15⟩ nxt
  subst S'
  repeat (first|refine rA ?_|refine rB ?_|refine rC ?_|refine rD ?_|(refine rR ?_;simp only [tO, Nat.reduceAdd])|refine rE ?_|(refine rO goodFF rfl ?_;intro _ hu_ K_ hK_;go_simp;(try rw [wI _]);(try rw [wU _]);refine hK_ _ ?_;clear hK_ K_ hu_;simp only [sS, sN])|(refine rP rfl ?_;simp only [sS, sN])|(refine rP2 rfl ?_;simp only [sS, sN]))
  by_cases hlt : j < n
  · have hjI : (j : Int) < (n : Int) := by omega
    obtain ⟨s, hs, hZ⟩ := hT.ext hA.ext j hlt
    (refine reach_cond (t := true) (by simp [Act.eval, g15, g14, hjI, hlt]) ?_; simp only [if_true, if_false, reduceIte, Bool.false_eq_true])
    repeat (first|refine rA ?_|refine rB ?_|refine rC ?_|refine rD ?_|(refine rR ?_;simp only [tO, Nat.reduceAdd])|refine rE ?_|(refine rO goodFF rfl ?_;intro _ hu_ K_ hK_;(have hc := (Ext.twin hu_).cell hs);go_simp;(try rw [wI _]);(try rw [wU _]);refine hK_ _ ?_;clear hK_ K_ hu_;simp only [sS, sN])|(refine rP rfl ?_;simp only [sS, sN])|(refine rP2 rfl ?_;simp only [sS, sN]))
    refine reach_turnQ (Q := fun y w1 => y = .slice (some ⟨w.heap.size, 0, none⟩) nb nb ∧ Ext w w1 ∧ w1.heap[w.heap.size]? = some (.cells (zerosA (nb * 96)) 92)) goodFF rfl rfl (by kernel_rfl) (fun u hu => ⟨_, _, .inl (run_mkBlk (l := .tmp 22) (c := .tmp 22) nb hnb (by omega) rfl (by simp) (by simp) u), by rw [hu.heap], (Ext.twin hu).trans _ _ _ (Ext.alloc _ _), by rw [← hu.heap]; exact alloc_at _ _⟩) ?_
    rintro _ w2 ⟨rfl, hE2, hg2⟩
    simp only [stO_some]
    repeat (first|refine rA ?_|refine rB ?_|refine rC ?_|refine rD ?_|(refine rR ?_;simp only [tO, Nat.reduceAdd])|refine rE ?_|(refine rO goodFF rfl ?_;intro _ hu_ K_ hK_;go_simp;(try rw [wI _]);(try rw [wU _]);refine hK_ _ ?_;clear hK_ K_ hu_;simp only [sS, sN])|(refine rP rfl ?_;simp only [sS, sN])|(refine rP2 rfl ?_;simp only [sS, sN]))
    refine reach_store1 goodFF rfl rfl (by kernel_rfl) (x := .tmp 24) (y := .tmp 23) (g := v.heap.size) (j := j) (z := .slice (some ⟨w.heap.size, 0, none⟩) nb nb) rfl (by simp) (by simp) rfl rfl (hE2.row hA.row) (by rw [rowsA_size]; omega) (by kernel_rfl) fun w3 hW => ?_
    simp only [stO_none]
    have hA3 := hA.step hlt hE2 hg2 hW
    have hcj : w3.cell? ⟨v.heap.size, j, none⟩ = some (.slice (some ⟨w.heap.size, 0, none⟩) nb nb) := by
      rw [cell_of_row _ _ _ _ _ _ hA3.row, rowsA_get hlt]
      simp
    have hg3 : w3.heap[w.heap.size]? = some (.cells (zerosA (nb * 96)) 92) := by
      have := (hA3.blk j (by omega)).2
      simpa using this
    clear hW hg2
    repeat (first|refine rA ?_|refine rB ?_|refine rC ?_|refine rD ?_|(refine rR ?_;simp only [tO, Nat.reduceAdd])|refine rE ?_|(refine rO goodFF rfl ?_;intro _ hu_ K_ hK_;(have hc := (Ext.twin hu_).cell hcj);go_simp;(try rw [wI _]);(try rw [wU _]);refine hK_ _ ?_;clear hK_ K_ hu_;simp only [sS, sN])|(refine rP rfl ?_;simp only [sS, sN])|(refine rP2 rfl ?_;simp only [sS, sN]))
    refine reach_rounds (fun d f' S' w' => ∃ p, d = nb - p ∧ p ≤ nb ∧ S' = S ∧ w' = w3 ∧ f' 1 = .int .i64 (nb : Nat) ∧ f' 5 = .slice (some ⟨v.heap.size, 0, none⟩) n n ∧ f' 13 = .slice (some ⟨B, 0, none⟩) n c ∧ f' 14 = .int .i64 (n : Nat) ∧ f' 15 = .int .i64 (j : Nat) ∧ f' 6 = .int .i64 (j : Nat) ∧ f' 7 = .string s ∧ f' 29 = .int .i64 (nb : Nat) ∧ f' 30 = .int .i64 (p : Nat)) nb ⟨0, by omega, by omega, rfl, rfl, by simp [g1], by simp [g5], by simp [g13], by simp [g14], by simp [g15], by simp, by simp, by simp, by simp⟩ ?_
    clear g1 g5 g13 g14 g15 f
    rintro d f S' w' ⟨p, rfl, hp, eS, eW, g1, g5, g13, g14, g15, g6, g7, g29, g30⟩ nxt2
    subst S' w'
    repeat (first|refine rA ?_|refine rB ?_|refine rC ?_|refine rD ?_|(refine rR ?_;simp only [tO, Nat.reduceAdd])|refine rE ?_|(refine rO goodFF rfl ?_;intro _ hu_ K_ hK_;go_simp;(try rw [wI _]);(try rw [wU _]);refine hK_ _ ?_;clear hK_ K_ hu_;simp only [sS, sN])|(refine rP rfl ?_;simp only [sS, sN])|(refine rP2 rfl ?_;simp only [sS, sN]))
    by_cases hlp : p < nb
    · have hpI : (p : Int) < (nb : Int) := by omega
      have hsz := hZ.size
      have hzj := hz j
      have hmI : ((min (p * 96) (z j) : Nat) : Int) ≤ ((z j : Nat) : Int) := by omega
      (refine reach_cond (t := true) (by simp [Act.eval, g30, g29, hpI, hlp]) ?_; simp only [if_true, if_false, reduceIte, Bool.false_eq_true])
      repeat (first|refine rA ?_|refine rB ?_|refine rC ?_|refine rD ?_|(refine rR ?_;simp only [tO, Nat.reduceAdd])|refine rE ?_|(refine rO goodFF rfl ?_;intro _ hu_ K_ hK_;go_simp;(try rw [wI _]);(try rw [wU _]);refine hK_ _ ?_;clear hK_ K_ hu_;simp only [sS, sN])|(refine rP rfl ?_;simp only [sS, sN])|(refine rP2 rfl ?_;simp only [sS, sN]))
      have hmin : (if ((z j : Nat) : Int) < (p : Int) * 96 then ((z j : Nat) : Int) else (p : Int) * 96) = ((min (p * 96) (z j) : Nat) : Int) := by
        split <;> omega
      rw [hmin]
      have hq1 : min (p * 96) (z j) ≤ z j := Nat.min_le_right _ _
      generalize min (p * 96) (z j) = q at hmI hq1 ⊢
      clear hmin
      refine reach_draw goodFF (by first | kernel_rfl | rfl) ?_
      simp only [List.size_toArray, List.length_cons, List.length_nil, Nat.reduceAdd, Nat.zero_add]
      co_applyP rT (i := 0) rfl (fun _ hu_ => run_eq_of ?u1_0) ?v1_0
      case u1_0 => intro K_ hK_;go_simp;(try rw [wI _]);(try rw [wU _]);exact hK_
      simp only [sS, sN]
      co_applyP rT (i := 1) rfl (fun _ hu_ => run_eq_of ?u1_1) ?v1_1
      case u1_1 => intro K_ hK_;go_simp;(try rw [wI _]);(try rw [wU _]);exact hK_
      simp only [sS, sN]
      co_applyP rT (i := 2) rfl (fun _ hu_ => run_eq_of ?u1_2) ?v1_2
      case u1_2 => intro K_ hK_;go_simp;(try rw [wI _]);(try rw [wU _]);exact hK_
      simp only [sS, sN]
      co_applyP rT (i := 3) rfl (fun _ hu_ => run_eq_of ?u2) ?v2
      case u2 => intro K_ hK_;(have hc := (Ext.twin hu_).cell hcj);go_simp;(try rw [wI _]);(try rw [wU _]);exact hK_
      simp only [sS, sN]
      co_applyP rT (i := 4) rfl (fun _ hu_ => run_eq_of ?u3_4) ?v3_4
      case u3_4 => intro K_ hK_;go_simp;(try rw [wI _]);(try rw [wU _]);exact hK_
      simp only [sS, sN]
      co_applyP rT (i := 5) rfl (fun _ hu_ => run_eq_of ?u3_5) ?v3_5
      case u3_5 => intro K_ hK_;go_simp;(try rw [wI _]);(try rw [wU _]);exact hK_
      simp only [sS, sN]
      co_applyP rT (i := 6) rfl (fun _ hu_ => run_eq_of ?u3_6) ?v3_6
      case u3_6 => intro K_ hK_;go_simp;(try rw [wI _]);(try rw [wU _]);exact hK_
      simp only [sS, sN]
      co_applyP rT (i := 7) rfl (fun _ hu_ => run_eq_of ?u3_7) ?v3_7
      case u3_7 => intro K_ hK_;go_simp;(try rw [wI _]);(try rw [wU _]);exact hK_
      simp only [sS, sN]
      co_applyP rT (i := 8) rfl (fun _ hu_ => run_eq_of ?u3_8) ?v3_8
      case u3_8 => intro K_ hK_;go_simp;(try rw [wI _]);(try rw [wU _]);exact hK_
      simp only [sS, sN]
      co_applyP rT (i := 9) rfl (fun _ hu_ => run_eq_of ?u3_9) ?v3_9
      case u3_9 => intro K_ hK_;go_simp;(try rw [wI _]);(try rw [wU _]);exact hK_
      simp only [sS, sN]
      co_applyP rT (i := 10) rfl (fun u hu_ => run_copyZ (d := .tmp 44) (s := .tmp 47) (g := w.heap.size) (off := p * 96) (cp := 96) (N := nb * 96) (m := z j - q) rfl (by simp) (by simp) (hZ.extract q (z j) hq1 (Nat.le_refl _)) ((Ext.twin hu_).row hg3) (by omega)) ?v10
      simp only [sS, sN]
      refine anyR_done (by first | kernel_rfl | decide +kernel) ?_ _
      repeat (first|refine rA ?_|refine rB ?_|refine rC ?_|refine rD ?_|(refine rR ?_;simp only [tO, Nat.reduceAdd])|refine rE ?_|(refine rO goodFF rfl ?_;intro _ hu_ K_ hK_;go_simp;(try rw [wI _]);(try rw [wU _]);refine hK_ _ ?_;clear hK_ K_ hu_;simp only [sS, sN])|(refine rP rfl ?_;simp only [sS, sN])|(refine rP2 rfl ?_;simp only [sS, sN]))
      refine nxt2 _ _ _ (nb - (p + 1)) (by omega) ⟨p + 1, rfl, by omega, rfl, rfl, by simp [g1], by simp [g5], by simp [g13], by simp [g14], by simp [g15], by simp [g6], by simp [g7], by simp [g29], by simp⟩
    · obtain rfl : p = nb := by omega
      (refine reach_cond (t := false) (by simp [Act.eval, g30, g29]) ?_; simp only [if_true, if_false, reduceIte, Bool.false_eq_true])
      refine reach_exit rfl ?_
      repeat (first|refine rA ?_|refine rB ?_|refine rC ?_|refine rD ?_|(refine rR ?_;simp only [tO, Nat.reduceAdd])|refine rE ?_|(refine rO goodFF rfl ?_;intro _ hu_ K_ hK_;go_simp;(try rw [wI _]);(try rw [wU _]);refine hK_ _ ?_;clear hK_ K_ hu_;simp only [sS, sN])|(refine rP rfl ?_;simp only [sS, sN])|(refine rP2 rfl ?_;simp only [sS, sN]))
      refine nxt _ _ _ (n - (j + 1)) (by omega) ⟨j + 1, _, rfl, by omega, rfl, hA3, by simp [g1], by simp [g5], by simp [g13], by simp [g14], by simp [g15]⟩
  · obtain rfl : j = n := by omega
    (refine reach_cond (t := false) (by simp [Act.eval, g15, g14]) ?_; simp only [if_true, if_false, reduceIte, Bool.false_eq_true])
    refine reach_exit rfl ?_
    repeat (first|refine rA ?_|refine rB ?_|refine rC ?_|refine rD ?_|(refine rR ?_;simp only [tO, Nat.reduceAdd])|refine rE ?_|(refine rO goodFF rfl ?_;intro _ hu_ K_ hK_;go_simp;(try rw [wI _]);(try rw [wU _]);refine hK_ _ ?_;clear hK_ K_ hu_;simp only [sS, sN])|(refine rP rfl ?_;simp only [sS, sN])|(refine rP2 rfl ?_;simp only [sS, sN]))
    refine reach_ret fun todo => ?_
    refine ret _ _ S w (.slice (some ⟨v.heap.size, 0, none⟩) j j) ?_ ⟨rfl, _, RB, rfl, hA⟩
    simp [results, Tryd.results32]
end Go.Proofs.YtpiefebngnlfoaaDoor
