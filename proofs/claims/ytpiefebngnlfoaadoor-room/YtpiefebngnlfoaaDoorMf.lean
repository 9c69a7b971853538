/-
  A store that holds something, on: blank, Put.
-/
import Derived.Test.YtpiefebngnlfoaaDoorMe
set_option linter.unusedVariables false
set_option linter.unusedSimpArgs false
namespace Go.Proofs.YtpiefebngnlfoaaDoor
open Go.RowKit Go.Conc Go.Vw

def yes14 : Array Value := #[.bool true, .bool true, .bool true, .bool true, .bool true, .bool true, .bool true, .bool true, .bool true, .bool true, .bool true, .bool true, .bool true, .bool true]
theorem yes14_get {j : Nat} (h : j < 14) : yes14[j]? = some (.bool true) := by
  rcases (by omega : j = 0 ∨ j = 1 ∨ j = 2 ∨ j = 3 ∨ j = 4 ∨ j = 5 ∨ j = 6 ∨ j = 7 ∨ j = 8 ∨ j = 9 ∨ j = 10 ∨ j = 11 ∨ j = 12 ∨ j = 13) with rfl | rfl | rfl | rfl | rfl | rfl | rfl | rfl | rfl | rfl | rfl | rfl | rfl | rfl <;> rfl
theorem z92b : Tryd.zeroCells92 = bytesA 96 fun _ => 0 := z92.trans (zeros_bytes 96)
section
variable {X D DB DA M : Nat} {RB RA : Nat → Nat} {nd nb turn : Nat} {c : Nat → Nat → Nat → Nat} {L : List Ent} {w w' v : World} {S : Nat → Prop}
set_option maxRecDepth 100000 in
set_option maxHeartbeats 4000000 in
theorem blankG_r (p : Nat) (hp : p < nb) (hn1 : 14 ≤ nd) (hnd : nd ≤ 18) (hnb : nb ≤ 64) (hx : v.heap[X]? = some (.cells #[.pointer (some ⟨D, 0, none⟩), .map (some M), .int .u64 (turn : Nat)] 49)) (hD : Disk D DB DA RB RA nd nb c v) :
    CallsR Tryd.prog 28 #[.pointer (some ⟨X, 0, none⟩), .int .i64 (p : Nat), .agg yes14] S v fun x S' v' => x = .tuple #[] ∧ S' = S ∧ Kp v (DOwn D RB RA nd) v' ∧ ∃ c', Disk D DB DA RB RA nd nb c' v' ∧ ∀ d q, q ≠ p → c' d q = c d q := by
  obtain ⟨ib, zb, ib1, ib2, ib3, ib4, ib5⟩ := infoBool
  refine callsR_body Tryd.func28 rfl Tryd.ntmps28 (by simp) fun Stop cc cs ret => ?_
  have g0 : argF #[.pointer (some ⟨X, 0, none⟩), .int .i64 (p : Nat), .agg yes14] 0 = .pointer (some ⟨X, 0, none⟩) := rfl
  have g1 : argF #[.pointer (some ⟨X, 0, none⟩), .int .i64 (p : Nat), .agg yes14] 1 = .int .i64 (p : Nat) := rfl
  have g2 : argF #[.pointer (some ⟨X, 0, none⟩), .int .i64 (p : Nat), .agg yes14] 2 = .agg yes14 := rfl
  generalize argF #[.pointer (some ⟨X, 0, none⟩), .int .i64 (p : Nat), .agg yes14] = f at g0 g1 g2
  repeat (first|refine rA ?_|refine rB ?_|refine rC ?_|refine rD ?_|(refine rR ?_;simp only [tO, Nat.reduceAdd])|refine rE ?_|(refine rO goodFG rfl ?_;intro _ hu_ K_ hK_;go_simp;(try rw [wI _]);(try rw [wU _]);refine hK_ _ ?_;clear hK_ K_ hu_;simp only [sS, sN])|(refine rP rfl ?_;simp only [sS, sN])|(refine rP2 rfl ?_;simp only [sS, sN]))
  refine reach_turnQ (Q := fun y w => y = .pointer (some ⟨v.heap.size, 0, none⟩) ∧ Ext v w ∧ w.heap[v.heap.size]? = some (.cells yes14 54)) goodFG rfl rfl (by kernel_rfl) (fun u hu => ⟨_, _, .inl (run_box (x := .tmp 2) (y := .agg yes14) rfl (by simp [g2]) u), by rw [hu.heap], (Ext.twin hu).trans _ _ _ (Ext.alloc _ _), by rw [← hu.heap]; exact alloc_at _ _⟩) ?_
  rintro _ w1 ⟨rfl, hE1, hb1⟩
  simp only [stO_some]
  repeat (first|refine rA ?_|refine rB ?_|refine rC ?_|refine rD ?_|(refine rR ?_;simp only [tO, Nat.reduceAdd])|refine rE ?_|(refine rO goodFG rfl ?_;intro _ hu_ K_ hK_;go_simp;(try rw [wI _]);(try rw [wU _]);refine hK_ _ ?_;clear hK_ K_ hu_;simp only [sS, sN])|(refine rP rfl ?_;simp only [sS, sN])|(refine rP2 rfl ?_;simp only [sS, sN]))
  refine reach_turnQ (Q := fun y w => y = .slice (some ⟨w1.heap.size, 0, none⟩) 2 2 ∧ Ext w1 w ∧ w.heap[w1.heap.size]? = some (.cells #[.bool false, .bool true] 4)) goodFG rfl rfl (by kernel_rfl) (fun u hu => ⟨_, _, .inl (run_build2 (x0 := .const (.bool false)) (x1 := .const (.bool true)) (y0 := .bool false) (y1 := .bool true) rfl Tryd.underlying78 ib1 ib2 ib3 ib5 rfl rfl rfl rfl u), by rw [hu.heap], (Ext.twin hu).trans _ _ _ (Ext.alloc _ _), by rw [← hu.heap]; exact alloc_at _ _⟩) ?_
  rintro _ w2 ⟨rfl, hE2, hb2⟩
  simp only [stO_some]
  repeat (first|refine rA ?_|refine rB ?_|refine rC ?_|refine rD ?_|(refine rR ?_;simp only [tO, Nat.reduceAdd])|refine rE ?_|(refine rO goodFG rfl ?_;intro _ hu_ K_ hK_;go_simp;(try rw [wI _]);(try rw [wU _]);refine hK_ _ ?_;clear hK_ K_ hu_;simp only [sS, sN])|(refine rP rfl ?_;simp only [sS, sN])|(refine rP2 rfl ?_;simp only [sS, sN]))
  have hE12 := hE1.trans _ _ _ hE2
  have hD2 := hD.ext hE12
  have hno : ∀ {b : Nat} {x : Array Value} {t : TypeId} {fr : Nat × Nat}, w2.heap[b]? = some (.cells x t fr) → t ≠ 73 → t ≠ 92 → ¬ DOwn D RB RA nd b := fun hb h2 h3 => by
    rintro (h | ⟨d, hd, h | h⟩)
    · obtain ⟨l, _, r⟩ := hD2.row
      exact ne_of_type hb r h2 h
    · exact ne_of_type hb (hD2.rb d hd) h3 h
    · obtain ⟨x, r⟩ := hD2.ra d hd
      exact ne_of_type hb r h3 h
  have hb1' := hE2.row hb1
  refine reach_rounds (fun d f' S' w => ∃ i c', d = 2 - i ∧ i ≤ 2 ∧ S' = S ∧ Kp w2 (DOwn D RB RA nd) w ∧ Disk D DB DA RB RA nd nb c' w ∧ (∀ d q, q ≠ p → c' d q = c d q) ∧ f' 0 = .pointer (some ⟨X, 0, none⟩) ∧ f' 1 = .int .i64 (p : Nat) ∧ f' 5 = .pointer (some ⟨v.heap.size, 0, none⟩) ∧ f' 9 = .slice (some ⟨w1.heap.size, 0, none⟩) 2 2 ∧ f' 10 = .int .i64 2 ∧ f' 11 = .int .i64 (i : Nat)) 2 ⟨0, c, by omega, by omega, rfl, .refl _ _, hD2, fun _ _ _ => rfl, by simp [g0], by simp [g1], by simp, by simp, by simp, by simp⟩ ?_
  clear g0 g1 g2 f
  rintro d f S' w ⟨i, c1, rfl, hi, eS, hKw, hDw, hcw, g0, g1, g5, g9, g10, g11⟩ nxt
  subst S'
  repeat (first|refine rA ?_|refine rB ?_|refine rC ?_|refine rD ?_|(refine rR ?_;simp only [tO, Nat.reduceAdd])|refine rE ?_|(refine rO goodFG rfl ?_;intro _ hu_ K_ hK_;go_simp;(try rw [wI _]);(try rw [wU _]);refine hK_ _ ?_;clear hK_ K_ hu_;simp only [sS, sN])|(refine rP rfl ?_;simp only [sS, sN])|(refine rP2 rfl ?_;simp only [sS, sN]))
  by_cases hlt : i < 2
  · have hiI : (i : Int) < 2 := by omega
    have hci : w.cell? ⟨w1.heap.size, i, none⟩ = some (.bool (decide (i = 1))) := by
      rw [cell_of_row _ _ _ _ _ _ (hKw.cells _ _ _ _ (hno hb2 (by decide) (by decide)) hb2)]
      match i, hlt with
      | 0, _ => rfl
      | 1, _ => rfl
    (refine reach_cond (t := true) (by simp [Act.eval, g11, hiI]) ?_; simp only [if_true, if_false, reduceIte, Bool.false_eq_true])
    repeat (first|refine rA ?_|refine rB ?_|refine rC ?_|refine rD ?_|(refine rR ?_;simp only [tO, Nat.reduceAdd])|refine rE ?_|(refine rO goodFG rfl ?_;intro _ hu_ K_ hK_;(have hc := (Ext.twin hu_).cell hci);go_simp;(try rw [wI _]);(try rw [wU _]);refine hK_ _ ?_;clear hK_ K_ hu_;simp only [sS, sN])|(refine rP rfl ?_;simp only [sS, sN])|(refine rP2 rfl ?_;simp only [sS, sN]))
    generalize decide (i = 1) = last at hci
    refine reach_rounds (fun d f' S' w' => ∃ k c', d = 14 - k ∧ k ≤ 14 ∧ S' = S ∧ Kp w2 (DOwn D RB RA nd) w' ∧ Disk D DB DA RB RA nd nb c' w' ∧ (∀ d q, q ≠ p → c' d q = c d q) ∧ f' 0 = .pointer (some ⟨X, 0, none⟩) ∧ f' 1 = .int .i64 (p : Nat) ∧ f' 5 = .pointer (some ⟨v.heap.size, 0, none⟩) ∧ f' 9 = .slice (some ⟨w1.heap.size, 0, none⟩) 2 2 ∧ f' 10 = .int .i64 2 ∧ f' 11 = .int .i64 (i : Nat) ∧ f' 7 = .bool last ∧ f' 15 = .int .i64 (k : Nat)) 14 ⟨0, c1, by omega, by omega, rfl, hKw, hDw, hcw, by simp [g0], by simp [g1], by simp [g5], by simp [g9], by simp [g10], by simp [g11], by simp, by simp⟩ ?_
    clear g0 g1 g5 g9 g10 g11 f
    rintro d f S' w' ⟨k, c2, rfl, hk, eS, hKw', hDw', hcw', g0, g1, g5, g9, g10, g11, g7, g15⟩ nxt2
    subst S'
    repeat (first|refine rA ?_|refine rB ?_|refine rC ?_|refine rD ?_|(refine rR ?_;simp only [tO, Nat.reduceAdd])|refine rE ?_|(refine rO goodFG rfl ?_;intro _ hu_ K_ hK_;go_simp;(try rw [wI _]);(try rw [wU _]);refine hK_ _ ?_;clear hK_ K_ hu_;simp only [sS, sN])|(refine rP rfl ?_;simp only [sS, sN])|(refine rP2 rfl ?_;simp only [sS, sN]))
    by_cases hlk : k < 14
    · have hkI : (k : Int) < 14 := by omega
      have hck : w'.cell? ⟨v.heap.size, k, none⟩ = some (.bool true) := by
        rw [cell_of_row _ _ _ _ _ _ (hKw'.cells _ _ _ _ (hno hb1' (by decide) (by decide)) hb1')]
        exact yes14_get hlk
      have hxw := hKw'.cells _ _ _ _ (hno (hE12.row hx) (by decide) (by decide)) (hE12.row hx)
      have c0 : w'.cell? ⟨X, 0, none⟩ = some (.pointer (some ⟨D, 0, none⟩)) := (cell_of_row _ _ _ _ _ _ hxw).trans rfl
      (refine reach_cond (t := true) (by simp [Act.eval, g15, hkI]) ?_; simp only [if_true, if_false, reduceIte, Bool.false_eq_true])
      cases last with
      | false =>
        repeat (first|refine rA ?_|refine rB ?_|refine rC ?_|refine rD ?_|(refine rR ?_;simp only [tO, Nat.reduceAdd])|refine rE ?_|(refine rO goodFG rfl ?_;intro _ hu_ K_ hK_;(have hc := (Ext.twin hu_).cell hck);go_simp;(try rw [wI _]);(try rw [wU _]);refine hK_ _ ?_;clear hK_ K_ hu_;simp only [sS, sN])|(refine rP rfl ?_;simp only [sS, sN])|(refine rP2 rfl ?_;simp only [sS, sN]))
        (refine reach_cond (t := false) (by simp [Act.eval]) ?_; simp only [if_true, if_false, reduceIte, Bool.false_eq_true])
        repeat (first|refine rA ?_|refine rB ?_|refine rC ?_|refine rD ?_|(refine rR ?_;simp only [tO, Nat.reduceAdd])|refine rE ?_|(refine rO goodFG rfl ?_;intro _ hu_ K_ hK_;go_simp;(try rw [wI _]);(try rw [wU _]);refine hK_ _ ?_;clear hK_ K_ hu_;simp only [sS, sN])|(refine rP rfl ?_;simp only [sS, sN])|(refine rP2 rfl ?_;simp only [sS, sN]))
        refine nxt2 _ _ _ (14 - (k + 1)) (by omega) ⟨k + 1, c2, rfl, by omega, rfl, hKw', hDw', hcw', by simp [g0], by simp [g1], by simp [g5], by simp [g9], by simp [g10], by simp [g11], by simp [g7], by simp⟩
      | true =>
        repeat (first|refine rA ?_|refine rB ?_|refine rC ?_|refine rD ?_|(refine rR ?_;simp only [tO, Nat.reduceAdd])|refine rE ?_|(refine rO goodFG rfl ?_;intro _ hu_ K_ hK_;(have hc := (Ext.twin hu_).cell hck; have hc' := (Ext.twin hu_).cell c0);go_simp;(try rw [wI _]);(try rw [wU _]);refine hK_ _ ?_;clear hK_ K_ hu_;simp only [sS, sN])|(refine rP rfl ?_;simp only [sS, sN])|(refine rP2 rfl ?_;simp only [sS, sN]))
        rw [z92b]
        (refine reach_callR rfl (by first | rfl | simp [Region.wanted, yielded, TA_get, *]) rfl Tryd.func44 (by kernel_rfl) rfl (by simp [Act.eval, *]; try rfl) (holdsG_r k p (fun _ => 0) (by omega) hp hnd hnb hDw') ?_)
        rintro _ S1 w3 _ ⟨rfl, e1, hE3⟩
        subst S1
        simp only [stO_some]
        cases hq : eqF (c2 k p) (fun _ => 0) 0 96 with
        | true =>
          repeat (first|refine rA ?_|refine rB ?_|refine rC ?_|refine rD ?_|(refine rR ?_;simp only [tO, Nat.reduceAdd])|refine rE ?_|(refine rO goodFG rfl ?_;intro _ hu_ K_ hK_;go_simp;(try rw [wI _]);(try rw [wU _]);refine hK_ _ ?_;clear hK_ K_ hu_;simp only [sS, sN])|(refine rP rfl ?_;simp only [sS, sN])|(refine rP2 rfl ?_;simp only [sS, sN]))
          (refine reach_cond (t := false) (by simp [Act.eval]) ?_; simp only [if_true, if_false, reduceIte, Bool.false_eq_true])
          repeat (first|refine rA ?_|refine rB ?_|refine rC ?_|refine rD ?_|(refine rR ?_;simp only [tO, Nat.reduceAdd])|refine rE ?_|(refine rO goodFG rfl ?_;intro _ hu_ K_ hK_;go_simp;(try rw [wI _]);(try rw [wU _]);refine hK_ _ ?_;clear hK_ K_ hu_;simp only [sS, sN])|(refine rP rfl ?_;simp only [sS, sN])|(refine rP2 rfl ?_;simp only [sS, sN]))
          refine nxt2 _ _ _ (14 - (k + 1)) (by omega) ⟨k + 1, c2, rfl, by omega, rfl, hKw'.ext hE3, hDw'.ext hE3, hcw', by simp [g0], by simp [g1], by simp [g5], by simp [g9], by simp [g10], by simp [g11], by simp [g7], by simp⟩
        | false =>
          have c3 := hE3.cell c0
          repeat (first|refine rA ?_|refine rB ?_|refine rC ?_|refine rD ?_|(refine rR ?_;simp only [tO, Nat.reduceAdd])|refine rE ?_|(refine rO goodFG rfl ?_;intro _ hu_ K_ hK_;go_simp;(try rw [wI _]);(try rw [wU _]);refine hK_ _ ?_;clear hK_ K_ hu_;simp only [sS, sN])|(refine rP rfl ?_;simp only [sS, sN])|(refine rP2 rfl ?_;simp only [sS, sN]))
          (refine reach_cond (t := true) (by simp [Act.eval]) ?_; simp only [if_true, if_false, reduceIte, Bool.false_eq_true])
          repeat (first|refine rA ?_|refine rB ?_|refine rC ?_|refine rD ?_|(refine rR ?_;simp only [tO, Nat.reduceAdd])|refine rE ?_|(refine rO goodFG rfl ?_;intro _ hu_ K_ hK_;(have hc' := (Ext.twin hu_).cell c3);go_simp;(try rw [wI _]);(try rw [wU _]);refine hK_ _ ?_;clear hK_ K_ hu_;simp only [sS, sN])|(refine rP rfl ?_;simp only [sS, sN])|(refine rP2 rfl ?_;simp only [sS, sN]))
          rw [z92b]
          (refine reach_callR rfl (by first | rfl | simp [Region.wanted, yielded, TA_get, *]) rfl Tryd.func45 (by kernel_rfl) rfl (by simp [Act.eval, *]; try rfl) (write_r k p (fun _ => 0) (by omega) hp hnd hnb (hDw'.ext hE3)) ?_)
          rintro _ S1 w4 _ ⟨rfl, e1, hK4, hD4⟩
          subst S1
          simp only [stO_some]
          repeat (first|refine rA ?_|refine rB ?_|refine rC ?_|refine rD ?_|(refine rR ?_;simp only [tO, Nat.reduceAdd])|refine rE ?_|(refine rO goodFG rfl ?_;intro _ hu_ K_ hK_;go_simp;(try rw [wI _]);(try rw [wU _]);refine hK_ _ ?_;clear hK_ K_ hu_;simp only [sS, sN])|(refine rP rfl ?_;simp only [sS, sN])|(refine rP2 rfl ?_;simp only [sS, sN]))
          refine nxt2 _ _ _ (14 - (k + 1)) (by omega) ⟨k + 1, _, rfl, by omega, rfl, (hKw'.ext hE3).trans hK4, hD4, fun d q hq' => ?_, by simp [g0], by simp [g1], by simp [g5], by simp [g9], by simp [g10], by simp [g11], by simp [g7], by simp⟩
          rw [← hcw' d q hq']
          funext j
          unfold updC
          rw [if_neg (fun h => hq' h.2)]
    · obtain rfl : k = 14 := by omega
      (refine reach_cond (t := false) (by simp [Act.eval, g15]) ?_; simp only [if_true, if_false, reduceIte, Bool.false_eq_true])
      refine reach_exit rfl ?_
      repeat (first|refine rA ?_|refine rB ?_|refine rC ?_|refine rD ?_|(refine rR ?_;simp only [tO, Nat.reduceAdd])|refine rE ?_|(refine rO goodFG rfl ?_;intro _ hu_ K_ hK_;go_simp;(try rw [wI _]);(try rw [wU _]);refine hK_ _ ?_;clear hK_ K_ hu_;simp only [sS, sN])|(refine rP rfl ?_;simp only [sS, sN])|(refine rP2 rfl ?_;simp only [sS, sN]))
      refine nxt _ _ _ (2 - (i + 1)) (by omega) ⟨i + 1, c2, rfl, by omega, rfl, hKw', hDw', hcw', by simp [g0], by simp [g1], by simp [g5], by simp [g9], by simp [g10], by simp⟩
  · obtain rfl : i = 2 := by omega
    (refine reach_cond (t := false) (by simp [Act.eval, g11]) ?_; simp only [if_true, if_false, reduceIte, Bool.false_eq_true])
    refine reach_exit rfl ?_
    repeat (first|refine rA ?_|refine rB ?_|refine rC ?_|refine rD ?_|(refine rR ?_;simp only [tO, Nat.reduceAdd])|refine rE ?_|(refine rO goodFG rfl ?_;intro _ hu_ K_ hK_;go_simp;(try rw [wI _]);(try rw [wU _]);refine hK_ _ ?_;clear hK_ K_ hu_;simp only [sS, sN])|(refine rP rfl ?_;simp only [sS, sN])|(refine rP2 rfl ?_;simp only [sS, sN]))
    refine reach_end ?_
    refine ret _ _ S w (.tuple #[]) ?_ ⟨rfl, rfl, ((Kp.refl v _).ext hE12).trans hKw, c1, hDw, hcw⟩
    simp [results, Tryd.results28]
set_option maxRecDepth 100000 in
theorem isId_r (id : Nat) (h1 : 1 ≤ id) (h2 : id ≤ 9999) : CallsR Tryd.prog 25 #[.int .i64 (id : Nat)] S v fun x S' v' => x = .bool true ∧ S' = S ∧ v' = v := by
  refine callsR_body Tryd.func25 rfl Tryd.ntmps25 (by simp) fun Stop cc cs ret => ?_
  have g0 : argF #[.int .i64 (id : Nat)] 0 = .int .i64 (id : Nat) := rfl
  generalize argF #[.int .i64 (id : Nat)] = f at g0
  have i1 : (1 : Int) ≤ (id : Int) := by omega
  have i2 : (id : Int) ≤ 9999 := by omega
  repeat (first|refine rA ?_|refine rB ?_|refine rC ?_|refine rD ?_|(refine rR ?_;simp only [tO, Nat.reduceAdd])|refine rE ?_|(refine rO goodFG rfl ?_;intro _ hu_ K_ hK_;go_simp;(try rw [wI _]);(try rw [wU _]);refine hK_ _ ?_;clear hK_ K_ hu_;simp only [sS, sN])|(refine rP rfl ?_;simp only [sS, sN])|(refine rP2 rfl ?_;simp only [sS, sN]))
  refine reach_ret fun todo => ?_
  refine ret _ _ S v (.bool true) ?_ ⟨rfl, rfl, rfl⟩
  simp [results, Tryd.results25, i1, i2]
/-- A store, a slot of which no entry has being turned. -/
theorem StE.slotOff (h : StE X D DB DA M RB RA nd nb turn c L w) {p : Nat} {c' : Nat → Nat → Nat → Nat} (hp : ∀ e ∈ L, e.slot ≠ p) (hK : Kp w (DOwn D RB RA nd) w') (hD : Disk D DB DA RB RA nd nb c' w') (hc : ∀ d q, q ≠ p → c' d q = c d q) : StE X D DB DA M RB RA nd nb turn c' L w' :=
  ⟨hK.cells _ _ _ _ h.xn h.row, let ⟨cl, q1, q2⟩ := h.map; ⟨cl, hK.objs _ _ h.mn.1 q1 trivial, q2⟩, hD, fun e he => (h.ent e he).more (Nat.le_refl _) fun d j => by rw [hc d _ (hp e he)], h.ids, h.slots, h.borns⟩
theorem Pieces.l14' {v v1 : World} {BA : Nat} {PB : Nat → Nat} {m : Nat} {p : Nat → Nat → Nat} (h : Pieces v BA PB m p v1) {w : World} (hK : Ext v1 w) : w.heap[BA]? = some (.cells (allA fun k => sl (PB k) m) 25) ∧ ∀ k, k < 14 → w.heap[PB k]? = some (.cells (bytesA m (p k)) 5) := ⟨hK.row h.ba, fun k hk => hK.row (h.pb k hk)⟩
theorem row_lt {x : Nat → Nat} (h : ∀ i, x i < 256) (L m k i : Nat) : rowOf x L m k i < 256 := by
  unfold rowOf
  split
  · exact h _
  · omega
theorem cut_lt {x : Nat → Nat} (h : ∀ i, x i < 256) (L k i : Nat) : cutOf x L k i < 256 := by
  unfold cutOf
  split
  · exact row_lt h _ _ _ _
  · exact Fld.comb_lt _ (wgt_lt id k) 10 i
theorem keptV_good {id size turn slot : Nat} {u : World} {b : Nat} (hb : u.heap[b]? = some (.cells (keptV id size turn slot fun _ => true) 56)) {o : Oper} {a : Act} {x : Operand} (hop : o.op = .load 54 x) (hx : a.eval x = .pointer (some ⟨b, 4, none⟩)) : (execOp a.eval o).run Tryd.prog u = .ok (.value (.agg yes14)) u := by
  have h := run_loadAt_mid (P := Tryd.prog) u b 4 54 yes14.toList _ (fun j z hy => by
    have hj : j < 14 := (List.getElem?_eq_some_iff.1 hy).1
    rw [cell_of_row _ _ _ _ _ _ hb]
    rcases (by omega : j = 0 ∨ j = 1 ∨ j = 2 ∨ j = 3 ∨ j = 4 ∨ j = 5 ∨ j = 6 ∨ j = 7 ∨ j = 8 ∨ j = 9 ∨ j = 10 ∨ j = 11 ∨ j = 12 ∨ j = 13) with rfl | rfl | rfl | rfl | rfl | rfl | rfl | rfl | rfl | rfl | rfl | rfl | rfl | rfl <;> exact hy) Tryd.underlying54 rfl (by kernel_rfl)
  unfold execOp
  simp only [hop, hx, Sem.run_bind, h, Result.andThen_ok, Sem.run_pure]
/-- What Put makes of the list. -/
structure Put (L L' : List Ent) (id size : Nat) (val : Nat → Nat) : Prop where
  ids : L'.map (·.id) = if (findP id L 0).isSome then L.map (·.id) else L.map (·.id) ++ [id]
  has : ∃ e ∈ L', e.id = id ∧ e.size = size ∧ e.val = val
set_option maxRecDepth 100000 in
set_option maxHeartbeats 4000000 in
theorem put_r (id len cap : Nat) (pv : Option Addr) (val : Nat → Nat) (hid1 : 1 ≤ id) (hid : id ≤ 9999) (hl : len ≤ 400) (hval : ∀ i, val i < 256) (hs : SliceV v pv len cap val) (hg : Tryd.prog.globals.size ≤ v.heap.size) (ht : turn < 1000000) (hb4 : 4 ≤ nb) (hn1 : 14 ≤ nd) (hnd : nd ≤ 18) (hnb : nb ≤ 64) (hX : StE X D DB DA M RB RA nd nb turn c L v)
    (hroom : L.length < nb - 2 ∨ (L.length ≤ nb - 2 ∧ ∃ q, findP id L 0 = some q)) :
    CallsR Tryd.prog 12 #[.pointer (some ⟨X, 0, none⟩), .int .i64 (id : Nat), .slice pv len cap] S v fun x S' v' => x = .int .i64 0 ∧ Kp v (SOwn X D M RB RA nd) v' ∧ ∃ c' L', StE X D DB DA M RB RA nd nb (turn + 1) c' L' v' ∧ Put L L' id len val := by
  refine callsR_body Tryd.func12 rfl Tryd.ntmps12 (by simp) fun Stop cc cs ret => ?_
  have g0 : argF #[.pointer (some ⟨X, 0, none⟩), .int .i64 (id : Nat), .slice pv len cap] 0 = .pointer (some ⟨X, 0, none⟩) := rfl
  have g1 : argF #[.pointer (some ⟨X, 0, none⟩), .int .i64 (id : Nat), .slice pv len cap] 1 = .int .i64 (id : Nat) := rfl
  have g2 : argF #[.pointer (some ⟨X, 0, none⟩), .int .i64 (id : Nat), .slice pv len cap] 2 = .slice pv len cap := rfl
  generalize argF #[.pointer (some ⟨X, 0, none⟩), .int .i64 (id : Nat), .slice pv len cap] = f at g0 g1 g2
  have hlen : L.length < nb := by rcases hroom with h | ⟨h, _⟩ <;> omega
  obtain ⟨p, hp, hpf, hpl⟩ := free_slot (l := L.map (·.slot)) (n := nb) (by simpa using hlen)
  have hpf' : ∀ e ∈ L, e.slot ≠ p := fun e he h => hpf (List.mem_map.2 ⟨e, he, h⟩)
  have hpl' : ∀ j, j < p → ∃ e ∈ L, e.slot = j := fun j hj => List.mem_map.1 (hpl j hj)
  clear hpf hpl
  repeat (first|refine rA ?_|refine rB ?_|refine rC ?_|refine rD ?_|(refine rR ?_;simp only [tO, Nat.reduceAdd])|refine rE ?_|(refine rO goodFG rfl ?_;intro _ hu_ K_ hK_;go_simp;(try rw [wI _]);(try rw [wU _]);refine hK_ _ ?_;clear hK_ K_ hu_;simp only [sS, sN])|(refine rP rfl ?_;simp only [sS, sN])|(refine rP2 rfl ?_;simp only [sS, sN]))
  (refine reach_callR rfl (by first | rfl | simp [Region.wanted, yielded, TA_get, *]) rfl Tryd.func24 (by kernel_rfl) rfl (by simp [Act.eval, *]; try rfl) (cut_r len cap pv val hl hval hs hg) ?_)
  rintro _ S1 w1 _ ⟨BA, PB, rfl, hP⟩
  simp only [stO_some]
  have hX1 := hX.kp hP.kp
  repeat (first|refine rA ?_|refine rB ?_|refine rC ?_|refine rD ?_|(refine rR ?_;simp only [tO, Nat.reduceAdd])|refine rE ?_|(refine rO goodFG rfl ?_;intro _ hu_ K_ hK_;go_simp;(try rw [wI _]);(try rw [wU _]);refine hK_ _ ?_;clear hK_ K_ hu_;simp only [sS, sN])|(refine rP rfl ?_;simp only [sS, sN])|(refine rP2 rfl ?_;simp only [sS, sN]))
  (refine reach_callR rfl (by first | rfl | simp [Region.wanted, yielded, TA_get, *]) rfl Tryd.func25 (by kernel_rfl) rfl (by simp [Act.eval, *]; try rfl) (isId_r id hid1 hid) ?_)
  rintro _ S2 w2 _ ⟨rfl, e1, e2⟩
  subst S2 w2
  simp only [stO_some]
  repeat (first|refine rA ?_|refine rB ?_|refine rC ?_|refine rD ?_|(refine rR ?_;simp only [tO, Nat.reduceAdd])|refine rE ?_|(refine rO goodFG rfl ?_;intro _ hu_ K_ hK_;go_simp;(try rw [wI _]);(try rw [wU _]);refine hK_ _ ?_;clear hK_ K_ hu_;simp only [sS, sN])|(refine rP rfl ?_;simp only [sS, sN])|(refine rP2 rfl ?_;simp only [sS, sN]))
  (refine reach_cond (t := false) (by simp [Act.eval]) ?_; simp only [if_true, if_false, reduceIte, Bool.false_eq_true])
  repeat (first|refine rA ?_|refine rB ?_|refine rC ?_|refine rD ?_|(refine rR ?_;simp only [tO, Nat.reduceAdd])|refine rE ?_|(refine rO goodFG rfl ?_;intro _ hu_ K_ hK_;go_simp;(try rw [wI _]);(try rw [wU _]);refine hK_ _ ?_;clear hK_ K_ hu_;simp only [sS, sN])|(refine rP rfl ?_;simp only [sS, sN])|(refine rP2 rfl ?_;simp only [sS, sN]))
  (refine reach_callR rfl (by first | rfl | simp [Region.wanted, yielded, TA_get, *]) rfl Tryd.func26 (by kernel_rfl) rfl (by simp [Act.eval, *]; try rfl) (full_r id hid hn1 hnd hb4 hnb (by omega) hX1 hroom) ?_)
  rintro _ S2 w2 _ ⟨rfl, e1, hE2⟩
  subst S2
  simp only [stO_some]
  have hX2 := hX1.ext hE2
  have c1 := hX2.c1
  obtain ⟨clock, hm2, hbn2⟩ := hX2.map
  repeat (first|refine rA ?_|refine rB ?_|refine rC ?_|refine rD ?_|(refine rR ?_;simp only [tO, Nat.reduceAdd])|refine rE ?_|(refine rO goodFG rfl ?_;intro _ hu_ K_ hK_;go_simp;(try rw [wI _]);(try rw [wU _]);refine hK_ _ ?_;clear hK_ K_ hu_;simp only [sS, sN])|(refine rP rfl ?_;simp only [sS, sN])|(refine rP2 rfl ?_;simp only [sS, sN]))
  (refine reach_cond (t := false) (by simp [Act.eval]) ?_; simp only [if_true, if_false, reduceIte, Bool.false_eq_true])
  repeat (first|refine rA ?_|refine rB ?_|refine rC ?_|refine rD ?_|(refine rR ?_;simp only [tO, Nat.reduceAdd])|refine rE ?_|(refine rO goodFG rfl ?_;intro _ hu_ K_ hK_;(have hc := (Ext.twin hu_).cell c1);go_simp;(try rw [wI _]);(try rw [wU _]);refine hK_ _ ?_;clear hK_ K_ hu_;simp only [sS, sN])|(refine rP rfl ?_;simp only [sS, sN])|(refine rP2 rfl ?_;simp only [sS, sN]))
  refine reach_lookup rfl rfl rfl (x := .tmp 30) (y := .tmp 31) (id := id) (by simp) (by simp [g1]) hm2 ?_
  simp only [stO_some]
  have hKv2 : Kp v (SOwn X D M RB RA nd) w2 := ((hP.kp.mono fun _ h => h.elim).ext hE2)
  have hcl := cut_lt hval len
  cases hq : findP id L 0 with
  | none =>
    simp only [lookV]
    repeat (first|refine rA ?_|refine rB ?_|refine rC ?_|refine rD ?_|(refine rR ?_;simp only [tO, Nat.reduceAdd])|refine rE ?_|(refine rO goodFG rfl ?_;intro _ hu_ K_ hK_;go_simp;(try rw [wI _]);(try rw [wU _]);refine hK_ _ ?_;clear hK_ K_ hu_;simp only [sS, sN])|(refine rP rfl ?_;simp only [sS, sN])|(refine rP2 rfl ?_;simp only [sS, sN]))
    refine reach_alloc goodFG rfl rfl (by kernel_rfl) (.agg (keptV 0 0 0 0 fun _ => false)) rfl (by kernel_rfl) fun w3 hE3 hb3 hs3 => ?_
    simp only [stO_some]
    refine reach_storeRow goodFG rfl rfl (by kernel_rfl) (x := .tmp 9) (y := .tmp 33) (g := w2.heap.size) (c := keptV 0 0 0 0 fun _ => false) rfl (by simp) (by simp) hb3 (by kernel_rfl) rfl (by simp [keptV, Value.oneCell']) fun w4 hW4 => ?_
    simp only [stO_none]
    have hE4 : Ext w2 w4 := ext_wr hE3 (Nat.le_refl _) hW4
    obtain ⟨hBA, hPB⟩ := hP.l14' (hE2.trans _ _ _ hE4)
    repeat (first|refine rA ?_|refine rB ?_|refine rC ?_|refine rD ?_|(refine rR ?_;simp only [tO, Nat.reduceAdd])|refine rE ?_|(refine rO goodFG rfl ?_;intro _ hu_ K_ hK_;go_simp;(try rw [wI _]);(try rw [wU _]);refine hK_ _ ?_;clear hK_ K_ hu_;simp only [sS, sN])|(refine rP rfl ?_;simp only [sS, sN])|(refine rP2 rfl ?_;simp only [sS, sN]))
    (refine reach_callR rfl (by first | rfl | simp [Region.wanted, yielded, TA_get, *]) rfl Tryd.func27 (by kernel_rfl) rfl (by simp [Act.eval, *]; try rfl) (lay_r id len _ p BA PB val hid1 hid hl rfl hval ht hb4 hn1 hnd hnb (hX2.ext hE4) hp hpf' hpl' hBA hPB hcl) ?_)
    rintro _ S2 w5 _ ⟨rfl, e1, hK5, clk, c', hPO, hX5⟩
    subst S2
    simp only [stO_some]
    repeat (first|refine rA ?_|refine rB ?_|refine rC ?_|refine rD ?_|(refine rR ?_;simp only [tO, Nat.reduceAdd])|refine rE ?_|(refine rO goodFG rfl ?_;intro _ hu_ K_ hK_;go_simp;(try rw [wI _]);(try rw [wU _]);refine hK_ _ ?_;clear hK_ K_ hu_;simp only [sS, sN])|(refine rP rfl ?_;simp only [sS, sN])|(refine rP2 rfl ?_;simp only [sS, sN]))
    (refine reach_cond (t := false) (by simp [Act.eval]) ?_; simp only [if_true, if_false, reduceIte, Bool.false_eq_true])
    repeat (first|refine rA ?_|refine rB ?_|refine rC ?_|refine rD ?_|(refine rR ?_;simp only [tO, Nat.reduceAdd])|refine rE ?_|(refine rO goodFG rfl ?_;intro _ hu_ K_ hK_;go_simp;(try rw [wI _]);(try rw [wU _]);refine hK_ _ ?_;clear hK_ K_ hu_;simp only [sS, sN])|(refine rP rfl ?_;simp only [sS, sN])|(refine rP2 rfl ?_;simp only [sS, sN]))
    refine reach_ret fun todo => ?_
    refine ret _ _ S1 w5 (.int .i64 0) ?_ ⟨rfl, (hKv2.ext hE4).trans hK5, c', _, hX5, ?_, ?_⟩
    · simp [results, Tryd.results12]
    · have := hPO.ids
      rw [this, hq]
    · obtain ⟨b, hb⟩ := hPO.has
      exact ⟨_, hb, rfl, rfl, rfl⟩
  | some q =>
    obtain ⟨n, old⟩ := q
    obtain ⟨n', hn, hget, hoid⟩ := findP_some hq
    have hold : old ∈ L := List.mem_of_getElem? hget
    have hosl := (hX.ent old hold).slot
    simp only [lookV]
    repeat (first|refine rA ?_|refine rB ?_|refine rC ?_|refine rD ?_|(refine rR ?_;simp only [tO, Nat.reduceAdd])|refine rE ?_|(refine rO goodFG rfl ?_;intro _ hu_ K_ hK_;go_simp;(try rw [wI _]);(try rw [wU _]);refine hK_ _ ?_;clear hK_ K_ hu_;simp only [sS, sN])|(refine rP rfl ?_;simp only [sS, sN])|(refine rP2 rfl ?_;simp only [sS, sN]))
    refine reach_alloc goodFG rfl rfl (by kernel_rfl) (.agg (keptV 0 0 0 0 fun _ => false)) rfl (by kernel_rfl) fun w3 hE3 hb3 hs3 => ?_
    simp only [stO_some]
    refine reach_storeRow goodFG rfl rfl (by kernel_rfl) (x := .tmp 9) (y := .tmp 33) (g := w2.heap.size) (c := keptA old) rfl (by simp) (by simp) hb3 (by kernel_rfl) rfl (keptA_all _) fun w4 hW4 => ?_
    simp only [stO_none]
    have hE4 : Ext w2 w4 := ext_wr hE3 (Nat.le_refl _) hW4
    obtain ⟨hBA, hPB⟩ := hP.l14' (hE2.trans _ _ _ hE4)
    repeat (first|refine rA ?_|refine rB ?_|refine rC ?_|refine rD ?_|(refine rR ?_;simp only [tO, Nat.reduceAdd])|refine rE ?_|(refine rO goodFG rfl ?_;intro _ hu_ K_ hK_;go_simp;(try rw [wI _]);(try rw [wU _]);refine hK_ _ ?_;clear hK_ K_ hu_;simp only [sS, sN])|(refine rP rfl ?_;simp only [sS, sN])|(refine rP2 rfl ?_;simp only [sS, sN]))
    (refine reach_callR rfl (by first | rfl | simp [Region.wanted, yielded, TA_get, *]) rfl Tryd.func27 (by kernel_rfl) rfl (by simp [Act.eval, *]; try rfl) (lay_r id len _ p BA PB val hid1 hid hl rfl hval ht hb4 hn1 hnd hnb (hX2.ext hE4) hp hpf' hpl' hBA hPB hcl) ?_)
    rintro _ S2 w5 _ ⟨rfl, e1, hK5, clk, c', hPO, hX5⟩
    subst S2
    simp only [stO_some]
    have hX4 := hX2.ext hE4
    have hno : ¬ SOwn X D M RB RA nd w2.heap.size := by
      rintro (h | h | h | ⟨d, hd, h | h⟩)
      · exact ne_of_type hW4.at_ hX4.row (by decide) h
      · obtain ⟨cl, hm4, _⟩ := hX4.map
        exact map_ne hm4 hW4.at_ h.symm
      · obtain ⟨l, _, r⟩ := hX4.dk.row
        exact ne_of_type hW4.at_ r (by decide) h
      · exact ne_of_type hW4.at_ (hX4.dk.rb d hd) (by decide) h
      · obtain ⟨x, r⟩ := hX4.dk.ra d hd
        exact ne_of_type hW4.at_ r (by decide) h
    have hold5 := hK5.cells _ _ _ _ hno hW4.at_
    have cs : w5.cell? ⟨w2.heap.size, 3, none⟩ = some (.int .i64 (old.slot : Nat)) := (cell_of_row _ _ _ _ _ _ hold5).trans rfl
    repeat (first|refine rA ?_|refine rB ?_|refine rC ?_|refine rD ?_|(refine rR ?_;simp only [tO, Nat.reduceAdd])|refine rE ?_|(refine rO goodFG rfl ?_;intro _ hu_ K_ hK_;go_simp;(try rw [wI _]);(try rw [wU _]);refine hK_ _ ?_;clear hK_ K_ hu_;simp only [sS, sN])|(refine rP rfl ?_;simp only [sS, sN])|(refine rP2 rfl ?_;simp only [sS, sN]))
    (refine reach_cond (t := true) (by simp [Act.eval]) ?_; simp only [if_true, if_false, reduceIte, Bool.false_eq_true])
    repeat (first|refine rA ?_|refine rB ?_|refine rC ?_|refine rD ?_|(refine rR ?_;simp only [tO, Nat.reduceAdd])|refine rE ?_|(refine rO goodFG rfl ?_;intro _ hu_ K_ hK_;(have hc := (Ext.twin hu_).cell cs);go_simp;(try rw [wI _]);(try rw [wU _]);refine hK_ _ ?_;clear hK_ K_ hu_;simp only [sS, sN])|(refine rP rfl ?_;simp only [sS, sN])|(refine rP2 rfl ?_;simp only [sS, sN]))
    refine reach_still goodFG rfl rfl (by kernel_rfl) (fun u hu => keptV_good (b := w2.heap.size) ((Ext.twin hu).row hold5) (x := .tmp 45) rfl (by simp)) ?_
    simp only [stO_some]
    (refine reach_callR rfl (by first | rfl | simp [Region.wanted, yielded, TA_get, *]) rfl Tryd.func28 (by kernel_rfl) rfl (by simp [Act.eval, *]; try rfl) (blankG_r old.slot hosl hn1 hnd hnb hX5.row hX5.dk) ?_)
    rintro _ S2 w6 _ ⟨rfl, e1, hK6, c'', hD6, hc6⟩
    subst S2
    simp only [stO_some]
    repeat (first|refine rA ?_|refine rB ?_|refine rC ?_|refine rD ?_|(refine rR ?_;simp only [tO, Nat.reduceAdd])|refine rE ?_|(refine rO goodFG rfl ?_;intro _ hu_ K_ hK_;go_simp;(try rw [wI _]);(try rw [wU _]);refine hK_ _ ?_;clear hK_ K_ hu_;simp only [sS, sN])|(refine rP rfl ?_;simp only [sS, sN])|(refine rP2 rfl ?_;simp only [sS, sN]))
    refine reach_ret fun todo => ?_
    refine ret _ _ S1 w6 (.int .i64 0) ?_ ⟨rfl, ((hKv2.ext hE4).trans hK5).trans (hK6.mono fun b h => .inr (.inr h)), c'', _, hX5.slotOff (fun e he => ?_) hK6 hD6 hc6, ?_, ?_⟩
    · simp [results, Tryd.results12]
    · rcases hPO.mem e he with ⟨b, rfl⟩ | ⟨he', hne⟩
      · exact fun h => hpf' old hold h.symm
      · exact fun h => hne (by
          have := nodup_inj hX.slots he' hold h
          rw [this]
          exact hoid)
    · have := hPO.ids
      rw [this, hq]
    · obtain ⟨b, hb⟩ := hPO.has
      exact ⟨_, hb, rfl, rfl, rfl⟩
end
end Go.Proofs.YtpiefebngnlfoaaDoor
