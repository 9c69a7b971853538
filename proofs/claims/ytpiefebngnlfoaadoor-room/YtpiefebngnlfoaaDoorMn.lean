/-
  The row of a law: what was there before reads as it did.
-/
import Derived.Test.YtpiefebngnlfoaaDoorLi
import Derived.Test.YtpiefebngnlfoaaDoorLd
import Derived.Test.YtpiefebngnlfoaaDoorRows
import Derived.Conc.LeavingOf
import Derived.Carry
import Derived.ChangeSlices
import Derived.WalkKit
import Derived.ProofKit
import Derived.OpenShut
set_option linter.unusedVariables false
set_option linter.unusedSimpArgs false
set_option linter.unnecessarySimpa false
namespace Go.Proofs.YtpiefebngnlfoaaDoor
open Go.ChangeShapes Go.WideShapes Go.ChangeAt Go.RowKit Go.Conc Go.Vw

/-- Nothing that was there before has turned. -/
structure Old (W W' : World) : Prop where
  size : W.heap.size ≤ W'.heap.size
  os : W'.os = W.os
  output : W'.output = W.output
  block : ∀ b, b < W.heap.size → W'.heap[b]? = W.heap[b]?
theorem old_of {W W' v' : World} {S' : Nat → Prop} (hodd : ∀ b, Odd W b → Tryd.prog.globals.size ≤ b) (hk : Kp (firstView W) (fun _ => False) v') (hR : Rel Tryd.prog S' 0 v' W') (hF : Fx (Odd W) W S' W') : Old W W' := by
  have h0 := first_rel (P := Tryd.prog) hodd
  refine ⟨?_, ?_, ?_, fun b hb => ?_⟩
  · rw [← hR.size, ← h0.size]; exact hk.size
  · rw [← hR.os, hk.os]; exact h0.os
  · rw [← hR.output, hk.output]; exact h0.output
  · by_cases ho : Odd W b
    · exact (hF b ho).2
    · have hs := h0.seen b ho
      have hi : W.heap[b]? = some W.heap[b] := Array.getElem?_eq_getElem hb
      rw [hi] at hs
      have ht := h0.tame b ho _ hs
      have hv := hk.objs b _ (fun x => x) hs ht
      by_cases hS : S' b
      · exfalso
        have hj := hR.hid b hS
        rw [hv] at hj
        have hj' := Option.some.inj hj
        rw [hj'] at ht
        exact ht
      · rw [← hR.seen b hS, hv, hi]
theorem Old.kept {W W' : World} (h : Old W W') (may : MemPlace → Prop) : W.keptBut W' may := by
  refine ⟨h.os, h.output, fun i hi => ?_⟩
  rw [h.block i hi]
  cases W.heap[i]? with
  | none => rfl
  | some o => cases o <;> simp
theorem Old.same {W W' : World} (h : Old W W') {p : MemPlace} (hp : p.block < W.heap.size) : W.sameAt W' p := by
  cases p with
  | cell b o => exact World.cell?_of_block (w := W) (h.block b hp)
  | map b => exact h.block b hp
theorem first_cell {W : World} {a : Addr} {x : Value} (h : W.cell? a = some x) : (firstView W).cell? a = some x := by
  unfold World.cell? at h ⊢
  cases hb : W.heap[a.block]? with
  | none => simp [hb] at h
  | some o =>
    have ho : (firstView W).heap[a.block]? = some (if tameB o then o else junk) := by
      show (W.heap.map _)[a.block]? = _
      rw [Array.getElem?_map, hb]
      rfl
    cases o with
    | cells c t fr =>
      have : tameB (Obj.cells c t fr) = true := rfl
      rw [if_pos this] at ho
      rw [ho]
      rw [hb] at h
      exact h
    | _ => simp [hb] at h
theorem own : ownKnob Tryd.prog.godebug = none := by kernel_rfl
theorem laid : laidOutB Tryd.prog = true := by kernel_rfl
theorem plain : ((List.range Tryd.prog.globals.size).all fun g => (((begin Tryd.prog (fun _ _ => 0) default).world.heap[g]?).bind Obj.row?).isSome) = true := by kernel_rfl
theorem shaped_row {W : World} (h : W.ShapedOpen Tryd.prog) {b : Nat} (hb : b < Tryd.prog.globals.size) : ∃ cs t, W.heap[b]? = some (.cells cs t) := by
  have := List.all_eq_true.1 plain b (by simpa using hb)
  obtain ⟨⟨zero, t⟩, hz⟩ := Option.isSome_iff_exists.1 this
  obtain ⟨cs, hc, _⟩ := h.1 b zero t hb hz
  exact ⟨cs, t, hc⟩
theorem shaped_odd {W : World} (h : W.ShapedOpen Tryd.prog) : ∀ b, Odd W b → Tryd.prog.globals.size ≤ b := by
  intro b ⟨o, ho, hn⟩
  refine Nat.le_of_not_lt fun hb => ?_
  obtain ⟨cs, t, hc⟩ := shaped_row h hb
  rw [hc] at ho
  cases ho
  exact hn trivial
theorem shaped_size {W : World} (h : W.ShapedOpen Tryd.prog) : Tryd.prog.globals.size ≤ W.heap.size := by
  refine Nat.le_of_not_lt fun hb => ?_
  obtain ⟨cs, t, hc⟩ := shaped_row h hb
  simp at hc
end Go.Proofs.YtpiefebngnlfoaaDoor
