/-
  The statement Cuts: for every value the function mosaiclaw.Cuts answers true (every Cut is the document's answer, what is handed in stays as it was, and what comes out is the caller's own), its call ends without a race whatever order its goroutines run in, and all that was there before reads as it did. No condition.
-/
import Derived.Test.YtpiefebngnlfoaaLn
import Derived.Test.YtpiefebngnlfoaaLe
import Derived.Test.YtpiefebngnlfoaaRows
import Derived.Conc.LeavingOf
import Derived.Carry
import Derived.ChangeSlices
import Derived.WalkKit
import Derived.ProofKit
import Derived.OpenShut
import Derived.Test.YtpiefebngnlfoaaLx
import Derived.SizedLaws
set_option linter.unusedVariables false
set_option linter.unusedSimpArgs false
set_option linter.unnecessarySimpa false
namespace Go.Proofs.Ytpiefebngnlfoaa
open Go.ChangeShapes Go.WideShapes Go.ChangeAt Go.RowKit Go.Conc Go.Vw

/-- Nothing that was there before has turned. -/
structure Old (W W' : World) : Prop where
  size : W.heap.size ≤ W'.heap.size
  os : W'.os = W.os
  output : W'.output = W.output
  block : ∀ b, b < W.heap.size → W'.heap[b]? = W.heap[b]?
theorem old_of {W W' v' : World} {S' : Nat → Prop} (hodd : ∀ b, Odd W b → Try.prog.globals.size ≤ b) (hk : Kp (firstView W) (fun _ => False) v') (hR : Rel Try.prog S' 0 v' W') (hF : Fx (Odd W) W S' W') : Old W W' := by
  have h0 := first_rel (P := Try.prog) hodd
  refine ⟨?_, ?_, ?_, fun b hb => ?_⟩
  · rw [← hR.size, ← h0.size]; exact hk.size
  · rw [← hR.os, hk.os]; exact h0.os
  · rw [← hR.output, hk.output]; exact h0.output
  · by_cases ho : Odd W b
    · exact (hF b ho).2
    · have hs := h0.seen b ho
      have hi : W.heap[b]? = some W.heap[b] := Array.getElem?_eq_getElem hb
      rw [hi] at hs
      have ht := h0.tame b ho _ hs
      have hv := hk.objs b _ (fun x => x) hs ht
      by_cases hS : S' b
      · exfalso
        have hj := hR.hid b hS
        rw [hv] at hj
        have hj' := Option.some.inj hj
        rw [hj'] at ht
        exact ht
      · rw [← hR.seen b hS, hv, hi]
theorem Old.kept {W W' : World} (h : Old W W') (may : MemPlace → Prop) : W.keptBut W' may := by
  refine ⟨h.os, h.output, fun i hi => ?_⟩
  rw [h.block i hi]
  cases W.heap[i]? with
  | none => rfl
  | some o => cases o <;> simp
theorem Old.same {W W' : World} (h : Old W W') {p : MemPlace} (hp : p.block < W.heap.size) : W.sameAt W' p := by
  cases p with
  | cell b o => exact World.cell?_of_block (w := W) (h.block b hp)
  | map b => exact h.block b hp
theorem first_cell {W : World} {a : Addr} {x : Value} (h : W.cell? a = some x) : (firstView W).cell? a = some x := by
  unfold World.cell? at h ⊢
  cases hb : W.heap[a.block]? with
  | none => simp [hb] at h
  | some o =>
    have ho : (firstView W).heap[a.block]? = some (if tameB o then o else junk) := by
      show (W.heap.map _)[a.block]? = _
      rw [Array.getElem?_map, hb]
      rfl
    cases o with
    | cells c t fr =>
      have : tameB (Obj.cells c t fr) = true := rfl
      rw [if_pos this] at ho
      rw [ho]
      rw [hb] at h
      exact h
    | _ => simp [hb] at h
theorem slice_first {W : World} {a : Addr} {len cap : Nat} {zs : List Int} (hs : a.spot = none) (hl : len ≤ cap) (hz : len ≤ zs.length) (hc : ∀ i, i < zs.length → W.cell? (a.add i) = some (.int .u8 (zs.getD i 0))) (hw : ∀ n ∈ zs, (Lit.int .u8 n).wf = true) :
    ∃ x : Nat → Nat, (∀ i, x i < 256) ∧ SliceV (firstView W) (some a) len cap x := by
  obtain ⟨b, off, spot⟩ := a
  simp only at hs
  subst hs
  have hbd : ∀ i, 0 ≤ zs.getD i 0 ∧ zs.getD i 0 ≤ 255 := fun i => by
    by_cases hi : i < zs.length
    · have : zs.getD i 0 = zs[i] := by simp [List.getD, hi]
      rw [this]
      exact bounds_u8 (hw _ (List.getElem_mem hi))
    · have : zs.getD i 0 = 0 := by simp [List.getD, List.getElem?_eq_none (Nat.le_of_not_lt hi)]
      rw [this]
      omega
  refine ⟨fun i => (zs.getD i 0).toNat, fun i => by have := hbd i; show (zs.getD i 0).toNat < 256; omega, .inr ⟨b, off, rfl, hl, fun j hj => ?_⟩⟩
  have := first_cell (hc j (by omega))
  rw [show ((⟨b, off, none⟩ : Addr).add j) = ⟨b, off + j, none⟩ by simp [Addr.add]] at this
  rw [this]
  congr 2
  have := hbd j
  show zs.getD j 0 = ((zs.getD j 0).toNat : Int)
  omega
theorem own : ownKnob Try.prog.godebug = none := by kernel_rfl
theorem laid : laidOutB Try.prog = true := by kernel_rfl
theorem plain : ((List.range Try.prog.globals.size).all fun g => (((begin Try.prog (fun _ _ => 0) default).world.heap[g]?).bind Obj.row?).isSome) = true := by kernel_rfl
theorem shaped_row {W : World} (h : W.ShapedOpen Try.prog) {b : Nat} (hb : b < Try.prog.globals.size) : ∃ cs t, W.heap[b]? = some (.cells cs t) := by
  have := List.all_eq_true.1 plain b (by simpa using hb)
  obtain ⟨⟨zero, t⟩, hz⟩ := Option.isSome_iff_exists.1 this
  obtain ⟨cs, hc, _⟩ := h.1 b zero t hb hz
  exact ⟨cs, t, hc⟩
theorem shaped_odd {W : World} (h : W.ShapedOpen Try.prog) : ∀ b, Odd W b → Try.prog.globals.size ≤ b := by
  intro b ⟨o, ho, hn⟩
  refine Nat.le_of_not_lt fun hb => ?_
  obtain ⟨cs, t, hc⟩ := shaped_row h hb
  rw [hc] at ho
  cases ho
  exact hn trivial
theorem shaped_size {W : World} (h : W.ShapedOpen Try.prog) : Try.prog.globals.size ≤ W.heap.size := by
  refine Nat.le_of_not_lt fun hb => ?_
  obtain ⟨cs, t, hc⟩ := shaped_row h hb
  simp at hc
set_option maxRecDepth 100000 in
/-- A slice of bytes among the arguments. -/
theorem open_arg {H : Type} {enc : TypeId × Value → H} {W : World} {base : Nat} {v : Value} {d : DataW H} {ps : List MemPlace} (hval : Value.okWide Try.prog W .any base 25 v) (h : DataW.Trod enc Try.prog W 0 (fun _ => true) true 25 v d ps) :
    ∃ (p : Option Addr) (len cap : Nat) (x : Nat → Nat), v = .slice p len cap ∧ (∀ i, x i < 256) ∧ SliceV (firstView W) p len cap x ∧ len < 2 ^ 63 := by
  obtain ⟨a0, len, cap, rfl⟩ := okWide_slice Try.underlying25 hval
  obtain ⟨fuel, hf⟩ := h
  rcases open_ints Try.underlying25 Try.underlying5 (by kernel_rfl) hf with ⟨hcs, _⟩ | ⟨a, len', cap', zs, hcs, _, hl, hm, hz, _, hcell, hw⟩
  · simp [Value.cells] at hcs
    obtain ⟨rfl, rfl, rfl⟩ := hcs
    exact ⟨none, 0, 0, fun _ => 0, rfl, fun _ => Nat.zero_lt_succ _, .inl ⟨rfl, rfl, rfl⟩, by omega⟩
  · simp [Value.cells] at hcs
    obtain ⟨rfl, rfl, rfl⟩ := hcs
    have hsp : a.spot = none := by
      simp only [Value.okWide, Try.underlying25, Cell.okWide, Cell.ok, World.has] at hval
      exact hval.2.2.2.1
    simp only [if_true] at hz
    obtain ⟨x, hx, hs⟩ := slice_first (W := W) hsp hl (by omega) hcell hw
    exact ⟨some a, len, cap, x, rfl, hx, hs, by unfold maxLen at hm; omega⟩

end Go.Proofs.Ytpiefebngnlfoaa

/-
  The statement Cuts: for every value the function mosaiclaw.Cuts answers true (every Cut is the document's answer, what is handed in stays as it was, and what comes out is the caller's own), its call ends without a race whatever order its goroutines run in, and all that was there before reads as it did. No condition.
-/
set_option linter.unusedVariables false
set_option linter.unusedSimpArgs false
set_option linter.unnecessarySimpa false
namespace Go.Proofs.Ytpiefebngnlfoaa.cuts
open Go.ChangeShapes Go.WideShapes Go.ChangeAt Go.RowKit Go.Conc Go.Vw

set_option maxRecDepth 100000 in
theorem ends {W : World} {Post : Value → World → Prop} (hodd : ∀ b, Odd W b → Try.prog.globals.size ≤ b) (hg : Try.prog.globals.size ≤ W.heap.size) (p1 : Option Addr) (len1 cap1 : Nat) (x : Nat → Nat) (hx : ∀ i, x i < 256) (h1 : SliceV (firstView W) p1 len1 cap1 x) (hl1 : len1 < 140737488355328) (hpost : ∀ W', Old W W' → Post (.bool true) W') :
    ∃ M last o w' t', runNT Try.prog (M + 1) (solo (G (Frame.enter Try.prog 5 #[.slice p1 len1 cap1] .normal) []) W) #[] = (.ended o w', t') ∧ runN Try.prog M (solo (G (Frame.enter Try.prog 5 #[.slice p1 len1 cap1] .normal) []) W) = .next last ∧ step Try.prog last = .ended o w' ∧ Conc.Good Try.prog Post last o w' t' := by
  refine ends_of_reach hodd ?_
  rw [enter_at _ Try.func5 (c := Try.f5.body.getD .skip) rfl, Try.ntmps5, TA_enter (by simp)]
  refine cuts_whole p1 len1 cap1 x hx hl1 h1 (by rw [(first_rel (P := Try.prog) hodd).size]; exact hg) _ [] fun f' todo S' v' h6 hk => ?_
  refine Reach.done ⟨_, .bool true, rfl, ⟨rfl, rfl, rfl, _, Try.func5, ?_⟩, by kernel_rfl, fun W' hR hF => hpost W' (old_of hodd hk hR hF)⟩
  show (results _ (TA 63 f')).run _ _ = _
  simp [results, Try.results5, h6]
set_option maxRecDepth 100000 in
/-- How long a slice of bytes among the arguments may be. -/
theorem arg_len {H : Type} {enc : TypeId × Value → H} {W : World} {p : Option Addr} {len cap : Nat} {d : DataW H} {ps : List MemPlace} (h : DataW.Trod enc Try.prog W 0 (fun _ => true) true 25 (.slice p len cap) d ps) : len = 0 ∨ ∃ elems spare, d = .slice elems spare ∧ elems.length = len := by
  obtain ⟨fuel, hf⟩ := h
  rcases open_ints Try.underlying25 Try.underlying5 (by kernel_rfl) hf with ⟨hcs, _⟩ | ⟨a, len', cap', zs, hcs, _, hl, hm, hz, hx, _, _⟩
  · simp [Value.cells] at hcs
    exact .inl hcs.2.1
  · simp [Value.cells] at hcs
    obtain ⟨rfl, rfl, rfl⟩ := hcs
    simp only [if_true] at hz
    refine .inr ⟨_, _, (Prod.ext_iff.1 hx).1, ?_⟩
    simp [lits]
    omega

set_option maxRecDepth 100000 in
theorem lifted (os : Os) (started : os.Started) (H : Type) (enc : TypeId × Value → H) :
    ReturnsInLeavingWide {} Try.checked os 5 .any (Rows.cutsSpec.pre6 enc Try.prog Try.f5 Rows.cutsRow.domain false) (Rows.cutsSpec.post enc Try.prog Try.f5 false true false false) := by
  refine returnsInLeavingWide_of_good (C := Try.checked) own started
    (ChangeSpec.witness6 (enc := enc) (C := Try.checked) false ⟨#[], #[.slice none 0 0], []⟩ 8 (by kernel_rfl) (by kernel_rfl) (by kernel_rfl) (by kernel_rfl)) ?_
  intro w tape i _ hsh _ hok hpre _
  obtain ⟨_, _, _, fn', hfn', _, _, _, _, hval0⟩ := hok
  have e : fn' = Try.f5 := Option.some.inj (hfn'.symm.trans Try.func5)
  subst e
  obtain ⟨⟨ds, gs, before, hw, hc⟩, hz⟩ := hpre
  have hW := DataW.Whole.of_heap (w' := w.forCall tape i) (by rfl) hw
  have hsz := hz.weights hw
  clear hw hz hc hfn'
  refine (?_ : ∃ N last o w' t', _ ∧ _ ∧ _ ∧ Conc.Good Try.prog (fun v w' => Rows.cutsSpec.post enc Try.prog Try.f5 false true false false (w.forCall tape i) i.args v w') last o w' t').imp fun N h => h.imp fun last h => h.imp fun o h => h.imp fun w' h => h.imp fun t' h => ⟨h.1, h.2.1, h.2.2.1, h.2.2.2.mono fun v hp => ChangeSpec.post_blind hp⟩
  generalize w.heap.size = base at hval0
  generalize w.forCall tape i = W at *
  generalize i.args = args at *
  have hval : ∀ (j : Nat) t v, Try.f5.params[j]? = some t → args[j]? = some v → Value.okWide Try.prog W .any base t v := hval0
  have hW' := hW
  obtain ⟨p, q, hA0, hV, rfl, hfz, hnd⟩ := hW
  have hA : DataW.TrodAll enc Try.prog W 0 (fun _ => true) true Try.f5.params.toList args.toList ds p := hA0
  rw [Try.params5] at hA hval
  obtain ⟨v0, vs0, d0, ds0, p0, q0, hargs, rfl, rfl, h0, r0⟩ := trodAll_cons hA
  obtain ⟨rfl, rfl, rfl⟩ := trodAll_nil r0
  obtain rfl : args = #[v0] := by cases args; simp_all
  obtain ⟨rfl, rfl⟩ := trodVars_none hV
  obtain ⟨b0, c0, e0, x1, rfl, hx1, s1, l1⟩ := open_arg (hval 0 25 v0 rfl rfl) h0
  have hlen : c0 < 140737488355328 := by
    rcases arg_len h0 with h | ⟨elems, spare, hd, hl⟩
    · omega
    · have := sized_slice hsz (j := 0) (t := 25) (e := 5) rfl (by rw [hd]; rfl) Try.underlying25
      have hb : Try.prog.bytesOf 5 = 1 := by kernel_rfl
      have hr := reachBytes_lt
      rw [hb] at this
      omega
  clear hA0 hval0
  simp only [List.append_nil] at hW'
  refine ends (shaped_odd hsh) (shaped_size hsh) b0 c0 e0 x1 hx1 s1 hlen fun W' hO => ?_
  have hlt0 : ∀ x ∈ p0, x.block < W.heap.size := fun x hx => by simpa using hW'.lt x (by simp [hx])
  have t0 := WideElems.Trod_stays (sp' := fun b => decide (b < W.heap.size)) laid (by kernel_rfl) (of_decide_eq_true (by kernel_rfl)) h0 (fun x hx => hO.same (hlt0 x hx)) (fun x hx => by simpa using hlt0 x hx)
  exact ⟨_, _, _, [], _, [], hW', trodAll_cons_mk (shut_bool Try.underlying4 _) trodAll_mk0, trodAll_cons_mk t0 trodAll_mk0, rfl, hO.kept _, fun h => by cases h⟩

theorem over : Rows.cutsRow.holds Try.pinned (OpenSpec.ofChange Rows.cutsSpec) :=
  OpenClaim.holds_of_wide_leaving 5 Try.f5 rfl rfl rfl rfl rfl rfl rfl ⟨rfl, rfl, rfl, rfl, rfl⟩ rfl rfl rfl rfl rfl (by kernel_rfl) Try.func5 (by kernel_rfl)
    (of_decide_eq_true (by kernel_rfl)) (by unfold Func.isWrapper; first | (rw [if_pos (by decide +kernel)]; kernel_rfl) | (rw [if_neg (by decide +kernel)]; exact ⟨rfl, rfl⟩))
    (fun os started H enc _ => lifted os started H enc)

/-- ████ THE STATEMENT ████ -/
theorem proved : Rows.CutsSaid :=
  over
#print axioms proved
end Go.Proofs.Ytpiefebngnlfoaa.cuts
