/-
  The statement Room, as its card: for every four numbers the function mosaickeep.Room answers true (as many values as a disk has blocks, less two, are put, each can be put anew and is told; what is taken away makes room), its call ends without a race, and all that was there before reads as it did. Condition: none beside what the card itself asks; the package variable that is listed starts as the program's text lays it.
-/
import Derived.Test.YtpiefebngnlfoaaDoorMm
import Derived.Test.YtpiefebngnlfoaaDoorMn
import Derived.Test.YtpiefebngnlfoaaDoorCards
import Derived.Test.YtpiefebngnlfoaaDoorTie
import Derived.Deep.DeepWitnessRowRef
import Derived.Stop.LaidErr
import Derived.Stop.JoinedAt
import Derived.JoinedCond
import Derived.SevenTiedAt
set_option linter.unusedVariables false
set_option linter.unusedSimpArgs false
set_option linter.unnecessarySimpa false
namespace Go.Proofs.YtpiefebngnlfoaaDoor.room
open Go.ChangeShapes Go.WideShapes Go.ChangeAt Go.RowKit Go.Conc Go.Vw

set_option maxRecDepth 100000 in
theorem ends {W : World} {Post : Value → World → Prop} (hodd : ∀ b, Odd W b → Tryd.prog.globals.size ≤ b) (hg : Tryd.prog.globals.size ≤ W.heap.size) (t : TypeId) (e : Value) (hg0 : W.cell? ⟨0, 0, none⟩ = some (.iface t e)) (n blocks size more : Int) (hn : -9223372036854775808 ≤ n ∧ n ≤ 9223372036854775807) (hb : -9223372036854775808 ≤ blocks ∧ blocks ≤ 9223372036854775807) (hs : -9223372036854775808 ≤ size ∧ size ≤ 9223372036854775807) (hm : -9223372036854775808 ≤ more ∧ more ≤ 9223372036854775807) (hpost : ∀ W', Old W W' → Post (.bool true) W') :
    ∃ M last o w' t', runNT Tryd.prog (M + 1) (solo (G (Frame.enter Tryd.prog 4 #[.int .i64 n, .int .i64 blocks, .int .i64 size, .int .i64 more] .normal) []) W) #[] = (.ended o w', t') ∧ runN Tryd.prog M (solo (G (Frame.enter Tryd.prog 4 #[.int .i64 n, .int .i64 blocks, .int .i64 size, .int .i64 more] .normal) []) W) = .next last ∧ step Tryd.prog last = .ended o w' ∧ Conc.Good Tryd.prog Post last o w' t' := by
  refine ends_of_reach hodd ?_
  rw [enter_at _ Tryd.func4 (c := Tryd.f4.body.getD .skip) rfl, Tryd.ntmps4, TA_enter (by simp)]
  refine room_whole n blocks size more hn hb hs hm t e (first_cell hg0) (by rw [(first_rel hodd).size]; exact hg) _ [] fun f' todo S' v' h2 hk => ?_
  refine Reach.done ⟨_, .bool true, rfl, ⟨rfl, rfl, rfl, _, Tryd.func4, ?_⟩, by kernel_rfl, fun W' hR hF => hpost W' (old_of hodd hk hR hF)⟩
  show (results _ (TA 147 f')).run _ _ = _
  simp [results, Tryd.results4, h2]
/-- The name of the error's type, as the list has it. -/
def errT : String := match (Rows.laid_mosaic_block_errNone : DataW Unit) with
  | .iface t _ => t
  | _ => ""
theorem gE : Tryd.prog.globalNamed (Rows.roomRow.named.headD "") = some 0 := by kernel_rfl
theorem gEType : (Tryd.prog.globals[0]?).map (·.type) = some 153 := by kernel_rfl
theorem row_err (u : TypeId) (h : Tryd.prog.typeName? 3 u = some errT) : u = 165 :=
  typeName_ptr_named (nm := "errors.errorString") (by kernel_rfl) (by kernel_rfl) (by decide) u (h.trans (congrArg some (by kernel_rfl)))
set_option maxRecDepth 100000 in
theorem err_cell {W : World} (hL : laidMetH Tryd.prog Rows.roomRow.laid W) : ∃ a : Addr, W.cell? ⟨0, 0, none⟩ = some (.iface 165 (.pointer (some a))) := by
  obtain ⟨a0, s0, hv0, _⟩ := laid_sentinel (n := Rows.roomRow.named.headD "") (nm := errT) hL gE gEType Tryd.underlying153 row_err Tryd.underlying165 Tryd.underlying181 rfl rfl Tryd.underlying9 (by kernel_rfl) (by kernel_rfl)
  exact ⟨a0, by simpa using World.var?_cell gE hv0 0⟩
/-- One start that fits: the error as its initialiser lays it. -/
def errText : ByteArray := { data := #[98, 108, 111, 99, 107, 58, 32, 116, 104, 101, 114, 101, 32, 105, 115, 32, 110, 111, 32, 112, 105, 101, 99, 101, 32, 105, 110, 32, 105, 116] }
def lowP (P : Program) : Nat := (World.holding P default ⟨#[], #[], []⟩).heap.size
def laidW (P : Program) (os : Os) : World :=
  { World.holding P os ⟨#[.cells #[.string errText] 181], #[], []⟩ with heap := (World.holding P os ⟨#[.cells #[.string errText] 181], #[], []⟩).heap.modify 0 fun
      | .cells _ t frozen => .cells #[.iface 165 (.pointer (some ⟨lowP P, 0, none⟩))] t frozen
      | o => o }
set_option maxRecDepth 100000 in
theorem laid_met (os : Os) (args : Array Value) : laidMet Tryd.prog Rows.roomRow.laid ((laidW Tryd.prog os).forCall (fun _ _ => 0) ⟨#[], args, []⟩).memory :=
  laidMet_of_run (ps := [.cell 0 0, .cell (lowP Tryd.prog) 0]) 8 (by kernel_rfl) (by kernel_rfl) (by kernel_rfl)
set_option maxRecDepth 100000 in
theorem reads (os : Os) {H : Type} (enc : TypeId × Value → H) : ∃ places, DataW.whole enc Tryd.prog ((laidW Tryd.prog os).forCall (fun _ _ => 0) ⟨#[], #[.int .i64 0, .int .i64 0, .int .i64 0, .int .i64 0], []⟩).memory Tryd.f4.params.toList (OpenSpec.ofChange Rows.roomSpec).vars false #[Value.int .i64 0, Value.int .i64 0, Value.int .i64 0, Value.int .i64 0].toList 8 = some ([.lit (.int .i64 0), .lit (.int .i64 0), .lit (.int .i64 0), .lit (.int .i64 0)], [], places) :=
  ⟨[], by kernel_rfl⟩
set_option maxRecDepth 100000 in
theorem wit (os : Os) {H : Type} (enc : TypeId × Value → H) : ∃ (w : World) (tape : Tape) (i : Input), w.os = os ∧ (w.forCall tape i).Shaped Tryd.checked.prog ∧ i.vars = [] ∧ Input.okWide Tryd.checked.prog (w.forCall tape i) .any w.heap.size 4 i ∧
    (OpenSpec.ofChange Rows.roomSpec).preRow enc Tryd.checked.prog Tryd.f4 Rows.roomRow.domain false Rows.roomRow.laid (w.forCall tape i).memory i.args ∧ ({ } : Assume).holds Tryd.checked.prog (lone (Frame.enter Tryd.checked.prog 4 i.args .normal) [] (w.forCall tape i)) := by
  obtain ⟨places, hx⟩ := reads os enc
  exact witness_row_atRef (enc := enc) (C := Tryd.checked) false (laidW Tryd.prog os) #[.int .i64 0, .int .i64 0, .int .i64 0, .int .i64 0] rfl (by kernel_rfl) (by kernel_rfl) (by kernel_rfl)
    (OpenSpec.preRow_of_cond 8 hx (by kernel_rfl) (fun k hk => by cases hk) (by kernel_rfl) (laid_met os _))
theorem range1 {n : Int} (h : (Lit.int .i64 n).wf = true) : -9223372036854775808 ≤ n ∧ n ≤ 9223372036854775807 := by
  simp only [Lit.wf, Bool.and_eq_true, decide_eq_true_eq] at h
  have m1 : IntKind.i64.min = -9223372036854775808 := by decide
  have m2 : IntKind.i64.max = 9223372036854775807 := by decide
  omega
set_option maxRecDepth 100000 in
theorem lifted (os : Os) (started : os.Started) (H : Type) (enc : TypeId × Value → H) (F : Stop.Interp) :
    ReturnsInLeavingWide {} Tryd.checked os 4 .any ((OpenSpec.ofChange Rows.roomSpec).preRow enc Tryd.prog Tryd.f4 Rows.roomRow.domain false Rows.roomRow.laid) (((OpenSpec.ofChange Rows.roomSpec).at F).post enc Tryd.prog Tryd.f4 false true false false) := by
  refine returnsInLeavingWide_of_good (C := Tryd.checked) own started (wit os enc) ?_
  intro w tape i _ hsh _ hok hpre _
  obtain ⟨_, _, _, fn', hfn', _, _, _, _, hval0⟩ := hok
  have e : fn' = Tryd.f4 := Option.some.inj (hfn'.symm.trans Tryd.func4)
  subst e
  obtain ⟨⟨hp, hl⟩, hz⟩ := hpre
  obtain ⟨ds, gs, before, hw, hc, hk⟩ := OpenSpec.pre_parts hp
  have hW := DataW.Whole.of_heap (w' := w.forCall tape i) (by rfl) hw
  have hL : laidMetH Tryd.prog Rows.roomRow.laid (w.forCall tape i) := hl.of_heap (by rfl)
  clear hw hz hc hfn' hk hl hp
  refine (?_ : ∃ N last o w' t', _ ∧ _ ∧ _ ∧ Conc.Good Tryd.prog (fun v w' => ((OpenSpec.ofChange Rows.roomSpec).at F).post enc Tryd.prog Tryd.f4 false true false false (w.forCall tape i) i.args v w') last o w' t').imp fun N h => h.imp fun last h => h.imp fun o h => h.imp fun w' h => h.imp fun t' h => ⟨h.1, h.2.1, h.2.2.1, h.2.2.2.mono fun v hp => ChangeSpec.post_blind hp⟩
  generalize w.heap.size = base at hval0
  generalize w.forCall tape i = W at *
  generalize i.args = args at *
  have hval : ∀ (j : Nat) t v, Tryd.f4.params[j]? = some t → args[j]? = some v → Value.okWide Tryd.prog W .any base t v := hval0
  have hW' := hW
  obtain ⟨p, q, hA0, hV, rfl, hfz, hnd⟩ := hW
  have hA : DataW.TrodAll enc Tryd.prog W 0 (fun _ => true) true Tryd.f4.params.toList args.toList ds p := hA0
  rw [Tryd.params4] at hA hval
  obtain ⟨v0, vs0, d0, ds0, p0, q0, hargs, rfl, rfl, h0, r0⟩ := trodAll_cons hA
  obtain ⟨v1, vs1, d1, ds1, p1, q1, rfl, rfl, rfl, h1, r1⟩ := trodAll_cons r0
  obtain ⟨v2, vs2, d2, ds2, p2, q2, rfl, rfl, rfl, h2, r2⟩ := trodAll_cons r1
  obtain ⟨v3, vs3, d3, ds3, p3, q3, rfl, rfl, rfl, h3, r3⟩ := trodAll_cons r2
  obtain ⟨rfl, rfl, rfl⟩ := trodAll_nil r3
  obtain rfl : args = #[v0, v1, v2, v3] := by cases args; simp_all
  obtain ⟨rfl, rfl⟩ := trodVars_none hV
  obtain ⟨a0, rfl, rfl, rfl, w0⟩ := open_int Tryd.underlying3 (hval 0 3 v0 rfl rfl) h0
  obtain ⟨a1, rfl, rfl, rfl, w1⟩ := open_int Tryd.underlying3 (hval 1 3 v1 rfl rfl) h1
  obtain ⟨a2, rfl, rfl, rfl, w2⟩ := open_int Tryd.underlying3 (hval 2 3 v2 rfl rfl) h2
  obtain ⟨a3, rfl, rfl, rfl, w3⟩ := open_int Tryd.underlying3 (hval 3 3 v3 rfl rfl) h3
  obtain ⟨ea, hea⟩ := err_cell hL
  clear hA0 hval0
  simp only [List.append_nil] at hW'
  refine ends (shaped_odd hsh) (shaped_size hsh) 165 _ hea a0 a1 a2 a3 (range1 w0) (range1 w1) (range1 w2) (range1 w3) fun W' hO => ?_
  exact ⟨_, _, _, [], _, [], hW', trodAll_cons_mk (shut_bool Tryd.underlying4 _) trodAll_mk0, trodAll_cons_mk (shut_int Tryd.underlying3 w0) (trodAll_cons_mk (shut_int Tryd.underlying3 w1) (trodAll_cons_mk (shut_int Tryd.underlying3 w2) (trodAll_cons_mk (shut_int Tryd.underlying3 w3) trodAll_mk0))), rfl, hO.kept _, fun h => by cases h⟩
/-- A row whose specification has a condition of its own, others being allowed to leave. -/
theorem holds_leaving_cond {p : Pinned} {s : OpenSpec} {c : OpenClaim} (f : FuncId) (fn : Func) (names : c.program = p.name ∧ c.sum = p.sum ∧ c.spec = s.name) (plain : c.start = .entering ∧ c.outside = [] ∧ c.inits = [] ∧ c.under = none ∧ c.noBlocks = false ∧ c.leaving = true ∧ c.followed = none ∧ c.still = false) (none_ : c.initsInPlace = [] ∧ c.initsUnfollowed = false ∧ c.initsRecurse = false ∧ c.initsNamed = [] ∧ c.initsPassed = []) (hnar : c.narrowed = s.cond.isSome)
    (hfn : p.checked.prog.funcNamed c.func = some f) (hf : p.checked.prog.funcs[f]? = some fn) (closed : joinedFacts p.checked.prog f fn s.bare c = true) (hinst : fn.isInstance p.checked.prog c.origin c.targs) (hwrap : fn.isWrapper p.checked.prog c.wrapper c.mainSum)
    (h : ∀ os : Os, os.Started → ∀ (H : Type) (enc : TypeId × Value → H), ∀ F : Stop.Interp, ReturnsInLeavingWide c.assume p.checked os f .any (c.pre enc p.checked.prog fn s) ((s.at F).post enc p.checked.prog fn c.apart c.fresh c.handsOn c.again)) : c.holds p s := by
  obtain ⟨hstart, hout, hin, hun, hnb, hlv, hfo, hstill⟩ := plain
  simp only [joinedFacts, Bool.and_eq_true, beq_iff_eq, Array.all_eq_true_iff_forall_mem, List.all_eq_true, decide_eq_true_eq] at closed
  obtain ⟨⟨⟨⟨⟨⟨⟨⟨⟨⟨⟨⟨⟨⟨⟨⟨⟨⟨⟨⟨⟨⟨⟨⟨⟨⟨⟨⟨⟨⟨⟨a1, a2⟩, a3⟩, a4⟩, a5⟩, a6⟩, a7⟩, a8⟩, a9⟩, a10⟩, a11⟩, a12⟩, a13⟩, a14⟩, a15⟩, a16⟩, a17⟩, a18⟩, a19⟩, a20⟩, a21⟩, a22⟩, a23⟩, a24⟩, a25⟩, a26⟩, a27⟩, a28⟩, a29⟩, a30⟩, a31⟩, a32⟩ := closed
  have quiet : ∀ os : Os, Stop.quiet p.checked.prog os := fun os k hk => by rw [a9] at hk; cases hk
  have fits : c.startFits p.checked.prog := by unfold OpenClaim.startFits; rw [hstart]; exact a26
  have told : c.startTold p.checked.prog := by unfold OpenClaim.startTold; rw [hstart]; exact ⟨hin, hun, none_⟩
  refine ⟨a1, names.1, names.2.1, names.2.2, a2, a3, fits, told, f, fn, hfn, hf, ⟨a4, a20⟩, (fun hb => by rw [hnb] at hb; cases hb), by unfold OpenClaim.namedList; rw [hfo]; exact a5, hinst, hwrap, a6.trans a7.symm, ⟨a8.trans a9.symm, by unfold Program.envWorded; rw [a9]; rfl, a25⟩, a10, a11, a12, a13, a14, ⟨a15, a31, a32⟩, ⟨a16, a21⟩, ⟨a17, a22, a29, a30⟩, ⟨a23, a27, a28, a18⟩, ?_, fun n hn' => varReadable_some (a19 n hn'), ⟨_, by unfold OpenClaim.world; rw [hout, hstart]; exact WideRow.started_initial, quiet _⟩, [], by unfold OpenClaim.lists; rw [hfo], fun os st _ H enc inj => ?_⟩
  · rw [hout, hnar]
    cases hsh : c.shortTexts with
    | none => simp
    | some _ => rw [hsh] at a24; cases a24
  · have st' : os.Started := by unfold OpenClaim.world at st; rw [hout, hstart] at st; exact st
    rw [OpenClaim.post_not_still hstill]
    unfold OpenClaim.form
    rw [hstart, a6]
    intro F
    have e1 : c.okInput = Input.okWide := by unfold OpenClaim.okInput; rw [hnb]
    have e2 : c.atReturn p.checked.prog = leavingAtReturn p.checked.prog := by unfold OpenClaim.atReturn; rw [hlv]
    have e3 : c.always p.checked.prog [] = nothingAlways := by unfold OpenClaim.always; rw [hfo]
    have e4 : s.post enc p.checked.prog fn F c.outside c.apart c.fresh c.handsOn c.again = (s.at F).post enc p.checked.prog fn c.apart c.fresh c.handsOn c.again := by rw [hout]; rfl
    rw [e1, e2, e3]
    show ReturnsInOpen _ _ _ _ _ _ _ _ (s.post enc p.checked.prog fn F c.outside c.apart c.fresh c.handsOn c.again) _ _
    rw [e4]
    exact h os st' H enc F a26
set_option maxRecDepth 100000 in
theorem over : Rows.roomRow.holds Tryd.pinned (OpenSpec.ofChange Rows.roomSpec) := by
  refine holds_leaving_cond 4 Tryd.f4 ⟨rfl, rfl, rfl⟩ ⟨rfl, rfl, rfl, rfl, rfl, rfl, rfl, rfl⟩ ⟨rfl, rfl, rfl, rfl, rfl⟩ rfl (by kernel_rfl) Tryd.func4 (by kernel_rfl) (of_decide_eq_true (by kernel_rfl)) (by unfold Func.isWrapper; first | (rw [if_pos (by decide +kernel)]; kernel_rfl) | (rw [if_neg (by decide +kernel)]; exact ⟨rfl, rfl⟩)) fun os started H enc F => ?_
  rw [OpenClaim.pre_eq_preRow]
  exact lifted os started H enc F
set_option maxRecDepth 100000 in
theorem looks_of : ∀ f fn, Tryd.pinned.checked.prog.funcNamed Rows.roomRow.func = some f → Tryd.pinned.checked.prog.funcs[f]? = some fn → false = Tryd.pinned.checked.prog.looks [] ∧ ∀ (j : Nat) t, fn.params[j]? = some t → Tryd.pinned.checked.prog.wantsStandIn t = false := by
  intro f fn hf hfn
  obtain rfl : f = 4 := Option.some.inj (hf.symm.trans (by kernel_rfl))
  obtain rfl : fn = Tryd.f4 := Option.some.inj (hfn.symm.trans Tryd.func4)
  refine ⟨by kernel_rfl, fun j t ht => ?_⟩
  rw [Tryd.params4] at ht
  have h3 : t = 3 := by
    rcases j with _ | _ | _ | _ | j
    · simpa using ht.symm
    · simpa using ht.symm
    · simpa using ht.symm
    · simpa using ht.symm
    · simp at ht
  subst h3
  exact (show Tryd.prog.wantsStandIn 3 = false by kernel_rfl)
/-- ████ THE STATEMENT ████ -/
theorem proved : Rows.RoomCardSaid := by
  refine ⟨?_, fun D hD => (by cases hD), room_row_tie, (fun h => (by cases h)), by kernel_rfl⟩
  exact Claim7.tied_new_at .later [.sentinel] true (Claim7.new_of_sixth over Rows.roomCard.stood.harness false rfl ⟨rfl, rfl⟩ (by kernel_rfl) (by kernel_rfl) looks_of) (by kernel_rfl)
#print axioms proved
end Go.Proofs.YtpiefebngnlfoaaDoor.room
