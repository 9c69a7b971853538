/-
  The statement Mounts, second form (arguments of bulk at most 1048576), as its card: for every list of numbers the function mosaiclaw.Mounts answers true (a store is mounted of just those disks that the document allows, and nothing is stored in it; the disks are blank), its call ends without a race, and all that was there before reads as it did. Condition: the bulk; the package variable that is listed starts as the program's text lays it.
-/
import Derived.Test.YtpiefebngnlfoaaDoorLn
import Derived.Test.YtpiefebngnlfoaaDoorCards
import Derived.Test.YtpiefebngnlfoaaDoorTie
import Derived.Deep.DeepWitnessRowRef
import Derived.Stop.LaidErr
import Derived.Stop.JoinedAt
import Derived.JoinedCond
import Derived.SevenTiedAt
set_option linter.unusedVariables false
set_option linter.unusedSimpArgs false
set_option linter.unnecessarySimpa false
namespace Go.Proofs.YtpiefebngnlfoaaDoor.mountsupto
open Go.ChangeShapes Go.WideShapes Go.ChangeAt Go.RowKit Go.Conc Go.Vw

set_option maxRecDepth 100000 in
theorem ends {W : World} {Post : Value → World → Prop} (hodd : ∀ b, Odd W b → Tryd.prog.globals.size ≤ b) (t : TypeId) (e : Value) (hg0 : W.cell? ⟨0, 0, none⟩ = some (.iface t e)) (p1 : Option Addr) (len1 cap1 : Nat) (zz : Nat → Int) (hzz : ∀ j, -9223372036854775808 ≤ zz j ∧ zz j ≤ 9223372036854775807) (hn : len1 ≤ 1048576) (h1 : IntsV (firstView W) p1 len1 cap1 zz) (hpost : ∀ W', Old W W' → Post (.bool true) W') :
    ∃ M last o w' t', runNT Tryd.prog (M + 1) (solo (G (Frame.enter Tryd.prog 3 #[.slice p1 len1 cap1] .normal) []) W) #[] = (.ended o w', t') ∧ runN Tryd.prog M (solo (G (Frame.enter Tryd.prog 3 #[.slice p1 len1 cap1] .normal) []) W) = .next last ∧ step Tryd.prog last = .ended o w' ∧ Conc.Good Tryd.prog Post last o w' t' := by
  refine ends_of_reach hodd ?_
  rw [enter_at _ Tryd.func3 (c := Tryd.f3.body.getD .skip) rfl, Tryd.ntmps3, TA_enter (by simp)]
  refine mounts_whole t e (first_cell hg0) zz hzz hn h1 _ [] fun f' todo S' v' h2 hk => ?_
  refine Reach.done ⟨_, .bool true, rfl, ⟨rfl, rfl, rfl, _, Tryd.func3, ?_⟩, by kernel_rfl, fun W' hR hF => hpost W' (old_of hodd (kp_ext hk) hR hF)⟩
  show (results _ (TA 104 f')).run _ _ = _
  simp [results, Tryd.results3, h2]
theorem bulk_one {H : Type} (d : DataW H) : 1 ≤ Rows.uptoBulk d := by
  cases d with
  | lit l => cases l <;> simp [Rows.uptoBulk]
  | _ => simp [Rows.uptoBulk]
theorem bulk_len {H : Type} : ∀ l : List (DataW H), l.length ≤ Rows.uptoBulkAll l
  | [] => Nat.zero_le _
  | d :: l => by
    have h1 := bulk_one d
    have h2 := bulk_len l
    simp only [Rows.uptoBulkAll, List.length_cons]
    omega
set_option maxRecDepth 100000 in
/-- A slice of numbers among the arguments. -/
theorem open_nums {H : Type} {enc : TypeId × Value → H} {W : World} {base : Nat} {v : Value} {d : DataW H} {ps : List MemPlace} (hval : Value.okWide Tryd.prog W .any base 22 v) (h : DataW.Trod enc Tryd.prog W 0 (fun _ => true) true 22 v d ps) :
    ∃ (p : Option Addr) (len cap : Nat) (z : Nat → Int), v = .slice p len cap ∧ (∀ j, -9223372036854775808 ≤ z j ∧ z j ≤ 9223372036854775807) ∧ IntsV (firstView W) p len cap z ∧ len ≤ Rows.uptoBulk d := by
  obtain ⟨a0, len, cap, rfl⟩ := okWide_slice Tryd.underlying22 hval
  obtain ⟨fuel, hf⟩ := h
  rcases open_ints Tryd.underlying22 Tryd.underlying3 (by kernel_rfl) hf with ⟨hcs, _⟩ | ⟨a, len', cap', zs, hcs, _, hl, hm, hz, hx, hcell, hw⟩
  · simp [Value.cells] at hcs
    obtain ⟨rfl, rfl, rfl⟩ := hcs
    exact ⟨none, 0, 0, fun _ => 0, rfl, fun _ => by simp, .inl ⟨rfl, rfl, rfl⟩, Nat.zero_le _⟩
  · simp [Value.cells] at hcs
    obtain ⟨rfl, rfl, rfl⟩ := hcs
    have hsp : a.spot = none := by
      simp only [Value.okWide, Tryd.underlying22, Cell.okWide, Cell.ok, World.has] at hval
      exact hval.2.2.2.1
    simp only [if_true] at hz
    obtain ⟨b, off, spot⟩ := a
    simp only at hsp
    subst hsp
    refine ⟨some ⟨b, off, none⟩, len, cap, fun j => zs.getD j 0, rfl, fun j => ?_, .inr ⟨b, off, rfl, hl, fun j hj => ?_⟩, ?_⟩
    · have := range_i64 hw j
      simpa [List.getD] using this
    · have := first_cell (hcell j (by omega))
      rw [show ((⟨b, off, none⟩ : Addr).add j) = ⟨b, off + j, none⟩ by simp [Addr.add]] at this
      exact this
    · have e := (Prod.ext_iff.1 hx).1
      simp only at e
      rw [e]
      have h1 := bulk_len (H := H) (lits .i64 (zs.take len))
      have h2 : (lits (H := H) .i64 (zs.take len)).length = len := by
        simp [lits]
        omega
      simp only [Rows.uptoBulk]
      omega
/-- The name of the error's type, as the list has it. -/
def errT : String := match (Rows.laid_mosaic_block_errNone : DataW Unit) with
  | .iface t _ => t
  | _ => ""
theorem gE : Tryd.prog.globalNamed (Rows.mountsUptoRow.named.headD "") = some 0 := by kernel_rfl
theorem gEType : (Tryd.prog.globals[0]?).map (·.type) = some 153 := by kernel_rfl
theorem row_err (u : TypeId) (h : Tryd.prog.typeName? 3 u = some errT) : u = 165 :=
  typeName_ptr_named (nm := "errors.errorString") (by kernel_rfl) (by kernel_rfl) (by decide) u (h.trans (congrArg some (by kernel_rfl)))
set_option maxRecDepth 100000 in
theorem err_cell {W : World} (hL : laidMetH Tryd.prog Rows.mountsUptoRow.laid W) : ∃ a : Addr, W.cell? ⟨0, 0, none⟩ = some (.iface 165 (.pointer (some a))) := by
  obtain ⟨a0, s0, hv0, _⟩ := laid_sentinel (n := Rows.mountsUptoRow.named.headD "") (nm := errT) hL gE gEType Tryd.underlying153 row_err Tryd.underlying165 Tryd.underlying181 rfl rfl Tryd.underlying9 (by kernel_rfl) (by kernel_rfl)
  exact ⟨a0, by simpa using World.var?_cell gE hv0 0⟩
/-- One start that fits: the error as its initialiser lays it. -/
def errText : ByteArray := { data := #[98, 108, 111, 99, 107, 58, 32, 116, 104, 101, 114, 101, 32, 105, 115, 32, 110, 111, 32, 112, 105, 101, 99, 101, 32, 105, 110, 32, 105, 116] }
def lowP (P : Program) : Nat := (World.holding P default ⟨#[], #[], []⟩).heap.size
def laidW (P : Program) (os : Os) : World :=
  { World.holding P os ⟨#[.cells #[.string errText] 181], #[], []⟩ with heap := (World.holding P os ⟨#[.cells #[.string errText] 181], #[], []⟩).heap.modify 0 fun
      | .cells _ t frozen => .cells #[.iface 165 (.pointer (some ⟨lowP P, 0, none⟩))] t frozen
      | o => o }
set_option maxRecDepth 100000 in
theorem laid_met (os : Os) (args : Array Value) : laidMet Tryd.prog Rows.mountsUptoRow.laid ((laidW Tryd.prog os).forCall (fun _ _ => 0) ⟨#[], args, []⟩).memory :=
  laidMet_of_run (ps := [.cell 0 0, .cell (lowP Tryd.prog) 0]) 8 (by kernel_rfl) (by kernel_rfl) (by kernel_rfl)
set_option maxRecDepth 100000 in
theorem reads (os : Os) {H : Type} (enc : TypeId × Value → H) : ∃ places, DataW.whole enc Tryd.prog ((laidW Tryd.prog os).forCall (fun _ _ => 0) ⟨#[], #[.slice none 0 0], []⟩).memory Tryd.f3.params.toList (Rows.OpenSpec.upto Rows.mountsSpec).vars false #[Value.slice none 0 0].toList 8 = some ([.nil], [], places) :=
  ⟨[], by kernel_rfl⟩
set_option maxRecDepth 100000 in
theorem wit (os : Os) {H : Type} (enc : TypeId × Value → H) : ∃ (w : World) (tape : Tape) (i : Input), w.os = os ∧ (w.forCall tape i).Shaped Tryd.checked.prog ∧ i.vars = [] ∧ Input.okWide Tryd.checked.prog (w.forCall tape i) .any w.heap.size 3 i ∧
    (Rows.OpenSpec.upto Rows.mountsSpec).preRow enc Tryd.checked.prog Tryd.f3 Rows.mountsUptoRow.domain false Rows.mountsUptoRow.laid (w.forCall tape i).memory i.args ∧ ({ } : Assume).holds Tryd.checked.prog (lone (Frame.enter Tryd.checked.prog 3 i.args .normal) [] (w.forCall tape i)) := by
  obtain ⟨places, hx⟩ := reads os enc
  exact witness_row_atRef (enc := enc) (C := Tryd.checked) false (laidW Tryd.prog os) #[.slice none 0 0] rfl (by kernel_rfl) (by kernel_rfl) (by kernel_rfl)
    (OpenSpec.preRow_of_cond 8 hx (by kernel_rfl) (fun k hk => by
      obtain rfl := Option.some.inj hk
      kernel_rfl) (by kernel_rfl) (laid_met os _))
set_option maxRecDepth 100000 in
theorem lifted (os : Os) (started : os.Started) (H : Type) (enc : TypeId × Value → H) (F : Stop.Interp) :
    ReturnsInLeavingWide {} Tryd.checked os 3 .any ((Rows.OpenSpec.upto Rows.mountsSpec).preRow enc Tryd.prog Tryd.f3 Rows.mountsUptoRow.domain false Rows.mountsUptoRow.laid) (((Rows.OpenSpec.upto Rows.mountsSpec).at F).post enc Tryd.prog Tryd.f3 false true false false) := by
  refine returnsInLeavingWide_of_good (C := Tryd.checked) own started (wit os enc) ?_
  intro w tape i _ hsh _ hok hpre _
  obtain ⟨_, _, _, fn', hfn', _, _, _, _, hval0⟩ := hok
  have e : fn' = Tryd.f3 := Option.some.inj (hfn'.symm.trans Tryd.func3)
  subst e
  obtain ⟨⟨hp, hl⟩, hz⟩ := hpre
  obtain ⟨ds, gs, before, hw, hc, hk⟩ := OpenSpec.pre_parts hp
  have hW := DataW.Whole.of_heap (w' := w.forCall tape i) (by rfl) hw
  have hL : laidMetH Tryd.prog Rows.mountsUptoRow.laid (w.forCall tape i) := hl.of_heap (by rfl)
  have hk1 := hk _ rfl
  clear hw hz hc hfn' hk hl hp
  refine (?_ : ∃ N last o w' t', _ ∧ _ ∧ _ ∧ Conc.Good Tryd.prog (fun v w' => ((Rows.OpenSpec.upto Rows.mountsSpec).at F).post enc Tryd.prog Tryd.f3 false true false false (w.forCall tape i) i.args v w') last o w' t').imp fun N h => h.imp fun last h => h.imp fun o h => h.imp fun w' h => h.imp fun t' h => ⟨h.1, h.2.1, h.2.2.1, h.2.2.2.mono fun v hp => ChangeSpec.post_blind hp⟩
  generalize w.heap.size = base at hval0
  generalize w.forCall tape i = W at *
  generalize i.args = args at *
  have hval : ∀ (j : Nat) t v, Tryd.f3.params[j]? = some t → args[j]? = some v → Value.okWide Tryd.prog W .any base t v := hval0
  have hW' := hW
  obtain ⟨p, q, hA0, hV, rfl, hfz, hnd⟩ := hW
  have hA : DataW.TrodAll enc Tryd.prog W 0 (fun _ => true) true Tryd.f3.params.toList args.toList ds p := hA0
  rw [Tryd.params3] at hA hval
  obtain ⟨v0, vs0, d0, ds0, p0, q0, hargs, rfl, rfl, h0, r0⟩ := trodAll_cons hA
  obtain ⟨rfl, rfl, rfl⟩ := trodAll_nil r0
  obtain rfl : args = #[v0] := by cases args; simp_all
  obtain ⟨rfl, rfl⟩ := trodVars_none hV
  obtain ⟨b0, c0, e0, z0, rfl, hz0, s1, hbulk⟩ := open_nums (hval 0 22 v0 rfl rfl) h0
  have hlen : c0 ≤ 1048576 := by
    have h2 : Rows.uptoBulkAll ([d0] ++ []) ≤ 1048576 := of_decide_eq_true hk1
    simp only [List.append_nil, Rows.uptoBulkAll] at h2
    omega
  obtain ⟨ea, hea⟩ := err_cell hL
  clear hA0 hval0
  simp only [List.append_nil] at hW'
  refine ends (shaped_odd hsh) 165 _ hea b0 c0 e0 z0 hz0 hlen s1 fun W' hO => ?_
  have hlt0 : ∀ x ∈ p0, x.block < W.heap.size := fun x hx => by simpa using hW'.lt x (by simp [hx])
  have t0 := WideElems.Trod_stays (sp' := fun b => decide (b < W.heap.size)) laid (by kernel_rfl) (of_decide_eq_true (by kernel_rfl)) h0 (fun x hx => hO.same (hlt0 x hx)) (fun x hx => by simpa using hlt0 x hx)
  exact ⟨_, _, _, [], _, [], hW', trodAll_cons_mk (shut_bool Tryd.underlying4 _) trodAll_mk0, trodAll_cons_mk t0 trodAll_mk0, rfl, hO.kept _, fun h => by cases h⟩
/-- A row whose specification has a condition of its own, others being allowed to leave. -/
theorem holds_leaving_cond {p : Pinned} {s : OpenSpec} {c : OpenClaim} (f : FuncId) (fn : Func) (names : c.program = p.name ∧ c.sum = p.sum ∧ c.spec = s.name) (plain : c.start = .entering ∧ c.outside = [] ∧ c.inits = [] ∧ c.under = none ∧ c.noBlocks = false ∧ c.leaving = true ∧ c.followed = none ∧ c.still = false) (none_ : c.initsInPlace = [] ∧ c.initsUnfollowed = false ∧ c.initsRecurse = false ∧ c.initsNamed = [] ∧ c.initsPassed = []) (hnar : c.narrowed = s.cond.isSome)
    (hfn : p.checked.prog.funcNamed c.func = some f) (hf : p.checked.prog.funcs[f]? = some fn) (closed : joinedFacts p.checked.prog f fn s.bare c = true) (hinst : fn.isInstance p.checked.prog c.origin c.targs) (hwrap : fn.isWrapper p.checked.prog c.wrapper c.mainSum)
    (h : ∀ os : Os, os.Started → ∀ (H : Type) (enc : TypeId × Value → H), ∀ F : Stop.Interp, ReturnsInLeavingWide c.assume p.checked os f .any (c.pre enc p.checked.prog fn s) ((s.at F).post enc p.checked.prog fn c.apart c.fresh c.handsOn c.again)) : c.holds p s := by
  obtain ⟨hstart, hout, hin, hun, hnb, hlv, hfo, hstill⟩ := plain
  simp only [joinedFacts, Bool.and_eq_true, beq_iff_eq, Array.all_eq_true_iff_forall_mem, List.all_eq_true, decide_eq_true_eq] at closed
  obtain ⟨⟨⟨⟨⟨⟨⟨⟨⟨⟨⟨⟨⟨⟨⟨⟨⟨⟨⟨⟨⟨⟨⟨⟨⟨⟨⟨⟨⟨⟨⟨a1, a2⟩, a3⟩, a4⟩, a5⟩, a6⟩, a7⟩, a8⟩, a9⟩, a10⟩, a11⟩, a12⟩, a13⟩, a14⟩, a15⟩, a16⟩, a17⟩, a18⟩, a19⟩, a20⟩, a21⟩, a22⟩, a23⟩, a24⟩, a25⟩, a26⟩, a27⟩, a28⟩, a29⟩, a30⟩, a31⟩, a32⟩ := closed
  have quiet : ∀ os : Os, Stop.quiet p.checked.prog os := fun os k hk => by rw [a9] at hk; cases hk
  have fits : c.startFits p.checked.prog := by unfold OpenClaim.startFits; rw [hstart]; exact a26
  have told : c.startTold p.checked.prog := by unfold OpenClaim.startTold; rw [hstart]; exact ⟨hin, hun, none_⟩
  refine ⟨a1, names.1, names.2.1, names.2.2, a2, a3, fits, told, f, fn, hfn, hf, ⟨a4, a20⟩, (fun hb => by rw [hnb] at hb; cases hb), by unfold OpenClaim.namedList; rw [hfo]; exact a5, hinst, hwrap, a6.trans a7.symm, ⟨a8.trans a9.symm, by unfold Program.envWorded; rw [a9]; rfl, a25⟩, a10, a11, a12, a13, a14, ⟨a15, a31, a32⟩, ⟨a16, a21⟩, ⟨a17, a22, a29, a30⟩, ⟨a23, a27, a28, a18⟩, ?_, fun n hn' => varReadable_some (a19 n hn'), ⟨_, by unfold OpenClaim.world; rw [hout, hstart]; exact WideRow.started_initial, quiet _⟩, [], by unfold OpenClaim.lists; rw [hfo], fun os st _ H enc inj => ?_⟩
  · rw [hout, hnar]
    cases hsh : c.shortTexts with
    | none => simp
    | some _ => rw [hsh] at a24; cases a24
  · have st' : os.Started := by unfold OpenClaim.world at st; rw [hout, hstart] at st; exact st
    rw [OpenClaim.post_not_still hstill]
    unfold OpenClaim.form
    rw [hstart, a6]
    intro F
    have e1 : c.okInput = Input.okWide := by unfold OpenClaim.okInput; rw [hnb]
    have e2 : c.atReturn p.checked.prog = leavingAtReturn p.checked.prog := by unfold OpenClaim.atReturn; rw [hlv]
    have e3 : c.always p.checked.prog [] = nothingAlways := by unfold OpenClaim.always; rw [hfo]
    have e4 : s.post enc p.checked.prog fn F c.outside c.apart c.fresh c.handsOn c.again = (s.at F).post enc p.checked.prog fn c.apart c.fresh c.handsOn c.again := by rw [hout]; rfl
    rw [e1, e2, e3]
    show ReturnsInOpen _ _ _ _ _ _ _ _ (s.post enc p.checked.prog fn F c.outside c.apart c.fresh c.handsOn c.again) _ _
    rw [e4]
    exact h os st' H enc F a26
set_option maxRecDepth 100000 in
theorem over : Rows.mountsUptoRow.holds Tryd.pinned (Rows.OpenSpec.upto Rows.mountsSpec) := by
  refine holds_leaving_cond 3 Tryd.f3 ⟨rfl, rfl, rfl⟩ ⟨rfl, rfl, rfl, rfl, rfl, rfl, rfl, rfl⟩ ⟨rfl, rfl, rfl, rfl, rfl⟩ rfl (by kernel_rfl) Tryd.func3 (by kernel_rfl) (of_decide_eq_true (by kernel_rfl)) (by unfold Func.isWrapper; first | (rw [if_pos (by decide +kernel)]; kernel_rfl) | (rw [if_neg (by decide +kernel)]; exact ⟨rfl, rfl⟩)) fun os started H enc F => ?_
  rw [OpenClaim.pre_eq_preRow]
  exact lifted os started H enc F
set_option maxRecDepth 100000 in
theorem looks_of : ∀ f fn, Tryd.pinned.checked.prog.funcNamed Rows.mountsUptoRow.func = some f → Tryd.pinned.checked.prog.funcs[f]? = some fn → false = Tryd.pinned.checked.prog.looks [] ∧ ∀ (j : Nat) t, fn.params[j]? = some t → Tryd.pinned.checked.prog.wantsStandIn t = false := by
  intro f fn hf hfn
  obtain rfl : f = 3 := Option.some.inj (hf.symm.trans (by kernel_rfl))
  obtain rfl : fn = Tryd.f3 := Option.some.inj (hfn.symm.trans Tryd.func3)
  refine ⟨by kernel_rfl, fun j t ht => ?_⟩
  rw [Tryd.params3] at ht
  have h3 : t = 22 := by
    rcases j with _ | j
    · simpa using ht.symm
    · simp at ht
  subst h3
  exact (show Tryd.prog.wantsStandIn 22 = false by kernel_rfl)
/-- ████ THE STATEMENT ████ -/
theorem proved : Rows.MountsUptoCardSaid := by
  refine ⟨?_, fun D hD => (by cases hD), mountsUpto_row_tie, (fun h => (by cases h)), by kernel_rfl⟩
  exact Claim7.tied_new_at .later [.sentinel] true (Claim7.new_of_sixth over Rows.mountsUptoCard.stood.harness false rfl ⟨rfl, rfl⟩ (by kernel_rfl) (by kernel_rfl) looks_of) (by kernel_rfl)
#print axioms proved
end Go.Proofs.YtpiefebngnlfoaaDoor.mountsupto
