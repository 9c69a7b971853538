/-
  WALKING IN 'Reach', ON: an operation by its run and its likeness; panic, defer, recover; maps; a region that draws its order, by what holds of what is done.
-/
import Derived.Test.YtpiefebngnlfoaaDoorLh
import Derived.Conc.DeferLaws
import Derived.Test.YtpiefebngnlfoaaDoorRows
import Derived.WalkKit
import Derived.Laws.BitsAllLaws
import Derived.ArgAppend
set_option linter.unusedVariables false
set_option linter.unusedSimpArgs false
namespace Go.Vw
open Go.Conc

section
variable {P : Program} {F : FuncId → Bool} {Stop : Goroutine → (Nat → Prop) → World → Prop} {S : Nat → Prop} {v : World} {fn : FuncId} {cs : List Frame} {k : List Item} {n : Nat} {ops : Array Oper} {i : Nat} {rest : List Nat} {o : Oper} {b : Frame} {a : Act} {α : Type}

/-- The view, with the world's tape. -/
def taped (v W : World) : World := { v with tape := W.tape, drawn := W.drawn }
theorem taped_twin (v W : World) : Twin v (taped v W) := ⟨rfl, rfl, rfl⟩
/-- What is said of the world behind. -/
structure Step (P : Program) (S : Nat → Prop) (w' W W' : World) (es : Array Event) : Prop where
  ev : ∀ e ∈ es, EvOk S W'.heap.size e
  size : W.heap.size ≤ W'.heap.size
  hid : ∀ b, S b → W'.heap[b]? = W.heap[b]?
  rel : Rel P S 0 w' W'
theorem sim_ok {s : Sem α} (hsim : Sim P S s) {W : World} (hR : Rel P S 0 v W) {x : α} {w' : World} (hr : s.run P (taped v W) = .ok x w') : ∃ W' es, s.runT P W #[] = (.ok x W', es) ∧ Step P S w' W W' es := by
  have e1 := Sem.runT_fst P s (taped v W) #[]
  rw [hr] at e1
  cases hrv : s.runT P (taped v W) #[] with
  | mk r es0 =>
  rw [hrv] at e1
  simp only at e1
  subst e1
  have hRu : Rel P S w'.drawn (taped v W) W := ⟨fun j q _ => rfl, hR.os, hR.output, hR.size, hR.seen, hR.hid, hR.tame, hR.high⟩
  have hA := hsim w'.drawn (taped v W) W #[] hRu
  rw [hrv] at hA
  obtain ⟨W', e, g⟩ := hA (Nat.le_refl _)
  have hK := kept_runT (P := P) s W #[]
  rw [e] at hK
  refine ⟨W', es0, e, fun x hx => ?_, hK.size, g.hidden, g.rel.zero⟩
  obtain ⟨l, el, hl⟩ := g.grow
  have hm' : x ∈ es0.toList := by simpa using hx
  rw [el] at hm'
  simp at hm'
  have := hl x hm'
  rwa [g.rel.size] at this
theorem sim_panic {s : Sem α} (hsim : Sim P S s) {W : World} (hR : Rel P S 0 v W) {x : Value} {w' : World} (hr : s.run P (taped v W) = .halt (.panic x) w') : ∃ W' es, s.runT P W #[] = (.halt (.panic x) W', es) ∧ Step P S w' W W' es := by
  have e1 := Sem.runT_fst P s (taped v W) #[]
  rw [hr] at e1
  cases hrv : s.runT P (taped v W) #[] with
  | mk r es0 =>
  rw [hrv] at e1
  simp only at e1
  subst e1
  have hRu : Rel P S w'.drawn (taped v W) W := ⟨fun j q _ => rfl, hR.os, hR.output, hR.size, hR.seen, hR.hid, hR.tame, hR.high⟩
  have hA := hsim w'.drawn (taped v W) W #[] hRu
  rw [hrv] at hA
  rcases hA with ⟨hd, _⟩ | hA
  · exact hd.elim
  obtain ⟨_, W', e, g⟩ := hA (Nat.le_refl _)
  have hK := kept_runT (P := P) s W #[]
  rw [e] at hK
  refine ⟨W', es0, e, fun x hx => ?_, hK.size, g.hidden, g.rel.zero⟩
  obtain ⟨l, el, hl⟩ := g.grow
  have hm' : x ∈ es0.toList := by simpa using hx
  rw [el] at hm'
  simp at hm'
  have := hl x hm'
  rwa [g.rel.size] at this
theorem run_of_runT {s : Sem α} {W : World} {r : Result α} {es : Array Event} (h : s.runT P W #[] = (r, es)) : s.run P W = r ∧ s.events P W #[] = es := by
  have := Sem.runT_fst P s W #[]
  rw [h] at this
  exact ⟨this.symm, by unfold Sem.events; rw [h]⟩
/-- ████ AN OPERATION, by its likeness and its run. ████ -/
theorem reach_opS (hk : b.kind ≠ .early) (ho : ops[i]? = some o) (hw : Region.wanted o (yielded ops a.tmps) = true) (hsim : Sim P S (execOp a.eval o))
    (h : ∀ u, Twin v u → ∃ x w', ((execOp a.eval o).run P u = .ok (.value x) w' ∨ ((execOp a.eval o).run P u = .ok .skip w' ∧ x = undef)) ∧ Reach P Stop (G (b.at (a.put o.dst x) (.inRegion ops rest :: k)) cs) S w') :
    Reach P Stop (G (b.at a (.inRegion ops (i :: rest) :: k)) cs) S v := by
  refine reach_step rfl fun W hR => ?_
  obtain ⟨x, w', hrun, hn⟩ := h _ (taped_twin v W)
  rcases hrun with hrun | ⟨hrun, rfl⟩
  · obtain ⟨W', es, e, hS⟩ := sim_ok hsim hR hrun
    obtain ⟨e1, e2⟩ := run_of_runT e
    refine ⟨_, W', listed P b.fn a o W, w', stepG_value ho hw hk e1, fun y hy => ?_, hS.size, hS.hid, hS.rel, hn⟩
    have hm := mem_listed hy
    rw [e2] at hm
    exact hS.ev y hm
  · obtain ⟨W', es, e, hS⟩ := sim_ok hsim hR hrun
    obtain ⟨e1, e2⟩ := run_of_runT e
    refine ⟨_, W', listed P b.fn a o W, w', stepG_none ho hw hk e1, fun y hy => ?_, hS.size, hS.hid, hS.rel, hn⟩
    have hm := mem_listed hy
    rw [e2] at hm
    exact hS.ev y hm
/-- A panic. -/
theorem reach_panicOp {x : Value} (hk : b.kind ≠ .early) (ho : ops[i]? = some o) (hw : Region.wanted o (yielded ops a.tmps) = true) (hsim : Sim P S (execOp a.eval o)) (h : ∀ u, Twin v u → (execOp a.eval o).run P u = .halt (.panic x) u)
    (hn : ∀ todo, Reach P Stop (G { b.at a todo with mode := .panicking [{ v := x, recovered := false }] } cs) S v) : Reach P Stop (G (b.at a (.inRegion ops (i :: rest) :: k)) cs) S v := by
  refine reach_step rfl fun W hR => ?_
  obtain ⟨W', es, e, hS⟩ := sim_panic hsim hR (h _ (taped_twin v W))
  obtain ⟨e1, e2⟩ := run_of_runT e
  have hk' : (b.kind == CallKind.early) = false := by simpa using hk
  refine ⟨G { b.at a (.inRegion ops (i :: rest) :: k) with mode := .panicking [{ v := x, recovered := false }] } cs, W', listed P b.fn a o W, _, ?_, fun y hy => ?_, hS.size, hS.hid, hS.rel, Reach.twin (taped_twin v W).symm (hn _)⟩
  · rw [stepG_oper ho hw]
    simp [stepG.apply, e, e1, e2, G, Frame.at, Frame.raise, hk', GStep.after, listed]
  · have hm := mem_listed hy
    rw [e2] at hm
    exact hS.ev y hm
/-- A deferred call is laid by. -/
theorem reach_defer {f : FuncId} {ops2 : Array Operand} {ats : Array TypeId} (ho : ops[i]? = some o) (hw : Region.wanted o (yielded ops a.tmps) = true) (hk : b.kind ≠ .early) (hop : o.op = .defer { callee := .value (.func f), args := ops2, argTypes := ats })
    (hn : Reach P Stop (G (b.at (Act.put ⟨a.tmps, dcall f (ops2.map a.eval) :: a.defers⟩ o.dst undef) (.inRegion ops rest :: k)) cs) S v) : Reach P Stop (G (b.at a (.inRegion ops (i :: rest) :: k)) cs) S v :=
  reach_ctl rfl (fun w => stepG_defer ho hw hk hop) hn
/-- A frame that panics and has nothing deferred. -/
theorem reach_unwind {fr c : Frame} {chain : List PanicEntry} {gf : Func} (hm : fr.mode = .panicking chain) (hd : fr.defers = []) (hf : P.funcs[fr.fn]? = some gf) (hn : Reach P Stop (G (c.raise chain) cs) S v) : Reach P Stop (G fr (c :: cs)) S v := by
  refine reach_ctl rfl (fun w => ?_) hn
  simp [G, stepG, unwind, hm, hd, Frame.catches, hf]
/-- A frame on its way out calls what it deferred. -/
theorem reach_deferred {fr : Frame} {f : FuncId} {gf : Func} {c : Code} {args : Array Value} {ds : List Deferred} (hm : fr.mode ≠ .run) (hd : fr.defers = dcall f args :: ds) (hf : P.funcs[f]? = some gf) (hname : (gf.name == "runtime.NumGoroutine") = false) (hb : gf.body = some c)
    (hn : Reach P Stop (G ((baseD f).at { tmps := args ++ Array.replicate (gf.ntmps - args.size) undef, defers := [] } [.code c]) ({ fr with defers := ds } :: cs)) S v) : Reach P Stop (G fr cs) S v := by
  have h1 : ¬ gf.name = "runtime.NumGoroutine" := by simpa using hname
  refine reach_ctl rfl (fun w => ?_) hn
  rw [← enter_atD args hf hb]
  obtain ⟨fn', tmps', todo', defers', mode', kind', round'⟩ := fr
  simp only at hm hd
  subst hd
  cases mode' with
  | run => exact absurd rfl hm
  | returning => simp [G, stepG, unwind, callDeferred, dcall, invoke, callFunc, hf, h1, hb, GStep.after, seen_none]
  | panicking ch => simp [G, stepG, unwind, callDeferred, dcall, invoke, callFunc, hf, h1, hb, GStep.after, seen_none]
/-- 'recover', in a function that was deferred by one that panics. -/
theorem reach_recover {c : Frame} {x : Value} {older : List PanicEntry} (hk : b.kind = .deferred) (ho : ops[i]? = some o) (hw : Region.wanted o (yielded ops a.tmps) = true) (hr : ∀ w, (execOp a.eval o).runT P w #[] = (.ok .recover w, #[])) (hm : c.mode = .panicking ({ v := x, recovered := false } :: older))
    (hn : Reach P Stop (G (b.at (a.put o.dst x) (.inRegion ops rest :: k)) ({ c with mode := .panicking ({ v := x, recovered := true } :: older) } :: cs)) S v) : Reach P Stop (G (b.at a (.inRegion ops (i :: rest) :: k)) (c :: cs)) S v := by
  refine reach_ctl rfl (fun w => ?_) hn
  have hfin : (b.at a (.inRegion ops (i :: rest) :: k)).finish x = b.at (a.put o.dst x) (.inRegion ops rest :: k) := by rw [Frame.finish_at, ho]; rfl
  obtain ⟨e1, e2⟩ := run_of_runT (hr w)
  rw [stepG_oper ho hw, ← hfin]
  simp [stepG.apply, e1, e2, G, Frame.at, hk, GStep.after, tryRecover, hm, seen_none]
/-- What was deferred returns to one that panicked and is recovered. -/
theorem reach_backD {c : Frame} {x : Value} {gf : Func} (hk : b.kind = .deferred) (hd : a.defers = []) (hf : P.funcs[b.fn]? = some gf) {y : Value} (hr : ∀ w, (results gf a.tmps).runT P w #[] = (.ok y w, #[])) (hm : c.mode = .panicking [{ v := x, recovered := true }])
    {todo : List Item} (hn : Reach P Stop (G { c with mode := .returning } cs) S v) : Reach P Stop (G { b.at a todo with mode := .returning } (c :: cs)) S v := by
  refine reach_ctl rfl (fun w => ?_) hn
  obtain ⟨e1, e2⟩ := run_of_runT (hr w)
  simp [G, stepG, unwind, doReturn, Frame.at, hk, hd, hf, e1, e2, hm, seen_none, GStep.after]

/-- A function's contract where it panics. -/
def CallsP (P : Program) (g : FuncId) (args : Array Value) (S : Nat → Prop) (v : World) (Post : Value → (Nat → Prop) → World → Prop) : Prop :=
  ∀ (Stop : Goroutine → (Nat → Prop) → World → Prop) (c : Frame) (cs : List Frame), (∀ x S' v', View P S' v' → Post x S' v' → Reach P Stop (G (c.raise [{ v := x, recovered := false }]) cs) S' v') → Reach P Stop (G (Frame.enter P g args .normal) (c :: cs)) S v
theorem callsP_body {g : FuncId} {gf : Func} {c : Code} {args : Array Value} {Post : Value → (Nat → Prop) → World → Prop} (hf : P.funcs[g]? = some gf) (hb : gf.body = some c) (hn : gf.ntmps = n) (hs : args.size ≤ n)
    (h : ∀ (Stop : Goroutine → (Nat → Prop) → World → Prop) (cc : Frame) (cs : List Frame),
      (∀ (f' : Nat → Value) (todo : List Item) (S' : Nat → Prop) (v' : World) (x : Value), Post x S' v' → Reach P Stop (G { (base g).at ⟨TA n f', []⟩ todo with mode := .panicking [{ v := x, recovered := false }] } (cc :: cs)) S' v') →
      Reach P Stop (G ((base g).at ⟨TA n (argF args), []⟩ [.code c]) (cc :: cs)) S v) : CallsP P g args S v Post := by
  intro Stop cc cs hr
  rw [enter_at _ hf hb, hn, TA_enter hs]
  exact h Stop cc cs fun f' todo S' v' x q => reach_unwind rfl rfl hf (reach_view fun hv => hr x S' v' hv q)

/-! ### maps -/
theorem Sim.makeFunc (g : Fn) (x y : Array Value) : Sim P S (Instr.makeFunc g x y) := Sim.pure _
theorem Sim.makeMap (t : TypeId) : Sim P S (Instr.makeMap t none) := Sim.bind (Sim.newObj trivial) fun _ => Sim.pure _
theorem Sim.panic_iface (t : TypeId) (x : Value) : Sim P S (Instr.panic (.iface t x)) := Sim.goPanic _

end

/-! ### frames that have deferred something -/
section
variable {P : Program} {F : FuncId → Bool} {Stop : Goroutine → (Nat → Prop) → World → Prop} {S : Nat → Prop} {v : World} {fn : FuncId} {cs : List Frame} {k : List Item} {n : Nat} {f : Nat → Value} {ops : Array Oper} {i : Nat} {rest : List Nat} {o : Oper} {dst : Option Tmp} {op : Op} {ty : TypeId} {pos : String} {aft : Array Edge} {grd : Option (Nat × Bool)} {ds : List Deferred} {tmps : Array Value} {a : Act}
theorem sA {x y : Code} (h : Reach P Stop (G ((base fn).at ⟨tmps, ds⟩ (.code x :: .code y :: k)) cs) S v) : Reach P Stop (G ((base fn).at ⟨tmps, ds⟩ (.code (.seq x y) :: k)) cs) S v := reach_ctl rfl (fun _ => stepG_seq) h
theorem sE {ops : Array Oper} (h : Reach P Stop (G ((base fn).at ⟨tmps, ds⟩ k) cs) S v) : Reach P Stop (G ((base fn).at ⟨tmps, ds⟩ (.inRegion ops [] :: k)) cs) S v := reach_ctl rfl (fun _ => stepG_region_end) h
theorem sR {id : Nat} {ops : List Oper} (h : Reach P Stop (G ((base fn).at ⟨tmps, ds⟩ (.inRegion ops.toArray (tO 0 ops) :: k)) cs) S v) : Reach P Stop (G ((base fn).at ⟨tmps, ds⟩ (.code (.region id ops.toArray false) :: k)) cs) S v :=
  reach_ctl rfl (fun _ => stepG_region) (by rw [tO_map] at h; simpa using h)
theorem sO (hG : Good P F) (ho : ops[i]? = some ⟨dst, op, ty, pos, aft, grd⟩)
    (h : ∀ u, Twin v u → ∀ K : Value → World → Prop, (∀ x, Reach P Stop (G ((base fn).at ⟨TA n (stO f dst x), ds⟩ (.inRegion ops rest :: k)) cs) S v → K x u) → uponV K ((execOp (Act.eval ⟨TA n f, ds⟩) ⟨dst, op, ty, pos, aft, grd⟩).run P u))
    (hw : Region.wanted ⟨dst, op, ty, pos, aft, grd⟩ (yielded ops (TA n f)) = true := by first | rfl | (simp [Region.wanted, yielded, TA_get, *]; first | done | fail)) (hok : okOper P F ⟨dst, op, ty, pos, aft, grd⟩ = true := by kernel_rfl) :
    Reach P Stop (G ((base fn).at ⟨TA n f, ds⟩ (.inRegion ops (i :: rest) :: k)) cs) S v := by
  refine reach_opS (by simp [base]) ho hw (Sim.execOp hG.cc hG.closed (fun g => rfl) hok) fun u hu => ?_
  have h1 := h u hu (fun x w => ∃ x' w', ((execOp (Act.eval ⟨TA n f, ds⟩) ⟨dst, op, ty, pos, aft, grd⟩).run P u = .ok (.value x) w → (execOp (Act.eval ⟨TA n f, ds⟩) ⟨dst, op, ty, pos, aft, grd⟩).run P u = .ok (.value x') w') ∧ Reach P Stop (G ((base fn).at (Act.put ⟨TA n f, ds⟩ dst x') (.inRegion ops rest :: k)) cs) S w') fun x hx => ⟨x, u, fun e => e, by
    rw [TA_put]
    exact Reach.twin ⟨hu.heap.symm, hu.os.symm, hu.output.symm⟩ hx⟩
  cases hr : (execOp (Act.eval ⟨TA n f, ds⟩) ⟨dst, op, ty, pos, aft, grd⟩).run P u with
  | halt y w' => rw [hr] at h1; exact h1.elim
  | ok nx w' =>
    rw [hr] at h1
    cases nx with
    | value x =>
      obtain ⟨x', w'', e, hn⟩ := h1
      exact ⟨x', w'', .inl (e rfl), hn⟩
    | _ => exact h1.elim
/-- An operation that is not wanted, since what it hangs on was not either. -/
theorem rP2 (ho : ops[i]? = some ⟨dst, op, ty, pos, aft, grd⟩) (hn : Reach P Stop (G ((base fn).at ⟨TA n (stO f dst undef), []⟩ (.inRegion ops rest :: k)) cs) S v)
    (hw : Region.wanted ⟨dst, op, ty, pos, aft, grd⟩ (yielded ops (TA n f)) = false := by (simp [Region.wanted, yielded, TA_get, undef, *]; first | done | fail)) :
    Reach P Stop (G ((base fn).at ⟨TA n f, []⟩ (.inRegion ops (i :: rest) :: k)) cs) S v := reach_pass ho hw hn
/-- A call, by a contract where it panics. -/
theorem reach_callP {g : FuncId} {gf : Func} {c : Code} {args : Array Operand} {ats : Array TypeId} {vs : Array Value} {Post : Value → (Nat → Prop) → World → Prop} (ho : ops[i]? = some o) (hw : Region.wanted o (yielded ops tmps) = true) (hop : o.op = .call { callee := .value (.func g), args, argTypes := ats })
    (hf : P.funcs[g]? = some gf) (hname : (gf.name == "runtime.NumGoroutine") = false) (hb : gf.body = some c) (hvs : args.map (⟨tmps, ds⟩ : Act).eval = vs) (hc : CallsP P g vs S v Post)
    (hn : ∀ x S' v' todo, View P S' v' → Post x S' v' → Reach P Stop (G { (base fn).at ⟨tmps, ds⟩ todo with mode := .panicking [{ v := x, recovered := false }] } cs) S' v') :
    Reach P Stop (G ((base fn).at ⟨tmps, ds⟩ (.inRegion ops (i :: rest) :: k)) cs) S v :=
  reach_ctl rfl (fun w => stepG_callBody ho hw (by simp [base]) hop hf hname hb hvs) (hc Stop _ cs fun x S' v' hv q => hn x S' v' _ hv q)
theorem sim_panicOp {x : Operand} {t : TypeId} {e : Value} (hop : o.op = .panic x) (hx : a.eval x = .iface t e) : Sim P S (execOp a.eval o) := by
  unfold execOp
  simp only [hop, hx]
  exact Sim.bind (Sim.panic_iface _ _) fun _ => Sim.pure _
theorem run_panicOp {x : Operand} {t : TypeId} {e : Value} {u : World} (hop : o.op = .panic x) (hx : a.eval x = .iface t e) : (execOp a.eval o).run P u = .halt (.panic (.iface t e)) u := by
  unfold execOp
  simp [hop, hx, Instr.panic, goPanic]
end

/-! ### a region that draws its order -/
section
variable {P : Program} {F : FuncId → Bool} {Stop : Goroutine → (Nat → Prop) → World → Prop} {S : Nat → Prop} {v : World} {fn : FuncId} {cs : List Frame} {k : List Item} {n : Nat} {ops : Array Oper}

/-- How many are not done. -/
def undone (l : Array Bool) : List Nat → Nat
  | [] => 0
  | j :: js => (if l.getD j true = false then 1 else 0) + undone l js
theorem undone_le (l : Array Bool) : ∀ js, undone l js ≤ js.length
  | [] => Nat.le_refl _
  | j :: js => by
    have := undone_le l js
    simp only [undone, List.length_cons]
    split <;> omega
theorem undone_set {l : Array Bool} {i : Nat} (hi : l.getD i true = false) : ∀ js, undone (l.setIfInBounds i true) js ≤ undone l js ∧ (i ∈ js → undone (l.setIfInBounds i true) js + 1 ≤ undone l js)
  | [] => ⟨Nat.le_refl _, fun h => by cases h⟩
  | j :: js => by
    obtain ⟨h1, h2⟩ := undone_set hi js
    have hlt : i < l.size := by
      refine Nat.lt_of_not_le fun h => ?_
      simp [Array.getD_eq_getD_getElem?, Array.getElem?_eq_none h] at hi
    by_cases e : i = j
    · subst e
      have e1 : (l.setIfInBounds i true).getD i true = true := by simp [Array.getD_eq_getD_getElem?, Array.getElem?_setIfInBounds, hlt]
      simp only [undone, e1, hi, Bool.true_eq_false, if_false, if_true]
      exact ⟨by omega, fun _ => by omega⟩
    · have e1 : (l.setIfInBounds i true).getD j true = l.getD j true := by simp [Array.getD_eq_getD_getElem?, Array.getElem?_setIfInBounds, e]
      simp only [undone, e1]
      refine ⟨by omega, fun h => ?_⟩
      have := h2 (by
        rcases List.mem_cons.1 h with h | h
        · exact absurd h e
        · exact h)
      omega
theorem undone_zero {l : Array Bool} : ∀ {js : List Nat}, undone l js = 0 → ∀ j ∈ js, l.getD j true = true
  | [], _, j, h => by cases h
  | j' :: js, h0, j, h => by
    simp only [undone] at h0
    rcases List.mem_cons.1 h with rfl | h
    · cases hb : l.getD j true with
      | true => rfl
      | false => rw [if_pos hb] at h0; omega
    · exact undone_zero (by omega) j h
/-- Each waits for those ahead of it alone. -/
def topB (ops : Array Oper) : Bool := (List.range ops.size).all fun i => (depsOf ops i).all fun a => decide (a < i)
theorem all_done {l : Array Bool} (ht : topB ops = true) (hs : l.size = ops.size) (hr : Region.ready .any ops l = []) : ∀ i, i < ops.size → l.getD i false = true := by
  intro i
  induction i using Nat.strongRecOn with
  | ind i ih =>
    intro hi
    cases hb : l.getD i false with
    | true => rfl
    | false =>
      have hd : ∀ a ∈ depsOf ops i, l.getD a false = true := fun a ha => by
        have h1 := List.all_eq_true.1 (List.all_eq_true.1 ht i (by simpa using hi)) a ha
        have h2 : a < i := by simpa using h1
        exact ih a h2 (by omega)
      have : i ∈ Region.ready .any ops l := by
        refine mem_ready.2 ⟨?_, ops[i], Array.getElem?_eq_getElem hi, fun e he hb' => hd _ ?_⟩
        · simpa [Array.getD_eq_getD_getElem?, hs, hi] using hb
        · unfold depsOf
          rw [Array.getElem?_eq_getElem hi]
          exact List.mem_map.2 ⟨e, List.mem_filter.2 ⟨by simpa using he, hb'⟩, rfl⟩
      rw [hr] at this
      cases this
theorem inv_sound (ht : topB ops = true) (I : Array Bool → (Nat → Value) → World → Prop)
    (step : ∀ l f v i rest, l.size = ops.size → I l f v → i ∈ Region.ready .any ops l → (∀ f' v', I (l.setIfInBounds i true) f' v' → Reach P Stop (G ((base fn).at ⟨TA n f', []⟩ (.inRegion ops rest :: k)) cs) S v') → Reach P Stop (G ((base fn).at ⟨TA n f, []⟩ (.inRegion ops (i :: rest) :: k)) cs) S v)
    (fin : ∀ l f v, I l f v → (∀ i, i < ops.size → l.getD i false = true) → Reach P Stop (G ((base fn).at ⟨TA n f, []⟩ (.inRegion ops [] :: k)) cs) S v) :
    ∀ (fuel t : Nat) (l : Array Bool) (f : Nat → Value) (v : World), l.size = ops.size → I l f v → undone l (List.range ops.size) ≤ fuel → Reach P Stop (G ((base fn).at ⟨TA n f, []⟩ (.inRegion ops (Region.linearise.go .any ops fuel t l []) :: k)) cs) S v := by
  intro fuel
  induction fuel with
  | zero =>
    intro t l f v hs hI hle
    have h0 := undone_zero (l := l) (js := List.range ops.size) (by omega)
    simp only [Region.linearise.go, List.reverse_nil]
    refine fin l f v hI fun i hi => ?_
    have := h0 i (by simpa using hi)
    simpa [Array.getD_eq_getD_getElem?, hs, hi] using this
  | succ fuel ih =>
    intro t l f v hs hI hle
    simp only [Region.linearise.go]
    change Reach P Stop (G ((base fn).at ⟨TA n f, []⟩ (.inRegion ops (match (Region.ready .any ops l)[t % (Region.ready .any ops l).length]? with
      | some i => Region.linearise.go .any ops fuel (t / (Region.ready .any ops l).length) (l.setIfInBounds i true) [i]
      | none => [].reverse) :: k)) cs) S v
    cases hi : (Region.ready .any ops l)[t % (Region.ready .any ops l).length]? with
    | none =>
      have hnil : Region.ready .any ops l = [] := by
        cases hr : Region.ready .any ops l with
        | nil => rfl
        | cons x xs =>
          rw [hr] at hi
          have hlt : t % (x :: xs).length < (x :: xs).length := Nat.mod_lt _ (by simp)
          rw [List.getElem?_eq_none_iff] at hi
          omega
      exact fin l f v hI (all_done ht hs hnil)
    | some i =>
      simp only []
      rw [linearise_go_acc, List.reverse_singleton, List.singleton_append]
      have hm := List.mem_of_getElem? hi
      refine step l f v i _ hs hI hm fun f' v' hI' => ?_
      obtain ⟨h1, o, ho, _⟩ := mem_ready.1 hm
      have hlt : i < ops.size := (Array.getElem?_eq_some_iff.1 ho).1
      refine ih _ _ f' v' (by simpa using hs) hI' ?_
      have := (undone_set (l := l) (i := i) (by simpa using h1) (List.range ops.size)).2 (by simpa using hlt)
      omega
/-- ████ A REGION THAT DRAWS ITS ORDER, by what holds of what is done. ████ -/
theorem reach_drawI (hm : P.follows .mixedOrders = true) (ht : topB ops = true) {id : Nat} {f : Nat → Value} (I : Array Bool → (Nat → Value) → World → Prop) (h0 : I (Array.replicate ops.size false) f v)
    (step : ∀ l f v i rest, l.size = ops.size → I l f v → i ∈ Region.ready .any ops l → (∀ f' v', I (l.setIfInBounds i true) f' v' → Reach P Stop (G ((base fn).at ⟨TA n f', []⟩ (.inRegion ops rest :: k)) cs) S v') → Reach P Stop (G ((base fn).at ⟨TA n f, []⟩ (.inRegion ops (i :: rest) :: k)) cs) S v)
    (fin : ∀ l f v, I l f v → (∀ i, i < ops.size → l.getD i false = true) → Reach P Stop (G ((base fn).at ⟨TA n f, []⟩ (.inRegion ops [] :: k)) cs) S v) :
    Reach P Stop (G ((base fn).at ⟨TA n f, []⟩ (.code (.region id ops true) :: k)) cs) S v := by
  refine reach_step rfl fun W hR => ?_
  refine ⟨_, { W with drawn := W.drawn + 1 }, #[], v, stepG_region_draw, by simp, Nat.le_refl _, fun _ _ => rfl, ⟨fun j q hj => by omega, hR.os, hR.output, hR.size, hR.seen, hR.hid, hR.tame, hR.high⟩, ?_⟩
  simp only [Region.schedule, hm, Bool.true_or, if_true, Region.linearise]
  refine inv_sound ht I step fin _ _ _ _ _ (by simp) h0 ?_
  have := undone_le (Array.replicate ops.size false) (List.range ops.size)
  simpa using this
def dstO (ops : Array Oper) (i : Nat) : Option Nat := (ops[i]?).bind (·.dst)
def valO (ops : Array Oper) (f : Nat → Value) (j : Nat) : Value := match dstO ops j with
  | some s => f s
  | none => undef
/-- No two write the same slot. -/
def apartB (ops : Array Oper) : Bool := (List.range ops.size).all fun i => (List.range ops.size).all fun j => decide (i = j) || (match dstO ops i, dstO ops j with | some s, some t => decide (s ≠ t) | _, _ => true)
theorem slots_apart (h : apartB ops = true) {i j s : Nat} (hi : i < ops.size) (hj : j < ops.size) (hne : i ≠ j) (h1 : dstO ops i = some s) : dstO ops j ≠ some s := fun h2 => by
  have := List.all_eq_true.1 (List.all_eq_true.1 h i (by simpa using hi)) j (by simpa using hj)
  simp [h1, h2, hne] at this
theorem done_set {l : Array Bool} {i j : Nat} (h : (l.setIfInBounds i true).getD j false = true) : j = i ∨ l.getD j false = true := by
  by_cases e : i = j
  · exact .inl e.symm
  · right
    simpa [Array.getD_eq_getD_getElem?, Array.getElem?_setIfInBounds, e] using h
/-- ████ A REGION THAT DRAWS ITS ORDER, whose operations make memory at most, each with what it yields. ████ -/
theorem reach_phase (hm : P.follows .mixedOrders = true) (ht : topB ops = true) (ha : apartB ops = true) {id : Nat} {f0 : Nat → Value} (spec : Nat → Value → World → Prop) (hst : ∀ j x w w', spec j x w → Ext w w' → spec j x w') (hnone : ∀ j, j < ops.size → dstO ops j = none → ∀ x w, spec j x w → spec j undef w)
    (step : ∀ i f w rest, i < ops.size → Ext v w → (∀ s, (∀ j, j < ops.size → dstO ops j ≠ some s) → f s = f0 s) → (∀ a, a ∈ depsOf ops i → spec a (valO ops f a) w) → (∀ x w', Ext w w' → spec i x w' → Reach P Stop (G ((base fn).at ⟨TA n (stO f (dstO ops i) x), []⟩ (.inRegion ops rest :: k)) cs) S w') → Reach P Stop (G ((base fn).at ⟨TA n f, []⟩ (.inRegion ops (i :: rest) :: k)) cs) S w)
    (fin : ∀ f w, Ext v w → (∀ s, (∀ j, j < ops.size → dstO ops j ≠ some s) → f s = f0 s) → (∀ j, j < ops.size → spec j (valO ops f j) w) → Reach P Stop (G ((base fn).at ⟨TA n f, []⟩ (.inRegion ops [] :: k)) cs) S w) :
    Reach P Stop (G ((base fn).at ⟨TA n f0, []⟩ (.code (.region id ops true) :: k)) cs) S v := by
  refine reach_drawI hm ht (fun l f w => Ext v w ∧ (∀ s, (∀ j, j < ops.size → dstO ops j ≠ some s) → f s = f0 s) ∧ ∀ j, j < ops.size → l.getD j false = true → spec j (valO ops f j) w) ⟨.refl v, fun _ _ => rfl, fun j hj h => ?_⟩ ?_ ?_
  · simp [Array.getD_eq_getD_getElem?, hj] at h
  · rintro l f w i rest hl ⟨hE, hf, hd⟩ hi nxt
    obtain ⟨h1, o, ho, _⟩ := mem_ready.1 hi
    have hlt : i < ops.size := (Array.getElem?_eq_some_iff.1 ho).1
    refine step i f w rest hlt hE hf (fun a h => ?_) fun x w' hE' hs => nxt _ _ ⟨hE.trans _ _ _ hE', fun s hs' => ?_, fun j hj hj' => ?_⟩
    · have h2 := ready_deps hi a h
      refine hd a ?_ h2
      refine Nat.lt_of_not_le fun h3 => ?_
      rw [← hl] at h3
      simp [Array.getD_eq_getD_getElem?, Array.getElem?_eq_none h3] at h2
    · rw [← hf s hs']
      have := hs' i hlt
      cases hdo : dstO ops i with
      | none => rfl
      | some t =>
        rw [hdo] at this
        have : s ≠ t := fun e => this (by rw [e])
        simp [stO, st, this]
    · by_cases e : j = i
      · subst e
        have : valO ops (stO f (dstO ops j) x) j = if (dstO ops j).isSome then x else undef := by
          unfold valO
          cases hdo : dstO ops j <;> simp [stO, st]
        rw [this]
        cases hdo : dstO ops j with
        | some t => simpa using hs
        | none =>
          simp only [Option.isSome_none, Bool.false_eq_true, if_false]
          exact hnone j hj hdo x w' hs
      · have h2 := (done_set hj').resolve_left e
        have : valO ops (stO f (dstO ops i) x) j = valO ops f j := by
          unfold valO
          cases hdj : dstO ops j with
          | none => rfl
          | some t =>
            cases hdi : dstO ops i with
            | none => rfl
            | some t' =>
              have hne : t ≠ t' := fun e' => slots_apart ha hj hlt e hdj (by rw [hdi, e'])
              simp [stO, st, hne]
        rw [this]
        exact hst _ _ _ _ (hd j hj h2) hE'
  · rintro l f w ⟨hE, hf, hd⟩ hall
    exact fin f w hE hf fun j hj => hd j hj (hall j hj)
end
end Go.Vw

/-
  The ground of walks over this program.
-/
set_option linter.unusedVariables false
set_option linter.unusedSimpArgs false
namespace Go.Vw
open Go.Conc
def isNamed : TypeDesc → Bool
  | .named _ _ => true
  | _ => false
theorem reckonStruct_plain {info : TypeId → Option TypeInfo} {fs : Array Field} {i : TypeInfo} (h : Made.reckonStruct info fs = some i) : isNamed i.desc = false := by
  unfold Made.reckonStruct at h
  simp only [Option.bind_eq_bind, Option.bind_eq_some_iff, Option.pure_def] at h
  obtain ⟨st, hst, h⟩ := h
  clear hst
  split at h
  · simp only [Option.some.injEq] at h; subst h; rfl
  · simp only [Option.some.injEq] at h; subst h; rfl
theorem reckon_plain {info : TypeId → Option TypeInfo} {d : TypeDesc} {i : TypeInfo} (h : Made.reckon info d = some i) : isNamed i.desc = false := by
  cases d <;> simp only [Made.reckon, Option.bind_eq_bind, Option.bind_eq_some_iff, Option.pure_def, Option.some.injEq, reduceCtorEq] at h
  case struct fs => exact reckonStruct_plain h
  case pointer e =>
    obtain ⟨j, hj, h⟩ := h
    split at h
    · cases h
    · split at h
      · cases h
      · simp only [Option.bind_eq_some_iff, Option.some.injEq] at h
        obtain ⟨s, _, h⟩ := h
        subst h; rfl
    · simp only [Option.bind_eq_some_iff, Option.some.injEq] at h
      obtain ⟨s, _, h⟩ := h
      subst h; rfl
  case slice e => obtain ⟨_, _, _, _, h⟩ := h; subst h; rfl
  case array n e => obtain ⟨_, _, _, _, h⟩ := h; subst h; rfl
  case map k e => obtain ⟨_, _, _, _, _, _, _, _, h⟩ := h; subst h; rfl
  case chan d e => obtain ⟨_, _, _, _, h⟩ := h; subst h; rfl
  case func ps rs v => obtain ⟨_, _, h⟩ := h; subst h; rfl
def noCCt (i : TypeInfo) : Bool := match i.desc with | .named s _ => s != "sync.copyChecker" | _ => true
theorem noCC_of {P : Program} (h : P.types.toList.all noCCt = true) : NoCC P := by
  have h0 : ∀ (t : Nat) i, P.types[t]? = some i → noCCt i = true := fun t i ht => List.all_eq_true.1 h i (by
    have := Array.mem_of_getElem? ht
    simpa using this)
  have h1 : ∀ i u, noCCt i = true → i.desc ≠ .named "sync.copyChecker" u := by
    intro i u hi e
    simp [noCCt, e] at hi
  have h2 : ∀ (i : TypeInfo) u, isNamed i.desc = false → i.desc ≠ .named "sync.copyChecker" u := by
    intro i u hi e
    simp [isNamed, e] at hi
  intro t i u hi
  unfold Tables.info? at hi
  split at hi
  · exact h1 _ _ (h0 t i hi)
  · unfold Made.infoAt at hi
    split at hi
    · cases hi
    · split at hi
      · exact h1 _ _ (h0 _ i hi)
      · obtain ⟨d, _, hd⟩ := Option.bind_eq_some_iff.1 hi
        exact h2 _ _ (reckon_plain hd)
/-- What stays of an earlier world: all rows of cells but those of X. -/
structure Kp (v0 : World) (X : Nat → Prop) (v : World) : Prop where
  size : v0.heap.size ≤ v.heap.size
  os : v.os = v0.os
  output : v.output = v0.output
  objs : ∀ (b : Nat) (o : Obj), ¬ X b → v0.heap[b]? = some o → o.tame → v.heap[b]? = some o
theorem Kp.cells {v0 v : World} {X : Nat → Prop} (h : Kp v0 X v) (b : Nat) (c : Array Value) (t : TypeId) (fr : Nat × Nat) (hb : ¬ X b) (hc : v0.heap[b]? = some (.cells c t fr)) : v.heap[b]? = some (.cells c t fr) := h.objs b _ hb hc trivial
theorem Kp.refl (v : World) (X : Nat → Prop) : Kp v X v := ⟨Nat.le_refl _, rfl, rfl, fun _ _ _ h _ => h⟩
theorem Kp.ext {v0 v u : World} {X : Nat → Prop} (h : Kp v0 X v) (e : Ext v u) : Kp v0 X u := ⟨Nat.le_trans h.size e.size, e.os.trans h.os, e.output.trans h.output, fun b o hb hc ht => e.row (h.objs b o hb hc ht)⟩
theorem Kp.trans {v0 v u : World} {X : Nat → Prop} (h : Kp v0 X v) (e : Kp v X u) : Kp v0 X u := ⟨Nat.le_trans h.size e.size, e.os.trans h.os, e.output.trans h.output, fun b o hb hc ht => e.objs b o hb (h.objs b o hb hc ht) ht⟩
theorem Kp.mono {v0 v : World} {X Y : Nat → Prop} (h : Kp v0 X v) (hx : ∀ b, X b → Y b) : Kp v0 Y v := ⟨h.size, h.os, h.output, fun b o hb hc ht => h.objs b o (fun x => hb (hx b x)) hc ht⟩
theorem Kp.setRow {v0 v : World} {X : Nat → Prop} (h : Kp v0 X v) {g : Nat} (hg : X g ∨ v0.heap.size ≤ g) (c : Array Value) : Kp v0 X (v.setRow g c) := by
  refine ⟨by simpa [World.setRow] using h.size, h.os, h.output, fun b o hb hc ht => ?_⟩
  have : b ≠ g := by
    rintro rfl
    rcases hg with hg | hg
    · exact hb hg
    · have := (Array.getElem?_eq_some_iff.1 hc).1
      omega
  exact (setRow_other _ _ _ _ this).trans (h.objs b o hb hc ht)
theorem kp_ext {w w' : World} (h : Ext w w') : Kp w (fun _ => False) w' := (Kp.refl w _).ext h
theorem wr_ext {v w w' : World} {b : Nat} {o : Obj} (h : Ext v w) (hb : v.heap.size ≤ b) (hW : Wr w b o w') : Ext v w' :=
  ⟨by rw [hW.size]; exact h.size, fun c hc => (hW.other c (by omega)).trans (h.block c hc), hW.os.trans h.os, hW.output.trans h.output⟩
end Go.Vw
namespace Go.Proofs.YtpiefebngnlfoaaDoor
open Go.RowKit Go.Conc Go.Vw

theorem hide {p : Prop} (h : p) : Hid p := h
theorem bytesL_mem {n : Nat} {x : Nat → Nat} : ∀ y ∈ (List.range n).map (fun j => Value.int .u8 ((x j : Nat) : Int)), y.oneCell' = true := by
  intro y hy
  simp at hy
  obtain ⟨j, _, rfl⟩ := hy
  rfl
theorem bytesL_get {n j : Nat} {x : Nat → Nat} {y : Value} (h : ((List.range n).map (fun j => Value.int .u8 ((x j : Nat) : Int)))[j]? = some y) : j < n ∧ y = .int .u8 (x j : Nat) := by
  have hj : j < n := by
    have := (List.getElem?_eq_some_iff.1 h).1
    simpa using this
  refine ⟨hj, ?_⟩
  simp [hj] at h
  exact h.symm
def FF (_ : FuncId) : Bool := false
theorem noCC : NoCC Tryd.prog := noCC_of (by kernel_rfl)
theorem goodFF : Vw.Good Tryd.prog FF := ⟨fun f hf => (by cases hf), noCC⟩
/-- Noughts. -/
def zerosA (n : Nat) : Array Value := (Array.range n).map fun _ => .int .u8 0
theorem zerosA_size (n : Nat) : (zerosA n).size = n := by simp [zerosA]
theorem zerosA_get {n i : Nat} (h : i < n) : (zerosA n)[i]? = some (.int .u8 0) := by simp [zerosA, h]
end Go.Proofs.YtpiefebngnlfoaaDoor

/-
  Rows that a function owns: 'append' onto them, and what stays beside them.
-/
set_option linter.unusedVariables false
set_option linter.unusedSimpArgs false
namespace Go.Proofs.YtpiefebngnlfoaaDoor
open Go.RowKit Go.Conc Go.Vw

set_option maxRecDepth 100000 in
theorem infoB : ∃ i z, Tryd.prog.info? 5 = some i ∧ i.zero = some z ∧ i.size = 1 ∧ i.bytes = 1 ∧ z.cells.size = 1 := ⟨_, _, rfl, rfl, rfl, rfl, rfl⟩
/-- New blocks, and at most one row turned. -/
structure Gr (w w' : World) (row : Option Nat) : Prop where
  os : w'.os = w.os
  output : w'.output = w.output
  size : w.heap.size ≤ w'.heap.size
  block : ∀ k, k < w.heap.size → some k ≠ row → w'.heap[k]? = w.heap[k]?
theorem Gr.of {w u w' : World} {row : Option Nat} (t : Vw.Twin w u) (g : u.grownBy w' row) : Gr w w' row :=
  ⟨g.os.trans t.os, g.output.trans t.output, by rw [← t.heap]; exact g.size, fun k hk hr => by rw [← t.heap] at hk ⊢; exact g.block k hk hr⟩
theorem Gr.ext {w w' : World} (g : Gr w w' none) : Ext w w' := ⟨g.size, fun b hb => g.block b hb (by simp), g.os, g.output⟩
theorem Gr.over {v w w' : World} {row : Option Nat} (h : Ext v w) (g : Gr w w' row) (hr : ∀ b, row = some b → v.heap.size ≤ b) : Ext v w' :=
  ⟨Nat.le_trans h.size g.size, fun b hb => (g.block b (Nat.lt_of_lt_of_le hb h.size) (fun e => by have := hr b e.symm; omega)).trans (h.block b hb), g.os.trans h.os, g.output.trans h.output⟩
theorem Gr.row {w w' : World} {row : Option Nat} (g : Gr w w' row) {b : Nat} {o : Obj} (h : w.heap[b]? = some o) (hr : some b ≠ row) : w'.heap[b]? = some o := (g.block b (Array.getElem?_eq_some_iff.1 h).1 hr).trans h
theorem own_base {w : World} {base n g : Nat} {e : TypeId} {sv : Value} {xs : List Value} (h : w.ownsRow base e 1 sv n xs) (hg : sv.ownBlock = some g) : base ≤ g := (h.lt g hg).1
theorem own_gr {w w' : World} {base n : Nat} {e : TypeId} {sv : Value} {xs : List Value} {row : Option Nat} (h : w.ownsRow base e 1 sv n xs) (g : Gr w w' row) (hr : ∀ b, sv.ownBlock = some b → some b ≠ row) : w'.ownsRow base e 1 sv n xs :=
  ⟨h.1, h.2.imp id fun ⟨b, cap, cur, q1, q2, q3, q4⟩ => ⟨b, cap, cur, q1, q2, g.row q3 (hr b (by rw [q1]; rfl)), q4⟩⟩
theorem own_twin {w u : World} {base n : Nat} {e : TypeId} {sv : Value} {xs : List Value} (h : w.ownsRow base e 1 sv n xs) (t : Vw.Twin w u) : u.ownsRow base e 1 sv n xs :=
  ⟨h.1, h.2.imp id fun ⟨b, cap, cur, q1, q2, q3, q4⟩ => ⟨b, cap, cur, q1, q2, by rw [t.heap]; exact q3, q4⟩⟩
/-- An append, whatever the tape. -/
theorem append_does {w u : World} {o : Oper} {a : Act} {s x : Operand} {t e : TypeId} {i : TypeInfo} {z : Value} {bytes : Nat} (hu : Vw.Twin w u) (base : Nat)
    (h1 : Tryd.prog.underlying t = some (.slice e)) (h2 : Tryd.prog.info? e = some i) (h3 : i.zero = some z) (h4 : i.size = 1) (h5 : i.bytes = bytes) (h6 : z.cells.size = 1)
    {sv : Value} {n : Nat} {xs : List Value} (hown : w.ownsRow base e 1 sv n xs)
    {ad : Addr} {m c : Nat} {news : List Value} (hl : news.length = m) (hnews : ∀ j y, news[j]? = some y → w.cell? (ad.add j) = some y) (h1c : ∀ y ∈ news, y.oneCell' = true)
    (b1 : n + m ≤ 100000) (b2 : bytes ≤ 24) (hb : base ≤ w.heap.size) (hop : o.op = Op.call { callee := Callee.builtin Builtin.append, args := #[s, x], argTypes := #[t, t] }) (hs : a.eval s = sv) (hx : a.eval x = .slice (some ad) m c) :
    ∃ y w', ((execOp a.eval o).run Tryd.prog u = .ok (.value y) w' ∨ ((execOp a.eval o).run Tryd.prog u = .ok .skip w' ∧ y = undef)) ∧ (w'.ownsRow base e 1 y (n + m) (xs ++ news) ∧ Gr w w' sv.ownBlock ∧ (y = .slice none 0 0 ↔ sv = .slice none 0 0 ∧ m = 0)) := by
  obtain ⟨v', w', hrun, ho, hg, hn⟩ := run_append_op (P := Tryd.prog) hop base h1 h2 h3 h4 h5 h6 (by omega) hs (own_twin hown hu) hx (by simpa using hl) (fun j y hy => (Ext.twin hu).cell (hnews j y hy)) h1c (by unfold maxLen; omega) (by
    have : (n + m) * bytes ≤ 100000 * 24 := Nat.mul_le_mul b1 b2
    omega) (by rw [hu.heap]; exact hb)
  exact ⟨v', w', .inl hrun, ho, .of hu hg, hn⟩

theorem own_some {w : World} {base n : Nat} {e : TypeId} {sv : Value} {xs : List Value} (h : w.ownsRow base e 1 sv n xs) (hn : 0 < n ∨ sv ≠ .slice none 0 0) : ∃ g cap cur, sv = .slice (some ⟨g, 0, none⟩) n cap ∧ base ≤ g ∧ w.heap[g]? = some (.cells cur e) ∧ n ≤ cap ∧ cur.size = cap ∧ ∀ j, j < n → cur[j]? = xs[j]? := by
  rcases h.2 with ⟨e1, e2⟩ | ⟨g, cap, cur, q1, q2, q3, q4, q5, q6, q7⟩
  · rcases hn with hn | hn
    · omega
    · exact absurd e1 hn
  · refine ⟨g, cap, cur, q1, q2, q3, q4, by simpa using q6, fun j hj => ?_⟩
    rw [← q7, List.getElem?_take, if_pos (by omega), Array.getElem?_toList]
/-- What is full grows: into new memory. -/
theorem grow_does {w u : World} {o : Oper} {a : Act} {s x : Operand} {t e : TypeId} {i : TypeInfo} {z : Value} {bytes : Nat} (hu : Vw.Twin w u)
    (h1 : Tryd.prog.underlying t = some (.slice e)) (h2 : Tryd.prog.info? e = some i) (h3 : i.zero = some z) (h4 : i.size = 1) (h5 : i.bytes = bytes) (h6 : z.cells.size = 1)
    {p : Option Addr} {n cap : Nat} {olds : List Value} (hp : (p = none ∧ n = 0 ∧ cap = 0) ∨ ∃ b, p = some b) (hlo : olds.length = n) (holds : ∀ b, p = some b → ∀ j y, olds[j]? = some y → w.cell? (b.add j) = some y) 
    {ad : Addr} {m c : Nat} (hcap : cap < n + m) {news : List Value} (hl : news.length = m) (hnews : ∀ j y, news[j]? = some y → w.cell? (ad.add j) = some y) (h1c : ∀ y ∈ news, y.oneCell' = true)
    (b1 : n + m ≤ maxLen) (b2 : (n + m) * bytes ≤ 140737488355328) (hop : o.op = Op.call { callee := Callee.builtin Builtin.append, args := #[s, x], argTypes := #[t, t] }) (hs : a.eval s = .slice p n cap) (hx : a.eval x = .slice (some ad) m c) :
    ∃ y w', ((execOp a.eval o).run Tryd.prog u = .ok (.value y) w' ∨ ((execOp a.eval o).run Tryd.prog u = .ok .skip w' ∧ y = undef)) ∧ (w'.ownsRow w.heap.size e 1 y (n + m) (olds ++ news) ∧ Ext w w') := by
  have fin : ∀ (y : Value) (w' : World), (Builtin.append_ #[t, t] o.type #[.slice p n cap, .slice (some ad) m c]).run Tryd.prog u = .ok y w' → w'.ownsRow u.heap.size e 1 y (n + m) (olds ++ news) → u.grownBy w' none → ∃ y w', ((execOp a.eval o).run Tryd.prog u = .ok (.value y) w' ∨ ((execOp a.eval o).run Tryd.prog u = .ok .skip w' ∧ y = undef)) ∧ (w'.ownsRow w.heap.size e 1 y (n + m) (olds ++ news) ∧ Ext w w') := fun y w' hrun ho hg =>
    ⟨y, w', .inl (by simp [execOp, hop, resolve, invoke, builtin, hs, hx, hrun]), by rw [hu.heap] at ho; exact ho, (Gr.of hu hg).ext⟩
  rcases hp with ⟨rfl, rfl, rfl⟩ | ⟨b, rfl⟩
  · obtain rfl : olds = [] := List.eq_nil_of_length_eq_zero hlo
    obtain ⟨v', w', hrun, ho, hg, hn⟩ := run_append_own (P := Tryd.prog) u u.heap.size t o.type e i z 1 bytes h1 h2 h3 h4 h5 h6 (by omega) (.slice none 0 0) 0 [] (World.ownsRow_nil _ _ _ _) ad m c news (by simpa using hl) (fun j y hy => (Ext.twin hu).cell (hnews j y hy)) h1c b1 b2 (Nat.le_refl _)
    exact fin _ _ hrun ho hg
  · obtain ⟨v', w', hrun, ho, hg⟩ := run_append_arg_grows (P := Tryd.prog) u t o.type e i z 1 bytes h1 h2 h3 h4 h5 h6 (by omega) b n cap olds (by simpa using hlo) (fun j y hy => (Ext.twin hu).cell (holds b rfl j y hy)) ad m c news (by simpa using hl) (fun j y hy => (Ext.twin hu).cell (hnews j y hy)) hcap b1 b2
    exact fin _ _ hrun ho hg
end Go.Proofs.YtpiefebngnlfoaaDoor

/-
  block.number, of noughts; block.Open, of a blank block: it panics.
-/
set_option linter.unusedVariables false
set_option linter.unusedSimpArgs false
namespace Go.Proofs.YtpiefebngnlfoaaDoor
open Go.RowKit Go.Conc Go.Vw

theorem wrU64 (a : Int) (h1 : 0 ≤ a := by omega) (h2 : a ≤ 18446744073709551615 := by omega) : IntKind.u64.wrap a = a := by rw [IntKind.wrap_u64]; omega
set_option maxRecDepth 100000 in
set_option maxHeartbeats 1000000 in
theorem number_r {S : Nat → Prop} {v : World} (B off n c : Nat) (hn : n ≤ 8) (hc : n ≤ c) (hz : ∀ i, i < n → v.cell? ⟨B, off + i, none⟩ = some (.int .u8 0)) :
    CallsR Tryd.prog 96 #[.slice (some ⟨B, off, none⟩) n c] S v fun x S' v' => x = .int .u64 0 ∧ S' = S ∧ v' = v := by
  refine callsR_body Tryd.func96 rfl Tryd.ntmps96 (by simp) fun Stop cc cs ret => ?_
  have g0 : argF #[.slice (some ⟨B, off, none⟩) n c] 0 = .slice (some ⟨B, off, none⟩) n c := rfl
  generalize argF #[.slice (some ⟨B, off, none⟩) n c] = f at g0
  repeat (first|refine rA ?_|refine rB ?_|refine rC ?_|refine rD ?_|(refine rR ?_;simp only [tO, Nat.reduceAdd])|refine rE ?_|(refine rO goodFF rfl ?_;intro _ hu_ K_ hK_;go_simp;(try rw [wI _]);(try rw [wU _]);refine hK_ _ ?_;clear hK_ K_ hu_;simp only [sS, sN])|(refine rP rfl ?_;simp only [sS, sN])|(refine rP2 rfl ?_;simp only [sS, sN]))
  refine reach_rounds (fun d f' S' v' => ∃ j, d = n - j ∧ j ≤ n ∧ S' = S ∧ v' = v ∧ f' 6 = .slice (some ⟨B, off, none⟩) n c ∧ f' 7 = .int .i64 (n : Nat) ∧ f' 8 = .int .i64 (j : Nat) ∧ f' 3 = .int .u64 0) n ⟨0, by omega, by omega, rfl, rfl, by simp [g0], by simp [g0], by simp, by simp⟩ ?_
  clear g0 f
  rintro d f S' v' ⟨j, rfl, hj, eS, eV, g6, g7, g8, g3⟩ nxt
  subst S' v'
  repeat (first|refine rA ?_|refine rB ?_|refine rC ?_|refine rD ?_|(refine rR ?_;simp only [tO, Nat.reduceAdd])|refine rE ?_|(refine rO goodFF rfl ?_;intro _ hu_ K_ hK_;go_simp;(try rw [wI _]);(try rw [wU _]);refine hK_ _ ?_;clear hK_ K_ hu_;simp only [sS, sN])|(refine rP rfl ?_;simp only [sS, sN])|(refine rP2 rfl ?_;simp only [sS, sN]))
  by_cases hlt : j < n
  · have hjI : (j : Int) < (n : Int) := by omega
    have h8 : 8 * (j : Int) < 64 := by omega
    have h0 : ¬ 8 * (j : Int) < 0 := by omega
    have hcj := hz j hlt
    (refine reach_cond (t := true) (by simp [Act.eval, g8, g7, hjI, hlt]) ?_; simp only [if_true, if_false, reduceIte, Bool.false_eq_true])
    repeat (first|refine rA ?_|refine rB ?_|refine rC ?_|refine rD ?_|(refine rR ?_;simp only [tO, Nat.reduceAdd])|refine rE ?_|(refine rO goodFF rfl ?_;intro _ hu_ K_ hK_;(have hc := (Ext.twin hu_).cell hcj);go_simp;(try rw [wI _]);(try rw [wU _]);refine hK_ _ ?_;clear hK_ K_ hu_;simp only [sS, sN])|(refine rP rfl ?_;simp only [sS, sN])|(refine rP2 rfl ?_;simp only [sS, sN]))
    have w0 : IntKind.u64.wrap 0 = 0 := rfl
    have b0 : bits .or .u64 0 0 = 0 := rfl
    refine nxt _ _ _ (n - (j + 1)) (by omega) ⟨j + 1, rfl, by omega, rfl, rfl, by simp [g6], by simp [g7], by simp, by simp [w0, b0]⟩
  · obtain rfl : j = n := by omega
    (refine reach_cond (t := false) (by simp [Act.eval, g8, g7]) ?_; simp only [if_true, if_false, reduceIte, Bool.false_eq_true])
    refine reach_exit rfl ?_
    repeat (first|refine rA ?_|refine rB ?_|refine rC ?_|refine rD ?_|(refine rR ?_;simp only [tO, Nat.reduceAdd])|refine rE ?_|(refine rO goodFF rfl ?_;intro _ hu_ K_ hK_;go_simp;(try rw [wI _]);(try rw [wU _]);refine hK_ _ ?_;clear hK_ K_ hu_;simp only [sS, sN])|(refine rP rfl ?_;simp only [sS, sN])|(refine rP2 rfl ?_;simp only [sS, sN]))
    refine reach_ret fun todo => ?_
    refine ret _ _ _ _ (.int .u64 0) ?_ ⟨rfl, rfl, rfl⟩
    simp [results, Tryd.results96]
end Go.Proofs.YtpiefebngnlfoaaDoor

/-
  block.Open, of a blank block: it panics.
-/
set_option linter.unusedVariables false
set_option linter.unusedSimpArgs false
namespace Go.Proofs.YtpiefebngnlfoaaDoor
open Go.RowKit Go.Conc Go.Vw

theorem run_box {P : Program} {o : Oper} {a : Act} {x : Operand} {t : TypeId} {y : Value} (hop : o.op = Op.box t x) (hx : a.eval x = y) (u : World) :
    (execOp a.eval o).run P u = .ok (.value (.pointer (some ⟨u.heap.size, 0, none⟩))) (u.alloc (.cells y.cells t)) := by
  simp [execOp, hop, hx, Instr.box, newVar, newRow]
theorem mem_of_b {a : Nat} {l : List Nat} (h : l.contains a = true) : a ∈ l := by simpa using h
def freeB (ops : Array Oper) (s : Nat) : Bool := (List.range ops.size).all fun j => dstO ops j != some s
theorem free_of {ops : Array Oper} {s : Nat} (h : freeB ops s = true) : ∀ j, j < ops.size → dstO ops j ≠ some s := fun j hj e => by
  have := List.all_eq_true.1 h j (by simpa using hj)
  simp [e] at this
theorem wr_same {w w' : World} {g : Nat} {o : Obj} (hW : Wr w g o w') (h : w.heap[g]? = some o) : Ext w w' :=
  ⟨by rw [hW.size]; exact Nat.le_refl _, fun b hb => by
    by_cases e : b = g
    · rw [e, hW.at_, h]
    · exact hW.other b e, hW.os, hW.output⟩
/-- The label of a blank block. -/
def label0 : Array Value := #[.int .i64 0, .int .i64 0, .int .u64 0]
/-- What its first region yields. -/
def spec1 (B : Nat) (j : Nat) (x : Value) (w : World) : Prop :=
  match j with
  | 0 => x = .slice (some ⟨B, 0, none⟩) 2 96
  | 1 => x = .int .u64 0
  | 2 => x = .int .i64 0
  | 3 => x = .slice (some ⟨B, 2, none⟩) 2 94
  | 4 => x = .int .u64 0
  | 5 => x = .int .i64 0
  | 6 => x = .slice (some ⟨B, 5, none⟩) 8 91
  | 7 => x = .int .u64 0
  | 8 => x = .agg label0
  | 9 => ∃ g, x = .pointer (some ⟨g, 0, none⟩) ∧ w.heap[g]? = some (.cells label0 53)
  | _ => True
theorem spec1_ext (B : Nat) : ∀ j x w w', spec1 B j x w → Ext w w' → spec1 B j x w' := by
  intro j x w w' h hE
  unfold spec1 at h ⊢
  split at h <;> first | exact h | skip
  obtain ⟨g, e, hg⟩ := h
  exact ⟨g, e, hE.row hg⟩
/-- The piece of a blank block. -/
def piece0 : Array Value := #[.int .i64 0, .int .i64 0, .int .u64 0, .int .i64 0, .slice none 0 0]
/-- What its second region yields. -/
def spec2 (B : Nat) (j : Nat) (x : Value) (w : World) : Prop :=
  match j with
  | 0 => x = .agg label0
  | 1 => x = .slice (some ⟨B, 4, none⟩) 1 92
  | 2 => x = .int .u64 0
  | 3 => x = .int .i64 0
  | 4 => x = .agg piece0
  | 5 => ∃ g, x = .pointer (some ⟨g, 0, none⟩) ∧ w.heap[g]? = some (.cells piece0 96)
  | _ => True
theorem spec2_ext (B : Nat) : ∀ j x w w', spec2 B j x w → Ext w w' → spec2 B j x w' := by
  intro j x w w' h hE
  unfold spec2 at h ⊢
  split at h <;> first | exact h | skip
  obtain ⟨g, e, hg⟩ := h
  exact ⟨g, e, hE.row hg⟩
set_option maxRecDepth 100000 in
set_option maxHeartbeats 4000000 in
theorem open_p {S : Nat → Prop} {v : World} (t : TypeId) (e : Value) (hg0 : v.cell? ⟨0, 0, none⟩ = some (.iface t e)) :
    CallsP Tryd.prog 68 #[.agg (zerosA 96)] S v fun x S' v' => x = .iface t e ∧ S' = S ∧ Ext v v' := by
  refine callsP_body Tryd.func68 rfl Tryd.ntmps68 (by simp) fun Stop cc cs ret => ?_
  have g0 : argF #[.agg (zerosA 96)] 0 = .agg (zerosA 96) := rfl
  generalize argF #[.agg (zerosA 96)] = f at g0
  repeat (first|refine rA ?_|refine rB ?_|refine rC ?_|refine rD ?_|(refine rR ?_;simp only [tO, Nat.reduceAdd])|refine rE ?_|(refine rO goodFF rfl ?_;intro _ hu_ K_ hK_;go_simp;(try rw [wI _]);(try rw [wU _]);refine hK_ _ ?_;clear hK_ K_ hu_;simp only [sS, sN])|(refine rP rfl ?_;simp only [sS, sN])|(refine rP2 rfl ?_;simp only [sS, sN]))
  refine reach_turnQ (Q := fun y w => y = .pointer (some ⟨v.heap.size, 0, none⟩) ∧ Ext v w ∧ w.heap[v.heap.size]? = some (.cells (zerosA 96) 92)) goodFF rfl rfl (by kernel_rfl) (fun u hu => ⟨_, _, .inl (run_box (x := .tmp 0) (y := .agg (zerosA 96)) rfl (by simp [g0]) u), by rw [hu.heap], (Ext.twin hu).trans _ _ _ (Ext.alloc _ _), by rw [← hu.heap]; exact alloc_at _ _⟩) ?_
  rintro _ w1 ⟨rfl, hE1, hb1⟩
  simp only [stO_some]
  refine reach_alloc goodFF rfl rfl (by kernel_rfl) (.agg #[.int .i64 0, .int .i64 0, .int .u64 0, .int .i64 0, .slice none 0 0]) rfl (by kernel_rfl) fun w2 hE2 hb2 hs2 => ?_
  simp only [stO_some]
  repeat (first|refine rA ?_|refine rB ?_|refine rC ?_|refine rD ?_|(refine rR ?_;simp only [tO, Nat.reduceAdd])|refine rE ?_|(refine rO goodFF rfl ?_;intro _ hu_ K_ hK_;go_simp;(try rw [wI _]);(try rw [wU _]);refine hK_ _ ?_;clear hK_ K_ hu_;simp only [sS, sN])|(refine rP rfl ?_;simp only [sS, sN])|(refine rP2 rfl ?_;simp only [sS, sN]))
  have hb : w2.heap[v.heap.size]? = some (.cells (zerosA 96) 92) := hE2.row hb1
  have hz : ∀ w, Ext w2 w → ∀ lo m i, lo + m ≤ 96 → i < m → w.cell? ⟨v.heap.size, lo + i, none⟩ = some (.int .u8 0) := fun w hE lo m i h1 h2 => by
    rw [cell_of_row _ _ _ _ _ _ (hE.row hb)]
    exact zerosA_get (by omega)
  refine reach_phase (by kernel_rfl) (by kernel_rfl) (by kernel_rfl) (spec1 v.heap.size) (spec1_ext _) ?_ ?_ ?_
  · intro j hj he x w h
    have : j = 10 := by
      have hj' : j < 11 := hj
      match j, hj' with
      | 0, _ => cases he
      | 1, _ => cases he
      | 2, _ => cases he
      | 3, _ => cases he
      | 4, _ => cases he
      | 5, _ => cases he
      | 6, _ => cases he
      | 7, _ => cases he
      | 8, _ => cases he
      | 9, _ => cases he
      | 10, _ => rfl
    subst this
    exact trivial
  · intro i f w rest hi hE hf hd nxt
    have g1 : f 1 = .pointer (some ⟨v.heap.size, 0, none⟩) := (hf 1 (free_of (by kernel_rfl))).trans (by simp)
    clear hf
    have hi' : i < 11 := hi
    match i, hi' with
    | 0, _ =>
      clear hd
      (refine rO goodFF rfl ?_;intro _ hu_ K_ hK_;go_simp;(try rw [wI _]);(try rw [wU _]);refine hK_ _ ?_;clear hK_ K_ hu_;simp only [sS, sN])
      exact nxt _ w (.refl w) rfl
    | 1, _ =>
      have d0 : f 5 = .slice (some ⟨v.heap.size, 0, none⟩) 2 96 := hd 0 (mem_of_b (by kernel_rfl))
      clear hd
      (refine reach_callR rfl (by first | rfl | simp [Region.wanted, yielded, TA_get, *]) rfl Tryd.func96 (by kernel_rfl) rfl (by simp [Act.eval, *]; try rfl) (number_r v.heap.size 0 2 96 (by omega) (by omega) fun i h => hz w hE 0 2 i (by omega) h) ?_)
      rintro _ S1 w' _ ⟨rfl, e1, e2⟩
      subst S1 w'
      exact nxt _ w (.refl w) rfl
    | 2, _ =>
      have d1 : f 6 = .int .u64 0 := hd 1 (mem_of_b (by kernel_rfl))
      clear hd
      (refine rO goodFF rfl ?_;intro _ hu_ K_ hK_;go_simp;(try rw [wI _]);(try rw [wU _]);refine hK_ _ ?_;clear hK_ K_ hu_;simp only [sS, sN])
      exact nxt _ w (.refl w) rfl
    | 3, _ =>
      clear hd
      (refine rO goodFF rfl ?_;intro _ hu_ K_ hK_;go_simp;(try rw [wI _]);(try rw [wU _]);refine hK_ _ ?_;clear hK_ K_ hu_;simp only [sS, sN])
      exact nxt _ w (.refl w) rfl
    | 4, _ =>
      have d0 : f 8 = .slice (some ⟨v.heap.size, 2, none⟩) 2 94 := hd 3 (mem_of_b (by kernel_rfl))
      clear hd
      (refine reach_callR rfl (by first | rfl | simp [Region.wanted, yielded, TA_get, *]) rfl Tryd.func96 (by kernel_rfl) rfl (by simp [Act.eval, *]; try rfl) (number_r v.heap.size 2 2 94 (by omega) (by omega) fun i h => hz w hE 2 2 i (by omega) h) ?_)
      rintro _ S1 w' _ ⟨rfl, e1, e2⟩
      subst S1 w'
      exact nxt _ w (.refl w) rfl
    | 5, _ =>
      have d1 : f 9 = .int .u64 0 := hd 4 (mem_of_b (by kernel_rfl))
      clear hd
      (refine rO goodFF rfl ?_;intro _ hu_ K_ hK_;go_simp;(try rw [wI _]);(try rw [wU _]);refine hK_ _ ?_;clear hK_ K_ hu_;simp only [sS, sN])
      exact nxt _ w (.refl w) rfl
    | 6, _ =>
      clear hd
      (refine rO goodFF rfl ?_;intro _ hu_ K_ hK_;go_simp;(try rw [wI _]);(try rw [wU _]);refine hK_ _ ?_;clear hK_ K_ hu_;simp only [sS, sN])
      exact nxt _ w (.refl w) rfl
    | 7, _ =>
      have d0 : f 11 = .slice (some ⟨v.heap.size, 5, none⟩) 8 91 := hd 6 (mem_of_b (by kernel_rfl))
      clear hd
      (refine reach_callR rfl (by first | rfl | simp [Region.wanted, yielded, TA_get, *]) rfl Tryd.func96 (by kernel_rfl) rfl (by simp [Act.eval, *]; try rfl) (number_r v.heap.size 5 8 91 (by omega) (by omega) fun i h => hz w hE 5 8 i (by omega) h) ?_)
      rintro _ S1 w' _ ⟨rfl, e1, e2⟩
      subst S1 w'
      exact nxt _ w (.refl w) rfl
    | 8, _ =>
      have d0 : f 7 = .int .i64 0 := hd 2 (mem_of_b (by kernel_rfl))
      have d1 : f 10 = .int .i64 0 := hd 5 (mem_of_b (by kernel_rfl))
      have d2 : f 12 = .int .u64 0 := hd 7 (mem_of_b (by kernel_rfl))
      clear hd
      (refine rO goodFF rfl ?_;intro _ hu_ K_ hK_;go_simp;(try rw [wI _]);(try rw [wU _]);refine hK_ _ ?_;clear hK_ K_ hu_;simp only [sS, sN])
      exact nxt _ w (.refl w) rfl
    | 9, _ =>
      clear hd
      refine reach_alloc goodFF rfl rfl (by kernel_rfl) (.agg label0) rfl (by kernel_rfl) fun w3 hE3 hb3 hs3 => ?_
      exact nxt _ w3 hE3 ⟨_, rfl, hb3⟩
    | 10, _ =>
      obtain ⟨g, d0, hg⟩ : ∃ g, f 3 = .pointer (some ⟨g, 0, none⟩) ∧ w.heap[g]? = some (.cells label0 53) := hd 9 (mem_of_b (by kernel_rfl))
      have d1 : f 13 = .agg label0 := hd 8 (mem_of_b (by kernel_rfl))
      clear hd
      refine reach_storeRow goodFF rfl rfl (by kernel_rfl) (x := .tmp 3) (y := .tmp 13) (g := g) (c := label0) rfl (by simp [d0]) (by simp [d1]) hg (by kernel_rfl) rfl (by kernel_rfl) fun w3 hW => ?_
      exact nxt undef w3 (wr_same hW hg) trivial
  · intro f w hE hf hd
    have g1 : f 1 = .pointer (some ⟨v.heap.size, 0, none⟩) := (hf 1 (free_of (by kernel_rfl))).trans (by simp)
    obtain ⟨g, g3, hg⟩ : ∃ g, f 3 = .pointer (some ⟨g, 0, none⟩) ∧ w.heap[g]? = some (.cells label0 53) := hd 9 (by decide)
    clear hf hd
    repeat (first|refine rA ?_|refine rB ?_|refine rC ?_|refine rD ?_|(refine rR ?_;simp only [tO, Nat.reduceAdd])|refine rE ?_|(refine rO goodFF rfl ?_;intro _ hu_ K_ hK_;go_simp;(try rw [wI _]);(try rw [wU _]);refine hK_ _ ?_;clear hK_ K_ hu_;simp only [sS, sN])|(refine rP rfl ?_;simp only [sS, sN])|(refine rP2 rfl ?_;simp only [sS, sN]))
    refine reach_phase (by kernel_rfl) (by kernel_rfl) (by kernel_rfl) (spec2 v.heap.size) (spec2_ext _) ?_ ?_ ?_
    · intro j hj he x w h
      have : j = 6 := by
        have hj' : j < 7 := hj
        match j, hj' with
        | 0, _ => cases he
        | 1, _ => cases he
        | 2, _ => cases he
        | 3, _ => cases he
        | 4, _ => cases he
        | 5, _ => cases he
        | 6, _ => rfl
      subst this
      exact trivial
    · intro i f' w' rest hi hE' hf' hd' nxt
      have q1 : f' 1 = .pointer (some ⟨v.heap.size, 0, none⟩) := (hf' 1 (free_of (by kernel_rfl))).trans g1
      have q3 : f' 3 = .pointer (some ⟨g, 0, none⟩) := (hf' 3 (free_of (by kernel_rfl))).trans g3
      have hE2' := hE.trans _ _ _ hE'
      clear hf'
      have hi' : i < 7 := hi
      match i, hi' with
      | 0, _ =>
        clear hd'
        refine reach_loadRow goodFF rfl rfl (by kernel_rfl) (x := .tmp 3) (b := g) (c := label0) rfl (by simp [q3]) (hE'.row hg) (by kernel_rfl) (by kernel_rfl) ?_
        exact nxt _ w' (.refl w') rfl
      | 1, _ =>
        clear hd'
        (refine rO goodFF rfl ?_;intro _ hu_ K_ hK_;go_simp;(try rw [wI _]);(try rw [wU _]);refine hK_ _ ?_;clear hK_ K_ hu_;simp only [sS, sN])
        exact nxt _ w' (.refl w') rfl
      | 2, _ =>
        have d0 : f' 15 = .slice (some ⟨v.heap.size, 4, none⟩) 1 92 := hd' 1 (mem_of_b (by kernel_rfl))
        clear hd'
        (refine reach_callR rfl (by first | rfl | simp [Region.wanted, yielded, TA_get, *]) rfl Tryd.func96 (by kernel_rfl) rfl (by simp [Act.eval, *]; try rfl) (number_r v.heap.size 4 1 92 (by omega) (by omega) fun i h => hz w' hE2' 4 1 i (by omega) h) ?_)
        rintro _ S1 w1 _ ⟨rfl, e1, e2⟩
        subst S1 w1
        exact nxt _ w' (.refl w') rfl
      | 3, _ =>
        have d1 : f' 16 = .int .u64 0 := hd' 2 (mem_of_b (by kernel_rfl))
        clear hd'
        (refine rO goodFF rfl ?_;intro _ hu_ K_ hK_;go_simp;(try rw [wI _]);(try rw [wU _]);refine hK_ _ ?_;clear hK_ K_ hu_;simp only [sS, sN])
        exact nxt _ w' (.refl w') rfl
      | 4, _ =>
        have d0 : f' 14 = .agg label0 := hd' 0 (mem_of_b (by kernel_rfl))
        have d1 : f' 17 = .int .i64 0 := hd' 3 (mem_of_b (by kernel_rfl))
        clear hd'
        (refine rO goodFF rfl ?_;intro _ hu_ K_ hK_;go_simp;(try rw [wI _]);(try rw [wU _]);refine hK_ _ ?_;clear hK_ K_ hu_;simp only [sS, sN])
        exact nxt _ w' (.refl w') rfl
      | 5, _ =>
        clear hd'
        refine reach_alloc goodFF rfl rfl (by kernel_rfl) (.agg piece0) rfl (by kernel_rfl) fun w3 hE3 hb3 hs3 => ?_
        exact nxt _ w3 hE3 ⟨_, rfl, hb3⟩
      | 6, _ =>
        obtain ⟨g', d0, hg'⟩ : ∃ g, f' 4 = .pointer (some ⟨g, 0, none⟩) ∧ w'.heap[g]? = some (.cells piece0 96) := hd' 5 (mem_of_b (by kernel_rfl))
        have d1 : f' 18 = .agg piece0 := hd' 4 (mem_of_b (by kernel_rfl))
        clear hd'
        refine reach_storeRow goodFF rfl rfl (by kernel_rfl) (x := .tmp 4) (y := .tmp 18) (g := g') (c := piece0) rfl (by simp [d0]) (by simp [d1]) hg' (by kernel_rfl) rfl (by kernel_rfl) fun w3 hW => ?_
        exact nxt undef w3 (wr_same hW hg') trivial
    · intro f' w' hE' hf' hd'
      have q3 : f' 3 = .pointer (some ⟨g, 0, none⟩) := (hf' 3 (free_of (by kernel_rfl))).trans g3
      clear hf' hd'
      have hEv : Ext v w' := hE1.trans _ _ _ (hE2.trans _ _ _ (hE.trans _ _ _ hE'))
      have hl0 : w'.cell? ⟨g, 0, none⟩ = some (.int .i64 0) := by rw [cell_of_row _ _ _ _ _ _ (hE'.row hg)]; rfl
      have hg0' := hEv.cell hg0
      repeat (first|refine rA ?_|refine rB ?_|refine rC ?_|refine rD ?_|(refine rR ?_;simp only [tO, Nat.reduceAdd])|refine rE ?_|(refine rO goodFF rfl ?_;intro _ hu_ K_ hK_;(have hc := (Ext.twin hu_).cell hl0);go_simp;(try rw [wI _]);(try rw [wU _]);refine hK_ _ ?_;clear hK_ K_ hu_;simp only [sS, sN])|(refine rP rfl ?_;simp only [sS, sN])|(refine rP2 rfl ?_;simp only [sS, sN]))
      (refine reach_cond (t := true) (by simp [Act.eval]) ?_; simp only [if_true, if_false, reduceIte, Bool.false_eq_true])
      repeat (first|refine rA ?_|refine rB ?_|refine rC ?_|refine rD ?_|(refine rR ?_;simp only [tO, Nat.reduceAdd])|refine rE ?_|(refine rO goodFF rfl ?_;intro _ hu_ K_ hK_;(have hc := (Ext.twin hu_).cell hg0');go_simp;(try rw [wI _]);(try rw [wU _]);refine hK_ _ ?_;clear hK_ K_ hu_;simp only [sS, sN])|(refine rP rfl ?_;simp only [sS, sN])|(refine rP2 rfl ?_;simp only [sS, sN]))
      refine reach_panicOp (x := .iface t e) (by simp [base]) rfl rfl ?_ ?_ fun todo => ?_
      · exact sim_panicOp (t := t) (e := e) rfl (by simp)
      · exact fun u hu => run_panicOp (t := t) (e := e) rfl (by simp)
      · exact ret _ _ _ _ _ ⟨rfl, rfl, hEv⟩
end Go.Proofs.YtpiefebngnlfoaaDoor
