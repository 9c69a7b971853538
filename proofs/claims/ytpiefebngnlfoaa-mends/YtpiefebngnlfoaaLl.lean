/-
  The functions of the program that start no goroutine are let by.
-/
import Derived.Test.YtpiefebngnlfoaaLa
import Derived.Test.YtpiefebngnlfoaaLc
import Derived.Conc.CompanyMem
import Derived.Conc.Starve
import Derived.Test.YtpiefebngnlfoaaLf
import Derived.Deep.WholeRow
import Derived.Conc.SmallLaws
import Derived.Test.YtpiefebngnlfoaaLe
import Derived.Conc.EventLaws
import Derived.Conc.EventLaws2
import Derived.Conc.DeferLaws
set_option linter.unusedVariables false
namespace Go.Vw
/-- One function is let by. -/
def okFn (P : Program) (F : FuncId → Bool) (f : FuncId) : Bool :=
  match P.funcs[f]? with
  | some fn => (match fn.body with | some c => okCode P F c | none => false) && !(fn.name == "runtime.NumGoroutine")
  | none => false
theorem okFn_spec {P : Program} {F : FuncId → Bool} {f : FuncId} (h : okFn P F f = true) : ∃ fn c, P.funcs[f]? = some fn ∧ fn.body = some c ∧ okCode P F c = true ∧ (fn.name == "runtime.NumGoroutine") = false := by
  unfold okFn at h
  split at h
  · rename_i fn hf
    rw [Bool.and_eq_true] at h
    obtain ⟨h1, h2⟩ := h
    split at h1
    · rename_i c hc
      exact ⟨fn, c, hf, hc, h1, by simpa using h2⟩
    · cases h1
  · cases h
def isNamed : TypeDesc → Bool
  | .named _ _ => true
  | _ => false
theorem reckonStruct_plain {info : TypeId → Option TypeInfo} {fs : Array Field} {i : TypeInfo} (h : Made.reckonStruct info fs = some i) : isNamed i.desc = false := by
  unfold Made.reckonStruct at h
  simp only [Option.bind_eq_bind, Option.bind_eq_some_iff, Option.pure_def] at h
  obtain ⟨st, hst, h⟩ := h
  clear hst
  split at h
  · simp only [Option.some.injEq] at h; subst h; rfl
  · simp only [Option.some.injEq] at h; subst h; rfl
theorem reckon_plain {info : TypeId → Option TypeInfo} {d : TypeDesc} {i : TypeInfo} (h : Made.reckon info d = some i) : isNamed i.desc = false := by
  cases d <;> simp only [Made.reckon, Option.bind_eq_bind, Option.bind_eq_some_iff, Option.pure_def, Option.some.injEq, reduceCtorEq] at h
  case struct fs => exact reckonStruct_plain h
  case pointer e =>
    obtain ⟨j, hj, h⟩ := h
    split at h
    · cases h
    · split at h
      · cases h
      · simp only [Option.bind_eq_some_iff, Option.some.injEq] at h
        obtain ⟨s, _, h⟩ := h
        subst h; rfl
    · simp only [Option.bind_eq_some_iff, Option.some.injEq] at h
      obtain ⟨s, _, h⟩ := h
      subst h; rfl
  case slice e => obtain ⟨_, _, _, _, h⟩ := h; subst h; rfl
  case array n e => obtain ⟨_, _, _, _, h⟩ := h; subst h; rfl
  case map k e => obtain ⟨_, _, _, _, _, _, _, _, h⟩ := h; subst h; rfl
  case chan d e => obtain ⟨_, _, _, _, h⟩ := h; subst h; rfl
  case func ps rs v => obtain ⟨_, _, h⟩ := h; subst h; rfl
def noCCt (i : TypeInfo) : Bool := match i.desc with | .named s _ => s != "sync.copyChecker" | _ => true
theorem noCC_of {P : Program} (h : P.types.toList.all noCCt = true) : NoCC P := by
  have h0 : ∀ (t : Nat) i, P.types[t]? = some i → noCCt i = true := fun t i ht => List.all_eq_true.1 h i (by
    have := Array.mem_of_getElem? ht
    simpa using this)
  have h1 : ∀ i u, noCCt i = true → i.desc ≠ .named "sync.copyChecker" u := by
    intro i u hi e
    simp [noCCt, e] at hi
  have h2 : ∀ (i : TypeInfo) u, isNamed i.desc = false → i.desc ≠ .named "sync.copyChecker" u := by
    intro i u hi e
    simp [isNamed, e] at hi
  intro t i u hi
  unfold Tables.info? at hi
  split at hi
  · exact h1 _ _ (h0 t i hi)
  · unfold Made.infoAt at hi
    split at hi
    · cases hi
    · split at hi
      · exact h1 _ _ (h0 _ i hi)
      · obtain ⟨d, _, hd⟩ := Option.bind_eq_some_iff.1 hi
        exact h2 _ _ (reckon_plain hd)
end Go.Vw
namespace Go.Proofs.Ytpiefebngnlfoaa
open Go.Vw
def FL : List FuncId := [10, 11, 12, 14, 15, 16, 17, 18, 19, 22, 23, 24, 26, 27, 28, 30, 31, 32, 33, 34, 36, 37, 40, 41, 42, 44, 45, 46, 50, 51, 53, 54, 68, 69]
def FF (f : FuncId) : Bool := FL.contains f
theorem all_ok : FL.all (okFn Try.prog FF) = true := by kernel_rfl
theorem noCC : NoCC Try.prog := noCC_of (by kernel_rfl)
theorem goodFF : Vw.Good Try.prog FF := by
  refine ⟨fun f hf => ?_, noCC⟩
  have hm : f ∈ FL := by simpa [FF] using hf
  exact okFn_spec (List.all_eq_true.1 all_ok f hm)
end Go.Proofs.Ytpiefebngnlfoaa

/-
  field.timesX, field.Mul IN COMPANY: they touch no memory: whatever the others do.
-/
namespace Go.Proofs.Ytpiefebngnlfoaa
open Go.RowKit Go.Conc

theorem u8wrap (n : Int) : IntKind.u8.wrap n = n % 256 := by simp [IntKind.wrap, IntKind.bits, IntKind.signed]
section
variable {main : Bool} {R : World → World → Prop} {D : World → World → Array Event → Prop}

set_option maxRecDepth 100000 in
set_option maxHeartbeats 1000000 in
theorem timesX_c (T : Terms R D) : ∃ k, ∀ (a : Nat) (w₀ w : World), a < 256 → Since R w₀ w →
    CallsC Try.prog main R D 40 #[.int .u8 (a : Int)] k w fun v w' => v = .int .u8 (Fld.xt a : Nat) ∧ Since R w₀ w' := by
  co_apply Exists.intro
  intro a w₀ w ha hF
  co_apply callsC_of_wpC Try.func40 (by rfl) rfl
  simp only [Try.ntmps40, List.size_toArray, List.length_cons, List.length_nil, Nat.reduceAdd, Nat.reduceSub, Array.replicate_succ, Array.replicate_zero, List.push_toArray, List.append_toArray, List.nil_append, List.cons_append]
  co_go T (Since.rely T) hF (co_quiet T)
  co_split T (bits .and .u8 (a : Int) 128 == 0)
  · intro ht
    have g : a < 128 := by
      rcases Nat.lt_or_ge a 128 with g | g
      · exact g
      · rw [and128_hi a g ha] at ht; cases ht
    co_go T (Since.rely T) hF (co_quiet T)
    exact ⟨rfl, _, resultsC_tmp (by rfl) _, by simp only [go_sem]; rw [u8wrap]; simpa [Int.emod_eq_of_lt (show (0 : Int) ≤ (a : Int) * 2 by omega) (show (a : Int) * 2 < 256 by omega)] using xt_lo a g, hF⟩
  · intro ht
    have g : 128 ≤ a := by
      rcases Nat.lt_or_ge a 128 with g | g
      · rw [and128_lo a g] at ht; cases ht
      · exact g
    co_go T (Since.rely T) hF (co_quiet T)
    exact ⟨rfl, _, resultsC_tmp (by rfl) _, by simp [u8wrap]; exact xt_hi a g ha, hF⟩

/-- A call in a region, its arguments named. -/
theorem opsC_call_at (T : Terms R D) {P : Program} {fn : FuncId} {Q : Exit → Act → World → Prop} {a : Act} {w : World} {ops : Array Oper} {i : Nat} {rest : List Nat} {o : Oper} {f : FuncId} {args : Array Operand} {ats : Array TypeId} {nf n : Nat} {Post : Value → World → Prop} {vs : Array Value}
    (ho : ops[i]? = some o) (hw : Region.wanted o (yielded ops a.tmps) = true) (hop : o.op = .call { callee := .value (.func f), args, argTypes := ats })
    (hcall : CallsC P main R D f vs nf w Post) (hvs : args.map a.eval = vs) (hnext : ∀ v w', Post v w' → OpsC P main R D fn ops rest n Q (a.put o.dst v) w') : OpsC P main R D fn ops (i :: rest) (n + nf + 3) Q a w := by
  subst hvs
  exact opsC_call T ho hw hop hcall hnext

set_option maxRecDepth 100000 in
set_option maxHeartbeats 1000000 in
theorem fmul_c (T : Terms R D) : ∃ k, ∀ (a b : Nat) (w₀ w : World), a < 256 → b < 256 → Since R w₀ w →
    CallsC Try.prog main R D 34 #[.int .u8 (a : Int), .int .u8 (b : Int)] k w fun v w' => v = .int .u8 (Fld.mul a b : Nat) ∧ Since R w₀ w' := by
  obtain ⟨kx, hx⟩ := timesX_c (main := main) T
  co_apply Exists.intro
  intro a b w₀ w ha hb hF
  co_apply callsC_of_wpC Try.func34 (by rfl) rfl
  simp only [Try.ntmps34, List.size_toArray, List.length_cons, List.length_nil, Nat.reduceAdd, Nat.reduceSub, Array.replicate_succ, Array.replicate_zero, List.push_toArray, List.append_toArray, List.nil_append, List.cons_append]
  co_go T (Since.rely T) hF (co_quiet T)
  co_apply wpC_loop T (fun act w' => Since R w₀ w' ∧ ∃ (k : Nat) (u2 u3 u6 u7 u8 u9 u10 u11 u12 u13 u14 u15 u16 u17 u18 : Value), k ≤ 8 ∧
      act = ⟨#[.int .u8 (Fld.xp k a : Nat), .int .u8 (sh b k : Nat), u2, u3, .int .u8 0, .int .u8 (Fld.mk a b k : Nat), u6, u7, u8, u9, u10, u11, u12, u13, u14, u15, u16, u17, u18], []⟩)
    (fun act _ => (intOf (act.tmps.getD 1 undef)).toNat) _ 256 ?h0 ?hN ?round
  case h0 => exact ⟨hF, 0, undef, undef, undef, undef, undef, undef, undef, undef, undef, undef, undef, undef, undef, undef, undef, by omega, by simp [sh, Fld.xp, Fld.mk]⟩
  case hN => simp [intOf]; omega
  case round =>
    rintro act w' ⟨hF, k, u2, u3, u6, u7, u8, u9, u10, u11, u12, u13, u14, u15, u16, u17, u18, hk, rfl⟩
    have h1 := sh_lt b k hb
    have h2 := Fld.xp_lt ha k
    have h3 := Fld.mk_lt ha b k
    co_go T (Since.rely T) hF (co_quiet T)
    co_split T ((sh b k : Int) != 0)
    · intro hz
      have h0 : sh b k ≠ 0 := by intro e; rw [e] at hz; cases hz
      have hk8 := sh_ne b k hb h0
      co_go T (Since.rely T) hF (co_quiet T)
      co_split T (bits .and .u8 (sh b k : Int) 1 == 1)
      · intro hb1
        have hm : sh b k % 2 = 1 := by
          rcases Nat.mod_two_eq_zero_or_one (sh b k) with e | e
          · have := and1_no _ h1 (show ¬ sh b k % 2 = 1 by omega); rw [this] at hb1; cases hb1
          · exact e
        have H := hide (mk_on a b k hm)
        co_go T (Since.rely T) hF (co_quiet T)
        co_apply opsC_call_at T rfl (by rfl) rfl (hx _ _ _ h2 hF) (by simp [Act.eval])
        rintro v w'' ⟨rfl, hF⟩
        co_go T (Since.rely T) hF (co_quiet T)
        have e2 : ((sh b k : Nat) : Int) / 2 = ((sh b (k + 1) : Nat) : Int) := by rw [sh_succ]; omega
        rw [u8_xor_nat _ _ h3 h2, ← H.out, e2]
        exact ⟨⟨hF, k + 1, u2, u3, _, _, _, _, _, _, _, _, _, _, _, _, _, by omega, rfl⟩, by rw [sh_succ]; simp [intOf]; omega⟩
      · intro hb1
        have hm : ¬ sh b k % 2 = 1 := by
          intro e
          have := and1_yes _ h1 e; rw [this] at hb1; cases hb1
        have H := hide (mk_off a b k hm)
        co_apply wpC_skip T
        co_then
        co_apply wpC_more
        co_go T (Since.rely T) hF (co_quiet T)
        co_apply opsC_call_at T rfl (by rfl) rfl (hx _ _ _ h2 hF) (by simp [Act.eval])
        rintro v w'' ⟨rfl, hF⟩
        co_go T (Since.rely T) hF (co_quiet T)
        have e2 : ((sh b k : Nat) : Int) / 2 = ((sh b (k + 1) : Nat) : Int) := by rw [sh_succ]; omega
        rw [← H.out, e2]
        exact ⟨⟨hF, k + 1, u2, u3, _, _, _, _, _, _, _, _, _, _, _, _, _, by omega, rfl⟩, by rw [sh_succ]; simp [intOf]; omega⟩
        omega
    · intro hz
      have h0 : sh b k = 0 := by
        rcases Nat.eq_zero_or_pos (sh b k) with e | e
        · exact e
        · exfalso
          have : ((sh b k : Int) != 0) = true := by simp; omega
          rw [this] at hz; cases hz
      co_apply wpC_exit T
      co_then
      co_go T (Since.rely T) hF (co_quiet T)
      exact ⟨rfl, _, resultsC_tmp (by rfl) _, by simp [mk_end a b k hk h0], hF⟩
end
end Go.Proofs.Ytpiefebngnlfoaa

/-
  field.Inverse IN COMPANY.
-/
namespace Go.Proofs.Ytpiefebngnlfoaa
open Go.RowKit Go.Conc
namespace Fld
/-- a, squared k times. -/
def sq (a : Nat) : Nat → Nat
  | 0 => a
  | k + 1 => mul (sq a k) (sq a k)
/-- the product of the first k squares of a. -/
def iv (a : Nat) : Nat → Nat
  | 0 => 1
  | k + 1 => mul (iv a k) (sq a (k + 1))
def inv (a : Nat) : Nat := iv a 7
theorem sq_lt {a : Nat} (h : a < 256) (k : Nat) : sq a k < 256 := by
  induction k with
  | zero => exact h
  | succ k ih => exact mul_lt ih _
theorem iv_lt (a k : Nat) : iv a k < 256 := by
  induction k with
  | zero => exact (by decide : 1 < 256)
  | succ k ih => exact mul_lt ih _
theorem inv_lt (a : Nat) : inv a < 256 := iv_lt a 7
theorem inv_mul {a : Nat} (h : a < 256) (h0 : a ≠ 0) : mul a (inv a) = 1 := by
  have key : allTo (fun n => n == 0 || mul n (inv n) == 1) 256 = true := by decide +kernel
  have := allTo_spec key a h
  simpa [h0] using this
end Fld
section
variable {main : Bool} {R : World → World → Prop} {D : World → World → Array Event → Prop}

set_option maxRecDepth 100000 in
set_option maxHeartbeats 1000000 in
theorem inverse_c (T : Terms R D) : ∃ k, ∀ (a : Nat) (w₀ w : World), a < 256 → Since R w₀ w →
    CallsC Try.prog main R D 69 #[.int .u8 (a : Int)] k w fun v w' => v = .int .u8 (Fld.inv a : Nat) ∧ Since R w₀ w' := by
  obtain ⟨kx, hx⟩ := fmul_c (main := main) T
  co_apply Exists.intro
  intro a w₀ w ha hF
  co_apply callsC_of_wpC Try.func69 (by rfl) rfl
  simp only [Try.ntmps69, List.size_toArray, List.length_cons, List.length_nil, Nat.reduceAdd, Nat.reduceSub, Array.replicate_succ, Array.replicate_zero, List.push_toArray, List.append_toArray, List.nil_append, List.cons_append]
  co_go T (Since.rely T) hF (co_quiet T)
  co_apply wpC_loop T (fun act w' => Since R w₀ w' ∧ ∃ (k : Nat) (u1 u7 u8 u9 u10 u11 u12 u13 u14 u15 : Value), k ≤ 7 ∧
      act = ⟨#[.int .u8 (a : Nat), u1, .int .u8 0, .int .u8 (Fld.sq a k : Nat), .int .u8 (Fld.iv a k : Nat), .int .u8 (a : Nat), .int .i64 (k : Nat), u7, u8, u9, u10, u11, u12, u13, u14, u15], []⟩)
    (fun act _ => 7 - (intOf (act.tmps.getD 6 undef)).toNat) _ 7 ?h0 ?hN ?round
  case h0 => exact ⟨hF, 0, undef, undef, undef, undef, undef, undef, undef, undef, undef, undef, by omega, by simp [Fld.sq, Fld.iv]⟩
  case hN => simp [intOf]
  case round =>
    rintro act w' ⟨hF, k, u1, u7, u8, u9, u10, u11, u12, u13, u14, u15, hk, rfl⟩
    have h1 := Fld.sq_lt ha k
    have h1' := Fld.sq_lt ha (k + 1)
    have h2 := Fld.iv_lt a k
    co_go T (Since.rely T) hF (co_quiet T)
    co_split T (decide ((k : Int) < 7))
    · intro hz
      have hk7 : k < 7 := by have := of_decide_eq_true hz; omega
      co_go T (Since.rely T) hF (co_quiet T)
      co_apply opsC_call_at T rfl (by rfl) rfl (hx _ _ _ _ h1 h1 hF) (by simp [Act.eval])
      rintro v w'' ⟨rfl, hF⟩
      co_go T (Since.rely T) hF (co_quiet T)
      co_apply opsC_call_at T rfl (by rfl) rfl (hx _ _ _ _ h2 h1' hF) (by simp [Act.eval, Fld.sq])
      rintro v w'' ⟨rfl, hF⟩
      co_go T (Since.rely T) hF (co_quiet T)
      have e : IntKind.i64.wrap ((k : Int) + 1) = ((k + 1 : Nat) : Int) := by
        rw [IntKind.wrap_i64]; omega
      rw [e]
      exact ⟨⟨hF, k + 1, u1, _, _, _, _, _, _, _, _, _, by omega, rfl⟩, by simp [intOf]; omega⟩
    · intro hz
      have h0 : k = 7 := by
        have := of_decide_eq_false hz
        omega
      subst h0
      co_go T (Since.rely T) hF (co_quiet T)
      exact ⟨rfl, _, resultsC_tmp (by rfl) _, by simp [Fld.inv], hF⟩
end
end Go.Proofs.Ytpiefebngnlfoaa

/-
  piece.distances IN COMPANY, in a view.
-/
namespace Go.Proofs.Ytpiefebngnlfoaa
open Go.RowKit Go.Conc Go.Vw
namespace Fld
/-- the product of k less each known place but the one at j, over the first m. -/
def dist (known : Nat → Nat) (j k : Nat) : Nat → Nat
  | 0 => 1
  | m + 1 => if m = j then dist known j k m else mul (dist known j k m) (k ^^^ known m)
theorem dist_lt (known : Nat → Nat) (j k m : Nat) : dist known j k m < 256 := by
  induction m with
  | zero => exact (by decide : 1 < 256)
  | succ m ih =>
    unfold dist
    split
    · exact ih
    · exact mul_lt ih _
end Fld
/-- ten numbers as an array. -/
def ten (known : Nat → Nat) : Array Value := (Array.range 10).map fun i => .int .i64 (known i : Nat)
theorem ten_size (known : Nat → Nat) : (ten known).size = 10 := by simp [ten]
theorem ten_get (known : Nat → Nat) (i : Nat) (h : i < 10) : (ten known)[i]? = some (.int .i64 (known i : Nat)) := by simp [ten, h]
/-- What is held: a row stands. -/
structure HR (w₀ : World) (N : Nat) (o : Obj) (w : World) : Prop where
  since : Since Ext w₀ w
  row : w.heap[N]? = some o
theorem HR.rely {w₀ w w₁ : World} {N : Nat} {o : Obj} (h : HR w₀ N o w) (r : Ext w w₁) : HR w₀ N o w₁ := ⟨h.since.rely (termsW fun _ => False) r, r.row h.row⟩
section
variable {main : Bool} {Rd : Nat → Prop}

set_option maxRecDepth 100000 in
set_option maxHeartbeats 1000000 in
theorem distances_c : ∃ n, ∀ (known : Nat → Nat) (j k : Nat) (w₀ w : World), (∀ i, i < 10 → known i < 14) → j < 10 → k < 14 → (∀ b, Rd b → b < w.heap.size) → Since Ext w₀ w →
    CallsC Try.prog main Ext (DW Rd) 68 #[.agg (ten known), .int .i64 (j : Nat), .int .i64 (k : Nat)] n w fun v w' => v = .int .u8 (Fld.dist known j k 10 : Nat) ∧ Since Ext w₀ w' := by
  have T := termsW Rd
  obtain ⟨kx, hx⟩ := fmul_c (main := main) T
  co_apply Exists.intro
  intro known j k w₀ w hkn hj hk hlow hF
  co_apply callsC_of_wpC Try.func68 (by rfl) rfl
  simp only [Try.ntmps68, List.size_toArray, List.length_cons, List.length_nil, Nat.reduceAdd, Nat.reduceSub, Array.replicate_succ, Array.replicate_zero, List.push_toArray, List.append_toArray, List.nil_append, List.cons_append]
  co_apply wpC_seq T
  co_reg T
  co_apply opsC_box_at (ten known) rfl (by rfl) rfl hlow rfl
  intro N w' hN hrow hE
  have hH : HR w₀ N _ w' := ⟨hF.rely T hE, hrow⟩
  clear hF hE hlow hrow
  try walk_nrm
  co_go T HR.rely hH (co_quiet T)
  co_apply opsC_loadRow rfl (by rfl) rfl rfl hH.row (by kernel_rfl) (by rw [ten_size]; kernel_rfl)
  intro w₂ hR
  have hF := (hH.rely hR).since
  clear hH hR
  try walk_nrm
  co_go T (Since.rely T) hF (co_quiet T)
  co_apply wpC_loop T (fun act w' => Since Ext w₀ w' ∧ ∃ (m : Nat) (u4 u5 u8 u9 u12 u13 u14 u15 u16 u17 u18 u19 u20 u21 u22 u23 u24 u25 u26 : Value), m ≤ 10 ∧
      act = ⟨#[.agg (ten known), .int .i64 (j : Nat), .int .i64 (k : Nat), .pointer (some ⟨N, 0, none⟩), u4, u5, .int .u8 0, .int .u8 (Fld.dist known j k m : Nat), u8, u9, .agg (ten known), .int .i64 (m : Nat), u12, u13, u14, u15, u16, u17, u18, u19, u20, u21, u22, u23, u24, u25, u26], []⟩)
    (fun act _ => 10 - (intOf (act.tmps.getD 11 undef)).toNat) _ 10 ?h0 ?hN ?round
  case h0 => exact ⟨hF, 0, undef, undef, undef, undef, undef, undef, undef, undef, undef, undef, undef, undef, undef, undef, undef, undef, undef, undef, undef, by omega, by simp [Fld.dist]⟩
  case hN => simp [intOf]
  case round =>
    rintro act w' ⟨hF, m, u4, u5, u8, u9, u12, u13, u14, u15, u16, u17, u18, u19, u20, u21, u22, u23, u24, u25, u26, hm, rfl⟩
    have h3 := Fld.dist_lt known j k m
    co_go T (Since.rely T) hF (co_quiet T)
    co_split T (decide ((m : Int) < 10))
    · intro hz
      have hm7 : m < 10 := by have := of_decide_eq_true hz; omega
      have hkm := hkn m hm7
      co_go T (Since.rely T) hF (co_quiet T)
      co_apply opsC_index T rfl (by rfl) rfl rfl rfl (show plainArray _ _ = some 10 by kernel_rfl) hm7 (ten_get known m hm7)
      intro w₃ hR
      replace hF := Since.rely T hF hR
      clear hR
      try walk_nrm
      co_go T (Since.rely T) hF (co_quiet T)
      co_split T ((m : Int) != (j : Int))
      · intro hne
        have hmj : m ≠ j := by intro e; subst e; simp at hne
        have hd : Fld.dist known j k (m + 1) = Fld.mul (Fld.dist known j k m) (k ^^^ known m) := by simp [Fld.dist, hmj]
        have hkk : k ^^^ known m < 256 := Fld.xor_lt (by omega) (by omega)
        have e1 : IntKind.u8.wrap (k : Int) = (k : Int) := by rw [u8wrap]; omega
        have e2 : IntKind.u8.wrap (known m : Int) = (known m : Int) := by rw [u8wrap]; omega
        co_go T (Since.rely T) hF (first | co_quiet T | (rw [listed_nil (by (simp [go_sem]; exact events_convert_int _ _ _ _ (by kernel_rfl) (by kernel_rfl) _))]; exact Terms.idle T _))
        co_apply opsC_call_at T rfl (by rfl) rfl (hx _ _ _ _ h3 hkk hF) (by simp [Act.eval, u8_xor_nat _ _ (show k < 256 by omega) (show known m < 256 by omega)])
        rintro v w'' ⟨rfl, hF⟩
        co_go T (Since.rely T) hF (co_quiet T)
        have e : IntKind.i64.wrap ((m : Int) + 1) = ((m + 1 : Nat) : Int) := by rw [IntKind.wrap_i64]; omega
        rw [e, ← hd]
        exact ⟨⟨hF, m + 1, u4, u5, _, _, _, _, _, _, _, _, _, _, _, _, _, _, _, _, _, by omega, rfl⟩, by simp [intOf]; omega⟩
      · intro hne
        have hmj : m = j := by
          rcases Nat.decEq m j with e | e
          · exfalso
            have : ((m : Int) != (j : Int)) = true := by simp; omega
            rw [this] at hne; cases hne
          · exact e
        have hd : Fld.dist known j k (m + 1) = Fld.dist known j k m := by simp [Fld.dist, hmj]
        clear hmj
        co_apply wpC_skip T
        co_then
        co_apply wpC_more
        co_go T (Since.rely T) hF (co_quiet T)
        have e : IntKind.i64.wrap ((m : Int) + 1) = ((m + 1 : Nat) : Int) := by rw [IntKind.wrap_i64]; omega
        rw [e, ← hd]
        exact ⟨⟨hF, m + 1, u4, u5, _, _, _, _, _, _, _, _, _, _, _, _, _, _, _, _, _, by omega, rfl⟩, by simp [intOf]; omega⟩
        omega
    · intro hz
      have h0 : m = 10 := by
        have := of_decide_eq_false hz
        omega
      subst h0
      co_go T (Since.rely T) hF (co_quiet T)
      exact ⟨rfl, _, resultsC_tmp (by rfl) _, by simp, hF⟩
end
end Go.Proofs.Ytpiefebngnlfoaa

/-
  piece.weights IN COMPANY, in a view. UNDER WAY.
-/
namespace Go.Vw
open Go.Conc
section
variable {P : Program} {main : Bool} {Rd : Nat → Prop} {fn : FuncId} {ops : Array Oper} {S : World → Prop}
/-- The address of an element of an array lists nothing. -/
theorem events_indexAt_plain {t : TypeId} {L m : Nat} {ad : Addr} {w : World} {es : Array Event} (hu : plainArray P t = some L) (hm : m < L) :
    (Instr.indexAt t (.pointer (some ad)) (.int .i64 (m : Nat))).events P w es = es := by
  obtain ⟨e, inf, d, hu, hq, hs, hu2, hd⟩ := plainArray_spec hu
  have hb : (0 : Int) ≤ (m : Int) ∧ (m : Int) < (L : Int) := by omega
  simp [Instr.indexAt, asIntOf, Instr.sureAddr, Sem.events_bind, run_underlying hu, hm, hb, sizeOf, typeInfo, hq]
/-- A whole array's load, in a region that draws its order. -/
theorem yields_loadRow {o : Oper} {b : Nat} {a : Act} {t t' : TypeId} {p : Operand} {c : Array Value} {fr : Nat × Nat}
    (hw : Region.wanted o (yielded ops a.tmps) = true) (hop : o.op = .load t p) (hp : a.eval p = .pointer (some ⟨b, 0, none⟩))
    (hrow : ∀ w, S w → w.heap[b]? = some (.cells c t' fr)) (hu : (P.underlying t).map isAggDesc = some true) (hi : (P.info? t).map (·.size) = some c.size) :
    YieldsIfC P (DW Rd) fn ops S o (.agg c) a := by
  refine .inl ⟨hw, fun w hS => ?_⟩
  obtain ⟨d, hu, hd⟩ := Option.map_eq_some_iff.1 hu
  have hload : (loadVar t ⟨b, 0, none⟩).run P w = .ok (.agg c) w := run_loadVar_row w b t' t c fr _ (hrow w hS) hu (by cases d <;> simp_all [isAggDesc]) hi
  constructor
  · unfold execOp
    simp only [hop, hp, Sem.run_bind, Instr.loadAt, Instr.sureAddr, Sem.run_pure, Result.andThen_ok, hload]
  · refine ⟨⟨rfl, rfl⟩, fun _ _ => rfl, fun ev hev => ?_⟩
    have hm := mem_listed hev
    unfold execOp at hm
    simp only [hop, hp, Instr.loadAt, Instr.sureAddr, pure_bind, Sem.events_bind, hload, Result.evThen_ok, Sem.events_pure] at hm
    exact load_row_events (hrow w hS) hu hd hi ev hm
/-- One cell's store, the last operation at hand, in a region that draws its order. -/
theorem anyK_store {md : Region.Mode} {Q : Exit → Act → World → Prop} {N : Nat} {fuel : Nat} {l : Array Bool} {a : Act} {w : World} {o : Oper} {g i j : Nat} {t t' : TypeId} {x y : Operand} {old : Array Value} {k : IntKind} {n : Int} (hr : Region.ready md ops l = [j]) (ho : ops[j]? = some o)
    (hw : Region.wanted o (yielded ops a.tmps) = true) (hop : o.op = .store t x y) (hx : a.eval x = .pointer (some ⟨g, i, none⟩)) (hy : a.eval y = .int k n) (hrow : w.heap[g]? = some (.cells old t')) (hi : i < old.size) (hs : (P.info? t).map (·.size) = some 1) (hg : ¬ Rd g)
    (hnext : ∀ w₁, Ext w w₁ → S (w₁.setRow g (old.setIfInBounds i (.int k n))) ∧ AnyK P main Ext (DW Rd) fn md ops Q S N fuel (l.setIfInBounds j true) (a.put o.dst undef) (w₁.setRow g (old.setIfInBounds i (.int k n)))) : AnyK P main Ext (DW Rd) fn md ops Q S N (fuel + 1) l a w := by
  refine anyK_all hr (by simp) fun i' hi' => ?_
  obtain rfl : i' = j := by simpa using hi'
  unfold OpK
  simp only [ho, hw, if_true]
  refine .inl fun w₁ hR => ?_
  obtain ⟨hrun, hev⟩ := run_storeCell (P := P) (fn := fn) (w := w₁) hop hx hy (hR.row hrow) hi hs
  have hD : DW Rd w₁ (w₁.setRow g (old.setIfInBounds i (.int k n))) (listed P fn a o w₁) := ⟨⟨rfl, rfl⟩, fun b hb => setRow_other _ _ _ _ (fun e => hg (e ▸ hb)), fun e he => by rw [hev e he]; exact ⟨_, rfl, rfl, fun _ => hg⟩⟩
  rcases hrun with hrun | hrun <;> rw [hrun]
  · exact ⟨hD, hnext _ hR⟩
  · exact ⟨hD, hnext _ hR⟩
end
end Go.Vw
namespace Go.Proofs.Ytpiefebngnlfoaa
open Go.RowKit Go.Conc Go.Vw
namespace Fld
def wgt (known : Nat → Nat) (k i : Nat) : Nat := mul (dist known i k 10) (inv (dist known i (known i) 10))
end Fld
def wts (known : Nat → Nat) (k m : Nat) : Array Value := (Array.range 10).map fun i => .int .u8 ((if i < m then Fld.wgt known k i else 0 : Nat) : Int)
theorem wts_size (known : Nat → Nat) (k m : Nat) : (wts known k m).size = 10 := by simp [wts]
theorem wts_zero (known : Nat → Nat) (k : Nat) : wts known k 0 = #[.int .u8 0, .int .u8 0, .int .u8 0, .int .u8 0, .int .u8 0, .int .u8 0, .int .u8 0, .int .u8 0, .int .u8 0, .int .u8 0] := by
  simp only [wts, Nat.not_lt_zero, if_false]; kernel_rfl
/-- What is held. -/
structure HW (w₀ : World) (K Z W : Nat) (ok oz ow : Obj) (w : World) : Prop where
  since : Since Ext w₀ w
  rk : w.heap[K]? = some ok
  rz : w.heap[Z]? = some oz
  rw : w.heap[W]? = some ow
theorem HW.rely {w₀ w w₁ : World} {K Z W : Nat} {ok oz ow : Obj} (h : HW w₀ K Z W ok oz ow w) (r : Ext w w₁) : HW w₀ K Z W ok oz ow w₁ := ⟨h.since.rely (termsW fun _ => False) r, r.row h.rk, r.row h.rz, r.row h.rw⟩
/-- What is held whatever the weights so far. -/
structure HS (w₀ : World) (K Z W : Nat) (ok oz : Obj) (tw : TypeId) (w : World) : Prop where
  since : Since Ext w₀ w
  rk : w.heap[K]? = some ok
  rz : w.heap[Z]? = some oz
  ex : ∃ c, w.heap[W]? = some (.cells c tw)
theorem HS.rely {w₀ w w₁ : World} {K Z W : Nat} {ok oz : Obj} {tw : TypeId} (h : HS w₀ K Z W ok oz tw w) (r : Ext w w₁) : HS w₀ K Z W ok oz tw w₁ := ⟨h.since.rely (termsW fun _ => False) r, r.row h.rk, r.row h.rz, h.ex.imp fun _ => r.row⟩
theorem HW.hs {w₀ w : World} {K Z W : Nat} {ok oz : Obj} {tw : TypeId} {c : Array Value} (h : HW w₀ K Z W ok oz (.cells c tw) w) : HS w₀ K Z W ok oz tw w := ⟨h.since, h.rk, h.rz, c, h.rw⟩
theorem since_ext {w w' : World} (h : Since Ext w w') : Ext w w' := h.elim (fun e => e ▸ Ext.refl _) id
theorem wts_set (known : Nat → Nat) (k m : Nat) (h : m < 10) : (wts known k m).setIfInBounds m (.int .u8 (Fld.wgt known k m : Nat)) = wts known k (m + 1) := by
  apply Array.ext_getElem?
  intro i
  rw [Array.getElem?_setIfInBounds]
  by_cases e : m = i
  · subst e
    simp [wts, h]
  · rw [if_neg e]
    simp only [wts, Array.getElem?_map]
    by_cases hi : i < 10
    · simp [hi, show i < m + 1 ↔ i < m by omega]
    · simp [hi]
theorem wts_all (known : Nat → Nat) (k m : Nat) : (wts known k m).all (·.oneCell') = true := by
  rw [Array.all_eq_true_iff_forall_mem]
  intro v hv
  simp only [wts, Array.mem_map] at hv
  obtain ⟨i, _, rfl⟩ := hv
  rfl
section
variable {main : Bool} {Rd : Nat → Prop}

set_option maxRecDepth 100000 in
set_option maxHeartbeats 1000000 in
theorem weights_c : ∃ n, ∀ (known : Nat → Nat) (k : Nat) (w₀ w : World), (∀ i, i < 10 → known i < 14) → k < 14 → (∀ b, Rd b → b < w.heap.size) → Since Ext w₀ w →
    CallsW Try.prog main Ext (DW Rd) 51 #[.agg (ten known), .int .i64 (k : Nat)] n w fun v w' => v = .agg (wts known k 10) ∧ Since Ext w₀ w' := by
  have T := termsW Rd
  obtain ⟨kx, hx⟩ := fmul_c (main := main) T
  obtain ⟨ki, hi⟩ := inverse_c (main := main) T
  obtain ⟨kd, hdist⟩ := distances_c (main := main) (Rd := Rd)
  co_apply Exists.intro
  intro known k w₀ w hkn hk hlow hF
  co_apply callsW_of_wpC Try.func51 (by rfl) rfl
  simp only [Try.ntmps51, List.size_toArray, List.length_cons, List.length_nil, Nat.reduceAdd, Nat.reduceSub, Array.replicate_succ, Array.replicate_zero, List.push_toArray, List.append_toArray, List.nil_append, List.cons_append]
  co_apply wpC_seq T
  co_reg T
  co_apply opsC_box_at (ten known) rfl (by rfl) rfl hlow rfl
  intro K w1 hK hrK hE
  obtain ⟨tk, etk, hrK⟩ : ∃ tk, tk = id _ ∧ w1.heap[K]? = some (.cells (ten known) tk) := ⟨_, rfl, hrK⟩
  have hF1 := hF.rely T hE
  have hlow1 : ∀ b, Rd b → b < w1.heap.size := fun b hb => Nat.lt_of_lt_of_le (hlow b hb) hE.size
  try walk_nrm
  co_apply opsC_allocRow (wts known k 0) rfl (by rfl) rfl hlow1 (by rw [wts_zero]; kernel_rfl)
  intro Z w2 hZ hrZ hE2
  obtain ⟨tw, etw, hrZ⟩ : ∃ tw, tw = id _ ∧ w2.heap[Z]? = some (.cells (wts known k 0) tw) := ⟨_, rfl, hrZ⟩
  have hF2 := hF1.rely T hE2
  have hlow2 : ∀ b, Rd b → b < w2.heap.size := fun b hb => Nat.lt_of_lt_of_le (hlow1 b hb) hE2.size
  have hrK2 := hE2.row hrK
  try walk_nrm
  co_go T (fun h r => h) hK (co_quiet T)
  co_apply opsC_allocRow (wts known k 0) rfl (by rfl) rfl hlow2 (by rw [wts_zero]; kernel_rfl)
  intro W w3 hW hrW hE3
  replace hrW : w3.heap[W]? = some (.cells (wts known k 0) tw) := by rw [etw]; exact hrW
  have hlow3 : ∀ b, Rd b → b < w3.heap.size := fun b hb => Nat.lt_of_lt_of_le (hlow2 b hb) hE3.size
  have hH : HW w₀ K Z W _ _ _ w3 := ⟨hF2.rely T hE3, hE3.row hrK2, hE3.row hrZ, hrW⟩
  have hW0 : w₀.heap.size ≤ W := by
    have := (since_ext hF2).size
    omega
  have hZ0 : w₀.heap.size ≤ Z := by
    have := (since_ext hF1).size
    omega
  have n1 : ¬ Rd W := fun h => by have := hlow2 W h; omega
  have n2 : ¬ Rd Z := fun h => by have := hlow1 Z h; omega
  try walk_nrm
  co_go T HW.rely hH (co_quiet T)
  co_apply wpC_loop T (fun act w' => ∃ (m : Nat) (u3 u6 u8 u9 u10 u11 u12 u13 u14 u15 u16 u17 u18 u19 u20 u21 u22 u23 u24 u25 : Value), m ≤ 10 ∧ HW w₀ K Z W (.cells (ten known) tk) (.cells (wts known k 0) tw) (.cells (wts known k m) tw) w' ∧
      act = ⟨#[.agg (ten known), .int .i64 (k : Nat), .pointer (some ⟨K, 0, none⟩), u3, .pointer (some ⟨Z, 0, none⟩), .pointer (some ⟨W, 0, none⟩), u6, .int .i64 (m : Nat), u8, u9, u10, u11, u12, u13, u14, u15, u16, u17, u18, u19, u20, u21, u22, u23, u24, u25], []⟩)
    (fun act _ => 10 - (intOf (act.tmps.getD 7 undef)).toNat) _ 10 ?h0 ?hN ?round
  case h0 => exact ⟨0, undef, undef, undef, undef, undef, undef, undef, undef, undef, undef, undef, undef, undef, undef, undef, undef, undef, undef, undef, undef, by omega, hH, by simp⟩
  case hN => simp [intOf]
  case round =>
    rintro act w' ⟨m, u3, u6, u8, u9, u10, u11, u12, u13, u14, u15, u16, u17, u18, u19, u20, u21, u22, u23, u24, u25, hm, hH, rfl⟩
    co_go T HW.rely hH (co_quiet T)
    co_split T (decide ((m : Int) < 10))
    · intro hz
      have hm7 : m < 10 := by have := of_decide_eq_true hz; omega
      have hkm := hkn m hm7
      co_go T HW.rely hH (co_quiet T)
      co_apply wpC_region_calls T (drawW Rd) (N := kx + ki + kd + 4) (S := HS w₀ K Z W (.cells (ten known) tk) (.cells (wts known k 0) tw) tw) (by omega) (by first | kernel_rfl | rfl)
      intro w₁ hR
      replace hH := HW.rely (hH.rely hR) (Ext.draw _)
      clear hR
      have hS := hH.hs
      have hlo : ∀ w, HS w₀ K Z W (.cells (ten known) tk) (.cells (wts known k 0) tw) tw w → ∀ b, Rd b → b < w.heap.size := fun w h b hb => by
        obtain ⟨c, hc⟩ := h.ex
        have := (Array.getElem?_eq_some_iff.1 hc).1
        have := hlow2 b hb
        omega
      simp only [List.size_toArray, List.length_cons, List.length_nil, Nat.reduceAdd, Nat.zero_add]
      co_applyP anyK_take T (fun _ _ h r => HS.rely h r) (fun _ _ _ h r => wpC_rely T h r) (i := 0) rfl (by first | kernel_rfl | decide +kernel) (by first | kernel_rfl | decide +kernel) (by first | kernel_rfl | decide +kernel) (.inl ⟨by rfl, fun _ hw => ⟨run_eq_of ?run1, ?guar1⟩⟩) hS ?rest1
      case run1 =>
        intro K_ hK_
        skip
        go_simp
        exact hK_
      case guar1 =>
        skip
        (co_quiet T)
      try walk_nrm
      co_applyP anyK_take T (fun _ _ h r => HS.rely h r) (fun _ _ _ h r => wpC_rely T h r) (i := 1) rfl (by first | kernel_rfl | decide +kernel) (by first | kernel_rfl | decide +kernel) (by first | kernel_rfl | decide +kernel) (yields_loadRow (by rfl) rfl rfl (fun w h => etk ▸ h.rk) (by kernel_rfl) (by rw [ten_size]; kernel_rfl)) hS
      try walk_nrm
      co_applyP anyK_take T (fun _ _ h r => HS.rely h r) (fun _ _ _ h r => wpC_rely T h r) (i := 2) rfl (by first | kernel_rfl | decide +kernel) (by first | kernel_rfl | decide +kernel) (by first | kernel_rfl | decide +kernel) (.inl ⟨by rfl, fun _ hw => ⟨run_eq_of ?run3, ?guar3⟩⟩) hS ?rest3
      case run3 =>
        intro K_ hK_
        skip
        go_simp
        exact hK_
      case guar3 =>
        skip
        (co_quiet T)
      try walk_nrm
      co_applyP anyK_take T (fun _ _ h r => HS.rely h r) (fun _ _ _ h r => wpC_rely T h r) (i := 3) rfl (by first | kernel_rfl | decide +kernel) (by first | kernel_rfl | decide +kernel) (by first | kernel_rfl | decide +kernel) (.inl ⟨by rfl, fun _ hw => ⟨run_eq_of ?run4, ?guar4⟩⟩) hS ?rest4
      case run4 =>
        intro K_ hK_
        skip
        go_simp
        exact hK_
      case guar4 =>
        skip
        (co_quiet T)
      try walk_nrm
      co_applyP anyK_take T (fun _ _ h r => HS.rely h r) (fun _ _ _ h r => wpC_rely T h r) (i := 5) rfl (by first | kernel_rfl | decide +kernel) (by first | kernel_rfl | decide +kernel) (by first | kernel_rfl | decide +kernel) (yields_loadRow (by rfl) rfl rfl (fun w h => etk ▸ h.rk) (by kernel_rfl) (by rw [ten_size]; kernel_rfl)) hS
      try walk_nrm
      co_applyP anyK_take T (fun _ _ h r => HS.rely h r) (fun _ _ _ h r => wpC_rely T h r) (i := 6) rfl (by first | kernel_rfl | decide +kernel) (by first | kernel_rfl | decide +kernel) (by first | kernel_rfl | decide +kernel) (.inl ⟨by rfl, fun _ hw => ⟨run_eq_of ?run6, ?guar6⟩⟩) hS ?rest6
      case run6 =>
        intro K_ hK_
        skip
        go_simp
        exact hK_
      case guar6 =>
        skip
        (co_quiet T)
      try walk_nrm
      co_applyP anyK_take T (fun _ _ h r => HS.rely h r) (fun _ _ _ h r => wpC_rely T h r) (i := 7) rfl (by first | kernel_rfl | decide +kernel) (by first | kernel_rfl | decide +kernel) (by first | kernel_rfl | decide +kernel) (.inl ⟨by rfl, fun _ hw => ⟨run_eq_of ?run7, ?guar7⟩⟩) hS ?rest7
      case run7 =>
        intro K_ hK_
        skip
        go_simp
        exact hK_
      case guar7 =>
        skip
        (co_quiet T)
      try walk_nrm
      have hm8 : (m : Int) < 10 := by omega
      co_applyP anyK_take T (fun _ _ h r => HS.rely h r) (fun _ _ _ h r => wpC_rely T h r) (i := 8) rfl (by first | kernel_rfl | decide +kernel) (by first | kernel_rfl | decide +kernel) (by first | kernel_rfl | decide +kernel) (.inl ⟨by rfl, fun _ hw => ⟨run_eq_of ?run8, ?guar8⟩⟩) hS ?rest8
      case run8 =>
        intro K_ hK_
        skip
        go_simp
        exact hK_
      case guar8 =>
        skip
        (rw [listed_nil (by (simp [go_sem]; exact events_indexAt_plain (show plainArray _ _ = some 10 by kernel_rfl) hm7))]; exact Terms.idle T _)
      try walk_nrm
      co_applyP anyK_take (v := .int .i64 (known m : Nat)) T (fun _ _ h r => HS.rely h r) (fun _ _ _ h r => wpC_rely T h r) (i := 9) rfl (by first | kernel_rfl | decide +kernel) (by first | kernel_rfl | decide +kernel) (by first | kernel_rfl | decide +kernel) (.inl ⟨by rfl, fun _ hw => ⟨run_eq_of ?run9, ?guar9⟩⟩) hS ?rest9
      case run9 =>
        intro K_ hK_
        (have hc := (cell_of_row _ K m _ _ _ (HS.rk hw)).trans (ten_get known m hm7))
        go_simp
        exact hK_
      case guar9 =>
        have hc := (cell_of_row _ K m _ _ _ (HS.rk hw)).trans (ten_get known m hm7)
        (refine ⟨⟨rfl, rfl⟩, fun _ _ => rfl, ?_⟩; co_evs (exact ⟨_, rfl, rfl, by simp⟩))
      try walk_nrm
      have hd1 := Fld.dist_lt known m k 10
      have hd2 := Fld.dist_lt known m (known m) 10
      have hd3 := Fld.inv_lt (Fld.dist known m (known m) 10)
      co_applyP anyK_takeCall T (fun _ _ h r => HS.rely h r) (fun _ _ _ h r => wpC_rely T h r) (i := 4) rfl (by first | kernel_rfl | decide +kernel) (by first | kernel_rfl | decide +kernel) (by first | kernel_rfl | decide +kernel) (by rfl) rfl (by simp [Act.eval]) (by omega) (fun w h => (CallsW.of_callsC T (hdist known m k w w hkn hm7 hk (hlo w h) (.refl w))).mono fun v w' q => ⟨q.1, h.rely (since_ext q.2), since_ext q.2⟩) hS
      try walk_nrm
      co_applyP anyK_takeCall T (fun _ _ h r => HS.rely h r) (fun _ _ _ h r => wpC_rely T h r) (i := 10) rfl (by first | kernel_rfl | decide +kernel) (by first | kernel_rfl | decide +kernel) (by first | kernel_rfl | decide +kernel) (by rfl) rfl (by simp [Act.eval]) (by omega) (fun w h => (CallsW.of_callsC T (hdist known m (known m) w w hkn hm7 hkm (hlo w h) (.refl w))).mono fun v w' q => ⟨q.1, h.rely (since_ext q.2), since_ext q.2⟩) hS
      try walk_nrm
      co_applyP anyK_takeCall T (fun _ _ h r => HS.rely h r) (fun _ _ _ h r => wpC_rely T h r) (i := 11) rfl (by first | kernel_rfl | decide +kernel) (by first | kernel_rfl | decide +kernel) (by first | kernel_rfl | decide +kernel) (by rfl) rfl (by simp [Act.eval]) (by omega) (fun w h => (CallsW.of_callsC T (hi _ w w hd2 (.refl w))).mono fun v w' q => ⟨q.1, h.rely (since_ext q.2), since_ext q.2⟩) hS
      try walk_nrm
      co_applyP anyK_takeCall T (fun _ _ h r => HS.rely h r) (fun _ _ _ h r => wpC_rely T h r) (i := 12) rfl (by first | kernel_rfl | decide +kernel) (by first | kernel_rfl | decide +kernel) (by first | kernel_rfl | decide +kernel) (by rfl) rfl (by simp [Act.eval]) (by omega) (fun w h => (CallsW.of_callsC T (hx _ _ w w hd1 hd3 (.refl w))).mono fun v w' q => ⟨q.1, h.rely (since_ext q.2), since_ext q.2⟩) hS
      try walk_nrm
      co_applyP anyK_take T (fun _ _ h r => HS.rely h r) (fun _ _ _ h r => wpC_rely T h r) (i := 13) rfl (by first | kernel_rfl | decide +kernel) (by first | kernel_rfl | decide +kernel) (by first | kernel_rfl | decide +kernel) (.inl ⟨by rfl, fun _ hw => ⟨run_eq_of ?run14, ?guar14⟩⟩) hS ?rest14
      case run14 =>
        intro K_ hK_
        skip
        go_simp
        exact hK_
      case guar14 =>
        skip
        (rw [listed_nil (by (simp [go_sem]; exact events_indexAt_plain (show plainArray _ _ = some 10 by kernel_rfl) hm7))]; exact Terms.idle T _)
      try walk_nrm
      co_applyP anyK_store (j := 14) (by first | kernel_rfl | decide +kernel) rfl (by rfl) rfl rfl rfl hH.rw (by rw [wts_size]; exact hm7) (by kernel_rfl) n1
      intro w₂ hR
      have hst := wts_set known k m hm7
      unfold Fld.wgt at hst
      rw [hst]
      clear hst
      have h2 := hH.rely hR
      have nK : K ≠ W := by have := (Array.getElem?_eq_some_iff.1 hrK2).1; omega
      have nZ : Z ≠ W := by have := (Array.getElem?_eq_some_iff.1 hrZ).1; omega
      have hH' : HW w₀ K Z W (.cells (ten known) tk) (.cells (wts known k 0) tw) (.cells (wts known k (m + 1)) tw) (w₂.setRow W (wts known k (m + 1))) :=
        ⟨.inr ((since_ext h2.since).setRow hW0 _), (setRow_other _ _ _ _ nK).trans h2.rk, (setRow_other _ _ _ _ nZ).trans h2.rz, setRow_heap _ _ _ _ _ _ h2.rw⟩
      clear hH hS h2 hR
      generalize w₂.setRow W (wts known k (m + 1)) = w₃ at hH'
      co_apply And.intro hH'.hs
      co_apply anyK_done (by first | kernel_rfl | decide +kernel)
      try walk_nrm
      co_then
      co_go T HW.rely hH' (co_quiet T)
      have e : IntKind.i64.wrap ((m : Int) + 1) = ((m + 1 : Nat) : Int) := by rw [IntKind.wrap_i64]; omega
      rw [e]
      exact ⟨⟨m + 1, u3, _, _, _, _, _, _, _, _, _, _, _, _, _, _, _, _, _, _, _, by omega, hH', rfl⟩, by simp [intOf]; omega⟩
    · intro hz
      have h0 : m = 10 := by
        have := of_decide_eq_false hz
        omega
      subst h0
      co_go T HW.rely hH (co_quiet T)
      co_apply opsC_loadRow rfl (by rfl) rfl rfl (etw ▸ hH.rw) (by kernel_rfl) (by rw [wts_size]; kernel_rfl)
      intro w₂ hR
      replace hH := hH.rely hR
      clear hR
      try walk_nrm
      co_apply opsC_storeRow rfl (by rfl) rfl rfl rfl hH.rz (by rw [wts_size]; kernel_rfl) (by rw [wts_size, wts_size]) (wts_all known k 10) n2
      intro w₃ hR
      have h2 := hH.rely hR
      have nK : K ≠ Z := by have := (Array.getElem?_eq_some_iff.1 hrK).1; omega
      have nW : W ≠ Z := by have := (Array.getElem?_eq_some_iff.1 hrZ).1; omega
      have hH' : HW w₀ K Z W (.cells (ten known) tk) (.cells (wts known k 10) tw) (.cells (wts known k 10) tw) (w₃.setRow Z (wts known k 10)) :=
        ⟨.inr ((since_ext h2.since).setRow hZ0 _), (setRow_other _ _ _ _ nK).trans h2.rk, setRow_heap _ _ _ _ _ _ h2.rz, (setRow_other _ _ _ _ nW).trans h2.rw⟩
      clear hH h2 hR
      generalize w₃.setRow Z (wts known k 10) = w₄ at hH'
      try walk_nrm
      co_go T HW.rely hH' (co_quiet T)
      exact ⟨rfl, backW_cell (by rfl) (by rfl) (etw ▸ hH'.rz) (by kernel_rfl) (by rw [wts_size]; kernel_rfl) (fun w₅ hR => ⟨rfl, (hH'.rely hR).since⟩)⟩
end
end Go.Proofs.Ytpiefebngnlfoaa

/-
  piece.reckon IN COMPANY, in a view.
-/
namespace Go.Vw
open Go.Conc
section
variable {P : Program} {main : Bool} {Rd : Nat → Prop} {fn : FuncId} {ops : Array Oper} {S : World → Prop}
/-- A slice type whose elements are of one cell. -/
def plainSlice (P : Program) (t : TypeId) : Bool :=
  match P.underlying t with
  | some (.slice e) =>
    match P.info? e with
    | some i => i.size == 1
    | _ => false
  | _ => false
theorem plainSlice_spec {t : TypeId} (h : plainSlice P t = true) : ∃ e inf, P.underlying t = some (.slice e) ∧ P.info? e = some inf ∧ inf.size = 1 := by
  unfold plainSlice at h
  split at h
  · split at h
    · exact ⟨_, _, by assumption, by assumption, by simpa using h⟩
    · cases h
  · cases h
/-- The address of an element of a slice lists nothing. -/
theorem evs_indexAt_slice {t : TypeId} {L c m : Nat} {ad : Addr} {w : World} {es : Array Event} (hu : plainSlice P t = true) (hm : m < L) :
    (Instr.indexAt t (.slice (some ad) L c) (.int .i64 (m : Nat))).events P w es = es := by
  obtain ⟨e, inf, hu, hq, hs⟩ := plainSlice_spec hu
  have hb : (0 : Int) ≤ (m : Int) ∧ (m : Int) < (L : Int) := by omega
  simp [Instr.indexAt, asIntOf, Sem.events_bind, run_underlying hu, hm, hb, sizeOf, typeInfo, hq]
/-- The one operation at hand yields its value. -/
theorem anyK_one {md : Region.Mode} {Q : Exit → Act → World → Prop} {N : Nat} {fuel : Nat} {l : Array Bool} {a : Act} {w : World} {o : Oper} {j : Nat} {v : Value} (T : Terms Ext (DW Rd)) (hSR : ∀ x y, S x → Ext x y → S y) (hQR : ∀ a x y, Q .normal a x → Ext x y → Q .normal a y)
    (hr : Region.ready md ops l = [j]) (ho : ops[j]? = some o) (hw : Region.wanted o (yielded ops a.tmps) = true) (hy : ∀ w₁, Ext w w₁ → (execOp a.eval o).run P w₁ = .ok (.value v) w₁ ∧ DW Rd w₁ w₁ (listed P fn a o w₁)) (hS : S w)
    (hnext : AnyK P main Ext (DW Rd) fn md ops Q S N fuel (l.setIfInBounds j true) (a.put o.dst v) w) : AnyK P main Ext (DW Rd) fn md ops Q S N (fuel + 1) l a w := by
  refine anyK_all hr (by simp) fun i' hi' => ?_
  obtain rfl : i' = j := by simpa using hi'
  unfold OpK
  simp only [ho, hw, if_true]
  refine .inl fun w₁ hR => ?_
  obtain ⟨h1, h2⟩ := hy w₁ hR
  rw [h1]
  exact ⟨h2, hSR _ _ hS hR, AnyK.rely T hSR hQR _ _ _ _ _ hnext hR⟩
end
end Go.Vw
namespace Go.Proofs.Ytpiefebngnlfoaa
open Go.RowKit Go.Conc Go.Vw
namespace Fld
/-- the weighted sum of the first m rows, at place i. -/
def comb (wt : Nat → Nat) (x : Nat → Nat → Nat) : Nat → Nat → Nat
  | 0, _ => 0
  | m + 1, i => comb wt x m i ^^^ mul (wt m) (x m i)
theorem comb_lt {wt : Nat → Nat} (x : Nat → Nat → Nat) (h : ∀ i, wt i < 256) (m i : Nat) : comb wt x m i < 256 := by
  induction m with
  | zero => exact (by decide : 0 < 256)
  | succ m ih => exact xor_lt ih (mul_lt (h m) _)
end Fld
def bytesA (n : Nat) (f : Nat → Nat) : Array Value := (Array.range n).map fun i => .int .u8 ((f i : Nat) : Int)
theorem bytesA_size (n : Nat) (f : Nat → Nat) : (bytesA n f).size = n := by simp [bytesA]
theorem bytesA_get (n : Nat) (f : Nat → Nat) (i : Nat) (h : i < n) : (bytesA n f)[i]? = some (.int .u8 (f i : Nat)) := by simp [bytesA, h]
theorem bytesA_set (n : Nat) (f : Nat → Nat) (i : Nat) (y : Nat) : (bytesA n f).setIfInBounds i (.int .u8 (y : Nat)) = bytesA n fun c => if c = i then y else f c := by
  apply Array.ext_getElem?
  intro c
  rw [Array.getElem?_setIfInBounds]
  by_cases e : i = c
  · subst e
    by_cases hi : i < n <;> simp [bytesA, hi]
  · rw [if_neg e]
    by_cases hi : c < n <;> simp [bytesA, hi, show ¬ c = i from fun x => e x.symm]
theorem bytesA_congr {n : Nat} {f g : Nat → Nat} (h : ∀ i, i < n → f i = g i) : bytesA n f = bytesA n g := by
  apply Array.ext_getElem?
  intro c
  by_cases hi : c < n
  · rw [bytesA_get n f c hi, bytesA_get n g c hi, h c hi]
  · rw [Array.getElem?_eq_none (by rw [bytesA_size]; omega), Array.getElem?_eq_none (by rw [bytesA_size]; omega)]
def slices (RB : Nat → Nat) (n : Nat) : Array Value := (Array.range 10).map fun j => .slice (some ⟨RB j, 0, none⟩) n n
theorem slices_size (RB : Nat → Nat) (n : Nat) : (slices RB n).size = 10 := by simp [slices]
theorem slices_get (RB : Nat → Nat) (n i : Nat) (h : i < 10) : (slices RB n)[i]? = some (.slice (some ⟨RB i, 0, none⟩) n n) := by simp [slices, h]
def wrow (wt : Nat → Nat) : Array Value := bytesA 10 wt
/-- The place, m rows and i cells of the next being done. -/
def sofar (wt : Nat → Nat) (x : Nat → Nat → Nat) (m i c : Nat) : Nat := if c < i then Fld.comb wt x (m + 1) c else Fld.comb wt x m c
/-- What is held. -/
structure HK (w₀ : World) (RB : Nat → Nat) (x : Nat → Nat → Nat) (n : Nat) (wt : Nat → Nat) (PB B5 : Nat) (tb tw : TypeId) (w : World) : Prop where
  rows : ∀ j, j < 10 → w.heap[RB j]? = some (.cells (bytesA n (x j)) tb)
  box : w.heap[B5]? = some (.cells (wrow wt) tw)
  place : ∃ c, w.heap[PB]? = some (.cells c tb)
  keep : ∀ b, b ≠ PB → ∀ o, w₀.heap[b]? = some o → w.heap[b]? = some o
theorem HK.rely {w₀ : World} {RB : Nat → Nat} {x : Nat → Nat → Nat} {n : Nat} {wt : Nat → Nat} {PB B5 : Nat} {tb tw : TypeId} {w w₁ : World} (h : HK w₀ RB x n wt PB B5 tb tw w) (r : Ext w w₁) : HK w₀ RB x n wt PB B5 tb tw w₁ := ⟨fun j hj => r.row (h.rows j hj), r.row h.box, h.place.imp fun _ => r.row, fun b hb o ho => r.row (h.keep b hb o ho)⟩
/-- .. and what stands in the place. -/
structure HP (w₀ : World) (RB : Nat → Nat) (x : Nat → Nat → Nat) (n : Nat) (wt : Nat → Nat) (PB B5 : Nat) (tb tw : TypeId) (m i : Nat) (w : World) : Prop where
  hk : HK w₀ RB x n wt PB B5 tb tw w
  place : w.heap[PB]? = some (.cells (bytesA n (sofar wt x m i)) tb)
theorem HP.rely {w₀ : World} {RB : Nat → Nat} {x : Nat → Nat → Nat} {n : Nat} {wt : Nat → Nat} {PB B5 : Nat} {tb tw : TypeId} {m i : Nat} {w w₁ : World} (h : HP w₀ RB x n wt PB B5 tb tw m i w) (r : Ext w w₁) : HP w₀ RB x n wt PB B5 tb tw m i w₁ := ⟨h.hk.rely r, r.row h.place⟩
theorem sofar_next (wt : Nat → Nat) (x : Nat → Nat → Nat) (m n : Nat) : bytesA n (sofar wt x m n) = bytesA n (sofar wt x (m + 1) 0) :=
  bytesA_congr fun i hi => by simp [sofar, hi]
theorem sofar_step (wt : Nat → Nat) (x : Nat → Nat → Nat) (m i n : Nat) : (bytesA n (sofar wt x m i)).setIfInBounds i (.int .u8 ((Fld.comb wt x m i ^^^ Fld.mul (wt m) (x m i) : Nat) : Int)) = bytesA n (sofar wt x m (i + 1)) := by
  rw [bytesA_set]
  refine bytesA_congr fun c hc => ?_
  by_cases e : c = i
  · subst e; simp [sofar, Fld.comb]
  · simp only [if_neg e, sofar, show c < i + 1 ↔ c < i by omega]
section
variable {main : Bool} {Rd : Nat → Prop}

set_option maxRecDepth 100000 in
set_option maxHeartbeats 2000000 in
theorem reckon_c : ∃ k, ∀ (tb : TypeId) (RB : Nat → Nat) (x : Nat → Nat → Nat) (n : Nat) (wt : Nat → Nat) (PB : Nat) (w : World), n ≤ 400 → (∀ i, wt i < 256) → (∀ j i, x j i < 256) → (∀ b, Rd b → b < w.heap.size) → ¬ Rd PB → (∀ j, j < 10 → Rd (RB j)) →
    (∀ j, j < 10 → w.heap[RB j]? = some (.cells (bytesA n (x j)) tb)) → w.heap[PB]? = some (.cells (bytesA n fun _ => 0) tb) →
    CallsW Try.prog main Ext (DW Rd) 50 #[.slice (some ⟨PB, 0, none⟩) n n, .agg (slices RB n), .agg (wrow wt)] k w fun v w' => w'.heap[PB]? = some (.cells (bytesA n (Fld.comb wt x 10)) tb) ∧ ∀ b, b ≠ PB → ∀ o, w.heap[b]? = some o → w'.heap[b]? = some o := by
  have T := termsW Rd
  obtain ⟨kx, hx⟩ := fmul_c (main := main) T
  co_apply Exists.intro
  intro tb RB x n wt PB w hn hwt hxs hlow hPB hRB hrows hplace
  co_apply callsW_of_wpC Try.func50 (by rfl) rfl
  simp only [Try.ntmps50, List.size_toArray, List.length_cons, List.length_nil, Nat.reduceAdd, Nat.reduceSub, Array.replicate_succ, Array.replicate_zero, List.push_toArray, List.append_toArray, List.nil_append, List.cons_append]
  co_apply wpC_seq T
  co_reg T
  co_apply opsC_box_at (slices RB n) rfl (by rfl) rfl hlow rfl
  intro B4 w1 hB4 hr4 hE
  obtain ⟨t4, et4, hr4⟩ : ∃ t4, t4 = id _ ∧ w1.heap[B4]? = some (.cells (slices RB n) t4) := ⟨_, rfl, hr4⟩
  have hlow1 : ∀ b, Rd b → b < w1.heap.size := fun b hb => Nat.lt_of_lt_of_le (hlow b hb) hE.size
  try walk_nrm
  co_apply opsC_box_at (wrow wt) rfl (by rfl) rfl hlow1 rfl
  intro B5 w2 hB5 hr5 hE2
  obtain ⟨tw, etw, hr5⟩ : ∃ tw, tw = id _ ∧ w2.heap[B5]? = some (.cells (wrow wt) tw) := ⟨_, rfl, hr5⟩
  have hPlt : PB < w.heap.size := (Array.getElem?_eq_some_iff.1 hplace).1
  have n5 : B5 ≠ PB := by have := hE.size; omega
  have nR : ∀ j, j < 10 → RB j ≠ PB := fun j hj e => hPB (e ▸ hRB j hj)
  have hH : HP w RB x n wt PB B5 tb tw 0 0 w2 := by
    exact ⟨⟨fun j hj => hE2.row (hE.row (hrows j hj)), hr5, ⟨_, hE2.row (hE.row hplace)⟩, fun b _ o ho => hE2.row (hE.row ho)⟩, (hE2.row (hE.row hplace)).trans (by rw [bytesA_congr (g := sofar wt x 0 0) fun i _ => by simp [sofar, Fld.comb]])⟩
  have h4 : w2.heap[B4]? = some (.cells (slices RB n) t4) := hE2.row hr4
  try walk_nrm
  co_go T (fun h r => h) hn (co_quiet T)
  co_apply opsC_loadRow rfl (by rfl) rfl rfl (et4 ▸ h4) (by kernel_rfl) (by rw [slices_size]; kernel_rfl)
  intro w3 hR
  replace hH := hH.rely hR
  clear hR
  try walk_nrm
  co_go T HP.rely hH (co_quiet T)
  co_apply wpC_loop T (fun act w' => ∃ (m : Nat) (u3 u6 u7 u8 u11 u12 u13 u14 u15 u16 u17 u18 u19 u20 u21 u22 u23 u24 u25 u26 u27 u28 u29 u30 u31 u32 u33 u34 : Value), m ≤ 10 ∧ HP w RB x n wt PB B5 tb tw m 0 w' ∧
      act = ⟨#[.slice (some ⟨PB, 0, none⟩) n n, .agg (slices RB n), .agg (wrow wt), u3, .pointer (some ⟨B4, 0, none⟩), .pointer (some ⟨B5, 0, none⟩), u6, u7, u8, .agg (slices RB n), .int .i64 (m : Nat), u11, u12, u13, u14, u15, u16, u17, u18, u19, u20, u21, u22, u23, u24, u25, u26, u27, u28, u29, u30, u31, u32, u33, u34], []⟩)
    (fun act _ => 10 - (intOf (act.tmps.getD 10 undef)).toNat) _ 10 ?h0 ?hN ?round
  case h0 => exact ⟨0, undef, undef, undef, undef, undef, undef, undef, undef, undef, undef, undef, undef, undef, undef, undef, undef, undef, undef, undef, undef, undef, undef, undef, undef, undef, undef, undef, undef, by omega, hH, by simp⟩
  case hN => simp [intOf]
  case round =>
    rintro act w' ⟨m, u3, u6, u7, u8, u11, u12, u13, u14, u15, u16, u17, u18, u19, u20, u21, u22, u23, u24, u25, u26, u27, u28, u29, u30, u31, u32, u33, u34, hm, hH, rfl⟩
    co_go T HP.rely hH (co_quiet T)
    co_split T (decide ((m : Int) < 10))
    · intro hz
      have hm7 : m < 10 := by have := of_decide_eq_true hz; omega
      co_go T HP.rely hH (co_quiet T)
      co_apply opsC_index T rfl (by rfl) rfl rfl rfl (show plainArray _ _ = some 10 by kernel_rfl) hm7 (slices_get RB n m hm7)
      intro w₃ hR
      replace hH := hH.rely hR
      clear hR
      try walk_nrm
      co_go T HP.rely hH (co_quiet T)
      co_apply wpC_loop T (fun act w' => ∃ (i : Nat) (u3 u8 u11 u12 u13 u14 u17 u18 u19 u20 u21 u22 u23 u24 u25 u26 u27 u28 u29 u30 u31 u32 u33 u34 : Value), i ≤ n ∧ HP w RB x n wt PB B5 tb tw m i w' ∧
          act = ⟨#[.slice (some ⟨PB, 0, none⟩) n n, .agg (slices RB n), .agg (wrow wt), u3, .pointer (some ⟨B4, 0, none⟩), .pointer (some ⟨B5, 0, none⟩), .int .i64 (m : Nat), .slice (some ⟨RB m, 0, none⟩) n n, u8, .agg (slices RB n), .int .i64 (m : Nat), u11, u12, u13, u14, .int .i64 (n : Nat), .int .i64 (i : Nat), u17, u18, u19, u20, u21, u22, u23, u24, u25, u26, u27, u28, u29, u30, u31, u32, u33, u34], []⟩)
        (fun act _ => n - (intOf (act.tmps.getD 16 undef)).toNat) _ 400 ?h0 ?hN ?round
      case h0 => exact ⟨0, u3, _, _, _, _, _, _, _, _, _, _, _, _, _, _, _, _, _, _, _, _, _, _, _, by omega, hH, rfl⟩
      case hN => simp [intOf]; omega
      case round =>
        rintro act w' ⟨i, u3, u8, u11, u12, u13, u14, u17, u18, u19, u20, u21, u22, u23, u24, u25, u26, u27, u28, u29, u30, u31, u32, u33, u34, hi, hH, rfl⟩
        co_go T HP.rely hH (co_quiet T)
        co_split T (decide ((i : Int) < (n : Int)))
        · intro hz
          have hin : i < n := by have := of_decide_eq_true hz; omega
          have hiI : (i : Int) < (n : Int) := by omega
          have hmI : (m : Int) < 10 := by omega
          co_go T HP.rely hH (co_quiet T)
          co_apply wpC_region_calls T (drawW Rd) (N := kx + 4) (S := HK w RB x n wt PB B5 tb tw) (by omega) (by first | kernel_rfl | rfl)
          intro w₁ hR
          replace hH := HP.rely (hH.rely hR) (Ext.draw _)
          clear hR
          have hS := hH.hk
          simp only [List.size_toArray, List.length_cons, List.length_nil, Nat.reduceAdd, Nat.zero_add]
          co_applyP anyK_take T (fun _ _ h r => HK.rely h r) (fun _ _ _ h r => wpC_rely T h r) (i := 0) rfl (by first | kernel_rfl | decide +kernel) (by first | kernel_rfl | decide +kernel) (by first | kernel_rfl | decide +kernel) (.inl ⟨by rfl, fun _ hw => ⟨run_eq_of ?run1, ?guar1⟩⟩) hS ?rest1
          case run1 =>
            intro K_ hK_
            skip
            go_simp
            exact hK_
          case guar1 =>
            skip
            (co_quiet T)
          try walk_nrm
          co_applyP anyK_take T (fun _ _ h r => HK.rely h r) (fun _ _ _ h r => wpC_rely T h r) (i := 1) rfl (by first | kernel_rfl | decide +kernel) (by first | kernel_rfl | decide +kernel) (by first | kernel_rfl | decide +kernel) (.inl ⟨by rfl, fun _ hw => ⟨run_eq_of ?run2, ?guar2⟩⟩) hS ?rest2
          case run2 =>
            intro K_ hK_
            skip
            go_simp
            exact hK_
          case guar2 =>
            skip
            (co_quiet T)
          try walk_nrm
          co_applyP anyK_take T (fun _ _ h r => HK.rely h r) (fun _ _ _ h r => wpC_rely T h r) (i := 2) rfl (by first | kernel_rfl | decide +kernel) (by first | kernel_rfl | decide +kernel) (by first | kernel_rfl | decide +kernel) (.inl ⟨by rfl, fun _ hw => ⟨run_eq_of ?run3, ?guar3⟩⟩) hS ?rest3
          case run3 =>
            intro K_ hK_
            skip
            go_simp
            exact hK_
          case guar3 =>
            skip
            (rw [listed_nil (by (simp [go_sem]; exact evs_indexAt_slice (show plainSlice _ _ = true by kernel_rfl) hin))]; exact Terms.idle T _)
          try walk_nrm
          co_applyP anyK_take T (fun _ _ h r => HK.rely h r) (fun _ _ _ h r => wpC_rely T h r) (i := 4) rfl (by first | kernel_rfl | decide +kernel) (by first | kernel_rfl | decide +kernel) (by first | kernel_rfl | decide +kernel) (.inl ⟨by rfl, fun _ hw => ⟨run_eq_of ?run4, ?guar4⟩⟩) hS ?rest4
          case run4 =>
            intro K_ hK_
            skip
            go_simp
            exact hK_
          case guar4 =>
            skip
            (co_quiet T)
          try walk_nrm
          co_applyP anyK_take T (fun _ _ h r => HK.rely h r) (fun _ _ _ h r => wpC_rely T h r) (i := 5) rfl (by first | kernel_rfl | decide +kernel) (by first | kernel_rfl | decide +kernel) (by first | kernel_rfl | decide +kernel) (.inl ⟨by rfl, fun _ hw => ⟨run_eq_of ?run5, ?guar5⟩⟩) hS ?rest5
          case run5 =>
            intro K_ hK_
            skip
            go_simp
            exact hK_
          case guar5 =>
            skip
            (rw [listed_nil (by (simp [go_sem]; exact events_indexAt_plain (show plainArray _ _ = some 10 by kernel_rfl) hm7))]; exact Terms.idle T _)
          try walk_nrm
          co_applyP anyK_take (v := .int .u8 (wt m : Nat)) T (fun _ _ h r => HK.rely h r) (fun _ _ _ h r => wpC_rely T h r) (i := 6) rfl (by first | kernel_rfl | decide +kernel) (by first | kernel_rfl | decide +kernel) (by first | kernel_rfl | decide +kernel) (.inl ⟨by rfl, fun _ hw => ⟨run_eq_of ?run6, ?guar6⟩⟩) hS ?rest6
          case run6 =>
            intro K_ hK_
            (have hc := (cell_of_row _ B5 m _ _ _ (HK.box hw)).trans (bytesA_get 10 wt m hm7))
            go_simp
            exact hK_
          case guar6 =>
            have hc := (cell_of_row _ B5 m _ _ _ (HK.box hw)).trans (bytesA_get 10 wt m hm7)
            (refine ⟨⟨rfl, rfl⟩, fun _ _ => rfl, ?_⟩; co_evs (exact ⟨_, rfl, rfl, by simp⟩))
          try walk_nrm
          co_applyP anyK_take T (fun _ _ h r => HK.rely h r) (fun _ _ _ h r => wpC_rely T h r) (i := 7) rfl (by first | kernel_rfl | decide +kernel) (by first | kernel_rfl | decide +kernel) (by first | kernel_rfl | decide +kernel) (.inl ⟨by rfl, fun _ hw => ⟨run_eq_of ?run7, ?guar7⟩⟩) hS ?rest7
          case run7 =>
            intro K_ hK_
            skip
            go_simp
            exact hK_
          case guar7 =>
            skip
            (co_quiet T)
          try walk_nrm
          co_applyP anyK_take T (fun _ _ h r => HK.rely h r) (fun _ _ _ h r => wpC_rely T h r) (i := 8) rfl (by first | kernel_rfl | decide +kernel) (by first | kernel_rfl | decide +kernel) (by first | kernel_rfl | decide +kernel) (.inl ⟨by rfl, fun _ hw => ⟨run_eq_of ?run8, ?guar8⟩⟩) hS ?rest8
          case run8 =>
            intro K_ hK_
            skip
            go_simp
            exact hK_
          case guar8 =>
            skip
            (co_quiet T)
          try walk_nrm
          co_applyP anyK_take T (fun _ _ h r => HK.rely h r) (fun _ _ _ h r => wpC_rely T h r) (i := 9) rfl (by first | kernel_rfl | decide +kernel) (by first | kernel_rfl | decide +kernel) (by first | kernel_rfl | decide +kernel) (.inl ⟨by rfl, fun _ hw => ⟨run_eq_of ?run9, ?guar9⟩⟩) hS ?rest9
          case run9 =>
            intro K_ hK_
            skip
            go_simp
            exact hK_
          case guar9 =>
            skip
            (rw [listed_nil (by (simp [go_sem]; exact evs_indexAt_slice (show plainSlice _ _ = true by kernel_rfl) hin))]; exact Terms.idle T _)
          try walk_nrm
          co_applyP anyK_take (v := .int .u8 (x m i : Nat)) T (fun _ _ h r => HK.rely h r) (fun _ _ _ h r => wpC_rely T h r) (i := 10) rfl (by first | kernel_rfl | decide +kernel) (by first | kernel_rfl | decide +kernel) (by first | kernel_rfl | decide +kernel) (.inl ⟨by rfl, fun _ hw => ⟨run_eq_of ?run10, ?guar10⟩⟩) hS ?rest10
          case run10 =>
            intro K_ hK_
            (have hc := (cell_of_row _ (RB m) i _ _ _ (HK.rows hw m hm7)).trans (bytesA_get n (x m) i hin))
            go_simp
            exact hK_
          case guar10 =>
            have hc := (cell_of_row _ (RB m) i _ _ _ (HK.rows hw m hm7)).trans (bytesA_get n (x m) i hin)
            (refine ⟨⟨rfl, rfl⟩, fun _ _ => rfl, ?_⟩; co_evs (exact ⟨_, rfl, rfl, by simp⟩))
          try walk_nrm
          have hw1 := hwt m
          have hx1 := hxs m i
          co_applyP anyK_takeCall T (fun _ _ h r => HK.rely h r) (fun _ _ _ h r => wpC_rely T h r) (i := 11) rfl (by first | kernel_rfl | decide +kernel) (by first | kernel_rfl | decide +kernel) (by first | kernel_rfl | decide +kernel) (by rfl) rfl (by simp [Act.eval]) (by omega) (fun w h => (CallsW.of_callsC T (hx _ _ w w hw1 hx1 (.refl w))).mono fun v w' q => ⟨q.1, h.rely (since_ext q.2), since_ext q.2⟩) hS
          try walk_nrm
          co_applyP anyK_one (j := 3) (v := .int .u8 (Fld.comb wt x m i : Nat)) T (fun _ _ h r => HK.rely h r) (fun _ _ _ h r => wpC_rely T h r) (by first | kernel_rfl | decide +kernel) rfl (by rfl) (fun w hR => ⟨run_eq_of ?runL, ?guarL⟩) hS ?restL
          case runL =>
            intro K_ hK_
            have hc := (cell_of_row _ PB i _ _ _ (hH.rely hR).place).trans (bytesA_get n _ i hin)
            simp only [sofar, Nat.lt_irrefl, if_false] at hc
            go_simp
            exact hK_
          case guarL =>
            have hc := (cell_of_row _ PB i _ _ _ (hH.rely hR).place).trans (bytesA_get n _ i hin)
            (refine ⟨⟨rfl, rfl⟩, fun _ _ => rfl, ?_⟩; co_evs (exact ⟨_, rfl, rfl, by simp⟩))
          try walk_nrm
          have hc1 := Fld.comb_lt x hwt m i
          have hc2 := Fld.mul_lt hw1 (x m i)
          co_applyP anyK_take T (fun _ _ h r => HK.rely h r) (fun _ _ _ h r => wpC_rely T h r) (i := 12) rfl (by first | kernel_rfl | decide +kernel) (by first | kernel_rfl | decide +kernel) (by first | kernel_rfl | decide +kernel) (.inl ⟨by rfl, fun _ hw => ⟨run_eq_of ?run12, ?guar12⟩⟩) hS ?rest12
          case run12 =>
            intro K_ hK_
            skip
            go_simp
            exact hK_
          case guar12 =>
            skip
            (co_quiet T)
          try walk_nrm
          rw [u8_xor_nat _ _ hc1 hc2]
          co_applyP anyK_take T (fun _ _ h r => HK.rely h r) (fun _ _ _ h r => wpC_rely T h r) (i := 13) rfl (by first | kernel_rfl | decide +kernel) (by first | kernel_rfl | decide +kernel) (by first | kernel_rfl | decide +kernel) (.inl ⟨by rfl, fun _ hw => ⟨run_eq_of ?run13, ?guar13⟩⟩) hS ?rest13
          case run13 =>
            intro K_ hK_
            skip
            go_simp
            exact hK_
          case guar13 =>
            skip
            (rw [listed_nil (by (simp [go_sem]; exact evs_indexAt_slice (show plainSlice _ _ = true by kernel_rfl) hin))]; exact Terms.idle T _)
          try walk_nrm
          co_applyP anyK_store (j := 14) (by first | kernel_rfl | decide +kernel) rfl (by rfl) rfl rfl rfl hH.place (by rw [bytesA_size]; exact hin) (by kernel_rfl) hPB
          intro w₂ hR
          rw [sofar_step]
          have h2 := hH.rely hR
          have hH' : HP w RB x n wt PB B5 tb tw m (i + 1) (w₂.setRow PB (bytesA n (sofar wt x m (i + 1)))) :=
            ⟨⟨fun j hj => (setRow_other _ _ _ _ (nR j hj)).trans (h2.hk.rows j hj), (setRow_other _ _ _ _ n5).trans h2.hk.box, ⟨_, setRow_heap _ _ _ _ _ _ h2.place⟩, fun b hb o ho => (setRow_other _ _ _ _ hb).trans (h2.hk.keep b hb o ho)⟩, setRow_heap _ _ _ _ _ _ h2.place⟩
          clear hH hS h2 hR
          generalize w₂.setRow PB (bytesA n (sofar wt x m (i + 1))) = w₃ at hH'
          co_apply And.intro hH'.hk
          co_apply anyK_done (by first | kernel_rfl | decide +kernel)
          try walk_nrm
          co_then
          co_go T HP.rely hH' (co_quiet T)
          have e : IntKind.i64.wrap ((i : Int) + 1) = ((i + 1 : Nat) : Int) := by rw [IntKind.wrap_i64]; omega
          rw [e]
          exact ⟨⟨i + 1, u3, _, _, _, _, _, _, _, _, _, _, _, _, _, _, _, _, _, _, _, _, _, _, _, by omega, hH', rfl⟩, by simp [intOf]; omega⟩
        · intro hz
          have h0 : i = n := by
            have := of_decide_eq_false hz
            omega
          have hHn : HP w RB x n wt PB B5 tb tw (m + 1) 0 _ := ⟨hH.hk, by have := hH.place; rw [h0, sofar_next] at this; exact this⟩
          clear hH
          co_go T HP.rely hHn (co_quiet T)
          have e : IntKind.i64.wrap ((m : Int) + 1) = ((m + 1 : Nat) : Int) := by rw [IntKind.wrap_i64]; omega
          rw [e]
          exact ⟨⟨m + 1, u3, _, _, _, _, _, _, _, _, _, _, _, _, _, _, _, _, _, _, _, _, _, _, _, _, _, _, _, by omega, hHn, rfl⟩, by simp [intOf]; omega⟩
    · intro hz
      have h0 : m = 10 := by
        have := of_decide_eq_false hz
        omega
      subst h0
      co_go T HP.rely hH (co_quiet T)
      refine ⟨rfl, backW_none (by rfl) fun v w₅ hR => ?_⟩
      refine ⟨?_, (hH.rely hR).hk.keep⟩
      rw [(hH.rely hR).place, bytesA_congr (g := Fld.comb wt x 10) fun i _ => by simp [sofar]]
end
end Go.Proofs.Ytpiefebngnlfoaa

/-
  Polynomials over the field: ten values settle a polynomial of a degree below ten; Lagrange's weights.
-/
set_option linter.unusedVariables false
set_option linter.unusedSimpArgs false
namespace Go.Proofs.Ytpiefebngnlfoaa
namespace Fld
/-- The polynomial of the terms c 0 .. c (n - 1), at x. -/
def ev (c : Nat → Nat) : Nat → Nat → Nat
  | 0, _ => 0
  | n + 1, x => c 0 ^^^ mul x (ev (fun i => c (i + 1)) n x)
theorem ev_lt {x : Nat} (hx : x < 256) (n : Nat) : ∀ {c : Nat → Nat}, (∀ i, c i < 256) → ev c n x < 256 := by
  induction n with
  | zero => intro c _; exact (by decide : 0 < 256)
  | succ n ih => intro c hc; exact xor_lt (hc 0) (mul_lt hx _)
theorem ev_zero {x : Nat} (n : Nat) : ∀ {c : Nat → Nat}, (∀ i, i < n → c i = 0) → ev c n x = 0 := by
  induction n with
  | zero => intro c _; rfl
  | succ n ih =>
    intro c hc
    rw [ev, hc 0 (by omega), ih fun i hi => hc (i + 1) (by omega), mul_zero]
    rfl
theorem ev_add {x : Nat} (hx : x < 256) (n : Nat) : ∀ (c d : Nat → Nat), ev (fun i => c i ^^^ d i) n x = ev c n x ^^^ ev d n x := by
  induction n with
  | zero => intro c d; simp [ev]
  | succ n ih =>
    intro c d
    rw [ev, ev, ev, ih (fun i => c (i + 1)) (fun i => d (i + 1)), mul_add]
    exact xor4 _ _ _ _
theorem ev_scale {a x : Nat} (ha : a < 256) (hx : x < 256) (n : Nat) : ∀ (c : Nat → Nat), (∀ i, c i < 256) → ev (fun i => mul a (c i)) n x = mul a (ev c n x) := by
  induction n with
  | zero => intro c _; exact (mul_zero a).symm
  | succ n ih =>
    intro c hc
    have h1 := ev_lt hx n fun i => hc (i + 1)
    rw [ev, ev, ih (fun i => c (i + 1)) fun i => hc (i + 1), mul_add, ← mul_assoc hx ha h1, ← mul_assoc ha hx h1, mul_comm ha hx]
theorem ev_weak {x : Nat} (n : Nat) : ∀ (c : Nat → Nat), ev (fun i => if i < n then c i else 0) (n + 1) x = ev c n x := by
  induction n with
  | zero => intro c; simp [ev, mul_zero]
  | succ n ih =>
    intro c
    have h := ih fun i => c (i + 1)
    show (if 0 < n + 1 then c 0 else 0) ^^^ mul x (ev (fun i => if i + 1 < n + 1 then c (i + 1) else 0) (n + 1) x) = c 0 ^^^ mul x (ev (fun i => c (i + 1)) n x)
    simp only [Nat.add_lt_add_iff_right, Nat.zero_lt_succ, if_true]
    rw [h]
theorem ev_congr {x : Nat} (n : Nat) : ∀ {c d : Nat → Nat}, (∀ i, i < n → c i = d i) → ev c n x = ev d n x := by
  induction n with
  | zero => intro c d _; rfl
  | succ n ih =>
    intro c d h
    rw [ev, ev, h 0 (by omega), ih fun i hi => h (i + 1) (by omega)]
/-- The factor theorem: what is left is the value at a. -/
theorem factor {a : Nat} (ha : a < 256) (n : Nat) : ∀ (c : Nat → Nat), (∀ i, c i < 256) → ∃ d : Nat → Nat, (∀ i, d i < 256) ∧ (∀ x, x < 256 → ev c (n + 1) x = mul (x ^^^ a) (ev d n x) ^^^ ev c (n + 1) a) ∧
    ((∀ i, i < n → d i = 0) → ev c (n + 1) a = 0 → ∀ i, i < n + 1 → c i = 0) := by
  induction n with
  | zero =>
    intro c hc
    refine ⟨fun _ => 0, fun _ => Nat.zero_lt_succ _, fun x hx => ?_, fun _ h i hi => ?_⟩
    · simp [ev, mul_zero]
    · have : i = 0 := by omega
      subst this
      simpa [ev, mul_zero] using h
  | succ n ih =>
    intro c hc
    obtain ⟨d, hd, he, hz⟩ := ih (fun i => c (i + 1)) fun i => hc (i + 1)
    have hr := ev_lt ha (n + 1) fun i => hc (i + 1)
    refine ⟨fun i => if i = 0 then ev (fun i => c (i + 1)) (n + 1) a else d (i - 1), fun i => ?_, fun x hx => ?_, fun h0 h1 i hi => ?_⟩
    · by_cases h : i = 0 <;> simp only [h, if_true, if_false]
      · exact hr
      · exact hd _
    · have hD := ev_lt hx n hd
      have hxa := xor_lt hx ha
      have e : ev (fun i => if i = 0 then ev (fun i => c (i + 1)) (n + 1) a else d (i - 1)) (n + 1) x = ev (fun i => c (i + 1)) (n + 1) a ^^^ mul x (ev d n x) := rfl
      show c 0 ^^^ mul x (ev (fun i => c (i + 1)) (n + 1) x) = mul (x ^^^ a) (ev (fun i => if i = 0 then ev (fun i => c (i + 1)) (n + 1) a else d (i - 1)) (n + 1) x) ^^^ (c 0 ^^^ mul a (ev (fun i => c (i + 1)) (n + 1) a))
      rw [e, he x hx]
      generalize ev (fun i => c (i + 1)) (n + 1) a = r at hr
      generalize ev d n x = D at hD
      rw [mul_add, mul_add, ← mul_assoc hx hxa hD, mul_comm hx hxa, mul_assoc hxa hx hD, add_mul hx ha r]
      have e2 : ∀ p q z c : Nat, c ^^^ (z ^^^ p) = ((p ^^^ q) ^^^ z) ^^^ (c ^^^ q) := fun p q z c => by
        have : ((p ^^^ q) ^^^ z) ^^^ (c ^^^ q) = (c ^^^ (z ^^^ p)) ^^^ (q ^^^ q) := by ac_rfl
        rw [this, Nat.xor_self, Nat.xor_zero]
      exact e2 _ _ _ _
    · have hr0 : ev (fun i => c (i + 1)) (n + 1) a = 0 := by have := h0 0 (by omega); simpa using this
      have hc' := hz (fun i hi => by have := h0 (i + 1) (by omega); simpa using this) hr0
      cases i with
      | zero =>
        rw [ev, hr0, mul_zero, Nat.xor_zero] at h1
        exact h1
      | succ i => exact hc' i (by omega)
/-- A polynomial of a degree below n with n roots is nought. -/
theorem roots (n : Nat) : ∀ (c : Nat → Nat) (p : Nat → Nat), (∀ i, c i < 256) → (∀ i, i < n → p i < 256) → (∀ i j, i < n → j < n → p i = p j → i = j) → (∀ i, i < n → ev c n (p i) = 0) → ∀ i, i < n → c i = 0 := by
  induction n with
  | zero => intro c p _ _ _ _ i hi; omega
  | succ n ih =>
    intro c p hc hp hinj hev
    obtain ⟨d, hd, he, hz⟩ := factor (hp n (by omega)) n c hc
    refine hz (ih d p hd (fun i hi => hp i (by omega)) (fun i j hi hj => hinj i j (by omega) (by omega)) fun i hi => ?_) (hev n (by omega))
    have h := he (p i) (hp i (by omega))
    rw [hev i (by omega), hev n (by omega), Nat.xor_zero] at h
    have hne : p i ^^^ p n ≠ 0 := by
      intro e
      have : p i = p n := by
        have := xor_cancel (p i) (p n)
        rw [e, Nat.zero_xor] at this
        exact this.symm
      have := hinj i n (by omega) (by omega) this
      omega
    have hlt := ev_lt (hp i (by omega)) n hd
    rcases (mul_eq_zero (xor_lt (hp i (by omega)) (hp n (by omega))) hlt).1 h.symm with e | e
    · exact absurd e hne
    · exact e
theorem xor_eq {a b : Nat} (h : a ^^^ b = 0) : a = b := by
  have := xor_cancel a b
  rw [h, Nat.zero_xor] at this
  exact this.symm
/-- f is a polynomial of a degree below n. -/
def IsP (n : Nat) (f : Nat → Nat) : Prop := ∃ c : Nat → Nat, (∀ i, c i < 256) ∧ ∀ x, x < 256 → f x = ev c n x
theorem IsP.weak {n : Nat} {f : Nat → Nat} (h : IsP n f) : IsP (n + 1) f := by
  obtain ⟨c, hc, he⟩ := h
  refine ⟨fun i => if i < n then c i else 0, fun i => ?_, fun x hx => by rw [he x hx, ev_weak]⟩
  by_cases e : i < n <;> simp [e, hc]
theorem IsP.add {n : Nat} {f g : Nat → Nat} (h : IsP n f) (h' : IsP n g) : IsP n fun x => f x ^^^ g x := by
  obtain ⟨c, hc, he⟩ := h
  obtain ⟨d, hd, he'⟩ := h'
  exact ⟨fun i => c i ^^^ d i, fun i => xor_lt (hc i) (hd i), fun x hx => by rw [ev_add hx, ← he x hx, ← he' x hx]⟩
theorem IsP.scale {n : Nat} {f : Nat → Nat} {a : Nat} (h : IsP n f) (ha : a < 256) : IsP n fun x => mul (f x) a := by
  obtain ⟨c, hc, he⟩ := h
  exact ⟨fun i => mul a (c i), fun i => mul_lt ha _, fun x hx => by rw [ev_scale ha hx n c hc, ← mul_comm (ev_lt hx n hc) ha, ← he x hx]⟩
theorem IsP.times {n : Nat} {f : Nat → Nat} {a : Nat} (h : IsP n f) (ha : a < 256) : IsP (n + 1) fun x => mul (f x) (x ^^^ a) := by
  obtain ⟨c, hc, he⟩ := h
  have h1 : IsP (n + 1) fun x => mul x (ev c n x) := ⟨fun i => if i = 0 then 0 else c (i - 1), fun i => by by_cases e : i = 0 <;> simp [e, hc], fun x hx => by
    show mul x (ev c n x) = 0 ^^^ mul x (ev c n x)
    rw [Nat.zero_xor]⟩
  have h2 : IsP (n + 1) fun x => mul (ev c n x) a := (IsP.scale ⟨c, hc, fun _ _ => rfl⟩ ha).weak
  obtain ⟨d, hd, hd'⟩ := h1.add h2
  refine ⟨d, hd, fun x hx => ?_⟩
  rw [← hd' x hx]
  show mul (f x) (x ^^^ a) = mul x (ev c n x) ^^^ mul (ev c n x) a
  rw [he x hx, mul_add, mul_comm (ev_lt hx n hc) hx]
theorem IsP.zero (n : Nat) : IsP n fun _ => 0 := ⟨fun _ => 0, fun _ => Nat.zero_lt_succ _, fun x hx => (ev_zero n fun _ _ => rfl).symm⟩
theorem IsP.one : IsP 1 fun _ => 1 := ⟨fun _ => 1, fun _ => (Nat.succ_lt_succ (Nat.zero_lt_succ _)), fun x hx => by simp [ev, mul_zero]⟩
/-- Values at n elements settle it. -/
theorem settle {n : Nat} {f g : Nat → Nat} (hf : IsP n f) (hg : IsP n g) (p : Nat → Nat) (hp : ∀ i, i < n → p i < 256) (hinj : ∀ i j, i < n → j < n → p i = p j → i = j) (h : ∀ i, i < n → f (p i) = g (p i)) (x : Nat) (hx : x < 256) : f x = g x := by
  obtain ⟨c, hc, he⟩ := hf
  obtain ⟨d, hd, he'⟩ := hg
  have hz := roots n (fun i => c i ^^^ d i) p (fun i => xor_lt (hc i) (hd i)) hp hinj fun i hi => by
    rw [ev_add (hp i hi), ← he _ (hp i hi), ← he' _ (hp i hi), h i hi, Nat.xor_self]
  rw [he x hx, he' x hx]
  exact ev_congr n fun i hi => xor_eq (hz i hi)
theorem dist_isP {known : Nat → Nat} {j : Nat} (m : Nat) (hk : ∀ i, i < m → known i < 256) : IsP (if j < m then m else m + 1) fun x => dist known j x m := by
  induction m with
  | zero => exact IsP.one
  | succ m ih =>
    have ih := ih fun i hi => hk i (by omega)
    by_cases e : m = j
    · have h1 : ¬ j < m := by omega
      have h2 : j < m + 1 := by omega
      rw [if_neg h1] at ih
      rw [if_pos h2]
      simpa only [dist, if_pos e] using ih
    · have h : IsP ((if j < m then m else m + 1) + 1) fun x => mul (dist known j x m) (x ^^^ known m) := ih.times (hk m (by omega))
      have e2 : (if j < m then m else m + 1) + 1 = if j < m + 1 then m + 1 else m + 1 + 1 := by
        by_cases h1 : j < m
        · rw [if_pos h1, if_pos (by omega)]
        · rw [if_neg h1, if_neg (by omega)]
      rw [e2] at h
      simpa only [dist, if_neg e] using h
theorem wgt_isP {known : Nat → Nat} {j : Nat} (hj : j < 10) (hk : ∀ i, i < 10 → known i < 256) : IsP 10 fun x => wgt known x j := by
  have h := dist_isP (j := j) 10 hk
  rw [if_pos hj] at h
  exact h.scale (inv_lt _)
theorem comb_isP {known : Nat → Nat} (hk : ∀ i, i < 10 → known i < 256) {x : Nat → Nat → Nat} {i : Nat} (hx : ∀ j, x j i < 256) (m : Nat) (hm : m ≤ 10) : IsP 10 fun k => comb (wgt known k) x m i := by
  induction m with
  | zero => exact IsP.zero 10
  | succ m ih =>
    exact (ih (by omega)).add ((wgt_isP (by omega) hk).scale (hx m))
theorem dist_zero {known : Nat → Nat} {j k : Nat} (m : Nat) (i : Nat) (hi : i < m) (hij : i ≠ j) (he : known i = k) : dist known j k m = 0 := by
  induction m with
  | zero => omega
  | succ m ih =>
    unfold dist
    split
    · exact ih (by omega)
    · rcases Nat.lt_or_ge i m with h | h
      · rw [ih h, zero_mul]
      · have : i = m := by omega
        subst this
        rw [he, Nat.xor_self, mul_zero]
theorem dist_ne {known : Nat → Nat} {j k : Nat} (hk : k < 256) (m : Nat) (hkn : ∀ i, i < m → known i < 256) (h : ∀ i, i < m → i ≠ j → known i ≠ k) : dist known j k m ≠ 0 := by
  induction m with
  | zero => exact (by decide : (1 : Nat) ≠ 0)
  | succ m ih =>
    have ih := ih (fun i hi => hkn i (by omega)) fun i hi => h i (by omega)
    unfold dist
    split
    · exact ih
    · rename_i e
      exact mul_ne (dist_lt _ _ _ _) (xor_lt hk (hkn m (by omega))) ih fun e2 => h m (by omega) e (xor_eq e2).symm
theorem wgt_at {known : Nat → Nat} (hk : ∀ i, i < 10 → known i < 256) (hinj : ∀ i j, i < 10 → j < 10 → known i = known j → i = j) {m j : Nat} (hm : m < 10) (hj : j < 10) : wgt known (known m) j = if m = j then 1 else 0 := by
  unfold wgt
  by_cases e : m = j
  · subst e
    rw [if_pos rfl]
    exact inv_mul (dist_lt _ _ _ _) (dist_ne (hk m hm) 10 hk fun i hi hne e2 => hne (hinj i m hi hm e2))
  · rw [if_neg e, dist_zero 10 m hm e rfl, zero_mul]
theorem comb_pick {wt : Nat → Nat} {x : Nat → Nat → Nat} {i j : Nat} (n : Nat) (hw : ∀ m, m < n → wt m = if j = m then 1 else 0) (hx : ∀ j, x j i < 256) : comb wt x n i = if j < n then x j i else 0 := by
  induction n with
  | zero => simp [comb]
  | succ n ih =>
    rw [comb, ih fun m hm => hw m (by omega), hw n (by omega)]
    by_cases e : j = n
    · subst e
      simp [one_mul (hx j)]
    · by_cases h : j < n
      · rw [if_pos h, if_neg e, if_pos (by omega), zero_mul, Nat.xor_zero]
      · rw [if_neg h, if_neg e, if_neg (by omega), zero_mul, Nat.xor_zero]
/-- At a known place the known value stands. -/
theorem comb_at {known : Nat → Nat} (hk : ∀ i, i < 10 → known i < 256) (hinj : ∀ i j, i < 10 → j < 10 → known i = known j → i = j) {x : Nat → Nat → Nat} {i m : Nat} (hx : ∀ j, x j i < 256) (hm : m < 10) : comb (wgt known (known m)) x 10 i = x m i := by
  rw [comb_pick (j := m) 10 (fun q hq => wgt_at hk hinj hm hq) hx, if_pos hm]
/-- ANY TEN VALUES SETTLE THE OTHERS: of a polynomial of a degree below ten, ten values give back every value. -/
theorem comb_back {known : Nat → Nat} (hk : ∀ i, i < 10 → known i < 256) (hinj : ∀ i j, i < 10 → j < 10 → known i = known j → i = j) {f : Nat → Nat → Nat} {i : Nat} (hf : IsP 10 fun k => f k i) (hlt : ∀ k, f k i < 256) (k : Nat) (h : k < 256) : comb (wgt known k) (fun j => f (known j)) 10 i = f k i :=
  settle (comb_isP hk (fun j => hlt (known j)) 10 (Nat.le_refl _)) hf known hk hinj (fun m hm => comb_at hk hinj (fun j => hlt (known j)) hm) k h
end Fld
end Go.Proofs.Ytpiefebngnlfoaa

/-
  Ten equations in ten unknowns over the field, solved row by row.
-/
set_option linter.unusedVariables false
set_option linter.unusedSimpArgs false
namespace Go.Proofs.Ytpiefebngnlfoaa
namespace Fld
def dot (r u : Nat → Nat) : Nat → Nat
  | 0 => 0
  | n + 1 => dot r u n ^^^ mul (r n) (u n)
theorem dot_lt {r : Nat → Nat} (h : ∀ k, r k < 256) (u : Nat → Nat) (n : Nat) : dot r u n < 256 := by
  induction n with
  | zero => exact (by decide : 0 < 256)
  | succ n ih => exact xor_lt ih (mul_lt (h n) _)
theorem dot_congr {r s u t : Nat → Nat} (n : Nat) (h : ∀ k, k < n → r k = s k) (h' : ∀ k, k < n → u k = t k) : dot r u n = dot s t n := by
  induction n with
  | zero => rfl
  | succ n ih => rw [dot, dot, ih (fun k hk => h k (by omega)) (fun k hk => h' k (by omega)), h n (by omega), h' n (by omega)]
theorem dot_add {r s : Nat → Nat} (hr : ∀ k, r k < 256) (hs : ∀ k, s k < 256) (u : Nat → Nat) (n : Nat) : dot (fun k => r k ^^^ s k) u n = dot r u n ^^^ dot s u n := by
  induction n with
  | zero => simp [dot]
  | succ n ih => rw [dot, dot, dot, ih, add_mul (hr n) (hs n)]; exact xor4 _ _ _ _
theorem dot_scale {f : Nat} (hf : f < 256) {r u : Nat → Nat} (hr : ∀ k, r k < 256) (hu : ∀ k, u k < 256) (n : Nat) : dot (fun k => mul f (r k)) u n = mul f (dot r u n) := by
  induction n with
  | zero => exact (mul_zero f).symm
  | succ n ih => rw [dot, dot, ih, mul_add, mul_assoc hf (hr n) (hu n)]
theorem dot_pick {r u : Nat → Nat} {j : Nat} (n : Nat) (h : ∀ k, k < n → r k = if k = j then 1 else 0) (hu : ∀ k, u k < 256) : dot r u n = if j < n then u j else 0 := by
  induction n with
  | zero => simp [dot]
  | succ n ih =>
    rw [dot, ih fun k hk => h k (by omega), h n (by omega)]
    by_cases e : n = j
    · subst e
      simp [one_mul (hu n)]
    · by_cases hl : j < n
      · rw [if_pos hl, if_neg e, if_pos (by omega), zero_mul, Nat.xor_zero]
      · rw [if_neg hl, if_neg e, if_neg (by omega), zero_mul, Nat.xor_zero]
/-- Powers. -/
def pw (x : Nat) : Nat → Nat
  | 0 => 1
  | k + 1 => mul (pw x k) x
theorem pw_lt (x k : Nat) : pw x k < 256 := by
  induction k with
  | zero => exact (by decide : 1 < 256)
  | succ k ih => exact mul_lt ih _
theorem dot_shift {x : Nat} (hx : x < 256) {c : Nat → Nat} (hc : ∀ k, c k < 256) (n : Nat) : dot (pw x) c (n + 1) = c 0 ^^^ mul x (dot (pw x) (fun k => c (k + 1)) n) := by
  induction n with
  | zero => simp [dot, pw, one_mul (hc 0), mul_zero]
  | succ n ih =>
    rw [dot, ih, dot, mul_add, pw, mul_comm (pw_lt x n) hx, mul_assoc hx (pw_lt x n) (hc _), Nat.xor_assoc]
theorem ev_dot {x : Nat} (hx : x < 256) (n : Nat) : ∀ {c : Nat → Nat}, (∀ k, c k < 256) → ev c n x = dot (pw x) c n := by
  induction n with
  | zero => intro c _; rfl
  | succ n ih =>
    intro c hc
    rw [dot_shift hx hc, ev, ih fun k => hc (k + 1)]

/-- Nothing but nought goes to nought. -/
def Ker (M : Nat → Nat → Nat) : Prop := ∀ u : Nat → Nat, (∀ k, u k < 256) → (∀ i, i < 10 → dot (M i) u 10 = 0) → ∀ k, k < 10 → u k = 0
/-- The first c columns are done; 'tc' solves every row. -/
structure GI (tc : Nat → Nat → Nat) (wd c : Nat) (M : Nat → Nat → Nat) : Prop where
  lt : ∀ i k, M i k < 256
  ker : Ker M
  cols : ∀ i j, i < 10 → j < c → M i j = if i = j then 1 else 0
  rows : ∀ i x, i < 10 → x < wd → dot (M i) (fun k => tc k x) 10 = M i (10 + x)
theorem vander_ker {at_ : Nat → Nat} (h : ∀ i, i < 10 → at_ i < 256) (hinj : ∀ i j, i < 10 → j < 10 → at_ i = at_ j → i = j) {M : Nat → Nat → Nat} (hM : ∀ i k, i < 10 → k < 10 → M i k = pw (at_ i) k) : Ker M := by
  intro u hu hz k hk
  refine roots 10 u at_ hu h hinj (fun i hi => ?_) k hk
  rw [ev_dot (h i hi) 10 hu, ← hz i hi]
  exact dot_congr 10 (fun k hk => (hM i k hi hk).symm) fun _ _ => rfl
/-- There is a row with something in that column. -/
theorem GI.pivot {tc M : Nat → Nat → Nat} {wd c : Nat} (h : GI tc wd c M) (hc : c < 10) : ∃ p, c ≤ p ∧ p < 10 ∧ M p c ≠ 0 := by
  refine Classical.byContradiction fun hn => ?_
  have hz : ∀ p, c ≤ p → p < 10 → M p c = 0 := fun p h1 h2 => Classical.byContradiction fun e => hn ⟨p, h1, h2, e⟩
  have := h.ker (fun k => if k = c then 1 else if k < c then M k c else 0) (fun k => by
    split
    · exact (by decide : 1 < 256)
    · split
      · exact h.lt _ _
      · exact (by decide : 0 < 256)) (fun i hi => ?_) c hc
  · simp at this
  · have key : ∀ n, n ≤ 10 → dot (M i) (fun k => if k = c then 1 else if k < c then M k c else 0) n = (if i < n ∧ i < c then M i c else 0) ^^^ (if c < n then M i c else 0) := by
      intro n
      induction n with
      | zero => intro _; simp [dot]
      | succ n ih =>
        intro hn'
        rw [dot, ih (by omega)]
        by_cases e1 : n = c
        · subst e1
          rw [if_pos rfl, mul_one (h.lt _ _), if_neg (Nat.lt_irrefl n), if_pos (Nat.lt_succ_self n), Nat.xor_zero]
          by_cases e2 : i < n
          · rw [if_pos ⟨e2, e2⟩, if_pos ⟨by omega, e2⟩]
          · rw [if_neg (fun q => e2 q.2), if_neg (fun q => e2 q.2)]
        · rw [if_neg e1]
          by_cases e2 : n < c
          · rw [if_pos e2, h.cols i n hi e2, if_neg (show ¬ c < n by omega), if_neg (show ¬ c < n + 1 by omega), Nat.xor_zero, Nat.xor_zero]
            by_cases e3 : i = n
            · subst e3
              rw [if_neg (fun q => Nat.lt_irrefl _ q.1), if_pos rfl, one_mul (h.lt _ _), if_pos ⟨by omega, e2⟩, Nat.zero_xor]
            · rw [if_neg e3, zero_mul, Nat.xor_zero]
              by_cases e4 : i < n
              · rw [if_pos ⟨e4, by omega⟩, if_pos ⟨by omega, by omega⟩]
              · rw [if_neg (fun q => e4 q.1), if_neg (fun q => e4 (by omega))]
          · rw [if_neg e2, mul_zero, Nat.xor_zero]
            have q1 : (i < n ∧ i < c) ↔ (i < n + 1 ∧ i < c) := by omega
            have q2 : c < n ↔ c < n + 1 := by omega
            simp only [q1, q2]
    rw [key 10 (Nat.le_refl _), if_pos hc]
    by_cases e : i < c
    · rw [if_pos ⟨hi, e⟩, Nat.xor_self]
    · rw [if_neg (fun q => e q.2), hz i (by omega) hi]
      rfl
/-- Two rows change places. -/
def sw (M : Nat → Nat → Nat) (c p i : Nat) : Nat → Nat := if i = c then M p else if i = p then M c else M i
/-- A row is multiplied. -/
def sc (M : Nat → Nat → Nat) (c f i k : Nat) : Nat := if i = c then mul (M c k) f else M i k
/-- Its multiples are taken from the others. -/
def el (M : Nat → Nat → Nat) (c i k : Nat) : Nat := if i = c then M c k else M i k ^^^ mul (M i c) (M c k)
theorem GI.swap {tc M : Nat → Nat → Nat} {wd c p : Nat} (h : GI tc wd c M) (hp : c ≤ p) (hp10 : p < 10) : GI tc wd c (sw M c p) := by
  refine ⟨fun i k => ?_, fun u hu hz => h.ker u hu fun i hi => ?_, fun i j hi hj => ?_, fun i x hi hx => ?_⟩
  · unfold sw
    split
    · exact h.lt _ _
    · split <;> exact h.lt _ _
  · by_cases e : i = p
    · subst e
      have := hz c (by omega)
      simpa [sw] using this
    · by_cases e2 : i = c
      · subst e2
        have := hz p hp10
        rw [sw] at this
        by_cases e3 : p = i
        · rw [if_pos e3, e3] at this; exact this
        · rw [if_neg e3, if_pos rfl] at this; exact this
      · have := hz i hi
        rw [sw, if_neg e2, if_neg e] at this
        exact this
  · unfold sw
    split
    · rename_i e
      rw [h.cols p j hp10 hj, if_neg (by omega), if_neg (by omega)]
    · split
      · rename_i e
        rw [h.cols c j (by omega) hj, if_neg (by omega), if_neg (by omega)]
      · exact h.cols i j hi hj
  · unfold sw
    split
    · exact h.rows p x hp10 hx
    · split
      · exact h.rows c x (by omega) hx
      · exact h.rows i x hi hx
theorem GI.scale {tc M : Nat → Nat → Nat} {wd c f : Nat} (htc : ∀ k x, tc k x < 256) (h : GI tc wd c M) (hc : c < 10) (hf : f < 256) (hne : f ≠ 0) : GI tc wd c (sc M c f) := by
  have hrow : ∀ u : Nat → Nat, (∀ k, u k < 256) → dot (sc M c f c) u 10 = mul f (dot (M c) u 10) := fun u hu => by
    rw [← dot_scale hf (h.lt c) hu]
    exact dot_congr 10 (fun k _ => by rw [sc, if_pos rfl, mul_comm (h.lt c k) hf]) fun _ _ => rfl
  have hoth : ∀ i, i ≠ c → sc M c f i = M i := fun i hi => funext fun k => by rw [sc, if_neg hi]
  refine ⟨fun i k => ?_, fun u hu hz => h.ker u hu fun i hi => ?_, fun i j hi hj => ?_, fun i x hi hx => ?_⟩
  · unfold sc
    split
    · exact mul_lt (h.lt _ _) _
    · exact h.lt _ _
  · by_cases e : i = c
    · subst e
      have := hz i hi
      rw [hrow u hu] at this
      rcases (mul_eq_zero hf (dot_lt (h.lt i) u 10)).1 this with e | e
      · exact absurd e hne
      · exact e
    · have := hz i hi
      rw [hoth i e] at this
      exact this
  · unfold sc
    split
    · rename_i e
      rw [h.cols c j hc hj, if_neg (by omega), if_neg (by omega), zero_mul]
    · exact h.cols i j hi hj
  · by_cases e : i = c
    · subst e
      rw [hrow _ fun k => htc k x, h.rows i x hi hx, sc, if_pos rfl, mul_comm hf (h.lt _ _)]
    · rw [hoth i e]
      exact h.rows i x hi hx
theorem GI.elim {tc M : Nat → Nat → Nat} {wd c : Nat} (htc : ∀ k x, tc k x < 256) (h : GI tc wd c M) (hc : c < 10) (h1 : M c c = 1) : GI tc wd (c + 1) (el M c) := by
  have hc' : el M c c = M c := funext fun k => by rw [el, if_pos rfl]
  have hrow : ∀ i, i ≠ c → ∀ u : Nat → Nat, (∀ k, u k < 256) → dot (el M c i) u 10 = dot (M i) u 10 ^^^ mul (M i c) (dot (M c) u 10) := fun i hi u hu => by
    rw [← dot_scale (h.lt i c) (h.lt c) hu, ← dot_add (h.lt i) (fun k => mul_lt (h.lt i c) _)]
    exact dot_congr 10 (fun k _ => by rw [el, if_neg hi]) fun _ _ => rfl
  refine ⟨fun i k => ?_, fun u hu hz => h.ker u hu fun i hi => ?_, fun i j hi hj => ?_, fun i x hi hx => ?_⟩
  · unfold el
    split
    · exact h.lt _ _
    · exact xor_lt (h.lt _ _) (mul_lt (h.lt _ _) _)
  · have z := hz c hc
    rw [hc'] at z
    by_cases e : i = c
    · subst e; exact z
    · have := hz i hi
      rw [hrow i e u hu, z, mul_zero, Nat.xor_zero] at this
      exact this
  · unfold el
    by_cases e : i = c
    · subst e
      rw [if_pos rfl]
      by_cases e2 : j = i
      · subst e2; rw [if_pos rfl]; exact h1
      · exact h.cols i j hi (by omega)
    · rw [if_neg e]
      by_cases e2 : j = c
      · subst e2
        rw [h1, mul_one (h.lt _ _), Nat.xor_self, if_neg e]
      · rw [h.cols c j hc (by omega), if_neg (by omega), mul_zero, Nat.xor_zero]
        exact h.cols i j hi (by omega)
  · by_cases e : i = c
    · subst e
      rw [hc']
      exact h.rows i x hi hx
    · rw [hrow i e _ fun k => htc k x, h.rows i x hi hx, h.rows c x hc hx, el, if_neg e]
/-- All columns are done: the solution stands beside them. -/
theorem GI.solved {tc M : Nat → Nat → Nat} {wd : Nat} (htc : ∀ k x, tc k x < 256) (h : GI tc wd 10 M) {i x : Nat} (hi : i < 10) (hx : x < wd) : M i (10 + x) = tc i x := by
  rw [← h.rows i x hi hx, dot_pick (j := i) 10 (fun k hk => by
    rw [h.cols i k hi hk]
    by_cases e : i = k
    · rw [if_pos e, if_pos e.symm]
    · rw [if_neg e, if_neg (fun q => e q.symm)]) fun k => htc k x, if_pos hi]
/-- There is a solution. -/
theorem solution {at_ : Nat → Nat} (h : ∀ i, i < 10 → at_ i < 256) (hinj : ∀ i j, i < 10 → j < 10 → at_ i = at_ j → i = j) (y : Nat → Nat → Nat) (hy : ∀ j x, y j x < 256) :
    ∃ tc : Nat → Nat → Nat, (∀ k x, tc k x < 256) ∧ (∀ i x, i < 10 → ev (fun k => tc k x) 10 (at_ i) = y i x) ∧ ∀ k x, k < 256 → ev (fun k => tc k x) 10 k = comb (wgt at_ k) y 10 x := by
  have hP := fun x => comb_isP h (x := y) (i := x) (fun j => hy j x) 10 (Nat.le_refl _)
  refine ⟨fun k x => Classical.choose (hP x) k, fun k x => (Classical.choose_spec (hP x)).1 k, fun i x hi => ?_, fun k x hk => ?_⟩
  · rw [← (Classical.choose_spec (hP x)).2 (at_ i) (h i hi)]
    exact comb_at h hinj (fun j => hy j x) hi
  · exact ((Classical.choose_spec (hP x)).2 k hk).symm
theorem GI.start {at_ : Nat → Nat} (h : ∀ i, i < 10 → at_ i < 256) (hinj : ∀ i j, i < 10 → j < 10 → at_ i = at_ j → i = j) {y tc : Nat → Nat → Nat} {wd : Nat} (htc : ∀ k x, tc k x < 256) (hsol : ∀ i x, i < 10 → ev (fun k => tc k x) 10 (at_ i) = y i x) (hy : ∀ j x, y j x < 256) :
    GI tc wd 0 fun i k => if k < 10 then pw (at_ i) k else y i (k - 10) := by
  refine ⟨fun i k => ?_, vander_ker h hinj fun i k hi hk => by rw [if_pos hk], fun i j _ hj => by omega, fun i x hi hx => ?_⟩
  · show (if k < 10 then pw (at_ i) k else y i (k - 10)) < 256
    split
    · exact pw_lt _ _
    · exact hy _ _
  · show dot _ _ 10 = if 10 + x < 10 then pw (at_ i) (10 + x) else y i (10 + x - 10)
    rw [if_neg (by omega), show 10 + x - 10 = x by omega, ← hsol i x hi, ev_dot (h i hi) 10 fun k => htc k x]
    exact dot_congr 10 (fun k hk => by rw [if_pos hk]) fun _ _ => rfl
end Fld
end Go.Proofs.Ytpiefebngnlfoaa

/-
  THE WORKER's BODY (piece.fillLacking's function literal, behind its defer) IN COMPANY, in a view.
-/
namespace Go.Vw
open Go.Conc
section
variable {P : Program} {main : Bool} {R : World → World → Prop} {D : World → World → Array Event → Prop} {fn : FuncId} {ops : Array Oper} {S : World → Prop}
/-- The one operation at hand is a call. -/
theorem anyK_callLast {md : Region.Mode} {Q : Exit → Act → World → Prop} {N : Nat} {fuel : Nat} {l : Array Bool} {a : Act} {w : World} {o : Oper} {j : Nat} {f : FuncId} {args : Array Operand} {ats : Array TypeId} {nf : Nat} {vs : Array Value} {Post : Value → World → Prop} (hr : Region.ready md ops l = [j]) (ho : ops[j]? = some o) (hw : Region.wanted o (yielded ops a.tmps) = true)
    (hop : o.op = .call { callee := .value (.func f), args, argTypes := ats }) (hvs : args.map a.eval = vs) (hN : nf + 3 ≤ N) (hcall : CallsW P main R D f vs nf w Post)
    (hnext : ∀ v w', Post v w' → S w' ∧ AnyK P main R D fn md ops Q S N fuel (l.setIfInBounds j true) (a.put o.dst v) w') : AnyK P main R D fn md ops Q S N (fuel + 1) l a w := by
  refine anyK_all hr (by simp) fun i' hi' => ?_
  obtain rfl : i' = j := by simpa using hi'
  unfold OpK
  simp only [ho, hw, if_true]
  exact .inr ⟨f, args, ats, nf, Post, hop, hN, by rw [hvs]; exact hcall, hnext⟩
end
/-- What stands behind the first piece of a text. -/
def seqTail : Option Code → Code
  | some (.seq _ c) => c
  | _ => .skip
end Go.Vw
namespace Go.Proofs.Ytpiefebngnlfoaa
open Go.RowKit Go.Conc Go.Vw
theorem wts_wrow (known : Nat → Nat) (k : Nat) : wts known k 10 = wrow (Fld.wgt known k) := by
  apply Array.ext_getElem?
  intro i
  by_cases hi : i < 10 <;> simp [wts, wrow, bytesA, hi]
theorem wgt_lt (known : Nat → Nat) (k i : Nat) : Fld.wgt known k i < 256 := Fld.mul_lt (Fld.dist_lt _ _ _ _) _
/-- What is held. -/
structure HB (Rd : Nat → Prop) (known : Nat → Nat) (k : Nat) (RB : Nat → Nat) (n PB BP BR BK BC : Nat) (tp tr tk tc : TypeId) (x : Nat → Nat → Nat) (tb : TypeId) (w : World) : Prop where
  bp : w.heap[BP]? = some (.cells #[.slice (some ⟨PB, 0, none⟩) n n] tp)
  br : w.heap[BR]? = some (.cells (slices RB n) tr)
  bk : w.heap[BK]? = some (.cells (ten known) tk)
  bc : w.heap[BC]? = some (.cells #[.int .i64 (k : Nat)] tc)
  rows : ∀ j, j < 10 → w.heap[RB j]? = some (.cells (bytesA n (x j)) tb)
  low : ∀ b, Rd b → b < w.heap.size
theorem HB.rely {Rd : Nat → Prop} {known : Nat → Nat} {k : Nat} {RB : Nat → Nat} {n PB BP BR BK BC : Nat} {tp tr tk tc : TypeId} {x : Nat → Nat → Nat} {tb : TypeId} {w w₁ : World} (h : HB Rd known k RB n PB BP BR BK BC tp tr tk tc x tb w) (r : Ext w w₁) : HB Rd known k RB n PB BP BR BK BC tp tr tk tc x tb w₁ :=
  ⟨r.row h.bp, r.row h.br, r.row h.bk, r.row h.bc, fun j hj => r.row (h.rows j hj), fun b hb => Nat.lt_of_lt_of_le (h.low b hb) r.size⟩
section
variable {main : Bool} {Rd : Nat → Prop}

set_option maxRecDepth 100000 in
set_option maxHeartbeats 1000000 in
theorem body_c : ∃ N, ∀ (tb tp tr tk tc : TypeId) (known : Nat → Nat) (k : Nat) (RB : Nat → Nat) (x : Nat → Nat → Nat) (n PB BP BR BK BC : Nat) (t0 : Value) (ds : List Deferred) (w : World), (∀ i, i < 10 → known i < 14) → k < 14 → n ≤ 400 → (∀ j i, x j i < 256) →
    ¬ Rd PB → (∀ j, j < 10 → Rd (RB j)) → Rd BP → Rd BR → Rd BK → Rd BC → HB Rd known k RB n PB BP BR BK BC tp tr tk tc x tb w → w.heap[PB]? = some (.cells (bytesA n fun _ => 0) tb) →
    (seqTail Try.f48.body).wpC Try.prog main Ext (DW Rd) 48 N (fun e a w' => e = .normal ∧ a.defers = ds ∧ w'.heap[PB]? = some (.cells (bytesA n (Fld.comb (Fld.wgt known k) x 10)) tb))
      ⟨#[t0, .pointer (some ⟨BP, 0, none⟩), .pointer (some ⟨BR, 0, none⟩), .pointer (some ⟨BK, 0, none⟩), .pointer (some ⟨BC, 0, none⟩), undef, undef, undef, undef, undef, undef], ds⟩ w := by
  have T := termsW Rd
  obtain ⟨kw, hwt⟩ := weights_c (main := main) (Rd := Rd)
  obtain ⟨kr, hrk⟩ := reckon_c (main := main) (Rd := Rd)
  co_apply Exists.intro
  intro tb tp tr tk tc known k RB x n PB BP BR BK BC t0 ds w hkn hk hn hx hPB hRB r1 r2 r3 r4 hH hplace
  simp only [seqTail, Try.f48]
  co_apply wpC_region_calls T (drawW Rd) (N := kw + kr + 4) (S := HB Rd known k RB n PB BP BR BK BC tp tr tk tc x tb) (by omega) (by first | kernel_rfl | rfl)
  intro w₁ hR
  replace hH := HB.rely (hH.rely hR) (Ext.draw _)
  replace hplace := (Ext.draw w₁).row (hR.row hplace)
  clear hR
  simp only [List.size_toArray, List.length_cons, List.length_nil, Nat.reduceAdd, Nat.zero_add]
  generalize ({ w₁ with drawn := w₁.drawn + 1 } : World) = w₀ at hH hplace
  co_applyP anyK_take (v := .slice (some ⟨PB, 0, none⟩) n n) T (fun _ _ h r => HB.rely h r) (fun _ _ _ h r => ⟨h.1, h.2.1, r.row h.2.2⟩) (i := 0) rfl (by first | kernel_rfl | decide +kernel) (by first | kernel_rfl | decide +kernel) (by first | kernel_rfl | decide +kernel) (.inl ⟨by rfl, fun _ hw => ⟨run_eq_of ?run1, ?guar1⟩⟩) hH ?rest1
  case run1 =>
    intro K_ hK_
    (have hc := cell_of_row _ BP 0 _ _ _ (HB.bp hw); simp at hc)
    go_simp
    exact hK_
  case guar1 =>
    have hc := cell_of_row _ BP 0 _ _ _ (HB.bp hw); simp at hc
    (refine ⟨⟨rfl, rfl⟩, fun _ _ => rfl, ?_⟩; co_evs (exact ⟨_, rfl, rfl, by simp⟩))
  try walk_nrm
  co_applyP anyK_take T (fun _ _ h r => HB.rely h r) (fun _ _ _ h r => ⟨h.1, h.2.1, r.row h.2.2⟩) (i := 1) rfl (by first | kernel_rfl | decide +kernel) (by first | kernel_rfl | decide +kernel) (by first | kernel_rfl | decide +kernel) (yields_loadRow (by rfl) rfl rfl (fun w h => HB.br h) (by kernel_rfl) (by rw [slices_size]; kernel_rfl)) hH
  try walk_nrm
  co_applyP anyK_take T (fun _ _ h r => HB.rely h r) (fun _ _ _ h r => ⟨h.1, h.2.1, r.row h.2.2⟩) (i := 2) rfl (by first | kernel_rfl | decide +kernel) (by first | kernel_rfl | decide +kernel) (by first | kernel_rfl | decide +kernel) (yields_loadRow (by rfl) rfl rfl (fun w h => HB.bk h) (by kernel_rfl) (by rw [ten_size]; kernel_rfl)) hH
  try walk_nrm
  co_applyP anyK_take (v := .int .i64 (k : Nat)) T (fun _ _ h r => HB.rely h r) (fun _ _ _ h r => ⟨h.1, h.2.1, r.row h.2.2⟩) (i := 3) rfl (by first | kernel_rfl | decide +kernel) (by first | kernel_rfl | decide +kernel) (by first | kernel_rfl | decide +kernel) (.inl ⟨by rfl, fun _ hw => ⟨run_eq_of ?run4, ?guar4⟩⟩) hH ?rest4
  case run4 =>
    intro K_ hK_
    (have hc := cell_of_row _ BC 0 _ _ _ (HB.bc hw); simp at hc)
    go_simp
    exact hK_
  case guar4 =>
    have hc := cell_of_row _ BC 0 _ _ _ (HB.bc hw); simp at hc
    (refine ⟨⟨rfl, rfl⟩, fun _ _ => rfl, ?_⟩; co_evs (exact ⟨_, rfl, rfl, by simp⟩))
  try walk_nrm
  co_applyP anyK_takeCall T (fun _ _ h r => HB.rely h r) (fun _ _ _ h r => ⟨h.1, h.2.1, r.row h.2.2⟩) (i := 4) rfl (by first | kernel_rfl | decide +kernel) (by first | kernel_rfl | decide +kernel) (by first | kernel_rfl | decide +kernel) (by rfl) rfl (by simp [Act.eval]) (by omega) (fun w h => (hwt known k w w hkn hk h.low (.refl w)).mono fun v w' q => ⟨q.1, h.rely (since_ext q.2), since_ext q.2⟩) hH
  try walk_nrm
  have hcall := hrk tb RB x n (Fld.wgt known k) PB w₀ hn (wgt_lt known k) hx hH.low hPB hRB hH.rows hplace
  co_applyP anyK_callLast (j := 5) (by first | kernel_rfl | decide +kernel) rfl (by rfl) rfl (by simp [Act.eval, wts_wrow]) (by omega) hcall
  rintro v w' ⟨hp, hkeep⟩
  have nB : ∀ {B : Nat}, Rd B → B ≠ PB := fun h e => hPB (e ▸ h)
  co_apply And.intro ⟨hkeep _ (nB r1) _ hH.bp, hkeep _ (nB r2) _ hH.br, hkeep _ (nB r3) _ hH.bk, hkeep _ (nB r4) _ hH.bc, fun j hj => hkeep _ (nB (hRB j hj)) _ (hH.rows j hj), fun b hb => (Array.getElem?_eq_some_iff.1 (hkeep b (nB hb) _ (Array.getElem?_eq_getElem (hH.low b hb)))).1⟩
  co_apply anyK_done (by first | kernel_rfl | decide +kernel)
  exact ⟨rfl, rfl, hp⟩

/-- The same as a walk to the function's end. -/
theorem worker_goes : ∃ N, ∀ (tb tp tr tk tc : TypeId) (known : Nat → Nat) (k : Nat) (RB : Nat → Nat) (x : Nat → Nat → Nat) (n PB BP BR BK BC Dz : Nat) (t0 : Value) (w : World), (∀ i, i < 10 → known i < 14) → k < 14 → n ≤ 400 → (∀ j i, x j i < 256) →
    ¬ Rd PB → (∀ j, j < 10 → Rd (RB j)) → Rd BP → Rd BR → Rd BK → Rd BC → HB Rd known k RB n PB BP BR BK BC tp tr tk tc x tb w → w.heap[PB]? = some (.cells (bytesA n fun _ => 0) tb) →
    Goes Try.prog main Ext (DW Rd) (StopW (baseD 48) Dz fun w' => w'.heap[PB]? = some (.cells (bytesA n (Fld.comb (Fld.wgt known k) x 10)) tb)) N
      (G ((baseD 48).at ⟨#[t0, .pointer (some ⟨BP, 0, none⟩), .pointer (some ⟨BR, 0, none⟩), .pointer (some ⟨BK, 0, none⟩), .pointer (some ⟨BC, 0, none⟩), undef, undef, undef, undef, undef, undef], deadD Dz⟩ [.code (seqTail Try.f48.body)]) []) w := by
  obtain ⟨N, h⟩ := body_c (main := main) (Rd := Rd)
  refine ⟨1 + N, fun tb tp tr tk tc known k RB x n PB BP BR BK BC Dz t0 w hkn hk hn hx hPB hRB r1 r2 r3 r4 hH hplace => ?_⟩
  refine (h tb tp tr tk tc known k RB x n PB BP BR BK BC t0 (deadD Dz) w hkn hk hn hx hPB hRB r1 r2 r3 r4 hH hplace) (baseD 48) [] [] _ 1 rfl (by simp [baseD]) fun e a w' q => ?_
  obtain ⟨rfl, hd, hp⟩ := q
  refine Goes.step rfl fun w₁ hR => ?_
  rw [stepG_end]
  refine ⟨(termsW Rd).idle _, Goes.stop fun w₂ h₂ => ⟨a.tmps, [], ?_, h₂.row (hR.row hp)⟩⟩
  rw [← hd]
  rfl
end
end Go.Proofs.Ytpiefebngnlfoaa
