/-
  Plain numbers: the field of 256 elements (products modulo the polynomial 285): it is a field, and the reference's product (multiplied out, then divided) is the same one.
-/
import Derived.Test.YtpiefebngnlfoaaDoorRows
import Derived.Test.YtpiefebngnlfoaaDoorLi
import Derived.WalkKit
import Derived.Laws.BitsAllLaws
import Derived.Conc.WgGenN3
import Derived.Test.YtpiefebngnlfoaaDoorLb
import Derived.Conc.CompanyMem
import Derived.Conc.Starve
import Derived.Test.YtpiefebngnlfoaaDoorLe
import Derived.Deep.WholeRow
import Derived.Conc.SmallLaws
import Derived.Test.YtpiefebngnlfoaaDoorLd
import Derived.Conc.EventLaws
import Derived.Conc.EventLaws2
import Derived.Conc.DeferLaws
namespace Go.Proofs.YtpiefebngnlfoaaDoor.Fld
/-- times x, modulo the polynomial 285. -/
def xt (a : Nat) : Nat := if a < 128 then 2 * a else (2 * a) ^^^ 285
/-- times x, k times. -/
def xp : Nat → Nat → Nat
  | 0, a => a
  | k + 1, a => xt (xp k a)
/-- the product, of the lowest k bits of b alone. -/
def mk (a b : Nat) : Nat → Nat
  | 0 => 0
  | k + 1 => if b / 2 ^ k % 2 = 1 then mk a b k ^^^ xp k a else mk a b k
/-- the product. -/
def mul (a b : Nat) : Nat := mk a b 8
/-- the reference's first loop, after k rounds. -/
def rA (a b : Nat) : Nat → Nat
  | 0 => 0
  | k + 1 => if b / 2 ^ k % 2 = 1 then rA a b k ^^^ a * 2 ^ k else rA a b k
/-- its second one: after j rounds. -/
def rB (n : Nat) : Nat → Nat
  | 0 => n
  | j + 1 => if rB n j / 2 ^ (14 - j) % 2 = 1 then rB n j ^^^ 285 * 2 ^ (6 - j) else rB n j

/-! all numbers below a bound, by the kernel -/
def allTo (p : Nat → Bool) : Nat → Bool
  | 0 => true
  | n + 1 => p n && allTo p n
theorem allTo_spec {p : Nat → Bool} {n : Nat} (h : allTo p n = true) : ∀ k, k < n → p k = true := by
  induction n with
  | zero => intro k hk; omega
  | succ n ih =>
    simp only [allTo, Bool.and_eq_true] at h
    intro k hk
    by_cases e : k = n
    · subst e; exact h.1
    · exact ih h.2 k (by omega)

theorem xt_lt {a : Nat} (h : a < 256) : xt a < 256 := by
  have := allTo_spec (p := fun a => decide (xt a < 256)) (n := 256) (by decide +kernel) a h
  simpa using this
theorem bit_iff (n k : Nat) : n / 2 ^ k % 2 = 1 ↔ n.testBit k = true := by
  rw [Nat.testBit_eq_decide_div_mod_eq]; simp
theorem xor_lt {a b : Nat} (ha : a < 256) (hb : b < 256) : a ^^^ b < 256 := Nat.xor_lt_two_pow (n := 8) ha hb
theorem xt_eq (a : Nat) : xt a = if a.testBit 7 = true ∧ a < 256 then (2 * a) ^^^ 285 else if a < 256 then 2 * a else xt a := by
  unfold xt
  by_cases h : a < 256
  · have : a.testBit 7 = true ↔ 128 ≤ a := by rw [← bit_iff]; omega
    by_cases g : a < 128
    · have : ¬ a.testBit 7 = true := by rw [this]; omega
      simp [h, this, g]
    · have : a.testBit 7 = true := by rw [this]; omega
      simp [h, this, g]
  · simp [h]
theorem two_mul_xor (a b : Nat) : 2 * (a ^^^ b) = (2 * a) ^^^ (2 * b) := by
  have h (n : Nat) : 2 * n = n <<< 1 := by rw [Nat.shiftLeft_eq]; omega
  rw [h, h a, h b, Nat.shiftLeft_xor_distrib]
theorem xor_cancel (a b : Nat) : a ^^^ b ^^^ b = a := by rw [Nat.xor_assoc, Nat.xor_self, Nat.xor_zero]
theorem xor4 (a b c d : Nat) : (a ^^^ b) ^^^ (c ^^^ d) = (a ^^^ c) ^^^ (b ^^^ d) := by
  rw [Nat.xor_assoc, ← Nat.xor_assoc b, Nat.xor_comm b c, Nat.xor_assoc c, ← Nat.xor_assoc]
theorem xt_xor {a b : Nat} (ha : a < 256) (hb : b < 256) : xt (a ^^^ b) = xt a ^^^ xt b := by
  have hab := xor_lt ha hb
  have ht : (a ^^^ b).testBit 7 = (a.testBit 7 ^^ b.testBit 7) := Nat.testBit_xor _ _ _
  rw [xt_eq a, xt_eq b, xt_eq (a ^^^ b), ht, two_mul_xor]
  simp only [ha, hb, hab, and_true, if_true]
  have e := xor_cancel (2 * a ^^^ 2 * b) 285
  cases a.testBit 7 <;> cases b.testBit 7 <;> simp
  · exact Nat.xor_assoc _ _ _
  · rw [Nat.xor_assoc, Nat.xor_assoc, Nat.xor_comm 285]
  · rw [xor4, Nat.xor_self, Nat.xor_zero]
theorem xt_zero : xt 0 = 0 := rfl
theorem xp_lt {a : Nat} (h : a < 256) (k : Nat) : xp k a < 256 := by
  induction k with
  | zero => exact h
  | succ k ih => exact xt_lt ih
theorem xp_xor {a b : Nat} (ha : a < 256) (hb : b < 256) (k : Nat) : xp k (a ^^^ b) = xp k a ^^^ xp k b := by
  induction k with
  | zero => rfl
  | succ k ih => simp only [xp]; rw [ih, xt_xor (xp_lt ha k) (xp_lt hb k)]
theorem xp_zero (k : Nat) : xp k 0 = 0 := by
  induction k with
  | zero => rfl
  | succ k ih => simp only [xp]; rw [ih, xt_zero]
theorem xp_add (i j a : Nat) : xp (i + j) a = xp i (xp j a) := by
  induction i with
  | zero => simp [xp]
  | succ i ih => rw [show i + 1 + j = (i + j) + 1 from by omega]; simp only [xp]; rw [ih]
theorem xp_xt (k a : Nat) : xp k (xt a) = xt (xp k a) := by
  induction k with
  | zero => rfl
  | succ k ih => simp only [xp]; rw [ih]

theorem mk_lt {a : Nat} (h : a < 256) (b k : Nat) : mk a b k < 256 := by
  induction k with
  | zero => simp [mk]
  | succ k ih => simp only [mk]; split
                 · exact xor_lt ih (xp_lt h k)
                 · exact ih
theorem mk_stay (a b k : Nat) (h : b / 2 ^ k = 0) (j : Nat) : mk a b (k + j) = mk a b k := by
  induction j with
  | zero => rfl
  | succ j ih =>
    have : b / 2 ^ (k + j) = 0 := by rw [Nat.pow_add, ← Nat.div_div_eq_div_mul, h]; simp
    rw [← Nat.add_assoc]; simp only [mk]; rw [this]; simpa using ih
theorem mk_xt {a : Nat} (h : a < 256) (b k : Nat) : mk (xt a) b k = xt (mk a b k) := by
  induction k with
  | zero => rfl
  | succ k ih =>
    simp only [mk]; split
    · rw [ih, xp_xt, xt_xor (mk_lt h b k) (xp_lt h k)]
    · exact ih
theorem mk_xor_left {a c : Nat} (ha : a < 256) (hc : c < 256) (b k : Nat) : mk (a ^^^ c) b k = mk a b k ^^^ mk c b k := by
  induction k with
  | zero => simp [mk]
  | succ k ih =>
    simp only [mk]; split
    · rw [ih, xp_xor ha hc, xor4]
    · exact ih
theorem mk_zero_left (b k : Nat) : mk 0 b k = 0 := by
  induction k with
  | zero => rfl
  | succ k ih => simp only [mk]; rw [ih, xp_zero]; simp
theorem mk_zero_right (a k : Nat) : mk a 0 k = 0 := by
  induction k with
  | zero => rfl
  | succ k ih => simp only [mk]; rw [ih]; simp

theorem mul_lt {a : Nat} (h : a < 256) (b : Nat) : mul a b < 256 := mk_lt h b 8
theorem zero_mul (b : Nat) : mul 0 b = 0 := mk_zero_left b 8
theorem mul_zero (a : Nat) : mul a 0 = 0 := mk_zero_right a 8
theorem add_mul {a c : Nat} (ha : a < 256) (hc : c < 256) (b : Nat) : mul (a ^^^ c) b = mul a b ^^^ mul c b := mk_xor_left ha hc b 8
theorem mul_one {a : Nat} (h : a < 256) : mul a 1 = a := by
  have := allTo_spec (p := fun a => mul a 1 == a) (n := 256) (by decide +kernel) a h
  simpa using this
theorem one_mul {a : Nat} (h : a < 256) : mul 1 a = a := by
  have := allTo_spec (p := fun a => mul 1 a == a) (n := 256) (by decide +kernel) a h
  simpa using this
theorem xp_mul {b : Nat} (hb : b < 256) (i : Nat) : mul (xp i 1) b = xp i b := by
  induction i with
  | zero => exact one_mul hb
  | succ i ih =>
    show mk (xt (xp i 1)) b 8 = xt (xp i b)
    rw [mk_xt (xp_lt (by omega) i)]
    exact congrArg xt ih
/-- the powers of x, one after the other -/
def pows : Nat → Nat → List Nat
  | 0, _ => []
  | n + 1, a => a :: pows n (xt a)
theorem pows_spec (n a c : Nat) (h : c ∈ pows n a) : ∃ i, c = xp i a := by
  induction n generalizing a with
  | zero => simp [pows] at h
  | succ n ih =>
    simp only [pows, List.mem_cons] at h
    rcases h with rfl | h
    · exact ⟨0, rfl⟩
    · obtain ⟨i, hi⟩ := ih _ h
      exact ⟨i + 1, by rw [hi, xp_xt]; rfl⟩
theorem is_power {a : Nat} (h : a < 256) (h0 : a ≠ 0) : ∃ i, a = xp i 1 := by
  have := allTo_spec (p := fun a => a == 0 || (pows 255 1).contains a) (n := 256) (by decide +kernel) a h
  exact pows_spec 255 1 a (by simpa [h0] using this)
theorem mul_comm {a b : Nat} (ha : a < 256) (hb : b < 256) : mul a b = mul b a := by
  by_cases a0 : a = 0
  · subst a0; rw [zero_mul, mul_zero]
  by_cases b0 : b = 0
  · subst b0; rw [zero_mul, mul_zero]
  obtain ⟨i, rfl⟩ := is_power ha a0
  obtain ⟨j, rfl⟩ := is_power hb b0
  rw [xp_mul hb, xp_mul ha, ← xp_add, ← xp_add, Nat.add_comm]
/-! the reference's product -/
end Go.Proofs.YtpiefebngnlfoaaDoor.Fld

/-
  What the program's and the reference's products return, for all arguments: the walks of field.IsElement, field.timesX, field.Mul, mosaic.Mul and mosaicref.Mul.
-/
namespace Go.Proofs.YtpiefebngnlfoaaDoor
open Go.RowKit

theorem and128_lo (a : Nat) (h : a < 128) : bits .and .u8 (a : Int) 128 = 0 := by
  rw [show (128 : Int) = ((128 : Nat) : Int) from rfl, u8_and_nat a 128 (by omega) (by omega)]
  have := Fld.allTo_spec (p := fun a => a &&& 128 == 0) (n := 128) (by decide +kernel) a h
  simp at this; rw [this]; rfl
theorem and128_hi (a : Nat) (h : 128 ≤ a) (h' : a < 256) : bits .and .u8 (a : Int) 128 = 128 := by
  rw [show (128 : Int) = ((128 : Nat) : Int) from rfl, u8_and_nat a 128 (by omega) (by omega)]
  have := Fld.allTo_spec (p := fun a => a < 128 || a &&& 128 == 128) (n := 256) (by decide +kernel) a h'
  simp at this
  rcases this with h | h
  · omega
  · rw [h]

theorem xt_lo (a : Nat) (h : a < 128) : (a : Int) * 2 = ((Fld.xt a : Nat) : Int) := by
  unfold Fld.xt; rw [if_pos h]; omega
theorem xt_hi (a : Nat) (h : 128 ≤ a) (h' : a < 256) : bits .xor .u8 ((a : Int) * 2 % 256) 29 = ((Fld.xt a : Nat) : Int) := by
  have e : (a : Int) * 2 % 256 = ((2 * a % 256 : Nat) : Int) := by omega
  rw [e, show (29 : Int) = ((29 : Nat) : Int) from rfl, u8_xor_nat _ 29 (by omega) (by omega)]
  have := Fld.allTo_spec (p := fun a => a < 128 || 2 * a % 256 ^^^ 29 == Fld.xt a) (n := 256) (by decide +kernel) a h'
  simp at this
  rcases this with h | h
  · omega
  · rw [h]

theorem and1 (n : Nat) (h : n < 256) : bits .and .u8 (n : Int) 1 = ((n % 2 : Nat) : Int) := by
  rw [show (1 : Int) = ((1 : Nat) : Int) from rfl, u8_and_nat n 1 h (by omega), Nat.and_one_is_mod]
theorem and1_yes (n : Nat) (h : n < 256) (g : n % 2 = 1) : (bits .and .u8 (n : Int) 1 == 1) = true := by rw [and1 n h, g]; rfl
theorem and1_no (n : Nat) (h : n < 256) (g : ¬ n % 2 = 1) : (bits .and .u8 (n : Int) 1 == 1) = false := by
  rw [and1 n h, show n % 2 = 0 from by omega]; rfl
/-- b, k bits to the right. -/
def sh (b k : Nat) : Nat := b / 2 ^ k
theorem sh_succ (b k : Nat) : sh b (k + 1) = sh b k / 2 := by unfold sh; rw [Nat.pow_succ, Nat.div_div_eq_div_mul]
theorem sh_lt (b k : Nat) (h : b < 256) : sh b k < 256 := Nat.lt_of_le_of_lt (Nat.div_le_self _ _) h
theorem sh_ne (b k : Nat) (h : b < 256) (h0 : sh b k ≠ 0) : k < 8 := by
  by_cases g : k < 8
  · exact g
  · exfalso; apply h0; unfold sh
    apply Nat.div_eq_of_lt
    have : 2 ^ 8 ≤ 2 ^ k := Nat.pow_le_pow_right (by omega) (by omega)
    omega
theorem mk_end (a b k : Nat) (hk : k ≤ 8) (h0 : sh b k = 0) : Fld.mk a b k = Fld.mul a b := by
  unfold Fld.mul
  obtain ⟨j, hj⟩ := Nat.exists_eq_add_of_le hk
  have := Fld.mk_stay a b k h0 j
  rw [hj, this]
theorem mk_on (a b k : Nat) (h : sh b k % 2 = 1) : Fld.mk a b (k + 1) = Fld.mk a b k ^^^ Fld.xp k a := by
  simp only [Fld.mk]; unfold sh at h; rw [if_pos h]
theorem mk_off (a b k : Nat) (h : ¬ sh b k % 2 = 1) : Fld.mk a b (k + 1) = Fld.mk a b k := by
  simp only [Fld.mk]; unfold sh at h; rw [if_neg h]

end Go.Proofs.YtpiefebngnlfoaaDoor

/-
  The program holds the library's functions under these numbers.
-/
namespace Go.Proofs.YtpiefebngnlfoaaDoor
abbrev link : Go.Conc.Lib.WgLink := { add := 59, done := 61, wait := 64, relMerge := 75, disable := 76, enable := 77, inBubble := 78, associate := 79, fatal := 80, uOr := 81, uAdd := 82, raceRead := 83, uLoad := 84, uStore := 85, disassociate := 86, semrelease := 87, acquire := 91, isAssociated := 92, uCas := 93, raceWrite := 94, semacquire := 95, orU64 := 100, addU64 := 101, loadU64 := 102, storeU64 := 103, casU64 := 105, tWgP := 133, tUP := 135, tAssoc := 137, tWg := 118, tAU := 116, tU64 := 47, tUint := 82, tU32 := 108, tPU32 := 141, tPAU := 159, tPU64 := 161, tNoCopy := 112, tANoCopy := 113, tAlign64 := 114 }
theorem wgLib : Go.Conc.Lib.WgLib Tryd.prog link :=
  ⟨Tryd.func59, Tryd.func61, Tryd.func64, Tryd.func75, Tryd.func76, Tryd.func77, Tryd.func78, Tryd.func79, Tryd.func80, Tryd.func81, Tryd.func82, Tryd.func83, Tryd.func84, Tryd.func85, Tryd.func86, Tryd.func87, Tryd.func91, Tryd.func92, Tryd.func93, Tryd.func94, Tryd.func95, Tryd.func100, Tryd.func101, Tryd.func102, Tryd.func103, Tryd.func105, Tryd.underlying133, Tryd.runUnderlying133, Tryd.sizeOf133, Tryd.isAgg133, Tryd.zeroValue133, Tryd.underlying135, Tryd.runUnderlying135, Tryd.sizeOf135, Tryd.isAgg135, Tryd.zeroValue135, Tryd.underlying137, Tryd.runUnderlying137, Tryd.sizeOf137, Tryd.isAgg137, Tryd.zeroValue137, Tryd.underlying118, Tryd.runUnderlying118, Tryd.sizeOf118, Tryd.isAgg118, Tryd.zeroValue118, Tryd.underlying116, Tryd.runUnderlying116, Tryd.sizeOf116, Tryd.isAgg116, Tryd.zeroValue116, Tryd.underlying47, Tryd.runUnderlying47, Tryd.sizeOf47, Tryd.isAgg47, Tryd.zeroValue47, Tryd.underlying82, Tryd.runUnderlying82, Tryd.sizeOf82, Tryd.isAgg82, Tryd.zeroValue82, Tryd.underlying108, Tryd.runUnderlying108, Tryd.sizeOf108, Tryd.isAgg108, Tryd.zeroValue108, Tryd.underlying141, Tryd.runUnderlying141, Tryd.sizeOf141, Tryd.isAgg141, Tryd.zeroValue141, Tryd.underlying159, Tryd.runUnderlying159, Tryd.sizeOf159, Tryd.isAgg159, Tryd.zeroValue159, Tryd.underlying161, Tryd.runUnderlying161, Tryd.sizeOf161, Tryd.isAgg161, Tryd.zeroValue161, Tryd.underlying0, Tryd.runUnderlying0, Tryd.sizeOf0, Tryd.isAgg0, Tryd.zeroValue0, Tryd.underlying3, Tryd.runUnderlying3, Tryd.sizeOf3, Tryd.isAgg3, Tryd.zeroValue3, Tryd.underlying4, Tryd.runUnderlying4, Tryd.sizeOf4, Tryd.isAgg4, Tryd.zeroValue4, Tryd.underlying9, Tryd.runUnderlying9, Tryd.sizeOf9, Tryd.isAgg9, Tryd.zeroValue9, Tryd.underlying20, Tryd.runUnderlying20, Tryd.sizeOf20, Tryd.isAgg20, Tryd.zeroValue20, Tryd.underlying21, Tryd.runUnderlying21, Tryd.sizeOf21, Tryd.isAgg21, Tryd.zeroValue21, (by kernel_rfl), (by kernel_rfl)⟩
end Go.Proofs.YtpiefebngnlfoaaDoor

/-
  The functions of the program that start no goroutine are let by.
-/
set_option linter.unusedVariables false
namespace Go.Vw
/-- One function is let by. -/
def okFn (P : Program) (F : FuncId → Bool) (f : FuncId) : Bool :=
  match P.funcs[f]? with
  | some fn => (match fn.body with | some c => okCode P F c | none => false) && !(fn.name == "runtime.NumGoroutine")
  | none => false
theorem okFn_spec {P : Program} {F : FuncId → Bool} {f : FuncId} (h : okFn P F f = true) : ∃ fn c, P.funcs[f]? = some fn ∧ fn.body = some c ∧ okCode P F c = true ∧ (fn.name == "runtime.NumGoroutine") = false := by
  unfold okFn at h
  split at h
  · rename_i fn hf
    rw [Bool.and_eq_true] at h
    obtain ⟨h1, h2⟩ := h
    split at h1
    · rename_i c hc
      exact ⟨fn, c, hf, hc, h1, by simpa using h2⟩
    · cases h1
  · cases h
end Go.Vw
namespace Go.Proofs.YtpiefebngnlfoaaDoor
open Go.Vw
def FL : List FuncId := [9, 14, 88, 104, 39, 40, 65, 66, 62, 63, 89, 90]
def FG (f : FuncId) : Bool := FL.contains f
theorem all_ok : FL.all (okFn Tryd.prog FG) = true := by kernel_rfl
theorem goodFG : Vw.Good Tryd.prog FG := by
  refine ⟨fun f hf => ?_, noCC⟩
  have hm : f ∈ FL := by simpa [FG] using hf
  exact okFn_spec (List.all_eq_true.1 all_ok f hm)
end Go.Proofs.YtpiefebngnlfoaaDoor

/-
  field.timesX, field.Mul IN COMPANY: they touch no memory: whatever the others do.
-/
namespace Go.Proofs.YtpiefebngnlfoaaDoor
open Go.RowKit Go.Conc

theorem u8wrap (n : Int) : IntKind.u8.wrap n = n % 256 := by simp [IntKind.wrap, IntKind.bits, IntKind.signed]
section
variable {main : Bool} {R : World → World → Prop} {D : World → World → Array Event → Prop}

set_option maxRecDepth 100000 in
set_option maxHeartbeats 1000000 in
theorem timesX_c (T : Terms R D) : ∃ k, ∀ (a : Nat) (w₀ w : World), a < 256 → Since R w₀ w →
    CallsC Tryd.prog main R D 104 #[.int .u8 (a : Int)] k w fun v w' => v = .int .u8 (Fld.xt a : Nat) ∧ Since R w₀ w' := by
  co_apply Exists.intro
  intro a w₀ w ha hF
  co_apply callsC_of_wpC Tryd.func104 (by rfl) rfl
  simp only [Tryd.ntmps104, List.size_toArray, List.length_cons, List.length_nil, Nat.reduceAdd, Nat.reduceSub, Array.replicate_succ, Array.replicate_zero, List.push_toArray, List.append_toArray, List.nil_append, List.cons_append]
  co_go T (Since.rely T) hF (co_quiet T)
  co_split T (bits .and .u8 (a : Int) 128 == 0)
  · intro ht
    have g : a < 128 := by
      rcases Nat.lt_or_ge a 128 with g | g
      · exact g
      · rw [and128_hi a g ha] at ht; cases ht
    co_go T (Since.rely T) hF (co_quiet T)
    exact ⟨rfl, _, resultsC_tmp (by rfl) _, by simp only [go_sem]; rw [u8wrap]; simpa [Int.emod_eq_of_lt (show (0 : Int) ≤ (a : Int) * 2 by omega) (show (a : Int) * 2 < 256 by omega)] using xt_lo a g, hF⟩
  · intro ht
    have g : 128 ≤ a := by
      rcases Nat.lt_or_ge a 128 with g | g
      · rw [and128_lo a g] at ht; cases ht
      · exact g
    co_go T (Since.rely T) hF (co_quiet T)
    exact ⟨rfl, _, resultsC_tmp (by rfl) _, by simp [u8wrap]; exact xt_hi a g ha, hF⟩

/-- A call in a region, its arguments named. -/
theorem opsC_call_at (T : Terms R D) {P : Program} {fn : FuncId} {Q : Exit → Act → World → Prop} {a : Act} {w : World} {ops : Array Oper} {i : Nat} {rest : List Nat} {o : Oper} {f : FuncId} {args : Array Operand} {ats : Array TypeId} {nf n : Nat} {Post : Value → World → Prop} {vs : Array Value}
    (ho : ops[i]? = some o) (hw : Region.wanted o (yielded ops a.tmps) = true) (hop : o.op = .call { callee := .value (.func f), args, argTypes := ats })
    (hcall : CallsC P main R D f vs nf w Post) (hvs : args.map a.eval = vs) (hnext : ∀ v w', Post v w' → OpsC P main R D fn ops rest n Q (a.put o.dst v) w') : OpsC P main R D fn ops (i :: rest) (n + nf + 3) Q a w := by
  subst hvs
  exact opsC_call T ho hw hop hcall hnext

set_option maxRecDepth 100000 in
set_option maxHeartbeats 1000000 in
theorem fmul_c (T : Terms R D) : ∃ k, ∀ (a b : Nat) (w₀ w : World), a < 256 → b < 256 → Since R w₀ w →
    CallsC Tryd.prog main R D 88 #[.int .u8 (a : Int), .int .u8 (b : Int)] k w fun v w' => v = .int .u8 (Fld.mul a b : Nat) ∧ Since R w₀ w' := by
  obtain ⟨kx, hx⟩ := timesX_c (main := main) T
  co_apply Exists.intro
  intro a b w₀ w ha hb hF
  co_apply callsC_of_wpC Tryd.func88 (by rfl) rfl
  simp only [Tryd.ntmps88, List.size_toArray, List.length_cons, List.length_nil, Nat.reduceAdd, Nat.reduceSub, Array.replicate_succ, Array.replicate_zero, List.push_toArray, List.append_toArray, List.nil_append, List.cons_append]
  co_go T (Since.rely T) hF (co_quiet T)
  co_apply wpC_loop T (fun act w' => Since R w₀ w' ∧ ∃ (k : Nat) (u2 u3 u6 u7 u8 u9 u10 u11 u12 u13 u14 u15 u16 u17 u18 : Value), k ≤ 8 ∧
      act = ⟨#[.int .u8 (Fld.xp k a : Nat), .int .u8 (sh b k : Nat), u2, u3, .int .u8 0, .int .u8 (Fld.mk a b k : Nat), u6, u7, u8, u9, u10, u11, u12, u13, u14, u15, u16, u17, u18], []⟩)
    (fun act _ => (intOf (act.tmps.getD 1 undef)).toNat) _ 256 ?h0 ?hN ?round
  case h0 => exact ⟨hF, 0, undef, undef, undef, undef, undef, undef, undef, undef, undef, undef, undef, undef, undef, undef, undef, by omega, by simp [sh, Fld.xp, Fld.mk]⟩
  case hN => simp [intOf]; omega
  case round =>
    rintro act w' ⟨hF, k, u2, u3, u6, u7, u8, u9, u10, u11, u12, u13, u14, u15, u16, u17, u18, hk, rfl⟩
    have h1 := sh_lt b k hb
    have h2 := Fld.xp_lt ha k
    have h3 := Fld.mk_lt ha b k
    co_go T (Since.rely T) hF (co_quiet T)
    co_split T ((sh b k : Int) != 0)
    · intro hz
      have h0 : sh b k ≠ 0 := by intro e; rw [e] at hz; cases hz
      have hk8 := sh_ne b k hb h0
      co_go T (Since.rely T) hF (co_quiet T)
      co_split T (bits .and .u8 (sh b k : Int) 1 == 1)
      · intro hb1
        have hm : sh b k % 2 = 1 := by
          rcases Nat.mod_two_eq_zero_or_one (sh b k) with e | e
          · have := and1_no _ h1 (show ¬ sh b k % 2 = 1 by omega); rw [this] at hb1; cases hb1
          · exact e
        have H := hide (mk_on a b k hm)
        co_go T (Since.rely T) hF (co_quiet T)
        co_apply opsC_call_at T rfl (by rfl) rfl (hx _ _ _ h2 hF) (by simp [Act.eval])
        rintro v w'' ⟨rfl, hF⟩
        co_go T (Since.rely T) hF (co_quiet T)
        have e2 : ((sh b k : Nat) : Int) / 2 = ((sh b (k + 1) : Nat) : Int) := by rw [sh_succ]; omega
        rw [u8_xor_nat _ _ h3 h2, ← H.out, e2]
        exact ⟨⟨hF, k + 1, u2, u3, _, _, _, _, _, _, _, _, _, _, _, _, _, by omega, rfl⟩, by rw [sh_succ]; simp [intOf]; omega⟩
      · intro hb1
        have hm : ¬ sh b k % 2 = 1 := by
          intro e
          have := and1_yes _ h1 e; rw [this] at hb1; cases hb1
        have H := hide (mk_off a b k hm)
        co_apply wpC_skip T
        co_then
        co_apply wpC_more
        co_go T (Since.rely T) hF (co_quiet T)
        co_apply opsC_call_at T rfl (by rfl) rfl (hx _ _ _ h2 hF) (by simp [Act.eval])
        rintro v w'' ⟨rfl, hF⟩
        co_go T (Since.rely T) hF (co_quiet T)
        have e2 : ((sh b k : Nat) : Int) / 2 = ((sh b (k + 1) : Nat) : Int) := by rw [sh_succ]; omega
        rw [← H.out, e2]
        exact ⟨⟨hF, k + 1, u2, u3, _, _, _, _, _, _, _, _, _, _, _, _, _, by omega, rfl⟩, by rw [sh_succ]; simp [intOf]; omega⟩
        omega
    · intro hz
      have h0 : sh b k = 0 := by
        rcases Nat.eq_zero_or_pos (sh b k) with e | e
        · exact e
        · exfalso
          have : ((sh b k : Int) != 0) = true := by simp; omega
          rw [this] at hz; cases hz
      co_apply wpC_exit T
      co_then
      co_go T (Since.rely T) hF (co_quiet T)
      exact ⟨rfl, _, resultsC_tmp (by rfl) _, by simp [mk_end a b k hk h0], hF⟩
end
end Go.Proofs.YtpiefebngnlfoaaDoor

/-
  field.Inverse IN COMPANY.
-/
namespace Go.Proofs.YtpiefebngnlfoaaDoor
open Go.RowKit Go.Conc
namespace Fld
/-- a, squared k times. -/
def sq (a : Nat) : Nat → Nat
  | 0 => a
  | k + 1 => mul (sq a k) (sq a k)
/-- the product of the first k squares of a. -/
def iv (a : Nat) : Nat → Nat
  | 0 => 1
  | k + 1 => mul (iv a k) (sq a (k + 1))
def inv (a : Nat) : Nat := iv a 7
theorem sq_lt {a : Nat} (h : a < 256) (k : Nat) : sq a k < 256 := by
  induction k with
  | zero => exact h
  | succ k ih => exact mul_lt ih _
theorem iv_lt (a k : Nat) : iv a k < 256 := by
  induction k with
  | zero => exact (by decide : 1 < 256)
  | succ k ih => exact mul_lt ih _
theorem inv_lt (a : Nat) : inv a < 256 := iv_lt a 7
end Fld
section
variable {main : Bool} {R : World → World → Prop} {D : World → World → Array Event → Prop}

set_option maxRecDepth 100000 in
set_option maxHeartbeats 1000000 in
theorem inverse_c (T : Terms R D) : ∃ k, ∀ (a : Nat) (w₀ w : World), a < 256 → Since R w₀ w →
    CallsC Tryd.prog main R D 90 #[.int .u8 (a : Int)] k w fun v w' => v = .int .u8 (Fld.inv a : Nat) ∧ Since R w₀ w' := by
  obtain ⟨kx, hx⟩ := fmul_c (main := main) T
  co_apply Exists.intro
  intro a w₀ w ha hF
  co_apply callsC_of_wpC Tryd.func90 (by rfl) rfl
  simp only [Tryd.ntmps90, List.size_toArray, List.length_cons, List.length_nil, Nat.reduceAdd, Nat.reduceSub, Array.replicate_succ, Array.replicate_zero, List.push_toArray, List.append_toArray, List.nil_append, List.cons_append]
  co_go T (Since.rely T) hF (co_quiet T)
  co_apply wpC_loop T (fun act w' => Since R w₀ w' ∧ ∃ (k : Nat) (u1 u7 u8 u9 u10 u11 u12 u13 u14 u15 : Value), k ≤ 7 ∧
      act = ⟨#[.int .u8 (a : Nat), u1, .int .u8 0, .int .u8 (Fld.sq a k : Nat), .int .u8 (Fld.iv a k : Nat), .int .u8 (a : Nat), .int .i64 (k : Nat), u7, u8, u9, u10, u11, u12, u13, u14, u15], []⟩)
    (fun act _ => 7 - (intOf (act.tmps.getD 6 undef)).toNat) _ 7 ?h0 ?hN ?round
  case h0 => exact ⟨hF, 0, undef, undef, undef, undef, undef, undef, undef, undef, undef, undef, by omega, by simp [Fld.sq, Fld.iv]⟩
  case hN => simp [intOf]
  case round =>
    rintro act w' ⟨hF, k, u1, u7, u8, u9, u10, u11, u12, u13, u14, u15, hk, rfl⟩
    have h1 := Fld.sq_lt ha k
    have h1' := Fld.sq_lt ha (k + 1)
    have h2 := Fld.iv_lt a k
    co_go T (Since.rely T) hF (co_quiet T)
    co_split T (decide ((k : Int) < 7))
    · intro hz
      have hk7 : k < 7 := by have := of_decide_eq_true hz; omega
      co_go T (Since.rely T) hF (co_quiet T)
      co_apply opsC_call_at T rfl (by rfl) rfl (hx _ _ _ _ h1 h1 hF) (by simp [Act.eval])
      rintro v w'' ⟨rfl, hF⟩
      co_go T (Since.rely T) hF (co_quiet T)
      co_apply opsC_call_at T rfl (by rfl) rfl (hx _ _ _ _ h2 h1' hF) (by simp [Act.eval, Fld.sq])
      rintro v w'' ⟨rfl, hF⟩
      co_go T (Since.rely T) hF (co_quiet T)
      have e : IntKind.i64.wrap ((k : Int) + 1) = ((k + 1 : Nat) : Int) := by
        rw [IntKind.wrap_i64]; omega
      rw [e]
      exact ⟨⟨hF, k + 1, u1, _, _, _, _, _, _, _, _, _, by omega, rfl⟩, by simp [intOf]; omega⟩
    · intro hz
      have h0 : k = 7 := by
        have := of_decide_eq_false hz
        omega
      subst h0
      co_go T (Since.rely T) hF (co_quiet T)
      exact ⟨rfl, _, resultsC_tmp (by rfl) _, by simp [Fld.inv], hF⟩
end
end Go.Proofs.YtpiefebngnlfoaaDoor

/-
  piece.distances IN COMPANY, in a view.
-/
namespace Go.Proofs.YtpiefebngnlfoaaDoor
open Go.RowKit Go.Conc Go.Vw
namespace Fld
/-- the product of k less each known place but the one at j, over the first m. -/
def dist (known : Nat → Nat) (j k : Nat) : Nat → Nat
  | 0 => 1
  | m + 1 => if m = j then dist known j k m else mul (dist known j k m) (k ^^^ known m)
theorem dist_lt (known : Nat → Nat) (j k m : Nat) : dist known j k m < 256 := by
  induction m with
  | zero => exact (by decide : 1 < 256)
  | succ m ih =>
    unfold dist
    split
    · exact ih
    · exact mul_lt ih _
end Fld
/-- ten numbers as an array. -/
def ten (known : Nat → Nat) : Array Value := (Array.range 10).map fun i => .int .i64 (known i : Nat)
theorem ten_size (known : Nat → Nat) : (ten known).size = 10 := by simp [ten]
theorem ten_get (known : Nat → Nat) (i : Nat) (h : i < 10) : (ten known)[i]? = some (.int .i64 (known i : Nat)) := by simp [ten, h]
/-- What is held: a row stands. -/
structure HR (w₀ : World) (N : Nat) (o : Obj) (w : World) : Prop where
  since : Since Ext w₀ w
  row : w.heap[N]? = some o
theorem HR.rely {w₀ w w₁ : World} {N : Nat} {o : Obj} (h : HR w₀ N o w) (r : Ext w w₁) : HR w₀ N o w₁ := ⟨h.since.rely (termsW fun _ => False) r, r.row h.row⟩
section
variable {main : Bool} {Rd : Nat → Prop}

set_option maxRecDepth 100000 in
set_option maxHeartbeats 1000000 in
theorem distances_c : ∃ n, ∀ (known : Nat → Nat) (j k : Nat) (w₀ w : World), (∀ i, i < 10 → known i < 14) → j < 10 → k < 14 → (∀ b, Rd b → b < w.heap.size) → Since Ext w₀ w →
    CallsC Tryd.prog main Ext (DW Rd) 89 #[.agg (ten known), .int .i64 (j : Nat), .int .i64 (k : Nat)] n w fun v w' => v = .int .u8 (Fld.dist known j k 10 : Nat) ∧ Since Ext w₀ w' := by
  have T := termsW Rd
  obtain ⟨kx, hx⟩ := fmul_c (main := main) T
  co_apply Exists.intro
  intro known j k w₀ w hkn hj hk hlow hF
  co_apply callsC_of_wpC Tryd.func89 (by rfl) rfl
  simp only [Tryd.ntmps89, List.size_toArray, List.length_cons, List.length_nil, Nat.reduceAdd, Nat.reduceSub, Array.replicate_succ, Array.replicate_zero, List.push_toArray, List.append_toArray, List.nil_append, List.cons_append]
  co_apply wpC_seq T
  co_reg T
  co_apply opsC_box_at (ten known) rfl (by rfl) rfl hlow rfl
  intro N w' hN hrow hE
  have hH : HR w₀ N _ w' := ⟨hF.rely T hE, hrow⟩
  clear hF hE hlow hrow
  try walk_nrm
  co_go T HR.rely hH (co_quiet T)
  co_apply opsC_loadRow rfl (by rfl) rfl rfl hH.row (by kernel_rfl) (by rw [ten_size]; kernel_rfl)
  intro w₂ hR
  have hF := (hH.rely hR).since
  clear hH hR
  try walk_nrm
  co_go T (Since.rely T) hF (co_quiet T)
  co_apply wpC_loop T (fun act w' => Since Ext w₀ w' ∧ ∃ (m : Nat) (u4 u5 u8 u9 u12 u13 u14 u15 u16 u17 u18 u19 u20 u21 u22 u23 u24 u25 u26 : Value), m ≤ 10 ∧
      act = ⟨#[.agg (ten known), .int .i64 (j : Nat), .int .i64 (k : Nat), .pointer (some ⟨N, 0, none⟩), u4, u5, .int .u8 0, .int .u8 (Fld.dist known j k m : Nat), u8, u9, .agg (ten known), .int .i64 (m : Nat), u12, u13, u14, u15, u16, u17, u18, u19, u20, u21, u22, u23, u24, u25, u26], []⟩)
    (fun act _ => 10 - (intOf (act.tmps.getD 11 undef)).toNat) _ 10 ?h0 ?hN ?round
  case h0 => exact ⟨hF, 0, undef, undef, undef, undef, undef, undef, undef, undef, undef, undef, undef, undef, undef, undef, undef, undef, undef, undef, undef, by omega, by simp [Fld.dist]⟩
  case hN => simp [intOf]
  case round =>
    rintro act w' ⟨hF, m, u4, u5, u8, u9, u12, u13, u14, u15, u16, u17, u18, u19, u20, u21, u22, u23, u24, u25, u26, hm, rfl⟩
    have h3 := Fld.dist_lt known j k m
    co_go T (Since.rely T) hF (co_quiet T)
    co_split T (decide ((m : Int) < 10))
    · intro hz
      have hm7 : m < 10 := by have := of_decide_eq_true hz; omega
      have hkm := hkn m hm7
      co_go T (Since.rely T) hF (co_quiet T)
      co_apply opsC_index T rfl (by rfl) rfl rfl rfl (show plainArray _ _ = some 10 by kernel_rfl) hm7 (ten_get known m hm7)
      intro w₃ hR
      replace hF := Since.rely T hF hR
      clear hR
      try walk_nrm
      co_go T (Since.rely T) hF (co_quiet T)
      co_split T ((m : Int) != (j : Int))
      · intro hne
        have hmj : m ≠ j := by intro e; subst e; simp at hne
        have hd : Fld.dist known j k (m + 1) = Fld.mul (Fld.dist known j k m) (k ^^^ known m) := by simp [Fld.dist, hmj]
        have hkk : k ^^^ known m < 256 := Fld.xor_lt (by omega) (by omega)
        have e1 : IntKind.u8.wrap (k : Int) = (k : Int) := by rw [u8wrap]; omega
        have e2 : IntKind.u8.wrap (known m : Int) = (known m : Int) := by rw [u8wrap]; omega
        co_go T (Since.rely T) hF (first | co_quiet T | (rw [listed_nil (by (simp [go_sem]; exact events_convert_int _ _ _ _ (by kernel_rfl) (by kernel_rfl) _))]; exact Terms.idle T _))
        co_apply opsC_call_at T rfl (by rfl) rfl (hx _ _ _ _ h3 hkk hF) (by simp [Act.eval, u8_xor_nat _ _ (show k < 256 by omega) (show known m < 256 by omega)])
        rintro v w'' ⟨rfl, hF⟩
        co_go T (Since.rely T) hF (co_quiet T)
        have e : IntKind.i64.wrap ((m : Int) + 1) = ((m + 1 : Nat) : Int) := by rw [IntKind.wrap_i64]; omega
        rw [e, ← hd]
        exact ⟨⟨hF, m + 1, u4, u5, _, _, _, _, _, _, _, _, _, _, _, _, _, _, _, _, _, by omega, rfl⟩, by simp [intOf]; omega⟩
      · intro hne
        have hmj : m = j := by
          rcases Nat.decEq m j with e | e
          · exfalso
            have : ((m : Int) != (j : Int)) = true := by simp; omega
            rw [this] at hne; cases hne
          · exact e
        have hd : Fld.dist known j k (m + 1) = Fld.dist known j k m := by simp [Fld.dist, hmj]
        clear hmj
        co_apply wpC_skip T
        co_then
        co_apply wpC_more
        co_go T (Since.rely T) hF (co_quiet T)
        have e : IntKind.i64.wrap ((m : Int) + 1) = ((m + 1 : Nat) : Int) := by rw [IntKind.wrap_i64]; omega
        rw [e, ← hd]
        exact ⟨⟨hF, m + 1, u4, u5, _, _, _, _, _, _, _, _, _, _, _, _, _, _, _, _, _, by omega, rfl⟩, by simp [intOf]; omega⟩
        omega
    · intro hz
      have h0 : m = 10 := by
        have := of_decide_eq_false hz
        omega
      subst h0
      co_go T (Since.rely T) hF (co_quiet T)
      exact ⟨rfl, _, resultsC_tmp (by rfl) _, by simp, hF⟩
end
end Go.Proofs.YtpiefebngnlfoaaDoor

/-
  piece.weights IN COMPANY, in a view. UNDER WAY.
-/
namespace Go.Vw
open Go.Conc
section
variable {P : Program} {main : Bool} {Rd : Nat → Prop} {fn : FuncId} {ops : Array Oper} {S : World → Prop}
/-- The address of an element of an array lists nothing. -/
theorem events_indexAt_plain {t : TypeId} {L m : Nat} {ad : Addr} {w : World} {es : Array Event} (hu : plainArray P t = some L) (hm : m < L) :
    (Instr.indexAt t (.pointer (some ad)) (.int .i64 (m : Nat))).events P w es = es := by
  obtain ⟨e, inf, d, hu, hq, hs, hu2, hd⟩ := plainArray_spec hu
  have hb : (0 : Int) ≤ (m : Int) ∧ (m : Int) < (L : Int) := by omega
  simp [Instr.indexAt, asIntOf, Instr.sureAddr, Sem.events_bind, run_underlying hu, hm, hb, sizeOf, typeInfo, hq]
/-- A whole array's load, in a region that draws its order. -/
theorem yields_loadRow {o : Oper} {b : Nat} {a : Act} {t t' : TypeId} {p : Operand} {c : Array Value} {fr : Nat × Nat}
    (hw : Region.wanted o (yielded ops a.tmps) = true) (hop : o.op = .load t p) (hp : a.eval p = .pointer (some ⟨b, 0, none⟩))
    (hrow : ∀ w, S w → w.heap[b]? = some (.cells c t' fr)) (hu : (P.underlying t).map isAggDesc = some true) (hi : (P.info? t).map (·.size) = some c.size) :
    YieldsIfC P (DW Rd) fn ops S o (.agg c) a := by
  refine .inl ⟨hw, fun w hS => ?_⟩
  obtain ⟨d, hu, hd⟩ := Option.map_eq_some_iff.1 hu
  have hload : (loadVar t ⟨b, 0, none⟩).run P w = .ok (.agg c) w := run_loadVar_row w b t' t c fr _ (hrow w hS) hu (by cases d <;> simp_all [isAggDesc]) hi
  constructor
  · unfold execOp
    simp only [hop, hp, Sem.run_bind, Instr.loadAt, Instr.sureAddr, Sem.run_pure, Result.andThen_ok, hload]
  · refine ⟨⟨rfl, rfl⟩, fun _ _ => rfl, fun ev hev => ?_⟩
    have hm := mem_listed hev
    unfold execOp at hm
    simp only [hop, hp, Instr.loadAt, Instr.sureAddr, pure_bind, Sem.events_bind, hload, Result.evThen_ok, Sem.events_pure] at hm
    exact load_row_events (hrow w hS) hu hd hi ev hm
/-- One cell's store, the last operation at hand, in a region that draws its order. -/
theorem anyK_store {md : Region.Mode} {Q : Exit → Act → World → Prop} {N : Nat} {fuel : Nat} {l : Array Bool} {a : Act} {w : World} {o : Oper} {g i j : Nat} {t t' : TypeId} {x y : Operand} {old : Array Value} {k : IntKind} {n : Int} (hr : Region.ready md ops l = [j]) (ho : ops[j]? = some o)
    (hw : Region.wanted o (yielded ops a.tmps) = true) (hop : o.op = .store t x y) (hx : a.eval x = .pointer (some ⟨g, i, none⟩)) (hy : a.eval y = .int k n) (hrow : w.heap[g]? = some (.cells old t')) (hi : i < old.size) (hs : (P.info? t).map (·.size) = some 1) (hg : ¬ Rd g)
    (hnext : ∀ w₁, Ext w w₁ → S (w₁.setRow g (old.setIfInBounds i (.int k n))) ∧ AnyK P main Ext (DW Rd) fn md ops Q S N fuel (l.setIfInBounds j true) (a.put o.dst undef) (w₁.setRow g (old.setIfInBounds i (.int k n)))) : AnyK P main Ext (DW Rd) fn md ops Q S N (fuel + 1) l a w := by
  refine anyK_all hr (by simp) fun i' hi' => ?_
  obtain rfl : i' = j := by simpa using hi'
  unfold OpK
  simp only [ho, hw, if_true]
  refine .inl fun w₁ hR => ?_
  obtain ⟨hrun, hev⟩ := run_storeCell (P := P) (fn := fn) (w := w₁) hop hx hy (hR.row hrow) hi hs
  have hD : DW Rd w₁ (w₁.setRow g (old.setIfInBounds i (.int k n))) (listed P fn a o w₁) := ⟨⟨rfl, rfl⟩, fun b hb => setRow_other _ _ _ _ (fun e => hg (e ▸ hb)), fun e he => by rw [hev e he]; exact ⟨_, rfl, rfl, fun _ => hg⟩⟩
  rcases hrun with hrun | hrun <;> rw [hrun]
  · exact ⟨hD, hnext _ hR⟩
  · exact ⟨hD, hnext _ hR⟩
end
end Go.Vw
namespace Go.Proofs.YtpiefebngnlfoaaDoor
open Go.RowKit Go.Conc Go.Vw
namespace Fld
def wgt (known : Nat → Nat) (k i : Nat) : Nat := mul (dist known i k 10) (inv (dist known i (known i) 10))
end Fld
def wts (known : Nat → Nat) (k m : Nat) : Array Value := (Array.range 10).map fun i => .int .u8 ((if i < m then Fld.wgt known k i else 0 : Nat) : Int)
theorem wts_size (known : Nat → Nat) (k m : Nat) : (wts known k m).size = 10 := by simp [wts]
theorem wts_zero (known : Nat → Nat) (k : Nat) : wts known k 0 = #[.int .u8 0, .int .u8 0, .int .u8 0, .int .u8 0, .int .u8 0, .int .u8 0, .int .u8 0, .int .u8 0, .int .u8 0, .int .u8 0] := by
  simp only [wts, Nat.not_lt_zero, if_false]; kernel_rfl
/-- What is held. -/
structure HW (w₀ : World) (K Z W : Nat) (ok oz ow : Obj) (w : World) : Prop where
  since : Since Ext w₀ w
  rk : w.heap[K]? = some ok
  rz : w.heap[Z]? = some oz
  rw : w.heap[W]? = some ow
theorem HW.rely {w₀ w w₁ : World} {K Z W : Nat} {ok oz ow : Obj} (h : HW w₀ K Z W ok oz ow w) (r : Ext w w₁) : HW w₀ K Z W ok oz ow w₁ := ⟨h.since.rely (termsW fun _ => False) r, r.row h.rk, r.row h.rz, r.row h.rw⟩
/-- What is held whatever the weights so far. -/
structure HS (w₀ : World) (K Z W : Nat) (ok oz : Obj) (tw : TypeId) (w : World) : Prop where
  since : Since Ext w₀ w
  rk : w.heap[K]? = some ok
  rz : w.heap[Z]? = some oz
  ex : ∃ c, w.heap[W]? = some (.cells c tw)
theorem HS.rely {w₀ w w₁ : World} {K Z W : Nat} {ok oz : Obj} {tw : TypeId} (h : HS w₀ K Z W ok oz tw w) (r : Ext w w₁) : HS w₀ K Z W ok oz tw w₁ := ⟨h.since.rely (termsW fun _ => False) r, r.row h.rk, r.row h.rz, h.ex.imp fun _ => r.row⟩
theorem HW.hs {w₀ w : World} {K Z W : Nat} {ok oz : Obj} {tw : TypeId} {c : Array Value} (h : HW w₀ K Z W ok oz (.cells c tw) w) : HS w₀ K Z W ok oz tw w := ⟨h.since, h.rk, h.rz, c, h.rw⟩
theorem since_ext {w w' : World} (h : Since Ext w w') : Ext w w' := h.elim (fun e => e ▸ Ext.refl _) id
theorem wts_set (known : Nat → Nat) (k m : Nat) (h : m < 10) : (wts known k m).setIfInBounds m (.int .u8 (Fld.wgt known k m : Nat)) = wts known k (m + 1) := by
  apply Array.ext_getElem?
  intro i
  rw [Array.getElem?_setIfInBounds]
  by_cases e : m = i
  · subst e
    simp [wts, h]
  · rw [if_neg e]
    simp only [wts, Array.getElem?_map]
    by_cases hi : i < 10
    · simp [hi, show i < m + 1 ↔ i < m by omega]
    · simp [hi]
theorem wts_all (known : Nat → Nat) (k m : Nat) : (wts known k m).all (·.oneCell') = true := by
  rw [Array.all_eq_true_iff_forall_mem]
  intro v hv
  simp only [wts, Array.mem_map] at hv
  obtain ⟨i, _, rfl⟩ := hv
  rfl
section
variable {main : Bool} {Rd : Nat → Prop}

set_option maxRecDepth 100000 in
set_option maxHeartbeats 1000000 in
theorem weights_c : ∃ n, ∀ (known : Nat → Nat) (k : Nat) (w₀ w : World), (∀ i, i < 10 → known i < 14) → k < 14 → (∀ b, Rd b → b < w.heap.size) → Since Ext w₀ w →
    CallsW Tryd.prog main Ext (DW Rd) 63 #[.agg (ten known), .int .i64 (k : Nat)] n w fun v w' => v = .agg (wts known k 10) ∧ Since Ext w₀ w' := by
  have T := termsW Rd
  obtain ⟨kx, hx⟩ := fmul_c (main := main) T
  obtain ⟨ki, hi⟩ := inverse_c (main := main) T
  obtain ⟨kd, hdist⟩ := distances_c (main := main) (Rd := Rd)
  co_apply Exists.intro
  intro known k w₀ w hkn hk hlow hF
  co_apply callsW_of_wpC Tryd.func63 (by rfl) rfl
  simp only [Tryd.ntmps63, List.size_toArray, List.length_cons, List.length_nil, Nat.reduceAdd, Nat.reduceSub, Array.replicate_succ, Array.replicate_zero, List.push_toArray, List.append_toArray, List.nil_append, List.cons_append]
  co_apply wpC_seq T
  co_reg T
  co_apply opsC_box_at (ten known) rfl (by rfl) rfl hlow rfl
  intro K w1 hK hrK hE
  obtain ⟨tk, etk, hrK⟩ : ∃ tk, tk = id _ ∧ w1.heap[K]? = some (.cells (ten known) tk) := ⟨_, rfl, hrK⟩
  have hF1 := hF.rely T hE
  have hlow1 : ∀ b, Rd b → b < w1.heap.size := fun b hb => Nat.lt_of_lt_of_le (hlow b hb) hE.size
  try walk_nrm
  co_apply opsC_allocRow (wts known k 0) rfl (by rfl) rfl hlow1 (by rw [wts_zero]; kernel_rfl)
  intro Z w2 hZ hrZ hE2
  obtain ⟨tw, etw, hrZ⟩ : ∃ tw, tw = id _ ∧ w2.heap[Z]? = some (.cells (wts known k 0) tw) := ⟨_, rfl, hrZ⟩
  have hF2 := hF1.rely T hE2
  have hlow2 : ∀ b, Rd b → b < w2.heap.size := fun b hb => Nat.lt_of_lt_of_le (hlow1 b hb) hE2.size
  have hrK2 := hE2.row hrK
  try walk_nrm
  co_go T (fun h r => h) hK (co_quiet T)
  co_apply opsC_allocRow (wts known k 0) rfl (by rfl) rfl hlow2 (by rw [wts_zero]; kernel_rfl)
  intro W w3 hW hrW hE3
  replace hrW : w3.heap[W]? = some (.cells (wts known k 0) tw) := by rw [etw]; exact hrW
  have hlow3 : ∀ b, Rd b → b < w3.heap.size := fun b hb => Nat.lt_of_lt_of_le (hlow2 b hb) hE3.size
  have hH : HW w₀ K Z W _ _ _ w3 := ⟨hF2.rely T hE3, hE3.row hrK2, hE3.row hrZ, hrW⟩
  have hW0 : w₀.heap.size ≤ W := by
    have := (since_ext hF2).size
    omega
  have hZ0 : w₀.heap.size ≤ Z := by
    have := (since_ext hF1).size
    omega
  have n1 : ¬ Rd W := fun h => by have := hlow2 W h; omega
  have n2 : ¬ Rd Z := fun h => by have := hlow1 Z h; omega
  try walk_nrm
  co_go T HW.rely hH (co_quiet T)
  co_apply wpC_loop T (fun act w' => ∃ (m : Nat) (u3 u6 u8 u9 u10 u11 u12 u13 u14 u15 u16 u17 u18 u19 u20 u21 u22 u23 u24 u25 : Value), m ≤ 10 ∧ HW w₀ K Z W (.cells (ten known) tk) (.cells (wts known k 0) tw) (.cells (wts known k m) tw) w' ∧
      act = ⟨#[.agg (ten known), .int .i64 (k : Nat), .pointer (some ⟨K, 0, none⟩), u3, .pointer (some ⟨Z, 0, none⟩), .pointer (some ⟨W, 0, none⟩), u6, .int .i64 (m : Nat), u8, u9, u10, u11, u12, u13, u14, u15, u16, u17, u18, u19, u20, u21, u22, u23, u24, u25], []⟩)
    (fun act _ => 10 - (intOf (act.tmps.getD 7 undef)).toNat) _ 10 ?h0 ?hN ?round
  case h0 => exact ⟨0, undef, undef, undef, undef, undef, undef, undef, undef, undef, undef, undef, undef, undef, undef, undef, undef, undef, undef, undef, undef, by omega, hH, by simp⟩
  case hN => simp [intOf]
  case round =>
    rintro act w' ⟨m, u3, u6, u8, u9, u10, u11, u12, u13, u14, u15, u16, u17, u18, u19, u20, u21, u22, u23, u24, u25, hm, hH, rfl⟩
    co_go T HW.rely hH (co_quiet T)
    co_split T (decide ((m : Int) < 10))
    · intro hz
      have hm7 : m < 10 := by have := of_decide_eq_true hz; omega
      have hkm := hkn m hm7
      co_go T HW.rely hH (co_quiet T)
      co_apply wpC_region_calls T (drawW Rd) (N := kx + ki + kd + 4) (S := HS w₀ K Z W (.cells (ten known) tk) (.cells (wts known k 0) tw) tw) (by omega) (by first | kernel_rfl | rfl)
      intro w₁ hR
      replace hH := HW.rely (hH.rely hR) (Ext.draw _)
      clear hR
      have hS := hH.hs
      have hlo : ∀ w, HS w₀ K Z W (.cells (ten known) tk) (.cells (wts known k 0) tw) tw w → ∀ b, Rd b → b < w.heap.size := fun w h b hb => by
        obtain ⟨c, hc⟩ := h.ex
        have := (Array.getElem?_eq_some_iff.1 hc).1
        have := hlow2 b hb
        omega
      simp only [List.size_toArray, List.length_cons, List.length_nil, Nat.reduceAdd, Nat.zero_add]
      co_applyP anyK_take T (fun _ _ h r => HS.rely h r) (fun _ _ _ h r => wpC_rely T h r) (i := 0) rfl (by first | kernel_rfl | decide +kernel) (by first | kernel_rfl | decide +kernel) (by first | kernel_rfl | decide +kernel) (.inl ⟨by rfl, fun _ hw => ⟨run_eq_of ?run1, ?guar1⟩⟩) hS ?rest1
      case run1 =>
        intro K_ hK_
        skip
        go_simp
        exact hK_
      case guar1 =>
        skip
        (co_quiet T)
      try walk_nrm
      co_applyP anyK_take T (fun _ _ h r => HS.rely h r) (fun _ _ _ h r => wpC_rely T h r) (i := 1) rfl (by first | kernel_rfl | decide +kernel) (by first | kernel_rfl | decide +kernel) (by first | kernel_rfl | decide +kernel) (yields_loadRow (by rfl) rfl rfl (fun w h => etk ▸ h.rk) (by kernel_rfl) (by rw [ten_size]; kernel_rfl)) hS
      try walk_nrm
      co_applyP anyK_take T (fun _ _ h r => HS.rely h r) (fun _ _ _ h r => wpC_rely T h r) (i := 2) rfl (by first | kernel_rfl | decide +kernel) (by first | kernel_rfl | decide +kernel) (by first | kernel_rfl | decide +kernel) (.inl ⟨by rfl, fun _ hw => ⟨run_eq_of ?run3, ?guar3⟩⟩) hS ?rest3
      case run3 =>
        intro K_ hK_
        skip
        go_simp
        exact hK_
      case guar3 =>
        skip
        (co_quiet T)
      try walk_nrm
      co_applyP anyK_take T (fun _ _ h r => HS.rely h r) (fun _ _ _ h r => wpC_rely T h r) (i := 3) rfl (by first | kernel_rfl | decide +kernel) (by first | kernel_rfl | decide +kernel) (by first | kernel_rfl | decide +kernel) (.inl ⟨by rfl, fun _ hw => ⟨run_eq_of ?run4, ?guar4⟩⟩) hS ?rest4
      case run4 =>
        intro K_ hK_
        skip
        go_simp
        exact hK_
      case guar4 =>
        skip
        (co_quiet T)
      try walk_nrm
      co_applyP anyK_take T (fun _ _ h r => HS.rely h r) (fun _ _ _ h r => wpC_rely T h r) (i := 5) rfl (by first | kernel_rfl | decide +kernel) (by first | kernel_rfl | decide +kernel) (by first | kernel_rfl | decide +kernel) (yields_loadRow (by rfl) rfl rfl (fun w h => etk ▸ h.rk) (by kernel_rfl) (by rw [ten_size]; kernel_rfl)) hS
      try walk_nrm
      co_applyP anyK_take T (fun _ _ h r => HS.rely h r) (fun _ _ _ h r => wpC_rely T h r) (i := 6) rfl (by first | kernel_rfl | decide +kernel) (by first | kernel_rfl | decide +kernel) (by first | kernel_rfl | decide +kernel) (.inl ⟨by rfl, fun _ hw => ⟨run_eq_of ?run6, ?guar6⟩⟩) hS ?rest6
      case run6 =>
        intro K_ hK_
        skip
        go_simp
        exact hK_
      case guar6 =>
        skip
        (co_quiet T)
      try walk_nrm
      co_applyP anyK_take T (fun _ _ h r => HS.rely h r) (fun _ _ _ h r => wpC_rely T h r) (i := 7) rfl (by first | kernel_rfl | decide +kernel) (by first | kernel_rfl | decide +kernel) (by first | kernel_rfl | decide +kernel) (.inl ⟨by rfl, fun _ hw => ⟨run_eq_of ?run7, ?guar7⟩⟩) hS ?rest7
      case run7 =>
        intro K_ hK_
        skip
        go_simp
        exact hK_
      case guar7 =>
        skip
        (co_quiet T)
      try walk_nrm
      have hm8 : (m : Int) < 10 := by omega
      co_applyP anyK_take T (fun _ _ h r => HS.rely h r) (fun _ _ _ h r => wpC_rely T h r) (i := 8) rfl (by first | kernel_rfl | decide +kernel) (by first | kernel_rfl | decide +kernel) (by first | kernel_rfl | decide +kernel) (.inl ⟨by rfl, fun _ hw => ⟨run_eq_of ?run8, ?guar8⟩⟩) hS ?rest8
      case run8 =>
        intro K_ hK_
        skip
        go_simp
        exact hK_
      case guar8 =>
        skip
        (rw [listed_nil (by (simp [go_sem]; exact events_indexAt_plain (show plainArray _ _ = some 10 by kernel_rfl) hm7))]; exact Terms.idle T _)
      try walk_nrm
      co_applyP anyK_take (v := .int .i64 (known m : Nat)) T (fun _ _ h r => HS.rely h r) (fun _ _ _ h r => wpC_rely T h r) (i := 9) rfl (by first | kernel_rfl | decide +kernel) (by first | kernel_rfl | decide +kernel) (by first | kernel_rfl | decide +kernel) (.inl ⟨by rfl, fun _ hw => ⟨run_eq_of ?run9, ?guar9⟩⟩) hS ?rest9
      case run9 =>
        intro K_ hK_
        (have hc := (cell_of_row _ K m _ _ _ (HS.rk hw)).trans (ten_get known m hm7))
        go_simp
        exact hK_
      case guar9 =>
        have hc := (cell_of_row _ K m _ _ _ (HS.rk hw)).trans (ten_get known m hm7)
        (refine ⟨⟨rfl, rfl⟩, fun _ _ => rfl, ?_⟩; co_evs (exact ⟨_, rfl, rfl, by simp⟩))
      try walk_nrm
      have hd1 := Fld.dist_lt known m k 10
      have hd2 := Fld.dist_lt known m (known m) 10
      have hd3 := Fld.inv_lt (Fld.dist known m (known m) 10)
      co_applyP anyK_takeCall T (fun _ _ h r => HS.rely h r) (fun _ _ _ h r => wpC_rely T h r) (i := 4) rfl (by first | kernel_rfl | decide +kernel) (by first | kernel_rfl | decide +kernel) (by first | kernel_rfl | decide +kernel) (by rfl) rfl (by simp [Act.eval]) (by omega) (fun w h => (CallsW.of_callsC T (hdist known m k w w hkn hm7 hk (hlo w h) (.refl w))).mono fun v w' q => ⟨q.1, h.rely (since_ext q.2), since_ext q.2⟩) hS
      try walk_nrm
      co_applyP anyK_takeCall T (fun _ _ h r => HS.rely h r) (fun _ _ _ h r => wpC_rely T h r) (i := 10) rfl (by first | kernel_rfl | decide +kernel) (by first | kernel_rfl | decide +kernel) (by first | kernel_rfl | decide +kernel) (by rfl) rfl (by simp [Act.eval]) (by omega) (fun w h => (CallsW.of_callsC T (hdist known m (known m) w w hkn hm7 hkm (hlo w h) (.refl w))).mono fun v w' q => ⟨q.1, h.rely (since_ext q.2), since_ext q.2⟩) hS
      try walk_nrm
      co_applyP anyK_takeCall T (fun _ _ h r => HS.rely h r) (fun _ _ _ h r => wpC_rely T h r) (i := 11) rfl (by first | kernel_rfl | decide +kernel) (by first | kernel_rfl | decide +kernel) (by first | kernel_rfl | decide +kernel) (by rfl) rfl (by simp [Act.eval]) (by omega) (fun w h => (CallsW.of_callsC T (hi _ w w hd2 (.refl w))).mono fun v w' q => ⟨q.1, h.rely (since_ext q.2), since_ext q.2⟩) hS
      try walk_nrm
      co_applyP anyK_takeCall T (fun _ _ h r => HS.rely h r) (fun _ _ _ h r => wpC_rely T h r) (i := 12) rfl (by first | kernel_rfl | decide +kernel) (by first | kernel_rfl | decide +kernel) (by first | kernel_rfl | decide +kernel) (by rfl) rfl (by simp [Act.eval]) (by omega) (fun w h => (CallsW.of_callsC T (hx _ _ w w hd1 hd3 (.refl w))).mono fun v w' q => ⟨q.1, h.rely (since_ext q.2), since_ext q.2⟩) hS
      try walk_nrm
      co_applyP anyK_take T (fun _ _ h r => HS.rely h r) (fun _ _ _ h r => wpC_rely T h r) (i := 13) rfl (by first | kernel_rfl | decide +kernel) (by first | kernel_rfl | decide +kernel) (by first | kernel_rfl | decide +kernel) (.inl ⟨by rfl, fun _ hw => ⟨run_eq_of ?run14, ?guar14⟩⟩) hS ?rest14
      case run14 =>
        intro K_ hK_
        skip
        go_simp
        exact hK_
      case guar14 =>
        skip
        (rw [listed_nil (by (simp [go_sem]; exact events_indexAt_plain (show plainArray _ _ = some 10 by kernel_rfl) hm7))]; exact Terms.idle T _)
      try walk_nrm
      co_applyP anyK_store (j := 14) (by first | kernel_rfl | decide +kernel) rfl (by rfl) rfl rfl rfl hH.rw (by rw [wts_size]; exact hm7) (by kernel_rfl) n1
      intro w₂ hR
      have hst := wts_set known k m hm7
      unfold Fld.wgt at hst
      rw [hst]
      clear hst
      have h2 := hH.rely hR
      have nK : K ≠ W := by have := (Array.getElem?_eq_some_iff.1 hrK2).1; omega
      have nZ : Z ≠ W := by have := (Array.getElem?_eq_some_iff.1 hrZ).1; omega
      have hH' : HW w₀ K Z W (.cells (ten known) tk) (.cells (wts known k 0) tw) (.cells (wts known k (m + 1)) tw) (w₂.setRow W (wts known k (m + 1))) :=
        ⟨.inr ((since_ext h2.since).setRow hW0 _), (setRow_other _ _ _ _ nK).trans h2.rk, (setRow_other _ _ _ _ nZ).trans h2.rz, setRow_heap _ _ _ _ _ _ h2.rw⟩
      clear hH hS h2 hR
      generalize w₂.setRow W (wts known k (m + 1)) = w₃ at hH'
      co_apply And.intro hH'.hs
      co_apply anyK_done (by first | kernel_rfl | decide +kernel)
      try walk_nrm
      co_then
      co_go T HW.rely hH' (co_quiet T)
      have e : IntKind.i64.wrap ((m : Int) + 1) = ((m + 1 : Nat) : Int) := by rw [IntKind.wrap_i64]; omega
      rw [e]
      exact ⟨⟨m + 1, u3, _, _, _, _, _, _, _, _, _, _, _, _, _, _, _, _, _, _, _, by omega, hH', rfl⟩, by simp [intOf]; omega⟩
    · intro hz
      have h0 : m = 10 := by
        have := of_decide_eq_false hz
        omega
      subst h0
      co_go T HW.rely hH (co_quiet T)
      co_apply opsC_loadRow rfl (by rfl) rfl rfl (etw ▸ hH.rw) (by kernel_rfl) (by rw [wts_size]; kernel_rfl)
      intro w₂ hR
      replace hH := hH.rely hR
      clear hR
      try walk_nrm
      co_apply opsC_storeRow rfl (by rfl) rfl rfl rfl hH.rz (by rw [wts_size]; kernel_rfl) (by rw [wts_size, wts_size]) (wts_all known k 10) n2
      intro w₃ hR
      have h2 := hH.rely hR
      have nK : K ≠ Z := by have := (Array.getElem?_eq_some_iff.1 hrK).1; omega
      have nW : W ≠ Z := by have := (Array.getElem?_eq_some_iff.1 hrZ).1; omega
      have hH' : HW w₀ K Z W (.cells (ten known) tk) (.cells (wts known k 10) tw) (.cells (wts known k 10) tw) (w₃.setRow Z (wts known k 10)) :=
        ⟨.inr ((since_ext h2.since).setRow hZ0 _), (setRow_other _ _ _ _ nK).trans h2.rk, setRow_heap _ _ _ _ _ _ h2.rz, (setRow_other _ _ _ _ nW).trans h2.rw⟩
      clear hH h2 hR
      generalize w₃.setRow Z (wts known k 10) = w₄ at hH'
      try walk_nrm
      co_go T HW.rely hH' (co_quiet T)
      exact ⟨rfl, backW_cell (by rfl) (by rfl) (etw ▸ hH'.rz) (by kernel_rfl) (by rw [wts_size]; kernel_rfl) (fun w₅ hR => ⟨rfl, (hH'.rely hR).since⟩)⟩
end
end Go.Proofs.YtpiefebngnlfoaaDoor

/-
  piece.reckon IN COMPANY, in a view.
-/
namespace Go.Vw
open Go.Conc
section
variable {P : Program} {main : Bool} {Rd : Nat → Prop} {fn : FuncId} {ops : Array Oper} {S : World → Prop}
/-- A slice type whose elements are of one cell. -/
def plainSlice (P : Program) (t : TypeId) : Bool :=
  match P.underlying t with
  | some (.slice e) =>
    match P.info? e with
    | some i => i.size == 1
    | _ => false
  | _ => false
theorem plainSlice_spec {t : TypeId} (h : plainSlice P t = true) : ∃ e inf, P.underlying t = some (.slice e) ∧ P.info? e = some inf ∧ inf.size = 1 := by
  unfold plainSlice at h
  split at h
  · split at h
    · exact ⟨_, _, by assumption, by assumption, by simpa using h⟩
    · cases h
  · cases h
/-- The address of an element of a slice lists nothing. -/
theorem evs_indexAt_slice {t : TypeId} {L c m : Nat} {ad : Addr} {w : World} {es : Array Event} (hu : plainSlice P t = true) (hm : m < L) :
    (Instr.indexAt t (.slice (some ad) L c) (.int .i64 (m : Nat))).events P w es = es := by
  obtain ⟨e, inf, hu, hq, hs⟩ := plainSlice_spec hu
  have hb : (0 : Int) ≤ (m : Int) ∧ (m : Int) < (L : Int) := by omega
  simp [Instr.indexAt, asIntOf, Sem.events_bind, run_underlying hu, hm, hb, sizeOf, typeInfo, hq]
/-- The one operation at hand yields its value. -/
theorem anyK_one {md : Region.Mode} {Q : Exit → Act → World → Prop} {N : Nat} {fuel : Nat} {l : Array Bool} {a : Act} {w : World} {o : Oper} {j : Nat} {v : Value} (T : Terms Ext (DW Rd)) (hSR : ∀ x y, S x → Ext x y → S y) (hQR : ∀ a x y, Q .normal a x → Ext x y → Q .normal a y)
    (hr : Region.ready md ops l = [j]) (ho : ops[j]? = some o) (hw : Region.wanted o (yielded ops a.tmps) = true) (hy : ∀ w₁, Ext w w₁ → (execOp a.eval o).run P w₁ = .ok (.value v) w₁ ∧ DW Rd w₁ w₁ (listed P fn a o w₁)) (hS : S w)
    (hnext : AnyK P main Ext (DW Rd) fn md ops Q S N fuel (l.setIfInBounds j true) (a.put o.dst v) w) : AnyK P main Ext (DW Rd) fn md ops Q S N (fuel + 1) l a w := by
  refine anyK_all hr (by simp) fun i' hi' => ?_
  obtain rfl : i' = j := by simpa using hi'
  unfold OpK
  simp only [ho, hw, if_true]
  refine .inl fun w₁ hR => ?_
  obtain ⟨h1, h2⟩ := hy w₁ hR
  rw [h1]
  exact ⟨h2, hSR _ _ hS hR, AnyK.rely T hSR hQR _ _ _ _ _ hnext hR⟩
end
end Go.Vw
namespace Go.Proofs.YtpiefebngnlfoaaDoor
open Go.RowKit Go.Conc Go.Vw
namespace Fld
/-- the weighted sum of the first m rows, at place i. -/
def comb (wt : Nat → Nat) (x : Nat → Nat → Nat) : Nat → Nat → Nat
  | 0, _ => 0
  | m + 1, i => comb wt x m i ^^^ mul (wt m) (x m i)
theorem comb_lt {wt : Nat → Nat} (x : Nat → Nat → Nat) (h : ∀ i, wt i < 256) (m i : Nat) : comb wt x m i < 256 := by
  induction m with
  | zero => exact (by decide : 0 < 256)
  | succ m ih => exact xor_lt ih (mul_lt (h m) _)
end Fld
def bytesA (n : Nat) (f : Nat → Nat) : Array Value := (Array.range n).map fun i => .int .u8 ((f i : Nat) : Int)
theorem bytesA_size (n : Nat) (f : Nat → Nat) : (bytesA n f).size = n := by simp [bytesA]
theorem bytesA_get (n : Nat) (f : Nat → Nat) (i : Nat) (h : i < n) : (bytesA n f)[i]? = some (.int .u8 (f i : Nat)) := by simp [bytesA, h]
theorem bytesA_set (n : Nat) (f : Nat → Nat) (i : Nat) (y : Nat) : (bytesA n f).setIfInBounds i (.int .u8 (y : Nat)) = bytesA n fun c => if c = i then y else f c := by
  apply Array.ext_getElem?
  intro c
  rw [Array.getElem?_setIfInBounds]
  by_cases e : i = c
  · subst e
    by_cases hi : i < n <;> simp [bytesA, hi]
  · rw [if_neg e]
    by_cases hi : c < n <;> simp [bytesA, hi, show ¬ c = i from fun x => e x.symm]
theorem bytesA_congr {n : Nat} {f g : Nat → Nat} (h : ∀ i, i < n → f i = g i) : bytesA n f = bytesA n g := by
  apply Array.ext_getElem?
  intro c
  by_cases hi : c < n
  · rw [bytesA_get n f c hi, bytesA_get n g c hi, h c hi]
  · rw [Array.getElem?_eq_none (by rw [bytesA_size]; omega), Array.getElem?_eq_none (by rw [bytesA_size]; omega)]
def slices (RB : Nat → Nat) (n : Nat) : Array Value := (Array.range 10).map fun j => .slice (some ⟨RB j, 0, none⟩) n n
theorem slices_size (RB : Nat → Nat) (n : Nat) : (slices RB n).size = 10 := by simp [slices]
theorem slices_get (RB : Nat → Nat) (n i : Nat) (h : i < 10) : (slices RB n)[i]? = some (.slice (some ⟨RB i, 0, none⟩) n n) := by simp [slices, h]
def wrow (wt : Nat → Nat) : Array Value := bytesA 10 wt
/-- The place, m rows and i cells of the next being done. -/
def sofar (wt : Nat → Nat) (x : Nat → Nat → Nat) (m i c : Nat) : Nat := if c < i then Fld.comb wt x (m + 1) c else Fld.comb wt x m c
/-- What is held. -/
structure HK (w₀ : World) (RB : Nat → Nat) (x : Nat → Nat → Nat) (n : Nat) (wt : Nat → Nat) (PB B5 : Nat) (tb tw : TypeId) (w : World) : Prop where
  rows : ∀ j, j < 10 → w.heap[RB j]? = some (.cells (bytesA n (x j)) tb)
  box : w.heap[B5]? = some (.cells (wrow wt) tw)
  place : ∃ c, w.heap[PB]? = some (.cells c tb)
  keep : ∀ b, b ≠ PB → ∀ o, w₀.heap[b]? = some o → w.heap[b]? = some o
theorem HK.rely {w₀ : World} {RB : Nat → Nat} {x : Nat → Nat → Nat} {n : Nat} {wt : Nat → Nat} {PB B5 : Nat} {tb tw : TypeId} {w w₁ : World} (h : HK w₀ RB x n wt PB B5 tb tw w) (r : Ext w w₁) : HK w₀ RB x n wt PB B5 tb tw w₁ := ⟨fun j hj => r.row (h.rows j hj), r.row h.box, h.place.imp fun _ => r.row, fun b hb o ho => r.row (h.keep b hb o ho)⟩
/-- .. and what stands in the place. -/
structure HP (w₀ : World) (RB : Nat → Nat) (x : Nat → Nat → Nat) (n : Nat) (wt : Nat → Nat) (PB B5 : Nat) (tb tw : TypeId) (m i : Nat) (w : World) : Prop where
  hk : HK w₀ RB x n wt PB B5 tb tw w
  place : w.heap[PB]? = some (.cells (bytesA n (sofar wt x m i)) tb)
theorem HP.rely {w₀ : World} {RB : Nat → Nat} {x : Nat → Nat → Nat} {n : Nat} {wt : Nat → Nat} {PB B5 : Nat} {tb tw : TypeId} {m i : Nat} {w w₁ : World} (h : HP w₀ RB x n wt PB B5 tb tw m i w) (r : Ext w w₁) : HP w₀ RB x n wt PB B5 tb tw m i w₁ := ⟨h.hk.rely r, r.row h.place⟩
theorem sofar_next (wt : Nat → Nat) (x : Nat → Nat → Nat) (m n : Nat) : bytesA n (sofar wt x m n) = bytesA n (sofar wt x (m + 1) 0) :=
  bytesA_congr fun i hi => by simp [sofar, hi]
theorem sofar_step (wt : Nat → Nat) (x : Nat → Nat → Nat) (m i n : Nat) : (bytesA n (sofar wt x m i)).setIfInBounds i (.int .u8 ((Fld.comb wt x m i ^^^ Fld.mul (wt m) (x m i) : Nat) : Int)) = bytesA n (sofar wt x m (i + 1)) := by
  rw [bytesA_set]
  refine bytesA_congr fun c hc => ?_
  by_cases e : c = i
  · subst e; simp [sofar, Fld.comb]
  · simp only [if_neg e, sofar, show c < i + 1 ↔ c < i by omega]
section
variable {main : Bool} {Rd : Nat → Prop}

set_option maxRecDepth 100000 in
set_option maxHeartbeats 2000000 in
theorem reckon_c : ∃ k, ∀ (tb : TypeId) (RB : Nat → Nat) (x : Nat → Nat → Nat) (n : Nat) (wt : Nat → Nat) (PB : Nat) (w : World), n ≤ 400 → (∀ i, wt i < 256) → (∀ j i, x j i < 256) → (∀ b, Rd b → b < w.heap.size) → ¬ Rd PB → (∀ j, j < 10 → Rd (RB j)) →
    (∀ j, j < 10 → w.heap[RB j]? = some (.cells (bytesA n (x j)) tb)) → w.heap[PB]? = some (.cells (bytesA n fun _ => 0) tb) →
    CallsW Tryd.prog main Ext (DW Rd) 62 #[.slice (some ⟨PB, 0, none⟩) n n, .agg (slices RB n), .agg (wrow wt)] k w fun v w' => w'.heap[PB]? = some (.cells (bytesA n (Fld.comb wt x 10)) tb) ∧ ∀ b, b ≠ PB → ∀ o, w.heap[b]? = some o → w'.heap[b]? = some o := by
  have T := termsW Rd
  obtain ⟨kx, hx⟩ := fmul_c (main := main) T
  co_apply Exists.intro
  intro tb RB x n wt PB w hn hwt hxs hlow hPB hRB hrows hplace
  co_apply callsW_of_wpC Tryd.func62 (by rfl) rfl
  simp only [Tryd.ntmps62, List.size_toArray, List.length_cons, List.length_nil, Nat.reduceAdd, Nat.reduceSub, Array.replicate_succ, Array.replicate_zero, List.push_toArray, List.append_toArray, List.nil_append, List.cons_append]
  co_apply wpC_seq T
  co_reg T
  co_apply opsC_box_at (slices RB n) rfl (by rfl) rfl hlow rfl
  intro B4 w1 hB4 hr4 hE
  obtain ⟨t4, et4, hr4⟩ : ∃ t4, t4 = id _ ∧ w1.heap[B4]? = some (.cells (slices RB n) t4) := ⟨_, rfl, hr4⟩
  have hlow1 : ∀ b, Rd b → b < w1.heap.size := fun b hb => Nat.lt_of_lt_of_le (hlow b hb) hE.size
  try walk_nrm
  co_apply opsC_box_at (wrow wt) rfl (by rfl) rfl hlow1 rfl
  intro B5 w2 hB5 hr5 hE2
  obtain ⟨tw, etw, hr5⟩ : ∃ tw, tw = id _ ∧ w2.heap[B5]? = some (.cells (wrow wt) tw) := ⟨_, rfl, hr5⟩
  have hPlt : PB < w.heap.size := (Array.getElem?_eq_some_iff.1 hplace).1
  have n5 : B5 ≠ PB := by have := hE.size; omega
  have nR : ∀ j, j < 10 → RB j ≠ PB := fun j hj e => hPB (e ▸ hRB j hj)
  have hH : HP w RB x n wt PB B5 tb tw 0 0 w2 := by
    exact ⟨⟨fun j hj => hE2.row (hE.row (hrows j hj)), hr5, ⟨_, hE2.row (hE.row hplace)⟩, fun b _ o ho => hE2.row (hE.row ho)⟩, (hE2.row (hE.row hplace)).trans (by rw [bytesA_congr (g := sofar wt x 0 0) fun i _ => by simp [sofar, Fld.comb]])⟩
  have h4 : w2.heap[B4]? = some (.cells (slices RB n) t4) := hE2.row hr4
  try walk_nrm
  co_go T (fun h r => h) hn (co_quiet T)
  co_apply opsC_loadRow rfl (by rfl) rfl rfl (et4 ▸ h4) (by kernel_rfl) (by rw [slices_size]; kernel_rfl)
  intro w3 hR
  replace hH := hH.rely hR
  clear hR
  try walk_nrm
  co_go T HP.rely hH (co_quiet T)
  co_apply wpC_loop T (fun act w' => ∃ (m : Nat) (u3 u6 u7 u8 u11 u12 u13 u14 u15 u16 u17 u18 u19 u20 u21 u22 u23 u24 u25 u26 u27 u28 u29 u30 u31 u32 u33 u34 : Value), m ≤ 10 ∧ HP w RB x n wt PB B5 tb tw m 0 w' ∧
      act = ⟨#[.slice (some ⟨PB, 0, none⟩) n n, .agg (slices RB n), .agg (wrow wt), u3, .pointer (some ⟨B4, 0, none⟩), .pointer (some ⟨B5, 0, none⟩), u6, u7, u8, .agg (slices RB n), .int .i64 (m : Nat), u11, u12, u13, u14, u15, u16, u17, u18, u19, u20, u21, u22, u23, u24, u25, u26, u27, u28, u29, u30, u31, u32, u33, u34], []⟩)
    (fun act _ => 10 - (intOf (act.tmps.getD 10 undef)).toNat) _ 10 ?h0 ?hN ?round
  case h0 => exact ⟨0, undef, undef, undef, undef, undef, undef, undef, undef, undef, undef, undef, undef, undef, undef, undef, undef, undef, undef, undef, undef, undef, undef, undef, undef, undef, undef, undef, undef, by omega, hH, by simp⟩
  case hN => simp [intOf]
  case round =>
    rintro act w' ⟨m, u3, u6, u7, u8, u11, u12, u13, u14, u15, u16, u17, u18, u19, u20, u21, u22, u23, u24, u25, u26, u27, u28, u29, u30, u31, u32, u33, u34, hm, hH, rfl⟩
    co_go T HP.rely hH (co_quiet T)
    co_split T (decide ((m : Int) < 10))
    · intro hz
      have hm7 : m < 10 := by have := of_decide_eq_true hz; omega
      co_go T HP.rely hH (co_quiet T)
      co_apply opsC_index T rfl (by rfl) rfl rfl rfl (show plainArray _ _ = some 10 by kernel_rfl) hm7 (slices_get RB n m hm7)
      intro w₃ hR
      replace hH := hH.rely hR
      clear hR
      try walk_nrm
      co_go T HP.rely hH (co_quiet T)
      co_apply wpC_loop T (fun act w' => ∃ (i : Nat) (u3 u8 u11 u12 u13 u14 u17 u18 u19 u20 u21 u22 u23 u24 u25 u26 u27 u28 u29 u30 u31 u32 u33 u34 : Value), i ≤ n ∧ HP w RB x n wt PB B5 tb tw m i w' ∧
          act = ⟨#[.slice (some ⟨PB, 0, none⟩) n n, .agg (slices RB n), .agg (wrow wt), u3, .pointer (some ⟨B4, 0, none⟩), .pointer (some ⟨B5, 0, none⟩), .int .i64 (m : Nat), .slice (some ⟨RB m, 0, none⟩) n n, u8, .agg (slices RB n), .int .i64 (m : Nat), u11, u12, u13, u14, .int .i64 (n : Nat), .int .i64 (i : Nat), u17, u18, u19, u20, u21, u22, u23, u24, u25, u26, u27, u28, u29, u30, u31, u32, u33, u34], []⟩)
        (fun act _ => n - (intOf (act.tmps.getD 16 undef)).toNat) _ 400 ?h0 ?hN ?round
      case h0 => exact ⟨0, u3, _, _, _, _, _, _, _, _, _, _, _, _, _, _, _, _, _, _, _, _, _, _, _, by omega, hH, rfl⟩
      case hN => simp [intOf]; omega
      case round =>
        rintro act w' ⟨i, u3, u8, u11, u12, u13, u14, u17, u18, u19, u20, u21, u22, u23, u24, u25, u26, u27, u28, u29, u30, u31, u32, u33, u34, hi, hH, rfl⟩
        co_go T HP.rely hH (co_quiet T)
        co_split T (decide ((i : Int) < (n : Int)))
        · intro hz
          have hin : i < n := by have := of_decide_eq_true hz; omega
          have hiI : (i : Int) < (n : Int) := by omega
          have hmI : (m : Int) < 10 := by omega
          co_go T HP.rely hH (co_quiet T)
          co_apply wpC_region_calls T (drawW Rd) (N := kx + 4) (S := HK w RB x n wt PB B5 tb tw) (by omega) (by first | kernel_rfl | rfl)
          intro w₁ hR
          replace hH := HP.rely (hH.rely hR) (Ext.draw _)
          clear hR
          have hS := hH.hk
          simp only [List.size_toArray, List.length_cons, List.length_nil, Nat.reduceAdd, Nat.zero_add]
          co_applyP anyK_take T (fun _ _ h r => HK.rely h r) (fun _ _ _ h r => wpC_rely T h r) (i := 0) rfl (by first | kernel_rfl | decide +kernel) (by first | kernel_rfl | decide +kernel) (by first | kernel_rfl | decide +kernel) (.inl ⟨by rfl, fun _ hw => ⟨run_eq_of ?run1, ?guar1⟩⟩) hS ?rest1
          case run1 =>
            intro K_ hK_
            skip
            go_simp
            exact hK_
          case guar1 =>
            skip
            (co_quiet T)
          try walk_nrm
          co_applyP anyK_take T (fun _ _ h r => HK.rely h r) (fun _ _ _ h r => wpC_rely T h r) (i := 1) rfl (by first | kernel_rfl | decide +kernel) (by first | kernel_rfl | decide +kernel) (by first | kernel_rfl | decide +kernel) (.inl ⟨by rfl, fun _ hw => ⟨run_eq_of ?run2, ?guar2⟩⟩) hS ?rest2
          case run2 =>
            intro K_ hK_
            skip
            go_simp
            exact hK_
          case guar2 =>
            skip
            (co_quiet T)
          try walk_nrm
          co_applyP anyK_take T (fun _ _ h r => HK.rely h r) (fun _ _ _ h r => wpC_rely T h r) (i := 2) rfl (by first | kernel_rfl | decide +kernel) (by first | kernel_rfl | decide +kernel) (by first | kernel_rfl | decide +kernel) (.inl ⟨by rfl, fun _ hw => ⟨run_eq_of ?run3, ?guar3⟩⟩) hS ?rest3
          case run3 =>
            intro K_ hK_
            skip
            go_simp
            exact hK_
          case guar3 =>
            skip
            (rw [listed_nil (by (simp [go_sem]; exact evs_indexAt_slice (show plainSlice _ _ = true by kernel_rfl) hin))]; exact Terms.idle T _)
          try walk_nrm
          co_applyP anyK_take T (fun _ _ h r => HK.rely h r) (fun _ _ _ h r => wpC_rely T h r) (i := 4) rfl (by first | kernel_rfl | decide +kernel) (by first | kernel_rfl | decide +kernel) (by first | kernel_rfl | decide +kernel) (.inl ⟨by rfl, fun _ hw => ⟨run_eq_of ?run4, ?guar4⟩⟩) hS ?rest4
          case run4 =>
            intro K_ hK_
            skip
            go_simp
            exact hK_
          case guar4 =>
            skip
            (co_quiet T)
          try walk_nrm
          co_applyP anyK_take T (fun _ _ h r => HK.rely h r) (fun _ _ _ h r => wpC_rely T h r) (i := 5) rfl (by first | kernel_rfl | decide +kernel) (by first | kernel_rfl | decide +kernel) (by first | kernel_rfl | decide +kernel) (.inl ⟨by rfl, fun _ hw => ⟨run_eq_of ?run5, ?guar5⟩⟩) hS ?rest5
          case run5 =>
            intro K_ hK_
            skip
            go_simp
            exact hK_
          case guar5 =>
            skip
            (rw [listed_nil (by (simp [go_sem]; exact events_indexAt_plain (show plainArray _ _ = some 10 by kernel_rfl) hm7))]; exact Terms.idle T _)
          try walk_nrm
          co_applyP anyK_take (v := .int .u8 (wt m : Nat)) T (fun _ _ h r => HK.rely h r) (fun _ _ _ h r => wpC_rely T h r) (i := 6) rfl (by first | kernel_rfl | decide +kernel) (by first | kernel_rfl | decide +kernel) (by first | kernel_rfl | decide +kernel) (.inl ⟨by rfl, fun _ hw => ⟨run_eq_of ?run6, ?guar6⟩⟩) hS ?rest6
          case run6 =>
            intro K_ hK_
            (have hc := (cell_of_row _ B5 m _ _ _ (HK.box hw)).trans (bytesA_get 10 wt m hm7))
            go_simp
            exact hK_
          case guar6 =>
            have hc := (cell_of_row _ B5 m _ _ _ (HK.box hw)).trans (bytesA_get 10 wt m hm7)
            (refine ⟨⟨rfl, rfl⟩, fun _ _ => rfl, ?_⟩; co_evs (exact ⟨_, rfl, rfl, by simp⟩))
          try walk_nrm
          co_applyP anyK_take T (fun _ _ h r => HK.rely h r) (fun _ _ _ h r => wpC_rely T h r) (i := 7) rfl (by first | kernel_rfl | decide +kernel) (by first | kernel_rfl | decide +kernel) (by first | kernel_rfl | decide +kernel) (.inl ⟨by rfl, fun _ hw => ⟨run_eq_of ?run7, ?guar7⟩⟩) hS ?rest7
          case run7 =>
            intro K_ hK_
            skip
            go_simp
            exact hK_
          case guar7 =>
            skip
            (co_quiet T)
          try walk_nrm
          co_applyP anyK_take T (fun _ _ h r => HK.rely h r) (fun _ _ _ h r => wpC_rely T h r) (i := 8) rfl (by first | kernel_rfl | decide +kernel) (by first | kernel_rfl | decide +kernel) (by first | kernel_rfl | decide +kernel) (.inl ⟨by rfl, fun _ hw => ⟨run_eq_of ?run8, ?guar8⟩⟩) hS ?rest8
          case run8 =>
            intro K_ hK_
            skip
            go_simp
            exact hK_
          case guar8 =>
            skip
            (co_quiet T)
          try walk_nrm
          co_applyP anyK_take T (fun _ _ h r => HK.rely h r) (fun _ _ _ h r => wpC_rely T h r) (i := 9) rfl (by first | kernel_rfl | decide +kernel) (by first | kernel_rfl | decide +kernel) (by first | kernel_rfl | decide +kernel) (.inl ⟨by rfl, fun _ hw => ⟨run_eq_of ?run9, ?guar9⟩⟩) hS ?rest9
          case run9 =>
            intro K_ hK_
            skip
            go_simp
            exact hK_
          case guar9 =>
            skip
            (rw [listed_nil (by (simp [go_sem]; exact evs_indexAt_slice (show plainSlice _ _ = true by kernel_rfl) hin))]; exact Terms.idle T _)
          try walk_nrm
          co_applyP anyK_take (v := .int .u8 (x m i : Nat)) T (fun _ _ h r => HK.rely h r) (fun _ _ _ h r => wpC_rely T h r) (i := 10) rfl (by first | kernel_rfl | decide +kernel) (by first | kernel_rfl | decide +kernel) (by first | kernel_rfl | decide +kernel) (.inl ⟨by rfl, fun _ hw => ⟨run_eq_of ?run10, ?guar10⟩⟩) hS ?rest10
          case run10 =>
            intro K_ hK_
            (have hc := (cell_of_row _ (RB m) i _ _ _ (HK.rows hw m hm7)).trans (bytesA_get n (x m) i hin))
            go_simp
            exact hK_
          case guar10 =>
            have hc := (cell_of_row _ (RB m) i _ _ _ (HK.rows hw m hm7)).trans (bytesA_get n (x m) i hin)
            (refine ⟨⟨rfl, rfl⟩, fun _ _ => rfl, ?_⟩; co_evs (exact ⟨_, rfl, rfl, by simp⟩))
          try walk_nrm
          have hw1 := hwt m
          have hx1 := hxs m i
          co_applyP anyK_takeCall T (fun _ _ h r => HK.rely h r) (fun _ _ _ h r => wpC_rely T h r) (i := 11) rfl (by first | kernel_rfl | decide +kernel) (by first | kernel_rfl | decide +kernel) (by first | kernel_rfl | decide +kernel) (by rfl) rfl (by simp [Act.eval]) (by omega) (fun w h => (CallsW.of_callsC T (hx _ _ w w hw1 hx1 (.refl w))).mono fun v w' q => ⟨q.1, h.rely (since_ext q.2), since_ext q.2⟩) hS
          try walk_nrm
          co_applyP anyK_one (j := 3) (v := .int .u8 (Fld.comb wt x m i : Nat)) T (fun _ _ h r => HK.rely h r) (fun _ _ _ h r => wpC_rely T h r) (by first | kernel_rfl | decide +kernel) rfl (by rfl) (fun w hR => ⟨run_eq_of ?runL, ?guarL⟩) hS ?restL
          case runL =>
            intro K_ hK_
            have hc := (cell_of_row _ PB i _ _ _ (hH.rely hR).place).trans (bytesA_get n _ i hin)
            simp only [sofar, Nat.lt_irrefl, if_false] at hc
            go_simp
            exact hK_
          case guarL =>
            have hc := (cell_of_row _ PB i _ _ _ (hH.rely hR).place).trans (bytesA_get n _ i hin)
            (refine ⟨⟨rfl, rfl⟩, fun _ _ => rfl, ?_⟩; co_evs (exact ⟨_, rfl, rfl, by simp⟩))
          try walk_nrm
          have hc1 := Fld.comb_lt x hwt m i
          have hc2 := Fld.mul_lt hw1 (x m i)
          co_applyP anyK_take T (fun _ _ h r => HK.rely h r) (fun _ _ _ h r => wpC_rely T h r) (i := 12) rfl (by first | kernel_rfl | decide +kernel) (by first | kernel_rfl | decide +kernel) (by first | kernel_rfl | decide +kernel) (.inl ⟨by rfl, fun _ hw => ⟨run_eq_of ?run12, ?guar12⟩⟩) hS ?rest12
          case run12 =>
            intro K_ hK_
            skip
            go_simp
            exact hK_
          case guar12 =>
            skip
            (co_quiet T)
          try walk_nrm
          rw [u8_xor_nat _ _ hc1 hc2]
          co_applyP anyK_take T (fun _ _ h r => HK.rely h r) (fun _ _ _ h r => wpC_rely T h r) (i := 13) rfl (by first | kernel_rfl | decide +kernel) (by first | kernel_rfl | decide +kernel) (by first | kernel_rfl | decide +kernel) (.inl ⟨by rfl, fun _ hw => ⟨run_eq_of ?run13, ?guar13⟩⟩) hS ?rest13
          case run13 =>
            intro K_ hK_
            skip
            go_simp
            exact hK_
          case guar13 =>
            skip
            (rw [listed_nil (by (simp [go_sem]; exact evs_indexAt_slice (show plainSlice _ _ = true by kernel_rfl) hin))]; exact Terms.idle T _)
          try walk_nrm
          co_applyP anyK_store (j := 14) (by first | kernel_rfl | decide +kernel) rfl (by rfl) rfl rfl rfl hH.place (by rw [bytesA_size]; exact hin) (by kernel_rfl) hPB
          intro w₂ hR
          rw [sofar_step]
          have h2 := hH.rely hR
          have hH' : HP w RB x n wt PB B5 tb tw m (i + 1) (w₂.setRow PB (bytesA n (sofar wt x m (i + 1)))) :=
            ⟨⟨fun j hj => (setRow_other _ _ _ _ (nR j hj)).trans (h2.hk.rows j hj), (setRow_other _ _ _ _ n5).trans h2.hk.box, ⟨_, setRow_heap _ _ _ _ _ _ h2.place⟩, fun b hb o ho => (setRow_other _ _ _ _ hb).trans (h2.hk.keep b hb o ho)⟩, setRow_heap _ _ _ _ _ _ h2.place⟩
          clear hH hS h2 hR
          generalize w₂.setRow PB (bytesA n (sofar wt x m (i + 1))) = w₃ at hH'
          co_apply And.intro hH'.hk
          co_apply anyK_done (by first | kernel_rfl | decide +kernel)
          try walk_nrm
          co_then
          co_go T HP.rely hH' (co_quiet T)
          have e : IntKind.i64.wrap ((i : Int) + 1) = ((i + 1 : Nat) : Int) := by rw [IntKind.wrap_i64]; omega
          rw [e]
          exact ⟨⟨i + 1, u3, _, _, _, _, _, _, _, _, _, _, _, _, _, _, _, _, _, _, _, _, _, _, _, by omega, hH', rfl⟩, by simp [intOf]; omega⟩
        · intro hz
          have h0 : i = n := by
            have := of_decide_eq_false hz
            omega
          have hHn : HP w RB x n wt PB B5 tb tw (m + 1) 0 _ := ⟨hH.hk, by have := hH.place; rw [h0, sofar_next] at this; exact this⟩
          clear hH
          co_go T HP.rely hHn (co_quiet T)
          have e : IntKind.i64.wrap ((m : Int) + 1) = ((m + 1 : Nat) : Int) := by rw [IntKind.wrap_i64]; omega
          rw [e]
          exact ⟨⟨m + 1, u3, _, _, _, _, _, _, _, _, _, _, _, _, _, _, _, _, _, _, _, _, _, _, _, _, _, _, _, by omega, hHn, rfl⟩, by simp [intOf]; omega⟩
    · intro hz
      have h0 : m = 10 := by
        have := of_decide_eq_false hz
        omega
      subst h0
      co_go T HP.rely hH (co_quiet T)
      refine ⟨rfl, backW_none (by rfl) fun v w₅ hR => ?_⟩
      refine ⟨?_, (hH.rely hR).hk.keep⟩
      rw [(hH.rely hR).place, bytesA_congr (g := Fld.comb wt x 10) fun i _ => by simp [sofar]]
end
end Go.Proofs.YtpiefebngnlfoaaDoor

/-
  THE WORKER's BODY (piece.fillLacking's function literal, behind its defer) IN COMPANY, in a view.
-/
namespace Go.Vw
open Go.Conc
section
variable {P : Program} {main : Bool} {R : World → World → Prop} {D : World → World → Array Event → Prop} {fn : FuncId} {ops : Array Oper} {S : World → Prop}
/-- The one operation at hand is a call. -/
theorem anyK_callLast {md : Region.Mode} {Q : Exit → Act → World → Prop} {N : Nat} {fuel : Nat} {l : Array Bool} {a : Act} {w : World} {o : Oper} {j : Nat} {f : FuncId} {args : Array Operand} {ats : Array TypeId} {nf : Nat} {vs : Array Value} {Post : Value → World → Prop} (hr : Region.ready md ops l = [j]) (ho : ops[j]? = some o) (hw : Region.wanted o (yielded ops a.tmps) = true)
    (hop : o.op = .call { callee := .value (.func f), args, argTypes := ats }) (hvs : args.map a.eval = vs) (hN : nf + 3 ≤ N) (hcall : CallsW P main R D f vs nf w Post)
    (hnext : ∀ v w', Post v w' → S w' ∧ AnyK P main R D fn md ops Q S N fuel (l.setIfInBounds j true) (a.put o.dst v) w') : AnyK P main R D fn md ops Q S N (fuel + 1) l a w := by
  refine anyK_all hr (by simp) fun i' hi' => ?_
  obtain rfl : i' = j := by simpa using hi'
  unfold OpK
  simp only [ho, hw, if_true]
  exact .inr ⟨f, args, ats, nf, Post, hop, hN, by rw [hvs]; exact hcall, hnext⟩
end
/-- What stands behind the first piece of a text. -/
def seqTail : Option Code → Code
  | some (.seq _ c) => c
  | _ => .skip
end Go.Vw
namespace Go.Proofs.YtpiefebngnlfoaaDoor
open Go.RowKit Go.Conc Go.Vw
theorem wts_wrow (known : Nat → Nat) (k : Nat) : wts known k 10 = wrow (Fld.wgt known k) := by
  apply Array.ext_getElem?
  intro i
  by_cases hi : i < 10 <;> simp [wts, wrow, bytesA, hi]
theorem wgt_lt (known : Nat → Nat) (k i : Nat) : Fld.wgt known k i < 256 := Fld.mul_lt (Fld.dist_lt _ _ _ _) _
/-- What is held. -/
structure HB (Rd : Nat → Prop) (known : Nat → Nat) (k : Nat) (RB : Nat → Nat) (n PB BP BR BK BC : Nat) (tp tr tk tc : TypeId) (x : Nat → Nat → Nat) (tb : TypeId) (w : World) : Prop where
  bp : w.heap[BP]? = some (.cells #[.slice (some ⟨PB, 0, none⟩) n n] tp)
  br : w.heap[BR]? = some (.cells (slices RB n) tr)
  bk : w.heap[BK]? = some (.cells (ten known) tk)
  bc : w.heap[BC]? = some (.cells #[.int .i64 (k : Nat)] tc)
  rows : ∀ j, j < 10 → w.heap[RB j]? = some (.cells (bytesA n (x j)) tb)
  low : ∀ b, Rd b → b < w.heap.size
theorem HB.rely {Rd : Nat → Prop} {known : Nat → Nat} {k : Nat} {RB : Nat → Nat} {n PB BP BR BK BC : Nat} {tp tr tk tc : TypeId} {x : Nat → Nat → Nat} {tb : TypeId} {w w₁ : World} (h : HB Rd known k RB n PB BP BR BK BC tp tr tk tc x tb w) (r : Ext w w₁) : HB Rd known k RB n PB BP BR BK BC tp tr tk tc x tb w₁ :=
  ⟨r.row h.bp, r.row h.br, r.row h.bk, r.row h.bc, fun j hj => r.row (h.rows j hj), fun b hb => Nat.lt_of_lt_of_le (h.low b hb) r.size⟩
section
variable {main : Bool} {Rd : Nat → Prop}

set_option maxRecDepth 100000 in
set_option maxHeartbeats 1000000 in
theorem body_c : ∃ N, ∀ (tb tp tr tk tc : TypeId) (known : Nat → Nat) (k : Nat) (RB : Nat → Nat) (x : Nat → Nat → Nat) (n PB BP BR BK BC : Nat) (t0 : Value) (ds : List Deferred) (w : World), (∀ i, i < 10 → known i < 14) → k < 14 → n ≤ 400 → (∀ j i, x j i < 256) →
    ¬ Rd PB → (∀ j, j < 10 → Rd (RB j)) → Rd BP → Rd BR → Rd BK → Rd BC → HB Rd known k RB n PB BP BR BK BC tp tr tk tc x tb w → w.heap[PB]? = some (.cells (bytesA n fun _ => 0) tb) →
    (seqTail Tryd.f60.body).wpC Tryd.prog main Ext (DW Rd) 60 N (fun e a w' => e = .normal ∧ a.defers = ds ∧ w'.heap[PB]? = some (.cells (bytesA n (Fld.comb (Fld.wgt known k) x 10)) tb))
      ⟨#[t0, .pointer (some ⟨BP, 0, none⟩), .pointer (some ⟨BR, 0, none⟩), .pointer (some ⟨BK, 0, none⟩), .pointer (some ⟨BC, 0, none⟩), undef, undef, undef, undef, undef, undef], ds⟩ w := by
  have T := termsW Rd
  obtain ⟨kw, hwt⟩ := weights_c (main := main) (Rd := Rd)
  obtain ⟨kr, hrk⟩ := reckon_c (main := main) (Rd := Rd)
  co_apply Exists.intro
  intro tb tp tr tk tc known k RB x n PB BP BR BK BC t0 ds w hkn hk hn hx hPB hRB r1 r2 r3 r4 hH hplace
  simp only [seqTail, Tryd.f60]
  co_apply wpC_region_calls T (drawW Rd) (N := kw + kr + 4) (S := HB Rd known k RB n PB BP BR BK BC tp tr tk tc x tb) (by omega) (by first | kernel_rfl | rfl)
  intro w₁ hR
  replace hH := HB.rely (hH.rely hR) (Ext.draw _)
  replace hplace := (Ext.draw w₁).row (hR.row hplace)
  clear hR
  simp only [List.size_toArray, List.length_cons, List.length_nil, Nat.reduceAdd, Nat.zero_add]
  generalize ({ w₁ with drawn := w₁.drawn + 1 } : World) = w₀ at hH hplace
  co_applyP anyK_take (v := .slice (some ⟨PB, 0, none⟩) n n) T (fun _ _ h r => HB.rely h r) (fun _ _ _ h r => ⟨h.1, h.2.1, r.row h.2.2⟩) (i := 0) rfl (by first | kernel_rfl | decide +kernel) (by first | kernel_rfl | decide +kernel) (by first | kernel_rfl | decide +kernel) (.inl ⟨by rfl, fun _ hw => ⟨run_eq_of ?run1, ?guar1⟩⟩) hH ?rest1
  case run1 =>
    intro K_ hK_
    (have hc := cell_of_row _ BP 0 _ _ _ (HB.bp hw); simp at hc)
    go_simp
    exact hK_
  case guar1 =>
    have hc := cell_of_row _ BP 0 _ _ _ (HB.bp hw); simp at hc
    (refine ⟨⟨rfl, rfl⟩, fun _ _ => rfl, ?_⟩; co_evs (exact ⟨_, rfl, rfl, by simp⟩))
  try walk_nrm
  co_applyP anyK_take T (fun _ _ h r => HB.rely h r) (fun _ _ _ h r => ⟨h.1, h.2.1, r.row h.2.2⟩) (i := 1) rfl (by first | kernel_rfl | decide +kernel) (by first | kernel_rfl | decide +kernel) (by first | kernel_rfl | decide +kernel) (yields_loadRow (by rfl) rfl rfl (fun w h => HB.br h) (by kernel_rfl) (by rw [slices_size]; kernel_rfl)) hH
  try walk_nrm
  co_applyP anyK_take T (fun _ _ h r => HB.rely h r) (fun _ _ _ h r => ⟨h.1, h.2.1, r.row h.2.2⟩) (i := 2) rfl (by first | kernel_rfl | decide +kernel) (by first | kernel_rfl | decide +kernel) (by first | kernel_rfl | decide +kernel) (yields_loadRow (by rfl) rfl rfl (fun w h => HB.bk h) (by kernel_rfl) (by rw [ten_size]; kernel_rfl)) hH
  try walk_nrm
  co_applyP anyK_take (v := .int .i64 (k : Nat)) T (fun _ _ h r => HB.rely h r) (fun _ _ _ h r => ⟨h.1, h.2.1, r.row h.2.2⟩) (i := 3) rfl (by first | kernel_rfl | decide +kernel) (by first | kernel_rfl | decide +kernel) (by first | kernel_rfl | decide +kernel) (.inl ⟨by rfl, fun _ hw => ⟨run_eq_of ?run4, ?guar4⟩⟩) hH ?rest4
  case run4 =>
    intro K_ hK_
    (have hc := cell_of_row _ BC 0 _ _ _ (HB.bc hw); simp at hc)
    go_simp
    exact hK_
  case guar4 =>
    have hc := cell_of_row _ BC 0 _ _ _ (HB.bc hw); simp at hc
    (refine ⟨⟨rfl, rfl⟩, fun _ _ => rfl, ?_⟩; co_evs (exact ⟨_, rfl, rfl, by simp⟩))
  try walk_nrm
  co_applyP anyK_takeCall T (fun _ _ h r => HB.rely h r) (fun _ _ _ h r => ⟨h.1, h.2.1, r.row h.2.2⟩) (i := 4) rfl (by first | kernel_rfl | decide +kernel) (by first | kernel_rfl | decide +kernel) (by first | kernel_rfl | decide +kernel) (by rfl) rfl (by simp [Act.eval]) (by omega) (fun w h => (hwt known k w w hkn hk h.low (.refl w)).mono fun v w' q => ⟨q.1, h.rely (since_ext q.2), since_ext q.2⟩) hH
  try walk_nrm
  have hcall := hrk tb RB x n (Fld.wgt known k) PB w₀ hn (wgt_lt known k) hx hH.low hPB hRB hH.rows hplace
  co_applyP anyK_callLast (j := 5) (by first | kernel_rfl | decide +kernel) rfl (by rfl) rfl (by simp [Act.eval, wts_wrow]) (by omega) hcall
  rintro v w' ⟨hp, hkeep⟩
  have nB : ∀ {B : Nat}, Rd B → B ≠ PB := fun h e => hPB (e ▸ h)
  co_apply And.intro ⟨hkeep _ (nB r1) _ hH.bp, hkeep _ (nB r2) _ hH.br, hkeep _ (nB r3) _ hH.bk, hkeep _ (nB r4) _ hH.bc, fun j hj => hkeep _ (nB (hRB j hj)) _ (hH.rows j hj), fun b hb => (Array.getElem?_eq_some_iff.1 (hkeep b (nB hb) _ (Array.getElem?_eq_getElem (hH.low b hb)))).1⟩
  co_apply anyK_done (by first | kernel_rfl | decide +kernel)
  exact ⟨rfl, rfl, hp⟩

/-- The same as a walk to the function's end. -/
theorem worker_goes : ∃ N, ∀ (tb tp tr tk tc : TypeId) (known : Nat → Nat) (k : Nat) (RB : Nat → Nat) (x : Nat → Nat → Nat) (n PB BP BR BK BC Dz : Nat) (t0 : Value) (w : World), (∀ i, i < 10 → known i < 14) → k < 14 → n ≤ 400 → (∀ j i, x j i < 256) →
    ¬ Rd PB → (∀ j, j < 10 → Rd (RB j)) → Rd BP → Rd BR → Rd BK → Rd BC → HB Rd known k RB n PB BP BR BK BC tp tr tk tc x tb w → w.heap[PB]? = some (.cells (bytesA n fun _ => 0) tb) →
    Goes Tryd.prog main Ext (DW Rd) (StopW (baseD 60) Dz fun w' => w'.heap[PB]? = some (.cells (bytesA n (Fld.comb (Fld.wgt known k) x 10)) tb)) N
      (G ((baseD 60).at ⟨#[t0, .pointer (some ⟨BP, 0, none⟩), .pointer (some ⟨BR, 0, none⟩), .pointer (some ⟨BK, 0, none⟩), .pointer (some ⟨BC, 0, none⟩), undef, undef, undef, undef, undef, undef], deadD Dz⟩ [.code (seqTail Tryd.f60.body)]) []) w := by
  obtain ⟨N, h⟩ := body_c (main := main) (Rd := Rd)
  refine ⟨1 + N, fun tb tp tr tk tc known k RB x n PB BP BR BK BC Dz t0 w hkn hk hn hx hPB hRB r1 r2 r3 r4 hH hplace => ?_⟩
  refine (h tb tp tr tk tc known k RB x n PB BP BR BK BC t0 (deadD Dz) w hkn hk hn hx hPB hRB r1 r2 r3 r4 hH hplace) (baseD 60) [] [] _ 1 rfl (by simp [baseD]) fun e a w' q => ?_
  obtain ⟨rfl, hd, hp⟩ := q
  refine Goes.step rfl fun w₁ hR => ?_
  rw [stepG_end]
  refine ⟨(termsW Rd).idle _, Goes.stop fun w₂ h₂ => ⟨a.tmps, [], ?_, h₂.row (hR.row hp)⟩⟩
  rw [← hd]
  rfl
end
end Go.Proofs.YtpiefebngnlfoaaDoor
