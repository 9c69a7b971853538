/-
  Plain numbers: the field of 256 elements (products modulo the polynomial 285): it is a field, and the reference's product (multiplied out, then divided) is the same one.
-/
import Derived.Test.YtpiefebngnlfoaaRows
import Derived.WalkKit
import Derived.Laws.BitsAllLaws
import Derived.Conc.WgGenN3
namespace Go.Proofs.Ytpiefebngnlfoaa.Fld
/-- times x, modulo the polynomial 285. -/
def xt (a : Nat) : Nat := if a < 128 then 2 * a else (2 * a) ^^^ 285
/-- times x, k times. -/
def xp : Nat → Nat → Nat
  | 0, a => a
  | k + 1, a => xt (xp k a)
/-- the product, of the lowest k bits of b alone. -/
def mk (a b : Nat) : Nat → Nat
  | 0 => 0
  | k + 1 => if b / 2 ^ k % 2 = 1 then mk a b k ^^^ xp k a else mk a b k
/-- the product. -/
def mul (a b : Nat) : Nat := mk a b 8
/-- the reference's first loop, after k rounds. -/
def rA (a b : Nat) : Nat → Nat
  | 0 => 0
  | k + 1 => if b / 2 ^ k % 2 = 1 then rA a b k ^^^ a * 2 ^ k else rA a b k
/-- its second one: after j rounds. -/
def rB (n : Nat) : Nat → Nat
  | 0 => n
  | j + 1 => if rB n j / 2 ^ (14 - j) % 2 = 1 then rB n j ^^^ 285 * 2 ^ (6 - j) else rB n j

/-! all numbers below a bound, by the kernel -/
def allTo (p : Nat → Bool) : Nat → Bool
  | 0 => true
  | n + 1 => p n && allTo p n
theorem allTo_spec {p : Nat → Bool} {n : Nat} (h : allTo p n = true) : ∀ k, k < n → p k = true := by
  induction n with
  | zero => intro k hk; omega
  | succ n ih =>
    simp only [allTo, Bool.and_eq_true] at h
    intro k hk
    by_cases e : k = n
    · subst e; exact h.1
    · exact ih h.2 k (by omega)

theorem xt_lt {a : Nat} (h : a < 256) : xt a < 256 := by
  have := allTo_spec (p := fun a => decide (xt a < 256)) (n := 256) (by decide +kernel) a h
  simpa using this
theorem xt_ne {a : Nat} (h : a < 256) (h0 : a ≠ 0) : xt a ≠ 0 := by
  have := allTo_spec (p := fun a => a == 0 || xt a != 0) (n := 256) (by decide +kernel) a h
  simpa [h0] using this
theorem bit_iff (n k : Nat) : n / 2 ^ k % 2 = 1 ↔ n.testBit k = true := by
  rw [Nat.testBit_eq_decide_div_mod_eq]; simp
theorem xor_lt {a b : Nat} (ha : a < 256) (hb : b < 256) : a ^^^ b < 256 := Nat.xor_lt_two_pow (n := 8) ha hb
theorem xt_eq (a : Nat) : xt a = if a.testBit 7 = true ∧ a < 256 then (2 * a) ^^^ 285 else if a < 256 then 2 * a else xt a := by
  unfold xt
  by_cases h : a < 256
  · have : a.testBit 7 = true ↔ 128 ≤ a := by rw [← bit_iff]; omega
    by_cases g : a < 128
    · have : ¬ a.testBit 7 = true := by rw [this]; omega
      simp [h, this, g]
    · have : a.testBit 7 = true := by rw [this]; omega
      simp [h, this, g]
  · simp [h]
theorem two_mul_xor (a b : Nat) : 2 * (a ^^^ b) = (2 * a) ^^^ (2 * b) := by
  have h (n : Nat) : 2 * n = n <<< 1 := by rw [Nat.shiftLeft_eq]; omega
  rw [h, h a, h b, Nat.shiftLeft_xor_distrib]
theorem xor_cancel (a b : Nat) : a ^^^ b ^^^ b = a := by rw [Nat.xor_assoc, Nat.xor_self, Nat.xor_zero]
theorem xor4 (a b c d : Nat) : (a ^^^ b) ^^^ (c ^^^ d) = (a ^^^ c) ^^^ (b ^^^ d) := by
  rw [Nat.xor_assoc, ← Nat.xor_assoc b, Nat.xor_comm b c, Nat.xor_assoc c, ← Nat.xor_assoc]
theorem xt_xor {a b : Nat} (ha : a < 256) (hb : b < 256) : xt (a ^^^ b) = xt a ^^^ xt b := by
  have hab := xor_lt ha hb
  have ht : (a ^^^ b).testBit 7 = (a.testBit 7 ^^ b.testBit 7) := Nat.testBit_xor _ _ _
  rw [xt_eq a, xt_eq b, xt_eq (a ^^^ b), ht, two_mul_xor]
  simp only [ha, hb, hab, and_true, if_true]
  have e := xor_cancel (2 * a ^^^ 2 * b) 285
  cases a.testBit 7 <;> cases b.testBit 7 <;> simp
  · exact Nat.xor_assoc _ _ _
  · rw [Nat.xor_assoc, Nat.xor_assoc, Nat.xor_comm 285]
  · rw [xor4, Nat.xor_self, Nat.xor_zero]
theorem xt_zero : xt 0 = 0 := rfl
theorem xp_lt {a : Nat} (h : a < 256) (k : Nat) : xp k a < 256 := by
  induction k with
  | zero => exact h
  | succ k ih => exact xt_lt ih
theorem xp_xor {a b : Nat} (ha : a < 256) (hb : b < 256) (k : Nat) : xp k (a ^^^ b) = xp k a ^^^ xp k b := by
  induction k with
  | zero => rfl
  | succ k ih => simp only [xp]; rw [ih, xt_xor (xp_lt ha k) (xp_lt hb k)]
theorem xp_zero (k : Nat) : xp k 0 = 0 := by
  induction k with
  | zero => rfl
  | succ k ih => simp only [xp]; rw [ih, xt_zero]
theorem xp_ne {a : Nat} (h : a < 256) (h0 : a ≠ 0) (k : Nat) : xp k a ≠ 0 := by
  induction k with
  | zero => exact h0
  | succ k ih => exact xt_ne (xp_lt h k) ih
theorem xp_add (i j a : Nat) : xp (i + j) a = xp i (xp j a) := by
  induction i with
  | zero => simp [xp]
  | succ i ih => rw [show i + 1 + j = (i + j) + 1 from by omega]; simp only [xp]; rw [ih]
theorem xp_xt (k a : Nat) : xp k (xt a) = xt (xp k a) := by
  induction k with
  | zero => rfl
  | succ k ih => simp only [xp]; rw [ih]

theorem mk_lt {a : Nat} (h : a < 256) (b k : Nat) : mk a b k < 256 := by
  induction k with
  | zero => simp [mk]
  | succ k ih => simp only [mk]; split
                 · exact xor_lt ih (xp_lt h k)
                 · exact ih
theorem mk_stay (a b k : Nat) (h : b / 2 ^ k = 0) (j : Nat) : mk a b (k + j) = mk a b k := by
  induction j with
  | zero => rfl
  | succ j ih =>
    have : b / 2 ^ (k + j) = 0 := by rw [Nat.pow_add, ← Nat.div_div_eq_div_mul, h]; simp
    rw [← Nat.add_assoc]; simp only [mk]; rw [this]; simpa using ih
theorem mk_xt {a : Nat} (h : a < 256) (b k : Nat) : mk (xt a) b k = xt (mk a b k) := by
  induction k with
  | zero => rfl
  | succ k ih =>
    simp only [mk]; split
    · rw [ih, xp_xt, xt_xor (mk_lt h b k) (xp_lt h k)]
    · exact ih
theorem mk_xor_left {a c : Nat} (ha : a < 256) (hc : c < 256) (b k : Nat) : mk (a ^^^ c) b k = mk a b k ^^^ mk c b k := by
  induction k with
  | zero => simp [mk]
  | succ k ih =>
    simp only [mk]; split
    · rw [ih, xp_xor ha hc, xor4]
    · exact ih
theorem mk_xor_right (a b c k : Nat) : mk a (b ^^^ c) k = mk a b k ^^^ mk a c k := by
  induction k with
  | zero => simp [mk]
  | succ k ih =>
    simp only [mk, bit_iff, Nat.testBit_xor]
    rw [ih]
    cases b.testBit k <;> cases c.testBit k <;> simp
    · exact Nat.xor_assoc _ _ _
    · rw [Nat.xor_assoc, Nat.xor_assoc, Nat.xor_comm (mk a c k)]
    · rw [xor4, Nat.xor_self, Nat.xor_zero]
theorem mk_zero_left (b k : Nat) : mk 0 b k = 0 := by
  induction k with
  | zero => rfl
  | succ k ih => simp only [mk]; rw [ih, xp_zero]; simp
theorem mk_zero_right (a k : Nat) : mk a 0 k = 0 := by
  induction k with
  | zero => rfl
  | succ k ih => simp only [mk]; rw [ih]; simp

theorem mul_lt {a : Nat} (h : a < 256) (b : Nat) : mul a b < 256 := mk_lt h b 8
theorem zero_mul (b : Nat) : mul 0 b = 0 := mk_zero_left b 8
theorem mul_zero (a : Nat) : mul a 0 = 0 := mk_zero_right a 8
theorem mul_add (a b c : Nat) : mul a (b ^^^ c) = mul a b ^^^ mul a c := mk_xor_right a b c 8
theorem add_mul {a c : Nat} (ha : a < 256) (hc : c < 256) (b : Nat) : mul (a ^^^ c) b = mul a b ^^^ mul c b := mk_xor_left ha hc b 8
theorem mul_one {a : Nat} (h : a < 256) : mul a 1 = a := by
  have := allTo_spec (p := fun a => mul a 1 == a) (n := 256) (by decide +kernel) a h
  simpa using this
theorem one_mul {a : Nat} (h : a < 256) : mul 1 a = a := by
  have := allTo_spec (p := fun a => mul 1 a == a) (n := 256) (by decide +kernel) a h
  simpa using this
theorem xp_mul {b : Nat} (hb : b < 256) (i : Nat) : mul (xp i 1) b = xp i b := by
  induction i with
  | zero => exact one_mul hb
  | succ i ih =>
    show mk (xt (xp i 1)) b 8 = xt (xp i b)
    rw [mk_xt (xp_lt (by omega) i)]
    exact congrArg xt ih
/-- the powers of x, one after the other -/
def pows : Nat → Nat → List Nat
  | 0, _ => []
  | n + 1, a => a :: pows n (xt a)
theorem pows_spec (n a c : Nat) (h : c ∈ pows n a) : ∃ i, c = xp i a := by
  induction n generalizing a with
  | zero => simp [pows] at h
  | succ n ih =>
    simp only [pows, List.mem_cons] at h
    rcases h with rfl | h
    · exact ⟨0, rfl⟩
    · obtain ⟨i, hi⟩ := ih _ h
      exact ⟨i + 1, by rw [hi, xp_xt]; rfl⟩
theorem is_power {a : Nat} (h : a < 256) (h0 : a ≠ 0) : ∃ i, a = xp i 1 := by
  have := allTo_spec (p := fun a => a == 0 || (pows 255 1).contains a) (n := 256) (by decide +kernel) a h
  exact pows_spec 255 1 a (by simpa [h0] using this)
theorem mul_comm {a b : Nat} (ha : a < 256) (hb : b < 256) : mul a b = mul b a := by
  by_cases a0 : a = 0
  · subst a0; rw [zero_mul, mul_zero]
  by_cases b0 : b = 0
  · subst b0; rw [zero_mul, mul_zero]
  obtain ⟨i, rfl⟩ := is_power ha a0
  obtain ⟨j, rfl⟩ := is_power hb b0
  rw [xp_mul hb, xp_mul ha, ← xp_add, ← xp_add, Nat.add_comm]
theorem mul_assoc {a b c : Nat} (ha : a < 256) (hb : b < 256) (hc : c < 256) : mul (mul a b) c = mul a (mul b c) := by
  by_cases a0 : a = 0
  · subst a0; rw [zero_mul, zero_mul, zero_mul]
  by_cases b0 : b = 0
  · subst b0; rw [mul_zero, zero_mul, mul_zero]
  obtain ⟨i, rfl⟩ := is_power ha a0
  obtain ⟨j, rfl⟩ := is_power hb b0
  rw [xp_mul hb, xp_mul hc, ← xp_add, xp_mul hc, xp_mul (xp_lt hc j), xp_add]
theorem mul_ne {a b : Nat} (ha : a < 256) (hb : b < 256) (a0 : a ≠ 0) (b0 : b ≠ 0) : mul a b ≠ 0 := by
  obtain ⟨i, rfl⟩ := is_power ha a0
  rw [xp_mul hb]; exact xp_ne hb b0 i
theorem mul_eq_zero {a b : Nat} (ha : a < 256) (hb : b < 256) : mul a b = 0 ↔ a = 0 ∨ b = 0 := by
  constructor
  · intro h
    by_cases a0 : a = 0
    · exact .inl a0
    by_cases b0 : b = 0
    · exact .inr b0
    exact absurd h (mul_ne ha hb a0 b0)
  · rintro (rfl | rfl)
    · exact zero_mul _
    · exact mul_zero _

/-! the reference's product -/
theorem rB_xor (n m j : Nat) : rB (n ^^^ m) j = rB n j ^^^ rB m j := by
  induction j with
  | zero => rfl
  | succ j ih =>
    simp only [rB, bit_iff]
    rw [ih, Nat.testBit_xor]
    cases (rB n j).testBit (14 - j) <;> cases (rB m j).testBit (14 - j) <;> simp
    · exact Nat.xor_assoc _ _ _
    · rw [Nat.xor_assoc, Nat.xor_assoc, Nat.xor_comm (rB m j)]
    · rw [xor4, Nat.xor_self, Nat.xor_zero]
theorem rB_pow {a k : Nat} (ha : a < 256) (hk : k < 8) : rB (a * 2 ^ k) 7 = xp k a := by
  have := allTo_spec (allTo_spec (p := fun a => allTo (fun k => rB (a * 2 ^ k) 7 == xp k a) 8) (n := 256) (by decide +kernel) a ha) k hk
  simpa using this
theorem rB_zero : rB 0 7 = 0 := by decide +kernel
theorem ref_mk {a : Nat} (ha : a < 256) (b k : Nat) (hk : k ≤ 8) : rB (rA a b k) 7 = mk a b k := by
  induction k with
  | zero => exact rB_zero
  | succ k ih =>
    simp only [rA, mk]
    have ih := ih (by omega)
    split
    · rw [rB_xor, ih, rB_pow ha (by omega)]
    · exact ih
theorem ref_mul {a : Nat} (ha : a < 256) (b : Nat) : rB (rA a b 8) 7 = mul a b := ref_mk ha b 8 (by omega)
theorem rA_lt {a : Nat} (ha : a < 256) (b k : Nat) : rA a b k < 2 ^ (8 + k) := by
  induction k with
  | zero => simp [rA]
  | succ k ih =>
    simp only [rA]
    have : 2 ^ (8 + k) < 2 ^ (8 + (k + 1)) := Nat.pow_lt_pow_right (by omega) (by omega)
    split
    · refine Nat.xor_lt_two_pow (by omega) ?_
      have : a * 2 ^ k < 2 ^ 8 * 2 ^ k := Nat.mul_lt_mul_of_pos_right (by omega) (Nat.pow_pos (by omega))
      rw [← Nat.pow_add] at this
      omega
    · omega
theorem rA_lt16 {a : Nat} (ha : a < 256) (b k : Nat) (hk : k ≤ 8) : rA a b k < 65536 := by
  have := rA_lt ha b k
  have : 2 ^ (8 + k) ≤ 2 ^ 16 := Nat.pow_le_pow_right (by omega) (by omega)
  omega
theorem rB_lt16 {n : Nat} (h : n < 65536) (j : Nat) : rB n j < 65536 := by
  induction j with
  | zero => exact h
  | succ j ih =>
    simp only [rB]; split
    · have : 285 * 2 ^ (6 - j) ≤ 285 * 2 ^ 6 := Nat.mul_le_mul_left _ (Nat.pow_le_pow_right (by omega) (by omega))
      exact Nat.xor_lt_two_pow (n := 16) ih (by omega)
    · exact ih
end Go.Proofs.Ytpiefebngnlfoaa.Fld

/-
  What the program's and the reference's products return, for all arguments: the walks of field.IsElement, field.timesX, field.Mul, mosaic.Mul and mosaicref.Mul.
-/
namespace Go.Proofs.Ytpiefebngnlfoaa
open Go.RowKit

theorem hide {p : Prop} (h : p) : Hid p := h
theorem and128_lo (a : Nat) (h : a < 128) : bits .and .u8 (a : Int) 128 = 0 := by
  rw [show (128 : Int) = ((128 : Nat) : Int) from rfl, u8_and_nat a 128 (by omega) (by omega)]
  have := Fld.allTo_spec (p := fun a => a &&& 128 == 0) (n := 128) (by decide +kernel) a h
  simp at this; rw [this]; rfl
theorem and128_hi (a : Nat) (h : 128 ≤ a) (h' : a < 256) : bits .and .u8 (a : Int) 128 = 128 := by
  rw [show (128 : Int) = ((128 : Nat) : Int) from rfl, u8_and_nat a 128 (by omega) (by omega)]
  have := Fld.allTo_spec (p := fun a => a < 128 || a &&& 128 == 128) (n := 256) (by decide +kernel) a h'
  simp at this
  rcases this with h | h
  · omega
  · rw [h]

theorem ret_int {k : IntKind} {a b : Int} (h : a = b) : Ending.returned (.int k a) = .returned (.int k b) := by rw [h]
theorem xt_lo (a : Nat) (h : a < 128) : (a : Int) * 2 = ((Fld.xt a : Nat) : Int) := by
  unfold Fld.xt; rw [if_pos h]; omega
theorem xt_hi (a : Nat) (h : 128 ≤ a) (h' : a < 256) : bits .xor .u8 ((a : Int) * 2 % 256) 29 = ((Fld.xt a : Nat) : Int) := by
  have e : (a : Int) * 2 % 256 = ((2 * a % 256 : Nat) : Int) := by omega
  rw [e, show (29 : Int) = ((29 : Nat) : Int) from rfl, u8_xor_nat _ 29 (by omega) (by omega)]
  have := Fld.allTo_spec (p := fun a => a < 128 || 2 * a % 256 ^^^ 29 == Fld.xt a) (n := 256) (by decide +kernel) a h'
  simp at this
  rcases this with h | h
  · omega
  · rw [h]

set_option maxHeartbeats 400000 in
theorem timesX_any (a : Nat) (w : World) (h : a < 256) :
    Calls Try.prog 40 #[.int .u8 (a : Int)] w fun e w' => e = .returned (.int .u8 (Fld.xt a : Nat)) ∧ w' = w := by
  by_cases g : a < 128
  · have hb : (bits .and .u8 (a : Int) 128 == 0) = true := by rw [and128_lo a g]; rfl
    go_enter Try.func40, Try.ntmps40
    go_wp2
    go_ret
    exact ⟨ret_int (xt_lo a g), rfl⟩
  · have hb : (bits .and .u8 (a : Int) 128 == 0) = false := by rw [and128_hi a (by omega) h]; rfl
    go_enter Try.func40, Try.ntmps40
    go_wp2
    go_ret
    exact ⟨ret_int (xt_hi a (by omega) h), rfl⟩

theorem and1 (n : Nat) (h : n < 256) : bits .and .u8 (n : Int) 1 = ((n % 2 : Nat) : Int) := by
  rw [show (1 : Int) = ((1 : Nat) : Int) from rfl, u8_and_nat n 1 h (by omega), Nat.and_one_is_mod]
theorem and1_yes (n : Nat) (h : n < 256) (g : n % 2 = 1) : (bits .and .u8 (n : Int) 1 == 1) = true := by rw [and1 n h, g]; rfl
theorem and1_no (n : Nat) (h : n < 256) (g : ¬ n % 2 = 1) : (bits .and .u8 (n : Int) 1 == 1) = false := by
  rw [and1 n h, show n % 2 = 0 from by omega]; rfl
/-- b, k bits to the right. -/
def sh (b k : Nat) : Nat := b / 2 ^ k
theorem sh_succ (b k : Nat) : sh b (k + 1) = sh b k / 2 := by unfold sh; rw [Nat.pow_succ, Nat.div_div_eq_div_mul]
theorem sh_lt (b k : Nat) (h : b < 256) : sh b k < 256 := Nat.lt_of_le_of_lt (Nat.div_le_self _ _) h
theorem sh_ne (b k : Nat) (h : b < 256) (h0 : sh b k ≠ 0) : k < 8 := by
  by_cases g : k < 8
  · exact g
  · exfalso; apply h0; unfold sh
    apply Nat.div_eq_of_lt
    have : 2 ^ 8 ≤ 2 ^ k := Nat.pow_le_pow_right (by omega) (by omega)
    omega
theorem mk_end (a b k : Nat) (hk : k ≤ 8) (h0 : sh b k = 0) : Fld.mk a b k = Fld.mul a b := by
  unfold Fld.mul
  obtain ⟨j, hj⟩ := Nat.exists_eq_add_of_le hk
  have := Fld.mk_stay a b k h0 j
  rw [hj, this]
theorem mk_on (a b k : Nat) (h : sh b k % 2 = 1) : Fld.mk a b (k + 1) = Fld.mk a b k ^^^ Fld.xp k a := by
  simp only [Fld.mk]; unfold sh at h; rw [if_pos h]
theorem mk_off (a b k : Nat) (h : ¬ sh b k % 2 = 1) : Fld.mk a b (k + 1) = Fld.mk a b k := by
  simp only [Fld.mk]; unfold sh at h; rw [if_neg h]

set_option maxHeartbeats 400000 in
theorem fmul_any (a b : Nat) (w : World) (ha : a < 256) (hb : b < 256) :
    Calls Try.prog 34 #[.int .u8 (a : Int), .int .u8 (b : Int)] w fun e w' => e = .returned (.int .u8 (Fld.mul a b : Nat)) ∧ w' = w := by
  go_enter Try.func34, Try.ntmps34
  go_wp2
  go_loop [0, 1, 5] (fun x y p => ∃ k : Nat, k ≤ 8 ∧ x = .int .u8 (Fld.xp k a : Nat) ∧ y = .int .u8 (sh b k : Nat) ∧ p = .int .u8 (Fld.mk a b k : Nat)) (fun _ y _ => (intOf y).toNat)
  case atStart => exact ⟨0, by omega, rfl, by simp [sh], rfl⟩
  case round =>
    obtain ⟨k, hk, rfl, rfl, rfl⟩ := hrel
    have h1 := sh_lt b k hb
    have h2 := Fld.xp_lt ha k
    have h3 := Fld.mk_lt ha b k
    by_cases h0 : sh b k = 0
    · have H := hide (mk_end a b k hk h0)
      have hz : ((sh b k : Int) != 0) = false := by simp; omega
      go_wp2
      go_ret
      exact ⟨ret_int (by rw [H.out]), rfl⟩
    · have hk8 := sh_ne b k hb h0
      have hpos : 0 < sh b k := by omega
      have hz : ((sh b k : Int) != 0) = true := by simp; omega
      by_cases hm : sh b k % 2 = 1
      · have hb1 := and1_yes _ h1 hm
        have H := hide (mk_on a b k hm)
        clear hm h0
        go_wp2_with (go_at_call 40; refine (timesX_any _ _ h2).mono ?_; rintro e w' ⟨rfl, rfl⟩)
        go_round
        case rel => exact ⟨k + 1, by omega, rfl, by rw [sh_succ]; go_num, by rw [H.out, u8_xor_nat _ _ h3 h2]⟩
        case measure => simp [intOf]; omega
      · have hb1 := and1_no _ h1 hm
        have H := hide (mk_off a b k hm)
        clear hm h0
        go_wp2_with (go_at_call 40; refine (timesX_any _ _ h2).mono ?_; rintro e w' ⟨rfl, rfl⟩)
        go_round
        case rel => exact ⟨k + 1, by omega, rfl, by rw [sh_succ]; go_num, by rw [H.out]⟩
        case measure => simp [intOf]; omega

theorem isElement_yes (n : Int) (w : World) (h1 : 0 ≤ n) (h2 : n ≤ 255) :
    Calls Try.prog 33 #[.int .i64 n] w fun e w' => e = .returned (.bool true) ∧ w' = w := by
  go_enter Try.func33, Try.ntmps33
  go_wp2
  go_ret
  exact ⟨by simp, rfl⟩
theorem isElement_no (n : Int) (w : World) (h : ¬ (0 ≤ n ∧ n ≤ 255)) :
    Calls Try.prog 33 #[.int .i64 n] w fun e w' => e = .returned (.bool false) ∧ w' = w := by
  by_cases h1 : 0 ≤ n
  · have h2 : ¬ n ≤ 255 := by omega
    clear h
    go_enter Try.func33, Try.ntmps33
    go_wp2
    go_ret
    exact ⟨by simp, rfl⟩
  · clear h
    go_enter Try.func33, Try.ntmps33
    go_wp2
    go_ret
    exact ⟨by simp, rfl⟩

/-- the product as the document has it: 0 where one of the two is no element. -/
def prod (a b : Int) : Nat := if 0 ≤ a ∧ a ≤ 255 ∧ 0 ≤ b ∧ b ≤ 255 then Fld.mul a.toNat b.toNat else 0
theorem prod_nat (a b : Nat) (ha : a < 256) (hb : b < 256) : prod a b = Fld.mul a b := by
  unfold prod; rw [if_pos (by omega)]; simp

set_option maxHeartbeats 400000 in
theorem pmul_any (a b : Int) (w : World) :
    Calls Try.prog 10 #[.int .i64 a, .int .i64 b] w fun e w' => e = .returned (.int .i64 (prod a b : Nat)) ∧ w' = w := by
  by_cases h1 : 0 ≤ a ∧ a ≤ 255
  · by_cases h2 : 0 ≤ b ∧ b ≤ 255
    · obtain ⟨h1, h1'⟩ := h1
      obtain ⟨h2, h2'⟩ := h2
      obtain ⟨a, rfl⟩ := Int.eq_ofNat_of_zero_le h1
      obtain ⟨b, rfl⟩ := Int.eq_ofNat_of_zero_le h2
      have ha : a < 256 := by omega
      have hb : b < 256 := by omega
      have hm := Fld.mul_lt ha b
      have H := hide (prod_nat a b ha hb)
      go_enter Try.func10, Try.ntmps10
      go_wp2_with fail
      refine (isElement_yes _ _ (by omega) (by omega)).mono ?_; rintro e w' ⟨rfl, rfl⟩
      go_wp2_with fail
      refine (isElement_yes _ _ (by omega) (by omega)).mono ?_; rintro e w' ⟨rfl, rfl⟩
      go_wp2_with (go_at_call 34; refine (fmul_any a b _ ha hb).mono ?_; rintro e w' ⟨rfl, rfl⟩)
      go_ret
      exact ⟨ret_int (by rw [H.out]), rfl⟩
    · have H : Hid (prod a b = 0) := by unfold prod; rw [if_neg (by omega)]; exact rfl
      obtain ⟨h1, h1'⟩ := h1
      have G := hide h2
      clear h2
      go_enter Try.func10, Try.ntmps10
      go_wp2_with fail
      refine (isElement_yes _ _ (by omega) (by omega)).mono ?_; rintro e w' ⟨rfl, rfl⟩
      go_wp2_with fail
      refine (isElement_no _ _ G.out).mono ?_; rintro e w' ⟨rfl, rfl⟩
      go_wp2
      go_ret
      exact ⟨ret_int (by rw [H.out]; rfl), rfl⟩
  · have H : Hid (prod a b = 0) := by unfold prod; rw [if_neg (by omega)]; exact rfl
    have G := hide h1
    clear h1
    go_enter Try.func10, Try.ntmps10
    go_wp2_with fail
    refine (isElement_no _ _ G.out).mono ?_; rintro e w' ⟨rfl, rfl⟩
    go_wp2
    go_ret
    exact ⟨ret_int (by rw [H.out]; rfl), rfl⟩
theorem pmul_nat (a b : Nat) (w : World) (ha : a < 256) (hb : b < 256) :
    Calls Try.prog 10 #[.int .i64 (a : Int), .int .i64 (b : Int)] w fun e w' => e = .returned (.int .i64 (Fld.mul a b : Nat)) ∧ w' = w := by
  have := pmul_any a b w
  rw [prod_nat a b ha hb] at this
  exact this
theorem i64_xor_nat (a b : Nat) (ha : a < 2147483648) (hb : b < 2147483648) : bits .xor .i64 (a : Int) (b : Int) = ((a ^^^ b : Nat) : Int) := by
  have hx : a ^^^ b < 2 ^ 31 := Nat.xor_lt_two_pow (by omega) (by omega)
  show IntKind.i64.wrap ((BitVec.ofInt 64 (a : Int) ^^^ BitVec.ofInt 64 (b : Int)).toNat : Int) = _
  have e (n : Nat) (h : n < 2147483648) : (BitVec.ofInt 64 (n : Int)).toNat = n := by
    rw [BitVec.ofInt_natCast, BitVec.toNat_ofNat]; exact Nat.mod_eq_of_lt (by omega)
  rw [BitVec.toNat_xor, e a ha, e b hb, IntKind.wrap_i64]
  omega
end Go.Proofs.Ytpiefebngnlfoaa

/-
  The program holds the library's functions under these numbers.
-/
namespace Go.Proofs.Ytpiefebngnlfoaa
abbrev link : Go.Conc.Lib.WgLink := { add := 47, done := 49, wait := 52, relMerge := 55, disable := 56, enable := 57, inBubble := 58, associate := 59, fatal := 60, uOr := 61, uAdd := 62, raceRead := 63, uLoad := 64, uStore := 65, disassociate := 66, semrelease := 67, acquire := 70, isAssociated := 71, uCas := 72, raceWrite := 73, semacquire := 74, orU64 := 75, addU64 := 76, loadU64 := 77, storeU64 := 78, casU64 := 79, tWgP := 98, tUP := 100, tAssoc := 101, tWg := 93, tAU := 90, tU64 := 88, tUint := 72, tU32 := 91, tPU32 := 105, tPAU := 114, tPU64 := 116, tNoCopy := 85, tANoCopy := 86, tAlign64 := 87 }
theorem wgLib : Go.Conc.Lib.WgLib Try.prog link :=
  ⟨Try.func47, Try.func49, Try.func52, Try.func55, Try.func56, Try.func57, Try.func58, Try.func59, Try.func60, Try.func61, Try.func62, Try.func63, Try.func64, Try.func65, Try.func66, Try.func67, Try.func70, Try.func71, Try.func72, Try.func73, Try.func74, Try.func75, Try.func76, Try.func77, Try.func78, Try.func79, Try.underlying98, Try.runUnderlying98, Try.sizeOf98, Try.isAgg98, Try.zeroValue98, Try.underlying100, Try.runUnderlying100, Try.sizeOf100, Try.isAgg100, Try.zeroValue100, Try.underlying101, Try.runUnderlying101, Try.sizeOf101, Try.isAgg101, Try.zeroValue101, Try.underlying93, Try.runUnderlying93, Try.sizeOf93, Try.isAgg93, Try.zeroValue93, Try.underlying90, Try.runUnderlying90, Try.sizeOf90, Try.isAgg90, Try.zeroValue90, Try.underlying88, Try.runUnderlying88, Try.sizeOf88, Try.isAgg88, Try.zeroValue88, Try.underlying72, Try.runUnderlying72, Try.sizeOf72, Try.isAgg72, Try.zeroValue72, Try.underlying91, Try.runUnderlying91, Try.sizeOf91, Try.isAgg91, Try.zeroValue91, Try.underlying105, Try.runUnderlying105, Try.sizeOf105, Try.isAgg105, Try.zeroValue105, Try.underlying114, Try.runUnderlying114, Try.sizeOf114, Try.isAgg114, Try.zeroValue114, Try.underlying116, Try.runUnderlying116, Try.sizeOf116, Try.isAgg116, Try.zeroValue116, Try.underlying0, Try.runUnderlying0, Try.sizeOf0, Try.isAgg0, Try.zeroValue0, Try.underlying3, Try.runUnderlying3, Try.sizeOf3, Try.isAgg3, Try.zeroValue3, Try.underlying4, Try.runUnderlying4, Try.sizeOf4, Try.isAgg4, Try.zeroValue4, Try.underlying9, Try.runUnderlying9, Try.sizeOf9, Try.isAgg9, Try.zeroValue9, Try.underlying20, Try.runUnderlying20, Try.sizeOf20, Try.isAgg20, Try.zeroValue20, Try.underlying21, Try.runUnderlying21, Try.sizeOf21, Try.isAgg21, Try.zeroValue21, (by kernel_rfl), (by kernel_rfl)⟩
end Go.Proofs.Ytpiefebngnlfoaa
