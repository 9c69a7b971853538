/-
  Plain numbers: the field of 256 elements (products modulo the polynomial 285): it is a field, and the reference's product (multiplied out, then divided) is the same one.
-/
namespace Go.Proofs.Ytpiefebngnlfoaa.Fld
/-- times x, modulo the polynomial 285. -/
def xt (a : Nat) : Nat := if a < 128 then 2 * a else (2 * a) ^^^ 285
/-- times x, k times. -/
def xp : Nat → Nat → Nat
  | 0, a => a
  | k + 1, a => xt (xp k a)
/-- the product, of the lowest k bits of b alone. -/
def mk (a b : Nat) : Nat → Nat
  | 0 => 0
  | k + 1 => if b / 2 ^ k % 2 = 1 then mk a b k ^^^ xp k a else mk a b k
/-- the product. -/
def mul (a b : Nat) : Nat := mk a b 8
/-- the reference's first loop, after k rounds. -/
def rA (a b : Nat) : Nat → Nat
  | 0 => 0
  | k + 1 => if b / 2 ^ k % 2 = 1 then rA a b k ^^^ a * 2 ^ k else rA a b k
/-- its second one: after j rounds. -/
def rB (n : Nat) : Nat → Nat
  | 0 => n
  | j + 1 => if rB n j / 2 ^ (14 - j) % 2 = 1 then rB n j ^^^ 285 * 2 ^ (6 - j) else rB n j

/-! all numbers below a bound, by the kernel -/
def allTo (p : Nat → Bool) : Nat → Bool
  | 0 => true
  | n + 1 => p n && allTo p n
theorem allTo_spec {p : Nat → Bool} {n : Nat} (h : allTo p n = true) : ∀ k, k < n → p k = true := by
  induction n with
  | zero => intro k hk; omega
  | succ n ih =>
    simp only [allTo, Bool.and_eq_true] at h
    intro k hk
    by_cases e : k = n
    · subst e; exact h.1
    · exact ih h.2 k (by omega)

theorem xt_lt {a : Nat} (h : a < 256) : xt a < 256 := by
  have := allTo_spec (p := fun a => decide (xt a < 256)) (n := 256) (by decide +kernel) a h
  simpa using this
theorem xt_ne {a : Nat} (h : a < 256) (h0 : a ≠ 0) : xt a ≠ 0 := by
  have := allTo_spec (p := fun a => a == 0 || xt a != 0) (n := 256) (by decide +kernel) a h
  simpa [h0] using this
theorem bit_iff (n k : Nat) : n / 2 ^ k % 2 = 1 ↔ n.testBit k = true := by
  rw [Nat.testBit_eq_decide_div_mod_eq]; simp
theorem xor_lt {a b : Nat} (ha : a < 256) (hb : b < 256) : a ^^^ b < 256 := Nat.xor_lt_two_pow (n := 8) ha hb
theorem xt_eq (a : Nat) : xt a = if a.testBit 7 = true ∧ a < 256 then (2 * a) ^^^ 285 else if a < 256 then 2 * a else xt a := by
  unfold xt
  by_cases h : a < 256
  · have : a.testBit 7 = true ↔ 128 ≤ a := by rw [← bit_iff]; omega
    by_cases g : a < 128
    · have : ¬ a.testBit 7 = true := by rw [this]; omega
      simp [h, this, g]
    · have : a.testBit 7 = true := by rw [this]; omega
      simp [h, this, g]
  · simp [h]
theorem two_mul_xor (a b : Nat) : 2 * (a ^^^ b) = (2 * a) ^^^ (2 * b) := by
  have h (n : Nat) : 2 * n = n <<< 1 := by rw [Nat.shiftLeft_eq]; omega
  rw [h, h a, h b, Nat.shiftLeft_xor_distrib]
theorem xor_cancel (a b : Nat) : a ^^^ b ^^^ b = a := by rw [Nat.xor_assoc, Nat.xor_self, Nat.xor_zero]
theorem xor4 (a b c d : Nat) : (a ^^^ b) ^^^ (c ^^^ d) = (a ^^^ c) ^^^ (b ^^^ d) := by
  rw [Nat.xor_assoc, ← Nat.xor_assoc b, Nat.xor_comm b c, Nat.xor_assoc c, ← Nat.xor_assoc]
theorem xt_xor {a b : Nat} (ha : a < 256) (hb : b < 256) : xt (a ^^^ b) = xt a ^^^ xt b := by
  have hab := xor_lt ha hb
  have ht : (a ^^^ b).testBit 7 = (a.testBit 7 ^^ b.testBit 7) := Nat.testBit_xor _ _ _
  rw [xt_eq a, xt_eq b, xt_eq (a ^^^ b), ht, two_mul_xor]
  simp only [ha, hb, hab, and_true, if_true]
  have e := xor_cancel (2 * a ^^^ 2 * b) 285
  cases a.testBit 7 <;> cases b.testBit 7 <;> simp
  · exact Nat.xor_assoc _ _ _
  · rw [Nat.xor_assoc, Nat.xor_assoc, Nat.xor_comm 285]
  · rw [xor4, Nat.xor_self, Nat.xor_zero]
theorem xt_zero : xt 0 = 0 := rfl
theorem xp_lt {a : Nat} (h : a < 256) (k : Nat) : xp k a < 256 := by
  induction k with
  | zero => exact h
  | succ k ih => exact xt_lt ih
theorem xp_xor {a b : Nat} (ha : a < 256) (hb : b < 256) (k : Nat) : xp k (a ^^^ b) = xp k a ^^^ xp k b := by
  induction k with
  | zero => rfl
  | succ k ih => simp only [xp]; rw [ih, xt_xor (xp_lt ha k) (xp_lt hb k)]
theorem xp_zero (k : Nat) : xp k 0 = 0 := by
  induction k with
  | zero => rfl
  | succ k ih => simp only [xp]; rw [ih, xt_zero]
theorem xp_ne {a : Nat} (h : a < 256) (h0 : a ≠ 0) (k : Nat) : xp k a ≠ 0 := by
  induction k with
  | zero => exact h0
  | succ k ih => exact xt_ne (xp_lt h k) ih
theorem xp_add (i j a : Nat) : xp (i + j) a = xp i (xp j a) := by
  induction i with
  | zero => simp [xp]
  | succ i ih => rw [show i + 1 + j = (i + j) + 1 from by omega]; simp only [xp]; rw [ih]
theorem xp_xt (k a : Nat) : xp k (xt a) = xt (xp k a) := by
  induction k with
  | zero => rfl
  | succ k ih => simp only [xp]; rw [ih]

theorem mk_lt {a : Nat} (h : a < 256) (b k : Nat) : mk a b k < 256 := by
  induction k with
  | zero => simp [mk]
  | succ k ih => simp only [mk]; split
                 · exact xor_lt ih (xp_lt h k)
                 · exact ih
theorem mk_stay (a b k : Nat) (h : b / 2 ^ k = 0) (j : Nat) : mk a b (k + j) = mk a b k := by
  induction j with
  | zero => rfl
  | succ j ih =>
    have : b / 2 ^ (k + j) = 0 := by rw [Nat.pow_add, ← Nat.div_div_eq_div_mul, h]; simp
    rw [← Nat.add_assoc]; simp only [mk]; rw [this]; simpa using ih
theorem mk_xt {a : Nat} (h : a < 256) (b k : Nat) : mk (xt a) b k = xt (mk a b k) := by
  induction k with
  | zero => rfl
  | succ k ih =>
    simp only [mk]; split
    · rw [ih, xp_xt, xt_xor (mk_lt h b k) (xp_lt h k)]
    · exact ih
theorem mk_xor_left {a c : Nat} (ha : a < 256) (hc : c < 256) (b k : Nat) : mk (a ^^^ c) b k = mk a b k ^^^ mk c b k := by
  induction k with
  | zero => simp [mk]
  | succ k ih =>
    simp only [mk]; split
    · rw [ih, xp_xor ha hc, xor4]
    · exact ih
theorem mk_xor_right (a b c k : Nat) : mk a (b ^^^ c) k = mk a b k ^^^ mk a c k := by
  induction k with
  | zero => simp [mk]
  | succ k ih =>
    simp only [mk, bit_iff, Nat.testBit_xor]
    rw [ih]
    cases b.testBit k <;> cases c.testBit k <;> simp
    · exact Nat.xor_assoc _ _ _
    · rw [Nat.xor_assoc, Nat.xor_assoc, Nat.xor_comm (mk a c k)]
    · rw [xor4, Nat.xor_self, Nat.xor_zero]
theorem mk_zero_left (b k : Nat) : mk 0 b k = 0 := by
  induction k with
  | zero => rfl
  | succ k ih => simp only [mk]; rw [ih, xp_zero]; simp
theorem mk_zero_right (a k : Nat) : mk a 0 k = 0 := by
  induction k with
  | zero => rfl
  | succ k ih => simp only [mk]; rw [ih]; simp

theorem mul_lt {a : Nat} (h : a < 256) (b : Nat) : mul a b < 256 := mk_lt h b 8
theorem zero_mul (b : Nat) : mul 0 b = 0 := mk_zero_left b 8
theorem mul_zero (a : Nat) : mul a 0 = 0 := mk_zero_right a 8
theorem mul_add (a b c : Nat) : mul a (b ^^^ c) = mul a b ^^^ mul a c := mk_xor_right a b c 8
theorem add_mul {a c : Nat} (ha : a < 256) (hc : c < 256) (b : Nat) : mul (a ^^^ c) b = mul a b ^^^ mul c b := mk_xor_left ha hc b 8
theorem mul_one {a : Nat} (h : a < 256) : mul a 1 = a := by
  have := allTo_spec (p := fun a => mul a 1 == a) (n := 256) (by decide +kernel) a h
  simpa using this
theorem one_mul {a : Nat} (h : a < 256) : mul 1 a = a := by
  have := allTo_spec (p := fun a => mul 1 a == a) (n := 256) (by decide +kernel) a h
  simpa using this
theorem xp_mul {b : Nat} (hb : b < 256) (i : Nat) : mul (xp i 1) b = xp i b := by
  induction i with
  | zero => exact one_mul hb
  | succ i ih =>
    show mk (xt (xp i 1)) b 8 = xt (xp i b)
    rw [mk_xt (xp_lt (by omega) i)]
    exact congrArg xt ih
/-- the powers of x, one after the other -/
def pows : Nat → Nat → List Nat
  | 0, _ => []
  | n + 1, a => a :: pows n (xt a)
theorem pows_spec (n a c : Nat) (h : c ∈ pows n a) : ∃ i, c = xp i a := by
  induction n generalizing a with
  | zero => simp [pows] at h
  | succ n ih =>
    simp only [pows, List.mem_cons] at h
    rcases h with rfl | h
    · exact ⟨0, rfl⟩
    · obtain ⟨i, hi⟩ := ih _ h
      exact ⟨i + 1, by rw [hi, xp_xt]; rfl⟩
theorem is_power {a : Nat} (h : a < 256) (h0 : a ≠ 0) : ∃ i, a = xp i 1 := by
  have := allTo_spec (p := fun a => a == 0 || (pows 255 1).contains a) (n := 256) (by decide +kernel) a h
  exact pows_spec 255 1 a (by simpa [h0] using this)
theorem mul_comm {a b : Nat} (ha : a < 256) (hb : b < 256) : mul a b = mul b a := by
  by_cases a0 : a = 0
  · subst a0; rw [zero_mul, mul_zero]
  by_cases b0 : b = 0
  · subst b0; rw [zero_mul, mul_zero]
  obtain ⟨i, rfl⟩ := is_power ha a0
  obtain ⟨j, rfl⟩ := is_power hb b0
  rw [xp_mul hb, xp_mul ha, ← xp_add, ← xp_add, Nat.add_comm]
theorem mul_assoc {a b c : Nat} (ha : a < 256) (hb : b < 256) (hc : c < 256) : mul (mul a b) c = mul a (mul b c) := by
  by_cases a0 : a = 0
  · subst a0; rw [zero_mul, zero_mul, zero_mul]
  by_cases b0 : b = 0
  · subst b0; rw [mul_zero, zero_mul, mul_zero]
  obtain ⟨i, rfl⟩ := is_power ha a0
  obtain ⟨j, rfl⟩ := is_power hb b0
  rw [xp_mul hb, xp_mul hc, ← xp_add, xp_mul hc, xp_mul (xp_lt hc j), xp_add]
theorem mul_ne {a b : Nat} (ha : a < 256) (hb : b < 256) (a0 : a ≠ 0) (b0 : b ≠ 0) : mul a b ≠ 0 := by
  obtain ⟨i, rfl⟩ := is_power ha a0
  rw [xp_mul hb]; exact xp_ne hb b0 i
theorem mul_eq_zero {a b : Nat} (ha : a < 256) (hb : b < 256) : mul a b = 0 ↔ a = 0 ∨ b = 0 := by
  constructor
  · intro h
    by_cases a0 : a = 0
    · exact .inl a0
    by_cases b0 : b = 0
    · exact .inr b0
    exact absurd h (mul_ne ha hb a0 b0)
  · rintro (rfl | rfl)
    · exact zero_mul _
    · exact mul_zero _

/-! the reference's product -/
theorem rB_xor (n m j : Nat) : rB (n ^^^ m) j = rB n j ^^^ rB m j := by
  induction j with
  | zero => rfl
  | succ j ih =>
    simp only [rB, bit_iff]
    rw [ih, Nat.testBit_xor]
    cases (rB n j).testBit (14 - j) <;> cases (rB m j).testBit (14 - j) <;> simp
    · exact Nat.xor_assoc _ _ _
    · rw [Nat.xor_assoc, Nat.xor_assoc, Nat.xor_comm (rB m j)]
    · rw [xor4, Nat.xor_self, Nat.xor_zero]
theorem rB_pow {a k : Nat} (ha : a < 256) (hk : k < 8) : rB (a * 2 ^ k) 7 = xp k a := by
  have := allTo_spec (allTo_spec (p := fun a => allTo (fun k => rB (a * 2 ^ k) 7 == xp k a) 8) (n := 256) (by decide +kernel) a ha) k hk
  simpa using this
theorem rB_zero : rB 0 7 = 0 := by decide +kernel
theorem ref_mk {a : Nat} (ha : a < 256) (b k : Nat) (hk : k ≤ 8) : rB (rA a b k) 7 = mk a b k := by
  induction k with
  | zero => exact rB_zero
  | succ k ih =>
    simp only [rA, mk]
    have ih := ih (by omega)
    split
    · rw [rB_xor, ih, rB_pow ha (by omega)]
    · exact ih
theorem ref_mul {a : Nat} (ha : a < 256) (b : Nat) : rB (rA a b 8) 7 = mul a b := ref_mk ha b 8 (by omega)
theorem rA_lt {a : Nat} (ha : a < 256) (b k : Nat) : rA a b k < 2 ^ (8 + k) := by
  induction k with
  | zero => simp [rA]
  | succ k ih =>
    simp only [rA]
    have : 2 ^ (8 + k) < 2 ^ (8 + (k + 1)) := Nat.pow_lt_pow_right (by omega) (by omega)
    split
    · refine Nat.xor_lt_two_pow (by omega) ?_
      have : a * 2 ^ k < 2 ^ 8 * 2 ^ k := Nat.mul_lt_mul_of_pos_right (by omega) (Nat.pow_pos (by omega))
      rw [← Nat.pow_add] at this
      omega
    · omega
theorem rA_lt16 {a : Nat} (ha : a < 256) (b k : Nat) (hk : k ≤ 8) : rA a b k < 65536 := by
  have := rA_lt ha b k
  have : 2 ^ (8 + k) ≤ 2 ^ 16 := Nat.pow_le_pow_right (by omega) (by omega)
  omega
theorem rB_lt16 {n : Nat} (h : n < 65536) (j : Nat) : rB n j < 65536 := by
  induction j with
  | zero => exact h
  | succ j ih =>
    simp only [rB]; split
    · have : 285 * 2 ^ (6 - j) ≤ 285 * 2 ^ 6 := Nat.mul_le_mul_left _ (Nat.pow_le_pow_right (by omega) (by omega))
      exact Nat.xor_lt_two_pow (n := 16) ih (by omega)
    · exact ih
end Go.Proofs.Ytpiefebngnlfoaa.Fld
