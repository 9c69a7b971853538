/-
  What the program's and the reference's products return, for all arguments: the walks of field.IsElement, field.timesX, field.Mul, mosaic.Mul and mosaicref.Mul.
-/
import Derived.Test.YtpiefebngnlfoaaRows
import Derived.Test.YtpiefebngnlfoaaFld
import Derived.WalkKit
import Derived.Laws.BitsAllLaws
namespace Go.Proofs.Ytpiefebngnlfoaa
open Go.RowKit

theorem hide {p : Prop} (h : p) : Hid p := h
theorem and128_lo (a : Nat) (h : a < 128) : bits .and .u8 (a : Int) 128 = 0 := by
  rw [show (128 : Int) = ((128 : Nat) : Int) from rfl, u8_and_nat a 128 (by omega) (by omega)]
  have := Fld.allTo_spec (p := fun a => a &&& 128 == 0) (n := 128) (by decide +kernel) a h
  simp at this; rw [this]; rfl
theorem and128_hi (a : Nat) (h : 128 ≤ a) (h' : a < 256) : bits .and .u8 (a : Int) 128 = 128 := by
  rw [show (128 : Int) = ((128 : Nat) : Int) from rfl, u8_and_nat a 128 (by omega) (by omega)]
  have := Fld.allTo_spec (p := fun a => a < 128 || a &&& 128 == 128) (n := 256) (by decide +kernel) a h'
  simp at this
  rcases this with h | h
  · omega
  · rw [h]

theorem ret_int {k : IntKind} {a b : Int} (h : a = b) : Ending.returned (.int k a) = .returned (.int k b) := by rw [h]
theorem xt_lo (a : Nat) (h : a < 128) : (a : Int) * 2 = ((Fld.xt a : Nat) : Int) := by
  unfold Fld.xt; rw [if_pos h]; omega
theorem xt_hi (a : Nat) (h : 128 ≤ a) (h' : a < 256) : bits .xor .u8 ((a : Int) * 2 % 256) 29 = ((Fld.xt a : Nat) : Int) := by
  have e : (a : Int) * 2 % 256 = ((2 * a % 256 : Nat) : Int) := by omega
  rw [e, show (29 : Int) = ((29 : Nat) : Int) from rfl, u8_xor_nat _ 29 (by omega) (by omega)]
  have := Fld.allTo_spec (p := fun a => a < 128 || 2 * a % 256 ^^^ 29 == Fld.xt a) (n := 256) (by decide +kernel) a h'
  simp at this
  rcases this with h | h
  · omega
  · rw [h]

set_option maxHeartbeats 400000 in
theorem timesX_any (a : Nat) (w : World) (h : a < 256) :
    Calls Try.prog 40 #[.int .u8 (a : Int)] w fun e w' => e = .returned (.int .u8 (Fld.xt a : Nat)) ∧ w' = w := by
  by_cases g : a < 128
  · have hb : (bits .and .u8 (a : Int) 128 == 0) = true := by rw [and128_lo a g]; rfl
    go_enter Try.func40, Try.ntmps40
    go_wp2
    go_ret
    exact ⟨ret_int (xt_lo a g), rfl⟩
  · have hb : (bits .and .u8 (a : Int) 128 == 0) = false := by rw [and128_hi a (by omega) h]; rfl
    go_enter Try.func40, Try.ntmps40
    go_wp2
    go_ret
    exact ⟨ret_int (xt_hi a (by omega) h), rfl⟩

theorem and1 (n : Nat) (h : n < 256) : bits .and .u8 (n : Int) 1 = ((n % 2 : Nat) : Int) := by
  rw [show (1 : Int) = ((1 : Nat) : Int) from rfl, u8_and_nat n 1 h (by omega), Nat.and_one_is_mod]
theorem and1_yes (n : Nat) (h : n < 256) (g : n % 2 = 1) : (bits .and .u8 (n : Int) 1 == 1) = true := by rw [and1 n h, g]; rfl
theorem and1_no (n : Nat) (h : n < 256) (g : ¬ n % 2 = 1) : (bits .and .u8 (n : Int) 1 == 1) = false := by
  rw [and1 n h, show n % 2 = 0 from by omega]; rfl
/-- b, k bits to the right. -/
def sh (b k : Nat) : Nat := b / 2 ^ k
theorem sh_succ (b k : Nat) : sh b (k + 1) = sh b k / 2 := by unfold sh; rw [Nat.pow_succ, Nat.div_div_eq_div_mul]
theorem sh_lt (b k : Nat) (h : b < 256) : sh b k < 256 := Nat.lt_of_le_of_lt (Nat.div_le_self _ _) h
theorem sh_ne (b k : Nat) (h : b < 256) (h0 : sh b k ≠ 0) : k < 8 := by
  by_cases g : k < 8
  · exact g
  · exfalso; apply h0; unfold sh
    apply Nat.div_eq_of_lt
    have : 2 ^ 8 ≤ 2 ^ k := Nat.pow_le_pow_right (by omega) (by omega)
    omega
theorem mk_end (a b k : Nat) (hk : k ≤ 8) (h0 : sh b k = 0) : Fld.mk a b k = Fld.mul a b := by
  unfold Fld.mul
  obtain ⟨j, hj⟩ := Nat.exists_eq_add_of_le hk
  have := Fld.mk_stay a b k h0 j
  rw [hj, this]
theorem mk_on (a b k : Nat) (h : sh b k % 2 = 1) : Fld.mk a b (k + 1) = Fld.mk a b k ^^^ Fld.xp k a := by
  simp only [Fld.mk]; unfold sh at h; rw [if_pos h]
theorem mk_off (a b k : Nat) (h : ¬ sh b k % 2 = 1) : Fld.mk a b (k + 1) = Fld.mk a b k := by
  simp only [Fld.mk]; unfold sh at h; rw [if_neg h]

set_option maxHeartbeats 400000 in
theorem fmul_any (a b : Nat) (w : World) (ha : a < 256) (hb : b < 256) :
    Calls Try.prog 34 #[.int .u8 (a : Int), .int .u8 (b : Int)] w fun e w' => e = .returned (.int .u8 (Fld.mul a b : Nat)) ∧ w' = w := by
  go_enter Try.func34, Try.ntmps34
  go_wp2
  go_loop [0, 1, 5] (fun x y p => ∃ k : Nat, k ≤ 8 ∧ x = .int .u8 (Fld.xp k a : Nat) ∧ y = .int .u8 (sh b k : Nat) ∧ p = .int .u8 (Fld.mk a b k : Nat)) (fun _ y _ => (intOf y).toNat)
  case atStart => exact ⟨0, by omega, rfl, by simp [sh], rfl⟩
  case round =>
    obtain ⟨k, hk, rfl, rfl, rfl⟩ := hrel
    have h1 := sh_lt b k hb
    have h2 := Fld.xp_lt ha k
    have h3 := Fld.mk_lt ha b k
    by_cases h0 : sh b k = 0
    · have H := hide (mk_end a b k hk h0)
      have hz : ((sh b k : Int) != 0) = false := by simp; omega
      go_wp2
      go_ret
      exact ⟨ret_int (by rw [H.out]), rfl⟩
    · have hk8 := sh_ne b k hb h0
      have hpos : 0 < sh b k := by omega
      have hz : ((sh b k : Int) != 0) = true := by simp; omega
      by_cases hm : sh b k % 2 = 1
      · have hb1 := and1_yes _ h1 hm
        have H := hide (mk_on a b k hm)
        clear hm h0
        go_wp2_with (go_at_call 40; refine (timesX_any _ _ h2).mono ?_; rintro e w' ⟨rfl, rfl⟩)
        go_round
        case rel => exact ⟨k + 1, by omega, rfl, by rw [sh_succ]; go_num, by rw [H.out, u8_xor_nat _ _ h3 h2]⟩
        case measure => simp [intOf]; omega
      · have hb1 := and1_no _ h1 hm
        have H := hide (mk_off a b k hm)
        clear hm h0
        go_wp2_with (go_at_call 40; refine (timesX_any _ _ h2).mono ?_; rintro e w' ⟨rfl, rfl⟩)
        go_round
        case rel => exact ⟨k + 1, by omega, rfl, by rw [sh_succ]; go_num, by rw [H.out]⟩
        case measure => simp [intOf]; omega

theorem isElement_yes (n : Int) (w : World) (h1 : 0 ≤ n) (h2 : n ≤ 255) :
    Calls Try.prog 33 #[.int .i64 n] w fun e w' => e = .returned (.bool true) ∧ w' = w := by
  go_enter Try.func33, Try.ntmps33
  go_wp2
  go_ret
  exact ⟨by simp, rfl⟩
theorem isElement_no (n : Int) (w : World) (h : ¬ (0 ≤ n ∧ n ≤ 255)) :
    Calls Try.prog 33 #[.int .i64 n] w fun e w' => e = .returned (.bool false) ∧ w' = w := by
  by_cases h1 : 0 ≤ n
  · have h2 : ¬ n ≤ 255 := by omega
    clear h
    go_enter Try.func33, Try.ntmps33
    go_wp2
    go_ret
    exact ⟨by simp, rfl⟩
  · clear h
    go_enter Try.func33, Try.ntmps33
    go_wp2
    go_ret
    exact ⟨by simp, rfl⟩

/-- the product as the document has it: 0 where one of the two is no element. -/
def prod (a b : Int) : Nat := if 0 ≤ a ∧ a ≤ 255 ∧ 0 ≤ b ∧ b ≤ 255 then Fld.mul a.toNat b.toNat else 0
theorem prod_nat (a b : Nat) (ha : a < 256) (hb : b < 256) : prod a b = Fld.mul a b := by
  unfold prod; rw [if_pos (by omega)]; simp

set_option maxHeartbeats 400000 in
theorem pmul_any (a b : Int) (w : World) :
    Calls Try.prog 10 #[.int .i64 a, .int .i64 b] w fun e w' => e = .returned (.int .i64 (prod a b : Nat)) ∧ w' = w := by
  by_cases h1 : 0 ≤ a ∧ a ≤ 255
  · by_cases h2 : 0 ≤ b ∧ b ≤ 255
    · obtain ⟨h1, h1'⟩ := h1
      obtain ⟨h2, h2'⟩ := h2
      obtain ⟨a, rfl⟩ := Int.eq_ofNat_of_zero_le h1
      obtain ⟨b, rfl⟩ := Int.eq_ofNat_of_zero_le h2
      have ha : a < 256 := by omega
      have hb : b < 256 := by omega
      have hm := Fld.mul_lt ha b
      have H := hide (prod_nat a b ha hb)
      go_enter Try.func10, Try.ntmps10
      go_wp2_with fail
      refine (isElement_yes _ _ (by omega) (by omega)).mono ?_; rintro e w' ⟨rfl, rfl⟩
      go_wp2_with fail
      refine (isElement_yes _ _ (by omega) (by omega)).mono ?_; rintro e w' ⟨rfl, rfl⟩
      go_wp2_with (go_at_call 34; refine (fmul_any a b _ ha hb).mono ?_; rintro e w' ⟨rfl, rfl⟩)
      go_ret
      exact ⟨ret_int (by rw [H.out]), rfl⟩
    · have H : Hid (prod a b = 0) := by unfold prod; rw [if_neg (by omega)]; exact rfl
      obtain ⟨h1, h1'⟩ := h1
      have G := hide h2
      clear h2
      go_enter Try.func10, Try.ntmps10
      go_wp2_with fail
      refine (isElement_yes _ _ (by omega) (by omega)).mono ?_; rintro e w' ⟨rfl, rfl⟩
      go_wp2_with fail
      refine (isElement_no _ _ G.out).mono ?_; rintro e w' ⟨rfl, rfl⟩
      go_wp2
      go_ret
      exact ⟨ret_int (by rw [H.out]; rfl), rfl⟩
  · have H : Hid (prod a b = 0) := by unfold prod; rw [if_neg (by omega)]; exact rfl
    have G := hide h1
    clear h1
    go_enter Try.func10, Try.ntmps10
    go_wp2_with fail
    refine (isElement_no _ _ G.out).mono ?_; rintro e w' ⟨rfl, rfl⟩
    go_wp2
    go_ret
    exact ⟨ret_int (by rw [H.out]; rfl), rfl⟩
theorem pmul_nat (a b : Nat) (w : World) (ha : a < 256) (hb : b < 256) :
    Calls Try.prog 10 #[.int .i64 (a : Int), .int .i64 (b : Int)] w fun e w' => e = .returned (.int .i64 (Fld.mul a b : Nat)) ∧ w' = w := by
  have := pmul_any a b w
  rw [prod_nat a b ha hb] at this
  exact this
theorem i64_xor_nat (a b : Nat) (ha : a < 2147483648) (hb : b < 2147483648) : bits .xor .i64 (a : Int) (b : Int) = ((a ^^^ b : Nat) : Int) := by
  have hx : a ^^^ b < 2 ^ 31 := Nat.xor_lt_two_pow (by omega) (by omega)
  show IntKind.i64.wrap ((BitVec.ofInt 64 (a : Int) ^^^ BitVec.ofInt 64 (b : Int)).toNat : Int) = _
  have e (n : Nat) (h : n < 2147483648) : (BitVec.ofInt 64 (n : Int)).toNat = n := by
    rw [BitVec.ofInt_natCast, BitVec.toNat_ofNat]; exact Nat.mod_eq_of_lt (by omega)
  rw [BitVec.toNat_xor, e a ha, e b hb, IntKind.wrap_i64]
  omega
end Go.Proofs.Ytpiefebngnlfoaa
