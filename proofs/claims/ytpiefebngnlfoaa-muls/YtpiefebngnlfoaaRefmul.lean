/-
  What the reference's product (mosaicref.Mul) returns, for all arguments: the same number as the program's own.
-/
import Derived.Test.YtpiefebngnlfoaaMulw
namespace Go.Proofs.Ytpiefebngnlfoaa
open Go.RowKit

theorem rA_on (a b k : Nat) (h : sh b k % 2 = 1) : Fld.rA a b (k + 1) = Fld.rA a b k ^^^ a * 2 ^ k := by
  simp only [Fld.rA]; unfold sh at h; rw [if_pos h]
theorem rA_off (a b k : Nat) (h : ¬ sh b k % 2 = 1) : Fld.rA a b (k + 1) = Fld.rA a b k := by
  simp only [Fld.rA]; unfold sh at h; rw [if_neg h]
theorem rB_on (n j : Nat) (h : sh (Fld.rB n j) (14 - j) % 2 = 1) : Fld.rB n (j + 1) = Fld.rB n j ^^^ 285 * 2 ^ (6 - j) := by
  simp only [Fld.rB]; unfold sh at h; rw [if_pos h]
theorem rB_off (n j : Nat) (h : ¬ sh (Fld.rB n j) (14 - j) % 2 = 1) : Fld.rB n (j + 1) = Fld.rB n j := by
  simp only [Fld.rB]; unfold sh at h; rw [if_neg h]

theorem pow_cast (k : Nat) : ((2 : Int) ^ k) = ((2 ^ k : Nat) : Int) := by rw [Int.natCast_pow]; rfl
theorem shr_eq (b k : Nat) : ((b : Int) / 2 ^ k).tmod 2 = ((sh b k % 2 : Nat) : Int) := by
  rw [pow_cast, ← Int.natCast_ediv, show (2 : Int) = ((2 : Nat) : Int) from rfl, Int.ofNat_tmod]; rfl
theorem shr_yes (b k : Nat) (h : sh b k % 2 = 1) : (((b : Int) / 2 ^ k).tmod 2 == 1) = true := by rw [shr_eq, h]; rfl
theorem shr_no (b k : Nat) (h : ¬ sh b k % 2 = 1) : (((b : Int) / 2 ^ k).tmod 2 == 1) = false := by
  rw [shr_eq, show sh b k % 2 = 0 from by omega]; rfl
theorem shl_eq (a k : Nat) (ha : a < 65536) (hk : k < 8) : wrap64 ((a : Int) * 2 ^ k) = ((a * 2 ^ k : Nat) : Int) := by
  rw [pow_cast, ← Int.natCast_mul]
  have : 2 ^ k ≤ 2 ^ 8 := Nat.pow_le_pow_right (by omega) (by omega)
  have : a * 2 ^ k ≤ 65536 * 2 ^ 8 := Nat.mul_le_mul (by omega) this
  unfold wrap64; omega
theorem shl_lt (a k : Nat) (ha : a < 65536) (hk : k < 8) : a * 2 ^ k < 2147483648 := by
  have : 2 ^ k ≤ 2 ^ 8 := Nat.pow_le_pow_right (by omega) (by omega)
  have : a * 2 ^ k ≤ 65536 * 2 ^ 8 := Nat.mul_le_mul (by omega) this
  omega
/-- the rest, when k bits are still to be looked at. -/
def rest (n k : Nat) : Nat := Fld.rB n (14 - k)
theorem rest_on (n k : Nat) (h1 : 8 ≤ k) (h2 : k ≤ 14) (h : sh (rest n k) k % 2 = 1) : rest n (k - 1) = rest n k ^^^ 285 * 2 ^ (k - 8) := by
  obtain ⟨j, rfl⟩ : ∃ j, k = 14 - j := ⟨14 - k, by omega⟩
  unfold rest at h ⊢
  have e1 : 14 - (14 - j) = j := by omega
  have e2 : 14 - (14 - j - 1) = j + 1 := by omega
  have e3 : 14 - j - 8 = 6 - j := by omega
  rw [e1] at h
  rw [e1, e2, e3, rB_on n j h]
theorem rest_off (n k : Nat) (h1 : 8 ≤ k) (h2 : k ≤ 14) (h : ¬ sh (rest n k) k % 2 = 1) : rest n (k - 1) = rest n k := by
  obtain ⟨j, rfl⟩ : ∃ j, k = 14 - j := ⟨14 - k, by omega⟩
  unfold rest at h ⊢
  have e1 : 14 - (14 - j) = j := by omega
  have e2 : 14 - (14 - j - 1) = j + 1 := by omega
  rw [e1] at h
  rw [e1, e2, rB_off n j h]

set_option maxRecDepth 100000 in
set_option maxHeartbeats 1000000 in
theorem rmul_nat (a b : Nat) (w : World) (ha : a < 256) (hb : b < 256) :
    Calls Try.prog 11 #[.int .i64 (a : Int), .int .i64 (b : Int)] w fun e w' => e = .returned (.int .i64 (Fld.mul a b : Nat)) ∧ w' = w := by
  have H := hide (Fld.ref_mul ha b)
  have HN := hide (Fld.rA_lt16 ha b 8 (by omega))
  have d1 : ((a : Int) < 0) = False := by simp
  have t1 : ¬ (a : Int) < 0 := by omega
  have t2 : ¬ (255 : Int) < (a : Int) := by omega
  have t3 : ¬ (b : Int) < 0 := by omega
  have t4 : ¬ (255 : Int) < (b : Int) := by omega
  clear d1
  go_enter Try.func11, Try.ntmps11
  go_wp2
  go_loop [5, 6] (fun n i => ∃ k : Nat, k ≤ 8 ∧ i = .int .i64 (k : Int) ∧ n = .int .i64 (Fld.rA a b k : Nat)) (fun _ i => 8 - (intOf i).toNat)
  case atStart => exact ⟨0, by omega, rfl, rfl⟩
  case round =>
    obtain ⟨k, hk, rfl, rfl⟩ := hrel
    have hr := Fld.rA_lt16 ha b k hk
    by_cases hlt : k < 8
    · by_cases hm : sh b k % 2 = 1
      · have ht := shr_yes b k hm
        have HH := hide (rA_on a b k hm)
        clear hm
        go_wp2
        go_round
        case rel => exact ⟨k + 1, by omega, by go_num, by rw [HH.out, shl_eq a k (by omega) hlt, i64_xor_nat _ _ (by omega) (shl_lt a k (by omega) hlt)]⟩
        case measure => simp [intOf]; omega
      · have ht := shr_no b k hm
        have HH := hide (rA_off a b k hm)
        clear hm
        go_wp2
        go_round
        case rel => exact ⟨k + 1, by omega, by go_num, by rw [HH.out]⟩
        case measure => simp [intOf]; omega
    · obtain rfl : k = 8 := by omega
      generalize hN : Fld.rA a b 8 = N at *
      clear hN
      go_wp2
      go_loop [5, 7] (fun n i => ∃ k : Nat, 7 ≤ k ∧ k ≤ 14 ∧ i = .int .i64 (k : Int) ∧ n = .int .i64 (rest N k : Nat)) (fun _ i => (intOf i).toNat)
      case atStart => exact ⟨14, by omega, by omega, rfl, rfl⟩
      case round =>
        obtain ⟨k, hk1, hk2, rfl, rfl⟩ := hrel
        have hr2 : rest N k < 65536 := Fld.rB_lt16 hr _
        by_cases hlt : 8 ≤ k
        · by_cases hm : sh (rest N k) k % 2 = 1
          · have ht := shr_yes (rest N k) k hm
            have HH := hide (rest_on N k hlt hk2 hm)
            clear hm
            go_wp2
            go_round
            case rel =>
              refine ⟨k - 1, by omega, by omega, by rw [show ((k - 1 : Nat) : Int) = (k : Int) - 1 from by omega], ?_⟩
              have e := shl_eq 285 (k - 8) (by omega) (by omega)
              have e' := i64_xor_nat (rest N k) (285 * 2 ^ (k - 8)) (by omega) (shl_lt 285 (k - 8) (by omega) (by omega))
              rw [HH.out, ← e', ← e]; rfl
            case measure => simp [intOf]; omega
          · have ht := shr_no (rest N k) k hm
            have HH := hide (rest_off N k hlt hk2 hm)
            clear hm
            go_wp2
            go_round
            case rel => exact ⟨k - 1, by omega, by omega, by rw [show ((k - 1 : Nat) : Int) = (k : Int) - 1 from by omega], by rw [HH.out]⟩
            case measure => simp [intOf]; omega
        · obtain rfl : k = 7 := by omega
          go_wp2
          go_ret
          exact ⟨ret_int (by rw [← H.out]; rfl), rfl⟩

set_option maxRecDepth 100000 in
set_option maxHeartbeats 1000000 in
theorem rmul_any (a b : Int) (w : World) :
    Calls Try.prog 11 #[.int .i64 a, .int .i64 b] w fun e w' => e = .returned (.int .i64 (prod a b : Nat)) ∧ w' = w := by
  by_cases h : 0 ≤ a ∧ a ≤ 255 ∧ 0 ≤ b ∧ b ≤ 255
  · obtain ⟨h1, h2, h3, h4⟩ := h
    obtain ⟨a, rfl⟩ := Int.eq_ofNat_of_zero_le h1
    obtain ⟨b, rfl⟩ := Int.eq_ofNat_of_zero_le h3
    have := rmul_nat a b w (by omega) (by omega)
    rw [← prod_nat a b (by omega) (by omega)] at this
    exact this
  · have H : Hid (prod a b = 0) := by unfold prod; rw [if_neg h]; exact rfl
    by_cases h1 : a < 0
    · clear h
      go_enter Try.func11, Try.ntmps11
      go_wp2
      go_ret
      exact ⟨ret_int (by rw [H.out]; rfl), rfl⟩
    by_cases h2 : 255 < a
    · clear h
      go_enter Try.func11, Try.ntmps11
      go_wp2
      go_ret
      exact ⟨ret_int (by rw [H.out]; rfl), rfl⟩
    by_cases h3 : b < 0
    · clear h
      go_enter Try.func11, Try.ntmps11
      go_wp2
      go_ret
      exact ⟨ret_int (by rw [H.out]; rfl), rfl⟩
    have h4 : 255 < b := by omega
    clear h
    go_enter Try.func11, Try.ntmps11
    go_wp2
    go_ret
    exact ⟨ret_int (by rw [H.out]; rfl), rfl⟩
end Go.Proofs.Ytpiefebngnlfoaa
