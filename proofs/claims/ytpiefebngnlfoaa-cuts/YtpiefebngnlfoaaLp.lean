/-
  What the reference's product (mosaicref.Mul) returns, for all arguments: the same number as the program's own.
-/
import Derived.Test.YtpiefebngnlfoaaLa
import Derived.Test.YtpiefebngnlfoaaLl
import Derived.Test.YtpiefebngnlfoaaLo
import Derived.Test.YtpiefebngnlfoaaLk
namespace Go.Proofs.Ytpiefebngnlfoaa
open Go.RowKit

theorem rA_on (a b k : Nat) (h : sh b k % 2 = 1) : Fld.rA a b (k + 1) = Fld.rA a b k ^^^ a * 2 ^ k := by
  simp only [Fld.rA]; unfold sh at h; rw [if_pos h]
theorem rA_off (a b k : Nat) (h : ¬ sh b k % 2 = 1) : Fld.rA a b (k + 1) = Fld.rA a b k := by
  simp only [Fld.rA]; unfold sh at h; rw [if_neg h]
theorem rB_on (n j : Nat) (h : sh (Fld.rB n j) (14 - j) % 2 = 1) : Fld.rB n (j + 1) = Fld.rB n j ^^^ 285 * 2 ^ (6 - j) := by
  simp only [Fld.rB]; unfold sh at h; rw [if_pos h]
theorem rB_off (n j : Nat) (h : ¬ sh (Fld.rB n j) (14 - j) % 2 = 1) : Fld.rB n (j + 1) = Fld.rB n j := by
  simp only [Fld.rB]; unfold sh at h; rw [if_neg h]

theorem pow_cast (k : Nat) : ((2 : Int) ^ k) = ((2 ^ k : Nat) : Int) := by rw [Int.natCast_pow]; rfl
theorem shr_eq (b k : Nat) : ((b : Int) / 2 ^ k).tmod 2 = ((sh b k % 2 : Nat) : Int) := by
  rw [pow_cast, ← Int.natCast_ediv, show (2 : Int) = ((2 : Nat) : Int) from rfl, Int.ofNat_tmod]; rfl
theorem shr_yes (b k : Nat) (h : sh b k % 2 = 1) : (((b : Int) / 2 ^ k).tmod 2 == 1) = true := by rw [shr_eq, h]; rfl
theorem shr_no (b k : Nat) (h : ¬ sh b k % 2 = 1) : (((b : Int) / 2 ^ k).tmod 2 == 1) = false := by
  rw [shr_eq, show sh b k % 2 = 0 from by omega]; rfl
theorem shl_eq (a k : Nat) (ha : a < 65536) (hk : k < 8) : wrap64 ((a : Int) * 2 ^ k) = ((a * 2 ^ k : Nat) : Int) := by
  rw [pow_cast, ← Int.natCast_mul]
  have : 2 ^ k ≤ 2 ^ 8 := Nat.pow_le_pow_right (by omega) (by omega)
  have : a * 2 ^ k ≤ 65536 * 2 ^ 8 := Nat.mul_le_mul (by omega) this
  unfold wrap64; omega
theorem shl_lt (a k : Nat) (ha : a < 65536) (hk : k < 8) : a * 2 ^ k < 2147483648 := by
  have : 2 ^ k ≤ 2 ^ 8 := Nat.pow_le_pow_right (by omega) (by omega)
  have : a * 2 ^ k ≤ 65536 * 2 ^ 8 := Nat.mul_le_mul (by omega) this
  omega
/-- the rest, when k bits are still to be looked at. -/
def rest (n k : Nat) : Nat := Fld.rB n (14 - k)
theorem rest_on (n k : Nat) (h1 : 8 ≤ k) (h2 : k ≤ 14) (h : sh (rest n k) k % 2 = 1) : rest n (k - 1) = rest n k ^^^ 285 * 2 ^ (k - 8) := by
  obtain ⟨j, rfl⟩ : ∃ j, k = 14 - j := ⟨14 - k, by omega⟩
  unfold rest at h ⊢
  have e1 : 14 - (14 - j) = j := by omega
  have e2 : 14 - (14 - j - 1) = j + 1 := by omega
  have e3 : 14 - j - 8 = 6 - j := by omega
  rw [e1] at h
  rw [e1, e2, e3, rB_on n j h]
theorem rest_off (n k : Nat) (h1 : 8 ≤ k) (h2 : k ≤ 14) (h : ¬ sh (rest n k) k % 2 = 1) : rest n (k - 1) = rest n k := by
  obtain ⟨j, rfl⟩ : ∃ j, k = 14 - j := ⟨14 - k, by omega⟩
  unfold rest at h ⊢
  have e1 : 14 - (14 - j) = j := by omega
  have e2 : 14 - (14 - j - 1) = j + 1 := by omega
  rw [e1] at h
  rw [e1, e2, rB_off n j h]

set_option maxRecDepth 100000 in
set_option maxHeartbeats 1000000 in
theorem rmul_nat (a b : Nat) (w : World) (ha : a < 256) (hb : b < 256) :
    Calls Try.prog 11 #[.int .i64 (a : Int), .int .i64 (b : Int)] w fun e w' => e = .returned (.int .i64 (Fld.mul a b : Nat)) ∧ w' = w := by
  have H := hide (Fld.ref_mul ha b)
  have HN := hide (Fld.rA_lt16 ha b 8 (by omega))
  have d1 : ((a : Int) < 0) = False := by simp
  have t1 : ¬ (a : Int) < 0 := by omega
  have t2 : ¬ (255 : Int) < (a : Int) := by omega
  have t3 : ¬ (b : Int) < 0 := by omega
  have t4 : ¬ (255 : Int) < (b : Int) := by omega
  clear d1
  go_enter Try.func11, Try.ntmps11
  go_wp2
  go_loop [5, 6] (fun n i => ∃ k : Nat, k ≤ 8 ∧ i = .int .i64 (k : Int) ∧ n = .int .i64 (Fld.rA a b k : Nat)) (fun _ i => 8 - (intOf i).toNat)
  case atStart => exact ⟨0, by omega, rfl, rfl⟩
  case round =>
    obtain ⟨k, hk, rfl, rfl⟩ := hrel
    have hr := Fld.rA_lt16 ha b k hk
    by_cases hlt : k < 8
    · by_cases hm : sh b k % 2 = 1
      · have ht := shr_yes b k hm
        have HH := hide (rA_on a b k hm)
        clear hm
        go_wp2
        go_round
        case rel => exact ⟨k + 1, by omega, by go_num, by rw [HH.out, shl_eq a k (by omega) hlt, i64_xor_nat _ _ (by omega) (shl_lt a k (by omega) hlt)]⟩
        case measure => simp [intOf]; omega
      · have ht := shr_no b k hm
        have HH := hide (rA_off a b k hm)
        clear hm
        go_wp2
        go_round
        case rel => exact ⟨k + 1, by omega, by go_num, by rw [HH.out]⟩
        case measure => simp [intOf]; omega
    · obtain rfl : k = 8 := by omega
      generalize hN : Fld.rA a b 8 = N at *
      clear hN
      go_wp2
      go_loop [5, 7] (fun n i => ∃ k : Nat, 7 ≤ k ∧ k ≤ 14 ∧ i = .int .i64 (k : Int) ∧ n = .int .i64 (rest N k : Nat)) (fun _ i => (intOf i).toNat)
      case atStart => exact ⟨14, by omega, by omega, rfl, rfl⟩
      case round =>
        obtain ⟨k, hk1, hk2, rfl, rfl⟩ := hrel
        have hr2 : rest N k < 65536 := Fld.rB_lt16 hr _
        by_cases hlt : 8 ≤ k
        · by_cases hm : sh (rest N k) k % 2 = 1
          · have ht := shr_yes (rest N k) k hm
            have HH := hide (rest_on N k hlt hk2 hm)
            clear hm
            go_wp2
            go_round
            case rel =>
              refine ⟨k - 1, by omega, by omega, by rw [show ((k - 1 : Nat) : Int) = (k : Int) - 1 from by omega], ?_⟩
              have e := shl_eq 285 (k - 8) (by omega) (by omega)
              have e' := i64_xor_nat (rest N k) (285 * 2 ^ (k - 8)) (by omega) (shl_lt 285 (k - 8) (by omega) (by omega))
              rw [HH.out, ← e', ← e]; rfl
            case measure => simp [intOf]; omega
          · have ht := shr_no (rest N k) k hm
            have HH := hide (rest_off N k hlt hk2 hm)
            clear hm
            go_wp2
            go_round
            case rel => exact ⟨k - 1, by omega, by omega, by rw [show ((k - 1 : Nat) : Int) = (k : Int) - 1 from by omega], by rw [HH.out]⟩
            case measure => simp [intOf]; omega
        · obtain rfl : k = 7 := by omega
          go_wp2
          go_ret
          exact ⟨ret_int (by rw [← H.out]; rfl), rfl⟩

set_option maxRecDepth 100000 in
set_option maxHeartbeats 1000000 in
theorem rmul_any (a b : Int) (w : World) :
    Calls Try.prog 11 #[.int .i64 a, .int .i64 b] w fun e w' => e = .returned (.int .i64 (prod a b : Nat)) ∧ w' = w := by
  by_cases h : 0 ≤ a ∧ a ≤ 255 ∧ 0 ≤ b ∧ b ≤ 255
  · obtain ⟨h1, h2, h3, h4⟩ := h
    obtain ⟨a, rfl⟩ := Int.eq_ofNat_of_zero_le h1
    obtain ⟨b, rfl⟩ := Int.eq_ofNat_of_zero_le h3
    have := rmul_nat a b w (by omega) (by omega)
    rw [← prod_nat a b (by omega) (by omega)] at this
    exact this
  · have H : Hid (prod a b = 0) := by unfold prod; rw [if_neg h]; exact rfl
    by_cases h1 : a < 0
    · clear h
      go_enter Try.func11, Try.ntmps11
      go_wp2
      go_ret
      exact ⟨ret_int (by rw [H.out]; rfl), rfl⟩
    by_cases h2 : 255 < a
    · clear h
      go_enter Try.func11, Try.ntmps11
      go_wp2
      go_ret
      exact ⟨ret_int (by rw [H.out]; rfl), rfl⟩
    by_cases h3 : b < 0
    · clear h
      go_enter Try.func11, Try.ntmps11
      go_wp2
      go_ret
      exact ⟨ret_int (by rw [H.out]; rfl), rfl⟩
    have h4 : 255 < b := by omega
    clear h
    go_enter Try.func11, Try.ntmps11
    go_wp2
    go_ret
    exact ⟨ret_int (by rw [H.out]; rfl), rfl⟩
end Go.Proofs.Ytpiefebngnlfoaa

/-
  mosaicref.Mul, Over, power.
-/
set_option linter.unusedVariables false
set_option linter.unusedSimpArgs false
namespace Go.Proofs.Ytpiefebngnlfoaa
open Go.RowKit Go.Conc Go.Vw

theorem rmul_r {S : Nat → Prop} {v : World} (a b : Nat) (ha : a < 256) (hb : b < 256) : CallsR Try.prog 11 #[.int .i64 (a : Nat), .int .i64 (b : Nat)] S v fun x S' v' => x = .int .i64 (Fld.mul a b : Nat) ∧ S' = S ∧ v' = v :=
  callsR_pure goodFF (by kernel_rfl) fun u => rmul_nat a b u ha hb
set_option maxRecDepth 100000 in
theorem over_r {S : Nat → Prop} {v : World} (b : Nat) (hb : b < 256) (h0 : b ≠ 0) :
    CallsR Try.prog 54 #[.int .i64 1, .int .i64 (b : Nat)] S v fun x S' v' => (∃ f, f < 256 ∧ Fld.mul b f = 1 ∧ x = .int .i64 (f : Nat)) ∧ S' = S ∧ v' = v := by
  refine callsR_body Try.func54 rfl Try.ntmps54 (by simp) fun Stop cc cs ret => ?_
  have g0 : argF #[.int .i64 1, .int .i64 (b : Nat)] 0 = .int .i64 1 := rfl
  have g1 : argF #[.int .i64 1, .int .i64 (b : Nat)] 1 = .int .i64 (b : Nat) := rfl
  generalize argF #[.int .i64 1, .int .i64 (b : Nat)] = f at g0 g1
  have hinv := Fld.inv_mul hb h0
  have hil := Fld.inv_lt b
  repeat (first|refine rA ?_|refine rB ?_|refine rC ?_|refine rD ?_|(refine rR ?_;simp only [tO, Nat.reduceAdd])|refine rE ?_|(refine rO goodFF rfl ?_;intro _ hu_ K_ hK_;go_simp;(try rw [wI _]);(try rw [wU _]);refine hK_ _ ?_;clear hK_ K_ hu_;simp only [sS, sN])|(refine rP rfl ?_;simp only [sS, sN]))
  refine reach_rounds (fun d f' S' v' => ∃ j, d = 256 - j ∧ j ≤ 256 ∧ j ≤ Fld.inv b ∧ S' = S ∧ v' = v ∧ f' 0 = .int .i64 1 ∧ f' 1 = .int .i64 (b : Nat) ∧ f' 5 = .int .i64 (j : Nat)) 256 ⟨0, by omega, by omega, Nat.zero_le _, rfl, rfl, by simp [g0], by simp [g1], by simp⟩ ?_
  rintro d f' S' v' ⟨j, rfl, hj, hji, eS, eV, q0, q1, q5⟩ next
  subst S' v'
  have hlt : j < 256 := by omega
  have hjI : (j : Int) < 256 := by omega
  repeat (first|refine rA ?_|refine rB ?_|refine rC ?_|refine rD ?_|(refine rR ?_;simp only [tO, Nat.reduceAdd])|refine rE ?_|(refine rO goodFF rfl ?_;intro _ hu_ K_ hK_;go_simp;(try rw [wI _]);(try rw [wU _]);refine hK_ _ ?_;clear hK_ K_ hu_;simp only [sS, sN])|(refine rP rfl ?_;simp only [sS, sN]))
  (refine reach_cond (t := true) (by simp [Act.eval, hjI]) ?_; simp only [if_true, if_false, reduceIte, Bool.false_eq_true])
  repeat (first|refine rA ?_|refine rB ?_|refine rC ?_|refine rD ?_|(refine rR ?_;simp only [tO, Nat.reduceAdd])|refine rE ?_|(refine rO goodFF rfl ?_;intro _ hu_ K_ hK_;go_simp;(try rw [wI _]);(try rw [wU _]);refine hK_ _ ?_;clear hK_ K_ hu_;simp only [sS, sN])|(refine rP rfl ?_;simp only [sS, sN]))
  (refine reach_callR rfl (by first | rfl | simp [Region.wanted, yielded, TA_get, *]) rfl Try.func11 (by kernel_rfl) rfl (by simp [Act.eval, *]; try rfl) (rmul_r b j hb hlt) ?_)
  rintro _ S1 v1 _ ⟨rfl, e1, e2⟩
  subst S1 v1
  simp only [stO_some]
  repeat (first|refine rA ?_|refine rB ?_|refine rC ?_|refine rD ?_|(refine rR ?_;simp only [tO, Nat.reduceAdd])|refine rE ?_|(refine rO goodFF rfl ?_;intro _ hu_ K_ hK_;go_simp;(try rw [wI _]);(try rw [wU _]);refine hK_ _ ?_;clear hK_ K_ hu_;simp only [sS, sN])|(refine rP rfl ?_;simp only [sS, sN]))
  by_cases he : Fld.mul b j = 1
  · rw [he]
    (refine reach_cond (t := true) (by simp [Act.eval]) ?_; simp only [if_true, if_false, reduceIte, Bool.false_eq_true])
    repeat (first|refine rA ?_|refine rB ?_|refine rC ?_|refine rD ?_|(refine rR ?_;simp only [tO, Nat.reduceAdd])|refine rE ?_|(refine rO goodFF rfl ?_;intro _ hu_ K_ hK_;go_simp;(try rw [wI _]);(try rw [wU _]);refine hK_ _ ?_;clear hK_ K_ hu_;simp only [sS, sN])|(refine rP rfl ?_;simp only [sS, sN]))
    refine reach_ret fun todo => ?_
    refine ret _ _ _ _ (.int .i64 (j : Nat)) ?_ ⟨⟨j, hlt, he, rfl⟩, rfl, rfl⟩
    simp [results, Try.results54]
  · have heI : ¬ ((Fld.mul b j : Nat) : Int) = 1 := by omega
    (refine reach_cond (t := false) (by simp [Act.eval, heI, he]) ?_; simp only [if_true, if_false, reduceIte, Bool.false_eq_true])
    repeat (first|refine rA ?_|refine rB ?_|refine rC ?_|refine rD ?_|(refine rR ?_;simp only [tO, Nat.reduceAdd])|refine rE ?_|(refine rO goodFF rfl ?_;intro _ hu_ K_ hK_;go_simp;(try rw [wI _]);(try rw [wU _]);refine hK_ _ ?_;clear hK_ K_ hu_;simp only [sS, sN])|(refine rP rfl ?_;simp only [sS, sN]))
    refine next _ _ _ (256 - (j + 1)) (by omega) ⟨j + 1, rfl, by omega, ?_, rfl, rfl, by simp [q0], by simp [q1], by simp⟩
    rcases Nat.lt_or_ge j (Fld.inv b) with h | h
    · exact h
    · exact absurd (show Fld.mul b j = 1 by rw [show j = Fld.inv b by omega]; exact hinv) he
set_option maxRecDepth 100000 in
theorem power_r {S : Nat → Prop} {v : World} (a n : Nat) (ha : a < 256) (hn : n ≤ 10) :
    CallsR Try.prog 53 #[.int .i64 (a : Nat), .int .i64 (n : Nat)] S v fun x S' v' => x = .int .i64 (Fld.pw a n : Nat) ∧ S' = S ∧ v' = v := by
  refine callsR_body Try.func53 rfl Try.ntmps53 (by simp) fun Stop cc cs ret => ?_
  have g0 : argF #[.int .i64 (a : Nat), .int .i64 (n : Nat)] 0 = .int .i64 (a : Nat) := rfl
  have g1 : argF #[.int .i64 (a : Nat), .int .i64 (n : Nat)] 1 = .int .i64 (n : Nat) := rfl
  generalize argF #[.int .i64 (a : Nat), .int .i64 (n : Nat)] = f at g0 g1
  repeat (first|refine rA ?_|refine rB ?_|refine rC ?_|refine rD ?_|(refine rR ?_;simp only [tO, Nat.reduceAdd])|refine rE ?_|(refine rO goodFF rfl ?_;intro _ hu_ K_ hK_;go_simp;(try rw [wI _]);(try rw [wU _]);refine hK_ _ ?_;clear hK_ K_ hu_;simp only [sS, sN])|(refine rP rfl ?_;simp only [sS, sN]))
  refine reach_rounds (fun d f' S' v' => ∃ j, d = n - j ∧ j ≤ n ∧ S' = S ∧ v' = v ∧ f' 0 = .int .i64 (a : Nat) ∧ f' 1 = .int .i64 (n : Nat) ∧ f' 5 = .int .i64 (Fld.pw a j : Nat) ∧ f' 6 = .int .i64 (j : Nat)) n ⟨0, by omega, by omega, rfl, rfl, by simp [g0], by simp [g1], by simp [Fld.pw], by simp⟩ ?_
  rintro d f' S' v' ⟨j, rfl, hj, eS, eV, q0, q1, q5, q6⟩ next
  subst S' v'
  repeat (first|refine rA ?_|refine rB ?_|refine rC ?_|refine rD ?_|(refine rR ?_;simp only [tO, Nat.reduceAdd])|refine rE ?_|(refine rO goodFF rfl ?_;intro _ hu_ K_ hK_;go_simp;(try rw [wI _]);(try rw [wU _]);refine hK_ _ ?_;clear hK_ K_ hu_;simp only [sS, sN])|(refine rP rfl ?_;simp only [sS, sN]))
  by_cases hlt : j < n
  · have hjI : (j : Int) < (n : Int) := by omega
    (refine reach_cond (t := true) (by simp [Act.eval, hlt]) ?_; simp only [if_true, if_false, reduceIte, Bool.false_eq_true])
    repeat (first|refine rA ?_|refine rB ?_|refine rC ?_|refine rD ?_|(refine rR ?_;simp only [tO, Nat.reduceAdd])|refine rE ?_|(refine rO goodFF rfl ?_;intro _ hu_ K_ hK_;go_simp;(try rw [wI _]);(try rw [wU _]);refine hK_ _ ?_;clear hK_ K_ hu_;simp only [sS, sN])|(refine rP rfl ?_;simp only [sS, sN]))
    (refine reach_callR rfl (by first | rfl | simp [Region.wanted, yielded, TA_get, *]) rfl Try.func11 (by kernel_rfl) rfl (by simp [Act.eval, *]; try rfl) (rmul_r (Fld.pw a j) a (Fld.pw_lt a j) ha) ?_)
    rintro _ S1 v1 _ ⟨rfl, e1, e2⟩
    subst S1 v1
    simp only [stO_some]
    repeat (first|refine rA ?_|refine rB ?_|refine rC ?_|refine rD ?_|(refine rR ?_;simp only [tO, Nat.reduceAdd])|refine rE ?_|(refine rO goodFF rfl ?_;intro _ hu_ K_ hK_;go_simp;(try rw [wI _]);(try rw [wU _]);refine hK_ _ ?_;clear hK_ K_ hu_;simp only [sS, sN])|(refine rP rfl ?_;simp only [sS, sN]))
    refine next _ _ _ (n - (j + 1)) (by omega) ⟨j + 1, rfl, by omega, rfl, rfl, by simp [q0], by simp [q1], by simp [Fld.pw], by simp⟩
  · obtain rfl : j = n := by omega
    (refine reach_cond (t := false) (by simp [Act.eval]) ?_; simp only [if_true, if_false, reduceIte, Bool.false_eq_true])
    refine reach_exit rfl ?_
    repeat (first|refine rA ?_|refine rB ?_|refine rC ?_|refine rD ?_|(refine rR ?_;simp only [tO, Nat.reduceAdd])|refine rE ?_|(refine rO goodFF rfl ?_;intro _ hu_ K_ hK_;go_simp;(try rw [wI _]);(try rw [wU _]);refine hK_ _ ?_;clear hK_ K_ hu_;simp only [sS, sN])|(refine rP rfl ?_;simp only [sS, sN]))
    refine reach_ret fun todo => ?_
    refine ret _ _ _ _ (.int .i64 (Fld.pw a j : Nat)) ?_ ⟨rfl, rfl, rfl⟩
    simp [results, Try.results53]
end Go.Proofs.Ytpiefebngnlfoaa

/-
  mosaicref.Solved: the equations are laid.
-/
set_option linter.unusedVariables false
set_option linter.unusedSimpArgs false
namespace Go.Proofs.Ytpiefebngnlfoaa
open Go.RowKit Go.Conc Go.Vw

/-- n numbers. -/
def intsA (n : Nat) (x : Nat → Nat) : Array Value := (Array.range n).map fun i => .int .i64 ((x i : Nat) : Int)
theorem intsA_size (n : Nat) (x : Nat → Nat) : (intsA n x).size = n := by simp [intsA]
theorem intsA_get (n : Nat) (x : Nat → Nat) (i : Nat) (h : i < n) : (intsA n x)[i]? = some (.int .i64 ((x i : Nat) : Int)) := by simp [intsA, h]
theorem intsA_congr {n : Nat} {x y : Nat → Nat} (h : ∀ i, i < n → x i = y i) : intsA n x = intsA n y := by
  apply Array.ext_getElem?
  intro c
  by_cases hc : c < n
  · rw [intsA_get n x c hc, intsA_get n y c hc, h c hc]
  · rw [Array.getElem?_eq_none (by rw [intsA_size]; omega), Array.getElem?_eq_none (by rw [intsA_size]; omega)]
theorem intsA_set (n : Nat) (x : Nat → Nat) (j y : Nat) : (intsA n x).setIfInBounds j (.int .i64 ((y : Nat) : Int)) = intsA n fun i => if i = j then y else x i := by
  apply Array.ext_getElem?
  intro c
  by_cases hc : c < n
  · rw [intsA_get n _ c hc]
    by_cases e : c = j
    · subst e
      simp [intsA_size, hc]
    · rw [Array.getElem?_setIfInBounds_ne (by omega), intsA_get n x c hc, if_neg e]
  · rw [Array.getElem?_eq_none (by simp [intsA_size]; omega), Array.getElem?_eq_none (by rw [intsA_size]; omega)]
theorem intsA_zero (n : Nat) : ((Array.range n).map fun _ => Value.int .i64 0) = intsA n fun _ => 0 := rfl
def nth : Nat → Code → Code
  | 0, c => hd c
  | n + 1, c => nth n (tl c)
def rst : Nat → Code → Code
  | 0, c => c
  | n + 1, c => rst n (tl c)
set_option maxRecDepth 100000 in
theorem infoI : ∃ i z, Try.prog.info? 58 = some i ∧ i.zero = some z ∧ i.size = 1 ∧ i.bytes = 24 ∧ z.cells = #[z] := ⟨_, _, rfl, rfl, rfl, rfl, rfl⟩
/-- Lines so far. -/
structure ML (v : World) (n : Nat) (M : Nat → Nat → Nat) (i : Nat) (sv : Value) (RB : Nat → Nat) (w : World) : Prop where
  ext : Ext v w
  own : w.ownsRow v.heap.size 58 1 sv i ((List.range i).map fun j => .slice (some ⟨RB j, 0, none⟩) n n)
  el : ∀ j, j < i → w.heap[RB j]? = some (.cells (intsA n (M j)) 3)
  newR : ∀ j, j < i → v.heap.size ≤ RB j
  inj : ∀ a b, a < i → b < i → RB a = RB b → a = b
/-- The lines: row g. -/
structure GS (v : World) (g n : Nat) (RB : Nat → Nat) (M : Nat → Nat → Nat) (w : World) : Prop where
  ext : Ext v w
  new : v.heap.size ≤ g
  row : ∃ cur, w.heap[g]? = some (.cells cur 58) ∧ 10 ≤ cur.size ∧ ∀ j, j < 10 → cur[j]? = some (.slice (some ⟨RB j, 0, none⟩) n n)
  el : ∀ j, j < 10 → w.heap[RB j]? = some (.cells (intsA n (M j)) 3)
  newR : ∀ j, j < 10 → v.heap.size ≤ RB j
  inj : ∀ a b, a < 10 → b < 10 → RB a = RB b → a = b
theorem ML.start (v : World) (n : Nat) (M : Nat → Nat → Nat) : ML v n M 0 (.slice none 0 0) (fun _ => 0) v := ⟨.refl v, World.ownsRow_nil _ _ _ _, fun j hj => by omega, fun j hj => by omega, fun a b ha => by omega⟩
theorem ML.done {v w : World} {n : Nat} {M : Nat → Nat → Nat} {sv : Value} {RB : Nat → Nat} (h : ML v n M 10 sv RB w) : ∃ g cap, sv = .slice (some ⟨g, 0, none⟩) 10 cap ∧ 10 ≤ cap ∧ GS v g n RB M w := by
  obtain ⟨g, cap, cur, q1, q2, q3, q4, q5, q6⟩ := own_some h.own (.inl (by omega))
  refine ⟨g, cap, q1, q4, h.ext, q2, ⟨cur, q3, by omega, fun k hk => ?_⟩, h.el, h.newR, h.inj⟩
  rw [q6 k hk]
  simp [hk]
/-- A line is added: of new memory LB, in w2; the list is in w3. -/
theorem ML.add {v w w2 w3 : World} {n i LB : Nat} {M : Nat → Nat → Nat} {sv sv' : Value} {RB : Nat → Nat} (h : ML v n M i sv RB w) (hE : Ext w w2) (hL : w2.heap[LB]? = some (.cells (intsA n (M i)) 3)) (hn : w.heap.size ≤ LB) (hg : Gr w2 w3 sv.ownBlock) (ho : w3.ownsRow v.heap.size 58 1 sv' (i + 1) (((List.range i).map fun j => .slice (some ⟨RB j, 0, none⟩) n n) ++ [.slice (some ⟨LB, 0, none⟩) n n])) :
    ML v n M (i + 1) sv' (fun j => if j = i then LB else RB j) w3 := by
  have gw : Gr w w2 none := ⟨hE.os, hE.output, hE.size, fun b hb _ => hE.block b hb⟩
  have how := own_gr h.own gw (by simp)
  have hne : ∀ {b : Nat} {cc : Array Value}, w2.heap[b]? = some (.cells cc 3) → some b ≠ sv.ownBlock := by
    intro b cc hb hs
    obtain ⟨c', hc'⟩ := own_type how hs.symm
    rw [hb] at hc'
    simp at hc'
  refine ⟨Gr.over (h.ext.trans _ _ _ hE) hg fun b hb => own_base how hb, ?_, fun j hj => ?_, fun j hj => ?_, fun a b ha hb e => ?_⟩
  · rw [List.range_succ, List.map_append, List.map_congr_left (g := fun j => Value.slice (some ⟨RB j, 0, none⟩) n n)]
    · simpa using ho
    · intro j hj
      have : j ≠ i := by have := List.mem_range.1 hj; omega
      simp [this]
  · by_cases e : j = i
    · subst e
      simp only [if_true]
      exact hg.row hL (hne hL)
    · simp only [e, if_false]
      have := hE.row (h.el j (by omega))
      exact hg.row this (hne this)
  · by_cases e : j = i
    · simp only [e, if_true]
      exact Nat.le_trans h.ext.size hn
    · simp only [e, if_false]
      exact h.newR j (by omega)
  · have hlt : ∀ c, c < i → RB c < w.heap.size := fun c hc => (Array.getElem?_eq_some_iff.1 (h.el c hc)).1
    by_cases ea : a = i
    · by_cases eb : b = i
      · omega
      · simp only [ea, eb, if_true, if_false] at e
        have := hlt b (by omega)
        omega
    · by_cases eb : b = i
      · simp only [ea, eb, if_true, if_false] at e
        have := hlt a (by omega)
        omega
      · simp only [ea, eb, if_false] at e
        exact h.inj a b (by omega) (by omega) e
theorem GS.rowAt {v w : World} {g n : Nat} {RB : Nat → Nat} {M : Nat → Nat → Nat} (h : GS v g n RB M w) {j : Nat} (hj : j < 10) : w.cell? ⟨g, j, none⟩ = some (.slice (some ⟨RB j, 0, none⟩) n n) := by
  obtain ⟨cur, q1, q2, q3⟩ := h.row
  rw [cell_of_row _ g j _ _ _ q1, q3 j hj]
theorem GS.num {v w : World} {g n : Nat} {RB : Nat → Nat} {M : Nat → Nat → Nat} (h : GS v g n RB M w) {j k : Nat} (hj : j < 10) (hk : k < n) : w.cell? ⟨RB j, k, none⟩ = some (.int .i64 ((M j k : Nat) : Int)) := by
  rw [cell_of_row _ (RB j) k _ _ _ (h.el j hj), intsA_get n _ k hk]
theorem GS.ne {v w : World} {g n : Nat} {RB : Nat → Nat} {M : Nat → Nat → Nat} (h : GS v g n RB M w) {j : Nat} (hj : j < 10) : RB j ≠ g := by
  intro e
  obtain ⟨cur, q1, _⟩ := h.row
  have := h.el j hj
  rw [e, q1] at this
  simp at this
theorem wr_ext {v w w' : World} {b : Nat} {o : Obj} (h : Ext v w) (hb : v.heap.size ≤ b) (hW : Wr w b o w') : Ext v w' :=
  ⟨by rw [hW.size]; exact h.size, fun c hc => (hW.other c (by omega)).trans (h.block c hc), hW.os.trans h.os, hW.output.trans h.output⟩
theorem GS.put {v w w' : World} {g n i : Nat} {RB : Nat → Nat} {M : Nat → Nat → Nat} {x : Nat → Nat} (h : GS v g n RB M w) (hi : i < 10) (hW : Wr w (RB i) (.cells (intsA n x) 3) w') : GS v g n RB (fun j => if j = i then x else M j) w' := by
  obtain ⟨cur, q1, q2, q3⟩ := h.row
  refine ⟨wr_ext h.ext (h.newR i hi) hW, h.new, ⟨cur, (hW.other g (Ne.symm (h.ne hi))).trans q1, q2, q3⟩, fun j hj => ?_, h.newR, h.inj⟩
  by_cases e : j = i
  · subst e
    simp only [if_true]
    exact hW.at_
  · simp only [e, if_false]
    rw [hW.other _ (fun q => e (h.inj j i hj hi q))]
    exact h.el j hj
theorem GS.congr {v w : World} {g n : Nat} {RB : Nat → Nat} {M M' : Nat → Nat → Nat} (h : GS v g n RB M w) (he : ∀ j k, j < 10 → k < n → M j k = M' j k) : GS v g n RB M' w :=
  ⟨h.ext, h.new, h.row, fun j hj => by rw [h.el j hj, intsA_congr fun k hk => he j k hj hk], h.newR, h.inj⟩
theorem GS.swap {v w w1 w2 : World} {g n c p : Nat} {RB : Nat → Nat} {M : Nat → Nat → Nat} {cur : Array Value} (h : GS v g n RB M w) (hc : c < 10) (hp : p < 10) (q1 : w.heap[g]? = some (.cells cur 58)) (q2 : 10 ≤ cur.size) (q3 : ∀ j, j < 10 → cur[j]? = some (.slice (some ⟨RB j, 0, none⟩) n n))
    (h1 : Wr w g (.cells (cur.setIfInBounds c (.slice (some ⟨RB p, 0, none⟩) n n)) 58) w1) (h2 : Wr w1 g (.cells ((cur.setIfInBounds c (.slice (some ⟨RB p, 0, none⟩) n n)).setIfInBounds p (.slice (some ⟨RB c, 0, none⟩) n n)) 58) w2) :
    GS v g n (fun j => if j = c then RB p else if j = p then RB c else RB j) (Fld.sw M c p) w2 := by
  have hel : ∀ j, j < 10 → w2.heap[RB j]? = some (.cells (intsA n (M j)) 3) := fun j hj => by
    rw [h2.other _ (h.ne hj), h1.other _ (h.ne hj)]
    exact h.el j hj
  refine ⟨wr_ext (wr_ext h.ext h.new h1) h.new h2, h.new, ⟨_, h2.at_, by simpa using q2, fun j hj => ?_⟩, fun j hj => ?_, fun j hj => ?_, fun a b ha hb e => ?_⟩
  · by_cases e1 : j = p
    · subst e1
      by_cases e2 : j = c
      · subst e2
        simp [show j < cur.size by omega]
      · simp [show j < cur.size by omega, e2]
    · rw [Array.getElem?_setIfInBounds_ne (by omega)]
      by_cases e2 : j = c
      · subst e2
        simp [show j < cur.size by omega]
      · rw [Array.getElem?_setIfInBounds_ne (by omega), q3 j hj]
        simp [e1, e2]
  · unfold Fld.sw
    by_cases e2 : j = c
    · simp only [e2, if_true]
      exact hel p hp
    · by_cases e1 : j = p
      · subst e1
        simp only [e2, if_true, if_false]
        exact hel c hc
      · simp only [e1, e2, if_false]
        exact hel j hj
  · by_cases e2 : j = c
    · simp only [e2, if_true]
      exact h.newR p hp
    · by_cases e1 : j = p
      · subst e1
        simp only [e2, if_true, if_false]
        exact h.newR c hc
      · simp only [e1, e2, if_false]
        exact h.newR j hj
  · have key : ∀ j, j < 10 → ∃ j', j' < 10 ∧ (if j = c then RB p else if j = p then RB c else RB j) = RB j' ∧ j' = (if j = c then p else if j = p then c else j) := fun j hj => by
      by_cases e2 : j = c
      · exact ⟨p, hp, by simp [e2], by simp [e2]⟩
      · by_cases e1 : j = p
        · subst e1
          exact ⟨c, hc, by simp [e2], by simp [e2]⟩
        · exact ⟨j, hj, by simp [e1, e2], by simp [e1, e2]⟩
    obtain ⟨a', ha', ea, ea2⟩ := key a ha
    obtain ⟨b', hb', eb, eb2⟩ := key b hb
    have hab : a' = b' := h.inj a' b' ha' hb' (by rw [← ea, ← eb]; exact e)
    rw [ea2, eb2] at hab
    split at hab <;> split at hab <;> (try split at hab) <;> (try split at hab) <;> omega

set_option maxRecDepth 100000 in
theorem sol_eq : Try.f44.body.getD .skip = .seq (nth 0 (Try.f44.body.getD .skip)) (.seq (nth 1 (Try.f44.body.getD .skip)) (.seq (nth 2 (Try.f44.body.getD .skip)) (.seq (nth 3 (Try.f44.body.getD .skip)) (.seq (nth 4 (Try.f44.body.getD .skip)) (rst 5 (Try.f44.body.getD .skip)))))) := rfl
/-- The equations. -/
def lay (at_ : Nat → Nat) (y : Nat → Nat → Nat) (i k : Nat) : Nat := if k < 10 then Fld.pw (at_ i) k else y i (k - 10)
/-- What is handed in: ten places and ten rows. -/
structure SolIn (v : World) (AB oa BL ol wd : Nat) (at_ : Nat → Nat) (q : Nat → Option Addr) (cp : Nat → Nat) (y : Nat → Nat → Nat) : Prop where
  at_ : ∀ i, i < 10 → v.cell? ⟨AB, oa + i, none⟩ = some (.int .i64 ((at_ i : Nat) : Int))
  row : ∀ i, i < 10 → v.cell? ⟨BL, ol + i, none⟩ = some (.slice (q i) wd (cp i))
  sl : ∀ i, i < 10 → SliceE v (q i) wd (cp i) (y i)
structure SolF (f : Nat → Value) (AB oa ca BL ol cl wd : Nat) (sv : Value) : Prop where
  g0 : f 0 = .slice (some ⟨AB, oa, none⟩) 10 ca
  g1 : f 1 = .slice (some ⟨BL, ol, none⟩) 10 cl
  g5 : f 5 = .int .i64 (wd : Nat)
  g6 : f 6 = sv

theorem lay_step {at_ : Nat → Nat} {y : Nat → Nat → Nat} {i n z : Nat} (j : Nat) (h : z = lay at_ y i j) : intsA n (fun k => if k = j then z else if k < j then lay at_ y i k else 0) = intsA n fun k => if k < j + 1 then lay at_ y i k else 0 := by
  refine intsA_congr fun k hk => ?_
  by_cases e : k = j
  · subst e
    simp [h]
  · simp only [if_neg e, show k < j + 1 ↔ k < j by omega]
theorem one_cell {w : World} {b : Nat} {e : Value} {t : TypeId} (h : w.heap[b]? = some (.cells #[e] t)) : ∀ j y, [e][j]? = some y → w.cell? ((⟨b, 0, none⟩ : Addr).add j) = some y := by
  intro j y hy
  cases j with
  | zero =>
    simp only [List.getElem?_cons_zero, Option.some.injEq] at hy
    subst hy
    rw [Addr.add_lit]
    exact (cell_of_row _ b 0 _ _ _ h).trans rfl
  | succ j => simp at hy

end Go.Proofs.Ytpiefebngnlfoaa

/-
  mosaicref.Solved: the first loop.
-/
set_option linter.unusedVariables false
set_option linter.unusedSimpArgs false
namespace Go.Proofs.Ytpiefebngnlfoaa
open Go.RowKit Go.Conc Go.Vw

set_option maxRecDepth 100000 in
set_option maxHeartbeats 4000000 in
theorem sol_a {S : Nat → Prop} {v : World} {f : Nat → Value} {Stop : Goroutine → (Nat → Prop) → World → Prop} {cs : List Frame} {k0 : List Item} (AB oa ca BL ol cl wd : Nat) (at_ : Nat → Nat) (q : Nat → Option Addr) (cp : Nat → Nat) (y : Nat → Nat → Nat) (hwd : wd ≤ 400) (hat : ∀ i, i < 10 → at_ i < 256) (hy : ∀ i x, y i x < 256) (hI : SolIn v AB oa BL ol wd at_ q cp y) (hf : SolF f AB oa ca BL ol cl wd (.slice none 0 0))
    (next : ∀ w f' g cap RB, GS v g (10 + wd) RB (lay at_ y) w → 10 ≤ cap → SolF f' AB oa ca BL ol cl wd (.slice (some ⟨g, 0, none⟩) 10 cap) → Vw.Reach Try.prog Stop (G ((base 44).at ⟨TA 187 f', []⟩ k0) cs) S w) :
    Vw.Reach Try.prog Stop (G ((base 44).at ⟨TA 187 f, []⟩ (.code (nth 3 (Try.f44.body.getD .skip)) :: k0)) cs) S v := by
  obtain ⟨f0, f1, f5, f6⟩ := hf
  obtain ⟨is, zs, is1, is2, is3, is4, is5⟩ := infoI
  simp only [nth, hd, tl, Try.f44, Option.getD_some]
  repeat (first|refine rA ?_|refine rB ?_|refine rC ?_|refine rD ?_|(refine rR ?_;simp only [tO, Nat.reduceAdd])|refine rE ?_|(refine rO goodFF rfl ?_;intro _ hu_ K_ hK_;go_simp;(try rw [wI _]);(try rw [wU _]);refine hK_ _ ?_;clear hK_ K_ hu_;simp only [sS, sN])|(refine rP rfl ?_;simp only [sS, sN]))
  refine reach_rounds (fun d f' S' w => ∃ i sv RB, d = 10 - i ∧ i ≤ 10 ∧ S' = S ∧ ML v (10 + wd) (lay at_ y) i sv RB w ∧ SolF f' AB oa ca BL ol cl wd sv ∧ f' 7 = .int .i64 (i : Nat)) 10 ⟨0, _, _, by omega, by omega, rfl, ML.start v _ _, ⟨by simp [f0], by simp [f1], by simp [f5], by simp [f6]⟩, by simp⟩ ?_
  rintro d f' S' w ⟨i, sv, RB, rfl, hi, eS, hM, ⟨g0, g1, g5, g6⟩, g7⟩ nxt
  subst S'
  repeat (first|refine rA ?_|refine rB ?_|refine rC ?_|refine rD ?_|(refine rR ?_;simp only [tO, Nat.reduceAdd])|refine rE ?_|(refine rO goodFF rfl ?_;intro _ hu_ K_ hK_;go_simp;(try rw [wI _]);(try rw [wU _]);refine hK_ _ ?_;clear hK_ K_ hu_;simp only [sS, sN])|(refine rP rfl ?_;simp only [sS, sN]))
  by_cases hlt : i < 10
  · have hiI : (i : Int) < 10 := by omega
    (refine reach_cond (t := true) (by simp [Act.eval, hiI]) ?_; simp only [if_true, if_false, reduceIte, Bool.false_eq_true])
    repeat (first|refine rA ?_|refine rB ?_|refine rC ?_|refine rD ?_|(refine rR ?_;simp only [tO, Nat.reduceAdd])|refine rE ?_|(refine rO goodFF rfl ?_;intro _ hu_ K_ hK_;go_simp;(try rw [wI _]);(try rw [wU _]);refine hK_ _ ?_;clear hK_ K_ hu_;simp only [sS, sN])|(refine rP rfl ?_;simp only [sS, sN]))
    refine reach_makeV goodFF rfl rfl (by kernel_rfl) (m := 10 + wd) (wd := 8) (z := .int .i64 0) rfl (by simp) (by simp) (by omega) (by omega) (by omega) Try.underlying58 (by kernel_rfl) rfl fun w1 hE1 hr1 hs1 => ?_
    simp only [stO_some]
    rw [intsA_zero] at hr1
    repeat (first|refine rA ?_|refine rB ?_|refine rC ?_|refine rD ?_|(refine rR ?_;simp only [tO, Nat.reduceAdd])|refine rE ?_|(refine rO goodFF rfl ?_;intro _ hu_ K_ hK_;go_simp;(try rw [wI _]);(try rw [wU _]);refine hK_ _ ?_;clear hK_ K_ hu_;simp only [sS, sN])|(refine rP rfl ?_;simp only [sS, sN]))
    have hci := hI.at_ i hlt
    have hri := hI.row i hlt
    have hsl := hI.sl i hlt
    refine reach_rounds (fun d f' S' w' => ∃ j, d = 10 - j ∧ j ≤ 10 ∧ S' = S ∧ (Ext w w' ∧ w'.heap[w.heap.size]? = some (.cells (intsA (10 + wd) fun k => if k < j then lay at_ y i k else 0) 3)) ∧ SolF f' AB oa ca BL ol cl wd sv ∧ f' 7 = .int .i64 (i : Nat) ∧ f' 8 = .slice (some ⟨w.heap.size, 0, none⟩) (10 + wd) (10 + wd) ∧ f' 9 = .int .i64 (j : Nat)) 10 ⟨0, by omega, by omega, rfl, ⟨hE1, by rw [hr1]; rfl⟩, ⟨by simp [g0], by simp [g1], by simp [g5], by simp [g6]⟩, by simp [g7], by simp, by simp⟩ ?_
    clear hE1 hr1 hs1 w1
    rintro d f' S' w1 ⟨j, rfl, hj, eS, ⟨hE1, hr1⟩, ⟨g0, g1, g5, g6⟩, g7, g8, g9⟩ nxt2
    subst S'
    repeat (first|refine rA ?_|refine rB ?_|refine rC ?_|refine rD ?_|(refine rR ?_;simp only [tO, Nat.reduceAdd])|refine rE ?_|(refine rO goodFF rfl ?_;intro _ hu_ K_ hK_;go_simp;(try rw [wI _]);(try rw [wU _]);refine hK_ _ ?_;clear hK_ K_ hu_;simp only [sS, sN])|(refine rP rfl ?_;simp only [sS, sN]))
    by_cases hlj : j < 10
    · have hjI : (j : Int) < 10 := by omega
      have hjn : (j : Int) < 10 + (wd : Int) := by omega
      have hc1 := hE1.cell (hM.ext.cell hci)
      (refine reach_cond (t := true) (by simp [Act.eval, hjI]) ?_; simp only [if_true, if_false, reduceIte, Bool.false_eq_true])
      repeat (first|refine rA ?_|refine rB ?_|refine rC ?_|refine rD ?_|(refine rR ?_;simp only [tO, Nat.reduceAdd])|refine rE ?_|(refine rO goodFF rfl ?_;intro _ hu_ K_ hK_;(have hc := (Ext.twin hu_).cell hc1);go_simp;(try rw [wI _]);(try rw [wU _]);refine hK_ _ ?_;clear hK_ K_ hu_;simp only [sS, sN])|(refine rP rfl ?_;simp only [sS, sN]))
      (refine reach_callR rfl (by first | rfl | simp [Region.wanted, yielded, TA_get, *]) rfl Try.func53 (by kernel_rfl) rfl (by simp [Act.eval, *]; try rfl) (power_r (at_ i) j (hat i hlt) (by omega)) ?_)
      rintro _ S2 w2 _ ⟨rfl, e1, e2⟩
      subst S2 w2
      simp only [stO_some]
      repeat (first|refine rA ?_|refine rB ?_|refine rC ?_|refine rD ?_|(refine rR ?_;simp only [tO, Nat.reduceAdd])|refine rE ?_|(refine rO goodFF rfl ?_;intro _ hu_ K_ hK_;go_simp;(try rw [wI _]);(try rw [wU _]);refine hK_ _ ?_;clear hK_ K_ hu_;simp only [sS, sN])|(refine rP rfl ?_;simp only [sS, sN]))
      refine reach_store1 goodFF rfl rfl (by kernel_rfl) (x := .tmp 43) (y := .tmp 42) (g := w.heap.size) (j := j) (z := .int .i64 ((Fld.pw (at_ i) j : Nat) : Int)) rfl (by simp) (by simp) rfl rfl hr1 (by rw [intsA_size]; omega) (by kernel_rfl) fun w3 hW => ?_
      simp only [stO_none]
      rw [intsA_set, lay_step j (by simp [lay, hlj])] at hW
      repeat (first|refine rA ?_|refine rB ?_|refine rC ?_|refine rD ?_|(refine rR ?_;simp only [tO, Nat.reduceAdd])|refine rE ?_|(refine rO goodFF rfl ?_;intro _ hu_ K_ hK_;go_simp;(try rw [wI _]);(try rw [wU _]);refine hK_ _ ?_;clear hK_ K_ hu_;simp only [sS, sN])|(refine rP rfl ?_;simp only [sS, sN]))
      refine nxt2 _ _ _ (10 - (j + 1)) (by omega) ⟨j + 1, rfl, by omega, rfl, ⟨wr_ext hE1 (Nat.le_refl _) hW, hW.at_⟩, ⟨by simp [g0], by simp [g1], by simp [g5], by simp [g6]⟩, by simp [g7], by simp [g8], by simp⟩
    · obtain rfl : j = 10 := by omega
      (refine reach_cond (t := false) (by simp [Act.eval, g9]) ?_; simp only [if_true, if_false, reduceIte, Bool.false_eq_true])
      refine reach_exit rfl ?_
      repeat (first|refine rA ?_|refine rB ?_|refine rC ?_|refine rD ?_|(refine rR ?_;simp only [tO, Nat.reduceAdd])|refine rE ?_|(refine rO goodFF rfl ?_;intro _ hu_ K_ hK_;go_simp;(try rw [wI _]);(try rw [wU _]);refine hK_ _ ?_;clear hK_ K_ hu_;simp only [sS, sN])|(refine rP rfl ?_;simp only [sS, sN]))
      refine reach_rounds (fun d f' S' w' => ∃ j, d = wd - j ∧ j ≤ wd ∧ S' = S ∧ (Ext w w' ∧ w'.heap[w.heap.size]? = some (.cells (intsA (10 + wd) fun k => if k < 10 + j then lay at_ y i k else 0) 3)) ∧ SolF f' AB oa ca BL ol cl wd sv ∧ f' 7 = .int .i64 (i : Nat) ∧ f' 8 = .slice (some ⟨w.heap.size, 0, none⟩) (10 + wd) (10 + wd) ∧ f' 10 = .int .i64 (j : Nat)) wd ⟨0, by omega, by omega, rfl, ⟨hE1, hr1⟩, ⟨by simp [g0], by simp [g1], by simp [g5], by simp [g6]⟩, by simp [g7], by simp [g8], by simp⟩ ?_
      clear hE1 hr1
      rintro d f' S' w1 ⟨j, rfl, hj, eS, ⟨hE1, hr1⟩, ⟨g0, g1, g5, g6⟩, g7, g8, g10⟩ nxt3
      subst S'
      repeat (first|refine rA ?_|refine rB ?_|refine rC ?_|refine rD ?_|(refine rR ?_;simp only [tO, Nat.reduceAdd])|refine rE ?_|(refine rO goodFF rfl ?_;intro _ hu_ K_ hK_;go_simp;(try rw [wI _]);(try rw [wU _]);refine hK_ _ ?_;clear hK_ K_ hu_;simp only [sS, sN])|(refine rP rfl ?_;simp only [sS, sN]))
      by_cases hlj : j < wd
      · have hjI : (j : Int) < (wd : Int) := by omega
        obtain ⟨B1, o1, hp1, c1, b1⟩ : ∃ B off, q i = some ⟨B, off, none⟩ ∧ wd ≤ cp i ∧ BytesAt v B off wd (y i) := by
          rcases hsl.of (by omega) with ⟨_, h, _⟩ | h
          · omega
          · exact h
        rw [hp1] at hri
        have hc1 := hE1.cell (hM.ext.cell hri)
        have hc2 := hE1.cell (hM.ext.cell (b1 j hlj))
        have hyb := hy i j
        (refine reach_cond (t := true) (by simp [Act.eval, hlj]) ?_; simp only [if_true, if_false, reduceIte, Bool.false_eq_true])
        have h10 : 10 + (j : Int) < 10 + (wd : Int) := by omega
        repeat (first|refine rA ?_|refine rB ?_|refine rC ?_|refine rD ?_|(refine rR ?_;simp only [tO, Nat.reduceAdd])|refine rE ?_|(refine rO goodFF rfl ?_;intro _ hu_ K_ hK_;(have hc := (Ext.twin hu_).cell hc1; have hc' := (Ext.twin hu_).cell hc2);go_simp;(try rw [wI _]);(try rw [wU _]);refine hK_ _ ?_;clear hK_ K_ hu_;simp only [sS, sN])|(refine rP rfl ?_;simp only [sS, sN]))
        refine reach_store1 goodFF rfl rfl (by kernel_rfl) (x := .tmp 60) (y := .tmp 59) (g := w.heap.size) (j := 10 + j) (z := .int .i64 ((y i j : Nat) : Int)) rfl (by simp) (by simp) rfl rfl hr1 (by rw [intsA_size]; omega) (by kernel_rfl) fun w3 hW => ?_
        simp only [stO_none]
        rw [intsA_set, lay_step (10 + j) (by unfold lay; rw [if_neg (by omega), show 10 + j - 10 = j by omega])] at hW
        repeat (first|refine rA ?_|refine rB ?_|refine rC ?_|refine rD ?_|(refine rR ?_;simp only [tO, Nat.reduceAdd])|refine rE ?_|(refine rO goodFF rfl ?_;intro _ hu_ K_ hK_;go_simp;(try rw [wI _]);(try rw [wU _]);refine hK_ _ ?_;clear hK_ K_ hu_;simp only [sS, sN])|(refine rP rfl ?_;simp only [sS, sN]))
        refine nxt3 _ _ _ (wd - (j + 1)) (by omega) ⟨j + 1, rfl, by omega, rfl, ⟨wr_ext hE1 (Nat.le_refl _) hW, hW.at_⟩, ⟨by simp [g0], by simp [g1], by simp [g5], by simp [g6]⟩, by simp [g7], by simp [g8], by simp⟩
      · obtain rfl : j = wd := by omega
        (refine reach_cond (t := false) (by simp [Act.eval]) ?_; simp only [if_true, if_false, reduceIte, Bool.false_eq_true])
        refine reach_exit rfl ?_
        repeat (first|refine rA ?_|refine rB ?_|refine rC ?_|refine rD ?_|(refine rR ?_;simp only [tO, Nat.reduceAdd])|refine rE ?_|(refine rO goodFF rfl ?_;intro _ hu_ K_ hK_;go_simp;(try rw [wI _]);(try rw [wU _]);refine hK_ _ ?_;clear hK_ K_ hu_;simp only [sS, sN])|(refine rP rfl ?_;simp only [sS, sN]))
        rw [intsA_congr (y := lay at_ y i) fun k hk => by simp [hk]] at hr1
        refine reach_turnQ (Q := fun x w2 => x = .slice (some ⟨w1.heap.size, 0, none⟩) 1 1 ∧ Ext w1 w2 ∧ w2.heap[w1.heap.size]? = some (.cells #[.slice (some ⟨w.heap.size, 0, none⟩) (10 + j) (10 + j)] 58)) goodFF rfl rfl (by kernel_rfl) (fun u hu => ⟨_, _, .inl (run_build1 (x := .tmp 62) (y := .slice (some ⟨w.heap.size, 0, none⟩) (10 + j) (10 + j)) rfl Try.underlying77 is1 is2 is3 is5 (by simp) rfl u), by rw [hu.heap], (Ext.twin hu).trans _ _ _ (Ext.alloc _ _), by rw [← hu.heap]; exact alloc_at _ _⟩) ?_
        rintro _ w2 ⟨rfl, hE2, hr2⟩
        simp only [stO_some]
        have hE := hE1.trans _ _ _ hE2
        have gw : Gr w w2 none := ⟨hE.os, hE.output, hE.size, fun b hb _ => hE.block b hb⟩
        refine reach_turnQ goodFF rfl rfl (by kernel_rfl) (fun u hu => append_does (s := .tmp 61) (x := .tmp 63) (ad := ⟨w1.heap.size, 0, none⟩) (m := 1) (c := 1) (news := [.slice (some ⟨w.heap.size, 0, none⟩) (10 + j) (10 + j)]) hu v.heap.size Try.underlying77 is1 is2 is3 is4 (by rw [is5]; rfl) (own_gr hM.own gw (by simp)) rfl (one_cell hr2) (fun y hy => by rw [List.mem_singleton] at hy; subst hy; rfl) (by omega) (by omega) (Nat.le_trans hM.ext.size hE.size) rfl (by simp [g6]) (by simp)) ?_
        rintro sv' w3 ⟨hs', hg3, _⟩
        simp only [stO_some]
        repeat (first|refine rA ?_|refine rB ?_|refine rC ?_|refine rD ?_|(refine rR ?_;simp only [tO, Nat.reduceAdd])|refine rE ?_|(refine rO goodFF rfl ?_;intro _ hu_ K_ hK_;go_simp;(try rw [wI _]);(try rw [wU _]);refine hK_ _ ?_;clear hK_ K_ hu_;simp only [sS, sN])|(refine rP rfl ?_;simp only [sS, sN]))
        refine nxt _ _ _ (10 - (i + 1)) (by omega) ⟨i + 1, sv', _, rfl, by omega, rfl, hM.add hE (hE2.row hr1) (Nat.le_refl _) hg3 hs', ⟨by simp [g0], by simp [g1], by simp [g5], by simp⟩, by simp⟩
  · obtain rfl : i = 10 := by omega
    obtain ⟨g, cap, rfl, hcap, hS⟩ := hM.done
    (refine reach_cond (t := false) (by simp [Act.eval, g7]) ?_; simp only [if_true, if_false, reduceIte, Bool.false_eq_true])
    refine reach_exit rfl ?_
    exact next w _ g cap RB hS hcap ⟨by simp [g0], by simp [g1], by simp [g5], by simp [g6]⟩
end Go.Proofs.Ytpiefebngnlfoaa
