/-
  The statement Field: for all bytes a, b and c the function answers true: products of the program do not hang on order or brackets, go with sums, 1 changes nothing, and a product is 0 only where a factor is. No condition.
-/
import Derived.Test.YtpiefebngnlfoaaRows
import Derived.WalkKit
import Derived.ProofKit
import Derived.OpenShut
import Derived.Test.YtpiefebngnlfoaaMulw
namespace Go.Proofs.Ytpiefebngnlfoaa.field
open Go.ChangeShapes Go.WideShapes Go.ChangeAt Go.RowKit
set_option linter.unusedVariables false      -- a walk need not use every 'w<i>' (that an integer argument fits its kind)

theorem own : ownKnob Try.prog.godebug = none := by kernel_rfl

theorem ret_bool {b : Bool} (h : b = true) : Ending.returned (.bool b) = .returned (.bool true) := by rw [h]
/-! ### STEP 1: THE WALK: the Go text returns true. 'Grown w w'': the world has at most new blocks (Derived/RowKit3.lean). Part the cases AHEAD of 'go_enter' where a test parts the walk; take each callee by a contract of your own. -/
set_option maxRecDepth 100000 in
set_option maxHeartbeats 1000000 in
theorem walk (a0 : Int) (a1 : Int) (a2 : Int) (w0 : (Lit.int .u8 a0).wf = true) (w1 : (Lit.int .u8 a1).wf = true) (w2 : (Lit.int .u8 a2).wf = true) (w : World) :
    Calls Try.prog 4 #[.int .u8 a0, .int .u8 a1, .int .u8 a2] w fun e w' => e = .returned (.bool true) ∧ Grown w w' := by
  have b0 := bounds_u8 w0
  have b1 := bounds_u8 w1
  have b2 := bounds_u8 w2
  clear w0 w1 w2
  obtain ⟨x, rfl⟩ := Int.eq_ofNat_of_zero_le b0.1
  obtain ⟨y, rfl⟩ := Int.eq_ofNat_of_zero_le b1.1
  obtain ⟨z, rfl⟩ := Int.eq_ofNat_of_zero_le b2.1
  have hx : x < 256 := by omega
  have hy : y < 256 := by omega
  have hz : z < 256 := by omega
  clear b0 b1 b2
  have hxy := Fld.mul_lt hx y
  have hyz := Fld.mul_lt hy z
  have hxz := Fld.mul_lt hx z
  have f1 : (((Fld.mul y x : Nat) : Int) != ((Fld.mul x y : Nat) : Int)) = false := by rw [Fld.mul_comm hy hx]; simp
  have f2 : (((Fld.mul (Fld.mul x y) z : Nat) : Int) != ((Fld.mul x (Fld.mul y z) : Nat) : Int)) = false := by rw [Fld.mul_assoc hx hy hz]; simp
  have f3 : (((Fld.mul x (y ^^^ z) : Nat) : Int) != bits .xor .i64 ((Fld.mul x y : Nat) : Int) ((Fld.mul x z : Nat) : Int)) = false := by
    rw [i64_xor_nat _ _ (by omega) (by omega), Fld.mul_add]; simp
  have f4 : (((Fld.mul x 1 : Nat) : Int) != (x : Int)) = false := by rw [Fld.mul_one hx]; simp
  have hyz' := Fld.xor_lt hy hz
  have E := hide (i64_xor_nat y z (by omega) (by omega))
  go_enter Try.func4, Try.ntmps4
  go_wp2_with fail
  refine (pmul_nat x y _ hx hy).mono ?_; rintro e w' ⟨rfl, rfl⟩
  go_wp2_with fail
  refine (pmul_nat y z _ hy hz).mono ?_; rintro e w' ⟨rfl, rfl⟩
  go_wp2_with fail
  refine (pmul_nat y x _ hy hx).mono ?_; rintro e w' ⟨rfl, rfl⟩
  go_wp2_with fail
  refine (pmul_nat _ z _ hxy hz).mono ?_; rintro e w' ⟨rfl, rfl⟩
  go_wp2_with fail
  refine (pmul_nat x _ _ hx hyz).mono ?_; rintro e w' ⟨rfl, rfl⟩
  go_wp2_with fail
  rw [E.out]
  refine (pmul_nat x _ _ hx hyz').mono ?_; rintro e w' ⟨rfl, rfl⟩
  go_wp2_with fail
  refine (pmul_nat x z _ hx hz).mono ?_; rintro e w' ⟨rfl, rfl⟩
  go_wp2_with fail
  refine (pmul_nat x 1 _ hx (by omega)).mono ?_; rintro e w' ⟨rfl, rfl⟩
  clear f1 f2 f3 E
  by_cases x0 : x = 0
  · have t1 : ((x : Int) == 0) = true := by simp; omega
    have t2 : (((Fld.mul x y : Nat) : Int) == 0) = true := by rw [x0, Fld.zero_mul]; rfl
    clear x0
    go_wp2
    go_ret
    exact ⟨ret_bool (decide_eq_true (by omega)), Grown.refl _⟩
  · have t1 : ((x : Int) == 0) = false := by simp; omega
    by_cases y0 : y = 0
    · have t2 : (((Fld.mul x y : Nat) : Int) == 0) = true := by rw [y0, Fld.mul_zero]; rfl
      have t3 : ((y : Int) == 0) = true := by simp; omega
      clear x0 y0
      go_wp2
      go_ret
      exact ⟨ret_bool (decide_eq_true (by omega)), Grown.refl _⟩
    · have t2 : (((Fld.mul x y : Nat) : Int) == 0) = false := by have := Fld.mul_ne hx hy x0 y0; simp; omega
      have t3 : ((y : Int) == 0) = false := by simp; omega
      clear x0 y0
      go_wp2
      go_ret
      exact ⟨ret_bool (decide_eq_true (by omega)), Grown.refl _⟩

/-! ### THE ROW's STEP: WRITTEN OUT: LEAVE IT -/
set_option maxRecDepth 100000 in
theorem lifted (os : Os) (started : os.Started) (H : Type) (enc : TypeId × Value → H) :
    ReturnsInHanded {} Try.checked os 4 .any (Rows.fieldSpec.pre6 enc Try.prog Try.f4 Rows.fieldRow.domain false) (Rows.fieldSpec.post enc Try.prog Try.f4 false true false false) := by
  refine returnsInHanded_of_change (C := Try.checked) own started (by kernel_rfl) Try.func4
    (ChangeSpec.witness6 (enc := enc) (C := Try.checked) false ⟨#[], #[.int .u8 0, .int .u8 0, .int .u8 0], []⟩ 8 (by kernel_rfl) (by kernel_rfl) (by kernel_rfl) (by kernel_rfl)) ?_
  intro W base args ds gs before hval0 hW hcnd _
  have hval : ∀ (j : Nat) t v, Try.f4.params[j]? = some t → args[j]? = some v → Value.okWide Try.prog W .any base t v := hval0
  have hW' := hW
  obtain ⟨p, q, hA0, hV, rfl, hfz, hnd⟩ := hW
  have hA : DataW.TrodAll enc Try.prog W 0 (fun _ => true) true Try.f4.params.toList args.toList ds p := hA0
  rw [Try.params4] at hA hval
  obtain ⟨v0, vs0, d0, ds0, p0, q0, hargs, rfl, rfl, h0, r0⟩ := trodAll_cons hA
  obtain ⟨v1, vs1, d1, ds1, p1, q1, rfl, rfl, rfl, h1, r1⟩ := trodAll_cons r0
  obtain ⟨v2, vs2, d2, ds2, p2, q2, rfl, rfl, rfl, h2, r2⟩ := trodAll_cons r1
  obtain ⟨rfl, rfl, rfl⟩ := trodAll_nil r2
  obtain rfl : args = #[v0, v1, v2] := by cases args; simp_all
  obtain ⟨rfl, rfl⟩ := trodVars_none hV
  obtain ⟨a0, rfl, rfl, rfl, w0⟩ := open_int Try.underlying5 (hval 0 5 v0 rfl rfl) h0
  obtain ⟨a1, rfl, rfl, rfl, w1⟩ := open_int Try.underlying5 (hval 1 5 v1 rfl rfl) h1
  obtain ⟨a2, rfl, rfl, rfl, w2⟩ := open_int Try.underlying5 (hval 2 5 v2 rfl rfl) h2
  clear hA0 hval0
  simp only [List.append_nil] at hW'
  refine (walk a0 a1 a2 w0 w1 w2 W).mono fun e W' ⟨he, hg⟩ => ?_
  subst he
  exact ⟨_, rfl, post_of_same (pa := []) (pv := []) hW' (fun _ _ _ => (trodAll_cons_mk (shut_bool Try.underlying4 _) trodAll_mk0)) (fun sp _ => (trodAll_cons_mk (shut_int Try.underlying5 w0) (trodAll_cons_mk (shut_int Try.underlying5 w1) (trodAll_cons_mk (shut_int Try.underlying5 w2) trodAll_mk0)))) (fun _ _ => rfl) rfl
    (hg.frame _) hg.2.1 (ok_one (by kernel_rfl) rfl (okWide_bool_mk Try.underlying4 _))⟩

theorem over : Rows.fieldRow.holds Try.pinned (OpenSpec.ofChange Rows.fieldSpec) :=
  OpenClaim.holds_of_wide 4 Try.f4 rfl rfl rfl rfl rfl rfl rfl ⟨rfl, rfl, rfl, rfl, rfl⟩ rfl rfl rfl rfl rfl (by kernel_rfl) Try.func4 (by kernel_rfl)
    (of_decide_eq_true (by kernel_rfl)) (by unfold Func.isWrapper; first | (rw [if_pos (by decide +kernel)]; kernel_rfl) | (rw [if_neg (by decide +kernel)]; exact ⟨rfl, rfl⟩))
    (fun os started H enc _ => lifted os started H enc)

/-- ████ THE STATEMENT ████ -/
theorem proved : Rows.FieldSaid :=
  over
#print axioms proved
end Go.Proofs.Ytpiefebngnlfoaa.field
