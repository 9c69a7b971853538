/-
  mosaicref.Solved: one column: the row that is found, changed places, multiplied.
-/
import Derived.Test.YtpiefebngnlfoaaLp
set_option linter.unusedVariables false
set_option linter.unusedSimpArgs false
namespace Go.Proofs.Ytpiefebngnlfoaa
open Go.RowKit Go.Conc Go.Vw

/-- The slots of the second loop. -/
structure SolG (f : Nat → Value) (g cap wd c : Nat) : Prop where
  g5 : f 5 = .int .i64 (wd : Nat)
  g6 : f 6 = .slice (some ⟨g, 0, none⟩) 10 cap
  g11 : f 11 = .int .i64 (c : Nat)

set_option maxRecDepth 100000 in
set_option maxHeartbeats 4000000 in
/-- The two rows change places. -/
theorem sol_swap {S : Nat → Prop} {v w : World} {f : Nat → Value} {Stop : Goroutine → (Nat → Prop) → World → Prop} {cs : List Frame} {k0 : List Item} (g cap wd c p : Nat) (RB : Nat → Nat) (M : Nat → Nat → Nat) (hc : c < 10) (hp : p < 10) (hf : SolG f g cap wd c) (g12 : f 12 = .int .i64 (p : Nat)) (hG : GS v g (10 + wd) RB M w)
    (next : ∀ w' f' RB', GS v g (10 + wd) RB' (Fld.sw M c p) w' → SolG f' g cap wd c → Vw.Reach Try.prog Stop (G ((base 44).at ⟨TA 187 f', []⟩ (.inRegion ((opsAt 22 (Try.f44.body.getD .skip)).getD #[]) [] :: k0)) cs) S w') :
    Vw.Reach Try.prog Stop (G ((base 44).at ⟨TA 187 f, []⟩ (.code (.region 22 ((opsAt 22 (Try.f44.body.getD .skip)).getD #[]) true) :: k0)) cs) S w := by
  obtain ⟨g5, g6, g11⟩ := hf
  have hcI : (c : Int) < 10 := by omega
  have hpI : (p : Int) < 10 := by omega
  have e : opsAt 22 (Try.f44.body.getD .skip) = some _ := rfl
  rw [e] at next ⊢
  simp only [Option.getD_some] at next ⊢
  clear e
  have hrp := hG.rowAt hp
  have hrc := hG.rowAt hc
  obtain ⟨cur, q1, q2, q3⟩ := hG.row
  refine reach_drawW (fun i => decide (i < 12)) goodFF (by first | kernel_rfl | rfl) ?_
  simp only [List.size_toArray, List.length_cons, List.length_nil, Nat.reduceAdd, Nat.zero_add]
  co_applyP anyW_free (i := 0) rfl (by first | kernel_rfl | decide +kernel) (by first | kernel_rfl | decide +kernel) (by first | kernel_rfl | decide +kernel) (by first | rfl | (simp [Region.wanted, yielded, TA_get, *]; done)) (by kernel_rfl) (fun _ => run_eq_of ?run1_0) ?rest1_0
  case run1_0 =>
    intro K_ hK_
    (skip)
    go_simp
    (try rw [wrapI _ (by omega) (by omega)])
    exact hK_
  simp only [stO_some, stO_none]
  co_applyP anyW_free (i := 1) rfl (by first | kernel_rfl | decide +kernel) (by first | kernel_rfl | decide +kernel) (by first | kernel_rfl | decide +kernel) (by first | rfl | (simp [Region.wanted, yielded, TA_get, *]; done)) (by kernel_rfl) (fun _ => run_eq_of ?run1_1) ?rest1_1
  case run1_1 =>
    intro K_ hK_
    (skip)
    go_simp
    (try rw [wrapI _ (by omega) (by omega)])
    exact hK_
  simp only [stO_some, stO_none]
  co_applyP anyW_free (i := 2) rfl (by first | kernel_rfl | decide +kernel) (by first | kernel_rfl | decide +kernel) (by first | kernel_rfl | decide +kernel) (by first | rfl | (simp [Region.wanted, yielded, TA_get, *]; done)) (by kernel_rfl) (fun _ => run_eq_of ?run1_2) ?rest1_2
  case run1_2 =>
    intro K_ hK_
    (skip)
    go_simp
    (try rw [wrapI _ (by omega) (by omega)])
    exact hK_
  simp only [stO_some, stO_none]
  co_applyP anyW_free (i := 3) rfl (by first | kernel_rfl | decide +kernel) (by first | kernel_rfl | decide +kernel) (by first | kernel_rfl | decide +kernel) (by first | rfl | (simp [Region.wanted, yielded, TA_get, *]; done)) (by kernel_rfl) (fun _ => run_eq_of ?run1_3) ?rest1_3
  case run1_3 =>
    intro K_ hK_
    (skip)
    go_simp
    (try rw [wrapI _ (by omega) (by omega)])
    exact hK_
  simp only [stO_some, stO_none]
  co_applyP anyW_free (i := 4) rfl (by first | kernel_rfl | decide +kernel) (by first | kernel_rfl | decide +kernel) (by first | kernel_rfl | decide +kernel) (by first | rfl | (simp [Region.wanted, yielded, TA_get, *]; done)) (by kernel_rfl) (fun _ => run_eq_of ?run1_4) ?rest1_4
  case run1_4 =>
    intro K_ hK_
    (skip)
    go_simp
    (try rw [wrapI _ (by omega) (by omega)])
    exact hK_
  simp only [stO_some, stO_none]
  co_applyP anyW_free (i := 5) rfl (by first | kernel_rfl | decide +kernel) (by first | kernel_rfl | decide +kernel) (by first | kernel_rfl | decide +kernel) (by first | rfl | (simp [Region.wanted, yielded, TA_get, *]; done)) (by kernel_rfl) (fun _ => run_eq_of ?run1_5) ?rest1_5
  case run1_5 =>
    intro K_ hK_
    (skip)
    go_simp
    (try rw [wrapI _ (by omega) (by omega)])
    exact hK_
  simp only [stO_some, stO_none]
  co_applyP anyW_free (i := 6) rfl (by first | kernel_rfl | decide +kernel) (by first | kernel_rfl | decide +kernel) (by first | kernel_rfl | decide +kernel) (by first | rfl | (simp [Region.wanted, yielded, TA_get, *]; done)) (by kernel_rfl) (fun _ => run_eq_of ?run1_6) ?rest1_6
  case run1_6 =>
    intro K_ hK_
    (skip)
    go_simp
    (try rw [wrapI _ (by omega) (by omega)])
    exact hK_
  simp only [stO_some, stO_none]
  co_applyP anyW_quiet (i := 7) rfl (by first | kernel_rfl | decide +kernel) (by first | kernel_rfl | decide +kernel) (by first | kernel_rfl | decide +kernel) (by first | kernel_rfl | decide +kernel) (by first | rfl | (simp [Region.wanted, yielded, TA_get, *]; done)) (by kernel_rfl) (fun _ hu_ => run_eq_of ?run2_7) ?rest2_7
  case run2_7 =>
    intro K_ hK_
    (have hc := (Ext.twin hu_).cell hrp)
    go_simp
    (try rw [wrapI _ (by omega) (by omega)])
    exact hK_
  simp only [stO_some, stO_none]
  co_applyP anyW_free (i := 8) rfl (by first | kernel_rfl | decide +kernel) (by first | kernel_rfl | decide +kernel) (by first | kernel_rfl | decide +kernel) (by first | rfl | (simp [Region.wanted, yielded, TA_get, *]; done)) (by kernel_rfl) (fun _ => run_eq_of ?run3_8) ?rest3_8
  case run3_8 =>
    intro K_ hK_
    (skip)
    go_simp
    (try rw [wrapI _ (by omega) (by omega)])
    exact hK_
  simp only [stO_some, stO_none]
  co_applyP anyW_free (i := 9) rfl (by first | kernel_rfl | decide +kernel) (by first | kernel_rfl | decide +kernel) (by first | kernel_rfl | decide +kernel) (by first | rfl | (simp [Region.wanted, yielded, TA_get, *]; done)) (by kernel_rfl) (fun _ => run_eq_of ?run3_9) ?rest3_9
  case run3_9 =>
    intro K_ hK_
    (skip)
    go_simp
    (try rw [wrapI _ (by omega) (by omega)])
    exact hK_
  simp only [stO_some, stO_none]
  co_applyP anyW_free (i := 10) rfl (by first | kernel_rfl | decide +kernel) (by first | kernel_rfl | decide +kernel) (by first | kernel_rfl | decide +kernel) (by first | rfl | (simp [Region.wanted, yielded, TA_get, *]; done)) (by kernel_rfl) (fun _ => run_eq_of ?run3_10) ?rest3_10
  case run3_10 =>
    intro K_ hK_
    (skip)
    go_simp
    (try rw [wrapI _ (by omega) (by omega)])
    exact hK_
  simp only [stO_some, stO_none]
  co_applyP anyW_quiet (i := 11) rfl (by first | kernel_rfl | decide +kernel) (by first | kernel_rfl | decide +kernel) (by first | kernel_rfl | decide +kernel) (by first | kernel_rfl | decide +kernel) (by first | rfl | (simp [Region.wanted, yielded, TA_get, *]; done)) (by kernel_rfl) (fun _ hu_ => run_eq_of ?run4_11) ?rest4_11
  case run4_11 =>
    intro K_ hK_
    (have hc := (Ext.twin hu_).cell hrc)
    go_simp
    (try rw [wrapI _ (by omega) (by omega)])
    exact hK_
  simp only [stO_some, stO_none]
  co_applyP anyW_free (i := 12) rfl (by first | kernel_rfl | decide +kernel) (by first | kernel_rfl | decide +kernel) (by first | kernel_rfl | decide +kernel) (by first | rfl | (simp [Region.wanted, yielded, TA_get, *]; done)) (by kernel_rfl) (fun _ => run_eq_of ?run5_12) ?rest5_12
  case run5_12 =>
    intro K_ hK_
    (skip)
    go_simp
    (try rw [wrapI _ (by omega) (by omega)])
    exact hK_
  simp only [stO_some, stO_none]
  refine anyW_only (i := 13) (Q := fun x w1 => Wr w g (.cells (cur.setIfInBounds c (.slice (some ⟨RB p, 0, none⟩) (10 + wd) (10 + wd))) 58) w1) rfl (by first | kernel_rfl | decide +kernel) rfl (by kernel_rfl) (fun u hu => store_does (x := .tmp 96) (y := .tmp 91) (j := c) (z := .slice (some ⟨RB p, 0, none⟩) (10 + wd) (10 + wd)) hu q1 (by omega) rfl rfl rfl (by simp) (by simp) (by kernel_rfl)) ?_ (by rfl)
  rintro x1 w1 hW1
  simp only [stO_none]
  co_applyP anyW_free (i := 14) rfl (by first | kernel_rfl | decide +kernel) (by first | kernel_rfl | decide +kernel) (by first | kernel_rfl | decide +kernel) (by first | rfl | (simp [Region.wanted, yielded, TA_get, *]; done)) (by kernel_rfl) (fun _ => run_eq_of ?run6_14) ?rest6_14
  case run6_14 =>
    intro K_ hK_
    (skip)
    go_simp
    (try rw [wrapI _ (by omega) (by omega)])
    exact hK_
  simp only [stO_some, stO_none]
  refine anyW_only (i := 15) (Q := fun x w2 => Wr w1 g (.cells ((cur.setIfInBounds c (.slice (some ⟨RB p, 0, none⟩) (10 + wd) (10 + wd))).setIfInBounds p (.slice (some ⟨RB c, 0, none⟩) (10 + wd) (10 + wd))) 58) w2) rfl (by first | kernel_rfl | decide +kernel) rfl (by kernel_rfl) (fun u hu => store_does (x := .tmp 97) (y := .tmp 95) (j := p) (z := .slice (some ⟨RB c, 0, none⟩) (10 + wd) (10 + wd)) hu hW1.at_ (by simp; omega) rfl rfl rfl (by simp) (by simp) (by kernel_rfl)) ?_ (by rfl)
  rintro x2 w2 hW2
  simp only [stO_none]
  refine anyW_done (by first | kernel_rfl | decide +kernel) ?_ _
  exact next _ _ _ (hG.swap hc hp q1 q2 q3 hW1 hW2) ⟨by simp [g5], by simp [g6], by simp [g11]⟩
end Go.Proofs.Ytpiefebngnlfoaa

/-
  mosaicref.Solved: a row is multiplied; a multiple of it is taken from another.
-/
set_option linter.unusedVariables false
set_option linter.unusedSimpArgs false
namespace Go.Proofs.Ytpiefebngnlfoaa
open Go.RowKit Go.Conc Go.Vw

set_option maxRecDepth 100000 in
set_option maxHeartbeats 4000000 in
theorem sol_r27 {S : Nat → Prop} {v w : World} {f : Nat → Value} {Stop : Goroutine → (Nat → Prop) → World → Prop} {cs : List Frame} {k0 : List Item} (g cap wd c fv j : Nat) (RB : Nat → Nat) (M : Nat → Nat → Nat) (hc : c < 10) (hwd : wd ≤ 400) (hj : j < 10 + wd) (hM : M c j < 256) (hfv : fv < 256) (hf : SolG f g cap wd c) (g13 : f 13 = .int .i64 (fv : Nat)) (g14 : f 14 = .int .i64 (j : Nat)) (hG : GS v g (10 + wd) RB M w)
    (next : ∀ w' f', GS v g (10 + wd) RB (fun i => if i = c then (fun k => if k = j then Fld.mul (M c j) fv else M c k) else M i) w' → SolG f' g cap wd c → f' 13 = .int .i64 (fv : Nat) → f' 14 = .int .i64 (j : Nat) → Vw.Reach Try.prog Stop (G ((base 44).at ⟨TA 187 f', []⟩ (.inRegion ((opsAt 27 (Try.f44.body.getD .skip)).getD #[]) [] :: k0)) cs) S w') :
    Vw.Reach Try.prog Stop (G ((base 44).at ⟨TA 187 f, []⟩ (.code (.region 27 ((opsAt 27 (Try.f44.body.getD .skip)).getD #[]) true) :: k0)) cs) S w := by
  obtain ⟨g5, g6, g11⟩ := hf
  have hcI : (c : Int) < 10 := by omega
  have hjI : (j : Int) < 10 + (wd : Int) := by omega
  have e : opsAt 27 (Try.f44.body.getD .skip) = some _ := rfl
  rw [e] at next ⊢
  simp only [Option.getD_some] at next ⊢
  clear e
  have hrc := hG.rowAt hc
  have hnc := hG.num hc hj
  refine reach_draw goodFF (by first | kernel_rfl | rfl) ?_
  simp only [List.size_toArray, List.length_cons, List.length_nil, Nat.reduceAdd, Nat.zero_add]
  co_applyP rT (i := 0) rfl (fun _ hu_ => run_eq_of ?u1_0) ?v1_0
  case u1_0 => intro K_ hK_;go_simp;(try rw [wI _]);(try rw [wU _]);exact hK_
  simp only [sS, sN]
  co_applyP rT (i := 1) rfl (fun _ hu_ => run_eq_of ?u1_1) ?v1_1
  case u1_1 => intro K_ hK_;go_simp;(try rw [wI _]);(try rw [wU _]);exact hK_
  simp only [sS, sN]
  co_applyP rT (i := 2) rfl (fun _ hu_ => run_eq_of ?u1_2) ?v1_2
  case u1_2 => intro K_ hK_;go_simp;(try rw [wI _]);(try rw [wU _]);exact hK_
  simp only [sS, sN]
  co_applyP rT (i := 3) rfl (fun _ hu_ => run_eq_of ?u2) ?v2
  case u2 => intro K_ hK_;(have hc := (Ext.twin hu_).cell hrc);go_simp;(try rw [wI _]);(try rw [wU _]);exact hK_
  simp only [sS, sN]
  co_applyP rT (i := 4) rfl (fun _ hu_ => run_eq_of ?u3_4) ?v3_4
  case u3_4 => intro K_ hK_;go_simp;(try rw [wI _]);(try rw [wU _]);exact hK_
  simp only [sS, sN]
  co_applyP rT (i := 5) rfl (fun _ hu_ => run_eq_of ?u3_5) ?v3_5
  case u3_5 => intro K_ hK_;go_simp;(try rw [wI _]);(try rw [wU _]);exact hK_
  simp only [sS, sN]
  co_applyP rT (i := 6) rfl (fun _ hu_ => run_eq_of ?u3_6) ?v3_6
  case u3_6 => intro K_ hK_;go_simp;(try rw [wI _]);(try rw [wU _]);exact hK_
  simp only [sS, sN]
  co_applyP rT (i := 7) rfl (fun _ hu_ => run_eq_of ?u3_7) ?v3_7
  case u3_7 => intro K_ hK_;go_simp;(try rw [wI _]);(try rw [wU _]);exact hK_
  simp only [sS, sN]
  co_applyP rT (i := 8) rfl (fun _ hu_ => run_eq_of ?u4) ?v4
  case u4 => intro K_ hK_;(have hc := (Ext.twin hu_).cell hrc);go_simp;(try rw [wI _]);(try rw [wU _]);exact hK_
  simp only [sS, sN]
  co_applyP rT (i := 9) rfl (fun _ hu_ => run_eq_of ?u5_9) ?v5_9
  case u5_9 => intro K_ hK_;go_simp;(try rw [wI _]);(try rw [wU _]);exact hK_
  simp only [sS, sN]
  co_applyP rT (i := 10) rfl (fun _ hu_ => run_eq_of ?u5_10) ?v5_10
  case u5_10 => intro K_ hK_;go_simp;(try rw [wI _]);(try rw [wU _]);exact hK_
  simp only [sS, sN]
  co_applyP rT (i := 11) rfl (fun _ hu_ => run_eq_of ?u6) ?v6
  case u6 => intro K_ hK_;(have hc := (Ext.twin hu_).cell hnc);go_simp;(try rw [wI _]);(try rw [wU _]);exact hK_
  simp only [sS, sN]
  co_applyP rT (i := 12) rfl (fun _ hu_ => run_eq_of ?u7) ?v7
  case u7 => intro K_ hK_;go_simp;(try rw [wI _]);(try rw [wU _]);exact hK_
  simp only [sS, sN]
  co_applyP anyR_take (i := 13) rfl (by first | kernel_rfl | decide +kernel) (by first | kernel_rfl | decide +kernel) (by first | kernel_rfl | decide +kernel) (.inl ⟨(by first | rfl | (simp [Region.wanted, yielded, TA_get, *]; done)), .inr ⟨_, _, _, _, _, rfl, Try.func11, (by kernel_rfl), rfl, ?run8⟩⟩) ?rest8
  case run8 =>
    simp [Act.eval, *]
    exact rmul_r (M c j) fv hM hfv
  simp only [stO_some, stO_none]
  co_applyP rT (i := 14) rfl (fun _ hu_ => run_eq_of ?u9) ?v9
  case u9 => intro K_ hK_;go_simp;(try rw [wI _]);(try rw [wU _]);exact hK_
  simp only [sS, sN]
  refine anyR_last (j := 15) (by first | kernel_rfl | decide +kernel) (lastR_of (by kernel_rfl)) ?_
  refine reach_store1 goodFF rfl rfl (by kernel_rfl) (x := .tmp 126) (y := .tmp 125) (g := RB c) (j := j) (z := .int .i64 ((Fld.mul (M c j) fv : Nat) : Int)) rfl (by simp) (by simp) rfl rfl (hG.el c hc) (by rw [intsA_size]; exact hj) (by kernel_rfl) fun w3 hW => ?_
  simp only [stO_none]
  rw [intsA_set] at hW
  exact next _ _ (hG.put hc hW) ⟨by simp [g5], by simp [g6], by simp [g11]⟩ (by simp [g13]) (by simp [g14])

set_option maxRecDepth 100000 in
set_option maxHeartbeats 4000000 in
theorem sol_r36 {S : Nat → Prop} {v w : World} {f : Nat → Value} {Stop : Goroutine → (Nat → Prop) → World → Prop} {cs : List Frame} {k0 : List Item} (g cap wd c i gv j : Nat) (RB : Nat → Nat) (M : Nat → Nat → Nat) (hc : c < 10) (hi : i < 10) (hwd : wd ≤ 400) (hj : j < 10 + wd) (hM : M c j < 256) (hMi : M i j < 256) (hgv : gv < 256) (hf : SolG f g cap wd c) (g15 : f 15 = .int .i64 (i : Nat)) (g16 : f 16 = .int .i64 (gv : Nat)) (g17 : f 17 = .int .i64 (j : Nat)) (hG : GS v g (10 + wd) RB M w)
    (next : ∀ w' f', GS v g (10 + wd) RB (fun a => if a = i then (fun k => if k = j then M i j ^^^ Fld.mul gv (M c j) else M i k) else M a) w' → SolG f' g cap wd c → f' 15 = .int .i64 (i : Nat) → f' 16 = .int .i64 (gv : Nat) → f' 17 = .int .i64 (j : Nat) → Vw.Reach Try.prog Stop (G ((base 44).at ⟨TA 187 f', []⟩ (.inRegion ((opsAt 36 (Try.f44.body.getD .skip)).getD #[]) [] :: k0)) cs) S w') :
    Vw.Reach Try.prog Stop (G ((base 44).at ⟨TA 187 f, []⟩ (.code (.region 36 ((opsAt 36 (Try.f44.body.getD .skip)).getD #[]) true) :: k0)) cs) S w := by
  obtain ⟨g5, g6, g11⟩ := hf
  have hcI : (c : Int) < 10 := by omega
  have hiI : (i : Int) < 10 := by omega
  have hjI : (j : Int) < 10 + (wd : Int) := by omega
  have hml := Fld.mul_lt hgv (M c j)
  have e : opsAt 36 (Try.f44.body.getD .skip) = some _ := rfl
  rw [e] at next ⊢
  simp only [Option.getD_some] at next ⊢
  clear e
  have hrc := hG.rowAt hc
  have hri := hG.rowAt hi
  have hnc := hG.num hc hj
  have hni := hG.num hi hj
  refine reach_draw goodFF (by first | kernel_rfl | rfl) ?_
  simp only [List.size_toArray, List.length_cons, List.length_nil, Nat.reduceAdd, Nat.zero_add]
  co_applyP rT (i := 0) rfl (fun _ hu_ => run_eq_of ?u10_0) ?v10_0
  case u10_0 => intro K_ hK_;go_simp;(try rw [wI _]);(try rw [wU _]);exact hK_
  simp only [sS, sN]
  co_applyP rT (i := 1) rfl (fun _ hu_ => run_eq_of ?u10_1) ?v10_1
  case u10_1 => intro K_ hK_;go_simp;(try rw [wI _]);(try rw [wU _]);exact hK_
  simp only [sS, sN]
  co_applyP rT (i := 2) rfl (fun _ hu_ => run_eq_of ?u10_2) ?v10_2
  case u10_2 => intro K_ hK_;go_simp;(try rw [wI _]);(try rw [wU _]);exact hK_
  simp only [sS, sN]
  co_applyP rT (i := 3) rfl (fun _ hu_ => run_eq_of ?u11) ?v11
  case u11 => intro K_ hK_;(have hc := (Ext.twin hu_).cell hri);go_simp;(try rw [wI _]);(try rw [wU _]);exact hK_
  simp only [sS, sN]
  co_applyP rT (i := 4) rfl (fun _ hu_ => run_eq_of ?u12_4) ?v12_4
  case u12_4 => intro K_ hK_;go_simp;(try rw [wI _]);(try rw [wU _]);exact hK_
  simp only [sS, sN]
  co_applyP rT (i := 5) rfl (fun _ hu_ => run_eq_of ?u12_5) ?v12_5
  case u12_5 => intro K_ hK_;go_simp;(try rw [wI _]);(try rw [wU _]);exact hK_
  simp only [sS, sN]
  co_applyP rT (i := 6) rfl (fun _ hu_ => run_eq_of ?u12_6) ?v12_6
  case u12_6 => intro K_ hK_;go_simp;(try rw [wI _]);(try rw [wU _]);exact hK_
  simp only [sS, sN]
  co_applyP rT (i := 7) rfl (fun _ hu_ => run_eq_of ?u12_7) ?v12_7
  case u12_7 => intro K_ hK_;go_simp;(try rw [wI _]);(try rw [wU _]);exact hK_
  simp only [sS, sN]
  co_applyP rT (i := 8) rfl (fun _ hu_ => run_eq_of ?u13) ?v13
  case u13 => intro K_ hK_;(have hc := (Ext.twin hu_).cell hri);go_simp;(try rw [wI _]);(try rw [wU _]);exact hK_
  simp only [sS, sN]
  co_applyP rT (i := 9) rfl (fun _ hu_ => run_eq_of ?u14_9) ?v14_9
  case u14_9 => intro K_ hK_;go_simp;(try rw [wI _]);(try rw [wU _]);exact hK_
  simp only [sS, sN]
  co_applyP rT (i := 10) rfl (fun _ hu_ => run_eq_of ?u14_10) ?v14_10
  case u14_10 => intro K_ hK_;go_simp;(try rw [wI _]);(try rw [wU _]);exact hK_
  simp only [sS, sN]
  co_applyP rT (i := 11) rfl (fun _ hu_ => run_eq_of ?u15) ?v15
  case u15 => intro K_ hK_;(have hc := (Ext.twin hu_).cell hni);go_simp;(try rw [wI _]);(try rw [wU _]);exact hK_
  simp only [sS, sN]
  co_applyP rT (i := 12) rfl (fun _ hu_ => run_eq_of ?u16_12) ?v16_12
  case u16_12 => intro K_ hK_;go_simp;(try rw [wI _]);(try rw [wU _]);exact hK_
  simp only [sS, sN]
  co_applyP rT (i := 13) rfl (fun _ hu_ => run_eq_of ?u16_13) ?v16_13
  case u16_13 => intro K_ hK_;go_simp;(try rw [wI _]);(try rw [wU _]);exact hK_
  simp only [sS, sN]
  co_applyP rT (i := 14) rfl (fun _ hu_ => run_eq_of ?u16_14) ?v16_14
  case u16_14 => intro K_ hK_;go_simp;(try rw [wI _]);(try rw [wU _]);exact hK_
  simp only [sS, sN]
  co_applyP rT (i := 15) rfl (fun _ hu_ => run_eq_of ?u16_15) ?v16_15
  case u16_15 => intro K_ hK_;go_simp;(try rw [wI _]);(try rw [wU _]);exact hK_
  simp only [sS, sN]
  co_applyP rT (i := 16) rfl (fun _ hu_ => run_eq_of ?u17) ?v17
  case u17 => intro K_ hK_;(have hc := (Ext.twin hu_).cell hrc);go_simp;(try rw [wI _]);(try rw [wU _]);exact hK_
  simp only [sS, sN]
  co_applyP rT (i := 17) rfl (fun _ hu_ => run_eq_of ?u18_17) ?v18_17
  case u18_17 => intro K_ hK_;go_simp;(try rw [wI _]);(try rw [wU _]);exact hK_
  simp only [sS, sN]
  co_applyP rT (i := 18) rfl (fun _ hu_ => run_eq_of ?u18_18) ?v18_18
  case u18_18 => intro K_ hK_;go_simp;(try rw [wI _]);(try rw [wU _]);exact hK_
  simp only [sS, sN]
  co_applyP rT (i := 19) rfl (fun _ hu_ => run_eq_of ?u19) ?v19
  case u19 => intro K_ hK_;(have hc := (Ext.twin hu_).cell hnc);go_simp;(try rw [wI _]);(try rw [wU _]);exact hK_
  simp only [sS, sN]
  co_applyP anyR_take (i := 20) rfl (by first | kernel_rfl | decide +kernel) (by first | kernel_rfl | decide +kernel) (by first | kernel_rfl | decide +kernel) (.inl ⟨(by first | rfl | (simp [Region.wanted, yielded, TA_get, *]; done)), .inr ⟨_, _, _, _, _, rfl, Try.func11, (by kernel_rfl), rfl, ?run20⟩⟩) ?rest20
  case run20 =>
    simp [Act.eval, *]
    exact rmul_r gv (M c j) hgv hM
  simp only [stO_some, stO_none]
  co_applyP rT (i := 21) rfl (fun _ hu_ => run_eq_of ?u21) ?v21
  case u21 => intro K_ hK_;go_simp;(try rw [wI _]);(try rw [wU _]);exact hK_
  simp only [sS, sN]
  co_applyP rT (i := 22) rfl (fun _ hu_ => run_eq_of ?u22) ?v22
  case u22 => intro K_ hK_;go_simp;(try rw [wI _]);(try rw [wU _]);exact hK_
  simp only [sS, sN]
  refine anyR_last (j := 23) (by first | kernel_rfl | decide +kernel) (lastR_of (by kernel_rfl)) ?_
  refine reach_store1 goodFF rfl rfl (by kernel_rfl) (x := .tmp 173) (y := .tmp 172) (g := RB i) (j := j) (z := .int .i64 ((M i j ^^^ Fld.mul gv (M c j) : Nat) : Int)) rfl (by simp) (by simp [i64_xor_nat _ _ (show M i j < 2147483648 by omega) (show Fld.mul gv (M c j) < 2147483648 by omega)]) rfl rfl (hG.el i hi) (by rw [intsA_size]; exact hj) (by kernel_rfl) fun w3 hW => ?_
  simp only [stO_none]
  rw [intsA_set] at hW
  exact next _ _ (hG.put hi hW) ⟨by simp [g5], by simp [g6], by simp [g11]⟩ (by simp [g15]) (by simp [g16]) (by simp [g17])
end Go.Proofs.Ytpiefebngnlfoaa
