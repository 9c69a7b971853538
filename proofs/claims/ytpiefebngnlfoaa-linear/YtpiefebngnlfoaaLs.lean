/-
  mosaickeep.Linear: all pieces are held against one another; the whole.
-/
import Derived.Test.YtpiefebngnlfoaaLr
set_option linter.unusedVariables false
set_option linter.unusedSimpArgs false
namespace Go.Proofs.Ytpiefebngnlfoaa
open Go.RowKit Go.Conc Go.Vw

theorem comb_linear {wt : Nat → Nat} (hw : ∀ i, wt i < 256) {c : Nat} (hc : c < 256) (x y : Nat → Nat → Nat) (hy : ∀ j i, y j i < 256) (m i : Nat) :
    Fld.comb wt (fun j i => x j i ^^^ Fld.mul c (y j i)) m i = Fld.comb wt x m i ^^^ Fld.mul c (Fld.comb wt y m i) := by
  induction m with
  | zero => simp [Fld.comb, Fld.mul_zero]
  | succ m ih =>
    simp only [Fld.comb]
    rw [ih, Fld.mul_add, Fld.mul_add, Fld.xor4]
    congr 1
    congr 1
    rw [← Fld.mul_assoc (hw m) hc (hy m i), Fld.mul_comm (hw m) hc, Fld.mul_assoc hc (hw m) (hy m i)]
theorem comb_congr {wt : Nat → Nat} {x y : Nat → Nat → Nat} {i : Nat} (h : ∀ j, x j i = y j i) (m : Nat) : Fld.comb wt x m i = Fld.comb wt y m i := by
  induction m with
  | zero => rfl
  | succ m ih => simp only [Fld.comb]; rw [ih, h m]
theorem row_linear (by_ : Nat) (x1 x2 : Nat → Nat) (L m k i : Nat) : rowOf (sumOf by_ x1 x2) L m k i = rowOf x1 L m k i ^^^ Fld.mul by_ (rowOf x2 L m k i) := by
  unfold rowOf
  split
  · rfl
  · simp [Fld.mul_zero]
theorem cut_linear {by_ : Nat} (hb : by_ < 256) {x1 x2 : Nat → Nat} (h2 : ∀ i, x2 i < 256) (L k i : Nat) : cutOf (sumOf by_ x1 x2) L k i = cutOf x1 L k i ^^^ Fld.mul by_ (cutOf x2 L k i) := by
  unfold cutOf
  split
  · exact row_linear by_ x1 x2 L _ k i
  · unfold pieceOf
    rw [comb_congr (y := fun j i => rowOf x1 L ((L + 9) / 10) j i ^^^ Fld.mul by_ (rowOf x2 L ((L + 9) / 10) j i)) fun j => row_linear by_ x1 x2 L _ j i]
    exact comb_linear (wgt_lt id k) hb _ _ (fun j i => row_lt h2 L _ j i) 10 i
/-- What the loops leave alone. -/
structure LinF (f : Nat → Value) (by_ BX BY BZ j : Nat) : Prop where
  g2 : f 2 = .int .u8 (by_ : Nat)
  g10 : f 10 = sl BX 14
  g12 : f 12 = sl BY 14
  g14 : f 14 = sl BZ 14
  g16 : f 16 = .int .i64 (j : Nat)

set_option maxRecDepth 100000 in
set_option maxHeartbeats 4000000 in
theorem lin_e {S : Nat → Prop} {v : World} {f : Nat → Value} {Stop : Goroutine → (Nat → Prop) → World → Prop} {cs : List Frame} {k : List Item} (m by_ BX BY BZ j : Nat) (PX PY PZ : Nat → Nat) (hf : LinF f by_ BX BY BZ j) (hlt : j < 14) (cx : v.cell? ⟨BX, j, none⟩ = some (sl (PX j) m)) (cy : v.cell? ⟨BY, j, none⟩ = some (sl (PY j) m)) (cz : v.cell? ⟨BZ, j, none⟩ = some (sl (PZ j) m))
    (next : ∀ f', LinF f' by_ BX BY BZ j → f' 133 = .bool false → Vw.Reach Try.prog Stop (G ((base 9).at ⟨TA 171 f', []⟩ (.inRegion ((opsAt 20 (Try.f9.body.getD .skip)).getD #[]) [] :: k)) cs) S v) :
    Vw.Reach Try.prog Stop (G ((base 9).at ⟨TA 171 f, []⟩ (.code (.region 20 ((opsAt 20 (Try.f9.body.getD .skip)).getD #[]) true) :: k)) cs) S v := by
  obtain ⟨g2, g10, g12, g14, g16⟩ := hf
  have hjI : (j : Int) < 14 := by omega
  have e : opsAt 20 (Try.f9.body.getD .skip) = some _ := rfl
  rw [e] at next ⊢
  simp only [Option.getD_some] at next ⊢
  clear e
  refine reach_draw goodFF (by first | kernel_rfl | rfl) ?_
  simp only [List.size_toArray, List.length_cons, List.length_nil, Nat.reduceAdd, Nat.zero_add]
  co_applyP rT (i := 0) rfl (fun _ hu_ => run_eq_of ?u1_0) ?v1_0
  case u1_0 => intro K_ hK_;go_simp;(try rw [wI _]);(try rw [wU _]);exact hK_
  simp only [sS, sN]
  co_applyP rT (i := 1) rfl (fun _ hu_ => run_eq_of ?u1_1) ?v1_1
  case u1_1 => intro K_ hK_;go_simp;(try rw [wI _]);(try rw [wU _]);exact hK_
  simp only [sS, sN]
  co_applyP rT (i := 2) rfl (fun _ hu_ => run_eq_of ?u1_2) ?v1_2
  case u1_2 => intro K_ hK_;go_simp;(try rw [wI _]);(try rw [wU _]);exact hK_
  simp only [sS, sN]
  co_applyP rT (i := 3) rfl (fun _ hu_ => run_eq_of ?u2) ?v2
  case u2 => intro K_ hK_;(have hc := (Ext.twin hu_).cell cx);go_simp;(try rw [wI _]);(try rw [wU _]);exact hK_
  simp only [sS, sN]
  co_applyP rT (i := 4) rfl (fun _ hu_ => run_eq_of ?u3_4) ?v3_4
  case u3_4 => intro K_ hK_;go_simp;(try rw [wI _]);(try rw [wU _]);exact hK_
  simp only [sS, sN]
  co_applyP rT (i := 5) rfl (fun _ hu_ => run_eq_of ?u3_5) ?v3_5
  case u3_5 => intro K_ hK_;go_simp;(try rw [wI _]);(try rw [wU _]);exact hK_
  simp only [sS, sN]
  co_applyP rT (i := 6) rfl (fun _ hu_ => run_eq_of ?u3_6) ?v3_6
  case u3_6 => intro K_ hK_;go_simp;(try rw [wI _]);(try rw [wU _]);exact hK_
  simp only [sS, sN]
  co_applyP rT (i := 7) rfl (fun _ hu_ => run_eq_of ?u3_7) ?v3_7
  case u3_7 => intro K_ hK_;go_simp;(try rw [wI _]);(try rw [wU _]);exact hK_
  simp only [sS, sN]
  co_applyP rT (i := 8) rfl (fun _ hu_ => run_eq_of ?u4) ?v4
  case u4 => intro K_ hK_;(have hc := (Ext.twin hu_).cell cz);go_simp;(try rw [wI _]);(try rw [wU _]);exact hK_
  simp only [sS, sN]
  co_applyP rT (i := 9) rfl (fun _ hu_ => run_eq_of ?u5_9) ?v5_9
  case u5_9 => intro K_ hK_;go_simp;(try rw [wI _]);(try rw [wU _]);exact hK_
  simp only [sS, sN]
  co_applyP rT (i := 10) rfl (fun _ hu_ => run_eq_of ?u5_10) ?v5_10
  case u5_10 => intro K_ hK_;go_simp;(try rw [wI _]);(try rw [wU _]);exact hK_
  simp only [sS, sN]
  co_applyP rT (i := 11) rfl (fun _ hu_ => run_eq_of ?u5_11) ?v5_11
  case u5_11 => intro K_ hK_;go_simp;(try rw [wI _]);(try rw [wU _]);exact hK_
  simp only [sS, sN]
  co_applyP rT (i := 12) rfl (fun _ hu_ => run_eq_of ?u5_12) ?v5_12
  case u5_12 => intro K_ hK_;go_simp;(try rw [wI _]);(try rw [wU _]);exact hK_
  simp only [sS, sN]
  co_applyP rT (i := 13) rfl (fun _ hu_ => run_eq_of ?u5_13) ?v5_13
  case u5_13 => intro K_ hK_;go_simp;(try rw [wI _]);(try rw [wU _]);exact hK_
  simp only [sS, sN]
  co_applyP rT (i := 14) rfl (fun _ hu_ => run_eq_of ?u5_14) ?v5_14
  case u5_14 => intro K_ hK_;go_simp;(try rw [wI _]);(try rw [wU _]);exact hK_
  simp only [sS, sN]
  co_applyP rT (i := 15) rfl (fun _ hu_ => run_eq_of ?u6) ?v6
  case u6 => intro K_ hK_;(have hc := (Ext.twin hu_).cell cy);go_simp;(try rw [wI _]);(try rw [wU _]);exact hK_
  simp only [sS, sN]
  co_applyP rT (i := 16) rfl (fun _ hu_ => run_eq_of ?u7_16) ?v7_16
  case u7_16 => intro K_ hK_;go_simp;(try rw [wI _]);(try rw [wU _]);exact hK_
  simp only [sS, sN]
  co_applyP rT (i := 17) rfl (fun _ hu_ => run_eq_of ?u7_17) ?v7_17
  case u7_17 => intro K_ hK_;go_simp;(try rw [wI _]);(try rw [wU _]);exact hK_
  simp only [sS, sN]
  co_applyP rT (i := 18) rfl (fun _ hu_ => run_eq_of ?u7_18) ?v7_18
  case u7_18 => intro K_ hK_;go_simp;(try rw [wI _]);(try rw [wU _]);exact hK_
  simp only [sS, sN]
  co_applyP rT (i := 19) rfl (fun _ hu_ => run_eq_of ?u7_19) ?v7_19
  case u7_19 => intro K_ hK_;go_simp;(try rw [wI _]);(try rw [wU _]);exact hK_
  simp only [sS, sN]
  co_applyP rT (i := 20) rfl (fun _ hu_ => run_eq_of ?u8) ?v8
  case u8 => intro K_ hK_;(have hc := (Ext.twin hu_).cell cz);go_simp;(try rw [wI _]);(try rw [wU _]);exact hK_
  simp only [sS, sN]
  co_applyP rT (i := 21) rfl (fun _ hu_ => run_eq_of ?u9_21) ?v9_21
  case u9_21 => intro K_ hK_;go_simp;(try rw [wI _]);(try rw [wU _]);exact hK_
  simp only [sS, sN]
  co_applyP rT (i := 22) rfl (fun _ hu_ => run_eq_of ?u9_22) ?v9_22
  case u9_22 => intro K_ hK_;go_simp;(try rw [wI _]);(try rw [wU _]);exact hK_
  simp only [sS, sN]
  co_applyP rT (i := 23) rfl (fun _ hu_ => run_eq_of ?u9_23) ?v9_23
  case u9_23 => intro K_ hK_;go_simp;(try rw [wI _]);(try rw [wU _]);exact hK_
  simp only [sS, sN]
  refine anyR_done (by first | kernel_rfl | decide +kernel) ?_ _
  exact next _ ⟨by simp [g2], by simp [g10], by simp [g12], by simp [g14], by simp [g16]⟩ (by simp)

set_option maxRecDepth 100000 in
set_option maxHeartbeats 4000000 in
theorem lin_f {S : Nat → Prop} {v : World} {f : Nat → Value} {Stop : Goroutine → (Nat → Prop) → World → Prop} {cs : List Frame} {k : List Item} (m by_ BX BY BZ j i X Y : Nat) (PX PY PZ : Nat → Nat) (hf : LinF f by_ BX BY BZ j) (g17 : f 17 = .int .i64 (i : Nat)) (hlt : j < 14) (hlti : i < m) (hm : m ≤ 400) (hb : by_ < 256) (ex : X < 256) (ey : Y < 256) (cx : v.cell? ⟨BX, j, none⟩ = some (sl (PX j) m)) (cy : v.cell? ⟨BY, j, none⟩ = some (sl (PY j) m)) (cz : v.cell? ⟨BZ, j, none⟩ = some (sl (PZ j) m))
    (kx : v.cell? ⟨PX j, i, none⟩ = some (.int .u8 (X : Nat))) (ky : v.cell? ⟨PY j, i, none⟩ = some (.int .u8 (Y : Nat))) (kz : v.cell? ⟨PZ j, i, none⟩ = some (.int .u8 ((X ^^^ Fld.mul by_ Y : Nat) : Int)))
    (next : ∀ f', LinF f' by_ BX BY BZ j → f' 17 = .int .i64 (i : Nat) → f' 170 = .bool false → Vw.Reach Try.prog Stop (G ((base 9).at ⟨TA 171 f', []⟩ (.inRegion ((opsAt 25 (Try.f9.body.getD .skip)).getD #[]) [] :: k)) cs) S v) :
    Vw.Reach Try.prog Stop (G ((base 9).at ⟨TA 171 f, []⟩ (.code (.region 25 ((opsAt 25 (Try.f9.body.getD .skip)).getD #[]) true) :: k)) cs) S v := by
  obtain ⟨g2, g10, g12, g14, g16⟩ := hf
  have hjI : (j : Int) < 14 := by omega
  have hiI : (i : Int) < (m : Int) := by omega
  have em := Fld.mul_lt hb Y
  have e : opsAt 25 (Try.f9.body.getD .skip) = some _ := rfl
  rw [e] at next ⊢
  simp only [Option.getD_some] at next ⊢
  clear e
  refine reach_draw goodFF (by first | kernel_rfl | rfl) ?_
  simp only [List.size_toArray, List.length_cons, List.length_nil, Nat.reduceAdd, Nat.zero_add]
  co_applyP rT (i := 0) rfl (fun _ hu_ => run_eq_of ?u10_0) ?v10_0
  case u10_0 => intro K_ hK_;go_simp;(try rw [wI _]);(try rw [wU _]);exact hK_
  simp only [sS, sN]
  co_applyP rT (i := 1) rfl (fun _ hu_ => run_eq_of ?u10_1) ?v10_1
  case u10_1 => intro K_ hK_;go_simp;(try rw [wI _]);(try rw [wU _]);exact hK_
  simp only [sS, sN]
  co_applyP rT (i := 2) rfl (fun _ hu_ => run_eq_of ?u10_2) ?v10_2
  case u10_2 => intro K_ hK_;go_simp;(try rw [wI _]);(try rw [wU _]);exact hK_
  simp only [sS, sN]
  co_applyP rT (i := 3) rfl (fun _ hu_ => run_eq_of ?u11) ?v11
  case u11 => intro K_ hK_;(have hc := (Ext.twin hu_).cell cz);go_simp;(try rw [wI _]);(try rw [wU _]);exact hK_
  simp only [sS, sN]
  co_applyP rT (i := 4) rfl (fun _ hu_ => run_eq_of ?u12_4) ?v12_4
  case u12_4 => intro K_ hK_;go_simp;(try rw [wI _]);(try rw [wU _]);exact hK_
  simp only [sS, sN]
  co_applyP rT (i := 5) rfl (fun _ hu_ => run_eq_of ?u12_5) ?v12_5
  case u12_5 => intro K_ hK_;go_simp;(try rw [wI _]);(try rw [wU _]);exact hK_
  simp only [sS, sN]
  co_applyP rT (i := 6) rfl (fun _ hu_ => run_eq_of ?u13) ?v13
  case u13 => intro K_ hK_;(have hc := (Ext.twin hu_).cell kz);go_simp;(try rw [wI _]);(try rw [wU _]);exact hK_
  simp only [sS, sN]
  co_applyP rT (i := 7) rfl (fun _ hu_ => run_eq_of ?u14_7) ?v14_7
  case u14_7 => intro K_ hK_;go_simp;(try rw [wI _]);(try rw [wU _]);exact hK_
  simp only [sS, sN]
  co_applyP rT (i := 8) rfl (fun _ hu_ => run_eq_of ?u14_8) ?v14_8
  case u14_8 => intro K_ hK_;go_simp;(try rw [wI _]);(try rw [wU _]);exact hK_
  simp only [sS, sN]
  co_applyP rT (i := 9) rfl (fun _ hu_ => run_eq_of ?u14_9) ?v14_9
  case u14_9 => intro K_ hK_;go_simp;(try rw [wI _]);(try rw [wU _]);exact hK_
  simp only [sS, sN]
  co_applyP rT (i := 10) rfl (fun _ hu_ => run_eq_of ?u15) ?v15
  case u15 => intro K_ hK_;(have hc := (Ext.twin hu_).cell cx);go_simp;(try rw [wI _]);(try rw [wU _]);exact hK_
  simp only [sS, sN]
  co_applyP rT (i := 11) rfl (fun _ hu_ => run_eq_of ?u16_11) ?v16_11
  case u16_11 => intro K_ hK_;go_simp;(try rw [wI _]);(try rw [wU _]);exact hK_
  simp only [sS, sN]
  co_applyP rT (i := 12) rfl (fun _ hu_ => run_eq_of ?u16_12) ?v16_12
  case u16_12 => intro K_ hK_;go_simp;(try rw [wI _]);(try rw [wU _]);exact hK_
  simp only [sS, sN]
  co_applyP rT (i := 13) rfl (fun _ hu_ => run_eq_of ?u17) ?v17
  case u17 => intro K_ hK_;(have hc := (Ext.twin hu_).cell kx);go_simp;(try rw [wI _]);(try rw [wU _]);exact hK_
  simp only [sS, sN]
  co_applyP rT (i := 14) rfl (fun _ hu_ => run_eq_of ?u18_14) ?v18_14
  case u18_14 => intro K_ hK_;go_simp;(try rw [wI _]);(try rw [wU _]);exact hK_
  simp only [sS, sN]
  co_applyP rT (i := 15) rfl (fun _ hu_ => run_eq_of ?u18_15) ?v18_15
  case u18_15 => intro K_ hK_;go_simp;(try rw [wI _]);(try rw [wU _]);exact hK_
  simp only [sS, sN]
  co_applyP rT (i := 16) rfl (fun _ hu_ => run_eq_of ?u18_16) ?v18_16
  case u18_16 => intro K_ hK_;go_simp;(try rw [wI _]);(try rw [wU _]);exact hK_
  simp only [sS, sN]
  co_applyP rT (i := 17) rfl (fun _ hu_ => run_eq_of ?u18_17) ?v18_17
  case u18_17 => intro K_ hK_;go_simp;(try rw [wI _]);(try rw [wU _]);exact hK_
  simp only [sS, sN]
  co_applyP rT (i := 18) rfl (fun _ hu_ => run_eq_of ?u18_18) ?v18_18
  case u18_18 => intro K_ hK_;go_simp;(try rw [wI _]);(try rw [wU _]);exact hK_
  simp only [sS, sN]
  co_applyP rT (i := 19) rfl (fun _ hu_ => run_eq_of ?u19) ?v19
  case u19 => intro K_ hK_;(have hc := (Ext.twin hu_).cell cy);go_simp;(try rw [wI _]);(try rw [wU _]);exact hK_
  simp only [sS, sN]
  co_applyP rT (i := 20) rfl (fun _ hu_ => run_eq_of ?u20_20) ?v20_20
  case u20_20 => intro K_ hK_;go_simp;(try rw [wI _]);(try rw [wU _]);exact hK_
  simp only [sS, sN]
  co_applyP rT (i := 21) rfl (fun _ hu_ => run_eq_of ?u20_21) ?v20_21
  case u20_21 => intro K_ hK_;go_simp;(try rw [wI _]);(try rw [wU _]);exact hK_
  simp only [sS, sN]
  co_applyP rT (i := 22) rfl (fun _ hu_ => run_eq_of ?u21) ?v21
  case u21 => intro K_ hK_;(have hc := (Ext.twin hu_).cell ky);go_simp;(try rw [wI _]);(try rw [wU _]);exact hK_
  simp only [sS, sN]
  co_applyP rT (i := 23) rfl (fun _ hu_ => run_eq_of ?u22) ?v22
  case u22 => intro K_ hK_;go_simp;(try rw [wI _]);(try rw [wU _]);exact hK_
  simp only [sS, sN]
  co_applyP anyR_take (i := 24) rfl (by first | kernel_rfl | decide +kernel) (by first | kernel_rfl | decide +kernel) (by first | kernel_rfl | decide +kernel) (.inl ⟨(by first | rfl | (simp [Region.wanted, yielded, TA_get, *]; done)), .inr ⟨_, _, _, _, _, rfl, Try.func10, (by kernel_rfl), rfl, ?run23⟩⟩) ?rest23
  case run23 =>
    simp [Act.eval, *]
    exact pmul_r by_ Y hb ey
  simp only [stO_some, stO_none]
  co_applyP rT (i := 25) rfl (fun _ hu_ => run_eq_of ?u24) ?v24
  case u24 => intro K_ hK_;go_simp;(try rw [wI _]);(try rw [wU _]);exact hK_
  simp only [sS, sN]
  co_applyP rT (i := 26) rfl (fun _ hu_ => run_eq_of ?u25) ?v25
  case u25 => intro K_ hK_;go_simp;(try rw [wI _]);(try rw [wU _]);exact hK_
  simp only [sS, sN]
  rw [u8_xor_nat _ _ ex em]
  co_applyP rT (i := 27) rfl (fun _ hu_ => run_eq_of ?u26) ?v26
  case u26 => intro K_ hK_;go_simp;(try rw [wI _]);(try rw [wU _]);exact hK_
  simp only [sS, sN]
  refine anyR_done (by first | kernel_rfl | decide +kernel) ?_ _
  exact next _ ⟨by simp [g2], by simp [g10], by simp [g12], by simp [g14], by simp [g16]⟩ (by simp [g17]) (by simp)

set_option maxRecDepth 100000 in
set_option maxHeartbeats 4000000 in
theorem lin_d {S : Nat → Prop} {v0 v : World} {f : Nat → Value} (L by_ BX BY BZ : Nat) (PX PY PZ : Nat → Nat) (x1 x2 : Nat → Nat) (hk : Kp v0 (fun _ => False) v) (hL : L ≤ 400) (hb : by_ < 256) (hx1 : ∀ i, x1 i < 256) (hx2 : ∀ i, x2 i < 256)
    (h1 : L14 v BX PX ((L + 9) / 10) (cutOf x1 L)) (h2 : L14 v BY PY ((L + 9) / 10) (cutOf x2 L)) (h3 : L14 v BZ PZ ((L + 9) / 10) (cutOf (sumOf by_ x1 x2) L)) (f2 : f 2 = .int .u8 (by_ : Nat)) (f10 : f 10 = sl BX 14) (f12 : f 12 = sl BY 14) (f14 : f 14 = sl BZ 14) :
    LinR (linD (Try.f9.body.getD .skip)) S v0 v f := by
  intro Stop cs ret
  have hm : (L + 9) / 10 ≤ 400 := by omega
  generalize (L + 9) / 10 = m at h1 h2 h3 hm
  simp only [linD, linC, linB, hd, tl, Try.f9, Option.getD_some]
  repeat (first|refine rA ?_|refine rB ?_|refine rC ?_|refine rD ?_|(refine rR ?_;simp only [tO, Nat.reduceAdd])|refine rE ?_|(refine rO goodFF rfl ?_;intro _ hu_ K_ hK_;go_simp;(try rw [wI _]);(try rw [wU _]);refine hK_ _ ?_;clear hK_ K_ hu_;simp only [sS, sN])|(refine rP rfl ?_;simp only [sS, sN]))
  refine reach_rounds (fun d f' S' v' => ∃ j, d = 14 - j ∧ j ≤ 14 ∧ S' = S ∧ v' = v ∧ LinF f' by_ BX BY BZ j) 14 ⟨0, by omega, by omega, rfl, rfl, by simp [f2], by simp [f10], by simp [f12], by simp [f14], by simp⟩ ?_
  rintro d f' S' v' ⟨j, rfl, hj, eS, eV, hF⟩ next
  subst S' v'
  have g16 := hF.g16
  repeat (first|refine rA ?_|refine rB ?_|refine rC ?_|refine rD ?_|(refine rR ?_;simp only [tO, Nat.reduceAdd])|refine rE ?_|(refine rO goodFF rfl ?_;intro _ hu_ K_ hK_;go_simp;(try rw [wI _]);(try rw [wU _]);refine hK_ _ ?_;clear hK_ K_ hu_;simp only [sS, sN])|(refine rP rfl ?_;simp only [sS, sN]))
  by_cases hlt : j < 14
  · have hjI : (j : Int) < 14 := by omega
    have cx := h1.piece hlt
    have cy := h2.piece hlt
    have cz := h3.piece hlt
    (refine reach_cond (t := true) (by simp [Act.eval, g16, hjI]) ?_; simp only [if_true, if_false, reduceIte, Bool.false_eq_true])
    repeat (first|refine rA ?_|refine rB ?_|refine rC ?_|refine rD ?_|(refine rR ?_;simp only [tO, Nat.reduceAdd])|refine rE ?_|(refine rO goodFF rfl ?_;intro _ hu_ K_ hK_;go_simp;(try rw [wI _]);(try rw [wU _]);refine hK_ _ ?_;clear hK_ K_ hu_;simp only [sS, sN])|(refine rP rfl ?_;simp only [sS, sN]))
    refine lin_e m by_ BX BY BZ j PX PY PZ ⟨by simp [hF.g2], by simp [hF.g10], by simp [hF.g12], by simp [hF.g14], by simp [hF.g16]⟩ hlt cx cy cz fun f1 hF1 q133 => ?_
    repeat (first|refine rA ?_|refine rB ?_|refine rC ?_|refine rD ?_|(refine rR ?_;simp only [tO, Nat.reduceAdd])|refine rE ?_|(refine rO goodFF rfl ?_;intro _ hu_ K_ hK_;go_simp;(try rw [wI _]);(try rw [wU _]);refine hK_ _ ?_;clear hK_ K_ hu_;simp only [sS, sN])|(refine rP rfl ?_;simp only [sS, sN]))
    (refine reach_cond (t := false) (by simp [Act.eval, q133]) ?_; simp only [if_true, if_false, reduceIte, Bool.false_eq_true])
    repeat (first|refine rA ?_|refine rB ?_|refine rC ?_|refine rD ?_|(refine rR ?_;simp only [tO, Nat.reduceAdd])|refine rE ?_|(refine rO goodFF rfl ?_;intro _ hu_ K_ hK_;go_simp;(try rw [wI _]);(try rw [wU _]);refine hK_ _ ?_;clear hK_ K_ hu_;simp only [sS, sN])|(refine rP rfl ?_;simp only [sS, sN]))
    refine reach_rounds (fun d f' S' v' => ∃ i, d = m - i ∧ i ≤ m ∧ S' = S ∧ v' = v ∧ LinF f' by_ BX BY BZ j ∧ f' 17 = .int .i64 (i : Nat)) m ⟨0, by omega, by omega, rfl, rfl, ⟨by simp [hF1.g2], by simp [hF1.g10], by simp [hF1.g12], by simp [hF1.g14], by simp [hF1.g16]⟩, by simp⟩ ?_
    clear q133 hF1 f1
    rintro d f'' S' v' ⟨i, rfl, hi, eS, eV, hF2, q17⟩ nxt
    subst S' v'
    have q14 := hF2.g14
    have q16 := hF2.g16
    repeat (first|refine rA ?_|refine rB ?_|refine rC ?_|refine rD ?_|(refine rR ?_;simp only [tO, Nat.reduceAdd])|refine rE ?_|(refine rO goodFF rfl ?_;intro _ hu_ K_ hK_;(have hc := (Ext.twin hu_).cell cz);go_simp;(try rw [wI _]);(try rw [wU _]);refine hK_ _ ?_;clear hK_ K_ hu_;simp only [sS, sN])|(refine rP rfl ?_;simp only [sS, sN]))
    by_cases hlti : i < m
    · have kx := h1.byte hlt hlti
      have ky := h2.byte hlt hlti
      have kz := h3.byte hlt hlti
      rw [cut_linear hb hx2] at kz
      (refine reach_cond (t := true) (by simp [Act.eval, hlti]) ?_; simp only [if_true, if_false, reduceIte, Bool.false_eq_true])
      repeat (first|refine rA ?_|refine rB ?_|refine rC ?_|refine rD ?_|(refine rR ?_;simp only [tO, Nat.reduceAdd])|refine rE ?_|(refine rO goodFF rfl ?_;intro _ hu_ K_ hK_;go_simp;(try rw [wI _]);(try rw [wU _]);refine hK_ _ ?_;clear hK_ K_ hu_;simp only [sS, sN])|(refine rP rfl ?_;simp only [sS, sN]))
      refine lin_f m by_ BX BY BZ j i _ _ PX PY PZ ⟨by simp [hF2.g2], by simp [hF2.g10], by simp [hF2.g12], by simp [hF2.g14], by simp [hF2.g16]⟩ (by simp [q17]) hlt hlti hm hb (cut_lt hx1 L j i) (cut_lt hx2 L j i) cx cy cz kx ky kz fun f3 hF3 q17' q170 => ?_
      repeat (first|refine rA ?_|refine rB ?_|refine rC ?_|refine rD ?_|(refine rR ?_;simp only [tO, Nat.reduceAdd])|refine rE ?_|(refine rO goodFF rfl ?_;intro _ hu_ K_ hK_;go_simp;(try rw [wI _]);(try rw [wU _]);refine hK_ _ ?_;clear hK_ K_ hu_;simp only [sS, sN])|(refine rP rfl ?_;simp only [sS, sN]))
      (refine reach_cond (t := false) (by simp [Act.eval, q170]) ?_; simp only [if_true, if_false, reduceIte, Bool.false_eq_true])
      repeat (first|refine rA ?_|refine rB ?_|refine rC ?_|refine rD ?_|(refine rR ?_;simp only [tO, Nat.reduceAdd])|refine rE ?_|(refine rO goodFF rfl ?_;intro _ hu_ K_ hK_;go_simp;(try rw [wI _]);(try rw [wU _]);refine hK_ _ ?_;clear hK_ K_ hu_;simp only [sS, sN])|(refine rP rfl ?_;simp only [sS, sN]))
      refine nxt _ _ _ (m - (i + 1)) (by omega) ⟨i + 1, rfl, by omega, rfl, rfl, ⟨by simp [hF3.g2], by simp [hF3.g10], by simp [hF3.g12], by simp [hF3.g14], by simp [hF3.g16]⟩, by simp⟩
    · obtain rfl : i = m := by omega
      (refine reach_cond (t := false) (by simp [Act.eval]) ?_; simp only [if_true, if_false, reduceIte, Bool.false_eq_true])
      refine reach_exit rfl ?_
      repeat (first|refine rA ?_|refine rB ?_|refine rC ?_|refine rD ?_|(refine rR ?_;simp only [tO, Nat.reduceAdd])|refine rE ?_|(refine rO goodFF rfl ?_;intro _ hu_ K_ hK_;go_simp;(try rw [wI _]);(try rw [wU _]);refine hK_ _ ?_;clear hK_ K_ hu_;simp only [sS, sN])|(refine rP rfl ?_;simp only [sS, sN]))
      refine next _ _ _ (14 - (j + 1)) (by omega) ⟨j + 1, rfl, by omega, rfl, rfl, by simp [hF2.g2], by simp [hF2.g10], by simp [hF2.g12], by simp [hF2.g14], by simp⟩
  · obtain rfl : j = 14 := by omega
    (refine reach_cond (t := false) (by simp [Act.eval, g16]) ?_; simp only [if_true, if_false, reduceIte, Bool.false_eq_true])
    refine reach_exit rfl ?_
    repeat (first|refine rA ?_|refine rB ?_|refine rC ?_|refine rD ?_|(refine rR ?_;simp only [tO, Nat.reduceAdd])|refine rE ?_|(refine rO goodFF rfl ?_;intro _ hu_ K_ hK_;go_simp;(try rw [wI _]);(try rw [wU _]);refine hK_ _ ?_;clear hK_ K_ hu_;simp only [sS, sN])|(refine rP rfl ?_;simp only [sS, sN]))
    refine reach_ret fun todo => ?_
    exact ret _ _ _ _ (by simp) hk
end Go.Proofs.Ytpiefebngnlfoaa
