/-
  mosaickeep.Linear: all pieces are held against one another; the whole.
-/
import Derived.Test.YtpiefebngnlfoaaLr
set_option linter.unusedVariables false
set_option linter.unusedSimpArgs false
namespace Go.Proofs.Ytpiefebngnlfoaa
open Go.RowKit Go.Conc Go.Vw

theorem comb_linear {wt : Nat → Nat} (hw : ∀ i, wt i < 256) {c : Nat} (hc : c < 256) (x y : Nat → Nat → Nat) (hy : ∀ j i, y j i < 256) (m i : Nat) :
    Fld.comb wt (fun j i => x j i ^^^ Fld.mul c (y j i)) m i = Fld.comb wt x m i ^^^ Fld.mul c (Fld.comb wt y m i) := by
  induction m with
  | zero => simp [Fld.comb, Fld.mul_zero]
  | succ m ih =>
    simp only [Fld.comb]
    rw [ih, Fld.mul_add, Fld.mul_add, Fld.xor4]
    congr 1
    congr 1
    rw [← Fld.mul_assoc (hw m) hc (hy m i), Fld.mul_comm (hw m) hc, Fld.mul_assoc hc (hw m) (hy m i)]
theorem comb_congr {wt : Nat → Nat} {x y : Nat → Nat → Nat} {i : Nat} (h : ∀ j, x j i = y j i) (m : Nat) : Fld.comb wt x m i = Fld.comb wt y m i := by
  induction m with
  | zero => rfl
  | succ m ih => simp only [Fld.comb]; rw [ih, h m]
theorem row_linear (by_ : Nat) (x1 x2 : Nat → Nat) (L m k i : Nat) : rowOf (sumOf by_ x1 x2) L m k i = rowOf x1 L m k i ^^^ Fld.mul by_ (rowOf x2 L m k i) := by
  unfold rowOf
  split
  · rfl
  · simp [Fld.mul_zero]
theorem row_lt {x : Nat → Nat} (h : ∀ i, x i < 256) (L m k i : Nat) : rowOf x L m k i < 256 := by
  unfold rowOf
  split
  · exact h _
  · omega
theorem cut_linear {by_ : Nat} (hb : by_ < 256) {x1 x2 : Nat → Nat} (h2 : ∀ i, x2 i < 256) (L k i : Nat) : cutOf (sumOf by_ x1 x2) L k i = cutOf x1 L k i ^^^ Fld.mul by_ (cutOf x2 L k i) := by
  unfold cutOf
  split
  · exact row_linear by_ x1 x2 L _ k i
  · unfold pieceOf
    rw [comb_congr (y := fun j i => rowOf x1 L ((L + 9) / 10) j i ^^^ Fld.mul by_ (rowOf x2 L ((L + 9) / 10) j i)) fun j => row_linear by_ x1 x2 L _ j i]
    exact comb_linear (wgt_lt id k) hb _ _ (fun j i => row_lt h2 L _ j i) 10 i
theorem cut_lt {x : Nat → Nat} (h : ∀ i, x i < 256) (L k i : Nat) : cutOf x L k i < 256 := by
  unfold cutOf
  split
  · exact row_lt h _ _ _ _
  · exact Fld.comb_lt _ (wgt_lt id k) 10 i
theorem L14.piece {v : World} {BX : Nat} {PX : Nat → Nat} {m : Nat} {p : Nat → Nat → Nat} (h : L14 v BX PX m p) {k : Nat} (hk : k < 14) : v.cell? ⟨BX, k, none⟩ = some (sl (PX k) m) := (cell_of_row _ BX k _ _ _ h.ba).trans (allA_get _ k hk)
theorem L14.byte {v : World} {BX : Nat} {PX : Nat → Nat} {m : Nat} {p : Nat → Nat → Nat} (h : L14 v BX PX m p) {k i : Nat} (hk : k < 14) (hi : i < m) : v.cell? ⟨PX k, i, none⟩ = some (.int .u8 (p k i : Nat)) := (cell_of_row _ (PX k) i _ _ _ (h.pb k hk)).trans (bytesA_get m _ i hi)

/-- The operations of the region of that number. -/
def opsAt (id : Nat) : Code → Option (Array Oper)
  | .region i ops _ => bif Nat.beq i id then some ops else none
  | .seq a b => match opsAt id a with
    | some x => some x
    | none => opsAt id b
  | .cond _ a b => match opsAt id a with
    | some x => some x
    | none => opsAt id b
  | .block _ c => opsAt id c
  | .loop c => opsAt id c
  | _ => none
/-- What the loops leave alone. -/
structure LinF (f : Nat → Value) (by_ BX BY BZ j : Nat) : Prop where
  g2 : f 2 = .int .u8 (by_ : Nat)
  g10 : f 10 = sl BX 14
  g12 : f 12 = sl BY 14
  g14 : f 14 = sl BZ 14
  g16 : f 16 = .int .i64 (j : Nat)

set_option maxRecDepth 100000 in
set_option maxHeartbeats 4000000 in
theorem lin_e {S : Nat → Prop} {v : World} {f : Nat → Value} {Stop : Goroutine → (Nat → Prop) → World → Prop} {cs : List Frame} {k : List Item} (m by_ BX BY BZ j : Nat) (PX PY PZ : Nat → Nat) (hf : LinF f by_ BX BY BZ j) (hlt : j < 14) (cx : v.cell? ⟨BX, j, none⟩ = some (sl (PX j) m)) (cy : v.cell? ⟨BY, j, none⟩ = some (sl (PY j) m)) (cz : v.cell? ⟨BZ, j, none⟩ = some (sl (PZ j) m))
    (next : ∀ f', LinF f' by_ BX BY BZ j → f' 133 = .bool false → Vw.Reach Try.prog Stop (G ((base 9).at ⟨TA 171 f', []⟩ (.inRegion ((opsAt 20 (Try.f9.body.getD .skip)).getD #[]) [] :: k)) cs) S v) :
    Vw.Reach Try.prog Stop (G ((base 9).at ⟨TA 171 f, []⟩ (.code (.region 20 ((opsAt 20 (Try.f9.body.getD .skip)).getD #[]) true) :: k)) cs) S v := by
  obtain ⟨g2, g10, g12, g14, g16⟩ := hf
  have hjI : (j : Int) < 14 := by omega
  have e : opsAt 20 (Try.f9.body.getD .skip) = some _ := rfl
  rw [e] at next ⊢
  simp only [Option.getD_some] at next ⊢
  clear e
  refine reach_draw goodFF (by first | kernel_rfl | rfl) ?_
  simp only [List.size_toArray, List.length_cons, List.length_nil, Nat.reduceAdd, Nat.zero_add]
  co_applyP anyR_take (i := 0) rfl (by first | kernel_rfl | decide +kernel) (by first | kernel_rfl | decide +kernel) (by first | kernel_rfl | decide +kernel) (.inl ⟨(by first | rfl | (simp [Region.wanted, yielded, TA_get, *]; done)), .inl ⟨(by kernel_rfl), fun _ hu_ => run_eq_of ?run1_0⟩⟩) ?rest1_0
  case run1_0 =>
    intro K_ hK_
    (skip)
    go_simp
    (try rw [wrapI _ (by omega) (by omega)])
    (try rw [wrapU _ (by omega) (by omega)])
    exact hK_
  simp only [stO_some, stO_none]
  co_applyP anyR_take (i := 1) rfl (by first | kernel_rfl | decide +kernel) (by first | kernel_rfl | decide +kernel) (by first | kernel_rfl | decide +kernel) (.inl ⟨(by first | rfl | (simp [Region.wanted, yielded, TA_get, *]; done)), .inl ⟨(by kernel_rfl), fun _ hu_ => run_eq_of ?run1_1⟩⟩) ?rest1_1
  case run1_1 =>
    intro K_ hK_
    (skip)
    go_simp
    (try rw [wrapI _ (by omega) (by omega)])
    (try rw [wrapU _ (by omega) (by omega)])
    exact hK_
  simp only [stO_some, stO_none]
  co_applyP anyR_take (i := 2) rfl (by first | kernel_rfl | decide +kernel) (by first | kernel_rfl | decide +kernel) (by first | kernel_rfl | decide +kernel) (.inl ⟨(by first | rfl | (simp [Region.wanted, yielded, TA_get, *]; done)), .inl ⟨(by kernel_rfl), fun _ hu_ => run_eq_of ?run1_2⟩⟩) ?rest1_2
  case run1_2 =>
    intro K_ hK_
    (skip)
    go_simp
    (try rw [wrapI _ (by omega) (by omega)])
    (try rw [wrapU _ (by omega) (by omega)])
    exact hK_
  simp only [stO_some, stO_none]
  co_applyP anyR_take (i := 3) rfl (by first | kernel_rfl | decide +kernel) (by first | kernel_rfl | decide +kernel) (by first | kernel_rfl | decide +kernel) (.inl ⟨(by first | rfl | (simp [Region.wanted, yielded, TA_get, *]; done)), .inl ⟨(by kernel_rfl), fun _ hu_ => run_eq_of ?run2⟩⟩) ?rest2
  case run2 =>
    intro K_ hK_
    (have hc := (Ext.twin hu_).cell cx)
    go_simp
    (try rw [wrapI _ (by omega) (by omega)])
    (try rw [wrapU _ (by omega) (by omega)])
    exact hK_
  simp only [stO_some, stO_none]
  co_applyP anyR_take (i := 4) rfl (by first | kernel_rfl | decide +kernel) (by first | kernel_rfl | decide +kernel) (by first | kernel_rfl | decide +kernel) (.inl ⟨(by first | rfl | (simp [Region.wanted, yielded, TA_get, *]; done)), .inl ⟨(by kernel_rfl), fun _ hu_ => run_eq_of ?run3_4⟩⟩) ?rest3_4
  case run3_4 =>
    intro K_ hK_
    (skip)
    go_simp
    (try rw [wrapI _ (by omega) (by omega)])
    (try rw [wrapU _ (by omega) (by omega)])
    exact hK_
  simp only [stO_some, stO_none]
  co_applyP anyR_take (i := 5) rfl (by first | kernel_rfl | decide +kernel) (by first | kernel_rfl | decide +kernel) (by first | kernel_rfl | decide +kernel) (.inl ⟨(by first | rfl | (simp [Region.wanted, yielded, TA_get, *]; done)), .inl ⟨(by kernel_rfl), fun _ hu_ => run_eq_of ?run3_5⟩⟩) ?rest3_5
  case run3_5 =>
    intro K_ hK_
    (skip)
    go_simp
    (try rw [wrapI _ (by omega) (by omega)])
    (try rw [wrapU _ (by omega) (by omega)])
    exact hK_
  simp only [stO_some, stO_none]
  co_applyP anyR_take (i := 6) rfl (by first | kernel_rfl | decide +kernel) (by first | kernel_rfl | decide +kernel) (by first | kernel_rfl | decide +kernel) (.inl ⟨(by first | rfl | (simp [Region.wanted, yielded, TA_get, *]; done)), .inl ⟨(by kernel_rfl), fun _ hu_ => run_eq_of ?run3_6⟩⟩) ?rest3_6
  case run3_6 =>
    intro K_ hK_
    (skip)
    go_simp
    (try rw [wrapI _ (by omega) (by omega)])
    (try rw [wrapU _ (by omega) (by omega)])
    exact hK_
  simp only [stO_some, stO_none]
  co_applyP anyR_take (i := 7) rfl (by first | kernel_rfl | decide +kernel) (by first | kernel_rfl | decide +kernel) (by first | kernel_rfl | decide +kernel) (.inl ⟨(by first | rfl | (simp [Region.wanted, yielded, TA_get, *]; done)), .inl ⟨(by kernel_rfl), fun _ hu_ => run_eq_of ?run3_7⟩⟩) ?rest3_7
  case run3_7 =>
    intro K_ hK_
    (skip)
    go_simp
    (try rw [wrapI _ (by omega) (by omega)])
    (try rw [wrapU _ (by omega) (by omega)])
    exact hK_
  simp only [stO_some, stO_none]
  co_applyP anyR_take (i := 8) rfl (by first | kernel_rfl | decide +kernel) (by first | kernel_rfl | decide +kernel) (by first | kernel_rfl | decide +kernel) (.inl ⟨(by first | rfl | (simp [Region.wanted, yielded, TA_get, *]; done)), .inl ⟨(by kernel_rfl), fun _ hu_ => run_eq_of ?run4⟩⟩) ?rest4
  case run4 =>
    intro K_ hK_
    (have hc := (Ext.twin hu_).cell cz)
    go_simp
    (try rw [wrapI _ (by omega) (by omega)])
    (try rw [wrapU _ (by omega) (by omega)])
    exact hK_
  simp only [stO_some, stO_none]
  co_applyP anyR_take (i := 9) rfl (by first | kernel_rfl | decide +kernel) (by first | kernel_rfl | decide +kernel) (by first | kernel_rfl | decide +kernel) (.inl ⟨(by first | rfl | (simp [Region.wanted, yielded, TA_get, *]; done)), .inl ⟨(by kernel_rfl), fun _ hu_ => run_eq_of ?run5_9⟩⟩) ?rest5_9
  case run5_9 =>
    intro K_ hK_
    (skip)
    go_simp
    (try rw [wrapI _ (by omega) (by omega)])
    (try rw [wrapU _ (by omega) (by omega)])
    exact hK_
  simp only [stO_some, stO_none]
  co_applyP anyR_take (i := 10) rfl (by first | kernel_rfl | decide +kernel) (by first | kernel_rfl | decide +kernel) (by first | kernel_rfl | decide +kernel) (.inl ⟨(by first | rfl | (simp [Region.wanted, yielded, TA_get, *]; done)), .inl ⟨(by kernel_rfl), fun _ hu_ => run_eq_of ?run5_10⟩⟩) ?rest5_10
  case run5_10 =>
    intro K_ hK_
    (skip)
    go_simp
    (try rw [wrapI _ (by omega) (by omega)])
    (try rw [wrapU _ (by omega) (by omega)])
    exact hK_
  simp only [stO_some, stO_none]
  co_applyP anyR_take (i := 11) rfl (by first | kernel_rfl | decide +kernel) (by first | kernel_rfl | decide +kernel) (by first | kernel_rfl | decide +kernel) (.inl ⟨(by first | rfl | (simp [Region.wanted, yielded, TA_get, *]; done)), .inl ⟨(by kernel_rfl), fun _ hu_ => run_eq_of ?run5_11⟩⟩) ?rest5_11
  case run5_11 =>
    intro K_ hK_
    (skip)
    go_simp
    (try rw [wrapI _ (by omega) (by omega)])
    (try rw [wrapU _ (by omega) (by omega)])
    exact hK_
  simp only [stO_some, stO_none]
  co_applyP anyR_take (i := 12) rfl (by first | kernel_rfl | decide +kernel) (by first | kernel_rfl | decide +kernel) (by first | kernel_rfl | decide +kernel) (.inl ⟨(by first | rfl | (simp [Region.wanted, yielded, TA_get, *]; done)), .inl ⟨(by kernel_rfl), fun _ hu_ => run_eq_of ?run5_12⟩⟩) ?rest5_12
  case run5_12 =>
    intro K_ hK_
    (skip)
    go_simp
    (try rw [wrapI _ (by omega) (by omega)])
    (try rw [wrapU _ (by omega) (by omega)])
    exact hK_
  simp only [stO_some, stO_none]
  co_applyP anyR_take (i := 13) rfl (by first | kernel_rfl | decide +kernel) (by first | kernel_rfl | decide +kernel) (by first | kernel_rfl | decide +kernel) (.inl ⟨(by first | rfl | (simp [Region.wanted, yielded, TA_get, *]; done)), .inl ⟨(by kernel_rfl), fun _ hu_ => run_eq_of ?run5_13⟩⟩) ?rest5_13
  case run5_13 =>
    intro K_ hK_
    (skip)
    go_simp
    (try rw [wrapI _ (by omega) (by omega)])
    (try rw [wrapU _ (by omega) (by omega)])
    exact hK_
  simp only [stO_some, stO_none]
  co_applyP anyR_take (i := 14) rfl (by first | kernel_rfl | decide +kernel) (by first | kernel_rfl | decide +kernel) (by first | kernel_rfl | decide +kernel) (.inl ⟨(by first | rfl | (simp [Region.wanted, yielded, TA_get, *]; done)), .inl ⟨(by kernel_rfl), fun _ hu_ => run_eq_of ?run5_14⟩⟩) ?rest5_14
  case run5_14 =>
    intro K_ hK_
    (skip)
    go_simp
    (try rw [wrapI _ (by omega) (by omega)])
    (try rw [wrapU _ (by omega) (by omega)])
    exact hK_
  simp only [stO_some, stO_none]
  co_applyP anyR_take (i := 15) rfl (by first | kernel_rfl | decide +kernel) (by first | kernel_rfl | decide +kernel) (by first | kernel_rfl | decide +kernel) (.inl ⟨(by first | rfl | (simp [Region.wanted, yielded, TA_get, *]; done)), .inl ⟨(by kernel_rfl), fun _ hu_ => run_eq_of ?run6⟩⟩) ?rest6
  case run6 =>
    intro K_ hK_
    (have hc := (Ext.twin hu_).cell cy)
    go_simp
    (try rw [wrapI _ (by omega) (by omega)])
    (try rw [wrapU _ (by omega) (by omega)])
    exact hK_
  simp only [stO_some, stO_none]
  co_applyP anyR_take (i := 16) rfl (by first | kernel_rfl | decide +kernel) (by first | kernel_rfl | decide +kernel) (by first | kernel_rfl | decide +kernel) (.inl ⟨(by first | rfl | (simp [Region.wanted, yielded, TA_get, *]; done)), .inl ⟨(by kernel_rfl), fun _ hu_ => run_eq_of ?run7_16⟩⟩) ?rest7_16
  case run7_16 =>
    intro K_ hK_
    (skip)
    go_simp
    (try rw [wrapI _ (by omega) (by omega)])
    (try rw [wrapU _ (by omega) (by omega)])
    exact hK_
  simp only [stO_some, stO_none]
  co_applyP anyR_take (i := 17) rfl (by first | kernel_rfl | decide +kernel) (by first | kernel_rfl | decide +kernel) (by first | kernel_rfl | decide +kernel) (.inl ⟨(by first | rfl | (simp [Region.wanted, yielded, TA_get, *]; done)), .inl ⟨(by kernel_rfl), fun _ hu_ => run_eq_of ?run7_17⟩⟩) ?rest7_17
  case run7_17 =>
    intro K_ hK_
    (skip)
    go_simp
    (try rw [wrapI _ (by omega) (by omega)])
    (try rw [wrapU _ (by omega) (by omega)])
    exact hK_
  simp only [stO_some, stO_none]
  co_applyP anyR_take (i := 18) rfl (by first | kernel_rfl | decide +kernel) (by first | kernel_rfl | decide +kernel) (by first | kernel_rfl | decide +kernel) (.inl ⟨(by first | rfl | (simp [Region.wanted, yielded, TA_get, *]; done)), .inl ⟨(by kernel_rfl), fun _ hu_ => run_eq_of ?run7_18⟩⟩) ?rest7_18
  case run7_18 =>
    intro K_ hK_
    (skip)
    go_simp
    (try rw [wrapI _ (by omega) (by omega)])
    (try rw [wrapU _ (by omega) (by omega)])
    exact hK_
  simp only [stO_some, stO_none]
  co_applyP anyR_take (i := 19) rfl (by first | kernel_rfl | decide +kernel) (by first | kernel_rfl | decide +kernel) (by first | kernel_rfl | decide +kernel) (.inl ⟨(by first | rfl | (simp [Region.wanted, yielded, TA_get, *]; done)), .inl ⟨(by kernel_rfl), fun _ hu_ => run_eq_of ?run7_19⟩⟩) ?rest7_19
  case run7_19 =>
    intro K_ hK_
    (skip)
    go_simp
    (try rw [wrapI _ (by omega) (by omega)])
    (try rw [wrapU _ (by omega) (by omega)])
    exact hK_
  simp only [stO_some, stO_none]
  co_applyP anyR_take (i := 20) rfl (by first | kernel_rfl | decide +kernel) (by first | kernel_rfl | decide +kernel) (by first | kernel_rfl | decide +kernel) (.inl ⟨(by first | rfl | (simp [Region.wanted, yielded, TA_get, *]; done)), .inl ⟨(by kernel_rfl), fun _ hu_ => run_eq_of ?run8⟩⟩) ?rest8
  case run8 =>
    intro K_ hK_
    (have hc := (Ext.twin hu_).cell cz)
    go_simp
    (try rw [wrapI _ (by omega) (by omega)])
    (try rw [wrapU _ (by omega) (by omega)])
    exact hK_
  simp only [stO_some, stO_none]
  co_applyP anyR_take (i := 21) rfl (by first | kernel_rfl | decide +kernel) (by first | kernel_rfl | decide +kernel) (by first | kernel_rfl | decide +kernel) (.inl ⟨(by first | rfl | (simp [Region.wanted, yielded, TA_get, *]; done)), .inl ⟨(by kernel_rfl), fun _ hu_ => run_eq_of ?run9_21⟩⟩) ?rest9_21
  case run9_21 =>
    intro K_ hK_
    (skip)
    go_simp
    (try rw [wrapI _ (by omega) (by omega)])
    (try rw [wrapU _ (by omega) (by omega)])
    exact hK_
  simp only [stO_some, stO_none]
  co_applyP anyR_take (i := 22) rfl (by first | kernel_rfl | decide +kernel) (by first | kernel_rfl | decide +kernel) (by first | kernel_rfl | decide +kernel) (.inl ⟨(by first | rfl | (simp [Region.wanted, yielded, TA_get, *]; done)), .inl ⟨(by kernel_rfl), fun _ hu_ => run_eq_of ?run9_22⟩⟩) ?rest9_22
  case run9_22 =>
    intro K_ hK_
    (skip)
    go_simp
    (try rw [wrapI _ (by omega) (by omega)])
    (try rw [wrapU _ (by omega) (by omega)])
    exact hK_
  simp only [stO_some, stO_none]
  co_applyP anyR_take (i := 23) rfl (by first | kernel_rfl | decide +kernel) (by first | kernel_rfl | decide +kernel) (by first | kernel_rfl | decide +kernel) (.inl ⟨(by first | rfl | (simp [Region.wanted, yielded, TA_get, *]; done)), .inl ⟨(by kernel_rfl), fun _ hu_ => run_eq_of ?run9_23⟩⟩) ?rest9_23
  case run9_23 =>
    intro K_ hK_
    (skip)
    go_simp
    (try rw [wrapI _ (by omega) (by omega)])
    (try rw [wrapU _ (by omega) (by omega)])
    exact hK_
  simp only [stO_some, stO_none]
  refine anyR_done (by first | kernel_rfl | decide +kernel) ?_ _
  exact next _ ⟨by simp [g2], by simp [g10], by simp [g12], by simp [g14], by simp [g16]⟩ (by simp)

set_option maxRecDepth 100000 in
set_option maxHeartbeats 4000000 in
theorem lin_f {S : Nat → Prop} {v : World} {f : Nat → Value} {Stop : Goroutine → (Nat → Prop) → World → Prop} {cs : List Frame} {k : List Item} (m by_ BX BY BZ j i X Y : Nat) (PX PY PZ : Nat → Nat) (hf : LinF f by_ BX BY BZ j) (g17 : f 17 = .int .i64 (i : Nat)) (hlt : j < 14) (hlti : i < m) (hm : m ≤ 400) (hb : by_ < 256) (ex : X < 256) (ey : Y < 256) (cx : v.cell? ⟨BX, j, none⟩ = some (sl (PX j) m)) (cy : v.cell? ⟨BY, j, none⟩ = some (sl (PY j) m)) (cz : v.cell? ⟨BZ, j, none⟩ = some (sl (PZ j) m))
    (kx : v.cell? ⟨PX j, i, none⟩ = some (.int .u8 (X : Nat))) (ky : v.cell? ⟨PY j, i, none⟩ = some (.int .u8 (Y : Nat))) (kz : v.cell? ⟨PZ j, i, none⟩ = some (.int .u8 ((X ^^^ Fld.mul by_ Y : Nat) : Int)))
    (next : ∀ f', LinF f' by_ BX BY BZ j → f' 17 = .int .i64 (i : Nat) → f' 170 = .bool false → Vw.Reach Try.prog Stop (G ((base 9).at ⟨TA 171 f', []⟩ (.inRegion ((opsAt 25 (Try.f9.body.getD .skip)).getD #[]) [] :: k)) cs) S v) :
    Vw.Reach Try.prog Stop (G ((base 9).at ⟨TA 171 f, []⟩ (.code (.region 25 ((opsAt 25 (Try.f9.body.getD .skip)).getD #[]) true) :: k)) cs) S v := by
  obtain ⟨g2, g10, g12, g14, g16⟩ := hf
  have hjI : (j : Int) < 14 := by omega
  have hiI : (i : Int) < (m : Int) := by omega
  have em := Fld.mul_lt hb Y
  have e : opsAt 25 (Try.f9.body.getD .skip) = some _ := rfl
  rw [e] at next ⊢
  simp only [Option.getD_some] at next ⊢
  clear e
  refine reach_draw goodFF (by first | kernel_rfl | rfl) ?_
  simp only [List.size_toArray, List.length_cons, List.length_nil, Nat.reduceAdd, Nat.zero_add]
  co_applyP anyR_take (i := 0) rfl (by first | kernel_rfl | decide +kernel) (by first | kernel_rfl | decide +kernel) (by first | kernel_rfl | decide +kernel) (.inl ⟨(by first | rfl | (simp [Region.wanted, yielded, TA_get, *]; done)), .inl ⟨(by kernel_rfl), fun _ hu_ => run_eq_of ?run10_0⟩⟩) ?rest10_0
  case run10_0 =>
    intro K_ hK_
    (skip)
    go_simp
    (try rw [wrapI _ (by omega) (by omega)])
    (try rw [wrapU _ (by omega) (by omega)])
    exact hK_
  simp only [stO_some, stO_none]
  co_applyP anyR_take (i := 1) rfl (by first | kernel_rfl | decide +kernel) (by first | kernel_rfl | decide +kernel) (by first | kernel_rfl | decide +kernel) (.inl ⟨(by first | rfl | (simp [Region.wanted, yielded, TA_get, *]; done)), .inl ⟨(by kernel_rfl), fun _ hu_ => run_eq_of ?run10_1⟩⟩) ?rest10_1
  case run10_1 =>
    intro K_ hK_
    (skip)
    go_simp
    (try rw [wrapI _ (by omega) (by omega)])
    (try rw [wrapU _ (by omega) (by omega)])
    exact hK_
  simp only [stO_some, stO_none]
  co_applyP anyR_take (i := 2) rfl (by first | kernel_rfl | decide +kernel) (by first | kernel_rfl | decide +kernel) (by first | kernel_rfl | decide +kernel) (.inl ⟨(by first | rfl | (simp [Region.wanted, yielded, TA_get, *]; done)), .inl ⟨(by kernel_rfl), fun _ hu_ => run_eq_of ?run10_2⟩⟩) ?rest10_2
  case run10_2 =>
    intro K_ hK_
    (skip)
    go_simp
    (try rw [wrapI _ (by omega) (by omega)])
    (try rw [wrapU _ (by omega) (by omega)])
    exact hK_
  simp only [stO_some, stO_none]
  co_applyP anyR_take (i := 3) rfl (by first | kernel_rfl | decide +kernel) (by first | kernel_rfl | decide +kernel) (by first | kernel_rfl | decide +kernel) (.inl ⟨(by first | rfl | (simp [Region.wanted, yielded, TA_get, *]; done)), .inl ⟨(by kernel_rfl), fun _ hu_ => run_eq_of ?run11⟩⟩) ?rest11
  case run11 =>
    intro K_ hK_
    (have hc := (Ext.twin hu_).cell cz)
    go_simp
    (try rw [wrapI _ (by omega) (by omega)])
    (try rw [wrapU _ (by omega) (by omega)])
    exact hK_
  simp only [stO_some, stO_none]
  co_applyP anyR_take (i := 4) rfl (by first | kernel_rfl | decide +kernel) (by first | kernel_rfl | decide +kernel) (by first | kernel_rfl | decide +kernel) (.inl ⟨(by first | rfl | (simp [Region.wanted, yielded, TA_get, *]; done)), .inl ⟨(by kernel_rfl), fun _ hu_ => run_eq_of ?run12_4⟩⟩) ?rest12_4
  case run12_4 =>
    intro K_ hK_
    (skip)
    go_simp
    (try rw [wrapI _ (by omega) (by omega)])
    (try rw [wrapU _ (by omega) (by omega)])
    exact hK_
  simp only [stO_some, stO_none]
  co_applyP anyR_take (i := 5) rfl (by first | kernel_rfl | decide +kernel) (by first | kernel_rfl | decide +kernel) (by first | kernel_rfl | decide +kernel) (.inl ⟨(by first | rfl | (simp [Region.wanted, yielded, TA_get, *]; done)), .inl ⟨(by kernel_rfl), fun _ hu_ => run_eq_of ?run12_5⟩⟩) ?rest12_5
  case run12_5 =>
    intro K_ hK_
    (skip)
    go_simp
    (try rw [wrapI _ (by omega) (by omega)])
    (try rw [wrapU _ (by omega) (by omega)])
    exact hK_
  simp only [stO_some, stO_none]
  co_applyP anyR_take (i := 6) rfl (by first | kernel_rfl | decide +kernel) (by first | kernel_rfl | decide +kernel) (by first | kernel_rfl | decide +kernel) (.inl ⟨(by first | rfl | (simp [Region.wanted, yielded, TA_get, *]; done)), .inl ⟨(by kernel_rfl), fun _ hu_ => run_eq_of ?run13⟩⟩) ?rest13
  case run13 =>
    intro K_ hK_
    (have hc := (Ext.twin hu_).cell kz)
    go_simp
    (try rw [wrapI _ (by omega) (by omega)])
    (try rw [wrapU _ (by omega) (by omega)])
    exact hK_
  simp only [stO_some, stO_none]
  co_applyP anyR_take (i := 7) rfl (by first | kernel_rfl | decide +kernel) (by first | kernel_rfl | decide +kernel) (by first | kernel_rfl | decide +kernel) (.inl ⟨(by first | rfl | (simp [Region.wanted, yielded, TA_get, *]; done)), .inl ⟨(by kernel_rfl), fun _ hu_ => run_eq_of ?run14_7⟩⟩) ?rest14_7
  case run14_7 =>
    intro K_ hK_
    (skip)
    go_simp
    (try rw [wrapI _ (by omega) (by omega)])
    (try rw [wrapU _ (by omega) (by omega)])
    exact hK_
  simp only [stO_some, stO_none]
  co_applyP anyR_take (i := 8) rfl (by first | kernel_rfl | decide +kernel) (by first | kernel_rfl | decide +kernel) (by first | kernel_rfl | decide +kernel) (.inl ⟨(by first | rfl | (simp [Region.wanted, yielded, TA_get, *]; done)), .inl ⟨(by kernel_rfl), fun _ hu_ => run_eq_of ?run14_8⟩⟩) ?rest14_8
  case run14_8 =>
    intro K_ hK_
    (skip)
    go_simp
    (try rw [wrapI _ (by omega) (by omega)])
    (try rw [wrapU _ (by omega) (by omega)])
    exact hK_
  simp only [stO_some, stO_none]
  co_applyP anyR_take (i := 9) rfl (by first | kernel_rfl | decide +kernel) (by first | kernel_rfl | decide +kernel) (by first | kernel_rfl | decide +kernel) (.inl ⟨(by first | rfl | (simp [Region.wanted, yielded, TA_get, *]; done)), .inl ⟨(by kernel_rfl), fun _ hu_ => run_eq_of ?run14_9⟩⟩) ?rest14_9
  case run14_9 =>
    intro K_ hK_
    (skip)
    go_simp
    (try rw [wrapI _ (by omega) (by omega)])
    (try rw [wrapU _ (by omega) (by omega)])
    exact hK_
  simp only [stO_some, stO_none]
  co_applyP anyR_take (i := 10) rfl (by first | kernel_rfl | decide +kernel) (by first | kernel_rfl | decide +kernel) (by first | kernel_rfl | decide +kernel) (.inl ⟨(by first | rfl | (simp [Region.wanted, yielded, TA_get, *]; done)), .inl ⟨(by kernel_rfl), fun _ hu_ => run_eq_of ?run15⟩⟩) ?rest15
  case run15 =>
    intro K_ hK_
    (have hc := (Ext.twin hu_).cell cx)
    go_simp
    (try rw [wrapI _ (by omega) (by omega)])
    (try rw [wrapU _ (by omega) (by omega)])
    exact hK_
  simp only [stO_some, stO_none]
  co_applyP anyR_take (i := 11) rfl (by first | kernel_rfl | decide +kernel) (by first | kernel_rfl | decide +kernel) (by first | kernel_rfl | decide +kernel) (.inl ⟨(by first | rfl | (simp [Region.wanted, yielded, TA_get, *]; done)), .inl ⟨(by kernel_rfl), fun _ hu_ => run_eq_of ?run16_11⟩⟩) ?rest16_11
  case run16_11 =>
    intro K_ hK_
    (skip)
    go_simp
    (try rw [wrapI _ (by omega) (by omega)])
    (try rw [wrapU _ (by omega) (by omega)])
    exact hK_
  simp only [stO_some, stO_none]
  co_applyP anyR_take (i := 12) rfl (by first | kernel_rfl | decide +kernel) (by first | kernel_rfl | decide +kernel) (by first | kernel_rfl | decide +kernel) (.inl ⟨(by first | rfl | (simp [Region.wanted, yielded, TA_get, *]; done)), .inl ⟨(by kernel_rfl), fun _ hu_ => run_eq_of ?run16_12⟩⟩) ?rest16_12
  case run16_12 =>
    intro K_ hK_
    (skip)
    go_simp
    (try rw [wrapI _ (by omega) (by omega)])
    (try rw [wrapU _ (by omega) (by omega)])
    exact hK_
  simp only [stO_some, stO_none]
  co_applyP anyR_take (i := 13) rfl (by first | kernel_rfl | decide +kernel) (by first | kernel_rfl | decide +kernel) (by first | kernel_rfl | decide +kernel) (.inl ⟨(by first | rfl | (simp [Region.wanted, yielded, TA_get, *]; done)), .inl ⟨(by kernel_rfl), fun _ hu_ => run_eq_of ?run17⟩⟩) ?rest17
  case run17 =>
    intro K_ hK_
    (have hc := (Ext.twin hu_).cell kx)
    go_simp
    (try rw [wrapI _ (by omega) (by omega)])
    (try rw [wrapU _ (by omega) (by omega)])
    exact hK_
  simp only [stO_some, stO_none]
  co_applyP anyR_take (i := 14) rfl (by first | kernel_rfl | decide +kernel) (by first | kernel_rfl | decide +kernel) (by first | kernel_rfl | decide +kernel) (.inl ⟨(by first | rfl | (simp [Region.wanted, yielded, TA_get, *]; done)), .inl ⟨(by kernel_rfl), fun _ hu_ => run_eq_of ?run18_14⟩⟩) ?rest18_14
  case run18_14 =>
    intro K_ hK_
    (skip)
    go_simp
    (try rw [wrapI _ (by omega) (by omega)])
    (try rw [wrapU _ (by omega) (by omega)])
    exact hK_
  simp only [stO_some, stO_none]
  co_applyP anyR_take (i := 15) rfl (by first | kernel_rfl | decide +kernel) (by first | kernel_rfl | decide +kernel) (by first | kernel_rfl | decide +kernel) (.inl ⟨(by first | rfl | (simp [Region.wanted, yielded, TA_get, *]; done)), .inl ⟨(by kernel_rfl), fun _ hu_ => run_eq_of ?run18_15⟩⟩) ?rest18_15
  case run18_15 =>
    intro K_ hK_
    (skip)
    go_simp
    (try rw [wrapI _ (by omega) (by omega)])
    (try rw [wrapU _ (by omega) (by omega)])
    exact hK_
  simp only [stO_some, stO_none]
  co_applyP anyR_take (i := 16) rfl (by first | kernel_rfl | decide +kernel) (by first | kernel_rfl | decide +kernel) (by first | kernel_rfl | decide +kernel) (.inl ⟨(by first | rfl | (simp [Region.wanted, yielded, TA_get, *]; done)), .inl ⟨(by kernel_rfl), fun _ hu_ => run_eq_of ?run18_16⟩⟩) ?rest18_16
  case run18_16 =>
    intro K_ hK_
    (skip)
    go_simp
    (try rw [wrapI _ (by omega) (by omega)])
    (try rw [wrapU _ (by omega) (by omega)])
    exact hK_
  simp only [stO_some, stO_none]
  co_applyP anyR_take (i := 17) rfl (by first | kernel_rfl | decide +kernel) (by first | kernel_rfl | decide +kernel) (by first | kernel_rfl | decide +kernel) (.inl ⟨(by first | rfl | (simp [Region.wanted, yielded, TA_get, *]; done)), .inl ⟨(by kernel_rfl), fun _ hu_ => run_eq_of ?run18_17⟩⟩) ?rest18_17
  case run18_17 =>
    intro K_ hK_
    (skip)
    go_simp
    (try rw [wrapI _ (by omega) (by omega)])
    (try rw [wrapU _ (by omega) (by omega)])
    exact hK_
  simp only [stO_some, stO_none]
  co_applyP anyR_take (i := 18) rfl (by first | kernel_rfl | decide +kernel) (by first | kernel_rfl | decide +kernel) (by first | kernel_rfl | decide +kernel) (.inl ⟨(by first | rfl | (simp [Region.wanted, yielded, TA_get, *]; done)), .inl ⟨(by kernel_rfl), fun _ hu_ => run_eq_of ?run18_18⟩⟩) ?rest18_18
  case run18_18 =>
    intro K_ hK_
    (skip)
    go_simp
    (try rw [wrapI _ (by omega) (by omega)])
    (try rw [wrapU _ (by omega) (by omega)])
    exact hK_
  simp only [stO_some, stO_none]
  co_applyP anyR_take (i := 19) rfl (by first | kernel_rfl | decide +kernel) (by first | kernel_rfl | decide +kernel) (by first | kernel_rfl | decide +kernel) (.inl ⟨(by first | rfl | (simp [Region.wanted, yielded, TA_get, *]; done)), .inl ⟨(by kernel_rfl), fun _ hu_ => run_eq_of ?run19⟩⟩) ?rest19
  case run19 =>
    intro K_ hK_
    (have hc := (Ext.twin hu_).cell cy)
    go_simp
    (try rw [wrapI _ (by omega) (by omega)])
    (try rw [wrapU _ (by omega) (by omega)])
    exact hK_
  simp only [stO_some, stO_none]
  co_applyP anyR_take (i := 20) rfl (by first | kernel_rfl | decide +kernel) (by first | kernel_rfl | decide +kernel) (by first | kernel_rfl | decide +kernel) (.inl ⟨(by first | rfl | (simp [Region.wanted, yielded, TA_get, *]; done)), .inl ⟨(by kernel_rfl), fun _ hu_ => run_eq_of ?run20_20⟩⟩) ?rest20_20
  case run20_20 =>
    intro K_ hK_
    (skip)
    go_simp
    (try rw [wrapI _ (by omega) (by omega)])
    (try rw [wrapU _ (by omega) (by omega)])
    exact hK_
  simp only [stO_some, stO_none]
  co_applyP anyR_take (i := 21) rfl (by first | kernel_rfl | decide +kernel) (by first | kernel_rfl | decide +kernel) (by first | kernel_rfl | decide +kernel) (.inl ⟨(by first | rfl | (simp [Region.wanted, yielded, TA_get, *]; done)), .inl ⟨(by kernel_rfl), fun _ hu_ => run_eq_of ?run20_21⟩⟩) ?rest20_21
  case run20_21 =>
    intro K_ hK_
    (skip)
    go_simp
    (try rw [wrapI _ (by omega) (by omega)])
    (try rw [wrapU _ (by omega) (by omega)])
    exact hK_
  simp only [stO_some, stO_none]
  co_applyP anyR_take (i := 22) rfl (by first | kernel_rfl | decide +kernel) (by first | kernel_rfl | decide +kernel) (by first | kernel_rfl | decide +kernel) (.inl ⟨(by first | rfl | (simp [Region.wanted, yielded, TA_get, *]; done)), .inl ⟨(by kernel_rfl), fun _ hu_ => run_eq_of ?run21⟩⟩) ?rest21
  case run21 =>
    intro K_ hK_
    (have hc := (Ext.twin hu_).cell ky)
    go_simp
    (try rw [wrapI _ (by omega) (by omega)])
    (try rw [wrapU _ (by omega) (by omega)])
    exact hK_
  simp only [stO_some, stO_none]
  co_applyP anyR_take (i := 23) rfl (by first | kernel_rfl | decide +kernel) (by first | kernel_rfl | decide +kernel) (by first | kernel_rfl | decide +kernel) (.inl ⟨(by first | rfl | (simp [Region.wanted, yielded, TA_get, *]; done)), .inl ⟨(by kernel_rfl), fun _ hu_ => run_eq_of ?run22⟩⟩) ?rest22
  case run22 =>
    intro K_ hK_
    (skip)
    go_simp
    (try rw [wrapI _ (by omega) (by omega)])
    (try rw [wrapU _ (by omega) (by omega)])
    exact hK_
  simp only [stO_some, stO_none]
  co_applyP anyR_take (i := 24) rfl (by first | kernel_rfl | decide +kernel) (by first | kernel_rfl | decide +kernel) (by first | kernel_rfl | decide +kernel) (.inl ⟨(by first | rfl | (simp [Region.wanted, yielded, TA_get, *]; done)), .inr ⟨_, _, _, _, _, rfl, Try.func10, (by kernel_rfl), rfl, ?run23⟩⟩) ?rest23
  case run23 =>
    simp [Act.eval, *]
    exact pmul_r by_ Y hb ey
  simp only [stO_some, stO_none]
  co_applyP anyR_take (i := 25) rfl (by first | kernel_rfl | decide +kernel) (by first | kernel_rfl | decide +kernel) (by first | kernel_rfl | decide +kernel) (.inl ⟨(by first | rfl | (simp [Region.wanted, yielded, TA_get, *]; done)), .inl ⟨(by kernel_rfl), fun _ hu_ => run_eq_of ?run24⟩⟩) ?rest24
  case run24 =>
    intro K_ hK_
    (skip)
    go_simp
    (try rw [wrapI _ (by omega) (by omega)])
    (try rw [wrapU _ (by omega) (by omega)])
    exact hK_
  simp only [stO_some, stO_none]
  co_applyP anyR_take (i := 26) rfl (by first | kernel_rfl | decide +kernel) (by first | kernel_rfl | decide +kernel) (by first | kernel_rfl | decide +kernel) (.inl ⟨(by first | rfl | (simp [Region.wanted, yielded, TA_get, *]; done)), .inl ⟨(by kernel_rfl), fun _ hu_ => run_eq_of ?run25⟩⟩) ?rest25
  case run25 =>
    intro K_ hK_
    (skip)
    go_simp
    (try rw [wrapI _ (by omega) (by omega)])
    (try rw [wrapU _ (by omega) (by omega)])
    exact hK_
  simp only [stO_some, stO_none]
  rw [u8_xor_nat _ _ ex em]
  co_applyP anyR_take (i := 27) rfl (by first | kernel_rfl | decide +kernel) (by first | kernel_rfl | decide +kernel) (by first | kernel_rfl | decide +kernel) (.inl ⟨(by first | rfl | (simp [Region.wanted, yielded, TA_get, *]; done)), .inl ⟨(by kernel_rfl), fun _ hu_ => run_eq_of ?run26⟩⟩) ?rest26
  case run26 =>
    intro K_ hK_
    (skip)
    go_simp
    (try rw [wrapI _ (by omega) (by omega)])
    (try rw [wrapU _ (by omega) (by omega)])
    exact hK_
  simp only [stO_some, stO_none]
  refine anyR_done (by first | kernel_rfl | decide +kernel) ?_ _
  exact next _ ⟨by simp [g2], by simp [g10], by simp [g12], by simp [g14], by simp [g16]⟩ (by simp [g17]) (by simp)

set_option maxRecDepth 100000 in
set_option maxHeartbeats 4000000 in
theorem lin_d {S : Nat → Prop} {v0 v : World} {f : Nat → Value} (L by_ BX BY BZ : Nat) (PX PY PZ : Nat → Nat) (x1 x2 : Nat → Nat) (hk : Kp v0 (fun _ => False) v) (hL : L ≤ 400) (hb : by_ < 256) (hx1 : ∀ i, x1 i < 256) (hx2 : ∀ i, x2 i < 256)
    (h1 : L14 v BX PX ((L + 9) / 10) (cutOf x1 L)) (h2 : L14 v BY PY ((L + 9) / 10) (cutOf x2 L)) (h3 : L14 v BZ PZ ((L + 9) / 10) (cutOf (sumOf by_ x1 x2) L)) (f2 : f 2 = .int .u8 (by_ : Nat)) (f10 : f 10 = sl BX 14) (f12 : f 12 = sl BY 14) (f14 : f 14 = sl BZ 14) :
    LinR (linD (Try.f9.body.getD .skip)) S v0 v f := by
  intro Stop cs ret
  have hm : (L + 9) / 10 ≤ 400 := by omega
  generalize (L + 9) / 10 = m at h1 h2 h3 hm
  simp only [linD, linC, linB, hd, tl, Try.f9, Option.getD_some]
  repeat (first | (refine reach_seq ?_) | (refine reach_skip ?_) | (refine reach_block ?_) | (refine reach_inBlock ?_) | (refine reach_region ?_; simp only [List.size_toArray, List.length_cons, List.length_nil, Nat.reduceAdd, Nat.zero_add, List.range, List.range.loop]) | (refine reach_region_end ?_) | (refine reach_stillK goodFF rfl ?_ (by kernel_rfl) ?_; (focus (first | rfl | (simp [Region.wanted, yielded, TA_get, *]; done))); intro _ hu_ K_ hK_; (skip); go_simp; (try rw [wrapI _ (by omega) (by omega)]); (try rw [wrapU _ (by omega) (by omega)]); refine hK_ _ ?_; clear hK_ K_ hu_; simp only [stO_some, stO_none]) | (refine reach_pass rfl ?_ ?_; (focus (simp [Region.wanted, yielded, TA_get, *]; done)); simp only [stO_some, stO_none]))
  refine reach_rounds (fun d f' S' v' => ∃ j, d = 14 - j ∧ j ≤ 14 ∧ S' = S ∧ v' = v ∧ LinF f' by_ BX BY BZ j) 14 ⟨0, by omega, by omega, rfl, rfl, by simp [f2], by simp [f10], by simp [f12], by simp [f14], by simp⟩ ?_
  rintro d f' S' v' ⟨j, rfl, hj, eS, eV, hF⟩ next
  subst S' v'
  have g16 := hF.g16
  repeat (first | (refine reach_seq ?_) | (refine reach_skip ?_) | (refine reach_block ?_) | (refine reach_inBlock ?_) | (refine reach_region ?_; simp only [List.size_toArray, List.length_cons, List.length_nil, Nat.reduceAdd, Nat.zero_add, List.range, List.range.loop]) | (refine reach_region_end ?_) | (refine reach_stillK goodFF rfl ?_ (by kernel_rfl) ?_; (focus (first | rfl | (simp [Region.wanted, yielded, TA_get, *]; done))); intro _ hu_ K_ hK_; (skip); go_simp; (try rw [wrapI _ (by omega) (by omega)]); (try rw [wrapU _ (by omega) (by omega)]); refine hK_ _ ?_; clear hK_ K_ hu_; simp only [stO_some, stO_none]) | (refine reach_pass rfl ?_ ?_; (focus (simp [Region.wanted, yielded, TA_get, *]; done)); simp only [stO_some, stO_none]))
  by_cases hlt : j < 14
  · have hjI : (j : Int) < 14 := by omega
    have cx := h1.piece hlt
    have cy := h2.piece hlt
    have cz := h3.piece hlt
    (refine reach_cond (t := true) (by simp [Act.eval, g16, hjI]) ?_; simp only [if_true, if_false, reduceIte, Bool.false_eq_true])
    repeat (first | (refine reach_seq ?_) | (refine reach_skip ?_) | (refine reach_block ?_) | (refine reach_inBlock ?_) | (refine reach_region ?_; simp only [List.size_toArray, List.length_cons, List.length_nil, Nat.reduceAdd, Nat.zero_add, List.range, List.range.loop]) | (refine reach_region_end ?_) | (refine reach_stillK goodFF rfl ?_ (by kernel_rfl) ?_; (focus (first | rfl | (simp [Region.wanted, yielded, TA_get, *]; done))); intro _ hu_ K_ hK_; (skip); go_simp; (try rw [wrapI _ (by omega) (by omega)]); (try rw [wrapU _ (by omega) (by omega)]); refine hK_ _ ?_; clear hK_ K_ hu_; simp only [stO_some, stO_none]) | (refine reach_pass rfl ?_ ?_; (focus (simp [Region.wanted, yielded, TA_get, *]; done)); simp only [stO_some, stO_none]))
    refine lin_e m by_ BX BY BZ j PX PY PZ ⟨by simp [hF.g2], by simp [hF.g10], by simp [hF.g12], by simp [hF.g14], by simp [hF.g16]⟩ hlt cx cy cz fun f1 hF1 q133 => ?_
    repeat (first | (refine reach_seq ?_) | (refine reach_skip ?_) | (refine reach_block ?_) | (refine reach_inBlock ?_) | (refine reach_region ?_; simp only [List.size_toArray, List.length_cons, List.length_nil, Nat.reduceAdd, Nat.zero_add, List.range, List.range.loop]) | (refine reach_region_end ?_) | (refine reach_stillK goodFF rfl ?_ (by kernel_rfl) ?_; (focus (first | rfl | (simp [Region.wanted, yielded, TA_get, *]; done))); intro _ hu_ K_ hK_; (skip); go_simp; (try rw [wrapI _ (by omega) (by omega)]); (try rw [wrapU _ (by omega) (by omega)]); refine hK_ _ ?_; clear hK_ K_ hu_; simp only [stO_some, stO_none]) | (refine reach_pass rfl ?_ ?_; (focus (simp [Region.wanted, yielded, TA_get, *]; done)); simp only [stO_some, stO_none]))
    (refine reach_cond (t := false) (by simp [Act.eval, q133]) ?_; simp only [if_true, if_false, reduceIte, Bool.false_eq_true])
    repeat (first | (refine reach_seq ?_) | (refine reach_skip ?_) | (refine reach_block ?_) | (refine reach_inBlock ?_) | (refine reach_region ?_; simp only [List.size_toArray, List.length_cons, List.length_nil, Nat.reduceAdd, Nat.zero_add, List.range, List.range.loop]) | (refine reach_region_end ?_) | (refine reach_stillK goodFF rfl ?_ (by kernel_rfl) ?_; (focus (first | rfl | (simp [Region.wanted, yielded, TA_get, *]; done))); intro _ hu_ K_ hK_; (skip); go_simp; (try rw [wrapI _ (by omega) (by omega)]); (try rw [wrapU _ (by omega) (by omega)]); refine hK_ _ ?_; clear hK_ K_ hu_; simp only [stO_some, stO_none]) | (refine reach_pass rfl ?_ ?_; (focus (simp [Region.wanted, yielded, TA_get, *]; done)); simp only [stO_some, stO_none]))
    refine reach_rounds (fun d f' S' v' => ∃ i, d = m - i ∧ i ≤ m ∧ S' = S ∧ v' = v ∧ LinF f' by_ BX BY BZ j ∧ f' 17 = .int .i64 (i : Nat)) m ⟨0, by omega, by omega, rfl, rfl, ⟨by simp [hF1.g2], by simp [hF1.g10], by simp [hF1.g12], by simp [hF1.g14], by simp [hF1.g16]⟩, by simp⟩ ?_
    clear q133 hF1 f1
    rintro d f'' S' v' ⟨i, rfl, hi, eS, eV, hF2, q17⟩ nxt
    subst S' v'
    have q14 := hF2.g14
    have q16 := hF2.g16
    repeat (first | (refine reach_seq ?_) | (refine reach_skip ?_) | (refine reach_block ?_) | (refine reach_inBlock ?_) | (refine reach_region ?_; simp only [List.size_toArray, List.length_cons, List.length_nil, Nat.reduceAdd, Nat.zero_add, List.range, List.range.loop]) | (refine reach_region_end ?_) | (refine reach_stillK goodFF rfl ?_ (by kernel_rfl) ?_; (focus (first | rfl | (simp [Region.wanted, yielded, TA_get, *]; done))); intro _ hu_ K_ hK_; (have hc := (Ext.twin hu_).cell cz); go_simp; (try rw [wrapI _ (by omega) (by omega)]); (try rw [wrapU _ (by omega) (by omega)]); refine hK_ _ ?_; clear hK_ K_ hu_; simp only [stO_some, stO_none]) | (refine reach_pass rfl ?_ ?_; (focus (simp [Region.wanted, yielded, TA_get, *]; done)); simp only [stO_some, stO_none]))
    by_cases hlti : i < m
    · have kx := h1.byte hlt hlti
      have ky := h2.byte hlt hlti
      have kz := h3.byte hlt hlti
      rw [cut_linear hb hx2] at kz
      (refine reach_cond (t := true) (by simp [Act.eval, hlti]) ?_; simp only [if_true, if_false, reduceIte, Bool.false_eq_true])
      repeat (first | (refine reach_seq ?_) | (refine reach_skip ?_) | (refine reach_block ?_) | (refine reach_inBlock ?_) | (refine reach_region ?_; simp only [List.size_toArray, List.length_cons, List.length_nil, Nat.reduceAdd, Nat.zero_add, List.range, List.range.loop]) | (refine reach_region_end ?_) | (refine reach_stillK goodFF rfl ?_ (by kernel_rfl) ?_; (focus (first | rfl | (simp [Region.wanted, yielded, TA_get, *]; done))); intro _ hu_ K_ hK_; (skip); go_simp; (try rw [wrapI _ (by omega) (by omega)]); (try rw [wrapU _ (by omega) (by omega)]); refine hK_ _ ?_; clear hK_ K_ hu_; simp only [stO_some, stO_none]) | (refine reach_pass rfl ?_ ?_; (focus (simp [Region.wanted, yielded, TA_get, *]; done)); simp only [stO_some, stO_none]))
      refine lin_f m by_ BX BY BZ j i _ _ PX PY PZ ⟨by simp [hF2.g2], by simp [hF2.g10], by simp [hF2.g12], by simp [hF2.g14], by simp [hF2.g16]⟩ (by simp [q17]) hlt hlti hm hb (cut_lt hx1 L j i) (cut_lt hx2 L j i) cx cy cz kx ky kz fun f3 hF3 q17' q170 => ?_
      repeat (first | (refine reach_seq ?_) | (refine reach_skip ?_) | (refine reach_block ?_) | (refine reach_inBlock ?_) | (refine reach_region ?_; simp only [List.size_toArray, List.length_cons, List.length_nil, Nat.reduceAdd, Nat.zero_add, List.range, List.range.loop]) | (refine reach_region_end ?_) | (refine reach_stillK goodFF rfl ?_ (by kernel_rfl) ?_; (focus (first | rfl | (simp [Region.wanted, yielded, TA_get, *]; done))); intro _ hu_ K_ hK_; (skip); go_simp; (try rw [wrapI _ (by omega) (by omega)]); (try rw [wrapU _ (by omega) (by omega)]); refine hK_ _ ?_; clear hK_ K_ hu_; simp only [stO_some, stO_none]) | (refine reach_pass rfl ?_ ?_; (focus (simp [Region.wanted, yielded, TA_get, *]; done)); simp only [stO_some, stO_none]))
      (refine reach_cond (t := false) (by simp [Act.eval, q170]) ?_; simp only [if_true, if_false, reduceIte, Bool.false_eq_true])
      repeat (first | (refine reach_seq ?_) | (refine reach_skip ?_) | (refine reach_block ?_) | (refine reach_inBlock ?_) | (refine reach_region ?_; simp only [List.size_toArray, List.length_cons, List.length_nil, Nat.reduceAdd, Nat.zero_add, List.range, List.range.loop]) | (refine reach_region_end ?_) | (refine reach_stillK goodFF rfl ?_ (by kernel_rfl) ?_; (focus (first | rfl | (simp [Region.wanted, yielded, TA_get, *]; done))); intro _ hu_ K_ hK_; (skip); go_simp; (try rw [wrapI _ (by omega) (by omega)]); (try rw [wrapU _ (by omega) (by omega)]); refine hK_ _ ?_; clear hK_ K_ hu_; simp only [stO_some, stO_none]) | (refine reach_pass rfl ?_ ?_; (focus (simp [Region.wanted, yielded, TA_get, *]; done)); simp only [stO_some, stO_none]))
      refine nxt _ _ _ (m - (i + 1)) (by omega) ⟨i + 1, rfl, by omega, rfl, rfl, ⟨by simp [hF3.g2], by simp [hF3.g10], by simp [hF3.g12], by simp [hF3.g14], by simp [hF3.g16]⟩, by simp⟩
    · obtain rfl : i = m := by omega
      (refine reach_cond (t := false) (by simp [Act.eval]) ?_; simp only [if_true, if_false, reduceIte, Bool.false_eq_true])
      refine reach_exit rfl ?_
      repeat (first | (refine reach_seq ?_) | (refine reach_skip ?_) | (refine reach_block ?_) | (refine reach_inBlock ?_) | (refine reach_region ?_; simp only [List.size_toArray, List.length_cons, List.length_nil, Nat.reduceAdd, Nat.zero_add, List.range, List.range.loop]) | (refine reach_region_end ?_) | (refine reach_stillK goodFF rfl ?_ (by kernel_rfl) ?_; (focus (first | rfl | (simp [Region.wanted, yielded, TA_get, *]; done))); intro _ hu_ K_ hK_; (skip); go_simp; (try rw [wrapI _ (by omega) (by omega)]); (try rw [wrapU _ (by omega) (by omega)]); refine hK_ _ ?_; clear hK_ K_ hu_; simp only [stO_some, stO_none]) | (refine reach_pass rfl ?_ ?_; (focus (simp [Region.wanted, yielded, TA_get, *]; done)); simp only [stO_some, stO_none]))
      refine next _ _ _ (14 - (j + 1)) (by omega) ⟨j + 1, rfl, by omega, rfl, rfl, by simp [hF2.g2], by simp [hF2.g10], by simp [hF2.g12], by simp [hF2.g14], by simp⟩
  · obtain rfl : j = 14 := by omega
    (refine reach_cond (t := false) (by simp [Act.eval, g16]) ?_; simp only [if_true, if_false, reduceIte, Bool.false_eq_true])
    refine reach_exit rfl ?_
    repeat (first | (refine reach_seq ?_) | (refine reach_skip ?_) | (refine reach_block ?_) | (refine reach_inBlock ?_) | (refine reach_region ?_; simp only [List.size_toArray, List.length_cons, List.length_nil, Nat.reduceAdd, Nat.zero_add, List.range, List.range.loop]) | (refine reach_region_end ?_) | (refine reach_stillK goodFF rfl ?_ (by kernel_rfl) ?_; (focus (first | rfl | (simp [Region.wanted, yielded, TA_get, *]; done))); intro _ hu_ K_ hK_; (skip); go_simp; (try rw [wrapI _ (by omega) (by omega)]); (try rw [wrapU _ (by omega) (by omega)]); refine hK_ _ ?_; clear hK_ K_ hu_; simp only [stO_some, stO_none]) | (refine reach_pass rfl ?_ ?_; (focus (simp [Region.wanted, yielded, TA_get, *]; done)); simp only [stO_some, stO_none]))
    refine reach_ret fun todo => ?_
    exact ret _ _ _ _ (by simp) hk
end Go.Proofs.Ytpiefebngnlfoaa
