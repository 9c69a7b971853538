/-
  mosaiclaw.book.looks: what was written is there.
-/
import Derived.Test.YtpiefebngnlfoaaLu
import Derived.Test.YtpiefebngnlfoaaLo
set_option linter.unusedVariables false
set_option linter.unusedSimpArgs false
namespace Go.Proofs.Ytpiefebngnlfoaa
open Go.RowKit Go.Conc Go.Vw

theorem Book.bvS {N OB nb nl : Nat} {O : Nat → Prop} {bv lv : Value} {w : World} (h : Book N OB O nb nl bv lv w) : ∃ pb cb, bv = .slice pb nb cb := by
  obtain ⟨xs, q1, _⟩ := h.bs.own
  rcases q1.2 with ⟨e1, e2⟩ | ⟨g, cap, cur, e1, _⟩
  · exact ⟨none, 0, by rw [e1, e2]⟩
  · exact ⟨_, _, e1⟩
theorem Book.lvS {N OB nb nl : Nat} {O : Nat → Prop} {bv lv : Value} {w : World} (h : Book N OB O nb nl bv lv w) : ∃ pb cb, lv = .slice pb nl cb := by
  obtain ⟨xs, q1, _⟩ := h.ls.own
  rcases q1.2 with ⟨e1, e2⟩ | ⟨g, cap, cur, e1, _⟩
  · exact ⟨none, 0, by rw [e1, e2]⟩
  · exact ⟨_, _, e1⟩
/-- Entry i, slice k. -/
theorem Book.entB {N OB nb nl : Nat} {O : Nat → Prop} {bv lv : Value} {w : World} (h : Book N OB O nb nl bv lv w) {i k : Nat} (hi : i < nb) (hk : k < 4) :
    ∃ g cb E p len cap, bv = .slice (some ⟨g, 0, none⟩) nb cb ∧ w.cell? ⟨g, i, none⟩ = some (.slice (some ⟨E, 0, none⟩) 4 4) ∧ w.cell? ⟨E, k, none⟩ = some (.slice p len cap) ∧ len ≤ 5000 ∧ ∀ j, j < len → ∃ B, p = some ⟨B, 0, none⟩ ∧ w.cell? ⟨B, j, none⟩ = some (.int .u8 ((mrk i : Nat) : Int)) := by
  obtain ⟨xs, q1, q2⟩ := h.bs.own
  obtain ⟨g, cap, cur, r1, r2, r3, r4, r5, r6⟩ := own_some q1 (.inl (by omega))
  obtain ⟨y, s1, E, e0, e1, e2, e3, t1, t2, t3, t4, t5, t6, t7⟩ := q2 i hi
  have hc : w.cell? ⟨g, i, none⟩ = some y := by rw [cell_of_row _ g i _ _ _ r3, r6 i hi]; exact s1
  have fin : ∀ e, w.cell? ⟨E, k, none⟩ = some e → MarkV O w (mrk i) e → ∃ g cb E p len cap, bv = .slice (some ⟨g, 0, none⟩) nb cb ∧ w.cell? ⟨g, i, none⟩ = some (.slice (some ⟨E, 0, none⟩) 4 4) ∧ w.cell? ⟨E, k, none⟩ = some (.slice p len cap) ∧ len ≤ 5000 ∧ ∀ j, j < len → ∃ B, p = some ⟨B, 0, none⟩ ∧ w.cell? ⟨B, j, none⟩ = some (.int .u8 ((mrk i : Nat) : Int)) := by
    rintro e he ⟨p, len, cp, u1, u2, u3⟩
    refine ⟨g, cap, E, p, len, cp, r1, by rw [hc, t1], by rw [he, u1], u2, fun j hj => ?_⟩
    rcases u3 with ⟨_, z, _⟩ | ⟨B, b1, b2, b3, b4, b5⟩
    · omega
    · refine ⟨B, b1, ?_⟩
      have := b5 j hj
      rw [Nat.zero_add] at this
      exact this
  have hk4 : k = 0 ∨ k = 1 ∨ k = 2 ∨ k = 3 := by omega
  rcases hk4 with rfl | rfl | rfl | rfl
  · exact fin e0 ((cell_of_row _ E 0 _ _ _ t3).trans rfl) t4
  · exact fin e1 ((cell_of_row _ E 1 _ _ _ t3).trans rfl) t5
  · exact fin e2 ((cell_of_row _ E 2 _ _ _ t3).trans rfl) t6
  · exact fin e3 ((cell_of_row _ E 3 _ _ _ t3).trans rfl) t7
theorem Book.entL {N OB nb nl : Nat} {O : Nat → Prop} {bv lv : Value} {w : World} (h : Book N OB O nb nl bv lv w) {i k : Nat} (hi : i < nl) (hk : k < 4) :
    ∃ g cb E p len cap, lv = .slice (some ⟨g, 0, none⟩) nl cb ∧ w.cell? ⟨g, i, none⟩ = some (.slice (some ⟨E, 0, none⟩) 4 4) ∧ w.cell? ⟨E, k, none⟩ = some (.slice p len cap) ∧ len ≤ 5000 ∧ ∀ j, j < len → ∃ B M c, p = some ⟨B, 0, none⟩ ∧ w.cell? ⟨B, j, none⟩ = some (.slice (some ⟨M, 0, none⟩) 1 c) ∧ w.cell? ⟨M, 0, none⟩ = some (.int .u8 ((mrk i : Nat) : Int)) := by
  obtain ⟨xs, q1, q2⟩ := h.ls.own
  obtain ⟨g, cap, cur, r1, r2, r3, r4, r5, r6⟩ := own_some q1 (.inl (by omega))
  obtain ⟨y, s1, E, e0, e1, e2, e3, t1, t2, t3, t4, t5, t6, t7⟩ := q2 i hi
  have hc : w.cell? ⟨g, i, none⟩ = some y := by rw [cell_of_row _ g i _ _ _ r3, r6 i hi]; exact s1
  have fin : ∀ e, w.cell? ⟨E, k, none⟩ = some e → MarkL O w (mrk i) e → ∃ g cb E p len cap, lv = .slice (some ⟨g, 0, none⟩) nl cb ∧ w.cell? ⟨g, i, none⟩ = some (.slice (some ⟨E, 0, none⟩) 4 4) ∧ w.cell? ⟨E, k, none⟩ = some (.slice p len cap) ∧ len ≤ 5000 ∧ ∀ j, j < len → ∃ B M c, p = some ⟨B, 0, none⟩ ∧ w.cell? ⟨B, j, none⟩ = some (.slice (some ⟨M, 0, none⟩) 1 c) ∧ w.cell? ⟨M, 0, none⟩ = some (.int .u8 ((mrk i : Nat) : Int)) := by
    rintro e he ⟨p, len, cp, u1, u2, u3⟩
    refine ⟨g, cap, E, p, len, cp, r1, by rw [hc, t1], by rw [he, u1], u2, fun j hj => ?_⟩
    rcases u3 with ⟨_, z, _⟩ | ⟨B, b1, b2, b3, b4, b5⟩
    · omega
    · obtain ⟨M, c, v1, v2, v3, v4⟩ := b5 j hj
      exact ⟨B, M, c, b1, v1, v4⟩
  have hk4 : k = 0 ∨ k = 1 ∨ k = 2 ∨ k = 3 := by omega
  rcases hk4 with rfl | rfl | rfl | rfl
  · exact fin e0 ((cell_of_row _ E 0 _ _ _ t3).trans rfl) t4
  · exact fin e1 ((cell_of_row _ E 1 _ _ _ t3).trans rfl) t5
  · exact fin e2 ((cell_of_row _ E 2 _ _ _ t3).trans rfl) t6
  · exact fin e3 ((cell_of_row _ E 3 _ _ _ t3).trans rfl) t7

set_option maxRecDepth 100000 in
set_option maxHeartbeats 4000000 in
theorem look_r10 {S : Nat → Prop} {v : World} {f : Nat → Value} {Stop : Goroutine → (Nat → Prop) → World → Prop} {cs : List Frame} {k0 : List Item} (OB g nb cb E len cap B i k j : Nat) (bvv : Value) (hi : i < nb) (hnb : nb ≤ 100000) (hk : k < 4) (hj : j < len) (hl : len ≤ 5000) (f0 : f 0 = .pointer (some ⟨OB, 0, none⟩)) (f3 : f 3 = .int .i64 (k : Nat)) (f4 : f 4 = .int .i64 (i : Nat)) (f5 : f 5 = .int .i64 (j : Nat))
    (h0 : v.cell? ⟨OB, 0, none⟩ = some (.slice (some ⟨g, 0, none⟩) nb cb)) (h1 : v.cell? ⟨g, i, none⟩ = some (.slice (some ⟨E, 0, none⟩) 4 4)) (h2 : v.cell? ⟨E, k, none⟩ = some (.slice (some ⟨B, 0, none⟩) len cap)) (h3 : v.cell? ⟨B, j, none⟩ = some (.int .u8 ((mrk i : Nat) : Int)))
    (next : ∀ f' : Nat → Value, f' 0 = f 0 → f' 3 = f 3 → f' 4 = f 4 → f' 5 = f 5 → f' 55 = .bool false → Vw.Reach Try.prog Stop (G ((base 19).at ⟨TA 214 f', []⟩ (.inRegion ((opsAt 10 (Try.f19.body.getD .skip)).getD #[]) [] :: k0)) cs) S v) :
    Vw.Reach Try.prog Stop (G ((base 19).at ⟨TA 214 f, []⟩ (.code (.region 10 ((opsAt 10 (Try.f19.body.getD .skip)).getD #[]) true) :: k0)) cs) S v := by
  have hiI : (i : Int) < (nb : Int) := by omega
  have hkI : (k : Int) < 4 := by omega
  have hjI : (j : Int) < (len : Int) := by omega
  have hmk := mrk_lt i
  have e : opsAt 10 (Try.f19.body.getD .skip) = some _ := rfl
  rw [e] at next ⊢
  simp only [Option.getD_some] at next ⊢
  clear e
  refine reach_draw goodFF (by first | kernel_rfl | rfl) ?_
  simp only [List.size_toArray, List.length_cons, List.length_nil, Nat.reduceAdd, Nat.zero_add]
  co_applyP anyR_take (i := 0) rfl (by first | kernel_rfl | decide +kernel) (by first | kernel_rfl | decide +kernel) (by first | kernel_rfl | decide +kernel) (.inl ⟨(by first | rfl | (simp [Region.wanted, yielded, TA_get, *]; done)), .inl ⟨(by kernel_rfl), fun _ hu_ => run_eq_of ?run1_0⟩⟩) ?rest1_0
  case run1_0 =>
    intro K_ hK_
    (skip)
    go_simp
    (try rw [wrapI _ (by omega) (by omega)])
    (try rw [wrapU _ (by omega) (by omega)])
    exact hK_
  simp only [stO_some, stO_none]
  co_applyP anyR_take (i := 1) rfl (by first | kernel_rfl | decide +kernel) (by first | kernel_rfl | decide +kernel) (by first | kernel_rfl | decide +kernel) (.inl ⟨(by first | rfl | (simp [Region.wanted, yielded, TA_get, *]; done)), .inl ⟨(by kernel_rfl), fun _ hu_ => run_eq_of ?run1_1⟩⟩) ?rest1_1
  case run1_1 =>
    intro K_ hK_
    (skip)
    go_simp
    (try rw [wrapI _ (by omega) (by omega)])
    (try rw [wrapU _ (by omega) (by omega)])
    exact hK_
  simp only [stO_some, stO_none]
  co_applyP anyR_take (i := 2) rfl (by first | kernel_rfl | decide +kernel) (by first | kernel_rfl | decide +kernel) (by first | kernel_rfl | decide +kernel) (.inl ⟨(by first | rfl | (simp [Region.wanted, yielded, TA_get, *]; done)), .inl ⟨(by kernel_rfl), fun _ hu_ => run_eq_of ?run1_2⟩⟩) ?rest1_2
  case run1_2 =>
    intro K_ hK_
    (skip)
    go_simp
    (try rw [wrapI _ (by omega) (by omega)])
    (try rw [wrapU _ (by omega) (by omega)])
    exact hK_
  simp only [stO_some, stO_none]
  co_applyP anyR_take (i := 3) rfl (by first | kernel_rfl | decide +kernel) (by first | kernel_rfl | decide +kernel) (by first | kernel_rfl | decide +kernel) (.inl ⟨(by first | rfl | (simp [Region.wanted, yielded, TA_get, *]; done)), .inl ⟨(by kernel_rfl), fun _ hu_ => run_eq_of ?run2⟩⟩) ?rest2
  case run2 =>
    intro K_ hK_
    (have hc := (Ext.twin hu_).cell h0)
    go_simp
    (try rw [wrapI _ (by omega) (by omega)])
    (try rw [wrapU _ (by omega) (by omega)])
    exact hK_
  simp only [stO_some, stO_none]
  co_applyP anyR_take (i := 4) rfl (by first | kernel_rfl | decide +kernel) (by first | kernel_rfl | decide +kernel) (by first | kernel_rfl | decide +kernel) (.inl ⟨(by first | rfl | (simp [Region.wanted, yielded, TA_get, *]; done)), .inl ⟨(by kernel_rfl), fun _ hu_ => run_eq_of ?run3_4⟩⟩) ?rest3_4
  case run3_4 =>
    intro K_ hK_
    (skip)
    go_simp
    (try rw [wrapI _ (by omega) (by omega)])
    (try rw [wrapU _ (by omega) (by omega)])
    exact hK_
  simp only [stO_some, stO_none]
  co_applyP anyR_take (i := 5) rfl (by first | kernel_rfl | decide +kernel) (by first | kernel_rfl | decide +kernel) (by first | kernel_rfl | decide +kernel) (.inl ⟨(by first | rfl | (simp [Region.wanted, yielded, TA_get, *]; done)), .inl ⟨(by kernel_rfl), fun _ hu_ => run_eq_of ?run3_5⟩⟩) ?rest3_5
  case run3_5 =>
    intro K_ hK_
    (skip)
    go_simp
    (try rw [wrapI _ (by omega) (by omega)])
    (try rw [wrapU _ (by omega) (by omega)])
    exact hK_
  simp only [stO_some, stO_none]
  co_applyP anyR_take (i := 6) rfl (by first | kernel_rfl | decide +kernel) (by first | kernel_rfl | decide +kernel) (by first | kernel_rfl | decide +kernel) (.inl ⟨(by first | rfl | (simp [Region.wanted, yielded, TA_get, *]; done)), .inl ⟨(by kernel_rfl), fun _ hu_ => run_eq_of ?run4⟩⟩) ?rest4
  case run4 =>
    intro K_ hK_
    (have hc := (Ext.twin hu_).cell h1)
    go_simp
    (try rw [wrapI _ (by omega) (by omega)])
    (try rw [wrapU _ (by omega) (by omega)])
    exact hK_
  simp only [stO_some, stO_none]
  co_applyP anyR_take (i := 7) rfl (by first | kernel_rfl | decide +kernel) (by first | kernel_rfl | decide +kernel) (by first | kernel_rfl | decide +kernel) (.inl ⟨(by first | rfl | (simp [Region.wanted, yielded, TA_get, *]; done)), .inl ⟨(by kernel_rfl), fun _ hu_ => run_eq_of ?run5_7⟩⟩) ?rest5_7
  case run5_7 =>
    intro K_ hK_
    (skip)
    go_simp
    (try rw [wrapI _ (by omega) (by omega)])
    (try rw [wrapU _ (by omega) (by omega)])
    exact hK_
  simp only [stO_some, stO_none]
  co_applyP anyR_take (i := 8) rfl (by first | kernel_rfl | decide +kernel) (by first | kernel_rfl | decide +kernel) (by first | kernel_rfl | decide +kernel) (.inl ⟨(by first | rfl | (simp [Region.wanted, yielded, TA_get, *]; done)), .inl ⟨(by kernel_rfl), fun _ hu_ => run_eq_of ?run5_8⟩⟩) ?rest5_8
  case run5_8 =>
    intro K_ hK_
    (skip)
    go_simp
    (try rw [wrapI _ (by omega) (by omega)])
    (try rw [wrapU _ (by omega) (by omega)])
    exact hK_
  simp only [stO_some, stO_none]
  co_applyP anyR_take (i := 9) rfl (by first | kernel_rfl | decide +kernel) (by first | kernel_rfl | decide +kernel) (by first | kernel_rfl | decide +kernel) (.inl ⟨(by first | rfl | (simp [Region.wanted, yielded, TA_get, *]; done)), .inl ⟨(by kernel_rfl), fun _ hu_ => run_eq_of ?run6⟩⟩) ?rest6
  case run6 =>
    intro K_ hK_
    (have hc := (Ext.twin hu_).cell h2)
    go_simp
    (try rw [wrapI _ (by omega) (by omega)])
    (try rw [wrapU _ (by omega) (by omega)])
    exact hK_
  simp only [stO_some, stO_none]
  co_applyP anyR_take (i := 10) rfl (by first | kernel_rfl | decide +kernel) (by first | kernel_rfl | decide +kernel) (by first | kernel_rfl | decide +kernel) (.inl ⟨(by first | rfl | (simp [Region.wanted, yielded, TA_get, *]; done)), .inl ⟨(by kernel_rfl), fun _ hu_ => run_eq_of ?run7_10⟩⟩) ?rest7_10
  case run7_10 =>
    intro K_ hK_
    (skip)
    go_simp
    (try rw [wrapI _ (by omega) (by omega)])
    (try rw [wrapU _ (by omega) (by omega)])
    exact hK_
  simp only [stO_some, stO_none]
  co_applyP anyR_take (i := 11) rfl (by first | kernel_rfl | decide +kernel) (by first | kernel_rfl | decide +kernel) (by first | kernel_rfl | decide +kernel) (.inl ⟨(by first | rfl | (simp [Region.wanted, yielded, TA_get, *]; done)), .inl ⟨(by kernel_rfl), fun _ hu_ => run_eq_of ?run7_11⟩⟩) ?rest7_11
  case run7_11 =>
    intro K_ hK_
    (skip)
    go_simp
    (try rw [wrapI _ (by omega) (by omega)])
    (try rw [wrapU _ (by omega) (by omega)])
    exact hK_
  simp only [stO_some, stO_none]
  co_applyP anyR_take (i := 12) rfl (by first | kernel_rfl | decide +kernel) (by first | kernel_rfl | decide +kernel) (by first | kernel_rfl | decide +kernel) (.inl ⟨(by first | rfl | (simp [Region.wanted, yielded, TA_get, *]; done)), .inl ⟨(by kernel_rfl), fun _ hu_ => run_eq_of ?run8⟩⟩) ?rest8
  case run8 =>
    intro K_ hK_
    (have hc := (Ext.twin hu_).cell h3)
    go_simp
    (try rw [wrapI _ (by omega) (by omega)])
    (try rw [wrapU _ (by omega) (by omega)])
    exact hK_
  simp only [stO_some, stO_none]
  co_applyP anyR_take (i := 13) rfl (by first | kernel_rfl | decide +kernel) (by first | kernel_rfl | decide +kernel) (by first | kernel_rfl | decide +kernel) (.inl ⟨(by first | rfl | (simp [Region.wanted, yielded, TA_get, *]; done)), .inl ⟨(by kernel_rfl), fun _ hu_ => run_eq_of ?run9⟩⟩) ?rest9
  case run9 =>
    intro K_ hK_
    (skip)
    go_simp
    (try rw [wrapI _ (by omega) (by omega)])
    (try rw [wrapU _ (by omega) (by omega)])
    exact hK_
  simp only [stO_some, stO_none]
  co_applyP anyR_take (i := 14) rfl (by first | kernel_rfl | decide +kernel) (by first | kernel_rfl | decide +kernel) (by first | kernel_rfl | decide +kernel) (.inl ⟨(by first | rfl | (simp [Region.wanted, yielded, TA_get, *]; done)), .inr ⟨_, _, _, _, _, rfl, Try.func37, (by kernel_rfl), rfl, ?run10⟩⟩) ?rest10
  case run10 =>
    simp [Act.eval, *]
    exact mark_r i (by omega)
  simp only [stO_some, stO_none]
  co_applyP anyR_take (i := 15) rfl (by first | kernel_rfl | decide +kernel) (by first | kernel_rfl | decide +kernel) (by first | kernel_rfl | decide +kernel) (.inl ⟨(by first | rfl | (simp [Region.wanted, yielded, TA_get, *]; done)), .inl ⟨(by kernel_rfl), fun _ hu_ => run_eq_of ?run11⟩⟩) ?rest11
  case run11 =>
    intro K_ hK_
    (skip)
    go_simp
    (try rw [wrapI _ (by omega) (by omega)])
    (try rw [wrapU _ (by omega) (by omega)])
    exact hK_
  simp only [stO_some, stO_none]
  refine anyR_done (by first | kernel_rfl | decide +kernel) ?_ _
  exact next _ (by simp) (by simp) (by simp) (by simp) (by simp)

set_option maxRecDepth 100000 in
set_option maxHeartbeats 4000000 in
theorem look_r18 {S : Nat → Prop} {v : World} {f : Nat → Value} {Stop : Goroutine → (Nat → Prop) → World → Prop} {cs : List Frame} {k0 : List Item} (OB g nb cb E len cap B M c i k j : Nat) (bvv : Value) (hi : i < nb) (hnb : nb ≤ 100000) (hk : k < 4) (hj : j < len) (hl : len ≤ 5000) (f0 : f 0 = .pointer (some ⟨OB, 0, none⟩)) (f3 : f 3 = .int .i64 (k : Nat)) (f6 : f 6 = .int .i64 (i : Nat)) (f7 : f 7 = .int .i64 (j : Nat))
    (h0 : v.cell? ⟨OB, 1, none⟩ = some (.slice (some ⟨g, 0, none⟩) nb cb)) (h1 : v.cell? ⟨g, i, none⟩ = some (.slice (some ⟨E, 0, none⟩) 4 4)) (h2 : v.cell? ⟨E, k, none⟩ = some (.slice (some ⟨B, 0, none⟩) len cap)) (h3 : v.cell? ⟨B, j, none⟩ = some (.slice (some ⟨M, 0, none⟩) 1 c)) (h4 : v.cell? ⟨M, 0, none⟩ = some (.int .u8 ((mrk i : Nat) : Int)))
    (next : ∀ f' : Nat → Value, f' 0 = f 0 → f' 3 = f 3 → f' 6 = f 6 → f' 7 = f 7 → f' 114 = .bool false → Vw.Reach Try.prog Stop (G ((base 19).at ⟨TA 214 f', []⟩ (.inRegion ((opsAt 18 (Try.f19.body.getD .skip)).getD #[]) [] :: k0)) cs) S v) :
    Vw.Reach Try.prog Stop (G ((base 19).at ⟨TA 214 f, []⟩ (.code (.region 18 ((opsAt 18 (Try.f19.body.getD .skip)).getD #[]) true) :: k0)) cs) S v := by
  have hiI : (i : Int) < (nb : Int) := by omega
  have hkI : (k : Int) < 4 := by omega
  have hjI : (j : Int) < (len : Int) := by omega
  have hmk := mrk_lt i
  have e : opsAt 18 (Try.f19.body.getD .skip) = some _ := rfl
  rw [e] at next ⊢
  simp only [Option.getD_some] at next ⊢
  clear e
  refine reach_draw goodFF (by first | kernel_rfl | rfl) ?_
  simp only [List.size_toArray, List.length_cons, List.length_nil, Nat.reduceAdd, Nat.zero_add]
  co_applyP anyR_take (i := 0) rfl (by first | kernel_rfl | decide +kernel) (by first | kernel_rfl | decide +kernel) (by first | kernel_rfl | decide +kernel) (.inl ⟨(by first | rfl | (simp [Region.wanted, yielded, TA_get, *]; done)), .inl ⟨(by kernel_rfl), fun _ hu_ => run_eq_of ?run12_0⟩⟩) ?rest12_0
  case run12_0 =>
    intro K_ hK_
    (skip)
    go_simp
    (try rw [wrapI _ (by omega) (by omega)])
    (try rw [wrapU _ (by omega) (by omega)])
    exact hK_
  simp only [stO_some, stO_none]
  co_applyP anyR_take (i := 1) rfl (by first | kernel_rfl | decide +kernel) (by first | kernel_rfl | decide +kernel) (by first | kernel_rfl | decide +kernel) (.inl ⟨(by first | rfl | (simp [Region.wanted, yielded, TA_get, *]; done)), .inl ⟨(by kernel_rfl), fun _ hu_ => run_eq_of ?run12_1⟩⟩) ?rest12_1
  case run12_1 =>
    intro K_ hK_
    (skip)
    go_simp
    (try rw [wrapI _ (by omega) (by omega)])
    (try rw [wrapU _ (by omega) (by omega)])
    exact hK_
  simp only [stO_some, stO_none]
  co_applyP anyR_take (i := 2) rfl (by first | kernel_rfl | decide +kernel) (by first | kernel_rfl | decide +kernel) (by first | kernel_rfl | decide +kernel) (.inl ⟨(by first | rfl | (simp [Region.wanted, yielded, TA_get, *]; done)), .inl ⟨(by kernel_rfl), fun _ hu_ => run_eq_of ?run12_2⟩⟩) ?rest12_2
  case run12_2 =>
    intro K_ hK_
    (skip)
    go_simp
    (try rw [wrapI _ (by omega) (by omega)])
    (try rw [wrapU _ (by omega) (by omega)])
    exact hK_
  simp only [stO_some, stO_none]
  co_applyP anyR_take (i := 3) rfl (by first | kernel_rfl | decide +kernel) (by first | kernel_rfl | decide +kernel) (by first | kernel_rfl | decide +kernel) (.inl ⟨(by first | rfl | (simp [Region.wanted, yielded, TA_get, *]; done)), .inl ⟨(by kernel_rfl), fun _ hu_ => run_eq_of ?run13⟩⟩) ?rest13
  case run13 =>
    intro K_ hK_
    (have hc := (Ext.twin hu_).cell h0)
    go_simp
    (try rw [wrapI _ (by omega) (by omega)])
    (try rw [wrapU _ (by omega) (by omega)])
    exact hK_
  simp only [stO_some, stO_none]
  co_applyP anyR_take (i := 4) rfl (by first | kernel_rfl | decide +kernel) (by first | kernel_rfl | decide +kernel) (by first | kernel_rfl | decide +kernel) (.inl ⟨(by first | rfl | (simp [Region.wanted, yielded, TA_get, *]; done)), .inl ⟨(by kernel_rfl), fun _ hu_ => run_eq_of ?run14_4⟩⟩) ?rest14_4
  case run14_4 =>
    intro K_ hK_
    (skip)
    go_simp
    (try rw [wrapI _ (by omega) (by omega)])
    (try rw [wrapU _ (by omega) (by omega)])
    exact hK_
  simp only [stO_some, stO_none]
  co_applyP anyR_take (i := 5) rfl (by first | kernel_rfl | decide +kernel) (by first | kernel_rfl | decide +kernel) (by first | kernel_rfl | decide +kernel) (.inl ⟨(by first | rfl | (simp [Region.wanted, yielded, TA_get, *]; done)), .inl ⟨(by kernel_rfl), fun _ hu_ => run_eq_of ?run14_5⟩⟩) ?rest14_5
  case run14_5 =>
    intro K_ hK_
    (skip)
    go_simp
    (try rw [wrapI _ (by omega) (by omega)])
    (try rw [wrapU _ (by omega) (by omega)])
    exact hK_
  simp only [stO_some, stO_none]
  co_applyP anyR_take (i := 6) rfl (by first | kernel_rfl | decide +kernel) (by first | kernel_rfl | decide +kernel) (by first | kernel_rfl | decide +kernel) (.inl ⟨(by first | rfl | (simp [Region.wanted, yielded, TA_get, *]; done)), .inl ⟨(by kernel_rfl), fun _ hu_ => run_eq_of ?run15⟩⟩) ?rest15
  case run15 =>
    intro K_ hK_
    (have hc := (Ext.twin hu_).cell h1)
    go_simp
    (try rw [wrapI _ (by omega) (by omega)])
    (try rw [wrapU _ (by omega) (by omega)])
    exact hK_
  simp only [stO_some, stO_none]
  co_applyP anyR_take (i := 7) rfl (by first | kernel_rfl | decide +kernel) (by first | kernel_rfl | decide +kernel) (by first | kernel_rfl | decide +kernel) (.inl ⟨(by first | rfl | (simp [Region.wanted, yielded, TA_get, *]; done)), .inl ⟨(by kernel_rfl), fun _ hu_ => run_eq_of ?run16_7⟩⟩) ?rest16_7
  case run16_7 =>
    intro K_ hK_
    (skip)
    go_simp
    (try rw [wrapI _ (by omega) (by omega)])
    (try rw [wrapU _ (by omega) (by omega)])
    exact hK_
  simp only [stO_some, stO_none]
  co_applyP anyR_take (i := 8) rfl (by first | kernel_rfl | decide +kernel) (by first | kernel_rfl | decide +kernel) (by first | kernel_rfl | decide +kernel) (.inl ⟨(by first | rfl | (simp [Region.wanted, yielded, TA_get, *]; done)), .inl ⟨(by kernel_rfl), fun _ hu_ => run_eq_of ?run16_8⟩⟩) ?rest16_8
  case run16_8 =>
    intro K_ hK_
    (skip)
    go_simp
    (try rw [wrapI _ (by omega) (by omega)])
    (try rw [wrapU _ (by omega) (by omega)])
    exact hK_
  simp only [stO_some, stO_none]
  co_applyP anyR_take (i := 9) rfl (by first | kernel_rfl | decide +kernel) (by first | kernel_rfl | decide +kernel) (by first | kernel_rfl | decide +kernel) (.inl ⟨(by first | rfl | (simp [Region.wanted, yielded, TA_get, *]; done)), .inl ⟨(by kernel_rfl), fun _ hu_ => run_eq_of ?run17⟩⟩) ?rest17
  case run17 =>
    intro K_ hK_
    (have hc := (Ext.twin hu_).cell h2)
    go_simp
    (try rw [wrapI _ (by omega) (by omega)])
    (try rw [wrapU _ (by omega) (by omega)])
    exact hK_
  simp only [stO_some, stO_none]
  co_applyP anyR_take (i := 10) rfl (by first | kernel_rfl | decide +kernel) (by first | kernel_rfl | decide +kernel) (by first | kernel_rfl | decide +kernel) (.inl ⟨(by first | rfl | (simp [Region.wanted, yielded, TA_get, *]; done)), .inl ⟨(by kernel_rfl), fun _ hu_ => run_eq_of ?run18_10⟩⟩) ?rest18_10
  case run18_10 =>
    intro K_ hK_
    (skip)
    go_simp
    (try rw [wrapI _ (by omega) (by omega)])
    (try rw [wrapU _ (by omega) (by omega)])
    exact hK_
  simp only [stO_some, stO_none]
  co_applyP anyR_take (i := 11) rfl (by first | kernel_rfl | decide +kernel) (by first | kernel_rfl | decide +kernel) (by first | kernel_rfl | decide +kernel) (.inl ⟨(by first | rfl | (simp [Region.wanted, yielded, TA_get, *]; done)), .inl ⟨(by kernel_rfl), fun _ hu_ => run_eq_of ?run18_11⟩⟩) ?rest18_11
  case run18_11 =>
    intro K_ hK_
    (skip)
    go_simp
    (try rw [wrapI _ (by omega) (by omega)])
    (try rw [wrapU _ (by omega) (by omega)])
    exact hK_
  simp only [stO_some, stO_none]
  co_applyP anyR_take (i := 12) rfl (by first | kernel_rfl | decide +kernel) (by first | kernel_rfl | decide +kernel) (by first | kernel_rfl | decide +kernel) (.inl ⟨(by first | rfl | (simp [Region.wanted, yielded, TA_get, *]; done)), .inl ⟨(by kernel_rfl), fun _ hu_ => run_eq_of ?run19⟩⟩) ?rest19
  case run19 =>
    intro K_ hK_
    (have hc := (Ext.twin hu_).cell h3)
    go_simp
    (try rw [wrapI _ (by omega) (by omega)])
    (try rw [wrapU _ (by omega) (by omega)])
    exact hK_
  simp only [stO_some, stO_none]
  co_applyP anyR_take (i := 13) rfl (by first | kernel_rfl | decide +kernel) (by first | kernel_rfl | decide +kernel) (by first | kernel_rfl | decide +kernel) (.inl ⟨(by first | rfl | (simp [Region.wanted, yielded, TA_get, *]; done)), .inl ⟨(by kernel_rfl), fun _ hu_ => run_eq_of ?run20_13⟩⟩) ?rest20_13
  case run20_13 =>
    intro K_ hK_
    (skip)
    go_simp
    (try rw [wrapI _ (by omega) (by omega)])
    (try rw [wrapU _ (by omega) (by omega)])
    exact hK_
  simp only [stO_some, stO_none]
  co_applyP anyR_take (i := 14) rfl (by first | kernel_rfl | decide +kernel) (by first | kernel_rfl | decide +kernel) (by first | kernel_rfl | decide +kernel) (.inl ⟨(by first | rfl | (simp [Region.wanted, yielded, TA_get, *]; done)), .inl ⟨(by kernel_rfl), fun _ hu_ => run_eq_of ?run20_14⟩⟩) ?rest20_14
  case run20_14 =>
    intro K_ hK_
    (skip)
    go_simp
    (try rw [wrapI _ (by omega) (by omega)])
    (try rw [wrapU _ (by omega) (by omega)])
    exact hK_
  simp only [stO_some, stO_none]
  co_applyP anyR_take (i := 15) rfl (by first | kernel_rfl | decide +kernel) (by first | kernel_rfl | decide +kernel) (by first | kernel_rfl | decide +kernel) (.inl ⟨(by first | rfl | (simp [Region.wanted, yielded, TA_get, *]; done)), .inl ⟨(by kernel_rfl), fun _ hu_ => run_eq_of ?run20_15⟩⟩) ?rest20_15
  case run20_15 =>
    intro K_ hK_
    (skip)
    go_simp
    (try rw [wrapI _ (by omega) (by omega)])
    (try rw [wrapU _ (by omega) (by omega)])
    exact hK_
  simp only [stO_some, stO_none]
  co_applyP anyR_take (i := 16) rfl (by first | kernel_rfl | decide +kernel) (by first | kernel_rfl | decide +kernel) (by first | kernel_rfl | decide +kernel) (.inl ⟨(by first | rfl | (simp [Region.wanted, yielded, TA_get, *]; done)), .inl ⟨(by kernel_rfl), fun _ hu_ => run_eq_of ?run20_16⟩⟩) ?rest20_16
  case run20_16 =>
    intro K_ hK_
    (skip)
    go_simp
    (try rw [wrapI _ (by omega) (by omega)])
    (try rw [wrapU _ (by omega) (by omega)])
    exact hK_
  simp only [stO_some, stO_none]
  co_applyP anyR_take (i := 17) rfl (by first | kernel_rfl | decide +kernel) (by first | kernel_rfl | decide +kernel) (by first | kernel_rfl | decide +kernel) (.inl ⟨(by first | rfl | (simp [Region.wanted, yielded, TA_get, *]; done)), .inl ⟨(by kernel_rfl), fun _ hu_ => run_eq_of ?run20_17⟩⟩) ?rest20_17
  case run20_17 =>
    intro K_ hK_
    (skip)
    go_simp
    (try rw [wrapI _ (by omega) (by omega)])
    (try rw [wrapU _ (by omega) (by omega)])
    exact hK_
  simp only [stO_some, stO_none]
  co_applyP anyR_take (i := 18) rfl (by first | kernel_rfl | decide +kernel) (by first | kernel_rfl | decide +kernel) (by first | kernel_rfl | decide +kernel) (.inl ⟨(by first | rfl | (simp [Region.wanted, yielded, TA_get, *]; done)), .inl ⟨(by kernel_rfl), fun _ hu_ => run_eq_of ?run20_18⟩⟩) ?rest20_18
  case run20_18 =>
    intro K_ hK_
    (skip)
    go_simp
    (try rw [wrapI _ (by omega) (by omega)])
    (try rw [wrapU _ (by omega) (by omega)])
    exact hK_
  simp only [stO_some, stO_none]
  co_applyP anyR_take (i := 19) rfl (by first | kernel_rfl | decide +kernel) (by first | kernel_rfl | decide +kernel) (by first | kernel_rfl | decide +kernel) (.inl ⟨(by first | rfl | (simp [Region.wanted, yielded, TA_get, *]; done)), .inl ⟨(by kernel_rfl), fun _ hu_ => run_eq_of ?run21⟩⟩) ?rest21
  case run21 =>
    intro K_ hK_
    (have hc := (Ext.twin hu_).cell h0)
    go_simp
    (try rw [wrapI _ (by omega) (by omega)])
    (try rw [wrapU _ (by omega) (by omega)])
    exact hK_
  simp only [stO_some, stO_none]
  co_applyP anyR_take (i := 20) rfl (by first | kernel_rfl | decide +kernel) (by first | kernel_rfl | decide +kernel) (by first | kernel_rfl | decide +kernel) (.inl ⟨(by first | rfl | (simp [Region.wanted, yielded, TA_get, *]; done)), .inl ⟨(by kernel_rfl), fun _ hu_ => run_eq_of ?run22_20⟩⟩) ?rest22_20
  case run22_20 =>
    intro K_ hK_
    (skip)
    go_simp
    (try rw [wrapI _ (by omega) (by omega)])
    (try rw [wrapU _ (by omega) (by omega)])
    exact hK_
  simp only [stO_some, stO_none]
  co_applyP anyR_take (i := 21) rfl (by first | kernel_rfl | decide +kernel) (by first | kernel_rfl | decide +kernel) (by first | kernel_rfl | decide +kernel) (.inl ⟨(by first | rfl | (simp [Region.wanted, yielded, TA_get, *]; done)), .inl ⟨(by kernel_rfl), fun _ hu_ => run_eq_of ?run22_21⟩⟩) ?rest22_21
  case run22_21 =>
    intro K_ hK_
    (skip)
    go_simp
    (try rw [wrapI _ (by omega) (by omega)])
    (try rw [wrapU _ (by omega) (by omega)])
    exact hK_
  simp only [stO_some, stO_none]
  co_applyP anyR_take (i := 22) rfl (by first | kernel_rfl | decide +kernel) (by first | kernel_rfl | decide +kernel) (by first | kernel_rfl | decide +kernel) (.inl ⟨(by first | rfl | (simp [Region.wanted, yielded, TA_get, *]; done)), .inl ⟨(by kernel_rfl), fun _ hu_ => run_eq_of ?run23⟩⟩) ?rest23
  case run23 =>
    intro K_ hK_
    (have hc := (Ext.twin hu_).cell h1)
    go_simp
    (try rw [wrapI _ (by omega) (by omega)])
    (try rw [wrapU _ (by omega) (by omega)])
    exact hK_
  simp only [stO_some, stO_none]
  co_applyP anyR_take (i := 23) rfl (by first | kernel_rfl | decide +kernel) (by first | kernel_rfl | decide +kernel) (by first | kernel_rfl | decide +kernel) (.inl ⟨(by first | rfl | (simp [Region.wanted, yielded, TA_get, *]; done)), .inl ⟨(by kernel_rfl), fun _ hu_ => run_eq_of ?run24_23⟩⟩) ?rest24_23
  case run24_23 =>
    intro K_ hK_
    (skip)
    go_simp
    (try rw [wrapI _ (by omega) (by omega)])
    (try rw [wrapU _ (by omega) (by omega)])
    exact hK_
  simp only [stO_some, stO_none]
  co_applyP anyR_take (i := 24) rfl (by first | kernel_rfl | decide +kernel) (by first | kernel_rfl | decide +kernel) (by first | kernel_rfl | decide +kernel) (.inl ⟨(by first | rfl | (simp [Region.wanted, yielded, TA_get, *]; done)), .inl ⟨(by kernel_rfl), fun _ hu_ => run_eq_of ?run24_24⟩⟩) ?rest24_24
  case run24_24 =>
    intro K_ hK_
    (skip)
    go_simp
    (try rw [wrapI _ (by omega) (by omega)])
    (try rw [wrapU _ (by omega) (by omega)])
    exact hK_
  simp only [stO_some, stO_none]
  co_applyP anyR_take (i := 25) rfl (by first | kernel_rfl | decide +kernel) (by first | kernel_rfl | decide +kernel) (by first | kernel_rfl | decide +kernel) (.inl ⟨(by first | rfl | (simp [Region.wanted, yielded, TA_get, *]; done)), .inl ⟨(by kernel_rfl), fun _ hu_ => run_eq_of ?run25⟩⟩) ?rest25
  case run25 =>
    intro K_ hK_
    (have hc := (Ext.twin hu_).cell h2)
    go_simp
    (try rw [wrapI _ (by omega) (by omega)])
    (try rw [wrapU _ (by omega) (by omega)])
    exact hK_
  simp only [stO_some, stO_none]
  co_applyP anyR_take (i := 26) rfl (by first | kernel_rfl | decide +kernel) (by first | kernel_rfl | decide +kernel) (by first | kernel_rfl | decide +kernel) (.inl ⟨(by first | rfl | (simp [Region.wanted, yielded, TA_get, *]; done)), .inl ⟨(by kernel_rfl), fun _ hu_ => run_eq_of ?run26_26⟩⟩) ?rest26_26
  case run26_26 =>
    intro K_ hK_
    (skip)
    go_simp
    (try rw [wrapI _ (by omega) (by omega)])
    (try rw [wrapU _ (by omega) (by omega)])
    exact hK_
  simp only [stO_some, stO_none]
  co_applyP anyR_take (i := 27) rfl (by first | kernel_rfl | decide +kernel) (by first | kernel_rfl | decide +kernel) (by first | kernel_rfl | decide +kernel) (.inl ⟨(by first | rfl | (simp [Region.wanted, yielded, TA_get, *]; done)), .inl ⟨(by kernel_rfl), fun _ hu_ => run_eq_of ?run26_27⟩⟩) ?rest26_27
  case run26_27 =>
    intro K_ hK_
    (skip)
    go_simp
    (try rw [wrapI _ (by omega) (by omega)])
    (try rw [wrapU _ (by omega) (by omega)])
    exact hK_
  simp only [stO_some, stO_none]
  co_applyP anyR_take (i := 28) rfl (by first | kernel_rfl | decide +kernel) (by first | kernel_rfl | decide +kernel) (by first | kernel_rfl | decide +kernel) (.inl ⟨(by first | rfl | (simp [Region.wanted, yielded, TA_get, *]; done)), .inl ⟨(by kernel_rfl), fun _ hu_ => run_eq_of ?run27⟩⟩) ?rest27
  case run27 =>
    intro K_ hK_
    (have hc := (Ext.twin hu_).cell h3)
    go_simp
    (try rw [wrapI _ (by omega) (by omega)])
    (try rw [wrapU _ (by omega) (by omega)])
    exact hK_
  simp only [stO_some, stO_none]
  co_applyP anyR_take (i := 29) rfl (by first | kernel_rfl | decide +kernel) (by first | kernel_rfl | decide +kernel) (by first | kernel_rfl | decide +kernel) (.inl ⟨(by first | rfl | (simp [Region.wanted, yielded, TA_get, *]; done)), .inl ⟨(by kernel_rfl), fun _ hu_ => run_eq_of ?run28⟩⟩) ?rest28
  case run28 =>
    intro K_ hK_
    (skip)
    go_simp
    (try rw [wrapI _ (by omega) (by omega)])
    (try rw [wrapU _ (by omega) (by omega)])
    exact hK_
  simp only [stO_some, stO_none]
  co_applyP anyR_take (i := 30) rfl (by first | kernel_rfl | decide +kernel) (by first | kernel_rfl | decide +kernel) (by first | kernel_rfl | decide +kernel) (.inl ⟨(by first | rfl | (simp [Region.wanted, yielded, TA_get, *]; done)), .inl ⟨(by kernel_rfl), fun _ hu_ => run_eq_of ?run29⟩⟩) ?rest29
  case run29 =>
    intro K_ hK_
    (have hc := (Ext.twin hu_).cell h4)
    go_simp
    (try rw [wrapI _ (by omega) (by omega)])
    (try rw [wrapU _ (by omega) (by omega)])
    exact hK_
  simp only [stO_some, stO_none]
  co_applyP anyR_take (i := 31) rfl (by first | kernel_rfl | decide +kernel) (by first | kernel_rfl | decide +kernel) (by first | kernel_rfl | decide +kernel) (.inl ⟨(by first | rfl | (simp [Region.wanted, yielded, TA_get, *]; done)), .inl ⟨(by kernel_rfl), fun _ hu_ => run_eq_of ?run30⟩⟩) ?rest30
  case run30 =>
    intro K_ hK_
    (skip)
    go_simp
    (try rw [wrapI _ (by omega) (by omega)])
    (try rw [wrapU _ (by omega) (by omega)])
    exact hK_
  simp only [stO_some, stO_none]
  co_applyP anyR_take (i := 32) rfl (by first | kernel_rfl | decide +kernel) (by first | kernel_rfl | decide +kernel) (by first | kernel_rfl | decide +kernel) (.inl ⟨(by first | rfl | (simp [Region.wanted, yielded, TA_get, *]; done)), .inr ⟨_, _, _, _, _, rfl, Try.func37, (by kernel_rfl), rfl, ?run31⟩⟩) ?rest31
  case run31 =>
    simp [Act.eval, *]
    exact mark_r i (by omega)
  simp only [stO_some, stO_none]
  co_applyP anyR_take (i := 33) rfl (by first | kernel_rfl | decide +kernel) (by first | kernel_rfl | decide +kernel) (by first | kernel_rfl | decide +kernel) (.inl ⟨(by first | rfl | (simp [Region.wanted, yielded, TA_get, *]; done)), .inl ⟨(by kernel_rfl), fun _ hu_ => run_eq_of ?run32_33⟩⟩) ?rest32_33
  case run32_33 =>
    intro K_ hK_
    (skip)
    go_simp
    (try rw [wrapI _ (by omega) (by omega)])
    (try rw [wrapU _ (by omega) (by omega)])
    exact hK_
  simp only [stO_some, stO_none]
  co_applyP anyR_take (i := 34) rfl (by first | kernel_rfl | decide +kernel) (by first | kernel_rfl | decide +kernel) (by first | kernel_rfl | decide +kernel) (.inl ⟨(by first | rfl | (simp [Region.wanted, yielded, TA_get, *]; done)), .inl ⟨(by kernel_rfl), fun _ hu_ => run_eq_of ?run32_34⟩⟩) ?rest32_34
  case run32_34 =>
    intro K_ hK_
    (skip)
    go_simp
    (try rw [wrapI _ (by omega) (by omega)])
    (try rw [wrapU _ (by omega) (by omega)])
    exact hK_
  simp only [stO_some, stO_none]
  refine anyR_done (by first | kernel_rfl | decide +kernel) ?_ _
  exact next _ (by simp) (by simp) (by simp) (by simp) (by simp)
end Go.Proofs.Ytpiefebngnlfoaa
