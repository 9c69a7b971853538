/-
  mosaiclaw.book.looks: what was written is there.
-/
import Derived.Test.YtpiefebngnlfoaaLu
import Derived.Test.YtpiefebngnlfoaaLo
set_option linter.unusedVariables false
set_option linter.unusedSimpArgs false
namespace Go.Proofs.Ytpiefebngnlfoaa
open Go.RowKit Go.Conc Go.Vw

theorem Book.bvS {N OB nb nl : Nat} {O : Nat → Prop} {bv lv : Value} {w : World} (h : Book N OB O nb nl bv lv w) : ∃ pb cb, bv = .slice pb nb cb := by
  obtain ⟨xs, q1, _⟩ := h.bs.own
  rcases q1.2 with ⟨e1, e2⟩ | ⟨g, cap, cur, e1, _⟩
  · exact ⟨none, 0, by rw [e1, e2]⟩
  · exact ⟨_, _, e1⟩
theorem Book.lvS {N OB nb nl : Nat} {O : Nat → Prop} {bv lv : Value} {w : World} (h : Book N OB O nb nl bv lv w) : ∃ pb cb, lv = .slice pb nl cb := by
  obtain ⟨xs, q1, _⟩ := h.ls.own
  rcases q1.2 with ⟨e1, e2⟩ | ⟨g, cap, cur, e1, _⟩
  · exact ⟨none, 0, by rw [e1, e2]⟩
  · exact ⟨_, _, e1⟩
/-- Entry i, slice k. -/
theorem Book.entB {N OB nb nl : Nat} {O : Nat → Prop} {bv lv : Value} {w : World} (h : Book N OB O nb nl bv lv w) {i k : Nat} (hi : i < nb) (hk : k < 4) :
    ∃ g cb E p len cap, bv = .slice (some ⟨g, 0, none⟩) nb cb ∧ w.cell? ⟨g, i, none⟩ = some (.slice (some ⟨E, 0, none⟩) 4 4) ∧ w.cell? ⟨E, k, none⟩ = some (.slice p len cap) ∧ len ≤ 5000 ∧ ∀ j, j < len → ∃ B, p = some ⟨B, 0, none⟩ ∧ w.cell? ⟨B, j, none⟩ = some (.int .u8 ((mrk i : Nat) : Int)) := by
  obtain ⟨xs, q1, q2⟩ := h.bs.own
  obtain ⟨g, cap, cur, r1, r2, r3, r4, r5, r6⟩ := own_some q1 (.inl (by omega))
  obtain ⟨y, s1, E, e0, e1, e2, e3, t1, t2, t3, t4, t5, t6, t7⟩ := q2 i hi
  have hc : w.cell? ⟨g, i, none⟩ = some y := by rw [cell_of_row _ g i _ _ _ r3, r6 i hi]; exact s1
  have fin : ∀ e, w.cell? ⟨E, k, none⟩ = some e → MarkV O w (mrk i) e → ∃ g cb E p len cap, bv = .slice (some ⟨g, 0, none⟩) nb cb ∧ w.cell? ⟨g, i, none⟩ = some (.slice (some ⟨E, 0, none⟩) 4 4) ∧ w.cell? ⟨E, k, none⟩ = some (.slice p len cap) ∧ len ≤ 5000 ∧ ∀ j, j < len → ∃ B, p = some ⟨B, 0, none⟩ ∧ w.cell? ⟨B, j, none⟩ = some (.int .u8 ((mrk i : Nat) : Int)) := by
    rintro e he ⟨p, len, cp, u1, u2, u3⟩
    refine ⟨g, cap, E, p, len, cp, r1, by rw [hc, t1], by rw [he, u1], u2, fun j hj => ?_⟩
    rcases u3 with ⟨_, z, _⟩ | ⟨B, b1, b2, b3, b4, b5⟩
    · omega
    · refine ⟨B, b1, ?_⟩
      have := b5 j hj
      rw [Nat.zero_add] at this
      exact this
  have hk4 : k = 0 ∨ k = 1 ∨ k = 2 ∨ k = 3 := by omega
  rcases hk4 with rfl | rfl | rfl | rfl
  · exact fin e0 ((cell_of_row _ E 0 _ _ _ t3).trans rfl) t4
  · exact fin e1 ((cell_of_row _ E 1 _ _ _ t3).trans rfl) t5
  · exact fin e2 ((cell_of_row _ E 2 _ _ _ t3).trans rfl) t6
  · exact fin e3 ((cell_of_row _ E 3 _ _ _ t3).trans rfl) t7
theorem Book.entL {N OB nb nl : Nat} {O : Nat → Prop} {bv lv : Value} {w : World} (h : Book N OB O nb nl bv lv w) {i k : Nat} (hi : i < nl) (hk : k < 4) :
    ∃ g cb E p len cap, lv = .slice (some ⟨g, 0, none⟩) nl cb ∧ w.cell? ⟨g, i, none⟩ = some (.slice (some ⟨E, 0, none⟩) 4 4) ∧ w.cell? ⟨E, k, none⟩ = some (.slice p len cap) ∧ len ≤ 5000 ∧ ∀ j, j < len → ∃ B M c, p = some ⟨B, 0, none⟩ ∧ w.cell? ⟨B, j, none⟩ = some (.slice (some ⟨M, 0, none⟩) 1 c) ∧ w.cell? ⟨M, 0, none⟩ = some (.int .u8 ((mrk i : Nat) : Int)) := by
  obtain ⟨xs, q1, q2⟩ := h.ls.own
  obtain ⟨g, cap, cur, r1, r2, r3, r4, r5, r6⟩ := own_some q1 (.inl (by omega))
  obtain ⟨y, s1, E, e0, e1, e2, e3, t1, t2, t3, t4, t5, t6, t7⟩ := q2 i hi
  have hc : w.cell? ⟨g, i, none⟩ = some y := by rw [cell_of_row _ g i _ _ _ r3, r6 i hi]; exact s1
  have fin : ∀ e, w.cell? ⟨E, k, none⟩ = some e → MarkL O w (mrk i) e → ∃ g cb E p len cap, lv = .slice (some ⟨g, 0, none⟩) nl cb ∧ w.cell? ⟨g, i, none⟩ = some (.slice (some ⟨E, 0, none⟩) 4 4) ∧ w.cell? ⟨E, k, none⟩ = some (.slice p len cap) ∧ len ≤ 5000 ∧ ∀ j, j < len → ∃ B M c, p = some ⟨B, 0, none⟩ ∧ w.cell? ⟨B, j, none⟩ = some (.slice (some ⟨M, 0, none⟩) 1 c) ∧ w.cell? ⟨M, 0, none⟩ = some (.int .u8 ((mrk i : Nat) : Int)) := by
    rintro e he ⟨p, len, cp, u1, u2, u3⟩
    refine ⟨g, cap, E, p, len, cp, r1, by rw [hc, t1], by rw [he, u1], u2, fun j hj => ?_⟩
    rcases u3 with ⟨_, z, _⟩ | ⟨B, b1, b2, b3, b4, b5⟩
    · omega
    · obtain ⟨M, c, v1, v2, v3, v4⟩ := b5 j hj
      exact ⟨B, M, c, b1, v1, v4⟩
  have hk4 : k = 0 ∨ k = 1 ∨ k = 2 ∨ k = 3 := by omega
  rcases hk4 with rfl | rfl | rfl | rfl
  · exact fin e0 ((cell_of_row _ E 0 _ _ _ t3).trans rfl) t4
  · exact fin e1 ((cell_of_row _ E 1 _ _ _ t3).trans rfl) t5
  · exact fin e2 ((cell_of_row _ E 2 _ _ _ t3).trans rfl) t6
  · exact fin e3 ((cell_of_row _ E 3 _ _ _ t3).trans rfl) t7

set_option maxRecDepth 100000 in
set_option maxHeartbeats 4000000 in
theorem look_r10 {S : Nat → Prop} {v : World} {f : Nat → Value} {Stop : Goroutine → (Nat → Prop) → World → Prop} {cs : List Frame} {k0 : List Item} (OB g nb cb E len cap B i k j : Nat) (bvv : Value) (hi : i < nb) (hnb : nb ≤ 100000) (hk : k < 4) (hj : j < len) (hl : len ≤ 5000) (f0 : f 0 = .pointer (some ⟨OB, 0, none⟩)) (f3 : f 3 = .int .i64 (k : Nat)) (f4 : f 4 = .int .i64 (i : Nat)) (f5 : f 5 = .int .i64 (j : Nat))
    (h0 : v.cell? ⟨OB, 0, none⟩ = some (.slice (some ⟨g, 0, none⟩) nb cb)) (h1 : v.cell? ⟨g, i, none⟩ = some (.slice (some ⟨E, 0, none⟩) 4 4)) (h2 : v.cell? ⟨E, k, none⟩ = some (.slice (some ⟨B, 0, none⟩) len cap)) (h3 : v.cell? ⟨B, j, none⟩ = some (.int .u8 ((mrk i : Nat) : Int)))
    (next : ∀ f' : Nat → Value, f' 0 = f 0 → f' 3 = f 3 → f' 4 = f 4 → f' 5 = f 5 → f' 55 = .bool false → Vw.Reach Try.prog Stop (G ((base 19).at ⟨TA 214 f', []⟩ (.inRegion ((opsAt 10 (Try.f19.body.getD .skip)).getD #[]) [] :: k0)) cs) S v) :
    Vw.Reach Try.prog Stop (G ((base 19).at ⟨TA 214 f, []⟩ (.code (.region 10 ((opsAt 10 (Try.f19.body.getD .skip)).getD #[]) true) :: k0)) cs) S v := by
  have hiI : (i : Int) < (nb : Int) := by omega
  have hkI : (k : Int) < 4 := by omega
  have hjI : (j : Int) < (len : Int) := by omega
  have hmk := mrk_lt i
  have e : opsAt 10 (Try.f19.body.getD .skip) = some _ := rfl
  rw [e] at next ⊢
  simp only [Option.getD_some] at next ⊢
  clear e
  refine reach_draw goodFF (by first | kernel_rfl | rfl) ?_
  simp only [List.size_toArray, List.length_cons, List.length_nil, Nat.reduceAdd, Nat.zero_add]
  co_applyP rT (i := 0) rfl (fun _ hu_ => run_eq_of ?u1_0) ?v1_0
  case u1_0 => intro K_ hK_;go_simp;(try rw [wI _]);(try rw [wU _]);exact hK_
  simp only [sS, sN]
  co_applyP rT (i := 1) rfl (fun _ hu_ => run_eq_of ?u1_1) ?v1_1
  case u1_1 => intro K_ hK_;go_simp;(try rw [wI _]);(try rw [wU _]);exact hK_
  simp only [sS, sN]
  co_applyP rT (i := 2) rfl (fun _ hu_ => run_eq_of ?u1_2) ?v1_2
  case u1_2 => intro K_ hK_;go_simp;(try rw [wI _]);(try rw [wU _]);exact hK_
  simp only [sS, sN]
  co_applyP rT (i := 3) rfl (fun _ hu_ => run_eq_of ?u2) ?v2
  case u2 => intro K_ hK_;(have hc := (Ext.twin hu_).cell h0);go_simp;(try rw [wI _]);(try rw [wU _]);exact hK_
  simp only [sS, sN]
  co_applyP rT (i := 4) rfl (fun _ hu_ => run_eq_of ?u3_4) ?v3_4
  case u3_4 => intro K_ hK_;go_simp;(try rw [wI _]);(try rw [wU _]);exact hK_
  simp only [sS, sN]
  co_applyP rT (i := 5) rfl (fun _ hu_ => run_eq_of ?u3_5) ?v3_5
  case u3_5 => intro K_ hK_;go_simp;(try rw [wI _]);(try rw [wU _]);exact hK_
  simp only [sS, sN]
  co_applyP rT (i := 6) rfl (fun _ hu_ => run_eq_of ?u4) ?v4
  case u4 => intro K_ hK_;(have hc := (Ext.twin hu_).cell h1);go_simp;(try rw [wI _]);(try rw [wU _]);exact hK_
  simp only [sS, sN]
  co_applyP rT (i := 7) rfl (fun _ hu_ => run_eq_of ?u5_7) ?v5_7
  case u5_7 => intro K_ hK_;go_simp;(try rw [wI _]);(try rw [wU _]);exact hK_
  simp only [sS, sN]
  co_applyP rT (i := 8) rfl (fun _ hu_ => run_eq_of ?u5_8) ?v5_8
  case u5_8 => intro K_ hK_;go_simp;(try rw [wI _]);(try rw [wU _]);exact hK_
  simp only [sS, sN]
  co_applyP rT (i := 9) rfl (fun _ hu_ => run_eq_of ?u6) ?v6
  case u6 => intro K_ hK_;(have hc := (Ext.twin hu_).cell h2);go_simp;(try rw [wI _]);(try rw [wU _]);exact hK_
  simp only [sS, sN]
  co_applyP rT (i := 10) rfl (fun _ hu_ => run_eq_of ?u7_10) ?v7_10
  case u7_10 => intro K_ hK_;go_simp;(try rw [wI _]);(try rw [wU _]);exact hK_
  simp only [sS, sN]
  co_applyP rT (i := 11) rfl (fun _ hu_ => run_eq_of ?u7_11) ?v7_11
  case u7_11 => intro K_ hK_;go_simp;(try rw [wI _]);(try rw [wU _]);exact hK_
  simp only [sS, sN]
  co_applyP rT (i := 12) rfl (fun _ hu_ => run_eq_of ?u8) ?v8
  case u8 => intro K_ hK_;(have hc := (Ext.twin hu_).cell h3);go_simp;(try rw [wI _]);(try rw [wU _]);exact hK_
  simp only [sS, sN]
  co_applyP rT (i := 13) rfl (fun _ hu_ => run_eq_of ?u9) ?v9
  case u9 => intro K_ hK_;go_simp;(try rw [wI _]);(try rw [wU _]);exact hK_
  simp only [sS, sN]
  co_applyP anyR_take (i := 14) rfl (by first | kernel_rfl | decide +kernel) (by first | kernel_rfl | decide +kernel) (by first | kernel_rfl | decide +kernel) (.inl ⟨(by first | rfl | (simp [Region.wanted, yielded, TA_get, *]; done)), .inr ⟨_, _, _, _, _, rfl, Try.func37, (by kernel_rfl), rfl, ?run10⟩⟩) ?rest10
  case run10 =>
    simp [Act.eval, *]
    exact mark_r i (by omega)
  simp only [stO_some, stO_none]
  co_applyP rT (i := 15) rfl (fun _ hu_ => run_eq_of ?u11) ?v11
  case u11 => intro K_ hK_;go_simp;(try rw [wI _]);(try rw [wU _]);exact hK_
  simp only [sS, sN]
  refine anyR_done (by first | kernel_rfl | decide +kernel) ?_ _
  exact next _ (by simp) (by simp) (by simp) (by simp) (by simp)

set_option maxRecDepth 100000 in
set_option maxHeartbeats 4000000 in
theorem look_r18 {S : Nat → Prop} {v : World} {f : Nat → Value} {Stop : Goroutine → (Nat → Prop) → World → Prop} {cs : List Frame} {k0 : List Item} (OB g nb cb E len cap B M c i k j : Nat) (bvv : Value) (hi : i < nb) (hnb : nb ≤ 100000) (hk : k < 4) (hj : j < len) (hl : len ≤ 5000) (f0 : f 0 = .pointer (some ⟨OB, 0, none⟩)) (f3 : f 3 = .int .i64 (k : Nat)) (f6 : f 6 = .int .i64 (i : Nat)) (f7 : f 7 = .int .i64 (j : Nat))
    (h0 : v.cell? ⟨OB, 1, none⟩ = some (.slice (some ⟨g, 0, none⟩) nb cb)) (h1 : v.cell? ⟨g, i, none⟩ = some (.slice (some ⟨E, 0, none⟩) 4 4)) (h2 : v.cell? ⟨E, k, none⟩ = some (.slice (some ⟨B, 0, none⟩) len cap)) (h3 : v.cell? ⟨B, j, none⟩ = some (.slice (some ⟨M, 0, none⟩) 1 c)) (h4 : v.cell? ⟨M, 0, none⟩ = some (.int .u8 ((mrk i : Nat) : Int)))
    (next : ∀ f' : Nat → Value, f' 0 = f 0 → f' 3 = f 3 → f' 6 = f 6 → f' 7 = f 7 → f' 114 = .bool false → Vw.Reach Try.prog Stop (G ((base 19).at ⟨TA 214 f', []⟩ (.inRegion ((opsAt 18 (Try.f19.body.getD .skip)).getD #[]) [] :: k0)) cs) S v) :
    Vw.Reach Try.prog Stop (G ((base 19).at ⟨TA 214 f, []⟩ (.code (.region 18 ((opsAt 18 (Try.f19.body.getD .skip)).getD #[]) true) :: k0)) cs) S v := by
  have hiI : (i : Int) < (nb : Int) := by omega
  have hkI : (k : Int) < 4 := by omega
  have hjI : (j : Int) < (len : Int) := by omega
  have hmk := mrk_lt i
  have e : opsAt 18 (Try.f19.body.getD .skip) = some _ := rfl
  rw [e] at next ⊢
  simp only [Option.getD_some] at next ⊢
  clear e
  refine reach_draw goodFF (by first | kernel_rfl | rfl) ?_
  simp only [List.size_toArray, List.length_cons, List.length_nil, Nat.reduceAdd, Nat.zero_add]
  co_applyP rT (i := 0) rfl (fun _ hu_ => run_eq_of ?u12_0) ?v12_0
  case u12_0 => intro K_ hK_;go_simp;(try rw [wI _]);(try rw [wU _]);exact hK_
  simp only [sS, sN]
  co_applyP rT (i := 1) rfl (fun _ hu_ => run_eq_of ?u12_1) ?v12_1
  case u12_1 => intro K_ hK_;go_simp;(try rw [wI _]);(try rw [wU _]);exact hK_
  simp only [sS, sN]
  co_applyP rT (i := 2) rfl (fun _ hu_ => run_eq_of ?u12_2) ?v12_2
  case u12_2 => intro K_ hK_;go_simp;(try rw [wI _]);(try rw [wU _]);exact hK_
  simp only [sS, sN]
  co_applyP rT (i := 3) rfl (fun _ hu_ => run_eq_of ?u13) ?v13
  case u13 => intro K_ hK_;(have hc := (Ext.twin hu_).cell h0);go_simp;(try rw [wI _]);(try rw [wU _]);exact hK_
  simp only [sS, sN]
  co_applyP rT (i := 4) rfl (fun _ hu_ => run_eq_of ?u14_4) ?v14_4
  case u14_4 => intro K_ hK_;go_simp;(try rw [wI _]);(try rw [wU _]);exact hK_
  simp only [sS, sN]
  co_applyP rT (i := 5) rfl (fun _ hu_ => run_eq_of ?u14_5) ?v14_5
  case u14_5 => intro K_ hK_;go_simp;(try rw [wI _]);(try rw [wU _]);exact hK_
  simp only [sS, sN]
  co_applyP rT (i := 6) rfl (fun _ hu_ => run_eq_of ?u15) ?v15
  case u15 => intro K_ hK_;(have hc := (Ext.twin hu_).cell h1);go_simp;(try rw [wI _]);(try rw [wU _]);exact hK_
  simp only [sS, sN]
  co_applyP rT (i := 7) rfl (fun _ hu_ => run_eq_of ?u16_7) ?v16_7
  case u16_7 => intro K_ hK_;go_simp;(try rw [wI _]);(try rw [wU _]);exact hK_
  simp only [sS, sN]
  co_applyP rT (i := 8) rfl (fun _ hu_ => run_eq_of ?u16_8) ?v16_8
  case u16_8 => intro K_ hK_;go_simp;(try rw [wI _]);(try rw [wU _]);exact hK_
  simp only [sS, sN]
  co_applyP rT (i := 9) rfl (fun _ hu_ => run_eq_of ?u17) ?v17
  case u17 => intro K_ hK_;(have hc := (Ext.twin hu_).cell h2);go_simp;(try rw [wI _]);(try rw [wU _]);exact hK_
  simp only [sS, sN]
  co_applyP rT (i := 10) rfl (fun _ hu_ => run_eq_of ?u18_10) ?v18_10
  case u18_10 => intro K_ hK_;go_simp;(try rw [wI _]);(try rw [wU _]);exact hK_
  simp only [sS, sN]
  co_applyP rT (i := 11) rfl (fun _ hu_ => run_eq_of ?u18_11) ?v18_11
  case u18_11 => intro K_ hK_;go_simp;(try rw [wI _]);(try rw [wU _]);exact hK_
  simp only [sS, sN]
  co_applyP rT (i := 12) rfl (fun _ hu_ => run_eq_of ?u19) ?v19
  case u19 => intro K_ hK_;(have hc := (Ext.twin hu_).cell h3);go_simp;(try rw [wI _]);(try rw [wU _]);exact hK_
  simp only [sS, sN]
  co_applyP rT (i := 13) rfl (fun _ hu_ => run_eq_of ?u20_13) ?v20_13
  case u20_13 => intro K_ hK_;go_simp;(try rw [wI _]);(try rw [wU _]);exact hK_
  simp only [sS, sN]
  co_applyP rT (i := 14) rfl (fun _ hu_ => run_eq_of ?u20_14) ?v20_14
  case u20_14 => intro K_ hK_;go_simp;(try rw [wI _]);(try rw [wU _]);exact hK_
  simp only [sS, sN]
  co_applyP rT (i := 15) rfl (fun _ hu_ => run_eq_of ?u20_15) ?v20_15
  case u20_15 => intro K_ hK_;go_simp;(try rw [wI _]);(try rw [wU _]);exact hK_
  simp only [sS, sN]
  co_applyP rT (i := 16) rfl (fun _ hu_ => run_eq_of ?u20_16) ?v20_16
  case u20_16 => intro K_ hK_;go_simp;(try rw [wI _]);(try rw [wU _]);exact hK_
  simp only [sS, sN]
  co_applyP rT (i := 17) rfl (fun _ hu_ => run_eq_of ?u20_17) ?v20_17
  case u20_17 => intro K_ hK_;go_simp;(try rw [wI _]);(try rw [wU _]);exact hK_
  simp only [sS, sN]
  co_applyP rT (i := 18) rfl (fun _ hu_ => run_eq_of ?u20_18) ?v20_18
  case u20_18 => intro K_ hK_;go_simp;(try rw [wI _]);(try rw [wU _]);exact hK_
  simp only [sS, sN]
  co_applyP rT (i := 19) rfl (fun _ hu_ => run_eq_of ?u21) ?v21
  case u21 => intro K_ hK_;(have hc := (Ext.twin hu_).cell h0);go_simp;(try rw [wI _]);(try rw [wU _]);exact hK_
  simp only [sS, sN]
  co_applyP rT (i := 20) rfl (fun _ hu_ => run_eq_of ?u22_20) ?v22_20
  case u22_20 => intro K_ hK_;go_simp;(try rw [wI _]);(try rw [wU _]);exact hK_
  simp only [sS, sN]
  co_applyP rT (i := 21) rfl (fun _ hu_ => run_eq_of ?u22_21) ?v22_21
  case u22_21 => intro K_ hK_;go_simp;(try rw [wI _]);(try rw [wU _]);exact hK_
  simp only [sS, sN]
  co_applyP rT (i := 22) rfl (fun _ hu_ => run_eq_of ?u23) ?v23
  case u23 => intro K_ hK_;(have hc := (Ext.twin hu_).cell h1);go_simp;(try rw [wI _]);(try rw [wU _]);exact hK_
  simp only [sS, sN]
  co_applyP rT (i := 23) rfl (fun _ hu_ => run_eq_of ?u24_23) ?v24_23
  case u24_23 => intro K_ hK_;go_simp;(try rw [wI _]);(try rw [wU _]);exact hK_
  simp only [sS, sN]
  co_applyP rT (i := 24) rfl (fun _ hu_ => run_eq_of ?u24_24) ?v24_24
  case u24_24 => intro K_ hK_;go_simp;(try rw [wI _]);(try rw [wU _]);exact hK_
  simp only [sS, sN]
  co_applyP rT (i := 25) rfl (fun _ hu_ => run_eq_of ?u25) ?v25
  case u25 => intro K_ hK_;(have hc := (Ext.twin hu_).cell h2);go_simp;(try rw [wI _]);(try rw [wU _]);exact hK_
  simp only [sS, sN]
  co_applyP rT (i := 26) rfl (fun _ hu_ => run_eq_of ?u26_26) ?v26_26
  case u26_26 => intro K_ hK_;go_simp;(try rw [wI _]);(try rw [wU _]);exact hK_
  simp only [sS, sN]
  co_applyP rT (i := 27) rfl (fun _ hu_ => run_eq_of ?u26_27) ?v26_27
  case u26_27 => intro K_ hK_;go_simp;(try rw [wI _]);(try rw [wU _]);exact hK_
  simp only [sS, sN]
  co_applyP rT (i := 28) rfl (fun _ hu_ => run_eq_of ?u27) ?v27
  case u27 => intro K_ hK_;(have hc := (Ext.twin hu_).cell h3);go_simp;(try rw [wI _]);(try rw [wU _]);exact hK_
  simp only [sS, sN]
  co_applyP rT (i := 29) rfl (fun _ hu_ => run_eq_of ?u28) ?v28
  case u28 => intro K_ hK_;go_simp;(try rw [wI _]);(try rw [wU _]);exact hK_
  simp only [sS, sN]
  co_applyP rT (i := 30) rfl (fun _ hu_ => run_eq_of ?u29) ?v29
  case u29 => intro K_ hK_;(have hc := (Ext.twin hu_).cell h4);go_simp;(try rw [wI _]);(try rw [wU _]);exact hK_
  simp only [sS, sN]
  co_applyP rT (i := 31) rfl (fun _ hu_ => run_eq_of ?u30) ?v30
  case u30 => intro K_ hK_;go_simp;(try rw [wI _]);(try rw [wU _]);exact hK_
  simp only [sS, sN]
  co_applyP anyR_take (i := 32) rfl (by first | kernel_rfl | decide +kernel) (by first | kernel_rfl | decide +kernel) (by first | kernel_rfl | decide +kernel) (.inl ⟨(by first | rfl | (simp [Region.wanted, yielded, TA_get, *]; done)), .inr ⟨_, _, _, _, _, rfl, Try.func37, (by kernel_rfl), rfl, ?run31⟩⟩) ?rest31
  case run31 =>
    simp [Act.eval, *]
    exact mark_r i (by omega)
  simp only [stO_some, stO_none]
  co_applyP rT (i := 33) rfl (fun _ hu_ => run_eq_of ?u32_33) ?v32_33
  case u32_33 => intro K_ hK_;go_simp;(try rw [wI _]);(try rw [wU _]);exact hK_
  simp only [sS, sN]
  co_applyP rT (i := 34) rfl (fun _ hu_ => run_eq_of ?u32_34) ?v32_34
  case u32_34 => intro K_ hK_;go_simp;(try rw [wI _]);(try rw [wU _]);exact hK_
  simp only [sS, sN]
  refine anyR_done (by first | kernel_rfl | decide +kernel) ?_ _
  exact next _ (by simp) (by simp) (by simp) (by simp) (by simp)
end Go.Proofs.Ytpiefebngnlfoaa
