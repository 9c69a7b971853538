/-
  mosaiclaw.keeps.
-/
import Derived.Test.YtpiefebngnlfoaaMc
set_option linter.unusedVariables false
set_option linter.unusedSimpArgs false
namespace Go.Proofs.Ytpiefebngnlfoaa
open Go.RowKit Go.Conc Go.Vw

set_option maxRecDepth 100000 in
theorem keepsNil_r {S : Nat → Prop} {v : World} : CallsR Try.prog 23 #[.slice none 0 0, .slice none 0 0, .slice none 0 0] S v fun x S' v' => x = .bool true ∧ S' = S ∧ v' = v := by
  refine callsR_body Try.func23 rfl Try.ntmps23 (by simp) fun Stop cc cs ret => ?_
  have g0 : argF #[.slice none 0 0, .slice none 0 0, .slice none 0 0] 0 = .slice none 0 0 := rfl
  have g1 : argF #[.slice none 0 0, .slice none 0 0, .slice none 0 0] 1 = .slice none 0 0 := rfl
  have g2 : argF #[.slice none 0 0, .slice none 0 0, .slice none 0 0] 2 = .slice none 0 0 := rfl
  generalize argF #[.slice none 0 0, .slice none 0 0, .slice none 0 0] = f at g0 g1 g2
  repeat (first|refine rA ?_|refine rB ?_|refine rC ?_|refine rD ?_|(refine rR ?_;simp only [tO, Nat.reduceAdd])|refine rE ?_|(refine rO goodFF rfl ?_;intro _ hu_ K_ hK_;go_simp;(try rw [wI _]);(try rw [wU _]);refine hK_ _ ?_;clear hK_ K_ hu_;simp only [sS, sN])|(refine rP rfl ?_;simp only [sS, sN]))
  (refine reach_cond (t := false) (by simp [Act.eval]) ?_; simp only [if_true, if_false, reduceIte, Bool.false_eq_true])
  repeat (first|refine rA ?_|refine rB ?_|refine rC ?_|refine rD ?_|(refine rR ?_;simp only [tO, Nat.reduceAdd])|refine rE ?_|(refine rO goodFF rfl ?_;intro _ hu_ K_ hK_;go_simp;(try rw [wI _]);(try rw [wU _]);refine hK_ _ ?_;clear hK_ K_ hu_;simp only [sS, sN])|(refine rP rfl ?_;simp only [sS, sN]))
  (refine reach_cond (t := false) (by simp [Act.eval]) ?_; simp only [if_true, if_false, reduceIte, Bool.false_eq_true])
  repeat (first|refine rA ?_|refine rB ?_|refine rC ?_|refine rD ?_|(refine rR ?_;simp only [tO, Nat.reduceAdd])|refine rE ?_|(refine rO goodFF rfl ?_;intro _ hu_ K_ hK_;go_simp;(try rw [wI _]);(try rw [wU _]);refine hK_ _ ?_;clear hK_ K_ hu_;simp only [sS, sN])|(refine rP rfl ?_;simp only [sS, sN]))
  refine reach_rounds (fun d f' S' v' => S' = S ∧ v' = v ∧ f' 0 = .slice none 0 0 ∧ f' 1 = .slice none 0 0 ∧ f' 2 = .slice none 0 0 ∧ f' 7 = .int .i64 0) 0 ⟨rfl, rfl, by simp [g0], by simp [g1], by simp [g2], by simp⟩ ?_
  rintro d f' S' v' ⟨eS, eV, q0, q1, q2, q7⟩ next
  subst S' v'
  repeat (first|refine rA ?_|refine rB ?_|refine rC ?_|refine rD ?_|(refine rR ?_;simp only [tO, Nat.reduceAdd])|refine rE ?_|(refine rO goodFF rfl ?_;intro _ hu_ K_ hK_;go_simp;(try rw [wI _]);(try rw [wU _]);refine hK_ _ ?_;clear hK_ K_ hu_;simp only [sS, sN])|(refine rP rfl ?_;simp only [sS, sN]))
  (refine reach_cond (t := false) (by simp [Act.eval]) ?_; simp only [if_true, if_false, reduceIte, Bool.false_eq_true])
  refine reach_exit rfl ?_
  repeat (first|refine rA ?_|refine rB ?_|refine rC ?_|refine rD ?_|(refine rR ?_;simp only [tO, Nat.reduceAdd])|refine rE ?_|(refine rO goodFF rfl ?_;intro _ hu_ K_ hK_;go_simp;(try rw [wI _]);(try rw [wU _]);refine hK_ _ ?_;clear hK_ K_ hu_;simp only [sS, sN])|(refine rP rfl ?_;simp only [sS, sN]))
  refine reach_ret fun todo => ?_
  refine ret _ _ _ _ (.bool true) ?_ ⟨rfl, rfl, rfl⟩
  simp [results, Try.results23]
set_option maxRecDepth 100000 in
set_option maxHeartbeats 4000000 in
theorem keeps_r {S : Nat → Prop} {v : World} (N BL ol n cl RO capO cw RW MB : Nat) (pw : Option Addr) (q pr : Nat → Option Addr) (ln cp cr : Nat → Nat) (y : Nat → Nat → Nat) (hn : n < 2 ^ 62) (hln : ∀ i, i < n → ln i < 140737488355328) (hat : ∀ i, i < n → v.cell? ⟨BL, ol + i, none⟩ = some (.slice (q i) (ln i) (cp i))) (hsl : ∀ i, i < n → SliceE v (q i) (ln i) (cp i) (y i))
    (hcap : n < capO) (hro : ∀ i, i < n → v.cell? ⟨RO, i, none⟩ = some (.slice (pr i) (ln i) (cr i))) (hmine : v.cell? ⟨RO, n, none⟩ = some (.slice (some ⟨MB, 0, none⟩) 4 4)) (hm : ∀ i, i < 4 → v.cell? ⟨MB, 0 + i, none⟩ = some (.int .u8 (([109, 105, 110, 101] : List Int).getD i 0))) (hpw : 0 < n → pw = some ⟨RW, 0, none⟩) (hrw : ∀ i, i < n → v.cell? ⟨RW, i, none⟩ = some (.slice (pr i) (ln i) (cr i))) (hel : ∀ i, i < n → RowR N v (ln i) (y i) (pr i) (cr i) ∧ (q i = none ↔ pr i = none)) :
    CallsR Try.prog 23 #[.slice (some ⟨RO, 0, none⟩) n capO, .slice pw n cw, .slice (some ⟨BL, ol, none⟩) n cl] S v fun x S' v' => x = .bool true ∧ S' = S ∧ v' = v := by
  refine callsR_body Try.func23 rfl Try.ntmps23 (by simp) fun Stop cc cs ret => ?_
  have g0 : argF #[.slice (some ⟨RO, 0, none⟩) n capO, .slice pw n cw, .slice (some ⟨BL, ol, none⟩) n cl] 0 = .slice (some ⟨RO, 0, none⟩) n capO := rfl
  have g1 : argF #[.slice (some ⟨RO, 0, none⟩) n capO, .slice pw n cw, .slice (some ⟨BL, ol, none⟩) n cl] 1 = .slice pw n cw := rfl
  have g2 : argF #[.slice (some ⟨RO, 0, none⟩) n capO, .slice pw n cw, .slice (some ⟨BL, ol, none⟩) n cl] 2 = .slice (some ⟨BL, ol, none⟩) n cl := rfl
  generalize argF #[.slice (some ⟨RO, 0, none⟩) n capO, .slice pw n cw, .slice (some ⟨BL, ol, none⟩) n cl] = f at g0 g1 g2
  have kc := fun (u : World) (hu : Vw.Twin v u) => run_convert_bytes_arg (P := Try.prog) u 25 5 Try.underlying25 Try.underlying5 MB 0 4 4 [109, 105, 110, 101] rfl (fun i hi => (Ext.twin hu).cell (hm i hi)) 9 Try.underlying9
  have es : strOfNums [109, 105, 110, 101] = ⟨#[109, 105, 110, 101]⟩ := by rfl
  rw [es] at kc
  clear es
  have hcI : (n : Int) + 1 ≤ (capO : Int) := by omega
  have hnI : (n : Int) < (n : Int) + 1 := by omega
  repeat (first|refine rA ?_|refine rB ?_|refine rC ?_|refine rD ?_|(refine rR ?_;simp only [tO, Nat.reduceAdd])|refine rE ?_|(refine rO goodFF rfl ?_;intro _ hu_ K_ hK_;go_simp;(try rw [wI _]);(try rw [wU _]);refine hK_ _ ?_;clear hK_ K_ hu_;simp only [sS, sN])|(refine rP rfl ?_;simp only [sS, sN]))
  (refine reach_cond (t := false) (by simp [Act.eval]) ?_; simp only [if_true, if_false, reduceIte, Bool.false_eq_true])
  repeat (first|refine rA ?_|refine rB ?_|refine rC ?_|refine rD ?_|(refine rR ?_;simp only [tO, Nat.reduceAdd])|refine rE ?_|(refine rO goodFF rfl ?_;intro _ hu_ K_ hK_;(have kc' := kc _ hu_; have hc := (Ext.twin hu_).cell hmine);go_simp;(try rw [wI _]);(try rw [wU _]);refine hK_ _ ?_;clear hK_ K_ hu_;simp only [sS, sN])|(refine rP rfl ?_;simp only [sS, sN]))
  (refine reach_cond (t := false) (by simp [Act.eval]) ?_; simp only [if_true, if_false, reduceIte, Bool.false_eq_true])
  repeat (first|refine rA ?_|refine rB ?_|refine rC ?_|refine rD ?_|(refine rR ?_;simp only [tO, Nat.reduceAdd])|refine rE ?_|(refine rO goodFF rfl ?_;intro _ hu_ K_ hK_;go_simp;(try rw [wI _]);(try rw [wU _]);refine hK_ _ ?_;clear hK_ K_ hu_;simp only [sS, sN])|(refine rP rfl ?_;simp only [sS, sN]))
  clear kc hcI hnI
  refine reach_rounds (fun d f' S' v' => ∃ i, d = n - i ∧ i ≤ n ∧ S' = S ∧ v' = v ∧ f' 0 = .slice (some ⟨RO, 0, none⟩) n capO ∧ f' 1 = .slice pw n cw ∧ f' 2 = .slice (some ⟨BL, ol, none⟩) n cl ∧ f' 7 = .int .i64 (i : Nat)) n ⟨0, by omega, by omega, rfl, rfl, by simp [g0], by simp [g1], by simp [g2], by simp⟩ ?_
  clear g0 g1 g2 f
  rintro d f S' v' ⟨i, rfl, hi, eS, eV, g0, g1, g2, g7⟩ next
  subst S' v'
  repeat (first|refine rA ?_|refine rB ?_|refine rC ?_|refine rD ?_|(refine rR ?_;simp only [tO, Nat.reduceAdd])|refine rE ?_|(refine rO goodFF rfl ?_;intro _ hu_ K_ hK_;go_simp;(try rw [wI _]);(try rw [wU _]);refine hK_ _ ?_;clear hK_ K_ hu_;simp only [sS, sN])|(refine rP rfl ?_;simp only [sS, sN]))
  by_cases hlt : i < n
  · have hiI : (i : Int) < (n : Int) := by omega
    have hpw' := hpw (by omega)
    subst hpw'
    have c1 := hrw i hlt
    have c2 := hat i hlt
    have c3 := hro i hlt
    obtain ⟨hR, hpp⟩ := hel i hlt
    have hab : (Value.slice (pr i) (ln i) (cr i) = .slice none 0 0 ∧ Value.slice (q i) (ln i) (cp i) = .slice none 0 0) ∨ ∃ a b, Value.slice (pr i) (ln i) (cr i) = .slice (some a) (ln i) (cr i) ∧ Value.slice (q i) (ln i) (cp i) = .slice (some b) (ln i) (cp i) := by
      rcases (hsl i hlt).parts with ⟨h1, h2, h3⟩ | ⟨a, h1, _⟩
      · rcases hR with ⟨k1, k2, k3⟩ | ⟨RB, k1, _⟩
        · exact .inl ⟨by rw [k1, k2, k3], by rw [h1, h2, h3]⟩
        · rw [hpp.1 h1] at k1
          cases k1
      · rcases hR with ⟨k1, k2, k3⟩ | ⟨RB, k1, _⟩
        · rw [hpp.2 k1] at h1
          cases h1
        · exact .inr ⟨_, _, by rw [k1], by rw [h1]⟩
    have hlb := hln i hlt
    have hsi := hsl i hlt
    (refine reach_cond (t := true) (by simp [Act.eval, hlt]) ?_; simp only [if_true, if_false, reduceIte, Bool.false_eq_true])
    repeat (first|refine rA ?_|refine rB ?_|refine rC ?_|refine rD ?_|(refine rR ?_;simp only [tO, Nat.reduceAdd])|refine rE ?_|(refine rO goodFF rfl ?_;intro _ hu_ K_ hK_;go_simp;(try rw [wI _]);(try rw [wU _]);refine hK_ _ ?_;clear hK_ K_ hu_;simp only [sS, sN])|(refine rP rfl ?_;simp only [sS, sN]))
    refine reach_draw goodFF (by first | kernel_rfl | rfl) ?_
    simp only [List.size_toArray, List.length_cons, List.length_nil, Nat.reduceAdd, Nat.zero_add]
    co_applyP rT (i := 0) rfl (fun _ hu_ => run_eq_of ?u1_0) ?v1_0
    case u1_0 => intro K_ hK_;go_simp;(try rw [wI _]);(try rw [wU _]);exact hK_
    simp only [sS, sN]
    co_applyP rT (i := 1) rfl (fun _ hu_ => run_eq_of ?u1_1) ?v1_1
    case u1_1 => intro K_ hK_;go_simp;(try rw [wI _]);(try rw [wU _]);exact hK_
    simp only [sS, sN]
    co_applyP rT (i := 2) rfl (fun _ hu_ => run_eq_of ?u1_2) ?v1_2
    case u1_2 => intro K_ hK_;go_simp;(try rw [wI _]);(try rw [wU _]);exact hK_
    simp only [sS, sN]
    co_applyP rT (i := 3) rfl (fun _ hu_ => run_eq_of ?u2) ?v2
    case u2 => intro K_ hK_;(have hc := (Ext.twin hu_).cell c1);go_simp;(try rw [wI _]);(try rw [wU _]);exact hK_
    simp only [sS, sN]
    co_applyP rT (i := 4) rfl (fun _ hu_ => run_eq_of ?u3_4) ?v3_4
    case u3_4 => intro K_ hK_;go_simp;(try rw [wI _]);(try rw [wU _]);exact hK_
    simp only [sS, sN]
    co_applyP rT (i := 5) rfl (fun _ hu_ => run_eq_of ?u3_5) ?v3_5
    case u3_5 => intro K_ hK_;go_simp;(try rw [wI _]);(try rw [wU _]);exact hK_
    simp only [sS, sN]
    co_applyP rT (i := 6) rfl (fun _ hu_ => run_eq_of ?u3_6) ?v3_6
    case u3_6 => intro K_ hK_;go_simp;(try rw [wI _]);(try rw [wU _]);exact hK_
    simp only [sS, sN]
    co_applyP rT (i := 7) rfl (fun _ hu_ => run_eq_of ?u4) ?v4
    case u4 => intro K_ hK_;(have hc := (Ext.twin hu_).cell c2);go_simp;(try rw [wI _]);(try rw [wU _]);exact hK_
    simp only [sS, sN]
    co_applyP anyR_take (i := 8) rfl (by first | kernel_rfl | decide +kernel) (by first | kernel_rfl | decide +kernel) (by first | kernel_rfl | decide +kernel) (.inl ⟨(by first | rfl | (simp [Region.wanted, yielded, TA_get, *]; done)), .inr ⟨_, _, _, _, _, rfl, Try.func17, (by kernel_rfl), rfl, ?run5⟩⟩) ?rest5
    case run5 =>
      simp [Act.eval, *]
      exact keptV_r N (q i) (pr i) (ln i) (cp i) (cr i) (y i) hlb hsi hR hpp
    simp only [stO_some, stO_none]
    co_applyP rT (i := 9) rfl (fun _ hu_ => run_eq_of ?u6) ?v6
    case u6 => intro K_ hK_;go_simp;(try rw [wI _]);(try rw [wU _]);exact hK_
    simp only [sS, sN]
    refine anyR_done (by first | kernel_rfl | decide +kernel) ?_ _
    repeat (first|refine rA ?_|refine rB ?_|refine rC ?_|refine rD ?_|(refine rR ?_;simp only [tO, Nat.reduceAdd])|refine rE ?_|(refine rO goodFF rfl ?_;intro _ hu_ K_ hK_;go_simp;(try rw [wI _]);(try rw [wU _]);refine hK_ _ ?_;clear hK_ K_ hu_;simp only [sS, sN])|(refine rP rfl ?_;simp only [sS, sN]))
    refine reach_draw goodFF (by first | kernel_rfl | rfl) ?_
    simp only [List.size_toArray, List.length_cons, List.length_nil, Nat.reduceAdd, Nat.zero_add]
    co_applyP rT (i := 0) rfl (fun _ hu_ => run_eq_of ?u7_0) ?v7_0
    case u7_0 => intro K_ hK_;go_simp;(try rw [wI _]);(try rw [wU _]);exact hK_
    simp only [sS, sN]
    co_applyP rT (i := 1) rfl (fun _ hu_ => run_eq_of ?u7_1) ?v7_1
    case u7_1 => intro K_ hK_;go_simp;(try rw [wI _]);(try rw [wU _]);exact hK_
    simp only [sS, sN]
    co_applyP rT (i := 2) rfl (fun _ hu_ => run_eq_of ?u7_2) ?v7_2
    case u7_2 => intro K_ hK_;go_simp;(try rw [wI _]);(try rw [wU _]);exact hK_
    simp only [sS, sN]
    co_applyP rT (i := 3) rfl (fun _ hu_ => run_eq_of ?u8) ?v8
    case u8 => intro K_ hK_;(have hc := (Ext.twin hu_).cell c3);go_simp;(try rw [wI _]);(try rw [wU _]);exact hK_
    simp only [sS, sN]
    co_applyP rT (i := 4) rfl (fun _ hu_ => run_eq_of ?u9_4) ?v9_4
    case u9_4 => intro K_ hK_;go_simp;(try rw [wI _]);(try rw [wU _]);exact hK_
    simp only [sS, sN]
    co_applyP rT (i := 5) rfl (fun _ hu_ => run_eq_of ?u9_5) ?v9_5
    case u9_5 => intro K_ hK_;go_simp;(try rw [wI _]);(try rw [wU _]);exact hK_
    simp only [sS, sN]
    co_applyP rT (i := 6) rfl (fun _ hu_ => run_eq_of ?u9_6) ?v9_6
    case u9_6 => intro K_ hK_;go_simp;(try rw [wI _]);(try rw [wU _]);exact hK_
    simp only [sS, sN]
    co_applyP rT (i := 7) rfl (fun _ hu_ => run_eq_of ?u10) ?v10
    case u10 => intro K_ hK_;(have hc := (Ext.twin hu_).cell c2);go_simp;(try rw [wI _]);(try rw [wU _]);exact hK_
    simp only [sS, sN]
    co_applyP anyR_take (i := 8) rfl (by first | kernel_rfl | decide +kernel) (by first | kernel_rfl | decide +kernel) (by first | kernel_rfl | decide +kernel) (.inl ⟨(by first | rfl | (simp [Region.wanted, yielded, TA_get, *]; done)), .inr ⟨_, _, _, _, _, rfl, Try.func27, (by kernel_rfl), rfl, ?run11⟩⟩) ?rest11
    case run11 =>
      simp [Act.eval, *]
      exact lsame_r (pr i) (q i) (ln i) (cr i) (cp i) (y i) (y i) (by omega) hR.slice hsi (fun _ _ => rfl)
    simp only [stO_some, stO_none]
    co_applyP rT (i := 9) rfl (fun _ hu_ => run_eq_of ?u12) ?v12
    case u12 => intro K_ hK_;go_simp;(try rw [wI _]);(try rw [wU _]);exact hK_
    simp only [sS, sN]
    refine anyR_done (by first | kernel_rfl | decide +kernel) ?_ _
    rcases hab with ⟨ea, eb⟩ | ⟨a, b, ea, eb⟩
    · rw [ea] at c3
      rw [eb] at c2
      repeat (first|refine rA ?_|refine rB ?_|refine rC ?_|refine rD ?_|(refine rR ?_;simp only [tO, Nat.reduceAdd])|refine rE ?_|(refine rO goodFF rfl ?_;intro _ hu_ K_ hK_;go_simp;(try rw [wI _]);(try rw [wU _]);refine hK_ _ ?_;clear hK_ K_ hu_;simp only [sS, sN])|(refine rP rfl ?_;simp only [sS, sN]))
      refine reach_draw goodFF (by first | kernel_rfl | rfl) ?_
      simp only [List.size_toArray, List.length_cons, List.length_nil, Nat.reduceAdd, Nat.zero_add]
      co_applyP rT (i := 0) rfl (fun _ hu_ => run_eq_of ?u13_0) ?v13_0
      case u13_0 => intro K_ hK_;go_simp;(try rw [wI _]);(try rw [wU _]);exact hK_
      simp only [sS, sN]
      co_applyP rT (i := 1) rfl (fun _ hu_ => run_eq_of ?u13_1) ?v13_1
      case u13_1 => intro K_ hK_;go_simp;(try rw [wI _]);(try rw [wU _]);exact hK_
      simp only [sS, sN]
      co_applyP rT (i := 2) rfl (fun _ hu_ => run_eq_of ?u13_2) ?v13_2
      case u13_2 => intro K_ hK_;go_simp;(try rw [wI _]);(try rw [wU _]);exact hK_
      simp only [sS, sN]
      co_applyP rT (i := 3) rfl (fun _ hu_ => run_eq_of ?u13_3) ?v13_3
      case u13_3 => intro K_ hK_;go_simp;(try rw [wI _]);(try rw [wU _]);exact hK_
      simp only [sS, sN]
      co_applyP rT (i := 4) rfl (fun _ hu_ => run_eq_of ?u13_4) ?v13_4
      case u13_4 => intro K_ hK_;go_simp;(try rw [wI _]);(try rw [wU _]);exact hK_
      simp only [sS, sN]
      co_applyP rT (i := 5) rfl (fun _ hu_ => run_eq_of ?u13_5) ?v13_5
      case u13_5 => intro K_ hK_;go_simp;(try rw [wI _]);(try rw [wU _]);exact hK_
      simp only [sS, sN]
      co_applyP rT (i := 6) rfl (fun _ hu_ => run_eq_of ?u13_6) ?v13_6
      case u13_6 => intro K_ hK_;go_simp;(try rw [wI _]);(try rw [wU _]);exact hK_
      simp only [sS, sN]
      co_applyP rT (i := 7) rfl (fun _ hu_ => run_eq_of ?u13_7) ?v13_7
      case u13_7 => intro K_ hK_;go_simp;(try rw [wI _]);(try rw [wU _]);exact hK_
      simp only [sS, sN]
      co_applyP rT (i := 8) rfl (fun _ hu_ => run_eq_of ?u13_8) ?v13_8
      case u13_8 => intro K_ hK_;go_simp;(try rw [wI _]);(try rw [wU _]);exact hK_
      simp only [sS, sN]
      co_applyP rT (i := 9) rfl (fun _ hu_ => run_eq_of ?u13_9) ?v13_9
      case u13_9 => intro K_ hK_;go_simp;(try rw [wI _]);(try rw [wU _]);exact hK_
      simp only [sS, sN]
      co_applyP rT (i := 10) rfl (fun _ hu_ => run_eq_of ?u14) ?v14
      case u14 => intro K_ hK_;(have hc := (Ext.twin hu_).cell c3);go_simp;(try rw [wI _]);(try rw [wU _]);exact hK_
      simp only [sS, sN]
      co_applyP rT (i := 11) rfl (fun _ hu_ => run_eq_of ?u15_11) ?v15_11
      case u15_11 => intro K_ hK_;go_simp;(try rw [wI _]);(try rw [wU _]);exact hK_
      simp only [sS, sN]
      co_applyP rT (i := 12) rfl (fun _ hu_ => run_eq_of ?u15_12) ?v15_12
      case u15_12 => intro K_ hK_;go_simp;(try rw [wI _]);(try rw [wU _]);exact hK_
      simp only [sS, sN]
      co_applyP rT (i := 13) rfl (fun _ hu_ => run_eq_of ?u15_13) ?v15_13
      case u15_13 => intro K_ hK_;go_simp;(try rw [wI _]);(try rw [wU _]);exact hK_
      simp only [sS, sN]
      co_applyP rT (i := 14) rfl (fun _ hu_ => run_eq_of ?u15_14) ?v15_14
      case u15_14 => intro K_ hK_;go_simp;(try rw [wI _]);(try rw [wU _]);exact hK_
      simp only [sS, sN]
      co_applyP rT (i := 15) rfl (fun _ hu_ => run_eq_of ?u16) ?v16
      case u16 => intro K_ hK_;(have hc := (Ext.twin hu_).cell c2);go_simp;(try rw [wI _]);(try rw [wU _]);exact hK_
      simp only [sS, sN]
      co_applyP rT (i := 16) rfl (fun _ hu_ => run_eq_of ?u17_16) ?v17_16
      case u17_16 => intro K_ hK_;go_simp;(try rw [wI _]);(try rw [wU _]);exact hK_
      simp only [sS, sN]
      co_applyP rT (i := 17) rfl (fun _ hu_ => run_eq_of ?u17_17) ?v17_17
      case u17_17 => intro K_ hK_;go_simp;(try rw [wI _]);(try rw [wU _]);exact hK_
      simp only [sS, sN]
      co_applyP rT (i := 18) rfl (fun _ hu_ => run_eq_of ?u17_18) ?v17_18
      case u17_18 => intro K_ hK_;go_simp;(try rw [wI _]);(try rw [wU _]);exact hK_
      simp only [sS, sN]
      refine anyR_done (by first | kernel_rfl | decide +kernel) ?_ _
      repeat (first|refine rA ?_|refine rB ?_|refine rC ?_|refine rD ?_|(refine rR ?_;simp only [tO, Nat.reduceAdd])|refine rE ?_|(refine rO goodFF rfl ?_;intro _ hu_ K_ hK_;go_simp;(try rw [wI _]);(try rw [wU _]);refine hK_ _ ?_;clear hK_ K_ hu_;simp only [sS, sN])|(refine rP rfl ?_;simp only [sS, sN]))
      (refine reach_cond (t := false) (by simp [Act.eval]) ?_; simp only [if_true, if_false, reduceIte, Bool.false_eq_true])
      repeat (first|refine rA ?_|refine rB ?_|refine rC ?_|refine rD ?_|(refine rR ?_;simp only [tO, Nat.reduceAdd])|refine rE ?_|(refine rO goodFF rfl ?_;intro _ hu_ K_ hK_;go_simp;(try rw [wI _]);(try rw [wU _]);refine hK_ _ ?_;clear hK_ K_ hu_;simp only [sS, sN])|(refine rP rfl ?_;simp only [sS, sN]))
      refine next _ _ _ (n - (i + 1)) (by omega) ⟨i + 1, rfl, by omega, rfl, rfl, by simp [g0], by simp [g1], by simp [g2], by simp⟩
    · rw [ea] at c3
      rw [eb] at c2
      repeat (first|refine rA ?_|refine rB ?_|refine rC ?_|refine rD ?_|(refine rR ?_;simp only [tO, Nat.reduceAdd])|refine rE ?_|(refine rO goodFF rfl ?_;intro _ hu_ K_ hK_;go_simp;(try rw [wI _]);(try rw [wU _]);refine hK_ _ ?_;clear hK_ K_ hu_;simp only [sS, sN])|(refine rP rfl ?_;simp only [sS, sN]))
      refine reach_draw goodFF (by first | kernel_rfl | rfl) ?_
      simp only [List.size_toArray, List.length_cons, List.length_nil, Nat.reduceAdd, Nat.zero_add]
      co_applyP rT (i := 0) rfl (fun _ hu_ => run_eq_of ?u18_0) ?v18_0
      case u18_0 => intro K_ hK_;go_simp;(try rw [wI _]);(try rw [wU _]);exact hK_
      simp only [sS, sN]
      co_applyP rT (i := 1) rfl (fun _ hu_ => run_eq_of ?u18_1) ?v18_1
      case u18_1 => intro K_ hK_;go_simp;(try rw [wI _]);(try rw [wU _]);exact hK_
      simp only [sS, sN]
      co_applyP rT (i := 2) rfl (fun _ hu_ => run_eq_of ?u18_2) ?v18_2
      case u18_2 => intro K_ hK_;go_simp;(try rw [wI _]);(try rw [wU _]);exact hK_
      simp only [sS, sN]
      co_applyP rT (i := 3) rfl (fun _ hu_ => run_eq_of ?u18_3) ?v18_3
      case u18_3 => intro K_ hK_;go_simp;(try rw [wI _]);(try rw [wU _]);exact hK_
      simp only [sS, sN]
      co_applyP rT (i := 4) rfl (fun _ hu_ => run_eq_of ?u18_4) ?v18_4
      case u18_4 => intro K_ hK_;go_simp;(try rw [wI _]);(try rw [wU _]);exact hK_
      simp only [sS, sN]
      co_applyP rT (i := 5) rfl (fun _ hu_ => run_eq_of ?u18_5) ?v18_5
      case u18_5 => intro K_ hK_;go_simp;(try rw [wI _]);(try rw [wU _]);exact hK_
      simp only [sS, sN]
      co_applyP rT (i := 6) rfl (fun _ hu_ => run_eq_of ?u18_6) ?v18_6
      case u18_6 => intro K_ hK_;go_simp;(try rw [wI _]);(try rw [wU _]);exact hK_
      simp only [sS, sN]
      co_applyP rT (i := 7) rfl (fun _ hu_ => run_eq_of ?u18_7) ?v18_7
      case u18_7 => intro K_ hK_;go_simp;(try rw [wI _]);(try rw [wU _]);exact hK_
      simp only [sS, sN]
      co_applyP rT (i := 8) rfl (fun _ hu_ => run_eq_of ?u18_8) ?v18_8
      case u18_8 => intro K_ hK_;go_simp;(try rw [wI _]);(try rw [wU _]);exact hK_
      simp only [sS, sN]
      co_applyP rT (i := 9) rfl (fun _ hu_ => run_eq_of ?u18_9) ?v18_9
      case u18_9 => intro K_ hK_;go_simp;(try rw [wI _]);(try rw [wU _]);exact hK_
      simp only [sS, sN]
      co_applyP rT (i := 10) rfl (fun _ hu_ => run_eq_of ?u19) ?v19
      case u19 => intro K_ hK_;(have hc := (Ext.twin hu_).cell c3);go_simp;(try rw [wI _]);(try rw [wU _]);exact hK_
      simp only [sS, sN]
      co_applyP rT (i := 11) rfl (fun _ hu_ => run_eq_of ?u20_11) ?v20_11
      case u20_11 => intro K_ hK_;go_simp;(try rw [wI _]);(try rw [wU _]);exact hK_
      simp only [sS, sN]
      co_applyP rT (i := 12) rfl (fun _ hu_ => run_eq_of ?u20_12) ?v20_12
      case u20_12 => intro K_ hK_;go_simp;(try rw [wI _]);(try rw [wU _]);exact hK_
      simp only [sS, sN]
      co_applyP rT (i := 13) rfl (fun _ hu_ => run_eq_of ?u20_13) ?v20_13
      case u20_13 => intro K_ hK_;go_simp;(try rw [wI _]);(try rw [wU _]);exact hK_
      simp only [sS, sN]
      co_applyP rT (i := 14) rfl (fun _ hu_ => run_eq_of ?u20_14) ?v20_14
      case u20_14 => intro K_ hK_;go_simp;(try rw [wI _]);(try rw [wU _]);exact hK_
      simp only [sS, sN]
      co_applyP rT (i := 15) rfl (fun _ hu_ => run_eq_of ?u21) ?v21
      case u21 => intro K_ hK_;(have hc := (Ext.twin hu_).cell c2);go_simp;(try rw [wI _]);(try rw [wU _]);exact hK_
      simp only [sS, sN]
      co_applyP rT (i := 16) rfl (fun _ hu_ => run_eq_of ?u22_16) ?v22_16
      case u22_16 => intro K_ hK_;go_simp;(try rw [wI _]);(try rw [wU _]);exact hK_
      simp only [sS, sN]
      co_applyP rT (i := 17) rfl (fun _ hu_ => run_eq_of ?u22_17) ?v22_17
      case u22_17 => intro K_ hK_;go_simp;(try rw [wI _]);(try rw [wU _]);exact hK_
      simp only [sS, sN]
      co_applyP rT (i := 18) rfl (fun _ hu_ => run_eq_of ?u22_18) ?v22_18
      case u22_18 => intro K_ hK_;go_simp;(try rw [wI _]);(try rw [wU _]);exact hK_
      simp only [sS, sN]
      refine anyR_done (by first | kernel_rfl | decide +kernel) ?_ _
      repeat (first|refine rA ?_|refine rB ?_|refine rC ?_|refine rD ?_|(refine rR ?_;simp only [tO, Nat.reduceAdd])|refine rE ?_|(refine rO goodFF rfl ?_;intro _ hu_ K_ hK_;go_simp;(try rw [wI _]);(try rw [wU _]);refine hK_ _ ?_;clear hK_ K_ hu_;simp only [sS, sN])|(refine rP rfl ?_;simp only [sS, sN]))
      (refine reach_cond (t := false) (by simp [Act.eval]) ?_; simp only [if_true, if_false, reduceIte, Bool.false_eq_true])
      repeat (first|refine rA ?_|refine rB ?_|refine rC ?_|refine rD ?_|(refine rR ?_;simp only [tO, Nat.reduceAdd])|refine rE ?_|(refine rO goodFF rfl ?_;intro _ hu_ K_ hK_;go_simp;(try rw [wI _]);(try rw [wU _]);refine hK_ _ ?_;clear hK_ K_ hu_;simp only [sS, sN])|(refine rP rfl ?_;simp only [sS, sN]))
      refine next _ _ _ (n - (i + 1)) (by omega) ⟨i + 1, rfl, by omega, rfl, rfl, by simp [g0], by simp [g1], by simp [g2], by simp⟩
  · obtain rfl : i = n := by omega
    (refine reach_cond (t := false) (by simp [Act.eval]) ?_; simp only [if_true, if_false, reduceIte, Bool.false_eq_true])
    refine reach_exit rfl ?_
    repeat (first|refine rA ?_|refine rB ?_|refine rC ?_|refine rD ?_|(refine rR ?_;simp only [tO, Nat.reduceAdd])|refine rE ?_|(refine rO goodFF rfl ?_;intro _ hu_ K_ hK_;go_simp;(try rw [wI _]);(try rw [wU _]);refine hK_ _ ?_;clear hK_ K_ hu_;simp only [sS, sN])|(refine rP rfl ?_;simp only [sS, sN]))
    refine reach_ret fun todo => ?_
    refine ret _ _ _ _ (.bool true) ?_ ⟨rfl, rfl, rfl⟩
    simp [results, Try.results23]
end Go.Proofs.Ytpiefebngnlfoaa
