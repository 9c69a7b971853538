/-
  piece.oneLength, piece.Mend, mosaic.Mend: for every list of pieces.
-/
import Derived.Test.YtpiefebngnlfoaaLo
import Derived.Test.YtpiefebngnlfoaaLs
set_option linter.unusedVariables false
set_option linter.unusedSimpArgs false
namespace Go.Proofs.Ytpiefebngnlfoaa
open Go.RowKit Go.Conc Go.Vw

/-- The length of the last one that is there. -/
def lastL (q : Nat → Option Addr) (ln : Nat → Nat) : Nat → Nat
  | 0 => 0
  | i + 1 => if (q i).isSome = true then ln i else lastL q ln i
/-- Those that are there are of one length. -/
def okL (q : Nat → Option Addr) (ln : Nat → Nat) : Nat → Bool
  | 0 => true
  | i + 1 => okL q ln i && (!(q i).isSome || !anyB q i || decide (ln i = lastL q ln i))
theorem okL_mono {q : Nat → Option Addr} {ln : Nat → Nat} {i j : Nat} (h : i ≤ j) (hj : okL q ln j = true) : okL q ln i = true := by
  induction j with
  | zero =>
    obtain rfl : i = 0 := by omega
    exact hj
  | succ j ih =>
    rcases Nat.lt_or_ge i (j + 1) with hlt | hge
    · refine ih (by omega) ?_
      unfold okL at hj
      simp only [Bool.and_eq_true] at hj
      exact hj.1
    · obtain rfl : i = j + 1 := by omega
      exact hj
theorem okL_all {q : Nat → Option Addr} {ln : Nat → Nat} (i : Nat) (h : okL q ln i = true) : ∀ k, k < i → (q k).isSome = true → ln k = lastL q ln i := by
  induction i with
  | zero => intro k hk; omega
  | succ i ih =>
    intro k hk hs
    unfold okL at h
    simp only [Bool.and_eq_true, Bool.or_eq_true, Bool.not_eq_true', decide_eq_true_eq] at h
    obtain ⟨h1, h2⟩ := h
    unfold lastL
    by_cases hq : (q i).isSome = true
    · rw [if_pos hq]
      rcases Nat.lt_or_ge k i with hlt | hge
      · have hany : anyB q i = true := by
          simp only [anyB, List.any_eq_true]
          exact ⟨k, by simpa using hlt, hs⟩
        rcases h2 with (h | h) | h
        · rw [hq] at h; cases h
        · rw [hany] at h; cases h
        · rw [h]
          exact ih h1 k hlt hs
      · rw [show k = i by omega]
    · rw [if_neg hq]
      rcases Nat.lt_or_ge k i with hlt | hge
      · exact ih h1 k hlt hs
      · rw [show k = i by omega] at hs
        exact absurd hs hq

set_option maxRecDepth 100000 in
set_option maxHeartbeats 1000000 in
theorem oneLengthG_r {S : Nat → Prop} {v : World} (BL ol cl : Nat) (q : Nat → Option Addr) (ln cp : Nat → Nat) (y : Nat → Nat → Nat) (hP : PL v BL ol q ln cp y) :
    CallsR Try.prog 45 #[.slice (some ⟨BL, ol, none⟩) 14 cl] S v fun x S' v' => x = .tuple #[.int .i64 ((if okL q ln 14 = true then lastL q ln 14 else 0 : Nat) : Int), .bool (okL q ln 14)] ∧ S' = S ∧ v' = v := by
  refine callsR_body Try.func45 rfl Try.ntmps45 (by simp) fun Stop cc cs ret => ?_
  have h0 : argF #[.slice (some ⟨BL, ol, none⟩) 14 cl] 0 = .slice (some ⟨BL, ol, none⟩) 14 cl := rfl
  generalize argF #[.slice (some ⟨BL, ol, none⟩) 14 cl] = f at h0
  repeat (first|refine rA ?_|refine rB ?_|refine rC ?_|refine rD ?_|(refine rR ?_;simp only [tO, Nat.reduceAdd])|refine rE ?_|(refine rO goodFF rfl ?_;intro _ hu_ K_ hK_;go_simp;(try rw [wI _]);(try rw [wU _]);refine hK_ _ ?_;clear hK_ K_ hu_;simp only [sS, sN])|(refine rP rfl ?_;simp only [sS, sN]))
  refine reach_rounds (fun d f' S' v' => ∃ j, d = 14 - j ∧ j ≤ 14 ∧ S' = S ∧ v' = v ∧ Hid (okL q ln j = true) ∧ f' 8 = .slice (some ⟨BL, ol, none⟩) 14 cl ∧ f' 9 = .int .i64 14 ∧ f' 10 = .int .i64 (j : Nat) ∧ f' 4 = .int .i64 ((lastL q ln j : Nat) : Int) ∧ f' 5 = .bool (anyB q j)) 14 ⟨0, by omega, by omega, rfl, rfl, rfl, by simp [h0], by simp, by simp, by simp [lastL], by simp [anyB]⟩ ?_
  rintro d f' S' v' ⟨j, rfl, hj, eS, eV, hok, g8, g9, g10, g4, g5⟩ next
  subst S' v'
  repeat (first|refine rA ?_|refine rB ?_|refine rC ?_|refine rD ?_|(refine rR ?_;simp only [tO, Nat.reduceAdd])|refine rE ?_|(refine rO goodFF rfl ?_;intro _ hu_ K_ hK_;go_simp;(try rw [wI _]);(try rw [wU _]);refine hK_ _ ?_;clear hK_ K_ hu_;simp only [sS, sN])|(refine rP rfl ?_;simp only [sS, sN]))
  by_cases hlt : j < 14
  · have hjI : (j : Int) < 14 := by omega
    (refine reach_cond (t := true) (by simp [Act.eval, g10, g9, hjI]) ?_; simp only [if_true, if_false, reduceIte, Bool.false_eq_true])
    have hat := hP.at_ j hlt
    cases hq : q j with
    | none =>
      rw [hq] at hat
      have HO : Hid (okL q ln (j + 1) = true) := by
        show okL q ln (j + 1) = true
        unfold okL
        rw [hok.out, hq]
        rfl
      have HL : Hid (lastL q ln (j + 1) = lastL q ln j) := by
        show lastL q ln (j + 1) = lastL q ln j
        conv => lhs; unfold lastL
        rw [hq]
        rfl
      have HA : Hid (anyB q (j + 1) = anyB q j) := by
        show anyB q (j + 1) = anyB q j
        rw [anyB_succ, hq]
        simp
      clear hq
      repeat (first|refine rA ?_|refine rB ?_|refine rC ?_|refine rD ?_|(refine rR ?_;simp only [tO, Nat.reduceAdd])|refine rE ?_|(refine rO goodFF rfl ?_;intro _ hu_ K_ hK_;(have hc := (Ext.twin hu_).cell hat);go_simp;(try rw [wI _]);(try rw [wU _]);refine hK_ _ ?_;clear hK_ K_ hu_;simp only [sS, sN])|(refine rP rfl ?_;simp only [sS, sN]))
      (refine reach_cond (t := true) (by simp [Act.eval]) ?_; simp only [if_true, if_false, reduceIte, Bool.false_eq_true])
      refine reach_exit rfl ?_
      repeat (first|refine rA ?_|refine rB ?_|refine rC ?_|refine rD ?_|(refine rR ?_;simp only [tO, Nat.reduceAdd])|refine rE ?_|(refine rO goodFF rfl ?_;intro _ hu_ K_ hK_;go_simp;(try rw [wI _]);(try rw [wU _]);refine hK_ _ ?_;clear hK_ K_ hu_;simp only [sS, sN])|(refine rP rfl ?_;simp only [sS, sN]))
      refine next _ _ _ (14 - (j + 1)) (by omega) ⟨j + 1, rfl, by omega, rfl, rfl, HO, ?_, ?_, ?_, ?_, ?_⟩
      · simp [g8]
      · simp [g9]
      · simp
      · simp [g4, HL.out]
      · simp [g5, HA.out]
    | some a =>
      rw [hq] at hat
      have HL : Hid (lastL q ln (j + 1) = ln j) := by
        show lastL q ln (j + 1) = ln j
        conv => lhs; unfold lastL
        rw [hq]
        rfl
      have HA : Hid (anyB q (j + 1) = true) := by
        show anyB q (j + 1) = true
        rw [anyB_succ, hq]
        simp
      have HK : Hid (okL q ln (j + 1) = (!anyB q j || decide (ln j = lastL q ln j))) := by
        show okL q ln (j + 1) = _
        conv => lhs; unfold okL
        rw [hok.out, hq]
        simp
      clear hq
      by_cases hany : anyB q j = true
      · by_cases he : ln j = lastL q ln j
        · have HO : Hid (okL q ln (j + 1) = true) := by
            show okL q ln (j + 1) = true
            rw [HK.out, hany, decide_eq_true he]
            rfl
          have heI : ((ln j : Nat) : Int) = ((lastL q ln j : Nat) : Int) := by rw [he]
          rw [hany] at g5
          repeat (first|refine rA ?_|refine rB ?_|refine rC ?_|refine rD ?_|(refine rR ?_;simp only [tO, Nat.reduceAdd])|refine rE ?_|(refine rO goodFF rfl ?_;intro _ hu_ K_ hK_;(have hc := (Ext.twin hu_).cell hat);go_simp;(try rw [wI _]);(try rw [wU _]);refine hK_ _ ?_;clear hK_ K_ hu_;simp only [sS, sN])|(refine rP rfl ?_;simp only [sS, sN]))
          (refine reach_cond (t := false) (by simp [Act.eval]) ?_; simp only [if_true, if_false, reduceIte, Bool.false_eq_true])
          repeat (first|refine rA ?_|refine rB ?_|refine rC ?_|refine rD ?_|(refine rR ?_;simp only [tO, Nat.reduceAdd])|refine rE ?_|(refine rO goodFF rfl ?_;intro _ hu_ K_ hK_;go_simp;(try rw [wI _]);(try rw [wU _]);refine hK_ _ ?_;clear hK_ K_ hu_;simp only [sS, sN])|(refine rP rfl ?_;simp only [sS, sN]))
          (refine reach_cond (t := false) (by simp [Act.eval, heI, he]) ?_; simp only [if_true, if_false, reduceIte, Bool.false_eq_true])
          repeat (first|refine rA ?_|refine rB ?_|refine rC ?_|refine rD ?_|(refine rR ?_;simp only [tO, Nat.reduceAdd])|refine rE ?_|(refine rO goodFF rfl ?_;intro _ hu_ K_ hK_;go_simp;(try rw [wI _]);(try rw [wU _]);refine hK_ _ ?_;clear hK_ K_ hu_;simp only [sS, sN])|(refine rP rfl ?_;simp only [sS, sN]))
          refine next _ _ _ (14 - (j + 1)) (by omega) ⟨j + 1, rfl, by omega, rfl, rfl, HO, ?_, ?_, ?_, ?_, ?_⟩
          · simp [g8]
          · simp [g9]
          · simp
          · simp [HL.out, he]
          · simp [HA.out]
        · have hbad : okL q ln 14 = false := by
            rw [Bool.eq_false_iff]
            intro h
            have := okL_mono (show j + 1 ≤ 14 by omega) h
            rw [HK.out, hany, decide_eq_false he] at this
            cases this
          have heI : ¬ ((ln j : Nat) : Int) = ((lastL q ln j : Nat) : Int) := by omega
          rw [hany] at g5
          repeat (first|refine rA ?_|refine rB ?_|refine rC ?_|refine rD ?_|(refine rR ?_;simp only [tO, Nat.reduceAdd])|refine rE ?_|(refine rO goodFF rfl ?_;intro _ hu_ K_ hK_;(have hc := (Ext.twin hu_).cell hat);go_simp;(try rw [wI _]);(try rw [wU _]);refine hK_ _ ?_;clear hK_ K_ hu_;simp only [sS, sN])|(refine rP rfl ?_;simp only [sS, sN]))
          (refine reach_cond (t := false) (by simp [Act.eval]) ?_; simp only [if_true, if_false, reduceIte, Bool.false_eq_true])
          repeat (first|refine rA ?_|refine rB ?_|refine rC ?_|refine rD ?_|(refine rR ?_;simp only [tO, Nat.reduceAdd])|refine rE ?_|(refine rO goodFF rfl ?_;intro _ hu_ K_ hK_;go_simp;(try rw [wI _]);(try rw [wU _]);refine hK_ _ ?_;clear hK_ K_ hu_;simp only [sS, sN])|(refine rP rfl ?_;simp only [sS, sN]))
          (refine reach_cond (t := true) (by simp [Act.eval, heI, he]) ?_; simp only [if_true, if_false, reduceIte, Bool.false_eq_true])
          repeat (first|refine rA ?_|refine rB ?_|refine rC ?_|refine rD ?_|(refine rR ?_;simp only [tO, Nat.reduceAdd])|refine rE ?_|(refine rO goodFF rfl ?_;intro _ hu_ K_ hK_;go_simp;(try rw [wI _]);(try rw [wU _]);refine hK_ _ ?_;clear hK_ K_ hu_;simp only [sS, sN])|(refine rP rfl ?_;simp only [sS, sN]))
          refine reach_ret fun todo => ?_
          refine ret _ _ _ _ (.tuple #[.int .i64 0, .bool false]) ?_ ⟨by rw [hbad]; rfl, rfl, rfl⟩
          simp [results, Try.results45]
      · have hany' : anyB q j = false := by simpa using hany
        have HO : Hid (okL q ln (j + 1) = true) := by
          show okL q ln (j + 1) = true
          rw [HK.out, hany']
          rfl
        rw [hany'] at g5
        repeat (first|refine rA ?_|refine rB ?_|refine rC ?_|refine rD ?_|(refine rR ?_;simp only [tO, Nat.reduceAdd])|refine rE ?_|(refine rO goodFF rfl ?_;intro _ hu_ K_ hK_;(have hc := (Ext.twin hu_).cell hat);go_simp;(try rw [wI _]);(try rw [wU _]);refine hK_ _ ?_;clear hK_ K_ hu_;simp only [sS, sN])|(refine rP rfl ?_;simp only [sS, sN]))
        (refine reach_cond (t := false) (by simp [Act.eval]) ?_; simp only [if_true, if_false, reduceIte, Bool.false_eq_true])
        repeat (first|refine rA ?_|refine rB ?_|refine rC ?_|refine rD ?_|(refine rR ?_;simp only [tO, Nat.reduceAdd])|refine rE ?_|(refine rO goodFF rfl ?_;intro _ hu_ K_ hK_;go_simp;(try rw [wI _]);(try rw [wU _]);refine hK_ _ ?_;clear hK_ K_ hu_;simp only [sS, sN])|(refine rP rfl ?_;simp only [sS, sN]))
        (refine reach_cond (t := false) (by simp [Act.eval]) ?_; simp only [if_true, if_false, reduceIte, Bool.false_eq_true])
        repeat (first|refine rA ?_|refine rB ?_|refine rC ?_|refine rD ?_|(refine rR ?_;simp only [tO, Nat.reduceAdd])|refine rE ?_|(refine rO goodFF rfl ?_;intro _ hu_ K_ hK_;go_simp;(try rw [wI _]);(try rw [wU _]);refine hK_ _ ?_;clear hK_ K_ hu_;simp only [sS, sN])|(refine rP rfl ?_;simp only [sS, sN]))
        refine next _ _ _ (14 - (j + 1)) (by omega) ⟨j + 1, rfl, by omega, rfl, rfl, HO, ?_, ?_, ?_, ?_, ?_⟩
        · simp [g8]
        · simp [g9]
        · simp
        · simp [HL.out]
        · simp [HA.out]
  · obtain rfl : j = 14 := by omega
    (refine reach_cond (t := false) (by simp [Act.eval, g10, g9]) ?_; simp only [if_true, if_false, reduceIte, Bool.false_eq_true])
    refine reach_exit rfl ?_
    repeat (first|refine rA ?_|refine rB ?_|refine rC ?_|refine rD ?_|(refine rR ?_;simp only [tO, Nat.reduceAdd])|refine rE ?_|(refine rO goodFF rfl ?_;intro _ hu_ K_ hK_;go_simp;(try rw [wI _]);(try rw [wU _]);refine hK_ _ ?_;clear hK_ K_ hu_;simp only [sS, sN])|(refine rP rfl ?_;simp only [sS, sN]))
    refine reach_ret fun todo => ?_
    refine ret _ _ _ _ (.tuple #[.int .i64 ((lastL q ln 14 : Nat) : Int), .bool true]) ?_ ⟨by rw [hok.out]; rfl, rfl, rfl⟩
    simp [results, Try.results45, g4]
set_option maxRecDepth 100000 in
theorem mendLen_r {S : Nat → Prop} {v : World} (p : Option Addr) (len cap : Nat) (hl : len ≠ 14) :
    CallsR Try.prog 38 #[.slice p len cap] S v fun x S' v' => x = .tuple #[.slice none 0 0, .int .i64 1] ∧ S' = S ∧ v' = v := by
  refine callsR_body Try.func38 rfl Try.ntmps38 (by simp) fun Stop cc cs ret => ?_
  have g0 : argF #[.slice p len cap] 0 = .slice p len cap := rfl
  generalize argF #[.slice p len cap] = f at g0
  have hI : ¬ (len : Int) = 14 := by omega
  repeat (first|refine rA ?_|refine rB ?_|refine rC ?_|refine rD ?_|(refine rR ?_;simp only [tO, Nat.reduceAdd])|refine rE ?_|(refine rO goodFF rfl ?_;intro _ hu_ K_ hK_;go_simp;(try rw [wI _]);(try rw [wU _]);refine hK_ _ ?_;clear hK_ K_ hu_;simp only [sS, sN])|(refine rP rfl ?_;simp only [sS, sN]))
  (refine reach_cond (t := true) (by simp [Act.eval, hI, hl, g0]) ?_; simp only [if_true, if_false, reduceIte, Bool.false_eq_true])
  repeat (first|refine rA ?_|refine rB ?_|refine rC ?_|refine rD ?_|(refine rR ?_;simp only [tO, Nat.reduceAdd])|refine rE ?_|(refine rO goodFF rfl ?_;intro _ hu_ K_ hK_;go_simp;(try rw [wI _]);(try rw [wU _]);refine hK_ _ ?_;clear hK_ K_ hu_;simp only [sS, sN])|(refine rP rfl ?_;simp only [sS, sN]))
  refine reach_ret fun todo => ?_
  refine ret _ _ _ _ (.tuple #[.slice none 0 0, .int .i64 1]) ?_ ⟨rfl, rfl, rfl⟩
  simp [results, Try.results38]
set_option maxRecDepth 100000 in
theorem mendBad_r {S : Nat → Prop} {v : World} (BL ol cl : Nat) (q : Nat → Option Addr) (ln cp : Nat → Nat) (y : Nat → Nat → Nat) (hP : PL v BL ol q ln cp y) (hb : okL q ln 14 = true → 400 < lastL q ln 14) :
    CallsR Try.prog 38 #[.slice (some ⟨BL, ol, none⟩) 14 cl] S v fun x S' v' => x = .tuple #[.slice none 0 0, .int .i64 1] ∧ S' = S ∧ v' = v := by
  refine callsR_body Try.func38 rfl Try.ntmps38 (by simp) fun Stop cc cs ret => ?_
  have h0 : argF #[.slice (some ⟨BL, ol, none⟩) 14 cl] 0 = .slice (some ⟨BL, ol, none⟩) 14 cl := rfl
  generalize argF #[.slice (some ⟨BL, ol, none⟩) 14 cl] = f at h0
  have hone := oneLengthG_r (S := S) BL ol cl q ln cp y hP
  repeat (first|refine rA ?_|refine rB ?_|refine rC ?_|refine rD ?_|(refine rR ?_;simp only [tO, Nat.reduceAdd])|refine rE ?_|(refine rO goodFF rfl ?_;intro _ hu_ K_ hK_;go_simp;(try rw [wI _]);(try rw [wU _]);refine hK_ _ ?_;clear hK_ K_ hu_;simp only [sS, sN])|(refine rP rfl ?_;simp only [sS, sN]))
  (refine reach_cond (t := false) (by simp [Act.eval]) ?_; simp only [if_true, if_false, reduceIte, Bool.false_eq_true])
  repeat (first|refine rA ?_|refine rB ?_|refine rC ?_|refine rD ?_|(refine rR ?_;simp only [tO, Nat.reduceAdd])|refine rE ?_|(refine rO goodFF rfl ?_;intro _ hu_ K_ hK_;go_simp;(try rw [wI _]);(try rw [wU _]);refine hK_ _ ?_;clear hK_ K_ hu_;simp only [sS, sN])|(refine rP rfl ?_;simp only [sS, sN]))
  (refine reach_callR rfl (by first | rfl | simp [Region.wanted, yielded, TA_get, *]) rfl Try.func45 (by kernel_rfl) rfl (by simp [Act.eval, *]; try rfl) (hone) ?_)
  rintro _ S1 w1 hv1 ⟨rfl, e1, e2⟩
  subst S1 w1
  simp only [stO_some]
  clear hone
  cases hok : okL q ln 14 with
  | false =>
    repeat (first|refine rA ?_|refine rB ?_|refine rC ?_|refine rD ?_|(refine rR ?_;simp only [tO, Nat.reduceAdd])|refine rE ?_|(refine rO goodFF rfl ?_;intro _ hu_ K_ hK_;go_simp;(try rw [wI _]);(try rw [wU _]);refine hK_ _ ?_;clear hK_ K_ hu_;simp only [sS, sN])|(refine rP rfl ?_;simp only [sS, sN]))
    (refine reach_cond (t := true) (by simp [Act.eval]) ?_; simp only [if_true, if_false, reduceIte, Bool.false_eq_true])
    repeat (first|refine rA ?_|refine rB ?_|refine rC ?_|refine rD ?_|(refine rR ?_;simp only [tO, Nat.reduceAdd])|refine rE ?_|(refine rO goodFF rfl ?_;intro _ hu_ K_ hK_;go_simp;(try rw [wI _]);(try rw [wU _]);refine hK_ _ ?_;clear hK_ K_ hu_;simp only [sS, sN])|(refine rP rfl ?_;simp only [sS, sN]))
    refine reach_ret fun todo => ?_
    refine ret _ _ _ _ (.tuple #[.slice none 0 0, .int .i64 1]) ?_ ⟨rfl, rfl, rfl⟩
    simp [results, Try.results38]
  | true =>
    have hm := hb hok
    simp only [if_true]
    generalize lastL q ln 14 = m at hm
    have hmI : (400 : Int) < (m : Int) := by omega
    repeat (first|refine rA ?_|refine rB ?_|refine rC ?_|refine rD ?_|(refine rR ?_;simp only [tO, Nat.reduceAdd])|refine rE ?_|(refine rO goodFF rfl ?_;intro _ hu_ K_ hK_;go_simp;(try rw [wI _]);(try rw [wU _]);refine hK_ _ ?_;clear hK_ K_ hu_;simp only [sS, sN])|(refine rP rfl ?_;simp only [sS, sN]))
    (refine reach_cond (t := true) (by simp [Act.eval, hmI, hm]) ?_; simp only [if_true, if_false, reduceIte, Bool.false_eq_true])
    repeat (first|refine rA ?_|refine rB ?_|refine rC ?_|refine rD ?_|(refine rR ?_;simp only [tO, Nat.reduceAdd])|refine rE ?_|(refine rO goodFF rfl ?_;intro _ hu_ K_ hK_;go_simp;(try rw [wI _]);(try rw [wU _]);refine hK_ _ ?_;clear hK_ K_ hu_;simp only [sS, sN])|(refine rP rfl ?_;simp only [sS, sN]))
    refine reach_ret fun todo => ?_
    refine ret _ _ _ _ (.tuple #[.slice none 0 0, .int .i64 1]) ?_ ⟨rfl, rfl, rfl⟩
    simp [results, Try.results38]
set_option maxRecDepth 100000 in
set_option maxHeartbeats 1000000 in
theorem mendFew_r {S : Nat → Prop} {v : World} (BL ol cl : Nat) (q : Nat → Option Addr) (ln cp : Nat → Nat) (y : Nat → Nat → Nat) (hP : PL v BL ol q ln cp y) (hok : okL q ln 14 = true) (hm : lastL q ln 14 ≤ 400) (hfew : (ftC q 14).1 ≠ 10) :
    CallsR Try.prog 38 #[.slice (some ⟨BL, ol, none⟩) 14 cl] S v fun x S' v' => x = .tuple #[.slice none 0 0, .int .i64 2] ∧ S' = S ∧ Ext v v' := by
  refine callsR_body Try.func38 rfl Try.ntmps38 (by simp) fun Stop cc cs ret => ?_
  have h0 : argF #[.slice (some ⟨BL, ol, none⟩) 14 cl] 0 = .slice (some ⟨BL, ol, none⟩) 14 cl := rfl
  generalize argF #[.slice (some ⟨BL, ol, none⟩) 14 cl] = f at h0
  have hone := oneLengthG_r (S := S) BL ol cl q ln cp y hP
  rw [hok, if_pos rfl] at hone
  have hfirst := firstTen_r (S := S) BL ol cl q ln cp y hP
  rw [decide_eq_false hfew] at hfirst
  generalize (ftC q 14).2 = kn at hfirst
  generalize lastL q ln 14 = m at hone hm
  have hmI : ¬ (400 : Int) < (m : Int) := by omega
  clear hfew hok
  repeat (first|refine rA ?_|refine rB ?_|refine rC ?_|refine rD ?_|(refine rR ?_;simp only [tO, Nat.reduceAdd])|refine rE ?_|(refine rO goodFF rfl ?_;intro _ hu_ K_ hK_;go_simp;(try rw [wI _]);(try rw [wU _]);refine hK_ _ ?_;clear hK_ K_ hu_;simp only [sS, sN])|(refine rP rfl ?_;simp only [sS, sN]))
  (refine reach_cond (t := false) (by simp [Act.eval]) ?_; simp only [if_true, if_false, reduceIte, Bool.false_eq_true])
  repeat (first|refine rA ?_|refine rB ?_|refine rC ?_|refine rD ?_|(refine rR ?_;simp only [tO, Nat.reduceAdd])|refine rE ?_|(refine rO goodFF rfl ?_;intro _ hu_ K_ hK_;go_simp;(try rw [wI _]);(try rw [wU _]);refine hK_ _ ?_;clear hK_ K_ hu_;simp only [sS, sN])|(refine rP rfl ?_;simp only [sS, sN]))
  (refine reach_callR rfl (by first | rfl | simp [Region.wanted, yielded, TA_get, *]) rfl Try.func45 (by kernel_rfl) rfl (by simp [Act.eval, *]; try rfl) (hone) ?_)
  rintro _ S1 w1 hv1 ⟨rfl, e1, e2⟩
  subst S1 w1
  simp only [stO_some]
  repeat (first|refine rA ?_|refine rB ?_|refine rC ?_|refine rD ?_|(refine rR ?_;simp only [tO, Nat.reduceAdd])|refine rE ?_|(refine rO goodFF rfl ?_;intro _ hu_ K_ hK_;go_simp;(try rw [wI _]);(try rw [wU _]);refine hK_ _ ?_;clear hK_ K_ hu_;simp only [sS, sN])|(refine rP rfl ?_;simp only [sS, sN]))
  (refine reach_cond (t := false) (by simp [Act.eval, hmI]) ?_; simp only [if_true, if_false, reduceIte, Bool.false_eq_true])
  repeat (first|refine rA ?_|refine rB ?_|refine rC ?_|refine rD ?_|(refine rR ?_;simp only [tO, Nat.reduceAdd])|refine rE ?_|(refine rO goodFF rfl ?_;intro _ hu_ K_ hK_;go_simp;(try rw [wI _]);(try rw [wU _]);refine hK_ _ ?_;clear hK_ K_ hu_;simp only [sS, sN])|(refine rP rfl ?_;simp only [sS, sN]))
  (refine reach_callR rfl (by first | rfl | simp [Region.wanted, yielded, TA_get, *]) rfl Try.func46 (by kernel_rfl) rfl (by simp [Act.eval, *]; try rfl) (hfirst) ?_)
  rintro _ S1 v1 hv1 ⟨rfl, e1, hE1⟩
  subst S1
  simp only [stO_some]
  repeat (first|refine rA ?_|refine rB ?_|refine rC ?_|refine rD ?_|(refine rR ?_;simp only [tO, Nat.reduceAdd])|refine rE ?_|(refine rO goodFF rfl ?_;intro _ hu_ K_ hK_;go_simp;(try rw [wI _]);(try rw [wU _]);refine hK_ _ ?_;clear hK_ K_ hu_;simp only [sS, sN])|(refine rP rfl ?_;simp only [sS, sN]))
  refine reach_alloc goodFF rfl rfl (by kernel_rfl) (.agg (tenP 0)) rfl (by rw [tenP_zero]; kernel_rfl) fun v2 hE2 hr2 hs2 => ?_
  simp only [stO_some]
  repeat (first|refine rA ?_|refine rB ?_|refine rC ?_|refine rD ?_|(refine rR ?_;simp only [tO, Nat.reduceAdd])|refine rE ?_|(refine rO goodFF rfl ?_;intro _ hu_ K_ hK_;go_simp;(try rw [wI _]);(try rw [wU _]);refine hK_ _ ?_;clear hK_ K_ hu_;simp only [sS, sN])|(refine rP rfl ?_;simp only [sS, sN]))
  refine reach_storeRow goodFF rfl rfl (by kernel_rfl) (x := .tmp 6) (y := .tmp 29) (g := v1.heap.size) (c := ten kn) rfl (by simp) (by simp) hr2 (by rw [ten_size]; kernel_rfl) (by rw [ten_size]; simp [Value.cells, tenP]) (ten_one _) fun v3 hW3 => ?_
  simp only [stO_none]
  repeat (first|refine rA ?_|refine rB ?_|refine rC ?_|refine rD ?_|(refine rR ?_;simp only [tO, Nat.reduceAdd])|refine rE ?_|(refine rO goodFF rfl ?_;intro _ hu_ K_ hK_;go_simp;(try rw [wI _]);(try rw [wU _]);refine hK_ _ ?_;clear hK_ K_ hu_;simp only [sS, sN])|(refine rP rfl ?_;simp only [sS, sN]))
  (refine reach_cond (t := true) (by simp [Act.eval]) ?_; simp only [if_true, if_false, reduceIte, Bool.false_eq_true])
  repeat (first|refine rA ?_|refine rB ?_|refine rC ?_|refine rD ?_|(refine rR ?_;simp only [tO, Nat.reduceAdd])|refine rE ?_|(refine rO goodFF rfl ?_;intro _ hu_ K_ hK_;go_simp;(try rw [wI _]);(try rw [wU _]);refine hK_ _ ?_;clear hK_ K_ hu_;simp only [sS, sN])|(refine rP rfl ?_;simp only [sS, sN]))
  refine reach_ret fun todo => ?_
  refine ret _ _ _ v3 (.tuple #[.slice none 0 0, .int .i64 2]) ?_ ⟨rfl, rfl, hE1.trans _ _ _ ⟨?_, fun b hb => ?_, ?_, ?_⟩⟩
  · simp [results, Try.results38]
  · rw [hW3.size]; exact hE2.size
  · rw [hW3.other b (by omega)]; exact hE2.block b hb
  · rw [hW3.os]; exact hE2.os
  · rw [hW3.output]; exact hE2.output
end Go.Proofs.Ytpiefebngnlfoaa

/-
  mosaicref.Mend, for every list of fourteen.
-/
set_option linter.unusedVariables false
set_option linter.unusedSimpArgs false
namespace Go.Proofs.Ytpiefebngnlfoaa
open Go.RowKit Go.Conc Go.Vw

/-- A list of fourteen pieces, empty ones wherever they lie. -/
structure PLE (v : World) (BL ol : Nat) (q : Nat → Option Addr) (ln cp : Nat → Nat) (y : Nat → Nat → Nat) : Prop where
  at_ : ∀ k, k < 14 → v.cell? ⟨BL, ol + k, none⟩ = some (.slice (q k) (ln k) (cp k))
  sl : ∀ k, k < 14 → SliceE v (q k) (ln k) (cp k) (y k)
/-- How many are there. -/
def cntR (q : Nat → Option Addr) : Nat → Nat
  | 0 => 0
  | i + 1 => cntR q i + if (q i).isSome = true then 1 else 0
theorem cntR_le (q : Nat → Option Addr) (i : Nat) : cntR q i ≤ i := by
  induction i with
  | zero => exact Nat.le_refl _
  | succ i ih =>
    unfold cntR
    split <;> omega
theorem ftC_cntR (q : Nat → Option Addr) (i : Nat) : (ftC q i).1 = min 10 (cntR q i) := by
  induction i with
  | zero => rfl
  | succ i ih =>
    unfold ftC cntR
    by_cases h : (q i).isSome = true
    · by_cases h10 : (ftC q i).1 < 10
      · rw [if_pos ⟨h, h10⟩, if_pos h]
        show (ftC q i).1 + 1 = _
        omega
      · rw [if_neg (fun e => h10 e.2), if_pos h]
        omega
    · rw [if_neg (fun e => h e.1), if_neg h]
      exact ih
theorem ftC_skip {q : Nat → Option Addr} {i : Nat} (h : (q i).isSome = false ∨ ¬ (ftC q i).1 < 10) : ftC q (i + 1) = ftC q i := by
  conv => lhs; unfold ftC
  rw [if_neg]
  rintro ⟨h1, h2⟩
  rcases h with h | h
  · rw [h1] at h; cases h
  · exact h h2
theorem ftC_take {q : Nat → Option Addr} {i : Nat} (h : (q i).isSome = true) (h10 : (ftC q i).1 < 10) : ftC q (i + 1) = ((ftC q i).1 + 1, fun j => if j = (ftC q i).1 then i else (ftC q i).2 j) := by
  conv => lhs; unfold ftC
  rw [if_pos ⟨h, h10⟩]
/-- The first ten so far. -/
structure RMI (v : World) (q : Nat → Option Addr) (ln cp : Nat → Nat) (k : Nat) (av rv : Value) (w : World) : Prop where
  ext : Ext v w
  at_ : w.ownsRow v.heap.size 3 1 av (ftC q k).1 ((List.range (ftC q k).1).map fun j => .int .i64 (((ftC q k).2 j : Nat) : Int))
  rows : w.ownsRow v.heap.size 25 1 rv (ftC q k).1 ((List.range (ftC q k).1).map fun j => .slice (q ((ftC q k).2 j)) (ln ((ftC q k).2 j)) (cp ((ftC q k).2 j)))
theorem RMI.start (v : World) (q : Nat → Option Addr) (ln cp : Nat → Nat) : RMI v q ln cp 0 (.slice none 0 0) (.slice none 0 0) v := ⟨.refl v, World.ownsRow_nil _ _ _ _, World.ownsRow_nil _ _ _ _⟩
theorem RMI.skip {v w : World} {q : Nat → Option Addr} {ln cp : Nat → Nat} {k : Nat} {av rv : Value} (h : RMI v q ln cp k av rv w) (hs : (q k).isSome = false ∨ ¬ (ftC q k).1 < 10) : RMI v q ln cp (k + 1) av rv w := by
  obtain ⟨h1, h2, h3⟩ := h
  rw [← ftC_skip hs] at h2 h3
  exact ⟨h1, h2, h3⟩
theorem RMI.step {v w w2 w3 w4 w5 : World} {q : Nat → Option Addr} {ln cp : Nat → Nat} {k : Nat} {av rv av' rv' : Value} (h : RMI v q ln cp k av rv w) (hq : (q k).isSome = true) (h10 : (ftC q k).1 < 10) (hE : Ext w w2) (hg : Gr w2 w3 av.ownBlock) (ha : w3.ownsRow v.heap.size 3 1 av' ((ftC q k).1 + 1) (((List.range (ftC q k).1).map fun j => .int .i64 (((ftC q k).2 j : Nat) : Int)) ++ [.int .i64 ((k : Nat) : Int)]))
    (hE3 : Ext w3 w4) (hg4 : Gr w4 w5 rv.ownBlock) (hr : w5.ownsRow v.heap.size 25 1 rv' ((ftC q k).1 + 1) (((List.range (ftC q k).1).map fun j => .slice (q ((ftC q k).2 j)) (ln ((ftC q k).2 j)) (cp ((ftC q k).2 j))) ++ [.slice (q k) (ln k) (cp k)])) :
    RMI v q ln cp (k + 1) av' rv' w5 := by
  have gw : Gr w w2 none := ⟨hE.os, hE.output, hE.size, fun b hb _ => hE.block b hb⟩
  have gw3 : Gr w3 w4 none := ⟨hE3.os, hE3.output, hE3.size, fun b hb _ => hE3.block b hb⟩
  have a2 := own_gr h.at_ gw (by simp)
  have r2 := own_gr h.rows gw (by simp)
  have r3 := own_gr r2 hg (own_ne a2 r2 (by decide))
  have r4 := own_gr r3 gw3 (by simp)
  have a4 := own_gr ha gw3 (by simp)
  have e := ftC_take hq h10
  refine ⟨?_, ?_, ?_⟩
  · exact Gr.over ((Gr.over (h.ext.trans _ _ _ hE) hg fun b hb => own_base a2 hb).trans _ _ _ hE3) hg4 fun b hb => own_base r4 hb
  · rw [e]
    simp only
    rw [List.range_succ, List.map_append, List.map_congr_left (g := fun j => Value.int .i64 (((ftC q k).2 j : Nat) : Int))]
    · simpa using own_gr a4 hg4 (own_ne r4 a4 (by decide))
    · intro j hj
      have : j ≠ (ftC q k).1 := by have := List.mem_range.1 hj; omega
      simp [this]
  · rw [e]
    simp only
    rw [List.range_succ, List.map_append, List.map_congr_left (g := fun j => Value.slice (q ((ftC q k).2 j)) (ln ((ftC q k).2 j)) (cp ((ftC q k).2 j)))]
    · simpa using hr
    · intro j hj
      have : j ≠ (ftC q k).1 := by have := List.mem_range.1 hj; omega
      simp [this]
/-- What the reference's Mend answers. -/
def RefM (v : World) (q : Nat → Option Addr) (ln : Nat → Nat) (y : Nat → Nat → Nat) (x : Value) (e : Nat) (v' : World) : Prop :=
  (¬ (okL q ln 14 = true ∧ (anyB q 14 = true → lastL q ln 14 ≤ 400)) ∧ x = .slice none 0 0 ∧ e = 1) ∨ (okL q ln 14 = true ∧ (anyB q 14 = true → lastL q ln 14 ≤ 400) ∧
    ((cntR q 14 < 10 ∧ x = .slice none 0 0 ∧ e = 2) ∨ (10 ≤ cntR q 14 ∧ e = 0 ∧ RefP v x (lastL q ln 14) (fun j c => Fld.comb (Fld.wgt (ftC q 14).2 j) (fun i => y ((ftC q 14).2 i)) 10 c) v')))
structure RmF (f : Nat → Value) (BL ol cl : Nat) (av rv : Value) (q : Nat → Option Addr) (ln : Nat → Nat) (k : Nat) : Prop where
  g0 : f 0 = .slice (some ⟨BL, ol, none⟩) 14 cl
  g4 : f 4 = av
  g5 : f 5 = rv
  g6 : f 6 = .int .i64 ((cntR q k : Nat) : Int)
  g7 : f 7 = .int .i64 (if anyB q k = true then ((lastL q ln k : Nat) : Int) else -1)
  g8 : f 8 = .int .i64 (k : Nat)
theorem RMI.done {v w : World} {BL ol : Nat} {q : Nat → Option Addr} {ln cp : Nat → Nat} {y : Nat → Nat → Nat} {av rv : Value} (h : RMI v q ln cp 14 av rv w) (hP : PLE v BL ol q ln cp y) (h10 : (ftC q 14).1 = 10) (hok : okL q ln 14 = true) : ∃ AB ca BR cr, av = .slice (some ⟨AB, 0, none⟩) 10 ca ∧ rv = .slice (some ⟨BR, 0, none⟩) 10 cr ∧ SolIn w AB 0 BR 0 (lastL q ln 14) (ftC q 14).2 (fun j => q ((ftC q 14).2 j)) (fun j => cp ((ftC q 14).2 j)) (fun j => y ((ftC q 14).2 j)) := by
  have ha := h.at_
  have hr := h.rows
  have hkn := ftC_kn q 14
  rw [h10] at ha hr hkn
  obtain ⟨AB, ca, cur, q1, q2, q3, q4, q5, q6⟩ := own_some ha (.inl (by omega))
  obtain ⟨BR, cr, cur', r1, r2, r3, r4, r5, r6⟩ := own_some hr (.inl (by omega))
  refine ⟨AB, ca, BR, cr, q1, r1, fun i hi => ?_, fun i hi => ?_, fun i hi => ?_⟩
  · rw [Nat.zero_add, cell_of_row _ AB i _ _ _ q3, q6 i hi]
    simp [hi]
  · rw [Nat.zero_add, cell_of_row _ BR i _ _ _ r3, r6 i hi]
    have := okL_all 14 hok _ (hkn i hi).1 (hkn i hi).2.1
    simp [hi, this]
  · have := okL_all 14 hok _ (hkn i hi).1 (hkn i hi).2.1
    rw [← this]
    exact (hP.sl _ (hkn i hi).1).ext h.ext
end Go.Proofs.Ytpiefebngnlfoaa
