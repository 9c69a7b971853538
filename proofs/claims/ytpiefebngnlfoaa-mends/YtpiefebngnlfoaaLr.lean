/-
  mosaicref.Solved: all columns.
-/
import Derived.Test.YtpiefebngnlfoaaLq
set_option linter.unusedVariables false
set_option linter.unusedSimpArgs false
namespace Go.Proofs.Ytpiefebngnlfoaa
open Go.RowKit Go.Conc Go.Vw

/-- Multiplied so far. -/
def scP (M : Nat → Nat → Nat) (c fv j i k : Nat) : Nat := if i = c ∧ k < j then Fld.mul (M c k) fv else M i k
/-- Taken away so far, in row i. -/
def elP (M : Nat → Nat → Nat) (c i gv j a k : Nat) : Nat := if a = i ∧ k < j then M i k ^^^ Fld.mul gv (M c k) else M a k
/-- Rows that are done. -/
def elQ (M : Nat → Nat → Nat) (c i a k : Nat) : Nat := if a < i ∧ a ≠ c then M a k ^^^ Fld.mul (M a c) (M c k) else M a k
theorem scP_step (M : Nat → Nat → Nat) (c fv j i k : Nat) : (if i = c then (fun k => if k = j then Fld.mul (scP M c fv j c j) fv else scP M c fv j c k) else scP M c fv j i) k = scP M c fv (j + 1) i k := by
  by_cases e : i = c
  · subst e
    rw [if_pos rfl]
    by_cases e2 : k = j
    · subst e2
      simp [scP]
    · simp only [if_neg e2, scP, true_and, show k < j + 1 ↔ k < j by omega]
  · rw [if_neg e]
    simp [scP, e]
theorem elP_step (M : Nat → Nat → Nat) (c i gv j a k : Nat) (hci : c ≠ i) : (if a = i then (fun k => if k = j then elP M c i gv j i j ^^^ Fld.mul gv (elP M c i gv j c j) else elP M c i gv j i k) else elP M c i gv j a) k = elP M c i gv (j + 1) a k := by
  by_cases e : a = i
  · subst e
    rw [if_pos rfl]
    by_cases e2 : k = j
    · subst e2
      simp [elP, hci]
    · simp only [if_neg e2, elP, true_and, show k < j + 1 ↔ k < j by omega]
  · rw [if_neg e]
    simp [elP, e]
theorem elP_row (M : Nat → Nat → Nat) (c i n a k : Nat) (hci : i ≠ c) (hk : k < n) : elP (elQ M c i) c i (elQ M c i i c) n a k = elQ M c (i + 1) a k := by
  by_cases e : a = i
  · subst e
    simp [elP, elQ, hk, hci]
  · have h1 : a < i + 1 ↔ a < i := by omega
    simp only [elP, elQ, h1, e, false_and, if_false]
theorem elQ_skip (M : Nat → Nat → Nat) (hM : ∀ a k, M a k < 256) (c i a k : Nat) (h : i = c ∨ elQ M c i i c = 0) : elQ M c i a k = elQ M c (i + 1) a k := by
  by_cases e : a = i
  · subst e
    rcases h with rfl | h
    · simp [elQ]
    · have h0 : M a c = 0 := by simpa [elQ] using h
      simp [elQ, h0, Fld.zero_mul]
  · have h1 : a < i + 1 ↔ a < i := by omega
    simp only [elQ, h1]
theorem elQ_lt {M : Nat → Nat → Nat} (hM : ∀ a k, M a k < 256) (c i a k : Nat) : elQ M c i a k < 256 := by
  unfold elQ
  split
  · exact Fld.xor_lt (hM _ _) (Fld.mul_lt (hM _ _) _)
  · exact hM _ _
theorem elQ_el (M : Nat → Nat → Nat) (c a k : Nat) (ha : a < 10) : elQ M c 10 a k = Fld.el M c a k := by
  unfold elQ Fld.el
  by_cases e : a = c
  · subst e; simp
  · simp [e, ha]

set_option maxRecDepth 100000 in
set_option maxHeartbeats 8000000 in
theorem sol_scale {S : Nat → Prop} {v w : World} {f : Nat → Value} {Stop : Goroutine → (Nat → Prop) → World → Prop} {cs : List Frame} {k0 : List Item} (g cap wd c fv : Nat) (RB : Nat → Nat) (M1 : Nat → Nat → Nat) (hwd : wd ≤ 400) (hlt : c < 10) (hM : ∀ i k, M1 i k < 256) (hfl : fv < 256) (hF : SolG f g cap wd c) (g13 : f 13 = .int .i64 (fv : Nat)) (g14 : f 14 = .int .i64 0) (hG1 : GS v g (10 + wd) RB M1 w)
    (next : ∀ w' f', GS v g (10 + wd) RB (Fld.sc M1 c fv) w' → SolG f' g cap wd c → Vw.Reach Try.prog Stop (G ((base 44).at ⟨TA 187 f', []⟩ k0) cs) S w') :
    Vw.Reach Try.prog Stop (G ((base 44).at ⟨TA 187 f, []⟩ (.code (loopAt 5 (Try.f44.body.getD .skip)) :: .inBlock 10 :: k0)) cs) S w := by
  have e : loopAt 5 (Try.f44.body.getD .skip) = .loop _ := rfl
  rw [e]
  clear e
  refine reach_rounds (fun d f' S' w' => ∃ j, d = 10 + wd - j ∧ j ≤ 10 + wd ∧ S' = S ∧ GS v g (10 + wd) RB (scP M1 c fv j) w' ∧ SolG f' g cap wd c ∧ f' 13 = .int .i64 (fv : Nat) ∧ f' 14 = .int .i64 (j : Nat)) (10 + wd) ⟨0, by omega, by omega, rfl, hG1.congr fun j k _ _ => by simp [scP], hF, g13, g14⟩ ?_
  clear hG1 hF g13 g14 f w
  rintro d f S' w ⟨j, rfl, hj, eS, hG1, hF1, g13, g14⟩ nxt3
  subst S'
  have g5 := hF1.g5
  repeat (first|refine rA ?_|refine rB ?_|refine rC ?_|refine rD ?_|(refine rR ?_;simp only [tO, Nat.reduceAdd])|refine rE ?_|(refine rO goodFF rfl ?_;intro _ hu_ K_ hK_;go_simp;(try rw [wI _]);(try rw [wU _]);refine hK_ _ ?_;clear hK_ K_ hu_;simp only [sS, sN])|(refine rP rfl ?_;simp only [sS, sN]))
  by_cases hlj : j < 10 + wd
  · have hjI : (j : Int) < 10 + (wd : Int) := by omega
    (refine reach_cond (t := true) (by simp [Act.eval, hjI]) ?_; simp only [if_true, if_false, reduceIte, Bool.false_eq_true])
    repeat (first|refine rA ?_|refine rB ?_|refine rC ?_|refine rD ?_|(refine rR ?_;simp only [tO, Nat.reduceAdd])|refine rE ?_|(refine rO goodFF rfl ?_;intro _ hu_ K_ hK_;go_simp;(try rw [wI _]);(try rw [wU _]);refine hK_ _ ?_;clear hK_ K_ hu_;simp only [sS, sN])|(refine rP rfl ?_;simp only [sS, sN]))
    refine sol_r27 g cap wd c fv j RB (scP M1 c fv j) hlt hwd hlj (by simp only [scP, Nat.lt_irrefl, and_false, if_false]; exact hM c j) hfl ⟨by simp [g5], by simp [hF1.g6], by simp [hF1.g11]⟩ (by simp [g13]) (by simp [g14]) hG1 fun w2 f2 hG2 hF2 h13 h14 => ?_
    repeat (first|refine rA ?_|refine rB ?_|refine rC ?_|refine rD ?_|(refine rR ?_;simp only [tO, Nat.reduceAdd])|refine rE ?_|(refine rO goodFF rfl ?_;intro _ hu_ K_ hK_;go_simp;(try rw [wI _]);(try rw [wU _]);refine hK_ _ ?_;clear hK_ K_ hu_;simp only [sS, sN])|(refine rP rfl ?_;simp only [sS, sN]))
    refine nxt3 _ _ _ (10 + wd - (j + 1)) (by omega) ⟨j + 1, rfl, by omega, rfl, hG2.congr fun a k _ _ => scP_step M1 c fv j a k, ⟨by simp [hF2.g5], by simp [hF2.g6], by simp [hF2.g11]⟩, by simp [h13], by simp⟩
  · obtain rfl : j = 10 + wd := by omega
    have hnI : ¬ ((10 + wd : Nat) : Int) < 10 + (wd : Int) := by omega
    (refine reach_cond (t := false) (by simp [Act.eval, hnI]) ?_; simp only [if_true, if_false, reduceIte, Bool.false_eq_true])
    refine reach_exit rfl ?_
    refine next _ _ (hG1.congr fun a k _ hk => ?_) ⟨by simp [g5], by simp [hF1.g6], by simp [hF1.g11]⟩
    unfold scP Fld.sc
    by_cases e : a = c <;> simp [e, hk]

set_option maxRecDepth 100000 in
set_option maxHeartbeats 8000000 in
theorem sol_row {S : Nat → Prop} {v w : World} {f : Nat → Value} {Stop : Goroutine → (Nat → Prop) → World → Prop} {cs : List Frame} {k0 : List Item} (g cap wd c i gv : Nat) (RB : Nat → Nat) (M2 : Nat → Nat → Nat) (hwd : wd ≤ 400) (hlt : c < 10) (hli : i < 10) (hic : i ≠ c) (hM : ∀ i k, M2 i k < 256) (hgl : gv < 256) (hF : SolG f g cap wd c) (g15 : f 15 = .int .i64 (i : Nat)) (g16 : f 16 = .int .i64 (gv : Nat)) (g17 : f 17 = .int .i64 0) (hG2 : GS v g (10 + wd) RB M2 w)
    (next : ∀ w' f', GS v g (10 + wd) RB (elP M2 c i gv (10 + wd)) w' → SolG f' g cap wd c → f' 15 = .int .i64 (i : Nat) → Vw.Reach Try.prog Stop (G ((base 44).at ⟨TA 187 f', []⟩ k0) cs) S w') :
    Vw.Reach Try.prog Stop (G ((base 44).at ⟨TA 187 f, []⟩ (.code (loopAt 7 (Try.f44.body.getD .skip)) :: .inBlock 14 :: k0)) cs) S w := by
  have e : loopAt 7 (Try.f44.body.getD .skip) = .loop _ := rfl
  rw [e]
  clear e
  refine reach_rounds (fun d f' S' w' => ∃ j, d = 10 + wd - j ∧ j ≤ 10 + wd ∧ S' = S ∧ GS v g (10 + wd) RB (elP M2 c i gv j) w' ∧ SolG f' g cap wd c ∧ f' 15 = .int .i64 (i : Nat) ∧ f' 16 = .int .i64 (gv : Nat) ∧ f' 17 = .int .i64 (j : Nat)) (10 + wd) ⟨0, by omega, by omega, rfl, hG2.congr fun a k _ _ => by simp [elP], hF, g15, g16, g17⟩ ?_
  clear hG2 hF g15 g16 g17 f w
  rintro d f S' w ⟨j, rfl, hj, eS, hG3, hF3, g15, g16, g17⟩ nxt5
  subst S'
  have g5 := hF3.g5
  repeat (first|refine rA ?_|refine rB ?_|refine rC ?_|refine rD ?_|(refine rR ?_;simp only [tO, Nat.reduceAdd])|refine rE ?_|(refine rO goodFF rfl ?_;intro _ hu_ K_ hK_;go_simp;(try rw [wI _]);(try rw [wU _]);refine hK_ _ ?_;clear hK_ K_ hu_;simp only [sS, sN])|(refine rP rfl ?_;simp only [sS, sN]))
  by_cases hlj : j < 10 + wd
  · have hjI : (j : Int) < 10 + (wd : Int) := by omega
    have hl1 : elP M2 c i gv j c j < 256 := by
      simp only [elP, Nat.lt_irrefl, and_false, if_false]
      exact hM c j
    have hl2 : elP M2 c i gv j i j < 256 := by
      simp only [elP, Nat.lt_irrefl, and_false, if_false]
      exact hM i j
    (refine reach_cond (t := true) (by simp [Act.eval, hjI]) ?_; simp only [if_true, if_false, reduceIte, Bool.false_eq_true])
    repeat (first|refine rA ?_|refine rB ?_|refine rC ?_|refine rD ?_|(refine rR ?_;simp only [tO, Nat.reduceAdd])|refine rE ?_|(refine rO goodFF rfl ?_;intro _ hu_ K_ hK_;go_simp;(try rw [wI _]);(try rw [wU _]);refine hK_ _ ?_;clear hK_ K_ hu_;simp only [sS, sN])|(refine rP rfl ?_;simp only [sS, sN]))
    refine sol_r36 g cap wd c i gv j RB (elP M2 c i gv j) hlt hli hwd hlj hl1 hl2 hgl ⟨by simp [g5], by simp [hF3.g6], by simp [hF3.g11]⟩ (by simp [g15]) (by simp [g16]) (by simp [g17]) hG3 fun w2 f2 hG4 hF4 h15 h16 h17 => ?_
    repeat (first|refine rA ?_|refine rB ?_|refine rC ?_|refine rD ?_|(refine rR ?_;simp only [tO, Nat.reduceAdd])|refine rE ?_|(refine rO goodFF rfl ?_;intro _ hu_ K_ hK_;go_simp;(try rw [wI _]);(try rw [wU _]);refine hK_ _ ?_;clear hK_ K_ hu_;simp only [sS, sN])|(refine rP rfl ?_;simp only [sS, sN]))
    refine nxt5 _ _ _ (10 + wd - (j + 1)) (by omega) ⟨j + 1, rfl, by omega, rfl, hG4.congr fun a k _ _ => elP_step M2 c i gv j a k (Ne.symm hic), ⟨by simp [hF4.g5], by simp [hF4.g6], by simp [hF4.g11]⟩, by simp [h15], by simp [h16], by simp⟩
  · obtain rfl : j = 10 + wd := by omega
    have hnI : ¬ ((10 + wd : Nat) : Int) < 10 + (wd : Int) := by omega
    (refine reach_cond (t := false) (by simp [Act.eval, hnI]) ?_; simp only [if_true, if_false, reduceIte, Bool.false_eq_true])
    refine reach_exit rfl ?_
    exact next _ _ hG3 ⟨by simp [g5], by simp [hF3.g6], by simp [hF3.g11]⟩ (by simp [g15])

set_option maxRecDepth 100000 in
set_option maxHeartbeats 8000000 in
theorem sol_elim {S : Nat → Prop} {v w : World} {f : Nat → Value} {Stop : Goroutine → (Nat → Prop) → World → Prop} {cs : List Frame} {k0 : List Item} (g cap wd c : Nat) (RB : Nat → Nat) (M2 : Nat → Nat → Nat) (hwd : wd ≤ 400) (hlt : c < 10) (hM : ∀ i k, M2 i k < 256) (hF : SolG f g cap wd c) (g15 : f 15 = .int .i64 0) (hG2 : GS v g (10 + wd) RB M2 w)
    (next : ∀ w' f', GS v g (10 + wd) RB (Fld.el M2 c) w' → SolG f' g cap wd c → Vw.Reach Try.prog Stop (G ((base 44).at ⟨TA 187 f', []⟩ k0) cs) S w') :
    Vw.Reach Try.prog Stop (G ((base 44).at ⟨TA 187 f, []⟩ (.code (loopAt 6 (Try.f44.body.getD .skip)) :: .inBlock 12 :: k0)) cs) S w := by
  have e : loopAt 6 (Try.f44.body.getD .skip) = .loop _ := rfl
  rw [e]
  clear e
  refine reach_rounds (fun d f' S' w' => ∃ i, d = 10 - i ∧ i ≤ 10 ∧ S' = S ∧ GS v g (10 + wd) RB (elQ M2 c i) w' ∧ SolG f' g cap wd c ∧ f' 15 = .int .i64 (i : Nat)) 10 ⟨0, by omega, by omega, rfl, hG2.congr fun a k _ _ => by simp [elQ], hF, g15⟩ ?_
  clear hF g15 hG2 f w
  rintro d f S' w1 ⟨i, rfl, hi, eS, hG2, ⟨g5, g6, g11⟩, g15⟩ nxt4
  subst S'
  repeat (first|refine rA ?_|refine rB ?_|refine rC ?_|refine rD ?_|(refine rR ?_;simp only [tO, Nat.reduceAdd])|refine rE ?_|(refine rO goodFF rfl ?_;intro _ hu_ K_ hK_;go_simp;(try rw [wI _]);(try rw [wU _]);refine hK_ _ ?_;clear hK_ K_ hu_;simp only [sS, sN])|(refine rP rfl ?_;simp only [sS, sN]))
  by_cases hli : i < 10
  · have hiI : (i : Int) < 10 := by omega
    have hcn : (c : Int) < 10 + (wd : Int) := by omega
    (refine reach_cond (t := true) (by simp [Act.eval, hiI]) ?_; simp only [if_true, if_false, reduceIte, Bool.false_eq_true])
    have hri := hG2.rowAt hli
    have hni := hG2.num hli (show c < 10 + wd by omega)
    have hgl := elQ_lt hM c i i c
    by_cases hic : i = c
    · subst hic
      repeat (first|refine rA ?_|refine rB ?_|refine rC ?_|refine rD ?_|(refine rR ?_;simp only [tO, Nat.reduceAdd])|refine rE ?_|(refine rO goodFF rfl ?_;intro _ hu_ K_ hK_;(have hc := (Ext.twin hu_).cell hri; have hc' := (Ext.twin hu_).cell hni);go_simp;(try rw [wI _]);(try rw [wU _]);refine hK_ _ ?_;clear hK_ K_ hu_;simp only [sS, sN])|(refine rP rfl ?_;simp only [sS, sN]))
      (refine reach_cond (t := true) (by simp [Act.eval]) ?_; simp only [if_true, if_false, reduceIte, Bool.false_eq_true])
      refine reach_exit rfl ?_
      repeat (first|refine rA ?_|refine rB ?_|refine rC ?_|refine rD ?_|(refine rR ?_;simp only [tO, Nat.reduceAdd])|refine rE ?_|(refine rO goodFF rfl ?_;intro _ hu_ K_ hK_;go_simp;(try rw [wI _]);(try rw [wU _]);refine hK_ _ ?_;clear hK_ K_ hu_;simp only [sS, sN])|(refine rP rfl ?_;simp only [sS, sN]))
      refine nxt4 _ _ _ (10 - (i + 1)) (by omega) ⟨i + 1, rfl, by omega, rfl, hG2.congr fun a k _ _ => elQ_skip M2 hM i i a k (.inl rfl), ⟨by simp [g5], by simp [g6], by simp [g11]⟩, by simp⟩
    · have hicI : ¬ (i : Int) = (c : Int) := by omega
      by_cases hg0 : elQ M2 c i i c = 0
      · rw [hg0] at hni
        repeat (first|refine rA ?_|refine rB ?_|refine rC ?_|refine rD ?_|(refine rR ?_;simp only [tO, Nat.reduceAdd])|refine rE ?_|(refine rO goodFF rfl ?_;intro _ hu_ K_ hK_;(have hc := (Ext.twin hu_).cell hri; have hc' := (Ext.twin hu_).cell hni);go_simp;(try rw [wI _]);(try rw [wU _]);refine hK_ _ ?_;clear hK_ K_ hu_;simp only [sS, sN])|(refine rP rfl ?_;simp only [sS, sN]))
        (refine reach_cond (t := true) (by simp [Act.eval, hicI, hic]) ?_; simp only [if_true, if_false, reduceIte, Bool.false_eq_true])
        refine reach_exit rfl ?_
        repeat (first|refine rA ?_|refine rB ?_|refine rC ?_|refine rD ?_|(refine rR ?_;simp only [tO, Nat.reduceAdd])|refine rE ?_|(refine rO goodFF rfl ?_;intro _ hu_ K_ hK_;go_simp;(try rw [wI _]);(try rw [wU _]);refine hK_ _ ?_;clear hK_ K_ hu_;simp only [sS, sN])|(refine rP rfl ?_;simp only [sS, sN]))
        refine nxt4 _ _ _ (10 - (i + 1)) (by omega) ⟨i + 1, rfl, by omega, rfl, hG2.congr fun a k _ _ => elQ_skip M2 hM c i a k (.inr hg0), ⟨by simp [g5], by simp [g6], by simp [g11]⟩, by simp⟩
      · have hg0I : ¬ ((elQ M2 c i i c : Nat) : Int) = 0 := by omega
        repeat (first|refine rA ?_|refine rB ?_|refine rC ?_|refine rD ?_|(refine rR ?_;simp only [tO, Nat.reduceAdd])|refine rE ?_|(refine rO goodFF rfl ?_;intro _ hu_ K_ hK_;(have hc := (Ext.twin hu_).cell hri; have hc' := (Ext.twin hu_).cell hni);go_simp;(try rw [wI _]);(try rw [wU _]);refine hK_ _ ?_;clear hK_ K_ hu_;simp only [sS, sN])|(refine rP rfl ?_;simp only [sS, sN]))
        (refine reach_cond (t := false) (by simp [Act.eval, hicI, hic, hg0I, hg0]) ?_; simp only [if_true, if_false, reduceIte, Bool.false_eq_true])
        repeat (first|refine rA ?_|refine rB ?_|refine rC ?_|refine rD ?_|(refine rR ?_;simp only [tO, Nat.reduceAdd])|refine rE ?_|(refine rO goodFF rfl ?_;intro _ hu_ K_ hK_;go_simp;(try rw [wI _]);(try rw [wU _]);refine hK_ _ ?_;clear hK_ K_ hu_;simp only [sS, sN])|(refine rP rfl ?_;simp only [sS, sN]))
        refine sol_row g cap wd c i (elQ M2 c i i c) RB (elQ M2 c i) hwd hlt hli hic (elQ_lt hM c i) hgl ⟨by simp [g5], by simp [g6], by simp [g11]⟩ (by simp [g15]) (by simp) (by simp) hG2 fun w2 f2 hG3 hF3 h15 => ?_
        repeat (first|refine rA ?_|refine rB ?_|refine rC ?_|refine rD ?_|(refine rR ?_;simp only [tO, Nat.reduceAdd])|refine rE ?_|(refine rO goodFF rfl ?_;intro _ hu_ K_ hK_;go_simp;(try rw [wI _]);(try rw [wU _]);refine hK_ _ ?_;clear hK_ K_ hu_;simp only [sS, sN])|(refine rP rfl ?_;simp only [sS, sN]))
        refine nxt4 _ _ _ (10 - (i + 1)) (by omega) ⟨i + 1, rfl, by omega, rfl, hG3.congr fun a k _ hk => elP_row M2 c i (10 + wd) a k hic hk, ⟨by simp [hF3.g5], by simp [hF3.g6], by simp [hF3.g11]⟩, by simp⟩
  · obtain rfl : i = 10 := by omega
    (refine reach_cond (t := false) (by simp [Act.eval, g15]) ?_; simp only [if_true, if_false, reduceIte, Bool.false_eq_true])
    refine reach_exit rfl ?_
    exact next _ _ (hG2.congr fun a k ha _ => elQ_el M2 c a k ha) ⟨by simp [g5], by simp [g6], by simp [g11]⟩

end Go.Proofs.Ytpiefebngnlfoaa
