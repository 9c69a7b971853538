/-
  mosaiclaw.book.looks: its walk.
-/
import Derived.Test.YtpiefebngnlfoaaLv
set_option linter.unusedVariables false
set_option linter.unusedSimpArgs false
namespace Go.Proofs.Ytpiefebngnlfoaa
open Go.RowKit Go.Conc Go.Vw

set_option maxRecDepth 100000 in
set_option maxHeartbeats 8000000 in
theorem look_b {S : Nat → Prop} {v : World} {f : Nat → Value} {Stop : Goroutine → (Nat → Prop) → World → Prop} {cs : List Frame} {k0 : List Item} {N OB nb nl k : Nat} {O : Nat → Prop} {bv lv : Value} (hB : Book N OB O nb nl bv lv v) (hnb : nb ≤ 100000) (hk : k < 4) (f0 : f 0 = .pointer (some ⟨OB, 0, none⟩)) (f3 : f 3 = .int .i64 (k : Nat)) (f4 : f 4 = .int .i64 0)
    (next : ∀ f' : Nat → Value, f' 0 = .pointer (some ⟨OB, 0, none⟩) → f' 3 = .int .i64 (k : Nat) → Vw.Reach Try.prog Stop (G ((base 19).at ⟨TA 214 f', []⟩ k0) cs) S v) :
    Vw.Reach Try.prog Stop (G ((base 19).at ⟨TA 214 f, []⟩ (.code (loopAt 1 (Try.f19.body.getD .skip)) :: .inBlock 2 :: k0)) cs) S v := by
  have e : loopAt 1 (Try.f19.body.getD .skip) = .loop _ := rfl
  rw [e]
  clear e
  have hc0 : v.cell? ⟨OB, 0, none⟩ = some bv := (cell_of_row _ OB 0 _ _ _ hB.row).trans rfl
  refine reach_rounds (fun d f' S' v' => ∃ i, d = nb - i ∧ i ≤ nb ∧ S' = S ∧ v' = v ∧ f' 0 = .pointer (some ⟨OB, 0, none⟩) ∧ f' 3 = .int .i64 (k : Nat) ∧ f' 4 = .int .i64 (i : Nat)) nb ⟨0, by omega, by omega, rfl, rfl, f0, f3, f4⟩ ?_
  clear f0 f3 f4 f
  rintro d f S' v' ⟨i, rfl, hi, eS, eV, g0, g3, g4⟩ nxt
  subst S' v'
  by_cases hlt : i < nb
  · have hiI : (i : Int) < (nb : Int) := by omega
    have hkI : (k : Int) < 4 := by omega
    obtain ⟨g, cb, E, p, len, cap, h1, h2, h3, h4, h5⟩ := hB.entB hlt hk
    rw [h1] at hc0
    repeat (first|refine rA ?_|refine rB ?_|refine rC ?_|refine rD ?_|(refine rR ?_;simp only [tO, Nat.reduceAdd])|refine rE ?_|(refine rO goodFF rfl ?_;intro _ hu_ K_ hK_;(have hc := (Ext.twin hu_).cell hc0);go_simp;(try rw [wI _]);(try rw [wU _]);refine hK_ _ ?_;clear hK_ K_ hu_;simp only [sS, sN])|(refine rP rfl ?_;simp only [sS, sN]))
    (refine reach_cond (t := true) (by simp [Act.eval, hlt]) ?_; simp only [if_true, if_false, reduceIte, Bool.false_eq_true])
    repeat (first|refine rA ?_|refine rB ?_|refine rC ?_|refine rD ?_|(refine rR ?_;simp only [tO, Nat.reduceAdd])|refine rE ?_|(refine rO goodFF rfl ?_;intro _ hu_ K_ hK_;go_simp;(try rw [wI _]);(try rw [wU _]);refine hK_ _ ?_;clear hK_ K_ hu_;simp only [sS, sN])|(refine rP rfl ?_;simp only [sS, sN]))
    refine reach_rounds (fun d f' S' v' => ∃ j, d = len - j ∧ j ≤ len ∧ S' = S ∧ v' = v ∧ f' 0 = .pointer (some ⟨OB, 0, none⟩) ∧ f' 3 = .int .i64 (k : Nat) ∧ f' 4 = .int .i64 (i : Nat) ∧ f' 5 = .int .i64 (j : Nat)) len ⟨0, by omega, by omega, rfl, rfl, by simp [g0], by simp [g3], by simp [g4], by simp⟩ ?_
    clear g0 g3 g4 f
    rintro d f S' v' ⟨j, rfl, hj, eS, eV, g0, g3, g4, g5⟩ nxt2
    subst S' v'
    repeat (first|refine rA ?_|refine rB ?_|refine rC ?_|refine rD ?_|(refine rR ?_;simp only [tO, Nat.reduceAdd])|refine rE ?_|(refine rO goodFF rfl ?_;intro _ hu_ K_ hK_;(have hc := (Ext.twin hu_).cell hc0; have hc' := (Ext.twin hu_).cell h2; have hc'' := (Ext.twin hu_).cell h3);go_simp;(try rw [wI _]);(try rw [wU _]);refine hK_ _ ?_;clear hK_ K_ hu_;simp only [sS, sN])|(refine rP rfl ?_;simp only [sS, sN]))
    by_cases hlj : j < len
    · have hjI : (j : Int) < (len : Int) := by omega
      obtain ⟨B, b1, b2⟩ := h5 j hlj
      subst b1
      (refine reach_cond (t := true) (by simp [Act.eval, hlj]) ?_; simp only [if_true, if_false, reduceIte, Bool.false_eq_true])
      repeat (first|refine rA ?_|refine rB ?_|refine rC ?_|refine rD ?_|(refine rR ?_;simp only [tO, Nat.reduceAdd])|refine rE ?_|(refine rO goodFF rfl ?_;intro _ hu_ K_ hK_;go_simp;(try rw [wI _]);(try rw [wU _]);refine hK_ _ ?_;clear hK_ K_ hu_;simp only [sS, sN])|(refine rP rfl ?_;simp only [sS, sN]))
      refine look_r10 OB g nb cb E len cap B i k j bv hlt hnb hk hlj h4 (by simp [g0]) (by simp [g3]) (by simp [g4]) (by simp [g5]) hc0 h2 h3 b2 fun f' e0 e3 e4 e5 e55 => ?_
      have q5 : f' 5 = .int .i64 (j : Nat) := by rw [e5]; simp [g5]
      repeat (first|refine rA ?_|refine rB ?_|refine rC ?_|refine rD ?_|(refine rR ?_;simp only [tO, Nat.reduceAdd])|refine rE ?_|(refine rO goodFF rfl ?_;intro _ hu_ K_ hK_;go_simp;(try rw [wI _]);(try rw [wU _]);refine hK_ _ ?_;clear hK_ K_ hu_;simp only [sS, sN])|(refine rP rfl ?_;simp only [sS, sN]))
      (refine reach_cond (t := false) (by simp [Act.eval, e55]) ?_; simp only [if_true, if_false, reduceIte, Bool.false_eq_true])
      repeat (first|refine rA ?_|refine rB ?_|refine rC ?_|refine rD ?_|(refine rR ?_;simp only [tO, Nat.reduceAdd])|refine rE ?_|(refine rO goodFF rfl ?_;intro _ hu_ K_ hK_;go_simp;(try rw [wI _]);(try rw [wU _]);refine hK_ _ ?_;clear hK_ K_ hu_;simp only [sS, sN])|(refine rP rfl ?_;simp only [sS, sN]))
      refine nxt2 _ _ _ (len - (j + 1)) (by omega) ⟨j + 1, rfl, by omega, rfl, rfl, by simp [e0, g0], by simp [e3, g3], by simp [e4, g4], by simp⟩
    · obtain rfl : j = len := by omega
      (refine reach_cond (t := false) (by simp [Act.eval]) ?_; simp only [if_true, if_false, reduceIte, Bool.false_eq_true])
      refine reach_exit rfl ?_
      repeat (first|refine rA ?_|refine rB ?_|refine rC ?_|refine rD ?_|(refine rR ?_;simp only [tO, Nat.reduceAdd])|refine rE ?_|(refine rO goodFF rfl ?_;intro _ hu_ K_ hK_;go_simp;(try rw [wI _]);(try rw [wU _]);refine hK_ _ ?_;clear hK_ K_ hu_;simp only [sS, sN])|(refine rP rfl ?_;simp only [sS, sN]))
      refine nxt _ _ _ (nb - (i + 1)) (by omega) ⟨i + 1, rfl, by omega, rfl, rfl, by simp [g0], by simp [g3], by simp⟩
  · obtain rfl : i = nb := by omega
    obtain ⟨pb, cb, hbv⟩ := hB.bvS
    rw [hbv] at hc0
    repeat (first|refine rA ?_|refine rB ?_|refine rC ?_|refine rD ?_|(refine rR ?_;simp only [tO, Nat.reduceAdd])|refine rE ?_|(refine rO goodFF rfl ?_;intro _ hu_ K_ hK_;(have hc := (Ext.twin hu_).cell hc0);go_simp;(try rw [wI _]);(try rw [wU _]);refine hK_ _ ?_;clear hK_ K_ hu_;simp only [sS, sN])|(refine rP rfl ?_;simp only [sS, sN]))
    (refine reach_cond (t := false) (by simp [Act.eval]) ?_; simp only [if_true, if_false, reduceIte, Bool.false_eq_true])
    refine reach_exit rfl ?_
    exact next _ (by simp [g0]) (by simp [g3])

set_option maxRecDepth 100000 in
set_option maxHeartbeats 8000000 in
theorem look_l {S : Nat → Prop} {v : World} {f : Nat → Value} {Stop : Goroutine → (Nat → Prop) → World → Prop} {cs : List Frame} {k0 : List Item} {N OB nb nl k : Nat} {O : Nat → Prop} {bv lv : Value} (hB : Book N OB O nb nl bv lv v) (hnl : nl ≤ 100000) (hk : k < 4) (f0 : f 0 = .pointer (some ⟨OB, 0, none⟩)) (f3 : f 3 = .int .i64 (k : Nat)) (f6 : f 6 = .int .i64 0)
    (next : ∀ f' : Nat → Value, f' 0 = .pointer (some ⟨OB, 0, none⟩) → f' 3 = .int .i64 (k : Nat) → Vw.Reach Try.prog Stop (G ((base 19).at ⟨TA 214 f', []⟩ k0) cs) S v) :
    Vw.Reach Try.prog Stop (G ((base 19).at ⟨TA 214 f, []⟩ (.code (loopAt 3 (Try.f19.body.getD .skip)) :: .inBlock 6 :: k0)) cs) S v := by
  have e : loopAt 3 (Try.f19.body.getD .skip) = .loop _ := rfl
  rw [e]
  clear e
  have hc0 : v.cell? ⟨OB, 1, none⟩ = some lv := (cell_of_row _ OB 1 _ _ _ hB.row).trans rfl
  refine reach_rounds (fun d f' S' v' => ∃ i, d = nl - i ∧ i ≤ nl ∧ S' = S ∧ v' = v ∧ f' 0 = .pointer (some ⟨OB, 0, none⟩) ∧ f' 3 = .int .i64 (k : Nat) ∧ f' 6 = .int .i64 (i : Nat)) nl ⟨0, by omega, by omega, rfl, rfl, f0, f3, f6⟩ ?_
  clear f0 f3 f6 f
  rintro d f S' v' ⟨i, rfl, hi, eS, eV, g0, g3, g6⟩ nxt
  subst S' v'
  by_cases hlt : i < nl
  · have hiI : (i : Int) < (nl : Int) := by omega
    have hkI : (k : Int) < 4 := by omega
    obtain ⟨g, cb, E, p, len, cap, h1, h2, h3, h4, h5⟩ := hB.entL hlt hk
    rw [h1] at hc0
    repeat (first|refine rA ?_|refine rB ?_|refine rC ?_|refine rD ?_|(refine rR ?_;simp only [tO, Nat.reduceAdd])|refine rE ?_|(refine rO goodFF rfl ?_;intro _ hu_ K_ hK_;(have hc := (Ext.twin hu_).cell hc0);go_simp;(try rw [wI _]);(try rw [wU _]);refine hK_ _ ?_;clear hK_ K_ hu_;simp only [sS, sN])|(refine rP rfl ?_;simp only [sS, sN]))
    (refine reach_cond (t := true) (by simp [Act.eval, hlt]) ?_; simp only [if_true, if_false, reduceIte, Bool.false_eq_true])
    repeat (first|refine rA ?_|refine rB ?_|refine rC ?_|refine rD ?_|(refine rR ?_;simp only [tO, Nat.reduceAdd])|refine rE ?_|(refine rO goodFF rfl ?_;intro _ hu_ K_ hK_;go_simp;(try rw [wI _]);(try rw [wU _]);refine hK_ _ ?_;clear hK_ K_ hu_;simp only [sS, sN])|(refine rP rfl ?_;simp only [sS, sN]))
    refine reach_rounds (fun d f' S' v' => ∃ j, d = len - j ∧ j ≤ len ∧ S' = S ∧ v' = v ∧ f' 0 = .pointer (some ⟨OB, 0, none⟩) ∧ f' 3 = .int .i64 (k : Nat) ∧ f' 6 = .int .i64 (i : Nat) ∧ f' 7 = .int .i64 (j : Nat)) len ⟨0, by omega, by omega, rfl, rfl, by simp [g0], by simp [g3], by simp [g6], by simp⟩ ?_
    clear g0 g3 g6 f
    rintro d f S' v' ⟨j, rfl, hj, eS, eV, g0, g3, g6, g7⟩ nxt2
    subst S' v'
    repeat (first|refine rA ?_|refine rB ?_|refine rC ?_|refine rD ?_|(refine rR ?_;simp only [tO, Nat.reduceAdd])|refine rE ?_|(refine rO goodFF rfl ?_;intro _ hu_ K_ hK_;(have hc := (Ext.twin hu_).cell hc0; have hc' := (Ext.twin hu_).cell h2; have hc'' := (Ext.twin hu_).cell h3);go_simp;(try rw [wI _]);(try rw [wU _]);refine hK_ _ ?_;clear hK_ K_ hu_;simp only [sS, sN])|(refine rP rfl ?_;simp only [sS, sN]))
    by_cases hlj : j < len
    · have hjI : (j : Int) < (len : Int) := by omega
      obtain ⟨B, M, c, b1, b2, b3⟩ := h5 j hlj
      subst b1
      (refine reach_cond (t := true) (by simp [Act.eval, hlj]) ?_; simp only [if_true, if_false, reduceIte, Bool.false_eq_true])
      repeat (first|refine rA ?_|refine rB ?_|refine rC ?_|refine rD ?_|(refine rR ?_;simp only [tO, Nat.reduceAdd])|refine rE ?_|(refine rO goodFF rfl ?_;intro _ hu_ K_ hK_;go_simp;(try rw [wI _]);(try rw [wU _]);refine hK_ _ ?_;clear hK_ K_ hu_;simp only [sS, sN])|(refine rP rfl ?_;simp only [sS, sN]))
      refine look_r18 OB g nl cb E len cap B M c i k j bv hlt hnl hk hlj h4 (by simp [g0]) (by simp [g3]) (by simp [g6]) (by simp [g7]) hc0 h2 h3 b2 b3 fun f' e0 e3 e6 e7 e114 => ?_
      have q7 : f' 7 = .int .i64 (j : Nat) := by rw [e7]; simp [g7]
      repeat (first|refine rA ?_|refine rB ?_|refine rC ?_|refine rD ?_|(refine rR ?_;simp only [tO, Nat.reduceAdd])|refine rE ?_|(refine rO goodFF rfl ?_;intro _ hu_ K_ hK_;go_simp;(try rw [wI _]);(try rw [wU _]);refine hK_ _ ?_;clear hK_ K_ hu_;simp only [sS, sN])|(refine rP rfl ?_;simp only [sS, sN]))
      (refine reach_cond (t := false) (by simp [Act.eval, e114]) ?_; simp only [if_true, if_false, reduceIte, Bool.false_eq_true])
      repeat (first|refine rA ?_|refine rB ?_|refine rC ?_|refine rD ?_|(refine rR ?_;simp only [tO, Nat.reduceAdd])|refine rE ?_|(refine rO goodFF rfl ?_;intro _ hu_ K_ hK_;go_simp;(try rw [wI _]);(try rw [wU _]);refine hK_ _ ?_;clear hK_ K_ hu_;simp only [sS, sN])|(refine rP rfl ?_;simp only [sS, sN]))
      refine nxt2 _ _ _ (len - (j + 1)) (by omega) ⟨j + 1, rfl, by omega, rfl, rfl, by simp [e0, g0], by simp [e3, g3], by simp [e6, g6], by simp⟩
    · obtain rfl : j = len := by omega
      (refine reach_cond (t := false) (by simp [Act.eval]) ?_; simp only [if_true, if_false, reduceIte, Bool.false_eq_true])
      refine reach_exit rfl ?_
      repeat (first|refine rA ?_|refine rB ?_|refine rC ?_|refine rD ?_|(refine rR ?_;simp only [tO, Nat.reduceAdd])|refine rE ?_|(refine rO goodFF rfl ?_;intro _ hu_ K_ hK_;go_simp;(try rw [wI _]);(try rw [wU _]);refine hK_ _ ?_;clear hK_ K_ hu_;simp only [sS, sN])|(refine rP rfl ?_;simp only [sS, sN]))
      refine nxt _ _ _ (nl - (i + 1)) (by omega) ⟨i + 1, rfl, by omega, rfl, rfl, by simp [g0], by simp [g3], by simp⟩
  · obtain rfl : i = nl := by omega
    obtain ⟨pb, cb, hbv⟩ := hB.lvS
    rw [hbv] at hc0
    repeat (first|refine rA ?_|refine rB ?_|refine rC ?_|refine rD ?_|(refine rR ?_;simp only [tO, Nat.reduceAdd])|refine rE ?_|(refine rO goodFF rfl ?_;intro _ hu_ K_ hK_;(have hc := (Ext.twin hu_).cell hc0);go_simp;(try rw [wI _]);(try rw [wU _]);refine hK_ _ ?_;clear hK_ K_ hu_;simp only [sS, sN])|(refine rP rfl ?_;simp only [sS, sN]))
    (refine reach_cond (t := false) (by simp [Act.eval]) ?_; simp only [if_true, if_false, reduceIte, Bool.false_eq_true])
    refine reach_exit rfl ?_
    exact next _ (by simp [g0]) (by simp [g3])

set_option maxRecDepth 100000 in
set_option maxHeartbeats 8000000 in
theorem looks_r {S : Nat → Prop} {v : World} {N OB nb nl : Nat} {O : Nat → Prop} {bv lv : Value} (hB : Book N OB O nb nl bv lv v) (hnb : nb ≤ 100000) (hnl : nl ≤ 100000) :
    CallsR Try.prog 19 #[.pointer (some ⟨OB, 0, none⟩)] S v fun x S' v' => x = .bool true ∧ S' = S ∧ v' = v := by
  refine callsR_body Try.func19 rfl Try.ntmps19 (by simp) fun Stop cc cs ret => ?_
  have g0 : argF #[.pointer (some ⟨OB, 0, none⟩)] 0 = .pointer (some ⟨OB, 0, none⟩) := rfl
  generalize argF #[.pointer (some ⟨OB, 0, none⟩)] = f at g0
  have hc2 : v.cell? ⟨OB, 2, none⟩ = some (.slice none 0 0) := (cell_of_row _ OB 2 _ _ _ hB.row).trans rfl
  have hc3 : v.cell? ⟨OB, 3, none⟩ = some (.slice none 0 0) := (cell_of_row _ OB 3 _ _ _ hB.row).trans rfl
  repeat (first|refine rA ?_|refine rB ?_|refine rC ?_|refine rD ?_|(refine rR ?_;simp only [tO, Nat.reduceAdd])|refine rE ?_|(refine rO goodFF rfl ?_;intro _ hu_ K_ hK_;go_simp;(try rw [wI _]);(try rw [wU _]);refine hK_ _ ?_;clear hK_ K_ hu_;simp only [sS, sN])|(refine rP rfl ?_;simp only [sS, sN]))
  refine reach_rounds (fun d f' S' v' => ∃ k, d = 4 - k ∧ k ≤ 4 ∧ S' = S ∧ v' = v ∧ f' 0 = .pointer (some ⟨OB, 0, none⟩) ∧ f' 3 = .int .i64 (k : Nat)) 4 ⟨0, by omega, by omega, rfl, rfl, by simp [g0], by simp⟩ ?_
  clear g0 f
  rintro d f S' v' ⟨k, rfl, hk, eS, eV, g0, g3⟩ nxt
  subst S' v'
  repeat (first|refine rA ?_|refine rB ?_|refine rC ?_|refine rD ?_|(refine rR ?_;simp only [tO, Nat.reduceAdd])|refine rE ?_|(refine rO goodFF rfl ?_;intro _ hu_ K_ hK_;go_simp;(try rw [wI _]);(try rw [wU _]);refine hK_ _ ?_;clear hK_ K_ hu_;simp only [sS, sN])|(refine rP rfl ?_;simp only [sS, sN]))
  by_cases hlt : k < 4
  · have hkI : (k : Int) < 4 := by omega
    (refine reach_cond (t := true) (by simp [Act.eval, hkI]) ?_; simp only [if_true, if_false, reduceIte, Bool.false_eq_true])
    repeat (first|refine rA ?_|refine rB ?_|refine rC ?_|refine rD ?_|(refine rR ?_;simp only [tO, Nat.reduceAdd])|refine rE ?_|(refine rO goodFF rfl ?_;intro _ hu_ K_ hK_;go_simp;(try rw [wI _]);(try rw [wU _]);refine hK_ _ ?_;clear hK_ K_ hu_;simp only [sS, sN])|(refine rP rfl ?_;simp only [sS, sN]))
    refine look_b hB hnb hlt (by simp [g0]) (by simp [g3]) (by simp) fun f1 a0 a3 => ?_
    repeat (first|refine rA ?_|refine rB ?_|refine rC ?_|refine rD ?_|(refine rR ?_;simp only [tO, Nat.reduceAdd])|refine rE ?_|(refine rO goodFF rfl ?_;intro _ hu_ K_ hK_;go_simp;(try rw [wI _]);(try rw [wU _]);refine hK_ _ ?_;clear hK_ K_ hu_;simp only [sS, sN])|(refine rP rfl ?_;simp only [sS, sN]))
    refine look_l hB hnl hlt (by simp [a0]) (by simp [a3]) (by simp) fun f2 b0 b3 => ?_
    repeat (first|refine rA ?_|refine rB ?_|refine rC ?_|refine rD ?_|(refine rR ?_;simp only [tO, Nat.reduceAdd])|refine rE ?_|(refine rO goodFF rfl ?_;intro _ hu_ K_ hK_;go_simp;(try rw [wI _]);(try rw [wU _]);refine hK_ _ ?_;clear hK_ K_ hu_;simp only [sS, sN])|(refine rP rfl ?_;simp only [sS, sN]))
    refine reach_rounds (fun d f' S' v' => S' = S ∧ v' = v ∧ f' 0 = .pointer (some ⟨OB, 0, none⟩) ∧ f' 3 = .int .i64 (k : Nat) ∧ f' 8 = .int .i64 0) 0 ⟨rfl, rfl, by simp [b0], by simp [b3], by simp⟩ ?_
    clear a0 a3 b0 b3 g0 g3 f f1 f2
    rintro d f S' v' ⟨eS, eV, g0, g3, g8⟩ _
    subst S' v'
    repeat (first|refine rA ?_|refine rB ?_|refine rC ?_|refine rD ?_|(refine rR ?_;simp only [tO, Nat.reduceAdd])|refine rE ?_|(refine rO goodFF rfl ?_;intro _ hu_ K_ hK_;(have hc := (Ext.twin hu_).cell hc2);go_simp;(try rw [wI _]);(try rw [wU _]);refine hK_ _ ?_;clear hK_ K_ hu_;simp only [sS, sN])|(refine rP rfl ?_;simp only [sS, sN]))
    (refine reach_cond (t := false) (by simp [Act.eval]) ?_; simp only [if_true, if_false, reduceIte, Bool.false_eq_true])
    refine reach_exit rfl ?_
    repeat (first|refine rA ?_|refine rB ?_|refine rC ?_|refine rD ?_|(refine rR ?_;simp only [tO, Nat.reduceAdd])|refine rE ?_|(refine rO goodFF rfl ?_;intro _ hu_ K_ hK_;go_simp;(try rw [wI _]);(try rw [wU _]);refine hK_ _ ?_;clear hK_ K_ hu_;simp only [sS, sN])|(refine rP rfl ?_;simp only [sS, sN]))
    refine reach_rounds (fun d f' S' v' => S' = S ∧ v' = v ∧ f' 0 = .pointer (some ⟨OB, 0, none⟩) ∧ f' 3 = .int .i64 (k : Nat) ∧ f' 10 = .int .i64 0) 0 ⟨rfl, rfl, by simp [g0], by simp [g3], by simp⟩ ?_
    clear g0 g3 g8 f
    rintro d f S' v' ⟨eS, eV, g0, g3, g10⟩ _
    subst S' v'
    repeat (first|refine rA ?_|refine rB ?_|refine rC ?_|refine rD ?_|(refine rR ?_;simp only [tO, Nat.reduceAdd])|refine rE ?_|(refine rO goodFF rfl ?_;intro _ hu_ K_ hK_;(have hc := (Ext.twin hu_).cell hc3);go_simp;(try rw [wI _]);(try rw [wU _]);refine hK_ _ ?_;clear hK_ K_ hu_;simp only [sS, sN])|(refine rP rfl ?_;simp only [sS, sN]))
    (refine reach_cond (t := false) (by simp [Act.eval]) ?_; simp only [if_true, if_false, reduceIte, Bool.false_eq_true])
    refine reach_exit rfl ?_
    repeat (first|refine rA ?_|refine rB ?_|refine rC ?_|refine rD ?_|(refine rR ?_;simp only [tO, Nat.reduceAdd])|refine rE ?_|(refine rO goodFF rfl ?_;intro _ hu_ K_ hK_;go_simp;(try rw [wI _]);(try rw [wU _]);refine hK_ _ ?_;clear hK_ K_ hu_;simp only [sS, sN])|(refine rP rfl ?_;simp only [sS, sN]))
    refine nxt _ _ _ (4 - (k + 1)) (by omega) ⟨k + 1, rfl, by omega, rfl, rfl, by simp [g0], by simp⟩
  · obtain rfl : k = 4 := by omega
    (refine reach_cond (t := false) (by simp [Act.eval, g3]) ?_; simp only [if_true, if_false, reduceIte, Bool.false_eq_true])
    refine reach_exit rfl ?_
    repeat (first|refine rA ?_|refine rB ?_|refine rC ?_|refine rD ?_|(refine rR ?_;simp only [tO, Nat.reduceAdd])|refine rE ?_|(refine rO goodFF rfl ?_;intro _ hu_ K_ hK_;go_simp;(try rw [wI _]);(try rw [wU _]);refine hK_ _ ?_;clear hK_ K_ hu_;simp only [sS, sN])|(refine rP rfl ?_;simp only [sS, sN]))
    refine reach_ret fun todo => ?_
    refine ret _ _ _ _ (.bool true) ?_ ⟨rfl, rfl, rfl⟩
    simp [results, Try.results19]
end Go.Proofs.Ytpiefebngnlfoaa
