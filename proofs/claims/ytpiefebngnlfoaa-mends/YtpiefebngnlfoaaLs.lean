/-
  mosaicref.Solved: all columns, in turn.
-/
import Derived.Test.YtpiefebngnlfoaaLr
import Derived.Test.YtpiefebngnlfoaaLp
set_option linter.unusedVariables false
set_option linter.unusedSimpArgs false
namespace Go.Proofs.Ytpiefebngnlfoaa
open Go.RowKit Go.Conc Go.Vw

set_option maxRecDepth 100000 in
set_option maxHeartbeats 8000000 in
theorem sol_b {S : Nat → Prop} {v w : World} {f : Nat → Value} {Stop : Goroutine → (Nat → Prop) → World → Prop} {cs : List Frame} {k0 : List Item} (g cap wd : Nat) (RB : Nat → Nat) (M tc : Nat → Nat → Nat) (hwd : wd ≤ 400) (htc : ∀ k x, tc k x < 256) (hGI : Fld.GI tc wd 0 M) (hG : GS v g (10 + wd) RB M w) (f5 : f 5 = .int .i64 (wd : Nat)) (f6 : f 6 = .slice (some ⟨g, 0, none⟩) 10 cap)
    (next : ∀ w' f' RB' M', GS v g (10 + wd) RB' M' w' → Fld.GI tc wd 10 M' → f' 5 = .int .i64 (wd : Nat) → f' 6 = .slice (some ⟨g, 0, none⟩) 10 cap → Vw.Reach Try.prog Stop (G ((base 44).at ⟨TA 187 f', []⟩ k0) cs) S w') :
    Vw.Reach Try.prog Stop (G ((base 44).at ⟨TA 187 f, []⟩ (.code (nth 4 (Try.f44.body.getD .skip)) :: k0)) cs) S w := by
  simp only [nth, hd, tl, Try.f44, Option.getD_some]
  repeat (first|refine rA ?_|refine rB ?_|refine rC ?_|refine rD ?_|(refine rR ?_;simp only [tO, Nat.reduceAdd])|refine rE ?_|(refine rO goodFF rfl ?_;intro _ hu_ K_ hK_;go_simp;(try rw [wI _]);(try rw [wU _]);refine hK_ _ ?_;clear hK_ K_ hu_;simp only [sS, sN])|(refine rP rfl ?_;simp only [sS, sN]))
  refine reach_rounds (fun d f' S' w => ∃ c RB M, d = 10 - c ∧ c ≤ 10 ∧ S' = S ∧ GS v g (10 + wd) RB M w ∧ Fld.GI tc wd c M ∧ SolG f' g cap wd c) 10 ⟨0, RB, M, by omega, by omega, rfl, hG, hGI, by simp [f5], by simp [f6], by simp⟩ ?_
  clear hG hGI M RB w f5 f6 f
  rintro d f S' w ⟨c, RB, M, rfl, hc, eS, hG, hGI, hF⟩ nxt
  subst S'
  have g5 := hF.g5
  have g6 := hF.g6
  have g11 := hF.g11
  clear hF
  repeat (first|refine rA ?_|refine rB ?_|refine rC ?_|refine rD ?_|(refine rR ?_;simp only [tO, Nat.reduceAdd])|refine rE ?_|(refine rO goodFF rfl ?_;intro _ hu_ K_ hK_;go_simp;(try rw [wI _]);(try rw [wU _]);refine hK_ _ ?_;clear hK_ K_ hu_;simp only [sS, sN])|(refine rP rfl ?_;simp only [sS, sN]))
  by_cases hlt : c < 10
  · have hcI : (c : Int) < 10 := by omega
    have hcn : (c : Int) < 10 + (wd : Int) := by omega
    (refine reach_cond (t := true) (by simp [Act.eval, g11, hcI]) ?_; simp only [if_true, if_false, reduceIte, Bool.false_eq_true])
    repeat (first|refine rA ?_|refine rB ?_|refine rC ?_|refine rD ?_|(refine rR ?_;simp only [tO, Nat.reduceAdd])|refine rE ?_|(refine rO goodFF rfl ?_;intro _ hu_ K_ hK_;go_simp;(try rw [wI _]);(try rw [wU _]);refine hK_ _ ?_;clear hK_ K_ hu_;simp only [sS, sN])|(refine rP rfl ?_;simp only [sS, sN]))
    obtain ⟨p0, hp1, hp2, hp3⟩ := hGI.pivot hlt
    -- the row that is found
    refine reach_rounds (fun d f' S' w' => ∃ p, d = 10 - p ∧ c ≤ p ∧ p ≤ p0 ∧ S' = S ∧ w' = w ∧ SolG f' g cap wd c ∧ f' 12 = .int .i64 (p : Nat)) (10 - c) ⟨c, rfl, Nat.le_refl _, hp1, rfl, rfl, ⟨by simp [g5], by simp [g6], by simp [g11]⟩, by simp⟩ ?_
    clear g5 g6 g11 f
    rintro d f S' w' ⟨p, rfl, hcp, hpp, eS, eV, ⟨g5, g6, g11⟩, g12⟩ nxt2
    subst S' w'
    have hp10 : p < 10 := by omega
    have hpI : (p : Int) < 10 := by omega
    have hrp := hG.rowAt hp10
    have hnp := hG.num hp10 (show c < 10 + wd by omega)
    by_cases hz : M p c = 0
    · rw [hz] at hnp
      repeat (first|refine rA ?_|refine rB ?_|refine rC ?_|refine rD ?_|(refine rR ?_;simp only [tO, Nat.reduceAdd])|refine rE ?_|(refine rO goodFF rfl ?_;intro _ hu_ K_ hK_;(have hc := (Ext.twin hu_).cell hrp; have hc' := (Ext.twin hu_).cell hnp);go_simp;(try rw [wI _]);(try rw [wU _]);refine hK_ _ ?_;clear hK_ K_ hu_;simp only [sS, sN])|(refine rP rfl ?_;simp only [sS, sN]))
      (refine reach_cond (t := true) (by simp [Act.eval]) ?_; simp only [if_true, if_false, reduceIte, Bool.false_eq_true])
      repeat (first|refine rA ?_|refine rB ?_|refine rC ?_|refine rD ?_|(refine rR ?_;simp only [tO, Nat.reduceAdd])|refine rE ?_|(refine rO goodFF rfl ?_;intro _ hu_ K_ hK_;go_simp;(try rw [wI _]);(try rw [wU _]);refine hK_ _ ?_;clear hK_ K_ hu_;simp only [sS, sN])|(refine rP rfl ?_;simp only [sS, sN]))
      refine nxt2 _ _ _ (10 - (p + 1)) (by omega) ⟨p + 1, rfl, by omega, ?_, rfl, rfl, ⟨by simp [g5], by simp [g6], by simp [g11]⟩, by simp⟩
      rcases Nat.lt_or_ge p p0 with h | h
      · exact h
      · exact absurd (by rw [show p0 = p by omega]; exact hz) hp3
    · have hzI : ¬ ((M p c : Nat) : Int) = 0 := by omega
      repeat (first|refine rA ?_|refine rB ?_|refine rC ?_|refine rD ?_|(refine rR ?_;simp only [tO, Nat.reduceAdd])|refine rE ?_|(refine rO goodFF rfl ?_;intro _ hu_ K_ hK_;(have hc := (Ext.twin hu_).cell hrp; have hc' := (Ext.twin hu_).cell hnp);go_simp;(try rw [wI _]);(try rw [wU _]);refine hK_ _ ?_;clear hK_ K_ hu_;simp only [sS, sN])|(refine rP rfl ?_;simp only [sS, sN]))
      (refine reach_cond (t := false) (by simp [Act.eval, hzI, hz]) ?_; simp only [if_true, if_false, reduceIte, Bool.false_eq_true])
      refine reach_exit rfl ?_
      repeat (first|refine rA ?_|refine rB ?_|refine rC ?_|refine rD ?_|(refine rR ?_;simp only [tO, Nat.reduceAdd])|refine rE ?_|(refine rO goodFF rfl ?_;intro _ hu_ K_ hK_;go_simp;(try rw [wI _]);(try rw [wU _]);refine hK_ _ ?_;clear hK_ K_ hu_;simp only [sS, sN])|(refine rP rfl ?_;simp only [sS, sN]))
      refine sol_swap g cap wd c p RB M hlt hp10 ⟨by simp [g5], by simp [g6], by simp [g11]⟩ (by simp [g12]) hG fun w1 f RB1 hG1 hF1 => ?_
      have hGI1 := hGI.swap hcp hp10
      have hcc : Fld.sw M c p c c = M p c := by simp [Fld.sw]
      generalize Fld.sw M c p = M1 at hG1 hGI1 hcc
      rw [← hcc] at hz
      clear hzI hnp hrp nxt2 g12 hcc hGI hG g5 g6 g11
      obtain ⟨g5, g6, g11⟩ := hF1
      have hrc := hG1.rowAt hlt
      have hnc := hG1.num hlt (show c < 10 + wd by omega)
      repeat (first|refine rA ?_|refine rB ?_|refine rC ?_|refine rD ?_|(refine rR ?_;simp only [tO, Nat.reduceAdd])|refine rE ?_|(refine rO goodFF rfl ?_;intro _ hu_ K_ hK_;(have hc := (Ext.twin hu_).cell hrc; have hc' := (Ext.twin hu_).cell hnc);go_simp;(try rw [wI _]);(try rw [wU _]);refine hK_ _ ?_;clear hK_ K_ hu_;simp only [sS, sN])|(refine rP rfl ?_;simp only [sS, sN]))
      (refine reach_callR rfl (by first | rfl | simp [Region.wanted, yielded, TA_get, *]) rfl Try.func54 (by kernel_rfl) rfl (by simp [Act.eval, *]; try rfl) (over_r (M1 c c) (hGI1.lt c c) hz) ?_)
      rintro _ S2 w2 hvw ⟨⟨fv, hfl, hf1, rfl⟩, e1, e2⟩
      subst S2 w2
      clear hvw
      simp only [stO_some]
      have hfne : fv ≠ 0 := by
        rintro rfl
        rw [Fld.mul_zero] at hf1
        cases hf1
      repeat (first|refine rA ?_|refine rB ?_|refine rC ?_|refine rD ?_|(refine rR ?_;simp only [tO, Nat.reduceAdd])|refine rE ?_|(refine rO goodFF rfl ?_;intro _ hu_ K_ hK_;go_simp;(try rw [wI _]);(try rw [wU _]);refine hK_ _ ?_;clear hK_ K_ hu_;simp only [sS, sN])|(refine rP rfl ?_;simp only [sS, sN]))
      refine sol_scale g cap wd c fv RB1 M1 hwd hlt hGI1.lt hfl ⟨by simp [g5], by simp [g6], by simp [g11]⟩ (by simp) (by simp) hG1 fun w2 f2 hG2 hF2 => ?_
      have hGI2 := hGI1.scale htc hlt hfl hfne
      have hcc : Fld.sc M1 c fv c c = 1 := by
        unfold Fld.sc
        rw [if_pos rfl]
        exact hf1
      generalize Fld.sc M1 c fv = M2 at hG2 hGI2 hcc
      repeat (first|refine rA ?_|refine rB ?_|refine rC ?_|refine rD ?_|(refine rR ?_;simp only [tO, Nat.reduceAdd])|refine rE ?_|(refine rO goodFF rfl ?_;intro _ hu_ K_ hK_;go_simp;(try rw [wI _]);(try rw [wU _]);refine hK_ _ ?_;clear hK_ K_ hu_;simp only [sS, sN])|(refine rP rfl ?_;simp only [sS, sN]))
      refine sol_elim g cap wd c RB1 M2 hwd hlt hGI2.lt ⟨by simp [hF2.g5], by simp [hF2.g6], by simp [hF2.g11]⟩ (by simp) hG2 fun w3 f3 hG3 hF3 => ?_
      have h11 := hF3.g11
      repeat (first|refine rA ?_|refine rB ?_|refine rC ?_|refine rD ?_|(refine rR ?_;simp only [tO, Nat.reduceAdd])|refine rE ?_|(refine rO goodFF rfl ?_;intro _ hu_ K_ hK_;go_simp;(try rw [wI _]);(try rw [wU _]);refine hK_ _ ?_;clear hK_ K_ hu_;simp only [sS, sN])|(refine rP rfl ?_;simp only [sS, sN]))
      refine nxt _ _ _ (10 - (c + 1)) (by omega) ⟨c + 1, RB1, Fld.el M2 c, rfl, by omega, rfl, hG3, hGI2.elim htc hlt hcc, ⟨by simp [hF3.g5], by simp [hF3.g6], by simp⟩⟩
  · obtain rfl : c = 10 := by omega
    (refine reach_cond (t := false) (by simp [Act.eval, g11]) ?_; simp only [if_true, if_false, reduceIte, Bool.false_eq_true])
    refine reach_exit rfl ?_
    exact next w _ RB M hG hGI (by simp [g5]) (by simp [g6])
end Go.Proofs.Ytpiefebngnlfoaa

/-
  mosaicref.Solved: what it answers.
-/
set_option linter.unusedVariables false
set_option linter.unusedSimpArgs false
namespace Go.Proofs.Ytpiefebngnlfoaa
open Go.RowKit Go.Conc Go.Vw

/-- Where the terms begin in their line (of no terms: nowhere). -/
def toff (wd : Nat) : Nat := if wd = 0 then 0 else 10
/-- Ten rows of terms. -/
structure SolT (v : World) (x : Value) (wd : Nat) (tc : Nat → Nat → Nat) (v' : World) : Prop where
  ext : Ext v v'
  list : ∃ (TB cap : Nat) (RB : Nat → Nat), x = .slice (some ⟨TB, 0, none⟩) 10 cap ∧ (∀ i, i < 10 → v'.cell? ⟨TB, i, none⟩ = some (.slice (some ⟨RB i, toff wd, none⟩) wd wd)) ∧ ∀ i c, i < 10 → c < wd → v'.cell? ⟨RB i, toff wd + c, none⟩ = some (.int .i64 ((tc i c : Nat) : Int))

set_option maxRecDepth 100000 in
set_option maxHeartbeats 8000000 in
theorem sol_c {S : Nat → Prop} {v w0 : World} {f : Nat → Value} {Stop : Goroutine → (Nat → Prop) → World → Prop} {cs : List Frame} (g cap wd : Nat) (RB : Nat → Nat) (M tc : Nat → Nat → Nat) (hwd : wd ≤ 400) (hM : ∀ i c, i < 10 → c < wd → M i (10 + c) = tc i c) (hG : GS v g (10 + wd) RB M w0) (f6 : f 6 = .slice (some ⟨g, 0, none⟩) 10 cap)
    (ret : ∀ (f' : Nat → Value) (todo : List Item) (x : Value) (v' : World), f' 4 = x → SolT v x wd tc v' → Vw.Reach Try.prog Stop (G { (base 44).at ⟨TA 187 f', []⟩ todo with mode := .returning } cs) S v') :
    Vw.Reach Try.prog Stop (G ((base 44).at ⟨TA 187 f, []⟩ [.code (rst 5 (Try.f44.body.getD .skip))]) cs) S w0 := by
  obtain ⟨is, zs, is1, is2, is3, is4, is5⟩ := infoI
  simp only [rst, tl, Try.f44, Option.getD_some]
  repeat (first|refine rA ?_|refine rB ?_|refine rC ?_|refine rD ?_|(refine rR ?_;simp only [tO, Nat.reduceAdd])|refine rE ?_|(refine rO goodFF rfl ?_;intro _ hu_ K_ hK_;go_simp;(try rw [wI _]);(try rw [wU _]);refine hK_ _ ?_;clear hK_ K_ hu_;simp only [sS, sN])|(refine rP rfl ?_;simp only [sS, sN]))
  refine reach_rounds (fun d f' S' w => ∃ i sv, d = 10 - i ∧ i ≤ 10 ∧ S' = S ∧ (Ext w0 w ∧ w.ownsRow w0.heap.size 58 1 sv i ((List.range i).map fun j => .slice (some ⟨RB j, toff wd, none⟩) wd wd)) ∧ f' 6 = .slice (some ⟨g, 0, none⟩) 10 cap ∧ f' 18 = sv ∧ f' 19 = .int .i64 (i : Nat)) 10 ⟨0, _, by omega, by omega, rfl, ⟨.refl _, World.ownsRow_nil _ _ _ _⟩, by simp [f6], by simp, by simp⟩ ?_
  rintro d f' S' w ⟨i, sv, rfl, hi, eS, ⟨hE, hO⟩, g6, g18, g19⟩ nxt
  subst S'
  repeat (first|refine rA ?_|refine rB ?_|refine rC ?_|refine rD ?_|(refine rR ?_;simp only [tO, Nat.reduceAdd])|refine rE ?_|(refine rO goodFF rfl ?_;intro _ hu_ K_ hK_;go_simp;(try rw [wI _]);(try rw [wU _]);refine hK_ _ ?_;clear hK_ K_ hu_;simp only [sS, sN])|(refine rP rfl ?_;simp only [sS, sN]))
  by_cases hlt : i < 10
  · have hiI : (i : Int) < 10 := by omega
    have hri := hE.cell (hG.rowAt hlt)
    have h10 : (10 : Int) ≤ 10 + (wd : Int) := by omega
    (refine reach_cond (t := true) (by simp [Act.eval, hiI]) ?_; simp only [if_true, if_false, reduceIte, Bool.false_eq_true])
    repeat (first|refine rA ?_|refine rB ?_|refine rC ?_|refine rD ?_|(refine rR ?_;simp only [tO, Nat.reduceAdd])|refine rE ?_|(refine rO goodFF rfl ?_;intro _ hu_ K_ hK_;(have hc := (Ext.twin hu_).cell hri);go_simp;(try rw [wI _]);(try rw [wU _]);refine hK_ _ ?_;clear hK_ K_ hu_;simp only [sS, sN])|(refine rP rfl ?_;simp only [sS, sN]))
    refine reach_turnQ (Q := fun x w2 => x = .slice (some ⟨w.heap.size, 0, none⟩) 1 1 ∧ Ext w w2 ∧ w2.heap[w.heap.size]? = some (.cells #[.slice (some ⟨RB i, toff wd, none⟩) wd wd] 58)) goodFF rfl rfl (by kernel_rfl) (fun u hu => ⟨_, _, .inl (run_build1 (x := .tmp 183) (y := .slice (some ⟨RB i, toff wd, none⟩) wd wd) rfl Try.underlying77 is1 is2 is3 is5 (by by_cases e : wd = 0 <;> simp [toff, e]) rfl u), by rw [hu.heap], (Ext.twin hu).trans _ _ _ (Ext.alloc _ _), by rw [← hu.heap]; exact alloc_at _ _⟩) ?_
    rintro _ w2 ⟨rfl, hE2, hr2⟩
    simp only [stO_some]
    have gw : Gr w w2 none := ⟨hE2.os, hE2.output, hE2.size, fun b hb _ => hE2.block b hb⟩
    have how := own_gr hO gw (by simp)
    refine reach_turnQ goodFF rfl rfl (by kernel_rfl) (fun u hu => append_does (s := .tmp 178) (x := .tmp 184) (ad := ⟨w.heap.size, 0, none⟩) (m := 1) (c := 1) (news := [.slice (some ⟨RB i, toff wd, none⟩) wd wd]) hu w0.heap.size Try.underlying77 is1 is2 is3 is4 (by rw [is5]; rfl) how rfl (one_cell hr2) (fun y hy => by rw [List.mem_singleton] at hy; subst hy; rfl) (by omega) (by omega) (Nat.le_trans hE.size hE2.size) rfl (by simp [g18]) (by simp)) ?_
    rintro sv' w3 ⟨hs', hg3, _⟩
    simp only [stO_some]
    repeat (first|refine rA ?_|refine rB ?_|refine rC ?_|refine rD ?_|(refine rR ?_;simp only [tO, Nat.reduceAdd])|refine rE ?_|(refine rO goodFF rfl ?_;intro _ hu_ K_ hK_;go_simp;(try rw [wI _]);(try rw [wU _]);refine hK_ _ ?_;clear hK_ K_ hu_;simp only [sS, sN])|(refine rP rfl ?_;simp only [sS, sN]))
    refine nxt _ _ _ (10 - (i + 1)) (by omega) ⟨i + 1, sv', rfl, by omega, rfl, ⟨Gr.over (hE.trans _ _ _ hE2) hg3 fun b hb => own_base how hb, ?_⟩, by simp [g6], by simp, by simp⟩
    rw [List.range_succ, List.map_append]
    exact hs'
  · obtain rfl : i = 10 := by omega
    obtain ⟨TB, capT, cur, q1, q2, q3, q4, q5, q6⟩ := own_some hO (.inl (by omega))
    subst q1
    (refine reach_cond (t := false) (by simp [Act.eval, g19]) ?_; simp only [if_true, if_false, reduceIte, Bool.false_eq_true])
    refine reach_exit rfl ?_
    repeat (first|refine rA ?_|refine rB ?_|refine rC ?_|refine rD ?_|(refine rR ?_;simp only [tO, Nat.reduceAdd])|refine rE ?_|(refine rO goodFF rfl ?_;intro _ hu_ K_ hK_;go_simp;(try rw [wI _]);(try rw [wU _]);refine hK_ _ ?_;clear hK_ K_ hu_;simp only [sS, sN])|(refine rP rfl ?_;simp only [sS, sN]))
    refine reach_ret fun todo => ?_
    refine ret _ _ (.slice (some ⟨TB, 0, none⟩) 10 capT) w (by simp [g18]) ⟨hG.ext.trans _ _ _ hE, TB, capT, RB, rfl, fun j hj => ?_, fun j c hj hc => ?_⟩
    · rw [cell_of_row _ TB j _ _ _ q3, q6 j hj]
      simp [hj]
    · rw [← hM j c hj hc, show toff wd = 10 by simp [toff]; omega]
      exact hE.cell (hG.num hj (by omega))
set_option maxRecDepth 100000 in
set_option maxHeartbeats 4000000 in
theorem solved_r {S : Nat → Prop} {v : World} (AB oa ca BL ol cl wd : Nat) (at_ : Nat → Nat) (q : Nat → Option Addr) (cp : Nat → Nat) (y tc : Nat → Nat → Nat) (hwd : wd ≤ 400) (hat : ∀ i, i < 10 → at_ i < 256) (hinj : ∀ i j, i < 10 → j < 10 → at_ i = at_ j → i = j) (hy : ∀ i x, y i x < 256) (hI : SolIn v AB oa BL ol wd at_ q cp y) (htc : ∀ k x, tc k x < 256) (hsol : ∀ i x, i < 10 → Fld.ev (fun k => tc k x) 10 (at_ i) = y i x) :
    CallsR Try.prog 44 #[.slice (some ⟨AB, oa, none⟩) 10 ca, .slice (some ⟨BL, ol, none⟩) 10 cl] S v fun x S' v' => SolT v x wd tc v' ∧ S' = S := by
  refine callsR_body (c := Try.f44.body.getD .skip) Try.func44 rfl Try.ntmps44 (by simp) fun Stop cc cs ret => ?_
  have g0 : argF #[.slice (some ⟨AB, oa, none⟩) 10 ca, .slice (some ⟨BL, ol, none⟩) 10 cl] 0 = .slice (some ⟨AB, oa, none⟩) 10 ca := rfl
  have g1 : argF #[.slice (some ⟨AB, oa, none⟩) 10 ca, .slice (some ⟨BL, ol, none⟩) 10 cl] 1 = .slice (some ⟨BL, ol, none⟩) 10 cl := rfl
  generalize argF #[.slice (some ⟨AB, oa, none⟩) 10 ca, .slice (some ⟨BL, ol, none⟩) 10 cl] = f at g0 g1
  rw [sol_eq]
  have ret' : ∀ (f' : Nat → Value) (todo : List Item) (x : Value) (v' : World), f' 4 = x → SolT v x wd tc v' → Vw.Reach Try.prog Stop (G { (base 44).at ⟨TA 187 f', []⟩ todo with mode := .returning } (cc :: cs)) S v' := fun f' todo x v' h4 hT => ret f' todo S v' x (by simp [results, Try.results44, h4]) ⟨hT, rfl⟩
  have h3 := @sol_a S v
  have h4 := fun w => @sol_b S v w
  have h5 := fun w => @sol_c S v w
  generalize nth 3 (Try.f44.body.getD .skip) = C3 at h3 ⊢
  generalize nth 4 (Try.f44.body.getD .skip) = C4 at h4 ⊢
  generalize rst 5 (Try.f44.body.getD .skip) = C5 at h5 ⊢
  simp only [nth, hd, tl, Try.f44, Option.getD_some]
  have hr0 := hI.row 0 (by omega)
  rw [Nat.add_zero] at hr0
  repeat (first|refine rA ?_|refine rB ?_|refine rC ?_|refine rD ?_|(refine rR ?_;simp only [tO, Nat.reduceAdd])|refine rE ?_|(refine rO goodFF rfl ?_;intro _ hu_ K_ hK_;(have hc := (Ext.twin hu_).cell hr0);go_simp;(try rw [wI _]);(try rw [wU _]);refine hK_ _ ?_;clear hK_ K_ hu_;simp only [sS, sN])|(refine rP rfl ?_;simp only [sS, sN]))
  refine h3 AB oa ca BL ol cl wd at_ q cp y hwd hat hy hI ⟨by simp [g0], by simp [g1], by simp, by simp⟩ fun w f1 g cap RB hG hcap hF => ?_
  refine reach_seq ?_
  refine h4 w g cap wd RB (lay at_ y) tc hwd htc (Fld.GI.start hat hinj htc hsol hy) hG hF.g5 hF.g6 fun w2 f2 RB2 M2 hG2 hGI2 e5 e6 => ?_
  exact h5 w2 g cap wd RB2 M2 tc hwd (fun i c hi hc => hGI2.solved htc hi hc) hG2 e6 ret'
end Go.Proofs.Ytpiefebngnlfoaa

/-
  mosaicref.All: all pieces, by ten rows at ten elements.
-/
set_option linter.unusedVariables false
set_option linter.unusedSimpArgs false
namespace Go.Proofs.Ytpiefebngnlfoaa
open Go.RowKit Go.Conc Go.Vw

/-- The reference's pieces so far: k of them. -/
structure RP (v : World) (wd : Nat) (p : Nat → Nat → Nat) (k : Nat) (sv : Value) (PB : Nat → Nat) (w : World) : Prop where
  ext : Ext v w
  own : w.ownsRow v.heap.size 25 1 sv k ((List.range k).map fun i => .slice (some ⟨PB i, 0, none⟩) wd wd)
  el : ∀ i, i < k → w.heap[PB i]? = some (.cells (bytesA wd (p i)) 5)
theorem RP.start (v : World) (wd : Nat) (p : Nat → Nat → Nat) : RP v wd p 0 (.slice none 0 0) (fun _ => 0) v := ⟨.refl v, World.ownsRow_nil _ _ _ _, fun i hi => by omega⟩
theorem RP.add {v w w2 w3 : World} {wd k LB : Nat} {p : Nat → Nat → Nat} {sv sv' : Value} {PB : Nat → Nat} (h : RP v wd p k sv PB w) (hE : Ext w w2) (hL : w2.heap[LB]? = some (.cells (bytesA wd (p k)) 5)) (hg : Gr w2 w3 sv.ownBlock) (ho : w3.ownsRow v.heap.size 25 1 sv' (k + 1) (((List.range k).map fun j => .slice (some ⟨PB j, 0, none⟩) wd wd) ++ [.slice (some ⟨LB, 0, none⟩) wd wd])) :
    RP v wd p (k + 1) sv' (fun j => if j = k then LB else PB j) w3 := by
  have gw : Gr w w2 none := ⟨hE.os, hE.output, hE.size, fun b hb _ => hE.block b hb⟩
  have how := own_gr h.own gw (by simp)
  have hne : ∀ {b : Nat} {cc : Array Value}, w2.heap[b]? = some (.cells cc 5) → some b ≠ sv.ownBlock := by
    intro b cc hb hs
    obtain ⟨c', hc'⟩ := own_type how hs.symm
    rw [hb] at hc'
    simp at hc'
  refine ⟨Gr.over (h.ext.trans _ _ _ hE) hg fun b hb => own_base how hb, ?_, fun j hj => ?_⟩
  · rw [List.range_succ, List.map_append, List.map_congr_left (g := fun j => Value.slice (some ⟨PB j, 0, none⟩) wd wd)]
    · simpa using ho
    · intro j hj
      have : j ≠ k := by have := List.mem_range.1 hj; omega
      simp [this]
  · by_cases e : j = k
    · subst e
      simp only [if_true]
      exact hg.row hL (hne hL)
    · simp only [e, if_false]
      have := hE.row (h.el j (by omega))
      exact hg.row this (hne this)
/-- The terms from j on, at x. -/
def hor (c : Nat → Nat) (x j : Nat) : Nat := Fld.ev (fun t => c (j + t)) (10 - j) x
theorem hor_step (c : Nat → Nat) (x j : Nat) (hx : x < 256) (hc : ∀ k, c k < 256) (hj : j < 10) : hor c x j = Fld.mul (hor c x (j + 1)) x ^^^ c j := by
  unfold hor
  rw [show 10 - j = 10 - (j + 1) + 1 by omega, Fld.ev, Nat.add_zero, Nat.xor_comm, Fld.mul_comm hx (Fld.ev_lt hx _ fun k => hc _)]
  congr 2
  refine congrArg (fun e => Fld.ev e _ x) (funext fun t => ?_)
  rw [show j + 1 + t = j + (t + 1) by omega]
theorem hor_lt (c : Nat → Nat) (x j : Nat) (hx : x < 256) (hc : ∀ k, c k < 256) : hor c x j < 256 := Fld.ev_lt hx _ fun k => hc _

set_option maxRecDepth 100000 in
set_option maxHeartbeats 4000000 in
theorem all_r14 {S : Nat → Prop} {v : World} {f : Nat → Value} {Stop : Goroutine → (Nat → Prop) → World → Prop} {cs : List Frame} {k0 : List Item} (TB capT wd x c j hv t : Nat) (RB : Nat → Nat) (hwd : wd ≤ 400) (hx : x < 14) (hc : c < wd) (hj : j < 10) (hh : hv < 256) (ht : t < 256) (g5 : f 5 = .slice (some ⟨TB, 0, none⟩) 10 capT) (g7 : f 7 = .int .i64 (x : Nat)) (g9 : f 9 = .int .i64 (c : Nat)) (g10 : f 10 = .int .i64 (hv : Nat)) (g11 : f 11 = .int .i64 (j : Nat))
    (h1 : v.cell? ⟨TB, j, none⟩ = some (.slice (some ⟨RB j, toff wd, none⟩) wd wd)) (h2 : v.cell? ⟨RB j, toff wd + c, none⟩ = some (.int .i64 (t : Nat)))
    (next : ∀ f' : Nat → Value, (∀ i, i < 10 → f' i = f i) → f' 11 = f 11 → f' 10 = .int .i64 ((Fld.mul hv x ^^^ t : Nat) : Int) → Vw.Reach Try.prog Stop (G ((base 36).at ⟨TA 55 f', []⟩ (.inRegion ((opsAt 14 (Try.f36.body.getD .skip)).getD #[]) [] :: k0)) cs) S v) :
    Vw.Reach Try.prog Stop (G ((base 36).at ⟨TA 55 f, []⟩ (.code (.region 14 ((opsAt 14 (Try.f36.body.getD .skip)).getD #[]) true) :: k0)) cs) S v := by
  have hjI : (j : Int) < 10 := by omega
  have hcI : (c : Int) < (wd : Int) := by omega
  have hml := Fld.mul_lt hh x
  have e : opsAt 14 (Try.f36.body.getD .skip) = some _ := rfl
  rw [e] at next ⊢
  simp only [Option.getD_some] at next ⊢
  clear e
  refine reach_draw goodFF (by first | kernel_rfl | rfl) ?_
  simp only [List.size_toArray, List.length_cons, List.length_nil, Nat.reduceAdd, Nat.zero_add]
  co_applyP rT (i := 0) rfl (fun _ hu_ => run_eq_of ?u1_0) ?v1_0
  case u1_0 => intro K_ hK_;go_simp;(try rw [wI _]);(try rw [wU _]);exact hK_
  simp only [sS, sN]
  co_applyP rT (i := 1) rfl (fun _ hu_ => run_eq_of ?u1_1) ?v1_1
  case u1_1 => intro K_ hK_;go_simp;(try rw [wI _]);(try rw [wU _]);exact hK_
  simp only [sS, sN]
  co_applyP anyR_take (i := 2) rfl (by first | kernel_rfl | decide +kernel) (by first | kernel_rfl | decide +kernel) (by first | kernel_rfl | decide +kernel) (.inl ⟨(by first | rfl | (simp [Region.wanted, yielded, TA_get, *]; done)), .inr ⟨_, _, _, _, _, rfl, Try.func11, (by kernel_rfl), rfl, ?run2⟩⟩) ?rest2
  case run2 =>
    simp [Act.eval, *]
    exact rmul_r hv x hh (by omega)
  simp only [stO_some, stO_none]
  co_applyP rT (i := 3) rfl (fun _ hu_ => run_eq_of ?u3_3) ?v3_3
  case u3_3 => intro K_ hK_;go_simp;(try rw [wI _]);(try rw [wU _]);exact hK_
  simp only [sS, sN]
  co_applyP rT (i := 4) rfl (fun _ hu_ => run_eq_of ?u3_4) ?v3_4
  case u3_4 => intro K_ hK_;go_simp;(try rw [wI _]);(try rw [wU _]);exact hK_
  simp only [sS, sN]
  co_applyP rT (i := 5) rfl (fun _ hu_ => run_eq_of ?u3_5) ?v3_5
  case u3_5 => intro K_ hK_;go_simp;(try rw [wI _]);(try rw [wU _]);exact hK_
  simp only [sS, sN]
  co_applyP rT (i := 6) rfl (fun _ hu_ => run_eq_of ?u4) ?v4
  case u4 => intro K_ hK_;(have hc := (Ext.twin hu_).cell h1);go_simp;(try rw [wI _]);(try rw [wU _]);exact hK_
  simp only [sS, sN]
  co_applyP rT (i := 7) rfl (fun _ hu_ => run_eq_of ?u5_7) ?v5_7
  case u5_7 => intro K_ hK_;go_simp;(try rw [wI _]);(try rw [wU _]);exact hK_
  simp only [sS, sN]
  co_applyP rT (i := 8) rfl (fun _ hu_ => run_eq_of ?u5_8) ?v5_8
  case u5_8 => intro K_ hK_;go_simp;(try rw [wI _]);(try rw [wU _]);exact hK_
  simp only [sS, sN]
  co_applyP rT (i := 9) rfl (fun _ hu_ => run_eq_of ?u6) ?v6
  case u6 => intro K_ hK_;(have hc := (Ext.twin hu_).cell h2);go_simp;(try rw [wI _]);(try rw [wU _]);exact hK_
  simp only [sS, sN]
  co_applyP rT (i := 10) rfl (fun _ hu_ => run_eq_of ?u7) ?v7
  case u7 => intro K_ hK_;go_simp;(try rw [wI _]);(try rw [wU _]);exact hK_
  simp only [sS, sN]
  rw [i64_xor_nat _ _ (show Fld.mul hv x < 2147483648 by omega) (show t < 2147483648 by omega)]
  co_applyP rT (i := 11) rfl (fun _ hu_ => run_eq_of ?u8) ?v8
  case u8 => intro K_ hK_;go_simp;(try rw [wI _]);(try rw [wU _]);exact hK_
  simp only [sS, sN]
  refine anyR_done (by first | kernel_rfl | decide +kernel) ?_ _
  refine next _ (fun i hi => ?_) (by simp) (by simp)
  simp only [st]
  repeat (rw [if_neg (by omega)])
/-- Fourteen pieces of the reference's. -/
structure RefP (v : World) (x : Value) (wd : Nat) (p : Nat → Nat → Nat) (v' : World) : Prop where
  ext : Ext v v'
  list : ∃ (OB cap : Nat) (PB : Nat → Nat), x = .slice (some ⟨OB, 0, none⟩) 14 cap ∧ (∀ j, j < 14 → v'.cell? ⟨OB, j, none⟩ = some (.slice (some ⟨PB j, 0, none⟩) wd wd)) ∧ ∀ j, j < 14 → v'.heap[PB j]? = some (.cells (bytesA wd (p j)) 5)
theorem RP.done {v w : World} {wd : Nat} {p : Nat → Nat → Nat} {sv : Value} {PB : Nat → Nat} (h : RP v wd p 14 sv PB w) : RefP v sv wd p w := by
  obtain ⟨g, cap, cur, q1, q2, q3, q4, q5, q6⟩ := own_some h.own (.inl (by omega))
  refine ⟨h.ext, g, cap, PB, q1, fun j hj => ?_, h.el⟩
  rw [cell_of_row _ g j _ _ _ q3, q6 j hj]
  simp [hj]
structure AllF (f : Nat → Value) (BL ol cl TB capT : Nat) (sv : Value) (x : Nat) : Prop where
  g1 : f 1 = .slice (some ⟨BL, ol, none⟩) 10 cl
  g5 : f 5 = .slice (some ⟨TB, 0, none⟩) 10 capT
  g6 : f 6 = sv
  g7 : f 7 = .int .i64 (x : Nat)
set_option maxRecDepth 100000 in
set_option maxHeartbeats 8000000 in
/-- One byte: the terms are added up. -/
theorem all_hor {S : Nat → Prop} {v : World} {f : Nat → Value} {Stop : Goroutine → (Nat → Prop) → World → Prop} {cs : List Frame} {k0 : List Item} (BL ol cl TB capT LB wd x c : Nat) (sv : Value) (RB : Nat → Nat) (tc : Nat → Nat → Nat) (htc : ∀ k c, tc k c < 256) (hwd : wd ≤ 400) (hx : x < 14) (hc : c < wd) (hF : AllF f BL ol cl TB capT sv x) (g8 : f 8 = sl LB wd) (g9 : f 9 = .int .i64 (c : Nat)) (g10 : f 10 = .int .i64 0) (g11 : f 11 = .int .i64 9)
    (h1 : ∀ i, i < 10 → v.cell? ⟨TB, i, none⟩ = some (.slice (some ⟨RB i, toff wd, none⟩) wd wd)) (h2 : ∀ i, i < 10 → v.cell? ⟨RB i, toff wd + c, none⟩ = some (.int .i64 ((tc i c : Nat) : Int)))
    (next : ∀ f' : Nat → Value, AllF f' BL ol cl TB capT sv x → f' 8 = sl LB wd → f' 9 = .int .i64 (c : Nat) → f' 10 = .int .i64 ((hor (fun k => tc k c) x 0 : Nat) : Int) → Vw.Reach Try.prog Stop (G ((base 36).at ⟨TA 55 f', []⟩ k0) cs) S v) :
    Vw.Reach Try.prog Stop (G ((base 36).at ⟨TA 55 f, []⟩ (.code (loopAt 2 (Try.f36.body.getD .skip)) :: .inBlock 4 :: k0)) cs) S v := by
  have e : loopAt 2 (Try.f36.body.getD .skip) = .loop _ := rfl
  rw [e]
  clear e
  refine reach_rounds (fun d f' S' v' => d ≤ 10 ∧ S' = S ∧ v' = v ∧ AllF f' BL ol cl TB capT sv x ∧ f' 8 = sl LB wd ∧ f' 9 = .int .i64 (c : Nat) ∧ f' 10 = .int .i64 ((hor (fun k => tc k c) x d : Nat) : Int) ∧ f' 11 = .int .i64 ((d : Int) - 1)) 10 ⟨by omega, rfl, rfl, hF, g8, g9, by rw [g10]; rfl, by rw [g11]; rfl⟩ ?_
  clear hF g8 g9 g10 g11 f
  rintro d f S' v' ⟨hd, eS, eV, hF, g8, g9, g10, g11⟩ nxt
  subst S' v'
  cases d with
  | zero =>
    have g11' : f 11 = .int .i64 (-1) := by rw [g11]; rfl
    clear g11
    repeat (first|refine rA ?_|refine rB ?_|refine rC ?_|refine rD ?_|(refine rR ?_;simp only [tO, Nat.reduceAdd])|refine rE ?_|(refine rO goodFF rfl ?_;intro _ hu_ K_ hK_;go_simp;(try rw [wI _]);(try rw [wU _]);refine hK_ _ ?_;clear hK_ K_ hu_;simp only [sS, sN])|(refine rP rfl ?_;simp only [sS, sN]))
    (refine reach_cond (t := false) (by simp [Act.eval, g11']) ?_; simp only [if_true, if_false, reduceIte, Bool.false_eq_true])
    refine reach_exit rfl ?_
    exact next _ ⟨by simp [hF.g1], by simp [hF.g5], by simp [hF.g6], by simp [hF.g7]⟩ (by simp [g8]) (by simp [g9]) (by simp [g10])
  | succ j =>
    have g11' : f 11 = .int .i64 (j : Nat) := by rw [g11]; congr 1; omega
    clear g11
    have hjI : (0 : Int) ≤ (j : Int) := by omega
    repeat (first|refine rA ?_|refine rB ?_|refine rC ?_|refine rD ?_|(refine rR ?_;simp only [tO, Nat.reduceAdd])|refine rE ?_|(refine rO goodFF rfl ?_;intro _ hu_ K_ hK_;go_simp;(try rw [wI _]);(try rw [wU _]);refine hK_ _ ?_;clear hK_ K_ hu_;simp only [sS, sN])|(refine rP rfl ?_;simp only [sS, sN]))
    (refine reach_cond (t := true) (by simp [Act.eval, hjI]) ?_; simp only [if_true, if_false, reduceIte, Bool.false_eq_true])
    repeat (first|refine rA ?_|refine rB ?_|refine rC ?_|refine rD ?_|(refine rR ?_;simp only [tO, Nat.reduceAdd])|refine rE ?_|(refine rO goodFF rfl ?_;intro _ hu_ K_ hK_;go_simp;(try rw [wI _]);(try rw [wU _]);refine hK_ _ ?_;clear hK_ K_ hu_;simp only [sS, sN])|(refine rP rfl ?_;simp only [sS, sN]))
    refine all_r14 TB capT wd x c j (hor (fun k => tc k c) x (j + 1)) (tc j c) RB hwd hx hc (by omega) (hor_lt _ _ _ (by omega) fun k => htc k c) (htc j c) (by simp [hF.g5]) (by simp [hF.g7]) (by simp [g9]) (by simp [g10]) (by simp [g11']) (h1 j (by omega)) (h2 j (by omega)) fun f' hlow h11 h10 => ?_
    rw [← hor_step (fun k => tc k c) x j (by omega) (fun k => htc k c) (by omega)] at h10
    have q11 : f' 11 = .int .i64 (j : Nat) := by rw [h11]; simp [g11']
    have q1 := hlow 1 (by omega)
    have q5 := hlow 5 (by omega)
    have q6 := hlow 6 (by omega)
    have q7 := hlow 7 (by omega)
    have q8 := hlow 8 (by omega)
    have q9 := hlow 9 (by omega)
    repeat (first|refine rA ?_|refine rB ?_|refine rC ?_|refine rD ?_|(refine rR ?_;simp only [tO, Nat.reduceAdd])|refine rE ?_|(refine rO goodFF rfl ?_;intro _ hu_ K_ hK_;go_simp;(try rw [wI _]);(try rw [wU _]);refine hK_ _ ?_;clear hK_ K_ hu_;simp only [sS, sN])|(refine rP rfl ?_;simp only [sS, sN]))
    refine nxt _ _ _ j (by omega) ⟨by omega, rfl, rfl, ⟨by simp [q1, hF.g1], by simp [q5, hF.g5], by simp [q6, hF.g6], by simp [q7, hF.g7]⟩, by simp [q8, g8], by simp [q9, g9], by simp [h10], by simp⟩
/-- Bytes so far. -/
theorem bytesA_step (n j z : Nat) (p : Nat → Nat) (h : z = p j) : (bytesA n fun i => if i < j then p i else 0).setIfInBounds j (.int .u8 ((z : Nat) : Int)) = bytesA n fun i => if i < j + 1 then p i else 0 := by
  rw [bytesA_set]
  refine bytesA_congr fun c hc => ?_
  by_cases e : c = j
  · subst e; simp [h]
  · simp only [if_neg e, show c < j + 1 ↔ c < j by omega]
set_option maxRecDepth 100000 in
set_option maxHeartbeats 8000000 in
theorem all_r {S : Nat → Prop} {v : World} (AB oa ca BL ol cl wd : Nat) (at_ : Nat → Nat) (q : Nat → Option Addr) (cp : Nat → Nat) (y : Nat → Nat → Nat) (hwd : wd ≤ 400) (hat : ∀ i, i < 10 → at_ i < 256) (hinj : ∀ i j, i < 10 → j < 10 → at_ i = at_ j → i = j) (hy : ∀ i x, y i x < 256) (hI : SolIn v AB oa BL ol wd at_ q cp y) :
    CallsR Try.prog 36 #[.slice (some ⟨AB, oa, none⟩) 10 ca, .slice (some ⟨BL, ol, none⟩) 10 cl] S v fun x S' v' => RefP v x wd (fun j c => Fld.comb (Fld.wgt at_ j) y 10 c) v' ∧ S' = S := by
  obtain ⟨tc, htc, hsol, hev⟩ := Fld.solution hat hinj y hy
  obtain ⟨is, zs, is1, is2, is3, is4, is5⟩ := infoS
  refine callsR_body Try.func36 rfl Try.ntmps36 (by simp) fun Stop cc cs ret => ?_
  have g0 : argF #[.slice (some ⟨AB, oa, none⟩) 10 ca, .slice (some ⟨BL, ol, none⟩) 10 cl] 0 = .slice (some ⟨AB, oa, none⟩) 10 ca := rfl
  have g1 : argF #[.slice (some ⟨AB, oa, none⟩) 10 ca, .slice (some ⟨BL, ol, none⟩) 10 cl] 1 = .slice (some ⟨BL, ol, none⟩) 10 cl := rfl
  generalize argF #[.slice (some ⟨AB, oa, none⟩) 10 ca, .slice (some ⟨BL, ol, none⟩) 10 cl] = f at g0 g1
  have hr0 := hI.row 0 (by omega)
  rw [Nat.add_zero] at hr0
  repeat (first|refine rA ?_|refine rB ?_|refine rC ?_|refine rD ?_|(refine rR ?_;simp only [tO, Nat.reduceAdd])|refine rE ?_|(refine rO goodFF rfl ?_;intro _ hu_ K_ hK_;go_simp;(try rw [wI _]);(try rw [wU _]);refine hK_ _ ?_;clear hK_ K_ hu_;simp only [sS, sN])|(refine rP rfl ?_;simp only [sS, sN]))
  (refine reach_callR rfl (by first | rfl | simp [Region.wanted, yielded, TA_get, *]) rfl Try.func44 (by kernel_rfl) rfl (by simp [Act.eval, *]; try rfl) (solved_r AB oa ca BL ol cl wd at_ q cp y tc hwd hat hinj hy hI htc hsol) ?_)
  rintro xv S1 v1 _ ⟨⟨hE1, TB, capT, RB, rfl, ht1, ht2⟩, e1⟩
  subst S1
  simp only [stO_some]
  repeat (first|refine rA ?_|refine rB ?_|refine rC ?_|refine rD ?_|(refine rR ?_;simp only [tO, Nat.reduceAdd])|refine rE ?_|(refine rO goodFF rfl ?_;intro _ hu_ K_ hK_;go_simp;(try rw [wI _]);(try rw [wU _]);refine hK_ _ ?_;clear hK_ K_ hu_;simp only [sS, sN])|(refine rP rfl ?_;simp only [sS, sN]))
  refine reach_rounds (fun d f' S' w => ∃ k sv PB, d = 14 - k ∧ k ≤ 14 ∧ S' = S ∧ RP v1 wd (fun j c => Fld.comb (Fld.wgt at_ j) y 10 c) k sv PB w ∧ AllF f' BL ol cl TB capT sv k) 14 ⟨0, _, _, by omega, by omega, rfl, RP.start _ _ _, by simp [g1], by simp, by simp, by simp⟩ ?_
  clear g0 g1 f
  rintro d f S' w ⟨k, sv, PB, rfl, hk, eS, hR, ⟨g1, g5, g6, g7⟩⟩ nxt
  subst S'
  repeat (first|refine rA ?_|refine rB ?_|refine rC ?_|refine rD ?_|(refine rR ?_;simp only [tO, Nat.reduceAdd])|refine rE ?_|(refine rO goodFF rfl ?_;intro _ hu_ K_ hK_;go_simp;(try rw [wI _]);(try rw [wU _]);refine hK_ _ ?_;clear hK_ K_ hu_;simp only [sS, sN])|(refine rP rfl ?_;simp only [sS, sN]))
  by_cases hlt : k < 14
  · have hkI : (k : Int) < 14 := by omega
    have hr0' := hR.ext.cell (hE1.cell hr0)
    (refine reach_cond (t := true) (by simp [Act.eval, hkI]) ?_; simp only [if_true, if_false, reduceIte, Bool.false_eq_true])
    repeat (first|refine rA ?_|refine rB ?_|refine rC ?_|refine rD ?_|(refine rR ?_;simp only [tO, Nat.reduceAdd])|refine rE ?_|(refine rO goodFF rfl ?_;intro _ hu_ K_ hK_;(have hc := (Ext.twin hu_).cell hr0');go_simp;(try rw [wI _]);(try rw [wU _]);refine hK_ _ ?_;clear hK_ K_ hu_;simp only [sS, sN])|(refine rP rfl ?_;simp only [sS, sN]))
    refine reach_makeBytes goodFF rfl rfl (by kernel_rfl) rfl (m := wd) (by simp) (by simp) (by omega) (by kernel_rfl) Try.underlying25 fun w1 hE2 hr2 hs2 => ?_
    simp only [stO_some]
    repeat (first|refine rA ?_|refine rB ?_|refine rC ?_|refine rD ?_|(refine rR ?_;simp only [tO, Nat.reduceAdd])|refine rE ?_|(refine rO goodFF rfl ?_;intro _ hu_ K_ hK_;go_simp;(try rw [wI _]);(try rw [wU _]);refine hK_ _ ?_;clear hK_ K_ hu_;simp only [sS, sN])|(refine rP rfl ?_;simp only [sS, sN]))
    refine reach_rounds (fun d f' S' w' => ∃ c, d = wd - c ∧ c ≤ wd ∧ S' = S ∧ (Ext w w' ∧ w'.heap[w.heap.size]? = some (.cells (bytesA wd fun i => if i < c then Fld.comb (Fld.wgt at_ k) y 10 i else 0) 5)) ∧ AllF f' BL ol cl TB capT sv k ∧ f' 8 = sl w.heap.size wd ∧ f' 9 = .int .i64 (c : Nat)) wd ⟨0, by omega, by omega, rfl, ⟨hE2, by rw [hr2, bytesA_zero]; rfl⟩, ⟨by simp [g1], by simp [g5], by simp [g6], by simp [g7]⟩, by simp, by simp⟩ ?_
    clear hE2 hr2 hs2 w1 g1 g5 g6 g7 f
    rintro d f S' w1 ⟨c, rfl, hc, eS, ⟨hE2, hr2⟩, ⟨g1, g5, g6, g7⟩, g8, g9⟩ nxt2
    subst S'
    repeat (first|refine rA ?_|refine rB ?_|refine rC ?_|refine rD ?_|(refine rR ?_;simp only [tO, Nat.reduceAdd])|refine rE ?_|(refine rO goodFF rfl ?_;intro _ hu_ K_ hK_;go_simp;(try rw [wI _]);(try rw [wU _]);refine hK_ _ ?_;clear hK_ K_ hu_;simp only [sS, sN])|(refine rP rfl ?_;simp only [sS, sN]))
    by_cases hlc : c < wd
    · have hcI : (c : Int) < (wd : Int) := by omega
      have hE3 := hR.ext.trans _ _ _ hE2
      have hhl := hor_lt (fun t => tc t c) k 0 (by omega) fun t => htc t c
      (refine reach_cond (t := true) (by simp [Act.eval, hlc]) ?_; simp only [if_true, if_false, reduceIte, Bool.false_eq_true])
      repeat (first|refine rA ?_|refine rB ?_|refine rC ?_|refine rD ?_|(refine rR ?_;simp only [tO, Nat.reduceAdd])|refine rE ?_|(refine rO goodFF rfl ?_;intro _ hu_ K_ hK_;go_simp;(try rw [wI _]);(try rw [wU _]);refine hK_ _ ?_;clear hK_ K_ hu_;simp only [sS, sN])|(refine rP rfl ?_;simp only [sS, sN]))
      refine all_hor BL ol cl TB capT w.heap.size wd k c sv RB tc htc hwd hlt hlc ⟨by simp [g1], by simp [g5], by simp [g6], by simp [g7]⟩ (by simp [g8]) (by simp [g9]) (by simp) (by simp) (fun i hi => hE3.cell (ht1 i hi)) (fun i hi => hE3.cell (ht2 i c hi hlc)) fun f' hF h8 h9 h10 => ?_
      obtain ⟨q1, q5, q6, q7⟩ := hF
      repeat (first|refine rA ?_|refine rB ?_|refine rC ?_|refine rD ?_|(refine rR ?_;simp only [tO, Nat.reduceAdd])|refine rE ?_|(refine rO goodFF rfl ?_;intro _ hu_ K_ hK_;go_simp;(try rw [wI _]);(try rw [wU _]);refine hK_ _ ?_;clear hK_ K_ hu_;simp only [sS, sN])|(refine rP rfl ?_;simp only [sS, sN]))
      refine reach_store1 goodFF rfl rfl (by kernel_rfl) (x := .tmp 49) (y := .tmp 48) (g := w.heap.size) (j := c) (z := .int .u8 ((hor (fun t => tc t c) k 0 : Nat) : Int)) rfl (by simp) (by simp) rfl rfl hr2 (by rw [bytesA_size]; exact hlc) (by kernel_rfl) fun w3 hW => ?_
      simp only [stO_none]
      rw [bytesA_step wd c _ (fun i => Fld.comb (Fld.wgt at_ k) y 10 i) ((by unfold hor; simp only [Nat.zero_add, Nat.sub_zero]; exact hev k c (by omega)))] at hW
      repeat (first|refine rA ?_|refine rB ?_|refine rC ?_|refine rD ?_|(refine rR ?_;simp only [tO, Nat.reduceAdd])|refine rE ?_|(refine rO goodFF rfl ?_;intro _ hu_ K_ hK_;go_simp;(try rw [wI _]);(try rw [wU _]);refine hK_ _ ?_;clear hK_ K_ hu_;simp only [sS, sN])|(refine rP rfl ?_;simp only [sS, sN]))
      refine nxt2 _ _ _ (wd - (c + 1)) (by omega) ⟨c + 1, rfl, by omega, rfl, ⟨wr_ext hE2 (Nat.le_refl _) hW, hW.at_⟩, ⟨by simp [q1], by simp [q5], by simp [q6], by simp [q7]⟩, by simp [h8], by simp⟩
    · obtain rfl : c = wd := by omega
      (refine reach_cond (t := false) (by simp [Act.eval]) ?_; simp only [if_true, if_false, reduceIte, Bool.false_eq_true])
      refine reach_exit rfl ?_
      repeat (first|refine rA ?_|refine rB ?_|refine rC ?_|refine rD ?_|(refine rR ?_;simp only [tO, Nat.reduceAdd])|refine rE ?_|(refine rO goodFF rfl ?_;intro _ hu_ K_ hK_;go_simp;(try rw [wI _]);(try rw [wU _]);refine hK_ _ ?_;clear hK_ K_ hu_;simp only [sS, sN])|(refine rP rfl ?_;simp only [sS, sN]))
      rw [bytesA_congr (g := fun i => Fld.comb (Fld.wgt at_ k) y 10 i) fun i hi => by simp [hi]] at hr2
      refine reach_turnQ (Q := fun x w2 => x = .slice (some ⟨w1.heap.size, 0, none⟩) 1 1 ∧ Ext w1 w2 ∧ w2.heap[w1.heap.size]? = some (.cells #[.slice (some ⟨w.heap.size, 0, none⟩) c c] 25)) goodFF rfl rfl (by kernel_rfl) (fun u hu => ⟨_, _, .inl (run_build1 (x := .tmp 51) (y := .slice (some ⟨w.heap.size, 0, none⟩) c c) rfl Try.underlying34 is1 is2 is3 is5 (by simp) rfl u), by rw [hu.heap], (Ext.twin hu).trans _ _ _ (Ext.alloc _ _), by rw [← hu.heap]; exact alloc_at _ _⟩) ?_
      rintro _ w2 ⟨rfl, hE4, hr4⟩
      simp only [stO_some]
      have hE := hE2.trans _ _ _ hE4
      have gw : Gr w w2 none := ⟨hE.os, hE.output, hE.size, fun b hb _ => hE.block b hb⟩
      refine reach_turnQ goodFF rfl rfl (by kernel_rfl) (fun u hu => append_does (s := .tmp 50) (x := .tmp 52) (ad := ⟨w1.heap.size, 0, none⟩) (m := 1) (c := 1) (news := [.slice (some ⟨w.heap.size, 0, none⟩) c c]) hu v1.heap.size Try.underlying34 is1 is2 is3 is4 (by rw [is5]; rfl) (own_gr hR.own gw (by simp)) rfl (one_cell hr4) (fun y hy => by rw [List.mem_singleton] at hy; subst hy; rfl) (by omega) (by omega) (Nat.le_trans hR.ext.size hE.size) rfl (by simp [g6]) (by simp)) ?_
      rintro sv' w3 ⟨hs', hg3, _⟩
      simp only [stO_some]
      repeat (first|refine rA ?_|refine rB ?_|refine rC ?_|refine rD ?_|(refine rR ?_;simp only [tO, Nat.reduceAdd])|refine rE ?_|(refine rO goodFF rfl ?_;intro _ hu_ K_ hK_;go_simp;(try rw [wI _]);(try rw [wU _]);refine hK_ _ ?_;clear hK_ K_ hu_;simp only [sS, sN])|(refine rP rfl ?_;simp only [sS, sN]))
      refine nxt _ _ _ (14 - (k + 1)) (by omega) ⟨k + 1, sv', _, rfl, by omega, rfl, hR.add hE (hE4.row hr2) hg3 hs', by simp [g1], by simp [g5], by simp, by simp⟩
  · obtain rfl : k = 14 := by omega
    (refine reach_cond (t := false) (by simp [Act.eval, g7]) ?_; simp only [if_true, if_false, reduceIte, Bool.false_eq_true])
    refine reach_exit rfl ?_
    repeat (first|refine rA ?_|refine rB ?_|refine rC ?_|refine rD ?_|(refine rR ?_;simp only [tO, Nat.reduceAdd])|refine rE ?_|(refine rO goodFF rfl ?_;intro _ hu_ K_ hK_;go_simp;(try rw [wI _]);(try rw [wU _]);refine hK_ _ ?_;clear hK_ K_ hu_;simp only [sS, sN])|(refine rP rfl ?_;simp only [sS, sN]))
    refine reach_ret fun todo => ?_
    obtain ⟨hE5, OB, capO, PB', rfl, hl1, hl2⟩ := hR.done
    refine ret _ _ S w (.slice (some ⟨OB, 0, none⟩) 14 capO) ?_ ⟨⟨hE1.trans _ _ _ hE5, OB, capO, PB', rfl, hl1, hl2⟩, rfl⟩
    simp [results, Try.results36, g6]
end Go.Proofs.Ytpiefebngnlfoaa

/-
  mosaicref.Cut.
-/
set_option linter.unusedVariables false
set_option linter.unusedSimpArgs false
namespace Go.Proofs.Ytpiefebngnlfoaa
open Go.RowKit Go.Conc Go.Vw

theorem cut_piece' {x : Nat → Nat} (h : ∀ i, x i < 256) (L k i : Nat) : cutOf x L k i = Fld.comb (Fld.wgt id k) (rowOf x L ((L + 9) / 10)) 10 i := by
  unfold cutOf
  split
  · rename_i hk
    exact (Fld.comb_at (known := id) (x := rowOf x L ((L + 9) / 10)) (i := i) (m := k) (fun i hi => by simp only [id]; omega) (fun i j _ _ e => e) (fun j => row_lt h _ _ _ _) hk).symm
  · rfl
set_option maxRecDepth 100000 in
theorem rcutBig_r {S : Nat → Prop} {v : World} (p : Option Addr) (len cap : Nat) (hl : 400 < len) :
    CallsR Try.prog 14 #[.slice p len cap] S v fun y S' v' => y = .tuple #[.slice none 0 0, .int .i64 1] ∧ S' = S ∧ v' = v := by
  refine callsR_body Try.func14 rfl Try.ntmps14 (by simp) fun Stop cc cs ret => ?_
  have g0 : argF #[.slice p len cap] 0 = .slice p len cap := rfl
  generalize argF #[.slice p len cap] = f at g0
  have hI : (400 : Int) < (len : Int) := by omega
  repeat (first|refine rA ?_|refine rB ?_|refine rC ?_|refine rD ?_|(refine rR ?_;simp only [tO, Nat.reduceAdd])|refine rE ?_|(refine rO goodFF rfl ?_;intro _ hu_ K_ hK_;go_simp;(try rw [wI _]);(try rw [wU _]);refine hK_ _ ?_;clear hK_ K_ hu_;simp only [sS, sN])|(refine rP rfl ?_;simp only [sS, sN]))
  (refine reach_cond (t := true) (by simp [Act.eval, hI]) ?_; simp only [if_true, if_false, reduceIte, Bool.false_eq_true])
  repeat (first|refine rA ?_|refine rB ?_|refine rC ?_|refine rD ?_|(refine rR ?_;simp only [tO, Nat.reduceAdd])|refine rE ?_|(refine rO goodFF rfl ?_;intro _ hu_ K_ hK_;go_simp;(try rw [wI _]);(try rw [wU _]);refine hK_ _ ?_;clear hK_ K_ hu_;simp only [sS, sN])|(refine rP rfl ?_;simp only [sS, sN]))
  refine reach_ret fun todo => ?_
  refine ret _ _ _ _ (.tuple #[.slice none 0 0, .int .i64 1]) ?_ ⟨rfl, rfl, rfl⟩
  simp [results, Try.results14]
set_option maxRecDepth 100000 in
theorem infoN : ∃ i z, Try.prog.info? 3 = some i ∧ i.zero = some z ∧ i.size = 1 ∧ i.bytes = 8 ∧ z.cells = #[z] := ⟨_, _, rfl, rfl, rfl, rfl, rfl⟩
/-- The rows so far. -/
structure CRI (v : World) (wd : Nat) (y : Nat → Nat → Nat) (i : Nat) (av rv : Value) (RB : Nat → Nat) (w : World) : Prop where
  ext : Ext v w
  at_ : w.ownsRow v.heap.size 3 1 av i ((List.range i).map fun j => .int .i64 ((j : Nat) : Int))
  rows : w.ownsRow v.heap.size 25 1 rv i ((List.range i).map fun j => .slice (some ⟨RB j, 0, none⟩) wd wd)
  el : ∀ j, j < i → w.heap[RB j]? = some (.cells (bytesA wd (y j)) 5)
theorem CRI.start (v : World) (wd : Nat) (y : Nat → Nat → Nat) : CRI v wd y 0 (.slice none 0 0) (.slice none 0 0) (fun _ => 0) v := ⟨.refl v, World.ownsRow_nil _ _ _ _, World.ownsRow_nil _ _ _ _, fun i hi => by omega⟩
theorem type_ne {w : World} {t t' : TypeId} {base n b : Nat} {sv : Value} {xs : List Value} {cc : Array Value} (h : w.ownsRow base t 1 sv n xs) (hb : w.heap[b]? = some (.cells cc t')) (hne : t' ≠ t) : some b ≠ sv.ownBlock := by
  intro e
  obtain ⟨c', hc'⟩ := own_type h e.symm
  rw [hb] at hc'
  simp at hc'
  exact hne hc'.2
theorem own_ne {w : World} {t t' : TypeId} {base base' n n' : Nat} {sv sv' : Value} {xs xs' : List Value} (h : w.ownsRow base t 1 sv n xs) (h' : w.ownsRow base' t' 1 sv' n' xs') (hne : t' ≠ t) : ∀ b, sv'.ownBlock = some b → some b ≠ sv.ownBlock := fun b hb => by
  obtain ⟨c', hc'⟩ := own_type h' hb
  exact type_ne h hc' hne
theorem CRI.step {v w w2 w3 w4 w5 : World} {wd i LB : Nat} {y : Nat → Nat → Nat} {av rv av' rv' : Value} {RB : Nat → Nat} (h : CRI v wd y i av rv RB w) (hE : Ext w w2) (hL : w2.heap[LB]? = some (.cells (bytesA wd (y i)) 5)) (hg : Gr w2 w3 av.ownBlock) (ha : w3.ownsRow v.heap.size 3 1 av' (i + 1) (((List.range i).map fun j => .int .i64 ((j : Nat) : Int)) ++ [.int .i64 ((i : Nat) : Int)]))
    (hE3 : Ext w3 w4) (hg4 : Gr w4 w5 rv.ownBlock) (hr : w5.ownsRow v.heap.size 25 1 rv' (i + 1) (((List.range i).map fun j => .slice (some ⟨RB j, 0, none⟩) wd wd) ++ [.slice (some ⟨LB, 0, none⟩) wd wd])) :
    CRI v wd y (i + 1) av' rv' (fun j => if j = i then LB else RB j) w5 := by
  have gw : Gr w w2 none := ⟨hE.os, hE.output, hE.size, fun b hb _ => hE.block b hb⟩
  have gw3 : Gr w3 w4 none := ⟨hE3.os, hE3.output, hE3.size, fun b hb _ => hE3.block b hb⟩
  have a2 := own_gr h.at_ gw (by simp)
  have r2 := own_gr h.rows gw (by simp)
  have r3 := own_gr r2 hg (own_ne a2 r2 (by decide))
  have r4 := own_gr r3 gw3 (by simp)
  have a4 := own_gr ha gw3 (by simp)
  have keep : ∀ {b : Nat} {cc : Array Value}, w2.heap[b]? = some (.cells cc 5) → w5.heap[b]? = some (.cells cc 5) := fun hb => by
    have h3 := hg.row hb (type_ne a2 hb (by decide))
    have h4 := hE3.row h3
    exact hg4.row h4 (type_ne r4 h4 (by decide))
  refine ⟨?_, ?_, ?_, fun j hj => ?_⟩
  · exact Gr.over ((Gr.over (h.ext.trans _ _ _ hE) hg fun b hb => own_base a2 hb).trans _ _ _ hE3) hg4 fun b hb => own_base r4 hb
  · rw [List.range_succ, List.map_append]
    exact own_gr a4 hg4 (own_ne r4 a4 (by decide))
  · rw [List.range_succ, List.map_append, List.map_congr_left (g := fun j => Value.slice (some ⟨RB j, 0, none⟩) wd wd)]
    · simpa using hr
    · intro j hj
      have : j ≠ i := by have := List.mem_range.1 hj; omega
      simp [this]
  · by_cases e : j = i
    · subst e
      simp only [if_true]
      exact keep hL
    · simp only [e, if_false]
      exact keep (hE.row (h.el j (by omega)))
theorem CRI.done {v w : World} {wd : Nat} {y : Nat → Nat → Nat} {av rv : Value} {RB : Nat → Nat} (h : CRI v wd y 10 av rv RB w) : ∃ AB ca BL cl, av = .slice (some ⟨AB, 0, none⟩) 10 ca ∧ rv = .slice (some ⟨BL, 0, none⟩) 10 cl ∧ SolIn w AB 0 BL 0 wd id (fun j => some ⟨RB j, 0, none⟩) (fun _ => wd) y := by
  obtain ⟨AB, ca, cur, q1, q2, q3, q4, q5, q6⟩ := own_some h.at_ (.inl (by omega))
  obtain ⟨BL, cl, cur', r1, r2, r3, r4, r5, r6⟩ := own_some h.rows (.inl (by omega))
  refine ⟨AB, ca, BL, cl, q1, r1, fun i hi => ?_, fun i hi => ?_, fun i hi => ?_⟩
  · rw [Nat.zero_add, cell_of_row _ AB i _ _ _ q3, q6 i hi]
    simp [hi]
  · rw [Nat.zero_add, cell_of_row _ BL i _ _ _ r3, r6 i hi]
    simp [hi]
  · exact .inl (.inr ⟨RB i, 0, rfl, Nat.le_refl _, fun j hj => by rw [Nat.zero_add, cell_of_row _ (RB i) j _ _ _ (h.el i hi)]; exact bytesA_get wd _ j hj⟩)
structure RcF (f : Nat → Value) (p : Option Addr) (len cap wd : Nat) (av rv : Value) (i : Nat) : Prop where
  g0 : f 0 = .slice p len cap
  g4 : f 4 = .int .i64 (wd : Nat)
  g5 : f 5 = av
  g6 : f 6 = rv
  g7 : f 7 = .int .i64 (i : Nat)
set_option maxRecDepth 100000 in
set_option maxHeartbeats 4000000 in
/-- One row is filled. -/
theorem rcut_row {S : Nat → Prop} {v w : World} {f : Nat → Value} {Stop : Goroutine → (Nat → Prop) → World → Prop} {cs : List Frame} {k0 : List Item} (p : Option Addr) (len cap wd i LB : Nat) (av rv : Value) (val : Nat → Nat) (hwd : wd ≤ 40) (hi : i < 10) (hx : ∀ i, val i < 256) (hs : SliceV v p len cap val) (hl : len ≤ 400) (hE : Ext v w) (hLB : w.heap.size = LB + 1) (hnew : v.heap.size ≤ LB) (hr : w.heap[LB]? = some (.cells (bytesA wd fun _ => 0) 5)) (hF : RcF f p len cap wd av rv i) (g8 : f 8 = sl LB wd) (g9 : f 9 = .int .i64 0)
    (next : ∀ w' f', Wr w LB (.cells (bytesA wd (rowOf val len wd i)) 5) w' → RcF f' p len cap wd av rv i → f' 8 = sl LB wd → Vw.Reach Try.prog Stop (G ((base 14).at ⟨TA 63 f', []⟩ k0) cs) S w') :
    Vw.Reach Try.prog Stop (G ((base 14).at ⟨TA 63 f, []⟩ (.code (loopAt 1 (Try.f14.body.getD .skip)) :: .inBlock 2 :: k0)) cs) S w := by
  have e : loopAt 1 (Try.f14.body.getD .skip) = .loop _ := rfl
  rw [e]
  clear e
  refine reach_rounds (fun d f' S' w' => ∃ k, d = wd - k ∧ k ≤ wd ∧ S' = S ∧ Wr w LB (.cells (bytesA wd fun c => if c < k then rowOf val len wd i c else 0) 5) w' ∧ RcF f' p len cap wd av rv i ∧ f' 8 = sl LB wd ∧ f' 9 = .int .i64 (k : Nat)) wd ⟨0, by omega, by omega, rfl, ⟨by rw [hr]; rfl, fun _ _ => rfl, rfl, rfl, rfl⟩, hF, g8, g9⟩ ?_
  clear hF g8 g9 f
  rintro d f S' w' ⟨k, rfl, hk, eS, hW, ⟨g0, g4, g5, g6, g7⟩, g8, g9⟩ nxt
  subst S'
  repeat (first|refine rA ?_|refine rB ?_|refine rC ?_|refine rD ?_|(refine rR ?_;simp only [tO, Nat.reduceAdd])|refine rE ?_|(refine rO goodFF rfl ?_;intro _ hu_ K_ hK_;go_simp;(try rw [wI _]);(try rw [wU _]);refine hK_ _ ?_;clear hK_ K_ hu_;simp only [sS, sN])|(refine rP rfl ?_;simp only [sS, sN]))
  by_cases hlt : k < wd
  · have hkI : (k : Int) < (wd : Int) := by omega
    have hm1 : i * wd ≤ 9 * 40 := Nat.mul_le_mul (by omega) hwd
    have hmI : (i : Int) * (wd : Int) = ((i * wd : Nat) : Int) := by simp
    have hq0 : (0 : Int) ≤ (i : Int) * (wd : Int) := by omega
    have hq1 : (i : Int) * (wd : Int) ≤ 360 := by omega
    have HE : Hid ((i : Int) * (wd : Int) = ((i * wd : Nat) : Int)) := hmI
    clear hmI
    (refine reach_cond (t := true) (by simp [Act.eval, hlt]) ?_; simp only [if_true, if_false, reduceIte, Bool.false_eq_true])
    have keep : ∀ {b o : Nat} {x : Value}, v.cell? ⟨b, o, none⟩ = some x → w'.cell? ⟨b, o, none⟩ = some x := fun {b o x} hb => by
      have hlt := lt_of_cell hb
      simp only at hlt
      rw [World.cell?_of_block (hW.other b (by omega))]
      exact hE.cell hb
    by_cases hin : i * wd + k < len
    · have hinI : (i : Int) * (wd : Int) + (k : Int) < (len : Int) := by have := HE.out; omega
      obtain ⟨B, off, hp, hc, hb⟩ : ∃ B off, p = some ⟨B, off, none⟩ ∧ len ≤ cap ∧ BytesAt v B off len val := by
        rcases hs with ⟨_, h, _⟩ | h
        · omega
        · exact h
      subst hp
      have hcell := keep (hb (i * wd + k) hin)
      have htn : ((i : Int) * (wd : Int) + (k : Int)).toNat = i * wd + k := by have := HE.out; omega
      have HT : Hid (((i : Int) * (wd : Int) + (k : Int)).toNat = i * wd + k) := htn
      rw [← htn] at hcell
      clear htn
      have hv := hx (i * wd + k)
      have hz0 : (0 : Int) ≤ (i : Int) * (wd : Int) + (k : Int) := by omega
      repeat (first|refine rA ?_|refine rB ?_|refine rC ?_|refine rD ?_|(refine rR ?_;simp only [tO, Nat.reduceAdd])|refine rE ?_|(refine rO goodFF rfl ?_;intro _ hu_ K_ hK_;(have hc := (Ext.twin hu_).cell hcell);go_simp;(try rw [wI _]);(try rw [wU _]);refine hK_ _ ?_;clear hK_ K_ hu_;simp only [sS, sN])|(refine rP rfl ?_;simp only [sS, sN]))
      (refine reach_cond (t := true) (by simp [Act.eval, hinI, hin]) ?_; simp only [if_true, if_false, reduceIte, Bool.false_eq_true])
      repeat (first|refine rA ?_|refine rB ?_|refine rC ?_|refine rD ?_|(refine rR ?_;simp only [tO, Nat.reduceAdd])|refine rE ?_|(refine rO goodFF rfl ?_;intro _ hu_ K_ hK_;(have hc := (Ext.twin hu_).cell hcell);go_simp;(try rw [wI _]);(try rw [wU _]);refine hK_ _ ?_;clear hK_ K_ hu_;simp only [sS, sN])|(refine rP rfl ?_;simp only [sS, sN]))
      refine reach_store1 goodFF rfl rfl (by kernel_rfl) (x := .tmp 51) (y := .tmp 50) (g := LB) (j := k) (z := .int .u8 ((val (i * wd + k) : Nat) : Int)) rfl (by simp) (by simp [HT.out]) rfl rfl hW.at_ (by rw [bytesA_size]; exact hlt) (by kernel_rfl) fun w3 hW3 => ?_
      simp only [stO_none]
      rw [bytesA_step wd k _ (rowOf val len wd i) (by simp [rowOf, hin])] at hW3
      repeat (first|refine rA ?_|refine rB ?_|refine rC ?_|refine rD ?_|(refine rR ?_;simp only [tO, Nat.reduceAdd])|refine rE ?_|(refine rO goodFF rfl ?_;intro _ hu_ K_ hK_;go_simp;(try rw [wI _]);(try rw [wU _]);refine hK_ _ ?_;clear hK_ K_ hu_;simp only [sS, sN])|(refine rP rfl ?_;simp only [sS, sN]))
      refine nxt _ _ _ (wd - (k + 1)) (by omega) ⟨k + 1, rfl, by omega, rfl, ⟨hW3.at_, fun b hb => (hW3.other b hb).trans (hW.other b hb), hW3.size.trans hW.size, hW3.os.trans hW.os, hW3.output.trans hW.output⟩, ⟨by simp [g0], by simp [g4], by simp [g5], by simp [g6], by simp [g7]⟩, by simp [g8], by simp⟩
    · have hinI : ¬ (i : Int) * (wd : Int) + (k : Int) < (len : Int) := by have := HE.out; omega
      repeat (first|refine rA ?_|refine rB ?_|refine rC ?_|refine rD ?_|(refine rR ?_;simp only [tO, Nat.reduceAdd])|refine rE ?_|(refine rO goodFF rfl ?_;intro _ hu_ K_ hK_;go_simp;(try rw [wI _]);(try rw [wU _]);refine hK_ _ ?_;clear hK_ K_ hu_;simp only [sS, sN])|(refine rP rfl ?_;simp only [sS, sN]))
      (refine reach_cond (t := false) (by simp [Act.eval, hinI, hin]) ?_; simp only [if_true, if_false, reduceIte, Bool.false_eq_true])
      repeat (first|refine rA ?_|refine rB ?_|refine rC ?_|refine rD ?_|(refine rR ?_;simp only [tO, Nat.reduceAdd])|refine rE ?_|(refine rO goodFF rfl ?_;intro _ hu_ K_ hK_;go_simp;(try rw [wI _]);(try rw [wU _]);refine hK_ _ ?_;clear hK_ K_ hu_;simp only [sS, sN])|(refine rP rfl ?_;simp only [sS, sN]))
      refine nxt _ _ _ (wd - (k + 1)) (by omega) ⟨k + 1, rfl, by omega, rfl, ?_, ⟨by simp [g0], by simp [g4], by simp [g5], by simp [g6], by simp [g7]⟩, by simp [g8], by simp⟩
      rw [bytesA_congr (g := fun c => if c < k + 1 then rowOf val len wd i c else 0) fun c hc => ?_] at hW
      · exact hW
      · by_cases e : c = k
        · subst e
          simp [rowOf, hin]
        · simp only [show c < k + 1 ↔ c < k by omega]
  · obtain rfl : k = wd := by omega
    (refine reach_cond (t := false) (by simp [Act.eval]) ?_; simp only [if_true, if_false, reduceIte, Bool.false_eq_true])
    refine reach_exit rfl ?_
    exact next _ _ (by rw [bytesA_congr (g := rowOf val len k i) fun c hc => by simp [hc]] at hW; exact hW) ⟨by simp [g0], by simp [g4], by simp [g5], by simp [g6], by simp [g7]⟩ (by simp [g8])
set_option maxRecDepth 100000 in
theorem rcut_eq : Try.f14.body.getD .skip = .seq (nth 0 (Try.f14.body.getD .skip)) (.seq (nth 1 (Try.f14.body.getD .skip)) (.seq (nth 2 (Try.f14.body.getD .skip)) (.seq (nth 3 (Try.f14.body.getD .skip)) (rst 4 (Try.f14.body.getD .skip))))) := rfl
set_option maxRecDepth 100000 in
set_option maxHeartbeats 4000000 in
theorem rcut_b {S : Nat → Prop} {v : World} {f : Nat → Value} {Stop : Goroutine → (Nat → Prop) → World → Prop} {cs : List Frame} (p : Option Addr) (len cap wd : Nat) (val : Nat → Nat) (hl : len ≤ 400) (hwd : wd ≤ 40) (hx : ∀ i, val i < 256) (hs : SliceV v p len cap val) (f0 : f 0 = .slice p len cap) (f4 : f 4 = .int .i64 (wd : Nat))
    (ret : ∀ (f' : Nat → Value) (todo : List Item) (x : Value) (v' : World), f' 2 = x → f' 3 = .int .i64 0 → RefP v x wd (fun j c => Fld.comb (Fld.wgt id j) (rowOf val len wd) 10 c) v' → Vw.Reach Try.prog Stop (G { (base 14).at ⟨TA 63 f', []⟩ todo with mode := .returning } cs) S v') :
    Vw.Reach Try.prog Stop (G ((base 14).at ⟨TA 63 f, []⟩ [.code (rst 4 (Try.f14.body.getD .skip))]) cs) S v := by
  obtain ⟨ib, zb, is1, is2, is3, is4, is5⟩ := infoS
  obtain ⟨iN, zn, in1, in2, in3, in4, in5⟩ := infoN
  simp only [rst, tl, Try.f14, Option.getD_some]
  repeat (first|refine rA ?_|refine rB ?_|refine rC ?_|refine rD ?_|(refine rR ?_;simp only [tO, Nat.reduceAdd])|refine rE ?_|(refine rO goodFF rfl ?_;intro _ hu_ K_ hK_;go_simp;(try rw [wI _]);(try rw [wU _]);refine hK_ _ ?_;clear hK_ K_ hu_;simp only [sS, sN])|(refine rP rfl ?_;simp only [sS, sN]))
  refine reach_rounds (fun d f' S' w => ∃ i av rv RB, d = 10 - i ∧ i ≤ 10 ∧ S' = S ∧ CRI v wd (rowOf val len wd) i av rv RB w ∧ RcF f' p len cap wd av rv i) 10 ⟨0, _, _, _, by omega, by omega, rfl, CRI.start _ _ _, by simp [f0], by simp [f4], by simp, by simp, by simp⟩ ?_
  clear f0 f4 f
  rintro d f S' w ⟨i, av, rv, RB, rfl, hi, eS, hC, ⟨g0, g4, g5, g6, g7⟩⟩ nxt
  subst S'
  repeat (first|refine rA ?_|refine rB ?_|refine rC ?_|refine rD ?_|(refine rR ?_;simp only [tO, Nat.reduceAdd])|refine rE ?_|(refine rO goodFF rfl ?_;intro _ hu_ K_ hK_;go_simp;(try rw [wI _]);(try rw [wU _]);refine hK_ _ ?_;clear hK_ K_ hu_;simp only [sS, sN])|(refine rP rfl ?_;simp only [sS, sN]))
  by_cases hlt : i < 10
  · have hiI : (i : Int) < 10 := by omega
    (refine reach_cond (t := true) (by simp [Act.eval, hiI]) ?_; simp only [if_true, if_false, reduceIte, Bool.false_eq_true])
    repeat (first|refine rA ?_|refine rB ?_|refine rC ?_|refine rD ?_|(refine rR ?_;simp only [tO, Nat.reduceAdd])|refine rE ?_|(refine rO goodFF rfl ?_;intro _ hu_ K_ hK_;go_simp;(try rw [wI _]);(try rw [wU _]);refine hK_ _ ?_;clear hK_ K_ hu_;simp only [sS, sN])|(refine rP rfl ?_;simp only [sS, sN]))
    refine reach_makeBytes goodFF rfl rfl (by kernel_rfl) rfl (m := wd) (by simp) (by simp) (by omega) (by kernel_rfl) Try.underlying25 fun w1 hE1 hr1 hs1 => ?_
    simp only [stO_some]
    repeat (first|refine rA ?_|refine rB ?_|refine rC ?_|refine rD ?_|(refine rR ?_;simp only [tO, Nat.reduceAdd])|refine rE ?_|(refine rO goodFF rfl ?_;intro _ hu_ K_ hK_;go_simp;(try rw [wI _]);(try rw [wU _]);refine hK_ _ ?_;clear hK_ K_ hu_;simp only [sS, sN])|(refine rP rfl ?_;simp only [sS, sN]))
    refine rcut_row p len cap wd i w.heap.size av rv val hwd hlt hx hs hl (hC.ext.trans _ _ _ hE1) hs1 hC.ext.size (by rw [hr1, bytesA_zero]) ⟨by simp [g0], by simp [g4], by simp [g5], by simp [g6], by simp [g7]⟩ (by simp) (by simp) fun w2 f2 hW hF h8 => ?_
    obtain ⟨q0, q4, q5, q6, q7⟩ := hF
    have hE2 : Ext w w2 := wr_ext hE1 (Nat.le_refl _) hW
    have hL2 := hW.at_
    repeat (first|refine rA ?_|refine rB ?_|refine rC ?_|refine rD ?_|(refine rR ?_;simp only [tO, Nat.reduceAdd])|refine rE ?_|(refine rO goodFF rfl ?_;intro _ hu_ K_ hK_;go_simp;(try rw [wI _]);(try rw [wU _]);refine hK_ _ ?_;clear hK_ K_ hu_;simp only [sS, sN])|(refine rP rfl ?_;simp only [sS, sN]))
    refine reach_turnQ (Q := fun x w3 => x = .slice (some ⟨w2.heap.size, 0, none⟩) 1 1 ∧ Ext w2 w3 ∧ w3.heap[w2.heap.size]? = some (.cells #[.int .i64 ((i : Nat) : Int)] 3)) goodFF rfl rfl (by kernel_rfl) (fun u hu => ⟨_, _, .inl (run_build1 (x := .tmp 53) (y := .int .i64 ((i : Nat) : Int)) rfl Try.underlying58 in1 in2 in3 in5 (by simp) rfl u), by rw [hu.heap], (Ext.twin hu).trans _ _ _ (Ext.alloc _ _), by rw [← hu.heap]; exact alloc_at _ _⟩) ?_
    rintro _ w3 ⟨rfl, hE3, hr3⟩
    simp only [stO_some]
    have hEa := hE2.trans _ _ _ hE3
    have gw : Gr w w3 none := ⟨hEa.os, hEa.output, hEa.size, fun b hb _ => hEa.block b hb⟩
    refine reach_turnQ goodFF rfl rfl (by kernel_rfl) (fun u hu => append_does (s := .tmp 52) (x := .tmp 54) (ad := ⟨w2.heap.size, 0, none⟩) (m := 1) (c := 1) (news := [.int .i64 ((i : Nat) : Int)]) hu v.heap.size Try.underlying58 in1 in2 in3 in4 (by rw [in5]; rfl) (own_gr hC.at_ gw (by simp)) rfl (one_cell hr3) (fun y hy => by rw [List.mem_singleton] at hy; subst hy; rfl) (by omega) (by omega) (Nat.le_trans hC.ext.size hEa.size) rfl (by simp [q5]) (by simp)) ?_
    rintro av' w4 ⟨ha', hg4, _⟩
    simp only [stO_some]
    repeat (first|refine rA ?_|refine rB ?_|refine rC ?_|refine rD ?_|(refine rR ?_;simp only [tO, Nat.reduceAdd])|refine rE ?_|(refine rO goodFF rfl ?_;intro _ hu_ K_ hK_;go_simp;(try rw [wI _]);(try rw [wU _]);refine hK_ _ ?_;clear hK_ K_ hu_;simp only [sS, sN])|(refine rP rfl ?_;simp only [sS, sN]))
    refine reach_turnQ (Q := fun x w5 => x = .slice (some ⟨w4.heap.size, 0, none⟩) 1 1 ∧ Ext w4 w5 ∧ w5.heap[w4.heap.size]? = some (.cells #[.slice (some ⟨w.heap.size, 0, none⟩) wd wd] 25)) goodFF rfl rfl (by kernel_rfl) (fun u hu => ⟨_, _, .inl (run_build1 (x := .tmp 57) (y := .slice (some ⟨w.heap.size, 0, none⟩) wd wd) rfl Try.underlying34 is1 is2 is3 is5 (by simp [h8]) rfl u), by rw [hu.heap], (Ext.twin hu).trans _ _ _ (Ext.alloc _ _), by rw [← hu.heap]; exact alloc_at _ _⟩) ?_
    rintro _ w5 ⟨rfl, hE5, hr5⟩
    simp only [stO_some]
    have g5' : Gr w4 w5 none := ⟨hE5.os, hE5.output, hE5.size, fun b hb _ => hE5.block b hb⟩
    have a3 := own_gr hC.at_ gw (by simp)
    have r3 := own_gr hC.rows gw (by simp)
    have r4 := own_gr r3 hg4 (own_ne a3 r3 (by decide))
    refine reach_turnQ goodFF rfl rfl (by kernel_rfl) (fun u hu => append_does (s := .tmp 56) (x := .tmp 58) (ad := ⟨w4.heap.size, 0, none⟩) (m := 1) (c := 1) (news := [.slice (some ⟨w.heap.size, 0, none⟩) wd wd]) hu v.heap.size Try.underlying34 is1 is2 is3 is4 (by rw [is5]; rfl) (own_gr r4 g5' (by simp)) rfl (one_cell hr5) (fun y hy => by rw [List.mem_singleton] at hy; subst hy; rfl) (by omega) (by omega) (Nat.le_trans (Nat.le_trans hC.ext.size hEa.size) (Nat.le_trans hg4.size hE5.size)) rfl (by simp [q6]) (by simp)) ?_
    rintro rv' w6 ⟨hr', hg6, _⟩
    simp only [stO_some]
    repeat (first|refine rA ?_|refine rB ?_|refine rC ?_|refine rD ?_|(refine rR ?_;simp only [tO, Nat.reduceAdd])|refine rE ?_|(refine rO goodFF rfl ?_;intro _ hu_ K_ hK_;go_simp;(try rw [wI _]);(try rw [wU _]);refine hK_ _ ?_;clear hK_ K_ hu_;simp only [sS, sN])|(refine rP rfl ?_;simp only [sS, sN]))
    refine nxt _ _ _ (10 - (i + 1)) (by omega) ⟨i + 1, av', rv', _, rfl, by omega, rfl, hC.step hEa (hE3.row hL2) hg4 ha' hE5 hg6 hr', by simp [q0], by simp [q4], by simp, by simp, by simp⟩
  · obtain rfl : i = 10 := by omega
    obtain ⟨AB, ca, BL, cl, rfl, rfl, hI⟩ := hC.done
    (refine reach_cond (t := false) (by simp [Act.eval, g7]) ?_; simp only [if_true, if_false, reduceIte, Bool.false_eq_true])
    refine reach_exit rfl ?_
    repeat (first|refine rA ?_|refine rB ?_|refine rC ?_|refine rD ?_|(refine rR ?_;simp only [tO, Nat.reduceAdd])|refine rE ?_|(refine rO goodFF rfl ?_;intro _ hu_ K_ hK_;go_simp;(try rw [wI _]);(try rw [wU _]);refine hK_ _ ?_;clear hK_ K_ hu_;simp only [sS, sN])|(refine rP rfl ?_;simp only [sS, sN]))
    (refine reach_callR rfl (by first | rfl | simp [Region.wanted, yielded, TA_get, *]) rfl Try.func36 (by kernel_rfl) rfl (by simp [Act.eval, *]; try rfl) (all_r AB 0 ca BL 0 cl wd id _ _ (rowOf val len wd) (by omega) (fun i hi => by simp only [id]; omega) (fun i j _ _ e => e) (fun j c => row_lt hx _ _ _ _) hI) ?_)
    rintro x S1 v1 _ ⟨⟨hE1, OB, cO, PB, rfl, hl1, hl2⟩, e1⟩
    subst S1
    simp only [stO_some]
    repeat (first|refine rA ?_|refine rB ?_|refine rC ?_|refine rD ?_|(refine rR ?_;simp only [tO, Nat.reduceAdd])|refine rE ?_|(refine rO goodFF rfl ?_;intro _ hu_ K_ hK_;go_simp;(try rw [wI _]);(try rw [wU _]);refine hK_ _ ?_;clear hK_ K_ hu_;simp only [sS, sN])|(refine rP rfl ?_;simp only [sS, sN]))
    refine reach_ret fun todo => ?_
    exact ret _ _ _ _ (by simp) (by simp) ⟨hC.ext.trans _ _ _ hE1, OB, cO, PB, rfl, hl1, hl2⟩
set_option maxRecDepth 100000 in
set_option maxHeartbeats 4000000 in
theorem rcut_r {S : Nat → Prop} {v : World} (p : Option Addr) (len cap : Nat) (val : Nat → Nat) (hl : len ≤ 400) (hx : ∀ i, val i < 256) (hs : SliceV v p len cap val) :
    CallsR Try.prog 14 #[.slice p len cap] S v fun y S' v' => ∃ x, y = .tuple #[x, .int .i64 0] ∧ RefP v x ((len + 9) / 10) (fun j c => Fld.comb (Fld.wgt id j) (rowOf val len ((len + 9) / 10)) 10 c) v' ∧ S' = S := by
  refine callsR_body (c := Try.f14.body.getD .skip) Try.func14 rfl Try.ntmps14 (by simp) fun Stop cc cs ret => ?_
  have g0 : argF #[.slice p len cap] 0 = .slice p len cap := rfl
  generalize argF #[.slice p len cap] = f at g0
  have hI : ¬ (400 : Int) < (len : Int) := by omega
  have hq0 : (len : Int).tdiv 10 = (len : Int) / 10 := Int.tdiv_eq_ediv_of_nonneg (by omega)
  have hr0 : (len : Int).tmod 10 = (len : Int) % 10 := Int.tmod_eq_emod_of_nonneg (by omega)
  have hq : (len : Int).tdiv 10 = ((len / 10 : Nat) : Int) := by omega
  have hr : (len : Int).tmod 10 = ((len % 10 : Nat) : Int) := by omega
  clear hq0 hr0
  have ret' : ∀ (f' : Nat → Value) (todo : List Item) (x : Value) (v' : World), f' 2 = x → f' 3 = .int .i64 0 → RefP v x ((len + 9) / 10) (fun j c => Fld.comb (Fld.wgt id j) (rowOf val len ((len + 9) / 10)) 10 c) v' → Vw.Reach Try.prog Stop (G { (base 14).at ⟨TA 63 f', []⟩ todo with mode := .returning } (cc :: cs)) S v' := fun f' todo x v' h2 h3 hT => ret f' todo S v' (.tuple #[x, .int .i64 0]) (by simp [results, Try.results14, h2, h3]) ⟨x, rfl, hT, rfl⟩
  have hb := @rcut_b S v
  rw [rcut_eq]
  generalize rst 4 (Try.f14.body.getD .skip) = C4 at hb ⊢
  simp only [nth, hd, tl, Try.f14, Option.getD_some]
  repeat (first|refine rA ?_|refine rB ?_|refine rC ?_|refine rD ?_|(refine rR ?_;simp only [tO, Nat.reduceAdd])|refine rE ?_|(refine rO goodFF rfl ?_;intro _ hu_ K_ hK_;go_simp;(try rw [wI _]);(try rw [wU _]);refine hK_ _ ?_;clear hK_ K_ hu_;simp only [sS, sN])|(refine rP rfl ?_;simp only [sS, sN]))
  (refine reach_cond (t := false) (by simp [Act.eval, hI]) ?_; simp only [if_true, if_false, reduceIte, Bool.false_eq_true])
  by_cases h0 : len % 10 = 0
  · rw [h0] at hr
    repeat (first|refine rA ?_|refine rB ?_|refine rC ?_|refine rD ?_|(refine rR ?_;simp only [tO, Nat.reduceAdd])|refine rE ?_|(refine rO goodFF rfl ?_;intro _ hu_ K_ hK_;go_simp;(try rw [wI _]);(try rw [wU _]);refine hK_ _ ?_;clear hK_ K_ hu_;simp only [sS, sN])|(refine rP rfl ?_;simp only [sS, sN]))
    (refine reach_cond (t := false) (by simp [Act.eval]) ?_; simp only [if_true, if_false, reduceIte, Bool.false_eq_true])
    refine reach_skip ?_
    exact hb p len cap ((len + 9) / 10) val hl (by omega) hx hs (by simp [g0]) (by simp; omega) ret'
  · have h0I : (0 : Int) < ((len % 10 : Nat) : Int) := by omega
    have h0J : (0 : Int) < (len : Int) % 10 := by omega
    repeat (first|refine rA ?_|refine rB ?_|refine rC ?_|refine rD ?_|(refine rR ?_;simp only [tO, Nat.reduceAdd])|refine rE ?_|(refine rO goodFF rfl ?_;intro _ hu_ K_ hK_;go_simp;(try rw [wI _]);(try rw [wU _]);refine hK_ _ ?_;clear hK_ K_ hu_;simp only [sS, sN])|(refine rP rfl ?_;simp only [sS, sN]))
    (refine reach_cond (t := true) (by simp [Act.eval, h0I, h0J]) ?_; simp only [if_true, if_false, reduceIte, Bool.false_eq_true])
    repeat (first|refine rA ?_|refine rB ?_|refine rC ?_|refine rD ?_|(refine rR ?_;simp only [tO, Nat.reduceAdd])|refine rE ?_|(refine rO goodFF rfl ?_;intro _ hu_ K_ hK_;go_simp;(try rw [wI _]);(try rw [wU _]);refine hK_ _ ?_;clear hK_ K_ hu_;simp only [sS, sN])|(refine rP rfl ?_;simp only [sS, sN]))
    exact hb p len cap ((len + 9) / 10) val hl (by omega) hx hs (by simp [g0]) (by simp; omega) ret'
end Go.Proofs.Ytpiefebngnlfoaa
