/-
  mosaicref.Mend: its walk.
-/
import Derived.Test.YtpiefebngnlfoaaMa
set_option linter.unusedVariables false
set_option linter.unusedSimpArgs false
namespace Go.Proofs.Ytpiefebngnlfoaa
open Go.RowKit Go.Conc Go.Vw

theorem rmend_next {q : Nat → Option Addr} {ln : Nat → Nat} {k : Nat} (hok : okL q ln k = true) (ha : anyB q k = true → ln k = lastL q ln k) (hs : (q k).isSome = true) : okL q ln (k + 1) = true ∧ lastL q ln (k + 1) = ln k ∧ anyB q (k + 1) = true ∧ cntR q (k + 1) = cntR q k + 1 := by
  refine ⟨?_, ?_, ?_, ?_⟩
  · conv => lhs; unfold okL
    rw [hok, hs]
    cases h : anyB q k with
    | false => rfl
    | true => simp [ha h]
  · conv => lhs; unfold lastL
    rw [if_pos hs]
  · rw [anyB_succ, hs]; simp
  · conv => lhs; unfold cntR
    rw [if_pos hs]
theorem rmend_none {q : Nat → Option Addr} {ln : Nat → Nat} {k : Nat} (hok : okL q ln k = true) (hs : q k = none) : okL q ln (k + 1) = true ∧ lastL q ln (k + 1) = lastL q ln k ∧ anyB q (k + 1) = anyB q k ∧ cntR q (k + 1) = cntR q k := by
  refine ⟨?_, ?_, ?_, ?_⟩
  · conv => lhs; unfold okL
    rw [hok, hs]
    rfl
  · conv => lhs; unfold lastL
    rw [hs]
    rfl
  · rw [anyB_succ, hs]; simp
  · conv => lhs; unfold cntR
    rw [hs]
    rfl
theorem anyB_mono {q : Nat → Option Addr} {k j : Nat} (h : k < j) (hs : (q k).isSome = true) : anyB q j = true := by
  simp only [anyB, List.any_eq_true]
  exact ⟨k, by simpa using h, hs⟩
/-- It is no good: a length that differs, or one too great. -/
theorem rmend_bad {q : Nat → Option Addr} {ln : Nat → Nat} {k : Nat} (hk : k < 14) (hs : (q k).isSome = true) (hb : (anyB q k = true ∧ ln k ≠ lastL q ln k) ∨ 400 < ln k) : ¬ (okL q ln 14 = true ∧ (anyB q 14 = true → lastL q ln 14 ≤ 400)) := by
  rintro ⟨h1, h2⟩
  have h3 := h2 (anyB_mono hk hs)
  have h4 := okL_all 14 h1 k hk hs
  rcases hb with ⟨ha, hne⟩ | h
  · have := okL_mono (show k + 1 ≤ 14 by omega) h1
    unfold okL at this
    rw [hs, ha] at this
    simp only [Bool.and_eq_true, Bool.or_eq_true, Bool.not_true, Bool.false_eq_true, false_or, decide_eq_true_eq] at this
    exact hne this.2
  · omega
set_option maxRecDepth 100000 in
set_option maxHeartbeats 8000000 in
theorem rmend_r {S : Nat → Prop} {v : World} (BL ol cl : Nat) (q : Nat → Option Addr) (ln cp : Nat → Nat) (y : Nat → Nat → Nat) (hy : ∀ k i, y k i < 256) (hP : PLE v BL ol q ln cp y) (hbig : ∀ k, k < 14 → ln k < 2 ^ 62) :
    CallsR Try.prog 22 #[.slice (some ⟨BL, ol, none⟩) 14 cl] S v fun z S' v' => ∃ x e, z = .tuple #[x, .int .i64 (e : Nat)] ∧ S' = S ∧ Ext v v' ∧ RefM v q ln y x e v' := by
  obtain ⟨ib, zb, is1, is2, is3, is4, is5⟩ := infoS
  obtain ⟨iN, zn, in1, in2, in3, in4, in5⟩ := infoN
  refine callsR_body Try.func22 rfl Try.ntmps22 (by simp) fun Stop cc cs ret => ?_
  have h0 : argF #[.slice (some ⟨BL, ol, none⟩) 14 cl] 0 = .slice (some ⟨BL, ol, none⟩) 14 cl := rfl
  generalize argF #[.slice (some ⟨BL, ol, none⟩) 14 cl] = f at h0
  repeat (first|refine rA ?_|refine rB ?_|refine rC ?_|refine rD ?_|(refine rR ?_;simp only [tO, Nat.reduceAdd])|refine rE ?_|(refine rO goodFF rfl ?_;intro _ hu_ K_ hK_;go_simp;(try rw [wI _]);(try rw [wU _]);refine hK_ _ ?_;clear hK_ K_ hu_;simp only [sS, sN])|(refine rP rfl ?_;simp only [sS, sN]))
  (refine reach_cond (t := false) (by simp [Act.eval]) ?_; simp only [if_true, if_false, reduceIte, Bool.false_eq_true])
  repeat (first|refine rA ?_|refine rB ?_|refine rC ?_|refine rD ?_|(refine rR ?_;simp only [tO, Nat.reduceAdd])|refine rE ?_|(refine rO goodFF rfl ?_;intro _ hu_ K_ hK_;go_simp;(try rw [wI _]);(try rw [wU _]);refine hK_ _ ?_;clear hK_ K_ hu_;simp only [sS, sN])|(refine rP rfl ?_;simp only [sS, sN]))
  refine reach_rounds (fun d f' S' w => ∃ k av rv, d = 14 - k ∧ k ≤ 14 ∧ S' = S ∧ (Hid (okL q ln k = true ∧ (anyB q k = true → lastL q ln k ≤ 400)) ∧ RMI v q ln cp k av rv w) ∧ RmF f' BL ol cl av rv q ln k) 14 ⟨0, _, _, by omega, by omega, rfl, ⟨⟨rfl, fun h => by cases h⟩, RMI.start _ _ _ _⟩, by simp [h0], by simp, by simp, by simp [cntR], by simp [anyB], by simp⟩ ?_
  clear h0 f
  rintro d f S' w ⟨k, av, rv, rfl, hk, eS, ⟨HO, hI⟩, ⟨g0, g4, g5, g6, g7, g8⟩⟩ nxt
  subst S'
  repeat (first|refine rA ?_|refine rB ?_|refine rC ?_|refine rD ?_|(refine rR ?_;simp only [tO, Nat.reduceAdd])|refine rE ?_|(refine rO goodFF rfl ?_;intro _ hu_ K_ hK_;go_simp;(try rw [wI _]);(try rw [wU _]);refine hK_ _ ?_;clear hK_ K_ hu_;simp only [sS, sN])|(refine rP rfl ?_;simp only [sS, sN]))
  by_cases hlt : k < 14
  · have hkI : (k : Int) < 14 := by omega
    have hat := hI.ext.cell (hP.at_ k hlt)
    have hcl := cntR_le q k
    (refine reach_cond (t := true) (by simp [Act.eval, hkI]) ?_; simp only [if_true, if_false, reduceIte, Bool.false_eq_true])
    cases hq : q k with
    | none =>
      obtain ⟨n1, n2, n3, n4⟩ := rmend_none HO.out.1 hq
      have hI2 := hI.skip (.inl (by rw [hq]; rfl))
      rw [hq] at hat
      have HN := hide n2
      have HN3 := hide n3
      have HN4 := hide n4
      have HO2 : Hid (okL q ln (k + 1) = true ∧ (anyB q (k + 1) = true → lastL q ln (k + 1) ≤ 400)) := ⟨n1, by rw [n2, n3]; exact HO.out.2⟩
      clear n1 n2 n3 n4 hq
      repeat (first|refine rA ?_|refine rB ?_|refine rC ?_|refine rD ?_|(refine rR ?_;simp only [tO, Nat.reduceAdd])|refine rE ?_|(refine rO goodFF rfl ?_;intro _ hu_ K_ hK_;(have hc := (Ext.twin hu_).cell hat);go_simp;(try rw [wI _]);(try rw [wU _]);refine hK_ _ ?_;clear hK_ K_ hu_;simp only [sS, sN])|(refine rP rfl ?_;simp only [sS, sN]))
      (refine reach_cond (t := true) (by simp [Act.eval]) ?_; simp only [if_true, if_false, reduceIte, Bool.false_eq_true])
      refine reach_exit rfl ?_
      repeat (first|refine rA ?_|refine rB ?_|refine rC ?_|refine rD ?_|(refine rR ?_;simp only [tO, Nat.reduceAdd])|refine rE ?_|(refine rO goodFF rfl ?_;intro _ hu_ K_ hK_;go_simp;(try rw [wI _]);(try rw [wU _]);refine hK_ _ ?_;clear hK_ K_ hu_;simp only [sS, sN])|(refine rP rfl ?_;simp only [sS, sN]))
      refine nxt _ _ _ (14 - (k + 1)) (by omega) ⟨k + 1, av, rv, rfl, by omega, rfl, ⟨HO2, hI2⟩, by simp [g0], by simp [g4], by simp [g5], by simp [g6, HN4.out], by simp [g7, HN.out, HN3.out], by simp⟩
    | some a =>
      have hs : (q k).isSome = true := by rw [hq]; rfl
      have HS := hide hs
      have HQ := hide hq
      rw [hq] at hat
      have hlb := hbig k hlt
      by_cases hbad : (anyB q k = true ∧ ln k ≠ lastL q ln k) ∨ 400 < ln k
      · have hno := rmend_bad hlt hs hbad
        have HNo := hide hno
        clear hno hs hq
        by_cases hany : anyB q k = true
        · rw [if_pos hany] at g7
          have hz : (0 : Int) ≤ ((lastL q ln k : Nat) : Int) := by omega
          by_cases he : ln k = lastL q ln k
          · have hg4 : 400 < ln k := by
              rcases hbad with ⟨_, h⟩ | h
              · exact absurd he h
              · exact h
            have heI : ((ln k : Nat) : Int) = ((lastL q ln k : Nat) : Int) := by omega
            have hgI : (400 : Int) < ((lastL q ln k : Nat) : Int) := by omega
            have hgI' : (400 : Int) < ((ln k : Nat) : Int) := by omega
            clear hbad
            repeat (first|refine rA ?_|refine rB ?_|refine rC ?_|refine rD ?_|(refine rR ?_;simp only [tO, Nat.reduceAdd])|refine rE ?_|(refine rO goodFF rfl ?_;intro _ hu_ K_ hK_;(have hc := (Ext.twin hu_).cell hat);go_simp;(try rw [wI _]);(try rw [wU _]);refine hK_ _ ?_;clear hK_ K_ hu_;simp only [sS, sN])|(refine rP rfl ?_;simp only [sS, sN]))
            (refine reach_cond (t := false) (by simp [Act.eval]) ?_; simp only [if_true, if_false, reduceIte, Bool.false_eq_true])
            repeat (first|refine rA ?_|refine rB ?_|refine rC ?_|refine rD ?_|(refine rR ?_;simp only [tO, Nat.reduceAdd])|refine rE ?_|(refine rO goodFF rfl ?_;intro _ hu_ K_ hK_;(have hc := (Ext.twin hu_).cell hat);go_simp;(try rw [wI _]);(try rw [wU _]);refine hK_ _ ?_;clear hK_ K_ hu_;simp only [sS, sN])|(refine rP rfl ?_;simp only [sS, sN]))
            (refine reach_cond (t := true) (by simp [Act.eval, heI, hgI, hgI', hz, he, hg4]) ?_; simp only [if_true, if_false, reduceIte, Bool.false_eq_true])
            repeat (first|refine rA ?_|refine rB ?_|refine rC ?_|refine rD ?_|(refine rR ?_;simp only [tO, Nat.reduceAdd])|refine rE ?_|(refine rO goodFF rfl ?_;intro _ hu_ K_ hK_;go_simp;(try rw [wI _]);(try rw [wU _]);refine hK_ _ ?_;clear hK_ K_ hu_;simp only [sS, sN])|(refine rP rfl ?_;simp only [sS, sN]))
            refine reach_ret fun todo => ?_
            refine ret _ _ S w (.tuple #[.slice none 0 0, .int .i64 1]) ?_ ⟨.slice none 0 0, 1, rfl, rfl, hI.ext, .inl ⟨HNo.out, rfl, rfl⟩⟩
            simp [results, Try.results22]
          · have heI : ¬ ((ln k : Nat) : Int) = ((lastL q ln k : Nat) : Int) := by omega
            clear hbad
            repeat (first|refine rA ?_|refine rB ?_|refine rC ?_|refine rD ?_|(refine rR ?_;simp only [tO, Nat.reduceAdd])|refine rE ?_|(refine rO goodFF rfl ?_;intro _ hu_ K_ hK_;(have hc := (Ext.twin hu_).cell hat);go_simp;(try rw [wI _]);(try rw [wU _]);refine hK_ _ ?_;clear hK_ K_ hu_;simp only [sS, sN])|(refine rP rfl ?_;simp only [sS, sN]))
            (refine reach_cond (t := false) (by simp [Act.eval]) ?_; simp only [if_true, if_false, reduceIte, Bool.false_eq_true])
            repeat (first|refine rA ?_|refine rB ?_|refine rC ?_|refine rD ?_|(refine rR ?_;simp only [tO, Nat.reduceAdd])|refine rE ?_|(refine rO goodFF rfl ?_;intro _ hu_ K_ hK_;(have hc := (Ext.twin hu_).cell hat);go_simp;(try rw [wI _]);(try rw [wU _]);refine hK_ _ ?_;clear hK_ K_ hu_;simp only [sS, sN])|(refine rP rfl ?_;simp only [sS, sN]))
            (refine reach_cond (t := true) (by simp [Act.eval, heI, hz, he]) ?_; simp only [if_true, if_false, reduceIte, Bool.false_eq_true])
            repeat (first|refine rA ?_|refine rB ?_|refine rC ?_|refine rD ?_|(refine rR ?_;simp only [tO, Nat.reduceAdd])|refine rE ?_|(refine rO goodFF rfl ?_;intro _ hu_ K_ hK_;go_simp;(try rw [wI _]);(try rw [wU _]);refine hK_ _ ?_;clear hK_ K_ hu_;simp only [sS, sN])|(refine rP rfl ?_;simp only [sS, sN]))
            refine reach_ret fun todo => ?_
            refine ret _ _ S w (.tuple #[.slice none 0 0, .int .i64 1]) ?_ ⟨.slice none 0 0, 1, rfl, rfl, hI.ext, .inl ⟨HNo.out, rfl, rfl⟩⟩
            simp [results, Try.results22]
        · rw [if_neg hany] at g7
          have hg4 : 400 < ln k := by
            rcases hbad with ⟨h, _⟩ | h
            · exact absurd h hany
            · exact h
          have hgI' : (400 : Int) < ((ln k : Nat) : Int) := by omega
          clear hbad
          repeat (first|refine rA ?_|refine rB ?_|refine rC ?_|refine rD ?_|(refine rR ?_;simp only [tO, Nat.reduceAdd])|refine rE ?_|(refine rO goodFF rfl ?_;intro _ hu_ K_ hK_;(have hc := (Ext.twin hu_).cell hat);go_simp;(try rw [wI _]);(try rw [wU _]);refine hK_ _ ?_;clear hK_ K_ hu_;simp only [sS, sN])|(refine rP rfl ?_;simp only [sS, sN]))
          (refine reach_cond (t := false) (by simp [Act.eval]) ?_; simp only [if_true, if_false, reduceIte, Bool.false_eq_true])
          repeat (first|refine rA ?_|refine rB ?_|refine rC ?_|refine rD ?_|(refine rR ?_;simp only [tO, Nat.reduceAdd])|refine rE ?_|(refine rO goodFF rfl ?_;intro _ hu_ K_ hK_;(have hc := (Ext.twin hu_).cell hat);go_simp;(try rw [wI _]);(try rw [wU _]);refine hK_ _ ?_;clear hK_ K_ hu_;simp only [sS, sN])|(refine rP rfl ?_;simp only [sS, sN]))
          (refine reach_cond (t := true) (by simp [Act.eval, hgI', hg4]) ?_; simp only [if_true, if_false, reduceIte, Bool.false_eq_true])
          repeat (first|refine rA ?_|refine rB ?_|refine rC ?_|refine rD ?_|(refine rR ?_;simp only [tO, Nat.reduceAdd])|refine rE ?_|(refine rO goodFF rfl ?_;intro _ hu_ K_ hK_;go_simp;(try rw [wI _]);(try rw [wU _]);refine hK_ _ ?_;clear hK_ K_ hu_;simp only [sS, sN])|(refine rP rfl ?_;simp only [sS, sN]))
          refine reach_ret fun todo => ?_
          refine ret _ _ S w (.tuple #[.slice none 0 0, .int .i64 1]) ?_ ⟨.slice none 0 0, 1, rfl, rfl, hI.ext, .inl ⟨HNo.out, rfl, rfl⟩⟩
          simp [results, Try.results22]
      · have hle : ln k ≤ 400 := by
          refine Nat.le_of_not_lt fun h => hbad (.inr h)
        have hle2 : anyB q k = true → ln k = lastL q ln k := fun h => Classical.byContradiction fun e => hbad (.inl ⟨h, e⟩)
        obtain ⟨n1, n2, n3, n4⟩ := rmend_next HO.out.1 hle2 hs
        have HO2 : Hid (okL q ln (k + 1) = true ∧ (anyB q (k + 1) = true → lastL q ln (k + 1) ≤ 400)) := ⟨n1, fun _ => by rw [n2]; exact hle⟩
        have HN := hide n2
        have HN3 := hide n3
        have HN4 := hide n4
        have hleI : ¬ (400 : Int) < ((ln k : Nat) : Int) := by omega
        clear n1 n2 n3 n4 hbad hs hq
        by_cases hany : anyB q k = true
        · rw [if_pos hany] at g7
          have he := hle2 hany
          have hz : (0 : Int) ≤ ((lastL q ln k : Nat) : Int) := by omega
          have heI : ((ln k : Nat) : Int) = ((lastL q ln k : Nat) : Int) := by omega
          have hleJ : ¬ (400 : Int) < ((lastL q ln k : Nat) : Int) := by omega
          repeat (first|refine rA ?_|refine rB ?_|refine rC ?_|refine rD ?_|(refine rR ?_;simp only [tO, Nat.reduceAdd])|refine rE ?_|(refine rO goodFF rfl ?_;intro _ hu_ K_ hK_;(have hc := (Ext.twin hu_).cell hat);go_simp;(try rw [wI _]);(try rw [wU _]);refine hK_ _ ?_;clear hK_ K_ hu_;simp only [sS, sN])|(refine rP rfl ?_;simp only [sS, sN]))
          (refine reach_cond (t := false) (by simp [Act.eval]) ?_; simp only [if_true, if_false, reduceIte, Bool.false_eq_true])
          repeat (first|refine rA ?_|refine rB ?_|refine rC ?_|refine rD ?_|(refine rR ?_;simp only [tO, Nat.reduceAdd])|refine rE ?_|(refine rO goodFF rfl ?_;intro _ hu_ K_ hK_;(have hc := (Ext.twin hu_).cell hat);go_simp;(try rw [wI _]);(try rw [wU _]);refine hK_ _ ?_;clear hK_ K_ hu_;simp only [sS, sN])|(refine rP rfl ?_;simp only [sS, sN]))
          (refine reach_cond (t := false) (by simp [Act.eval, heI, hleI, hleJ, hz, he]) ?_; simp only [if_true, if_false, reduceIte, Bool.false_eq_true])
          repeat (first|refine rA ?_|refine rB ?_|refine rC ?_|refine rD ?_|(refine rR ?_;simp only [tO, Nat.reduceAdd])|refine rE ?_|(refine rO goodFF rfl ?_;intro _ hu_ K_ hK_;(have hc := (Ext.twin hu_).cell hat);go_simp;(try rw [wI _]);(try rw [wU _]);refine hK_ _ ?_;clear hK_ K_ hu_;simp only [sS, sN])|(refine rP rfl ?_;simp only [sS, sN]))
          by_cases h10 : (ftC q k).1 < 10
          · have hc10 : cntR q k + 1 ≤ 10 := by rw [ftC_cntR] at h10; omega
            have hc10I : ((cntR q k : Nat) : Int) + 1 ≤ 10 := by omega
            (refine reach_cond (t := true) (by simp [Act.eval, hc10I, hc10]) ?_; simp only [if_true, if_false, reduceIte, Bool.false_eq_true])
            repeat (first|refine rA ?_|refine rB ?_|refine rC ?_|refine rD ?_|(refine rR ?_;simp only [tO, Nat.reduceAdd])|refine rE ?_|(refine rO goodFF rfl ?_;intro _ hu_ K_ hK_;go_simp;(try rw [wI _]);(try rw [wU _]);refine hK_ _ ?_;clear hK_ K_ hu_;simp only [sS, sN])|(refine rP rfl ?_;simp only [sS, sN]))
            refine reach_turnQ (Q := fun x w3 => x = .slice (some ⟨w.heap.size, 0, none⟩) 1 1 ∧ Ext w w3 ∧ w3.heap[w.heap.size]? = some (.cells #[.int .i64 ((k : Nat) : Int)] 3)) goodFF rfl rfl (by kernel_rfl) (fun u hu => ⟨_, _, .inl (run_build1 (x := .tmp 52) (y := .int .i64 ((k : Nat) : Int)) rfl Try.underlying58 in1 in2 in3 in5 (by simp) rfl u), by rw [hu.heap], (Ext.twin hu).trans _ _ _ (Ext.alloc _ _), by rw [← hu.heap]; exact alloc_at _ _⟩) ?_
            rintro _ w3 ⟨rfl, hE3, hr3⟩
            simp only [stO_some]
            have gw : Gr w w3 none := ⟨hE3.os, hE3.output, hE3.size, fun b hb _ => hE3.block b hb⟩
            refine reach_turnQ goodFF rfl rfl (by kernel_rfl) (fun u hu => append_does (s := .tmp 51) (x := .tmp 53) (ad := ⟨w.heap.size, 0, none⟩) (m := 1) (c := 1) (news := [.int .i64 ((k : Nat) : Int)]) hu v.heap.size Try.underlying58 in1 in2 in3 in4 (by rw [in5]; rfl) (own_gr hI.at_ gw (by simp)) rfl (one_cell hr3) (fun y hy => by rw [List.mem_singleton] at hy; subst hy; rfl) (by omega) (by omega) (Nat.le_trans hI.ext.size hE3.size) rfl (by simp [g4]) (by simp)) ?_
            rintro av' w4 ⟨ha', hg4, _⟩
            simp only [stO_some]
            have a3 := own_gr hI.at_ gw (by simp)
            have r3 := own_gr hI.rows gw (by simp)
            have r4 := own_gr r3 hg4 (own_ne a3 r3 (by decide))
            have hEv4 : Ext v w4 := Gr.over (hI.ext.trans _ _ _ hE3) hg4 fun b hb => own_base a3 hb
            have hat4 := hEv4.cell (hP.at_ k hlt)
            rw [HQ.out] at hat4
            repeat (first|refine rA ?_|refine rB ?_|refine rC ?_|refine rD ?_|(refine rR ?_;simp only [tO, Nat.reduceAdd])|refine rE ?_|(refine rO goodFF rfl ?_;intro _ hu_ K_ hK_;(have hc := (Ext.twin hu_).cell hat4);go_simp;(try rw [wI _]);(try rw [wU _]);refine hK_ _ ?_;clear hK_ K_ hu_;simp only [sS, sN])|(refine rP rfl ?_;simp only [sS, sN]))
            refine reach_turnQ (Q := fun x w5 => x = .slice (some ⟨w4.heap.size, 0, none⟩) 1 1 ∧ Ext w4 w5 ∧ w5.heap[w4.heap.size]? = some (.cells #[.slice (q k) (ln k) (cp k)] 25)) goodFF rfl rfl (by kernel_rfl) (fun u hu => ⟨_, _, .inl (run_build1 (x := .tmp 59) (y := .slice (q k) (ln k) (cp k)) rfl Try.underlying34 is1 is2 is3 is5 (by simp [HQ.out, he]) rfl u), by rw [hu.heap], (Ext.twin hu).trans _ _ _ (Ext.alloc _ _), by rw [← hu.heap]; exact alloc_at _ _⟩) ?_
            rintro _ w5 ⟨rfl, hE5, hr5⟩
            simp only [stO_some]
            have g5' : Gr w4 w5 none := ⟨hE5.os, hE5.output, hE5.size, fun b hb _ => hE5.block b hb⟩
            refine reach_turnQ goodFF rfl rfl (by kernel_rfl) (fun u hu => append_does (s := .tmp 55) (x := .tmp 60) (ad := ⟨w4.heap.size, 0, none⟩) (m := 1) (c := 1) (news := [.slice (q k) (ln k) (cp k)]) hu v.heap.size Try.underlying34 is1 is2 is3 is4 (by rw [is5]; rfl) (own_gr r4 g5' (by simp)) rfl (one_cell hr5) (fun y hy => by rw [List.mem_singleton] at hy; subst hy; rfl) (by omega) (by omega) (Nat.le_trans hEv4.size hE5.size) rfl (by simp [g5]) (by simp)) ?_
            rintro rv' w6 ⟨hr', hg6, _⟩
            simp only [stO_some]
            repeat (first|refine rA ?_|refine rB ?_|refine rC ?_|refine rD ?_|(refine rR ?_;simp only [tO, Nat.reduceAdd])|refine rE ?_|(refine rO goodFF rfl ?_;intro _ hu_ K_ hK_;go_simp;(try rw [wI _]);(try rw [wU _]);refine hK_ _ ?_;clear hK_ K_ hu_;simp only [sS, sN])|(refine rP rfl ?_;simp only [sS, sN]))
            refine nxt _ _ _ (14 - (k + 1)) (by omega) ⟨k + 1, av', rv', rfl, by omega, rfl, ⟨HO2, hI.step HS.out h10 hE3 hg4 ha' hE5 hg6 hr'⟩, by simp [g0], by simp, by simp, by simp [HN4.out], by simp [HN.out, HN3.out, he], by simp⟩
          · have hc10 : ¬ cntR q k + 1 ≤ 10 := by rw [ftC_cntR] at h10; omega
            have hc10I : ¬ ((cntR q k : Nat) : Int) + 1 ≤ 10 := by omega
            (refine reach_cond (t := false) (by simp [Act.eval, hc10I, hc10]) ?_; simp only [if_true, if_false, reduceIte, Bool.false_eq_true])
            repeat (first|refine rA ?_|refine rB ?_|refine rC ?_|refine rD ?_|(refine rR ?_;simp only [tO, Nat.reduceAdd])|refine rE ?_|(refine rO goodFF rfl ?_;intro _ hu_ K_ hK_;go_simp;(try rw [wI _]);(try rw [wU _]);refine hK_ _ ?_;clear hK_ K_ hu_;simp only [sS, sN])|(refine rP rfl ?_;simp only [sS, sN]))
            refine nxt _ _ _ (14 - (k + 1)) (by omega) ⟨k + 1, av, rv, rfl, by omega, rfl, ⟨HO2, hI.skip (.inr h10)⟩, by simp [g0], by simp [g4], by simp [g5], by simp [HN4.out], by simp [HN.out, HN3.out, he], by simp⟩
        · rw [if_neg hany] at g7
          repeat (first|refine rA ?_|refine rB ?_|refine rC ?_|refine rD ?_|(refine rR ?_;simp only [tO, Nat.reduceAdd])|refine rE ?_|(refine rO goodFF rfl ?_;intro _ hu_ K_ hK_;(have hc := (Ext.twin hu_).cell hat);go_simp;(try rw [wI _]);(try rw [wU _]);refine hK_ _ ?_;clear hK_ K_ hu_;simp only [sS, sN])|(refine rP rfl ?_;simp only [sS, sN]))
          (refine reach_cond (t := false) (by simp [Act.eval]) ?_; simp only [if_true, if_false, reduceIte, Bool.false_eq_true])
          repeat (first|refine rA ?_|refine rB ?_|refine rC ?_|refine rD ?_|(refine rR ?_;simp only [tO, Nat.reduceAdd])|refine rE ?_|(refine rO goodFF rfl ?_;intro _ hu_ K_ hK_;(have hc := (Ext.twin hu_).cell hat);go_simp;(try rw [wI _]);(try rw [wU _]);refine hK_ _ ?_;clear hK_ K_ hu_;simp only [sS, sN])|(refine rP rfl ?_;simp only [sS, sN]))
          (refine reach_cond (t := false) (by simp [Act.eval, hleI]) ?_; simp only [if_true, if_false, reduceIte, Bool.false_eq_true])
          repeat (first|refine rA ?_|refine rB ?_|refine rC ?_|refine rD ?_|(refine rR ?_;simp only [tO, Nat.reduceAdd])|refine rE ?_|(refine rO goodFF rfl ?_;intro _ hu_ K_ hK_;(have hc := (Ext.twin hu_).cell hat);go_simp;(try rw [wI _]);(try rw [wU _]);refine hK_ _ ?_;clear hK_ K_ hu_;simp only [sS, sN])|(refine rP rfl ?_;simp only [sS, sN]))
          by_cases h10 : (ftC q k).1 < 10
          · have hc10 : cntR q k + 1 ≤ 10 := by rw [ftC_cntR] at h10; omega
            have hc10I : ((cntR q k : Nat) : Int) + 1 ≤ 10 := by omega
            (refine reach_cond (t := true) (by simp [Act.eval, hc10I, hc10]) ?_; simp only [if_true, if_false, reduceIte, Bool.false_eq_true])
            repeat (first|refine rA ?_|refine rB ?_|refine rC ?_|refine rD ?_|(refine rR ?_;simp only [tO, Nat.reduceAdd])|refine rE ?_|(refine rO goodFF rfl ?_;intro _ hu_ K_ hK_;go_simp;(try rw [wI _]);(try rw [wU _]);refine hK_ _ ?_;clear hK_ K_ hu_;simp only [sS, sN])|(refine rP rfl ?_;simp only [sS, sN]))
            refine reach_turnQ (Q := fun x w3 => x = .slice (some ⟨w.heap.size, 0, none⟩) 1 1 ∧ Ext w w3 ∧ w3.heap[w.heap.size]? = some (.cells #[.int .i64 ((k : Nat) : Int)] 3)) goodFF rfl rfl (by kernel_rfl) (fun u hu => ⟨_, _, .inl (run_build1 (x := .tmp 52) (y := .int .i64 ((k : Nat) : Int)) rfl Try.underlying58 in1 in2 in3 in5 (by simp) rfl u), by rw [hu.heap], (Ext.twin hu).trans _ _ _ (Ext.alloc _ _), by rw [← hu.heap]; exact alloc_at _ _⟩) ?_
            rintro _ w3 ⟨rfl, hE3, hr3⟩
            simp only [stO_some]
            have gw : Gr w w3 none := ⟨hE3.os, hE3.output, hE3.size, fun b hb _ => hE3.block b hb⟩
            refine reach_turnQ goodFF rfl rfl (by kernel_rfl) (fun u hu => append_does (s := .tmp 51) (x := .tmp 53) (ad := ⟨w.heap.size, 0, none⟩) (m := 1) (c := 1) (news := [.int .i64 ((k : Nat) : Int)]) hu v.heap.size Try.underlying58 in1 in2 in3 in4 (by rw [in5]; rfl) (own_gr hI.at_ gw (by simp)) rfl (one_cell hr3) (fun y hy => by rw [List.mem_singleton] at hy; subst hy; rfl) (by omega) (by omega) (Nat.le_trans hI.ext.size hE3.size) rfl (by simp [g4]) (by simp)) ?_
            rintro av' w4 ⟨ha', hg4, _⟩
            simp only [stO_some]
            have a3 := own_gr hI.at_ gw (by simp)
            have r3 := own_gr hI.rows gw (by simp)
            have r4 := own_gr r3 hg4 (own_ne a3 r3 (by decide))
            have hEv4 : Ext v w4 := Gr.over (hI.ext.trans _ _ _ hE3) hg4 fun b hb => own_base a3 hb
            have hat4 := hEv4.cell (hP.at_ k hlt)
            rw [HQ.out] at hat4
            repeat (first|refine rA ?_|refine rB ?_|refine rC ?_|refine rD ?_|(refine rR ?_;simp only [tO, Nat.reduceAdd])|refine rE ?_|(refine rO goodFF rfl ?_;intro _ hu_ K_ hK_;(have hc := (Ext.twin hu_).cell hat4);go_simp;(try rw [wI _]);(try rw [wU _]);refine hK_ _ ?_;clear hK_ K_ hu_;simp only [sS, sN])|(refine rP rfl ?_;simp only [sS, sN]))
            refine reach_turnQ (Q := fun x w5 => x = .slice (some ⟨w4.heap.size, 0, none⟩) 1 1 ∧ Ext w4 w5 ∧ w5.heap[w4.heap.size]? = some (.cells #[.slice (q k) (ln k) (cp k)] 25)) goodFF rfl rfl (by kernel_rfl) (fun u hu => ⟨_, _, .inl (run_build1 (x := .tmp 59) (y := .slice (q k) (ln k) (cp k)) rfl Try.underlying34 is1 is2 is3 is5 (by simp [HQ.out]) rfl u), by rw [hu.heap], (Ext.twin hu).trans _ _ _ (Ext.alloc _ _), by rw [← hu.heap]; exact alloc_at _ _⟩) ?_
            rintro _ w5 ⟨rfl, hE5, hr5⟩
            simp only [stO_some]
            have g5' : Gr w4 w5 none := ⟨hE5.os, hE5.output, hE5.size, fun b hb _ => hE5.block b hb⟩
            refine reach_turnQ goodFF rfl rfl (by kernel_rfl) (fun u hu => append_does (s := .tmp 55) (x := .tmp 60) (ad := ⟨w4.heap.size, 0, none⟩) (m := 1) (c := 1) (news := [.slice (q k) (ln k) (cp k)]) hu v.heap.size Try.underlying34 is1 is2 is3 is4 (by rw [is5]; rfl) (own_gr r4 g5' (by simp)) rfl (one_cell hr5) (fun y hy => by rw [List.mem_singleton] at hy; subst hy; rfl) (by omega) (by omega) (Nat.le_trans hEv4.size hE5.size) rfl (by simp [g5]) (by simp)) ?_
            rintro rv' w6 ⟨hr', hg6, _⟩
            simp only [stO_some]
            repeat (first|refine rA ?_|refine rB ?_|refine rC ?_|refine rD ?_|(refine rR ?_;simp only [tO, Nat.reduceAdd])|refine rE ?_|(refine rO goodFF rfl ?_;intro _ hu_ K_ hK_;go_simp;(try rw [wI _]);(try rw [wU _]);refine hK_ _ ?_;clear hK_ K_ hu_;simp only [sS, sN])|(refine rP rfl ?_;simp only [sS, sN]))
            refine nxt _ _ _ (14 - (k + 1)) (by omega) ⟨k + 1, av', rv', rfl, by omega, rfl, ⟨HO2, hI.step HS.out h10 hE3 hg4 ha' hE5 hg6 hr'⟩, by simp [g0], by simp, by simp, by simp [HN4.out], by simp [HN.out, HN3.out], by simp⟩
          · have hc10 : ¬ cntR q k + 1 ≤ 10 := by rw [ftC_cntR] at h10; omega
            have hc10I : ¬ ((cntR q k : Nat) : Int) + 1 ≤ 10 := by omega
            (refine reach_cond (t := false) (by simp [Act.eval, hc10I, hc10]) ?_; simp only [if_true, if_false, reduceIte, Bool.false_eq_true])
            repeat (first|refine rA ?_|refine rB ?_|refine rC ?_|refine rD ?_|(refine rR ?_;simp only [tO, Nat.reduceAdd])|refine rE ?_|(refine rO goodFF rfl ?_;intro _ hu_ K_ hK_;go_simp;(try rw [wI _]);(try rw [wU _]);refine hK_ _ ?_;clear hK_ K_ hu_;simp only [sS, sN])|(refine rP rfl ?_;simp only [sS, sN]))
            refine nxt _ _ _ (14 - (k + 1)) (by omega) ⟨k + 1, av, rv, rfl, by omega, rfl, ⟨HO2, hI.skip (.inr h10)⟩, by simp [g0], by simp [g4], by simp [g5], by simp [HN4.out], by simp [HN.out, HN3.out], by simp⟩
  · obtain rfl : k = 14 := by omega
    (refine reach_cond (t := false) (by simp [Act.eval, g8]) ?_; simp only [if_true, if_false, reduceIte, Bool.false_eq_true])
    refine reach_exit rfl ?_
    by_cases hc : cntR q 14 < 10
    · have hcI : ((cntR q 14 : Nat) : Int) < 10 := by omega
      repeat (first|refine rA ?_|refine rB ?_|refine rC ?_|refine rD ?_|(refine rR ?_;simp only [tO, Nat.reduceAdd])|refine rE ?_|(refine rO goodFF rfl ?_;intro _ hu_ K_ hK_;go_simp;(try rw [wI _]);(try rw [wU _]);refine hK_ _ ?_;clear hK_ K_ hu_;simp only [sS, sN])|(refine rP rfl ?_;simp only [sS, sN]))
      (refine reach_cond (t := true) (by simp [Act.eval, hcI]) ?_; simp only [if_true, if_false, reduceIte, Bool.false_eq_true])
      repeat (first|refine rA ?_|refine rB ?_|refine rC ?_|refine rD ?_|(refine rR ?_;simp only [tO, Nat.reduceAdd])|refine rE ?_|(refine rO goodFF rfl ?_;intro _ hu_ K_ hK_;go_simp;(try rw [wI _]);(try rw [wU _]);refine hK_ _ ?_;clear hK_ K_ hu_;simp only [sS, sN])|(refine rP rfl ?_;simp only [sS, sN]))
      refine reach_ret fun todo => ?_
      refine ret _ _ S w (.tuple #[.slice none 0 0, .int .i64 2]) ?_ ⟨.slice none 0 0, 2, rfl, rfl, hI.ext, .inr ⟨HO.out.1, HO.out.2, .inl ⟨hc, rfl, rfl⟩⟩⟩
      simp [results, Try.results22]
    · have hcI : ¬ ((cntR q 14 : Nat) : Int) < 10 := by omega
      have h10 : (ftC q 14).1 = 10 := by rw [ftC_cntR]; omega
      have hkn := ftC_kn q 14
      rw [h10] at hkn
      obtain ⟨AB, ca, BR, cr, rfl, rfl, hIn⟩ := hI.done hP h10 HO.out.1
      have hm400 : lastL q ln 14 ≤ 400 := HO.out.2 (anyB_mono (hkn 0 (by omega)).1 (hkn 0 (by omega)).2.1)
      have hall := all_r (S := S) AB 0 ca BR 0 cr (lastL q ln 14) (ftC q 14).2 _ _ _ hm400 (fun i hi => by have := (hkn i hi).1; omega) (fun i j hi hj e => by
        rcases Nat.lt_trichotomy i j with h | h | h
        · have := (hkn j hj).2.2 i h
          omega
        · exact h
        · have := (hkn i hi).2.2 j h
          omega) (fun i x => hy _ _) hIn
      clear hIn hkn
      repeat (first|refine rA ?_|refine rB ?_|refine rC ?_|refine rD ?_|(refine rR ?_;simp only [tO, Nat.reduceAdd])|refine rE ?_|(refine rO goodFF rfl ?_;intro _ hu_ K_ hK_;go_simp;(try rw [wI _]);(try rw [wU _]);refine hK_ _ ?_;clear hK_ K_ hu_;simp only [sS, sN])|(refine rP rfl ?_;simp only [sS, sN]))
      (refine reach_cond (t := false) (by simp [Act.eval, hcI]) ?_; simp only [if_true, if_false, reduceIte, Bool.false_eq_true])
      repeat (first|refine rA ?_|refine rB ?_|refine rC ?_|refine rD ?_|(refine rR ?_;simp only [tO, Nat.reduceAdd])|refine rE ?_|(refine rO goodFF rfl ?_;intro _ hu_ K_ hK_;go_simp;(try rw [wI _]);(try rw [wU _]);refine hK_ _ ?_;clear hK_ K_ hu_;simp only [sS, sN])|(refine rP rfl ?_;simp only [sS, sN]))
      (refine reach_callR rfl (by first | rfl | simp [Region.wanted, yielded, TA_get, *]) rfl Try.func36 (by kernel_rfl) rfl (by simp [Act.eval, *]; try rfl) (hall) ?_)
      rintro x S1 v1 _ ⟨⟨hE1, OB, cO, PB, rfl, hl1, hl2⟩, e1⟩
      subst S1
      simp only [stO_some]
      repeat (first|refine rA ?_|refine rB ?_|refine rC ?_|refine rD ?_|(refine rR ?_;simp only [tO, Nat.reduceAdd])|refine rE ?_|(refine rO goodFF rfl ?_;intro _ hu_ K_ hK_;go_simp;(try rw [wI _]);(try rw [wU _]);refine hK_ _ ?_;clear hK_ K_ hu_;simp only [sS, sN])|(refine rP rfl ?_;simp only [sS, sN]))
      refine reach_ret fun todo => ?_
      refine ret _ _ S v1 (.tuple #[.slice (some ⟨OB, 0, none⟩) 14 cO, .int .i64 0]) ?_ ⟨_, 0, rfl, rfl, hI.ext.trans _ _ _ hE1, .inr ⟨HO.out.1, HO.out.2, .inr ⟨by omega, rfl, hI.ext.trans _ _ _ hE1, OB, cO, PB, rfl, hl1, hl2⟩⟩⟩
      simp [results, Try.results22]
end Go.Proofs.Ytpiefebngnlfoaa
