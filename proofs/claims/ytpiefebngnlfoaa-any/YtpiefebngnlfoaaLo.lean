/-
  piece.Mend, where ten pieces of one length are there; mosaic.Mend.
-/
import Derived.Test.YtpiefebngnlfoaaLn
import Derived.Laws.BytesArg
import Derived.Test.YtpiefebngnlfoaaLk
import Derived.ArgAppend
set_option linter.unusedVariables false
set_option linter.unusedSimpArgs false
namespace Go.Proofs.Ytpiefebngnlfoaa
open Go.RowKit Go.Conc Go.Vw

/-- The list, j of the known pieces being laid. -/
def MA (kn : Nat → Nat) (N m : Nat) : Nat → Nat → Value
  | 0, _ => .slice none 0 0
  | j + 1, k => if k = kn j then sl (N + 2 + j) m else MA kn N m j k
theorem MA_known {kn : Nat → Nat} {N m : Nat} (hinj : ∀ j j', j < 10 → j' < j → kn j' < kn j) : ∀ (c j : Nat), c ≤ 10 → j < c → MA kn N m c (kn j) = sl (N + 2 + j) m
  | 0, j, _, h => absurd h (Nat.not_lt_zero _)
  | c + 1, j, hc, h => by
    unfold MA
    by_cases e : j = c
    · subst e; rw [if_pos rfl]
    · have := hinj c j (by omega) (by omega)
      rw [if_neg (by omega)]
      exact MA_known hinj c j (by omega) (by omega)
theorem MA_lack {kn : Nat → Nat} {N m k : Nat} (h : lackB kn k = true) : ∀ c, c ≤ 10 → MA kn N m c k = .slice none 0 0
  | 0, _ => rfl
  | c + 1, hc => by
    unfold MA
    rw [if_neg fun e => lackB_iff.1 h c (by omega) e.symm]
    exact MA_lack h c (by omega)
def idxOf (kn : Nat → Nat) (k : Nat) : Nat := ((List.range 10).find? fun j => kn j == k).getD 0
theorem idxOf_spec {kn : Nat → Nat} {k : Nat} (h : lackB kn k = false) : idxOf kn k < 10 ∧ kn (idxOf kn k) = k := by
  obtain ⟨j, hj, e⟩ := lackB_no h
  unfold idxOf
  cases hf : (List.range 10).find? fun j => kn j == k with
  | none =>
    have := List.find?_eq_none.1 hf j (by simp [hj])
    simp [e] at this
  | some i =>
    have h1 := List.find?_some hf
    have h2 := List.mem_of_find?_eq_some hf
    simp at h1 h2
    exact ⟨h2, h1⟩
/-- What is mended. -/
def mendOf (kn : Nat → Nat) (y : Nat → Nat → Nat) (k i : Nat) : Nat := if lackB kn k = true then pieceOf kn (fun j => y (kn j)) k i else y k i
structure MI (v0 : World) (kn : Nat → Nat) (y : Nat → Nat → Nat) (m j : Nat) (v : World) : Prop where
  ext : Ext v0 v
  bk : v.heap[v0.heap.size]? = some (.cells (ten kn) 74)
  ba : v.heap[v0.heap.size + 1]? = some (.cells (allA (MA kn v0.heap.size m j)) 25)
  rows : ∀ i, i < j → v.heap[v0.heap.size + 2 + i]? = some (.cells (bytesA m (y (kn i))) 5)
  size : v.heap.size = v0.heap.size + 2 + j

set_option maxRecDepth 100000 in
set_option maxHeartbeats 2000000 in
theorem mend_r {S : Nat → Prop} {v : World} (BL ol cl m : Nat) (q : Nat → Option Addr) (ln cp : Nat → Nat) (y : Nat → Nat → Nat) (hP : PL v BL ol q ln cp y) (hm : ∀ k, k < 14 → (q k).isSome = true → ln k = m) (hm4 : m ≤ 400) (h10 : (ftC q 14).1 = 10) (hy : ∀ k i, y k i < 256) (hg : Try.prog.globals.size ≤ v.heap.size) :
    CallsR Try.prog 38 #[.slice (some ⟨BL, ol, none⟩) 14 cl] S v fun x S' v' => ∃ BA PB, x = .tuple #[sl BA 14, .int .i64 0] ∧ Pieces v BA PB m (mendOf (ftC q 14).2 y) v' := by
  have hkn := ftC_kn q 14
  rw [h10] at hkn
  have hany : anyB q 14 = true := by
    have h := hkn 0 (by omega)
    simp only [anyB, List.any_eq_true]
    exact ⟨_, by simpa using h.1, h.2.1⟩
  refine callsR_body Try.func38 rfl Try.ntmps38 (by simp) fun Stop cc cs ret => ?_
  have h0 : argF #[.slice (some ⟨BL, ol, none⟩) 14 cl] 0 = .slice (some ⟨BL, ol, none⟩) 14 cl := rfl
  generalize argF #[.slice (some ⟨BL, ol, none⟩) 14 cl] = f at h0
  have hone := oneLength_r (S := S) BL ol cl m q ln cp y hP hm
  rw [if_pos hany] at hone
  have hfirst := firstTen_r (S := S) BL ol cl q ln cp y hP
  rw [h10, decide_eq_true rfl] at hfirst
  have HM := hide hm
  have HK := hide hkn
  generalize (ftC q 14).2 = kn at hfirst HK ret
  clear hany h10 hm hkn
  repeat (first|refine rA ?_|refine rB ?_|refine rC ?_|refine rD ?_|(refine rR ?_;simp only [tO, Nat.reduceAdd])|refine rE ?_|(refine rO goodFF rfl ?_;intro _ hu_ K_ hK_;go_simp;(try rw [wI _]);(try rw [wU _]);refine hK_ _ ?_;clear hK_ K_ hu_;simp only [sS, sN])|(refine rP rfl ?_;simp only [sS, sN]))
  (refine reach_cond (t := false) (by simp [Act.eval]) ?_; simp only [if_true, if_false, reduceIte, Bool.false_eq_true])
  repeat (first|refine rA ?_|refine rB ?_|refine rC ?_|refine rD ?_|(refine rR ?_;simp only [tO, Nat.reduceAdd])|refine rE ?_|(refine rO goodFF rfl ?_;intro _ hu_ K_ hK_;go_simp;(try rw [wI _]);(try rw [wU _]);refine hK_ _ ?_;clear hK_ K_ hu_;simp only [sS, sN])|(refine rP rfl ?_;simp only [sS, sN]))
  (refine reach_callR rfl (by first | rfl | simp [Region.wanted, yielded, TA_get, *]) rfl Try.func45 (by kernel_rfl) rfl (by simp [Act.eval, *]; try rfl) (hone) ?_)
  rintro _ S1 w1 hv1 ⟨rfl, e1, e2⟩
  subst S1 w1
  simp only [stO_some]
  have hmI : ¬ ((400 : Int) < (m : Int)) := by omega
  repeat (first|refine rA ?_|refine rB ?_|refine rC ?_|refine rD ?_|(refine rR ?_;simp only [tO, Nat.reduceAdd])|refine rE ?_|(refine rO goodFF rfl ?_;intro _ hu_ K_ hK_;go_simp;(try rw [wI _]);(try rw [wU _]);refine hK_ _ ?_;clear hK_ K_ hu_;simp only [sS, sN])|(refine rP rfl ?_;simp only [sS, sN]))
  (refine reach_cond (t := false) (by simp [Act.eval, hmI]) ?_; simp only [if_true, if_false, reduceIte, Bool.false_eq_true])
  repeat (first|refine rA ?_|refine rB ?_|refine rC ?_|refine rD ?_|(refine rR ?_;simp only [tO, Nat.reduceAdd])|refine rE ?_|(refine rO goodFF rfl ?_;intro _ hu_ K_ hK_;go_simp;(try rw [wI _]);(try rw [wU _]);refine hK_ _ ?_;clear hK_ K_ hu_;simp only [sS, sN])|(refine rP rfl ?_;simp only [sS, sN]))
  (refine reach_callR rfl (by first | rfl | simp [Region.wanted, yielded, TA_get, *]) rfl Try.func46 (by kernel_rfl) rfl (by simp [Act.eval, *]; try rfl) (hfirst) ?_)
  rintro _ S1 v1 hv1 ⟨rfl, e1, hE1⟩
  subst S1
  simp only [stO_some]
  repeat (first|refine rA ?_|refine rB ?_|refine rC ?_|refine rD ?_|(refine rR ?_;simp only [tO, Nat.reduceAdd])|refine rE ?_|(refine rO goodFF rfl ?_;intro _ hu_ K_ hK_;go_simp;(try rw [wI _]);(try rw [wU _]);refine hK_ _ ?_;clear hK_ K_ hu_;simp only [sS, sN])|(refine rP rfl ?_;simp only [sS, sN]))
  refine reach_alloc goodFF rfl rfl (by kernel_rfl) (.agg (tenP 0)) rfl (by rw [tenP_zero]; kernel_rfl) fun v2 hE2 hr2 hs2 => ?_
  simp only [stO_some]
  repeat (first|refine rA ?_|refine rB ?_|refine rC ?_|refine rD ?_|(refine rR ?_;simp only [tO, Nat.reduceAdd])|refine rE ?_|(refine rO goodFF rfl ?_;intro _ hu_ K_ hK_;go_simp;(try rw [wI _]);(try rw [wU _]);refine hK_ _ ?_;clear hK_ K_ hu_;simp only [sS, sN])|(refine rP rfl ?_;simp only [sS, sN]))
  refine reach_storeRow goodFF rfl rfl (by kernel_rfl) (x := .tmp 6) (y := .tmp 29) (g := v1.heap.size) (c := ten kn) rfl (by simp) (by simp) hr2 (by rw [ten_size]; kernel_rfl) (by rw [ten_size]; simp [Value.cells, tenP]) (ten_one _) fun v3 hW3 => ?_
  simp only [stO_none]
  repeat (first|refine rA ?_|refine rB ?_|refine rC ?_|refine rD ?_|(refine rR ?_;simp only [tO, Nat.reduceAdd])|refine rE ?_|(refine rO goodFF rfl ?_;intro _ hu_ K_ hK_;go_simp;(try rw [wI _]);(try rw [wU _]);refine hK_ _ ?_;clear hK_ K_ hu_;simp only [sS, sN])|(refine rP rfl ?_;simp only [sS, sN]))
  (refine reach_cond (t := false) (by simp [Act.eval]) ?_; simp only [if_true, if_false, reduceIte, Bool.false_eq_true])
  repeat (first|refine rA ?_|refine rB ?_|refine rC ?_|refine rD ?_|(refine rR ?_;simp only [tO, Nat.reduceAdd])|refine rE ?_|(refine rO goodFF rfl ?_;intro _ hu_ K_ hK_;go_simp;(try rw [wI _]);(try rw [wU _]);refine hK_ _ ?_;clear hK_ K_ hu_;simp only [sS, sN])|(refine rP rfl ?_;simp only [sS, sN]))
  refine reach_makeV goodFF rfl rfl (by kernel_rfl) rfl (m := 14) (wd := 24) (z := .slice none 0 0) rfl rfl (by omega) (by omega) (by omega) Try.underlying34 (by kernel_rfl) rfl fun v4 hE4 hr4 hs4 => ?_
  simp only [stO_some]
  have hs3 : v3.heap.size = v1.heap.size + 1 := hW3.size.trans hs2
  have hbk4 : v4.heap[v1.heap.size]? = some (.cells (ten kn) 74) := hE4.row hW3.at_
  repeat (first|refine rA ?_|refine rB ?_|refine rC ?_|refine rD ?_|(refine rR ?_;simp only [tO, Nat.reduceAdd])|refine rE ?_|(refine rO goodFF rfl ?_;intro _ hu_ K_ hK_;go_simp;(try rw [wI _]);(try rw [wU _]);refine hK_ _ ?_;clear hK_ K_ hu_;simp only [sS, sN])|(refine rP rfl ?_;simp only [sS, sN]))
  refine reach_loadRow goodFF rfl rfl (by kernel_rfl) (x := .tmp 6) (b := v1.heap.size) rfl (by simp) hbk4 (by kernel_rfl) (by rw [ten_size]; kernel_rfl) ?_
  simp only [stO_some]
  repeat (first|refine rA ?_|refine rB ?_|refine rC ?_|refine rD ?_|(refine rR ?_;simp only [tO, Nat.reduceAdd])|refine rE ?_|(refine rO goodFF rfl ?_;intro _ hu_ K_ hK_;go_simp;(try rw [wI _]);(try rw [wU _]);refine hK_ _ ?_;clear hK_ K_ hu_;simp only [sS, sN])|(refine rP rfl ?_;simp only [sS, sN]))
  rw [hs3] at hr4 ⊢
  have hP1 := hP.ext hE1
  have hM : MI v1 kn y m 0 v4 := by
    refine ⟨⟨by omega, fun b hb => ?_, ?_, ?_⟩, hbk4, ?_, fun i hi => by omega, by omega⟩
    · rw [hE4.block b (by omega), hW3.other b (by omega)]
      exact hE2.block b hb
    · rw [hE4.os, hW3.os]; exact hE2.os
    · rw [hE4.output, hW3.output]; exact hE2.output
    · rw [hr4]
      congr 2
  refine reach_rounds (fun d f' S' v' => ∃ j, d = 10 - j ∧ j ≤ 10 ∧ S' = S ∧ MI v1 kn y m j v' ∧ f' 0 = .slice (some ⟨BL, ol, none⟩) 14 cl ∧ f' 4 = .int .i64 (m : Nat) ∧ f' 6 = ptr v1.heap.size ∧ f' 8 = sl (v1.heap.size + 1) 14 ∧ f' 34 = .agg (ten kn) ∧ f' 35 = .int .i64 (j : Nat)) 10 ⟨0, by omega, by omega, rfl, hM, by simp [h0], by simp, by simp, by simp, by simp, by simp⟩ ?_
  rintro d f' S' v' ⟨j, rfl, hj, eS, hI, g0, g4, g6, g8, g34, g35⟩ next
  subst S'
  repeat (first|refine rA ?_|refine rB ?_|refine rC ?_|refine rD ?_|(refine rR ?_;simp only [tO, Nat.reduceAdd])|refine rE ?_|(refine rO goodFF rfl ?_;intro _ hu_ K_ hK_;go_simp;(try rw [wI _]);(try rw [wU _]);refine hK_ _ ?_;clear hK_ K_ hu_;simp only [sS, sN])|(refine rP rfl ?_;simp only [sS, sN]))
  by_cases hlt : j < 10
  · have hjI : (j : Int) < 10 := by omega
    (refine reach_cond (t := true) (by simp [Act.eval, g35, hjI]) ?_; simp only [if_true, if_false, reduceIte, Bool.false_eq_true])
    repeat (first|refine rA ?_|refine rB ?_|refine rC ?_|refine rD ?_|(refine rR ?_;simp only [tO, Nat.reduceAdd])|refine rE ?_|(refine rO goodFF rfl ?_;intro _ hu_ K_ hK_;go_simp;(try rw [wI _]);(try rw [wU _]);refine hK_ _ ?_;clear hK_ K_ hu_;simp only [sS, sN])|(refine rP rfl ?_;simp only [sS, sN]))
    refine reach_index goodFF rfl rfl (by kernel_rfl) rfl (m := j) (L := 10) (by simp [g34]) (by simp [g35]) (by kernel_rfl) hlt (ten_get kn j hlt) ?_
    simp only [stO_some]
    repeat (first|refine rA ?_|refine rB ?_|refine rC ?_|refine rD ?_|(refine rR ?_;simp only [tO, Nat.reduceAdd])|refine rE ?_|(refine rO goodFF rfl ?_;intro _ hu_ K_ hK_;go_simp;(try rw [wI _]);(try rw [wU _]);refine hK_ _ ?_;clear hK_ K_ hu_;simp only [sS, sN])|(refine rP rfl ?_;simp only [sS, sN]))
    refine reach_makeBytes goodFF rfl rfl (by kernel_rfl) rfl (m := m) (by simp [g4]) (by simp [g4]) (by omega) (by kernel_rfl) Try.underlying25 fun v5 hE5 hr5 hs5 => ?_
    simp only [stO_some]
    obtain ⟨k1, k2, _⟩ := HK.out j hlt
    have hkI : (kn j : Int) < 14 := by omega
    have hat := hE5.cell (hI.ext.cell (hP1.at_ (kn j) k1))
    have hsl := ((hP1.sl (kn j) k1).ext hI.ext).ext hE5
    rw [HM.out (kn j) k1 k2] at hat hsl
    obtain ⟨B, off, hq, hcp, hB⟩ : ∃ B off, q (kn j) = some ⟨B, off, none⟩ ∧ m ≤ cp (kn j) ∧ BytesAt v5 B off m (y (kn j)) := by
      rcases hsl with ⟨h1, _⟩ | h
      · rw [h1] at k2; cases k2
      · exact h
    rw [hq] at hat
    have HQ := hide hq
    clear hq
    repeat (first|refine rA ?_|refine rB ?_|refine rC ?_|refine rD ?_|(refine rR ?_;simp only [tO, Nat.reduceAdd])|refine rE ?_|(refine rO goodFF rfl ?_;intro _ hu_ K_ hK_;(have hc := (Ext.twin hu_).cell hat);go_simp;(try rw [wI _]);(try rw [wU _]);refine hK_ _ ?_;clear hK_ K_ hu_;simp only [sS, sN])|(refine rP rfl ?_;simp only [sS, sN]))
    have hs5' : v5.heap.size = v1.heap.size + 2 + j + 1 := by rw [hs5, hI.size]
    have hr5' : v5.heap[v1.heap.size + 2 + j]? = some (.cells (bytesA m fun _ => 0) 5) := by rw [← hI.size, ← bytesA_zero]; exact hr5
    rw [hI.size]
    refine reach_copy goodFF rfl rfl (by kernel_rfl) rfl (d := .tmp 40) (s := .tmp 44) (g := v1.heap.size + 2 + j) (o' := 0) (dLen := m) (dCap := m) (b := B) (off := off) (sLen := m) (sCap := cp (kn j)) (cells := (List.range m).map fun i => Value.int .u8 ((y (kn j) i : Nat) : Int)) (by simp) (by simp) Try.underlying25 (by kernel_rfl) hr5' (by simp [Nat.min_self]) (fun i z hz => ?_) (by rw [bytesA_size]; simp) bytesL_mem fun v6 hW6 => ?_
    · obtain ⟨hi, rfl⟩ := bytesL_get hz
      exact hB i hi
    simp only [List.length_map, List.length_range, stO_some] at hW6 ⊢
    rw [splice_bytes m 0 m (y (kn j)) (fun _ => 0) (by omega), bytesA_congr (g := y (kn j)) fun i hi => by simp [hi]] at hW6
    have hba6 : v6.heap[v1.heap.size + 1]? = some (.cells (allA (MA kn v1.heap.size m j)) 25) := (hW6.other _ (by omega)).trans (hE5.row hI.ba)
    repeat (first|refine rA ?_|refine rB ?_|refine rC ?_|refine rD ?_|(refine rR ?_;simp only [tO, Nat.reduceAdd])|refine rE ?_|(refine rO goodFF rfl ?_;intro _ hu_ K_ hK_;go_simp;(try rw [wI _]);(try rw [wU _]);refine hK_ _ ?_;clear hK_ K_ hu_;simp only [sS, sN])|(refine rP rfl ?_;simp only [sS, sN]))
    refine reach_store1 goodFF rfl rfl (by kernel_rfl) (x := .tmp 49) (y := .tmp 48) (g := v1.heap.size + 1) (j := kn j) (z := sl (v1.heap.size + 2 + j) m) rfl (by simp) (by simp) rfl rfl hba6 (by rw [allA_size]; exact k1) (by kernel_rfl) fun v7 hW7 => ?_
    simp only [stO_none]
    rw [allA_set] at hW7
    repeat (first|refine rA ?_|refine rB ?_|refine rC ?_|refine rD ?_|(refine rR ?_;simp only [tO, Nat.reduceAdd])|refine rE ?_|(refine rO goodFF rfl ?_;intro _ hu_ K_ hK_;go_simp;(try rw [wI _]);(try rw [wU _]);refine hK_ _ ?_;clear hK_ K_ hu_;simp only [sS, sN])|(refine rP rfl ?_;simp only [sS, sN]))
    have hI7 : MI v1 kn y m (j + 1) v7 := by
      have hs6 := hW6.size
      have hs7 := hW7.size
      refine ⟨⟨by omega, fun b hb => ?_, ?_, ?_⟩, ?_, hW7.at_, fun i hi => ?_, by omega⟩
      · rw [hW7.other b (by omega), hW6.other b (by omega), hE5.block b (by have := hI.size; omega)]
        exact hI.ext.block b hb
      · rw [hW7.os, hW6.os, hE5.os]; exact hI.ext.os
      · rw [hW7.output, hW6.output, hE5.output]; exact hI.ext.output
      · rw [hW7.other _ (by omega), hW6.other _ (by omega)]
        exact hE5.row hI.bk
      · by_cases e : i = j
        · subst e
          rw [hW7.other _ (by omega)]
          exact hW6.at_
        · rw [hW7.other _ (by omega), hW6.other _ (by omega)]
          exact hE5.row (hI.rows i (by omega))
    refine next _ _ _ (10 - (j + 1)) (by omega) ⟨j + 1, rfl, by omega, rfl, hI7, ?_, ?_, ?_, ?_, ?_, ?_⟩
    · simp [g0]
    · simp [g4]
    · simp [g6]
    · simp [g8]
    · simp [g34]
    · simp
  · obtain rfl : j = 10 := by omega
    (refine reach_cond (t := false) (by simp [Act.eval, g35]) ?_; simp only [if_true, if_false, reduceIte, Bool.false_eq_true])
    refine reach_exit rfl ?_
    repeat (first|refine rA ?_|refine rB ?_|refine rC ?_|refine rD ?_|(refine rR ?_;simp only [tO, Nat.reduceAdd])|refine rE ?_|(refine rO goodFF rfl ?_;intro _ hu_ K_ hK_;go_simp;(try rw [wI _]);(try rw [wU _]);refine hK_ _ ?_;clear hK_ K_ hu_;simp only [sS, sN])|(refine rP rfl ?_;simp only [sS, sN]))
    refine reach_loadRow goodFF rfl rfl (by kernel_rfl) (x := .tmp 6) (b := v1.heap.size) rfl (by simp [g6]) hI.bk (by kernel_rfl) (by rw [ten_size]; kernel_rfl) ?_
    simp only [stO_some]
    repeat (first|refine rA ?_|refine rB ?_|refine rC ?_|refine rD ?_|(refine rR ?_;simp only [tO, Nat.reduceAdd])|refine rE ?_|(refine rO goodFF rfl ?_;intro _ hu_ K_ hK_;go_simp;(try rw [wI _]);(try rw [wU _]);refine hK_ _ ?_;clear hK_ K_ hu_;simp only [sS, sN])|(refine rP rfl ?_;simp only [sS, sN]))
    have hinj : ∀ j j', j < 10 → j' < j → kn j' < kn j := fun j j' hj hj' => (HK.out j hj).2.2 j' hj'
    have hs1 := hE1.size
    have hfill : CallsR Try.prog 43 #[sl (v1.heap.size + 1) 14, .agg (ten kn), .int .i64 (m : Nat)] S v' fun z S' w => z = .tuple #[] ∧ ∃ PB, Filled v' kn m (fun j => y (kn j)) (MA kn v1.heap.size m 10) (v1.heap.size + 1) 25 PB w := by
      intro Stop' c' cs' hr
      refine fill_reach (RB := fun k => v1.heap.size + 2 + k) (fun j hj => (HK.out j hj).1) hm4 (fun j i => hy _ _) (fun j hj => MA_known hinj 10 j (Nat.le_refl _) hj) (fun k hk hl' => MA_lack hl' 10 (Nat.le_refl _)) (by have := hI.size; omega) (by omega) (fun j hj => by omega) hI.ba hI.rows fun S' w PB hw hf => hr _ S' w hw ⟨rfl, PB, hf⟩
    (refine reach_callR rfl (by first | rfl | simp [Region.wanted, yielded, TA_get, *]) rfl Try.func43 (by kernel_rfl) rfl (by simp [Act.eval, *]; try rfl) (hfill) ?_)
    rintro _ S5 v5 hv5 ⟨rfl, PB, hF⟩
    simp only [stO_some]
    repeat (first|refine rA ?_|refine rB ?_|refine rC ?_|refine rD ?_|(refine rR ?_;simp only [tO, Nat.reduceAdd])|refine rE ?_|(refine rO goodFF rfl ?_;intro _ hu_ K_ hK_;go_simp;(try rw [wI _]);(try rw [wU _]);refine hK_ _ ?_;clear hK_ K_ hu_;simp only [sS, sN])|(refine rP rfl ?_;simp only [sS, sN]))
    refine reach_ret fun todo => ?_
    refine ret _ _ S5 v5 (.tuple #[sl (v1.heap.size + 1) 14, .int .i64 0]) ?_ ⟨v1.heap.size + 1, fun k => if lackB kn k = true then PB k else v1.heap.size + 2 + idxOf kn k, rfl, ?_⟩
    · simp [results, Try.results38, g8]
    · have hsI := hI.size
      have hno : ∀ k, ¬ lackB kn k = true → lackB kn k = false := fun k h => by simpa using h
      refine ⟨⟨by have := hF.kp.size; omega, ?_, ?_, fun b o _ hc ht => ?_⟩, ?_, fun k hk => ?_, by omega, fun k hk => ?_, fun k hk => ?_, fun k k' hk hk' e => ?_⟩
      · rw [hF.kp.os, hI.ext.os]; exact hE1.os
      · rw [hF.kp.output, hI.ext.output]; exact hE1.output
      · have := (Array.getElem?_eq_some_iff.1 hc).1
        exact hF.kp.objs b o (by omega) (hI.ext.row (hE1.row hc)) ht
      · rw [hF.ba]
        congr 2
        refine allA_congr fun c hc => ?_
        simp only [AK]
        by_cases e : lackB kn c = true
        · simp [e, hc]
        · obtain ⟨i1, i2⟩ := idxOf_spec (hno c e)
          simp only [e, false_and, if_false]
          have := MA_known (m := m) (N := v1.heap.size) hinj 10 (idxOf kn c) (Nat.le_refl _) i1
          rw [i2] at this
          exact this
      · by_cases e : lackB kn k = true
        · rw [if_pos e, show mendOf kn y k = pieceOf kn (fun j => y (kn j)) k from funext fun i => by simp only [mendOf, if_pos e]]
          exact (hF.pb k hk e).2
        · obtain ⟨i1, i2⟩ := idxOf_spec (hno k e)
          rw [if_neg e, show mendOf kn y k = y k from funext fun i => by simp only [mendOf, if_neg e]]
          have := hF.kp.cells _ _ _ _ (by omega) (hI.rows (idxOf kn k) i1)
          rw [i2] at this
          exact this
      · by_cases e : lackB kn k = true
        · simp only [if_pos e]
          have := (hF.pb k hk e).1
          omega
        · simp only [if_neg e]; omega
      · by_cases e : lackB kn k = true
        · simp only [if_pos e]
          have := (hF.pb k hk e).1
          omega
        · simp only [if_neg e]; omega
      · by_cases h1 : lackB kn k = true
        · by_cases h2 : lackB kn k' = true
          · simp only [if_pos h1, if_pos h2] at e
            rcases Nat.lt_trichotomy k k' with h | h | h
            · have := hF.mono k k' h hk' h1 h2; omega
            · exact h
            · have := hF.mono k' k h hk h2 h1; omega
          · simp only [if_pos h1, if_neg h2] at e
            have := (hF.pb k hk h1).1
            have := (idxOf_spec (hno k' h2)).1
            omega
        · by_cases h2 : lackB kn k' = true
          · simp only [if_neg h1, if_pos h2] at e
            have := (hF.pb k' hk' h2).1
            have := (idxOf_spec (hno k h1)).1
            omega
          · simp only [if_neg h1, if_neg h2] at e
            have e1 := (idxOf_spec (hno k h1)).2
            have e2 := (idxOf_spec (hno k' h2)).2
            rw [← e1, ← e2, show idxOf kn k = idxOf kn k' by omega]
end Go.Proofs.Ytpiefebngnlfoaa

/-
  piece.Join, where ten pieces of one length are there; mosaic.Mend, mosaic.Join.
-/
set_option linter.unusedVariables false
set_option linter.unusedSimpArgs false
namespace Go.Proofs.Ytpiefebngnlfoaa
open Go.RowKit Go.Conc Go.Vw

/-- The joined bytes, the first e of them being laid. -/
def joinP (p : Nat → Nat → Nat) (m e i : Nat) : Nat := if i < e then p (i / m) (i % m) else 0
theorem join_step (p : Nat → Nat → Nat) (m n j : Nat) : let fl := min (j * m) n; let o := if n = fl then 0 else fl; let c := min m (n - fl)
    bytesA n (fun i => if o ≤ i ∧ i < o + c then p j (i - o) else joinP p m fl i) = bytesA n (joinP p m (min ((j + 1) * m) n)) ∧ o + c ≤ n ∧ fl + c = min ((j + 1) * m) n ∧ fl ≤ n := by
  intro fl o c
  have e1 : (j + 1) * m = j * m + m := Nat.succ_mul j m
  have hfl : fl = min (j * m) n := rfl
  have ho : o = if n = fl then 0 else fl := rfl
  have hc : c = min m (n - fl) := rfl
  refine ⟨bytesA_congr fun i hi => ?_, ?_, by omega, by omega⟩
  · by_cases e : n = fl
    · rw [if_pos e] at ho
      rw [if_neg (by omega)]
      simp only [joinP]
      rw [if_pos (by omega), if_pos (by omega)]
    · rw [if_neg e] at ho
      have hjm : fl = j * m := by omega
      by_cases h : o ≤ i ∧ i < o + c
      · rw [if_pos h]
        have hd : i / m = j := Nat.div_eq_of_lt_le (by omega) (by omega)
        have hmod : i % m = i - o := by
          have h1 := Nat.div_add_mod i m
          rw [hd, Nat.mul_comm m j] at h1
          omega
        simp only [joinP, hd, hmod]
        rw [if_pos (by omega)]
      · rw [if_neg h]
        simp only [joinP]
        by_cases h2 : i < fl
        · rw [if_pos h2, if_pos (by omega)]
        · rw [if_neg h2, if_neg (by omega)]
  · by_cases e : n = fl
    · rw [if_pos e] at ho; omega
    · rw [if_neg e] at ho; omega
structure JI (v0 : World) (BV n : Nat) (z : Nat → Nat) (v : World) : Prop where
  kp : Kp v0 (fun _ => False) v
  bv : v.heap[BV]? = some (.cells (bytesA n z) 5)

set_option maxRecDepth 100000 in
set_option maxHeartbeats 2000000 in
theorem join_r {S : Nat → Prop} {v : World} (s : Value) (m n : Nat) (p : Nat → Nat → Nat) (hm : m ≤ 400) (hn : n ≤ 10 * m) (hmend : CallsR Try.prog 38 #[s] S v fun x S' v' => ∃ BA PB, x = .tuple #[sl BA 14, .int .i64 0] ∧ Pieces v BA PB m p v') :
    CallsR Try.prog 39 #[s, .int .i64 (n : Nat)] S v fun x S' v' => ∃ BV, x = .tuple #[sl BV n, .int .i64 0] ∧ v.heap.size ≤ BV ∧ JI v BV n (fun i => p (i / m) (i % m)) v' := by
  refine callsR_body Try.func39 rfl Try.ntmps39 (by simp) fun Stop cc cs ret => ?_
  have h0 : argF #[s, .int .i64 (n : Nat)] 0 = s := rfl
  have h1 : argF #[s, .int .i64 (n : Nat)] 1 = .int .i64 (n : Nat) := rfl
  generalize argF #[s, .int .i64 (n : Nat)] = f at h0 h1
  repeat (first|refine rA ?_|refine rB ?_|refine rC ?_|refine rD ?_|(refine rR ?_;simp only [tO, Nat.reduceAdd])|refine rE ?_|(refine rO goodFF rfl ?_;intro _ hu_ K_ hK_;go_simp;(try rw [wI _]);(try rw [wU _]);refine hK_ _ ?_;clear hK_ K_ hu_;simp only [sS, sN])|(refine rP rfl ?_;simp only [sS, sN]))
  (refine reach_callR rfl (by first | rfl | simp [Region.wanted, yielded, TA_get, *]) rfl Try.func38 (by kernel_rfl) rfl (by simp [Act.eval, *]; try rfl) (hmend) ?_)
  rintro _ S1 v1 hv1 ⟨BA, PB, rfl, hp⟩
  simp only [stO_some]
  have hnI : ¬ ((n : Int) < 0) := by omega
  have hnI2 : ¬ ((10 : Int) * (m : Int) < (n : Int)) := by omega
  have hc0 : v1.cell? ⟨BA, 0, none⟩ = some (sl (PB 0) m) := (cell_of_row _ BA 0 _ _ _ hp.ba).trans (allA_get _ 0 (by omega))
  repeat (first|refine rA ?_|refine rB ?_|refine rC ?_|refine rD ?_|(refine rR ?_;simp only [tO, Nat.reduceAdd])|refine rE ?_|(refine rO goodFF rfl ?_;intro _ hu_ K_ hK_;(have hc := (Ext.twin hu_).cell hc0);go_simp;(try rw [wI _]);(try rw [wU _]);refine hK_ _ ?_;clear hK_ K_ hu_;simp only [sS, sN])|(refine rP rfl ?_;simp only [sS, sN]))
  (refine reach_cond (t := false) (by simp [Act.eval]) ?_; simp only [if_true, if_false, reduceIte, Bool.false_eq_true])
  repeat (first|refine rA ?_|refine rB ?_|refine rC ?_|refine rD ?_|(refine rR ?_;simp only [tO, Nat.reduceAdd])|refine rE ?_|(refine rO goodFF rfl ?_;intro _ hu_ K_ hK_;(have hc := (Ext.twin hu_).cell hc0);go_simp;(try rw [wI _]);(try rw [wU _]);refine hK_ _ ?_;clear hK_ K_ hu_;simp only [sS, sN])|(refine rP rfl ?_;simp only [sS, sN]))
  (refine reach_cond (t := false) (by simp [Act.eval]) ?_; simp only [if_true, if_false, reduceIte, Bool.false_eq_true])
  repeat (first|refine rA ?_|refine rB ?_|refine rC ?_|refine rD ?_|(refine rR ?_;simp only [tO, Nat.reduceAdd])|refine rE ?_|(refine rO goodFF rfl ?_;intro _ hu_ K_ hK_;go_simp;(try rw [wI _]);(try rw [wU _]);refine hK_ _ ?_;clear hK_ K_ hu_;simp only [sS, sN])|(refine rP rfl ?_;simp only [sS, sN]))
  refine reach_makeBytes goodFF rfl rfl (by kernel_rfl) rfl (m := n) (by simp [h1]) (by simp [h1]) (by omega) (by kernel_rfl) Try.underlying25 fun v2 hE2 hr2 hs2 => ?_
  simp only [stO_some]
  repeat (first|refine rA ?_|refine rB ?_|refine rC ?_|refine rD ?_|(refine rR ?_;simp only [tO, Nat.reduceAdd])|refine rE ?_|(refine rO goodFF rfl ?_;intro _ hu_ K_ hK_;go_simp;(try rw [wI _]);(try rw [wU _]);refine hK_ _ ?_;clear hK_ K_ hu_;simp only [sS, sN])|(refine rP rfl ?_;simp only [sS, sN]))
  have hJ : JI v1 v1.heap.size n (joinP p m (min (0 * m) n)) v2 := ⟨(Kp.refl v1 _).ext hE2, by rw [hr2, bytesA_zero, bytesA_congr (g := joinP p m (min (0 * m) n)) fun i hi => by simp [joinP]]⟩
  have hpb : ∀ k, k < 14 → v1.heap[PB k]? = some (.cells (bytesA m (p k)) 5) := hp.pb
  refine reach_rounds (fun d f' S' v' => ∃ j, d = 10 - j ∧ j ≤ 10 ∧ S' = S1 ∧ JI v1 v1.heap.size n (joinP p m (min (j * m) n)) v' ∧ f' 8 = sl v1.heap.size n ∧ f' 9 = .int .i64 ((min (j * m) n : Nat) : Int) ∧ f' 34 = .slice (some ⟨BA, 0, none⟩) 10 14 ∧ f' 35 = .int .i64 10 ∧ f' 36 = .int .i64 (j : Nat)) 10 ⟨0, by omega, by omega, rfl, hJ, by simp, by simp, by simp, by simp, by simp⟩ ?_
  rintro d f' S' v' ⟨j, rfl, hj, eS, hI, g8, g9, g34, g35, g36⟩ next
  subst S'
  repeat (first|refine rA ?_|refine rB ?_|refine rC ?_|refine rD ?_|(refine rR ?_;simp only [tO, Nat.reduceAdd])|refine rE ?_|(refine rO goodFF rfl ?_;intro _ hu_ K_ hK_;go_simp;(try rw [wI _]);(try rw [wU _]);refine hK_ _ ?_;clear hK_ K_ hu_;simp only [sS, sN])|(refine rP rfl ?_;simp only [sS, sN]))
  by_cases hlt : j < 10
  · have hjI : (j : Int) < 10 := by omega
    (refine reach_cond (t := true) (by simp [Act.eval, g36, g35, hjI]) ?_; simp only [if_true, if_false, reduceIte, Bool.false_eq_true])
    have hcj : v'.cell? ⟨BA, j, none⟩ = some (sl (PB j) m) := hI.kp.cell (fun x => x) ((cell_of_row _ BA j _ _ _ hp.ba).trans (allA_get _ j (by omega)))
    obtain ⟨hs1, hs2', hs3, hs4⟩ := join_step p m n j
    obtain ⟨fl, hfl⟩ : ∃ fl, fl = min (j * m) n := ⟨_, rfl⟩
    rw [← hfl] at hs1 hs2' hs3 hs4 g9 hI
    have H1 := hide hs1
    have H2 := hide hs3
    clear hs1 hs3 hfl
    have hflI : (fl : Int) ≤ (n : Int) := by omega
    repeat (first|refine rA ?_|refine rB ?_|refine rC ?_|refine rD ?_|(refine rR ?_;simp only [tO, Nat.reduceAdd])|refine rE ?_|(refine rO goodFF rfl ?_;intro _ hu_ K_ hK_;(have hc := (Ext.twin hu_).cell hcj);go_simp;(try rw [wI _]);(try rw [wU _]);refine hK_ _ ?_;clear hK_ K_ hu_;simp only [sS, sN])|(refine rP rfl ?_;simp only [sS, sN]))
    obtain ⟨o, ho⟩ : ∃ o, o = if n = fl then 0 else fl := ⟨_, rfl⟩
    rw [← ho] at H1 hs2'
    have eo : (if n = fl then some (⟨v1.heap.size, 0, none⟩ : Addr) else some ⟨v1.heap.size, fl, none⟩) = some ⟨v1.heap.size, o, none⟩ := by
      rw [ho]; split <;> rfl
    rw [eo]
    have hPj : v'.heap[PB j]? = some (.cells (bytesA m (p j)) 5) := hI.kp.cells _ _ _ _ (fun x => x) (hpb j (by omega))
    refine reach_copy goodFF rfl rfl (by kernel_rfl) rfl (d := .tmp 43) (s := .tmp 44) (g := v1.heap.size) (o' := o) (dLen := n - fl) (dCap := n - fl) (b := PB j) (off := 0) (sLen := m) (sCap := m) (cells := (List.range (min m (n - fl))).map fun i => Value.int .u8 ((p j i : Nat) : Int)) (by simp) (by simp) Try.underlying25 (by kernel_rfl) hI.bv (by simp) (fun i z hz => ?_) (by rw [bytesA_size]; simp; omega) bytesL_mem fun v6 hW6 => ?_
    · obtain ⟨hi, rfl⟩ := bytesL_get hz
      rw [Nat.zero_add]
      exact (cell_of_row _ (PB j) i _ _ _ hPj).trans (bytesA_get m _ i (by omega))
    simp only [List.length_map, List.length_range, stO_some] at hW6 ⊢
    rw [splice_bytes n o (min m (n - fl)) (p j) _ hs2', H1.out] at hW6
    have hgo : goInt ((min m (n - fl) : Nat) : Int) = .int .i64 ((min m (n - fl) : Nat) : Int) := rfl
    rw [hgo]
    have hcm : min m (n - fl) ≤ 400 := by omega
    have HC := hide (show fl + min m (n - fl) = min ((j + 1) * m) n from H2.out)
    generalize min m (n - fl) = cc' at HC hcm ⊢
    clear H1 H2
    repeat (first|refine rA ?_|refine rB ?_|refine rC ?_|refine rD ?_|(refine rR ?_;simp only [tO, Nat.reduceAdd])|refine rE ?_|(refine rO goodFF rfl ?_;intro _ hu_ K_ hK_;go_simp;(try rw [wI _]);(try rw [wU _]);refine hK_ _ ?_;clear hK_ K_ hu_;simp only [sS, sN])|(refine rP rfl ?_;simp only [sS, sN]))
    refine next _ _ _ (10 - (j + 1)) (by omega) ⟨j + 1, rfl, by omega, rfl, ⟨⟨?_, ?_, ?_, fun b o _ hc ht => ?_⟩, hW6.at_⟩, ?_, ?_, ?_, ?_, ?_⟩
    · rw [hW6.size]; exact hI.kp.size
    · rw [hW6.os]; exact hI.kp.os
    · rw [hW6.output]; exact hI.kp.output
    · have := (Array.getElem?_eq_some_iff.1 hc).1
      rw [hW6.other b (by omega)]
      exact hI.kp.objs b o (fun x => x) hc ht
    · simp [g8]
    · simp
      have := HC.out
      omega
    · simp [g34]
    · simp [g35]
    · simp
  · obtain rfl : j = 10 := by omega
    (refine reach_cond (t := false) (by simp [Act.eval, g36, g35]) ?_; simp only [if_true, if_false, reduceIte, Bool.false_eq_true])
    refine reach_exit rfl ?_
    repeat (first|refine rA ?_|refine rB ?_|refine rC ?_|refine rD ?_|(refine rR ?_;simp only [tO, Nat.reduceAdd])|refine rE ?_|(refine rO goodFF rfl ?_;intro _ hu_ K_ hK_;go_simp;(try rw [wI _]);(try rw [wU _]);refine hK_ _ ?_;clear hK_ K_ hu_;simp only [sS, sN])|(refine rP rfl ?_;simp only [sS, sN]))
    refine reach_ret fun todo => ?_
    refine ret _ _ S1 v' (.tuple #[sl v1.heap.size n, .int .i64 0]) ?_ ⟨v1.heap.size, rfl, hp.kp.size, ⟨hp.kp.trans hI.kp, ?_⟩⟩
    · simp [results, Try.results39, g8]
    · rw [hI.bv, bytesA_congr (g := fun i => p (i / m) (i % m)) fun i hi => by simp only [joinP]; rw [if_pos (by omega)]]
theorem mmend_of {S : Nat → Prop} {v : World} {s : Value} {Post : Value → (Nat → Prop) → World → Prop} (h : CallsR Try.prog 38 #[s] S v fun y S' v' => ∃ a b, y = .tuple #[a, b] ∧ Post y S' v') : CallsR Try.prog 21 #[s] S v Post := by
  refine callsR_body Try.func21 rfl Try.ntmps21 (by simp) fun Stop cc cs ret => ?_
  have h0 : argF #[s] 0 = s := rfl
  generalize argF #[s] = f at h0
  repeat (first|refine rA ?_|refine rB ?_|refine rC ?_|refine rD ?_|(refine rR ?_;simp only [tO, Nat.reduceAdd])|refine rE ?_|(refine rO goodFF rfl ?_;intro _ hu_ K_ hK_;go_simp;(try rw [wI _]);(try rw [wU _]);refine hK_ _ ?_;clear hK_ K_ hu_;simp only [sS, sN])|(refine rP rfl ?_;simp only [sS, sN]))
  (refine reach_callR rfl (by first | rfl | simp [Region.wanted, yielded, TA_get, *]) rfl Try.func38 (by kernel_rfl) rfl (by simp [Act.eval, *]; try rfl) (h) ?_)
  rintro _ S1 v1 hv1 ⟨a, b, rfl, hp⟩
  simp only [stO_some]
  repeat (first|refine rA ?_|refine rB ?_|refine rC ?_|refine rD ?_|(refine rR ?_;simp only [tO, Nat.reduceAdd])|refine rE ?_|(refine rO goodFF rfl ?_;intro _ hu_ K_ hK_;go_simp;(try rw [wI _]);(try rw [wU _]);refine hK_ _ ?_;clear hK_ K_ hu_;simp only [sS, sN])|(refine rP rfl ?_;simp only [sS, sN]))
  refine reach_ret fun todo => ?_
  refine ret _ _ _ _ _ ?_ hp
  simp [results, Try.results21]
theorem mjoin_of {S : Nat → Prop} {v : World} {s n : Value} {Post : Value → (Nat → Prop) → World → Prop} (h : CallsR Try.prog 39 #[s, n] S v fun y S' v' => ∃ a b, y = .tuple #[a, b] ∧ Post y S' v') : CallsR Try.prog 25 #[s, n] S v Post := by
  refine callsR_body Try.func25 rfl Try.ntmps25 (by simp) fun Stop cc cs ret => ?_
  have h0 : argF #[s, n] 0 = s := rfl
  have h1 : argF #[s, n] 1 = n := rfl
  generalize argF #[s, n] = f at h0 h1
  repeat (first|refine rA ?_|refine rB ?_|refine rC ?_|refine rD ?_|(refine rR ?_;simp only [tO, Nat.reduceAdd])|refine rE ?_|(refine rO goodFF rfl ?_;intro _ hu_ K_ hK_;go_simp;(try rw [wI _]);(try rw [wU _]);refine hK_ _ ?_;clear hK_ K_ hu_;simp only [sS, sN])|(refine rP rfl ?_;simp only [sS, sN]))
  (refine reach_callR rfl (by first | rfl | simp [Region.wanted, yielded, TA_get, *]) rfl Try.func39 (by kernel_rfl) rfl (by simp [Act.eval, *]; try rfl) (h) ?_)
  rintro _ S1 v1 hv1 ⟨a, b, rfl, hp⟩
  simp only [stO_some]
  repeat (first|refine rA ?_|refine rB ?_|refine rC ?_|refine rD ?_|(refine rR ?_;simp only [tO, Nat.reduceAdd])|refine rE ?_|(refine rO goodFF rfl ?_;intro _ hu_ K_ hK_;go_simp;(try rw [wI _]);(try rw [wU _]);refine hK_ _ ?_;clear hK_ K_ hu_;simp only [sS, sN])|(refine rP rfl ?_;simp only [sS, sN]))
  refine reach_ret fun todo => ?_
  refine ret _ _ _ _ _ ?_ hp
  simp [results, Try.results25]
end Go.Proofs.Ytpiefebngnlfoaa

/-
  mosaickeep.alive, mosaickeep.short.
-/
set_option linter.unusedVariables false
set_option linter.unusedSimpArgs false
namespace Go.Proofs.Ytpiefebngnlfoaa
open Go.RowKit Go.Conc Go.Vw

def dig (i : Nat) : Nat := if i < 10 then 48 + i else 0
def digs : Array Value := #[.int .u8 48, .int .u8 49, .int .u8 50, .int .u8 51, .int .u8 52, .int .u8 53, .int .u8 54, .int .u8 55, .int .u8 56, .int .u8 57]
theorem digs_get (j : Nat) (h : j < 10) : digs[j]? = some (.int .u8 (dig j : Nat)) := by
  have : j = 0 ∨ j = 1 ∨ j = 2 ∨ j = 3 ∨ j = 4 ∨ j = 5 ∨ j = 6 ∨ j = 7 ∨ j = 8 ∨ j = 9 := by omega
  rcases this with rfl | rfl | rfl | rfl | rfl | rfl | rfl | rfl | rfl | rfl <;> rfl
theorem dig_lt (i : Nat) : dig i < 256 := by unfold dig; split <;> omega
/-- All being there, the first ten are the first ten. -/
theorem ftC_all {q : Nat → Option Addr} (h : ∀ k, k < 14 → (q k).isSome = true) : ∀ i, i ≤ 14 → (ftC q i).1 = min i 10 ∧ ∀ j, j < min i 10 → (ftC q i).2 j = j
  | 0, _ => ⟨rfl, fun j hj => by omega⟩
  | i + 1, hi => by
    obtain ⟨h1, h2⟩ := ftC_all h i (by omega)
    unfold ftC
    by_cases hc : (ftC q i).1 < 10
    · rw [if_pos ⟨h i (by omega), hc⟩]
      refine ⟨by simp only; omega, fun j hj => ?_⟩
      simp only
      by_cases e : j = (ftC q i).1
      · rw [if_pos e]; omega
      · rw [if_neg e]; exact h2 j (by omega)
    · rw [if_neg fun x => hc x.2]
      exact ⟨by omega, fun j hj => h2 j (by omega)⟩
set_option maxRecDepth 100000 in
set_option maxHeartbeats 1000000 in
theorem alive_r {S : Nat → Prop} {v : World} (hg : Try.prog.globals.size ≤ v.heap.size) :
    CallsR Try.prog 29 #[] S v fun x S' v' => x = .bool true ∧ Kp v (fun _ => False) v' := by
  refine callsR_body Try.func29 rfl Try.ntmps29 (by simp) fun Stop cc cs ret => ?_
  generalize argF #[] = f
  repeat (first|refine rA ?_|refine rB ?_|refine rC ?_|refine rD ?_|(refine rR ?_;simp only [tO, Nat.reduceAdd])|refine rE ?_|(refine rO goodFF rfl ?_;intro _ hu_ K_ hK_;go_simp;(try rw [wI _]);(try rw [wU _]);refine hK_ _ ?_;clear hK_ K_ hu_;simp only [sS, sN])|(refine rP rfl ?_;simp only [sS, sN]))
  refine reach_turn goodFF rfl rfl (by kernel_rfl) (x := sl v.heap.size 10) (v' := v.alloc (.cells digs 5)) (fun u hu => ⟨_, twin_alloc hu _, .inl (run_eq_of fun K hK => ?_)⟩) ?_
  · go_simp
    have e : u.heap.size = v.heap.size := by rw [hu.heap]
    rw [e]
    exact hK
  · simp only [stO_some]
    repeat (first|refine rA ?_|refine rB ?_|refine rC ?_|refine rD ?_|(refine rR ?_;simp only [tO, Nat.reduceAdd])|refine rE ?_|(refine rO goodFF rfl ?_;intro _ hu_ K_ hK_;go_simp;(try rw [wI _]);(try rw [wU _]);refine hK_ _ ?_;clear hK_ K_ hu_;simp only [sS, sN])|(refine rP rfl ?_;simp only [sS, sN]))
    refine reach_mark rfl rfl rfl Try.underlying25 Try.underlying5 (g := v.heap.size) (o' := 0) (m := 10) (c := 10) (by simp) (alloc_at v _) fun v1 fr1 hW1 => ?_
    simp only [stO_some]
    have hs1 : v1.heap.size = v.heap.size + 1 := hW1.size.trans (alloc_size v _)
    have hk1 : Kp v (fun _ => False) v1 := ⟨by omega, hW1.os, hW1.output, fun b o _ hc ht => by
      have := (Array.getElem?_eq_some_iff.1 hc).1
      rw [hW1.other b (by omega)]
      exact (Ext.alloc v _).row hc⟩
    have hsl1 : SliceV v1 (some ⟨v.heap.size, 0, none⟩) 10 10 dig := .inr ⟨v.heap.size, 0, rfl, Nat.le_refl _, fun j hj => by
      rw [Nat.zero_add]
      exact (cell_of_row _ v.heap.size j _ _ _ hW1.at_).trans (digs_get j hj)⟩
    have hcut := mcut_of ((cut_r (S := S) 10 10 (some ⟨v.heap.size, 0, none⟩) dig (by omega) dig_lt hsl1 (by omega)).mono fun y S' v' _ q => let ⟨BA, PB, e, hp⟩ := q; ⟨sl BA 14, .int .i64 0, e, (⟨BA, PB, e, hp⟩ : ∃ BA PB, y = .tuple #[sl BA 14, .int .i64 0] ∧ Pieces v1 BA PB 1 (cutOf dig 10) v')⟩)
    repeat (first|refine rA ?_|refine rB ?_|refine rC ?_|refine rD ?_|(refine rR ?_;simp only [tO, Nat.reduceAdd])|refine rE ?_|(refine rO goodFF rfl ?_;intro _ hu_ K_ hK_;go_simp;(try rw [wI _]);(try rw [wU _]);refine hK_ _ ?_;clear hK_ K_ hu_;simp only [sS, sN])|(refine rP rfl ?_;simp only [sS, sN]))
    (refine reach_callR rfl (by first | rfl | simp [Region.wanted, yielded, TA_get, *]) rfl Try.func13 (by kernel_rfl) rfl (by simp [Act.eval, *]; try rfl) (hcut) ?_)
    rintro _ S2 v2 hv2 ⟨BA, PB, rfl, hp⟩
    simp only [stO_some]
    repeat (first|refine rA ?_|refine rB ?_|refine rC ?_|refine rD ?_|(refine rR ?_;simp only [tO, Nat.reduceAdd])|refine rE ?_|(refine rO goodFF rfl ?_;intro _ hu_ K_ hK_;go_simp;(try rw [wI _]);(try rw [wU _]);refine hK_ _ ?_;clear hK_ K_ hu_;simp only [sS, sN])|(refine rP rfl ?_;simp only [sS, sN]))
    (refine reach_cond (t := false) (by simp [Act.eval]) ?_; simp only [if_true, if_false, reduceIte, Bool.false_eq_true])
    have hP : PL v2 BA 0 (fun k => some ⟨PB k, 0, none⟩) (fun _ => 1) (fun _ => 1) (cutOf dig 10) := by
      refine ⟨fun k hk => ?_, fun k hk => .inr ⟨PB k, 0, rfl, Nat.le_refl _, fun j hj => ?_⟩⟩
      · rw [Nat.zero_add]
        exact (cell_of_row _ BA k _ _ _ hp.ba).trans (allA_get _ k hk)
      · rw [Nat.zero_add]
        exact (cell_of_row _ (PB k) j _ _ _ (hp.pb k hk)).trans (bytesA_get 1 _ j hj)
    have hall := ftC_all (q := fun k => some (⟨PB k, 0, none⟩ : Addr)) (fun k hk => rfl) 14 (Nat.le_refl _)
    have hcl : ∀ k i, cutOf dig 10 k i < 256 := fun k i => by
      have hr : ∀ k i, rowOf dig 10 ((10 + 9) / 10) k i < 256 := fun k i => by
        unfold rowOf
        split
        · exact dig_lt _
        · omega
      unfold cutOf
      split
      · exact hr k i
      · exact Fld.comb_lt _ (wgt_lt id k) 10 i
    have hmend := mend_r (S := S2) BA 0 14 1 _ _ _ _ hP (fun k hk _ => rfl) (by omega) hall.1 hcl (by have := hp.kp.size; omega)
    have hjoin := mjoin_of ((join_r (S := S2) (v := v2) (sl BA 14) 1 10 _ (by omega) (by omega) hmend).mono fun y S' v' _ q => let ⟨BV, e, h1, h2⟩ := q; ⟨sl BV 10, .int .i64 0, e, (⟨BV, e, h2⟩ : ∃ BV, y = .tuple #[sl BV 10, .int .i64 0] ∧ JI v2 BV 10 _ v')⟩)
    repeat (first|refine rA ?_|refine rB ?_|refine rC ?_|refine rD ?_|(refine rR ?_;simp only [tO, Nat.reduceAdd])|refine rE ?_|(refine rO goodFF rfl ?_;intro _ hu_ K_ hK_;go_simp;(try rw [wI _]);(try rw [wU _]);refine hK_ _ ?_;clear hK_ K_ hu_;simp only [sS, sN])|(refine rP rfl ?_;simp only [sS, sN]))
    (refine reach_callR rfl (by first | rfl | simp [Region.wanted, yielded, TA_get, *]) rfl Try.func25 (by kernel_rfl) rfl (by simp [Act.eval, *]; try rfl) (hjoin) ?_)
    rintro _ S3 v3 hv3 ⟨BV, rfl, hJ⟩
    simp only [stO_some]
    have hbytes : ∀ i, i < 10 → v3.cell? ⟨BV, 0 + i, none⟩ = some (.int .u8 (([48, 49, 50, 51, 52, 53, 54, 55, 56, 57] : List Int).getD i 0)) := by
      intro i hi
      rw [Nat.zero_add]
      refine (cell_of_row _ BV i _ _ _ hJ.bv).trans ((bytesA_get 10 _ i hi).trans ?_)
      have hlk : lackB (ftC (fun k => some (⟨PB k, 0, none⟩ : Addr)) 14).2 i = false := by
        cases hl : lackB (ftC (fun k => some (⟨PB k, 0, none⟩ : Addr)) 14).2 i with
        | false => rfl
        | true => exact absurd (hall.2 i (by omega)) (lackB_iff.1 hl i hi)
      simp only [Nat.div_one, Nat.mod_one, mendOf, hlk, Bool.false_eq_true, if_false, cutOf, if_pos hi, rowOf]
      have : i = 0 ∨ i = 1 ∨ i = 2 ∨ i = 3 ∨ i = 4 ∨ i = 5 ∨ i = 6 ∨ i = 7 ∨ i = 8 ∨ i = 9 := by omega
      rcases this with rfl | rfl | rfl | rfl | rfl | rfl | rfl | rfl | rfl | rfl <;> rfl
    have kc := fun (u : World) (hu : Vw.Twin v3 u) => run_convert_bytes_arg (P := Try.prog) u 25 5 Try.underlying25 Try.underlying5 BV 0 10 10 [48, 49, 50, 51, 52, 53, 54, 55, 56, 57] rfl (fun i hi => (Ext.twin hu).cell (hbytes i hi)) 9 Try.underlying9
    have es : strOfNums [48, 49, 50, 51, 52, 53, 54, 55, 56, 57] = ⟨#[48, 49, 50, 51, 52, 53, 54, 55, 56, 57]⟩ := by rfl
    rw [es] at kc
    clear es hbytes
    repeat (first|refine rA ?_|refine rB ?_|refine rC ?_|refine rD ?_|(refine rR ?_;simp only [tO, Nat.reduceAdd])|refine rE ?_|(refine rO goodFF rfl ?_;intro _ hu_ K_ hK_;(have kc' := kc _ hu_);go_simp;(try rw [wI _]);(try rw [wU _]);refine hK_ _ ?_;clear hK_ K_ hu_;simp only [sS, sN])|(refine rP rfl ?_;simp only [sS, sN]))
    refine reach_ret fun todo => ?_
    refine ret _ _ _ _ _ ?_ ⟨rfl, (hk1.trans hp.kp).trans hJ.kp⟩
    simp [results, Try.results29]
end Go.Proofs.Ytpiefebngnlfoaa

/-
  What the laws of pieces share: short, lists of pieces, bounds.
-/
set_option linter.unusedVariables false
set_option linter.unusedSimpArgs false
namespace Go.Proofs.Ytpiefebngnlfoaa
open Go.RowKit Go.Conc Go.Vw

theorem short_some {S : Nat → Prop} {v : World} (len cap B off : Nat) (hc : len ≤ cap) (hl : len < 2 ^ 63) :
    CallsR Try.prog 30 #[.slice (some ⟨B, off, none⟩) len cap] S v fun x S' v' => x = .slice (some ⟨B, off, none⟩) (min len 400) cap ∧ S' = S ∧ v' = v := by
  refine callsR_body Try.func30 rfl Try.ntmps30 (by simp) fun Stop cc cs ret => ?_
  have h0 : argF #[.slice (some ⟨B, off, none⟩) len cap] 0 = .slice (some ⟨B, off, none⟩) len cap := rfl
  generalize argF #[.slice (some ⟨B, off, none⟩) len cap] = f at h0
  by_cases hlt : 400 < len
  · have hI : (400 : Int) < (len : Int) := by omega
    have hcI : (400 : Int) ≤ (cap : Int) := by omega
    repeat (first|refine rA ?_|refine rB ?_|refine rC ?_|refine rD ?_|(refine rR ?_;simp only [tO, Nat.reduceAdd])|refine rE ?_|(refine rO goodFF rfl ?_;intro _ hu_ K_ hK_;go_simp;(try rw [wI _]);(try rw [wU _]);refine hK_ _ ?_;clear hK_ K_ hu_;simp only [sS, sN])|(refine rP rfl ?_;simp only [sS, sN]))
    (refine reach_cond (t := true) (by simp [Act.eval, h0, hI]) ?_; simp only [if_true, if_false, reduceIte, Bool.false_eq_true])
    repeat (first|refine rA ?_|refine rB ?_|refine rC ?_|refine rD ?_|(refine rR ?_;simp only [tO, Nat.reduceAdd])|refine rE ?_|(refine rO goodFF rfl ?_;intro _ hu_ K_ hK_;go_simp;(try rw [wI _]);(try rw [wU _]);refine hK_ _ ?_;clear hK_ K_ hu_;simp only [sS, sN])|(refine rP rfl ?_;simp only [sS, sN]))
    refine reach_ret fun todo => ?_
    refine ret _ _ _ _ _ ?_ ⟨rfl, rfl, rfl⟩
    simp [results, Try.results30, Nat.min_eq_right (show 400 ≤ len by omega)]
  · have hI : ¬ (400 : Int) < (len : Int) := by omega
    repeat (first|refine rA ?_|refine rB ?_|refine rC ?_|refine rD ?_|(refine rR ?_;simp only [tO, Nat.reduceAdd])|refine rE ?_|(refine rO goodFF rfl ?_;intro _ hu_ K_ hK_;go_simp;(try rw [wI _]);(try rw [wU _]);refine hK_ _ ?_;clear hK_ K_ hu_;simp only [sS, sN])|(refine rP rfl ?_;simp only [sS, sN]))
    (refine reach_cond (t := false) (by simp [Act.eval, h0, hI]) ?_; simp only [if_true, if_false, reduceIte, Bool.false_eq_true])
    repeat (first|refine rA ?_|refine rB ?_|refine rC ?_|refine rD ?_|(refine rR ?_;simp only [tO, Nat.reduceAdd])|refine rE ?_|(refine rO goodFF rfl ?_;intro _ hu_ K_ hK_;go_simp;(try rw [wI _]);(try rw [wU _]);refine hK_ _ ?_;clear hK_ K_ hu_;simp only [sS, sN])|(refine rP rfl ?_;simp only [sS, sN]))
    refine reach_ret fun todo => ?_
    refine ret _ _ _ _ _ ?_ ⟨rfl, rfl, rfl⟩
    simp [results, Try.results30, Nat.min_eq_left (show len ≤ 400 by omega)]
theorem short_none {S : Nat → Prop} {v : World} :
    CallsR Try.prog 30 #[.slice none 0 0] S v fun x S' v' => x = .slice none 0 0 ∧ S' = S ∧ v' = v := by
  refine callsR_body Try.func30 rfl Try.ntmps30 (by simp) fun Stop cc cs ret => ?_
  have h0 : argF #[.slice none 0 0] 0 = .slice none 0 0 := rfl
  generalize argF #[.slice none 0 0] = f at h0
  repeat (first|refine rA ?_|refine rB ?_|refine rC ?_|refine rD ?_|(refine rR ?_;simp only [tO, Nat.reduceAdd])|refine rE ?_|(refine rO goodFF rfl ?_;intro _ hu_ K_ hK_;go_simp;(try rw [wI _]);(try rw [wU _]);refine hK_ _ ?_;clear hK_ K_ hu_;simp only [sS, sN])|(refine rP rfl ?_;simp only [sS, sN]))
  (refine reach_cond (t := false) (by simp [Act.eval, h0]) ?_; simp only [if_true, if_false, reduceIte, Bool.false_eq_true])
  repeat (first|refine rA ?_|refine rB ?_|refine rC ?_|refine rD ?_|(refine rR ?_;simp only [tO, Nat.reduceAdd])|refine rE ?_|(refine rO goodFF rfl ?_;intro _ hu_ K_ hK_;go_simp;(try rw [wI _]);(try rw [wU _]);refine hK_ _ ?_;clear hK_ K_ hu_;simp only [sS, sN])|(refine rP rfl ?_;simp only [sS, sN]))
  refine reach_ret fun todo => ?_
  refine ret _ _ _ _ _ ?_ ⟨rfl, rfl, rfl⟩
  simp [results, Try.results30]
theorem short_r {S : Nat → Prop} {v : World} (len cap : Nat) (p : Option Addr) (x : Nat → Nat) (hs : SliceV v p len cap x) (hl : len < 2 ^ 63) :
    CallsR Try.prog 30 #[.slice p len cap] S v fun y S' v' => y = .slice p (min len 400) cap ∧ S' = S ∧ v' = v := by
  rcases hs with ⟨rfl, rfl, rfl⟩ | ⟨B, off, rfl, hc, _⟩
  · exact short_none
  · exact short_some len cap B off hc hl
theorem SliceV.head {v : World} {p : Option Addr} {l l' c : Nat} {x : Nat → Nat} (h : SliceV v p l c x) (hl : l' ≤ l) : SliceV v p l' c x :=
  h.imp (fun ⟨e1, e2, e3⟩ => ⟨e1, by omega, e3⟩) fun ⟨B, off, e1, e2, e3⟩ => ⟨B, off, e1, by omega, fun j hj => e3 j (by omega)⟩
/-- A list of fourteen pieces. -/
structure L14 (v : World) (BX : Nat) (PX : Nat → Nat) (m : Nat) (p : Nat → Nat → Nat) : Prop where
  ba : v.heap[BX]? = some (.cells (allA fun k => sl (PX k) m) 25)
  pb : ∀ k, k < 14 → v.heap[PX k]? = some (.cells (bytesA m (p k)) 5)
theorem Pieces.l14 {v v1 : World} {BA : Nat} {PB : Nat → Nat} {m : Nat} {p : Nat → Nat → Nat} (h : Pieces v BA PB m p v1) : L14 v1 BA PB m p := ⟨h.ba, h.pb⟩
theorem L14.kp {v v1 : World} {BA : Nat} {PB : Nat → Nat} {m : Nat} {p : Nat → Nat → Nat} (h : L14 v BA PB m p) (k : Kp v (fun _ => False) v1) : L14 v1 BA PB m p := ⟨k.cells _ _ _ _ (fun x => x) h.ba, fun c hc => k.cells _ _ _ _ (fun x => x) (h.pb c hc)⟩
theorem mcut_r {S : Nat → Prop} {v : World} (len cap : Nat) (p : Option Addr) (val : Nat → Nat) (hl : len ≤ 400) (hx : ∀ i, val i < 256) (hs : SliceV v p len cap val) (hg : Try.prog.globals.size ≤ v.heap.size) :
    CallsR Try.prog 13 #[.slice p len cap] S v fun y S' v' => ∃ BA PB, y = .tuple #[sl BA 14, .int .i64 0] ∧ Pieces v BA PB ((len + 9) / 10) (cutOf val len) v' :=
  mcut_of ((cut_r len cap p val hl hx hs hg).mono fun y S' v' _ q => let ⟨BA, PB, e, hp⟩ := q; ⟨sl BA 14, .int .i64 0, e, BA, PB, e, hp⟩)

theorem row_lt {x : Nat → Nat} (h : ∀ i, x i < 256) (L m k i : Nat) : rowOf x L m k i < 256 := by
  unfold rowOf
  split
  · exact h _
  · omega
theorem cut_lt {x : Nat → Nat} (h : ∀ i, x i < 256) (L k i : Nat) : cutOf x L k i < 256 := by
  unfold cutOf
  split
  · exact row_lt h _ _ _ _
  · exact Fld.comb_lt _ (wgt_lt id k) 10 i
theorem L14.piece {v : World} {BX : Nat} {PX : Nat → Nat} {m : Nat} {p : Nat → Nat → Nat} (h : L14 v BX PX m p) {k : Nat} (hk : k < 14) : v.cell? ⟨BX, k, none⟩ = some (sl (PX k) m) := (cell_of_row _ BX k _ _ _ h.ba).trans (allA_get _ k hk)
theorem L14.byte {v : World} {BX : Nat} {PX : Nat → Nat} {m : Nat} {p : Nat → Nat → Nat} (h : L14 v BX PX m p) {k i : Nat} (hk : k < 14) (hi : i < m) : v.cell? ⟨PX k, i, none⟩ = some (.int .u8 (p k i : Nat)) := (cell_of_row _ (PX k) i _ _ _ (h.pb k hk)).trans (bytesA_get m _ i hi)

/-- The operations of the region of that number. -/
def opsAt (id : Nat) : Code → Option (Array Oper)
  | .region i ops _ => bif Nat.beq i id then some ops else none
  | .seq a b => match opsAt id a with
    | some x => some x
    | none => opsAt id b
  | .cond _ a b => match opsAt id a with
    | some x => some x
    | none => opsAt id b
  | .block _ c => opsAt id c
  | .loop c => opsAt id c
  | _ => none
end Go.Proofs.Ytpiefebngnlfoaa

/-
  Rows that a function owns: 'append' onto them, and what stays beside them.
-/
set_option linter.unusedVariables false
set_option linter.unusedSimpArgs false
namespace Go.Proofs.Ytpiefebngnlfoaa
open Go.RowKit Go.Conc Go.Vw

set_option maxRecDepth 100000 in
theorem infoB : ∃ i z, Try.prog.info? 5 = some i ∧ i.zero = some z ∧ i.size = 1 ∧ i.bytes = 1 ∧ z.cells.size = 1 := ⟨_, _, rfl, rfl, rfl, rfl, rfl⟩
set_option maxRecDepth 100000 in
theorem infoS : ∃ i z, Try.prog.info? 25 = some i ∧ i.zero = some z ∧ i.size = 1 ∧ i.bytes = 24 ∧ z.cells = #[z] := ⟨_, _, rfl, rfl, rfl, rfl, rfl⟩
theorem own_type {w : World} {base n g : Nat} {e : TypeId} {sv : Value} {xs : List Value} (h : w.ownsRow base e 1 sv n xs) (hg : sv.ownBlock = some g) : ∃ c, w.heap[g]? = some (.cells c e) := by
  rcases h.2 with ⟨rfl, _⟩ | ⟨g', cap, cur, rfl, _, hc, _⟩
  · cases hg
  · simp only [Value.ownBlock] at hg
    cases hg
    exact ⟨_, hc⟩
/-- New blocks, and at most one row turned. -/
structure Gr (w w' : World) (row : Option Nat) : Prop where
  os : w'.os = w.os
  output : w'.output = w.output
  size : w.heap.size ≤ w'.heap.size
  block : ∀ k, k < w.heap.size → some k ≠ row → w'.heap[k]? = w.heap[k]?
theorem Gr.of {w u w' : World} {row : Option Nat} (t : Vw.Twin w u) (g : u.grownBy w' row) : Gr w w' row :=
  ⟨g.os.trans t.os, g.output.trans t.output, by rw [← t.heap]; exact g.size, fun k hk hr => by rw [← t.heap] at hk ⊢; exact g.block k hk hr⟩
theorem Gr.ext {w w' : World} (g : Gr w w' none) : Ext w w' := ⟨g.size, fun b hb => g.block b hb (by simp), g.os, g.output⟩
theorem Gr.over {v w w' : World} {row : Option Nat} (h : Ext v w) (g : Gr w w' row) (hr : ∀ b, row = some b → v.heap.size ≤ b) : Ext v w' :=
  ⟨Nat.le_trans h.size g.size, fun b hb => (g.block b (Nat.lt_of_lt_of_le hb h.size) (fun e => by have := hr b e.symm; omega)).trans (h.block b hb), g.os.trans h.os, g.output.trans h.output⟩
theorem Gr.row {w w' : World} {row : Option Nat} (g : Gr w w' row) {b : Nat} {o : Obj} (h : w.heap[b]? = some o) (hr : some b ≠ row) : w'.heap[b]? = some o := (g.block b (Array.getElem?_eq_some_iff.1 h).1 hr).trans h
theorem own_base {w : World} {base n g : Nat} {e : TypeId} {sv : Value} {xs : List Value} (h : w.ownsRow base e 1 sv n xs) (hg : sv.ownBlock = some g) : base ≤ g := (h.lt g hg).1
theorem own_lower {w : World} {base base' n : Nat} {e : TypeId} {sv : Value} {xs : List Value} (h : w.ownsRow base e 1 sv n xs) (hb : base' ≤ base) : w.ownsRow base' e 1 sv n xs :=
  ⟨h.1, h.2.imp id fun ⟨g, cap, cur, q1, q2, q3⟩ => ⟨g, cap, cur, q1, Nat.le_trans hb q2, q3⟩⟩
theorem own_gr {w w' : World} {base n : Nat} {e : TypeId} {sv : Value} {xs : List Value} {row : Option Nat} (h : w.ownsRow base e 1 sv n xs) (g : Gr w w' row) (hr : ∀ b, sv.ownBlock = some b → some b ≠ row) : w'.ownsRow base e 1 sv n xs :=
  ⟨h.1, h.2.imp id fun ⟨b, cap, cur, q1, q2, q3, q4⟩ => ⟨b, cap, cur, q1, q2, g.row q3 (hr b (by rw [q1]; rfl)), q4⟩⟩
theorem own_twin {w u : World} {base n : Nat} {e : TypeId} {sv : Value} {xs : List Value} (h : w.ownsRow base e 1 sv n xs) (t : Vw.Twin w u) : u.ownsRow base e 1 sv n xs :=
  ⟨h.1, h.2.imp id fun ⟨b, cap, cur, q1, q2, q3, q4⟩ => ⟨b, cap, cur, q1, q2, by rw [t.heap]; exact q3, q4⟩⟩
theorem own_cells {sv : Value} {w : World} {base n : Nat} {e : TypeId} {xs : List Value} (h : w.ownsRow base e 1 sv n xs) : sv.cells = #[sv] ∧ sv.oneCell' = true := by
  rcases h.2 with ⟨rfl, _⟩ | ⟨g', cap, cur, rfl, _⟩ <;> exact ⟨rfl, rfl⟩
theorem bytes_gr {w w' : World} {row : Option Nat} (g : Gr w w' row) {b off len : Nat} {x : Nat → Nat} (hb : b < w.heap.size) (hr : some b ≠ row) (h : BytesAt w b off len x) : BytesAt w' b off len x := fun j hj => by
  have := h j hj
  rw [← this]
  exact World.cell?_of_block (g.block b hb hr)

theorem bytesL_cell {w : World} {B off m : Nat} {x : Nat → Nat} (h : BytesAt w B off m x) : ∀ j y, ((List.range m).map fun j => Value.int .u8 ((x j : Nat) : Int))[j]? = some y → w.cell? ((⟨B, off, none⟩ : Addr).add j) = some y := by
  intro j y hy
  rw [List.getElem?_map, Option.map_eq_some_iff] at hy
  obtain ⟨j', hj', rfl⟩ := hy
  obtain ⟨hlt, e⟩ := List.getElem?_eq_some_iff.1 hj'
  simp only [List.length_range, List.getElem_range] at hlt e
  subst e
  rw [Addr.add_lit]
  exact h j hlt
/-- An append, whatever the tape. -/
theorem append_does {w u : World} {o : Oper} {a : Act} {s x : Operand} {t e : TypeId} {i : TypeInfo} {z : Value} {bytes : Nat} (hu : Vw.Twin w u) (base : Nat)
    (h1 : Try.prog.underlying t = some (.slice e)) (h2 : Try.prog.info? e = some i) (h3 : i.zero = some z) (h4 : i.size = 1) (h5 : i.bytes = bytes) (h6 : z.cells.size = 1)
    {sv : Value} {n : Nat} {xs : List Value} (hown : w.ownsRow base e 1 sv n xs)
    {ad : Addr} {m c : Nat} {news : List Value} (hl : news.length = m) (hnews : ∀ j y, news[j]? = some y → w.cell? (ad.add j) = some y) (h1c : ∀ y ∈ news, y.oneCell' = true)
    (b1 : n + m ≤ 100000) (b2 : bytes ≤ 24) (hb : base ≤ w.heap.size) (hop : o.op = Op.call { callee := Callee.builtin Builtin.append, args := #[s, x], argTypes := #[t, t] }) (hs : a.eval s = sv) (hx : a.eval x = .slice (some ad) m c) :
    ∃ y w', ((execOp a.eval o).run Try.prog u = .ok (.value y) w' ∨ ((execOp a.eval o).run Try.prog u = .ok .skip w' ∧ y = undef)) ∧ (w'.ownsRow base e 1 y (n + m) (xs ++ news) ∧ Gr w w' sv.ownBlock ∧ (y = .slice none 0 0 ↔ sv = .slice none 0 0 ∧ m = 0)) := by
  obtain ⟨v', w', hrun, ho, hg, hn⟩ := run_append_op (P := Try.prog) hop base h1 h2 h3 h4 h5 h6 (by omega) hs (own_twin hown hu) hx (by simpa using hl) (fun j y hy => (Ext.twin hu).cell (hnews j y hy)) h1c (by unfold maxLen; omega) (by
    have : (n + m) * bytes ≤ 100000 * 24 := Nat.mul_le_mul b1 b2
    omega) (by rw [hu.heap]; exact hb)
  exact ⟨v', w', .inl hrun, ho, .of hu hg, hn⟩

theorem own_some {w : World} {base n : Nat} {e : TypeId} {sv : Value} {xs : List Value} (h : w.ownsRow base e 1 sv n xs) (hn : 0 < n ∨ sv ≠ .slice none 0 0) : ∃ g cap cur, sv = .slice (some ⟨g, 0, none⟩) n cap ∧ base ≤ g ∧ w.heap[g]? = some (.cells cur e) ∧ n ≤ cap ∧ cur.size = cap ∧ ∀ j, j < n → cur[j]? = xs[j]? := by
  rcases h.2 with ⟨e1, e2⟩ | ⟨g, cap, cur, q1, q2, q3, q4, q5, q6, q7⟩
  · rcases hn with hn | hn
    · omega
    · exact absurd e1 hn
  · refine ⟨g, cap, cur, q1, q2, q3, q4, by simpa using q6, fun j hj => ?_⟩
    rw [← q7, List.getElem?_take, if_pos (by omega), Array.getElem?_toList]
/-- A store of one cell, whatever the tape. -/
theorem store_does {w u : World} {o : Oper} {a : Act} {t t' : TypeId} {x y : Operand} {g j : Nat} {old : Array Value} {z : Value} (hu : Vw.Twin w u) (hrow : w.heap[g]? = some (.cells old t')) (hj : j < old.size) (hz : z.cells = #[z]) (h1 : z.oneCell' = true)
    (hop : o.op = .store t x y) (hx : a.eval x = .pointer (some ⟨g, j, none⟩)) (hy : a.eval y = z) (hs : (Try.prog.info? t).map (·.size) = some 1) :
    ∃ x w', ((execOp a.eval o).run Try.prog u = .ok (.value x) w' ∨ ((execOp a.eval o).run Try.prog u = .ok .skip w' ∧ x = undef)) ∧ Wr w g (.cells (old.setIfInBounds j z) t') w' := by
  obtain ⟨hrun, _⟩ := run_storeOne (P := Try.prog) (fn := 0) (w := u) hop hx hy hz h1 ((Ext.twin hu).row hrow) hj hs
  have hW := wr_setRow (c := old.setIfInBounds j z) ((Ext.twin hu).row hrow)
  have hW' : Wr w g (.cells (old.setIfInBounds j z) t') (u.setRow g (old.setIfInBounds j z)) := ⟨hW.at_, fun b hb => (hW.other b hb).trans (by rw [hu.heap]), by rw [hW.size, hu.heap], hW.os.trans hu.os, hW.output.trans hu.output⟩
  rcases hrun with h | h
  · exact ⟨undef, _, .inr ⟨h, rfl⟩, hW'⟩
  · exact ⟨_, _, .inl h, hW'⟩
/-- Where what is appended to lies then: where it lay, or in new memory. -/
theorem append_block {u w' : World} {t ty e : TypeId} {i : TypeInfo} {z : Value} {bytes base : Nat} (h1 : Try.prog.underlying t = some (.slice e)) (h2 : Try.prog.info? e = some i) (h3 : i.zero = some z) (h4 : i.size = 1) (h5 : i.bytes = bytes)
    {sv y : Value} {n : Nat} {xs : List Value} (hown : u.ownsRow base e 1 sv n xs) {ad : Addr} {m c : Nat} {news : List Value} (hl : news.length = m) (hnews : ∀ j y, news[j]? = some y → u.cell? (ad.add j) = some y) (h1c : ∀ y ∈ news, y.oneCell' = true) (hm : 0 < m)
    (b1 : n + m ≤ maxLen) (b2 : (n + m) * bytes ≤ 140737488355328) (hrun : (Builtin.append_ #[t, t] ty #[sv, .slice (some ad) m c]).run Try.prog u = .ok y w') : ∀ g, y.ownBlock = some g → sv.ownBlock = some g ∨ g = u.heap.size := by
  subst h5
  unfold maxLen at b1
  intro g hg
  rcases hown.2 with ⟨rfl, rfl⟩ | ⟨g0, cap, cur, rfl, _, hr, hnc, _, hcs, htake⟩
  · rw [run_append_nil u t ty e i z h1 h2 h3 ad m c news (by rw [h4]; omega) hnews hm (by omega) (by rw [Nat.zero_add] at b2; omega)] at hrun
    cases hrun
    simp only [Value.ownBlock, Option.some.injEq] at hg
    exact .inr hg.symm
  · by_cases hroom : n + m ≤ cap
    · rw [run_append_room u t ty e i h1 h2 g0 n cap cur hr ad m c news (by rw [h4]; omega) hnews h1c hroom (by rw [h4]; omega)] at hrun
      cases hrun
      exact .inl hg
    · rw [run_append_grow u t ty e i z h1 h2 h3 ⟨g0, 0, none⟩ n cap xs (by rw [h4]; exact hown.1) (hown.cells (g := g0) rfl) ad m c news (by rw [h4]; omega) hnews (by omega) (by omega) (growslice_fits (by omega) b2)] at hrun
      cases hrun
      simp only [Value.ownBlock, Option.some.injEq] at hg
      exact .inr hg.symm
theorem append_does2 {w u : World} {o : Oper} {a : Act} {s x : Operand} {t e : TypeId} {i : TypeInfo} {z : Value} {bytes : Nat} (hu : Vw.Twin w u) (base : Nat)
    (h1 : Try.prog.underlying t = some (.slice e)) (h2 : Try.prog.info? e = some i) (h3 : i.zero = some z) (h4 : i.size = 1) (h5 : i.bytes = bytes) (h6 : z.cells.size = 1)
    {sv : Value} {n : Nat} {xs : List Value} (hown : w.ownsRow base e 1 sv n xs)
    {ad : Addr} {m c : Nat} {news : List Value} (hl : news.length = m) (hm : 0 < m) (hnews : ∀ j y, news[j]? = some y → w.cell? (ad.add j) = some y) (h1c : ∀ y ∈ news, y.oneCell' = true)
    (b1 : n + m ≤ maxLen) (b2 : (n + m) * bytes ≤ 140737488355328) (hb : base ≤ w.heap.size) (hop : o.op = Op.call { callee := Callee.builtin Builtin.append, args := #[s, x], argTypes := #[t, t] }) (hs : a.eval s = sv) (hx : a.eval x = .slice (some ad) m c) :
    ∃ y w', ((execOp a.eval o).run Try.prog u = .ok (.value y) w' ∨ ((execOp a.eval o).run Try.prog u = .ok .skip w' ∧ y = undef)) ∧ (w'.ownsRow base e 1 y (n + m) (xs ++ news) ∧ Gr w w' sv.ownBlock ∧ (∀ g, y.ownBlock = some g → sv.ownBlock = some g ∨ w.heap.size ≤ g)) := by
  obtain ⟨v', w', hrun, ho, hg, hn⟩ := run_append_own (P := Try.prog) u base t o.type e i z 1 bytes h1 h2 h3 h4 h5 h6 (by omega) sv n xs (own_twin hown hu) ad m c news (by simpa using hl) (fun j y hy => (Ext.twin hu).cell (hnews j y hy)) h1c b1 b2 (by rw [hu.heap]; exact hb)
  refine ⟨v', w', .inl ?_, ho, .of hu hg, fun g q => ?_⟩
  · simp [execOp, hop, resolve, invoke, builtin, hs, hx, hrun]
  · have := append_block h1 h2 h3 h4 h5 (own_twin hown hu) hl (fun j y hy => (Ext.twin hu).cell (hnews j y hy)) h1c hm b1 b2 hrun g q
    rw [hu.heap] at this
    exact this.imp id fun e => by omega
/-- What is full grows: into new memory. -/
theorem grow_does {w u : World} {o : Oper} {a : Act} {s x : Operand} {t e : TypeId} {i : TypeInfo} {z : Value} {bytes : Nat} (hu : Vw.Twin w u)
    (h1 : Try.prog.underlying t = some (.slice e)) (h2 : Try.prog.info? e = some i) (h3 : i.zero = some z) (h4 : i.size = 1) (h5 : i.bytes = bytes) (h6 : z.cells.size = 1)
    {p : Option Addr} {n cap : Nat} {olds : List Value} (hp : (p = none ∧ n = 0 ∧ cap = 0) ∨ ∃ b, p = some b) (hlo : olds.length = n) (holds : ∀ b, p = some b → ∀ j y, olds[j]? = some y → w.cell? (b.add j) = some y) 
    {ad : Addr} {m c : Nat} (hcap : cap < n + m) {news : List Value} (hl : news.length = m) (hnews : ∀ j y, news[j]? = some y → w.cell? (ad.add j) = some y) (h1c : ∀ y ∈ news, y.oneCell' = true)
    (b1 : n + m ≤ maxLen) (b2 : (n + m) * bytes ≤ 140737488355328) (hop : o.op = Op.call { callee := Callee.builtin Builtin.append, args := #[s, x], argTypes := #[t, t] }) (hs : a.eval s = .slice p n cap) (hx : a.eval x = .slice (some ad) m c) :
    ∃ y w', ((execOp a.eval o).run Try.prog u = .ok (.value y) w' ∨ ((execOp a.eval o).run Try.prog u = .ok .skip w' ∧ y = undef)) ∧ (w'.ownsRow w.heap.size e 1 y (n + m) (olds ++ news) ∧ Ext w w') := by
  have fin : ∀ (y : Value) (w' : World), (Builtin.append_ #[t, t] o.type #[.slice p n cap, .slice (some ad) m c]).run Try.prog u = .ok y w' → w'.ownsRow u.heap.size e 1 y (n + m) (olds ++ news) → u.grownBy w' none → ∃ y w', ((execOp a.eval o).run Try.prog u = .ok (.value y) w' ∨ ((execOp a.eval o).run Try.prog u = .ok .skip w' ∧ y = undef)) ∧ (w'.ownsRow w.heap.size e 1 y (n + m) (olds ++ news) ∧ Ext w w') := fun y w' hrun ho hg =>
    ⟨y, w', .inl (by simp [execOp, hop, resolve, invoke, builtin, hs, hx, hrun]), by rw [hu.heap] at ho; exact ho, (Gr.of hu hg).ext⟩
  rcases hp with ⟨rfl, rfl, rfl⟩ | ⟨b, rfl⟩
  · obtain rfl : olds = [] := List.eq_nil_of_length_eq_zero hlo
    obtain ⟨v', w', hrun, ho, hg, hn⟩ := run_append_own (P := Try.prog) u u.heap.size t o.type e i z 1 bytes h1 h2 h3 h4 h5 h6 (by omega) (.slice none 0 0) 0 [] (World.ownsRow_nil _ _ _ _) ad m c news (by simpa using hl) (fun j y hy => (Ext.twin hu).cell (hnews j y hy)) h1c b1 b2 (Nat.le_refl _)
    exact fin _ _ hrun ho hg
  · obtain ⟨v', w', hrun, ho, hg⟩ := run_append_arg_grows (P := Try.prog) u t o.type e i z 1 bytes h1 h2 h3 h4 h5 h6 (by omega) b n cap olds (by simpa using hlo) (fun j y hy => (Ext.twin hu).cell (holds b rfl j y hy)) ad m c news (by simpa using hl) (fun j y hy => (Ext.twin hu).cell (hnews j y hy)) hcap b1 b2
    exact fin _ _ hrun ho hg
end Go.Proofs.Ytpiefebngnlfoaa
