/-
  Disks of noughts, on: New.
-/
import Derived.Test.YtpiefebngnlfoaaDoorLk
set_option linter.unusedVariables false
set_option linter.unusedSimpArgs false
namespace Go.Proofs.YtpiefebngnlfoaaDoor
open Go.RowKit Go.Conc Go.Vw

/-- Disks that a store may lie on. -/
def GoodZ (n L : Nat) (ok : Bool) : Prop := 14 ≤ n ∧ n ≤ 18 ∧ ok = true ∧ L % 96 = 0 ∧ 384 ≤ L ∧ L ≤ 6144
/-- Blank disks, as they are made. -/
structure DkF (D DB : Nat) (RB : Nat → Nat) (nd nb : Nat) (r l : Value) (wr : Int) (w : World) (DA : Nat) (RA : Nat → Nat) : Prop where
  er : r = .slice (some ⟨DA, 0, none⟩) nd nd
  el : l = .int .i64 wr
  row : w.heap[D]? = some (.cells #[.slice (some ⟨DB, 0, none⟩) nd nd, r, l] 73)
  db : w.heap[DB]? = some (.cells (drowsA nd nd nb RB) 74)
  da : w.heap[DA]? = some (.cells (drowsA nd nd nb RA) 74)
  rb : ∀ d, d < nd → w.heap[RB d]? = some (.cells (zerosA (nb * 96)) 92)
  ra : ∀ d, d < nd → w.heap[RA d]? = some (.cells (zerosA (nb * 96)) 92)
  inj : ∀ d d', d < nd → d' < nd → RB d = RB d' → d = d'
  apart : ∀ d d', d < nd → d' < nd → RB d ≠ RA d'
theorem DkF.ext {D DB : Nat} {RB : Nat → Nat} {nd nb : Nat} {r l : Value} {wr : Int} {w w' : World} {DA : Nat} {RA : Nat → Nat} (h : DkF D DB RB nd nb r l wr w DA RA) (hE : Ext w w') : DkF D DB RB nd nb r l wr w' DA RA :=
  ⟨h.er, h.el, hE.row h.row, hE.row h.db, hE.row h.da, fun d hd => hE.row (h.rb d hd), fun d hd => hE.row (h.ra d hd), h.inj, h.apart⟩
set_option maxRecDepth 100000 in
set_option maxHeartbeats 2000000 in
theorem newGoodF_r {S : Nat → Prop} {v : World} (B n c L : Nat) (z : Nat → Nat) (wr : Int) (hz : ∀ j, z j ≤ 7000) (hgood : GoodZ n L true) (hT : TextsV v B n z) (h1 : CallsR Tryd.prog 31 #[.slice (some ⟨B, 0, none⟩) n c] S v fun x S' v' => x = .tuple #[.int .i64 (L : Nat), .bool true] ∧ S' = S ∧ v' = v) :
    CallsR Tryd.prog 16 #[.slice (some ⟨B, 0, none⟩) n c, .int .i64 wr] S v fun x S' v' => S' = S ∧ Ext v v' ∧ ∃ D DB RB r l, x = .tuple #[.pointer (some ⟨D, 0, none⟩), .bool true] ∧ Dk D DB RB n (L / 96) r l v' ∧ ∃ DA RA, DkF D DB RB n (L / 96) r l wr v' DA RA ∧ v.heap.size ≤ D ∧ ∀ d, d < n → v.heap.size ≤ RB d ∧ v.heap.size ≤ RA d := by
  obtain ⟨q1, q2, _, q4, q5, q6⟩ := hgood
  refine callsR_body Tryd.func16 rfl Tryd.ntmps16 (by simp) fun Stop cc cs ret => ?_
  have g0 : argF #[.slice (some ⟨B, 0, none⟩) n c, .int .i64 wr] 0 = .slice (some ⟨B, 0, none⟩) n c := rfl
  have g1 : argF #[.slice (some ⟨B, 0, none⟩) n c, .int .i64 wr] 1 = .int .i64 wr := rfl
  generalize argF #[.slice (some ⟨B, 0, none⟩) n c, .int .i64 wr] = f at g0 g1
  repeat (first|refine rA ?_|refine rB ?_|refine rC ?_|refine rD ?_|(refine rR ?_;simp only [tO, Nat.reduceAdd])|refine rE ?_|(refine rO goodFF rfl ?_;intro _ hu_ K_ hK_;go_simp;(try rw [wI _]);(try rw [wU _]);refine hK_ _ ?_;clear hK_ K_ hu_;simp only [sS, sN])|(refine rP rfl ?_;simp only [sS, sN])|(refine rP2 rfl ?_;simp only [sS, sN]))
  (refine reach_callR rfl (by first | rfl | simp [Region.wanted, yielded, TA_get, *]) rfl Tryd.func31 (by kernel_rfl) rfl (by simp [Act.eval, *]; try rfl) (h1) ?_)
  rintro _ S1 w1 _ ⟨rfl, e1, e2⟩
  subst S1 w1
  simp only [stO_some]
  obtain ⟨nb, hnb⟩ : ∃ nb, nb = L / 96 := ⟨_, rfl⟩
  have hI : ¬ (n : Int) < 14 := by omega
  have hJ : ¬ (18 : Int) < (n : Int) := by omega
  have hK : (L : Int).tmod 96 = 0 := by rw [Int.tmod_eq_emod_of_nonneg (by omega)]; omega
  have hM : ¬ (L : Int) / 96 < 4 := by omega
  have hO : ¬ (64 : Int) < (L : Int) / 96 := by omega
  repeat (first|refine rA ?_|refine rB ?_|refine rC ?_|refine rD ?_|(refine rR ?_;simp only [tO, Nat.reduceAdd])|refine rE ?_|(refine rO goodFF rfl ?_;intro _ hu_ K_ hK_;go_simp;(try rw [wI _]);(try rw [wU _]);refine hK_ _ ?_;clear hK_ K_ hu_;simp only [sS, sN])|(refine rP rfl ?_;simp only [sS, sN])|(refine rP2 rfl ?_;simp only [sS, sN]))
  (refine reach_cond (t := false) (by simp [Act.eval, hI, hJ]) ?_; simp only [if_true, if_false, reduceIte, Bool.false_eq_true])
  repeat (first|refine rA ?_|refine rB ?_|refine rC ?_|refine rD ?_|(refine rR ?_;simp only [tO, Nat.reduceAdd])|refine rE ?_|(refine rO goodFF rfl ?_;intro _ hu_ K_ hK_;go_simp;(try rw [wI _]);(try rw [wU _]);refine hK_ _ ?_;clear hK_ K_ hu_;simp only [sS, sN])|(refine rP rfl ?_;simp only [sS, sN])|(refine rP2 rfl ?_;simp only [sS, sN]))
  (refine reach_cond (t := false) (by simp [Act.eval, hK, hM, hO]) ?_; simp only [if_true, if_false, reduceIte, Bool.false_eq_true])
  have hQ : (L : Int) / 96 = ((nb : Nat) : Int) := by omega
  simp only [hQ]
  clear hI hJ hK hM hO hQ
  repeat (first|refine rA ?_|refine rB ?_|refine rC ?_|refine rD ?_|(refine rR ?_;simp only [tO, Nat.reduceAdd])|refine rE ?_|(refine rO goodFF rfl ?_;intro _ hu_ K_ hK_;go_simp;(try rw [wI _]);(try rw [wU _]);refine hK_ _ ?_;clear hK_ K_ hu_;simp only [sS, sN])|(refine rP rfl ?_;simp only [sS, sN])|(refine rP2 rfl ?_;simp only [sS, sN]))
  (refine reach_callR rfl (by first | rfl | simp [Region.wanted, yielded, TA_get, *]) rfl Tryd.func32 (by kernel_rfl) rfl (by simp [Act.eval, *]; try rfl) (allBlocks_r B n c nb z q2 (by omega) hz (by omega) (by omega) hT) ?_)
  rintro _ S1 w1 _ ⟨e1, DB, RB, rfl, hA⟩
  subst S1
  simp only [stO_some]
  repeat (first|refine rA ?_|refine rB ?_|refine rC ?_|refine rD ?_|(refine rR ?_;simp only [tO, Nat.reduceAdd])|refine rE ?_|(refine rO goodFF rfl ?_;intro _ hu_ K_ hK_;go_simp;(try rw [wI _]);(try rw [wU _]);refine hK_ _ ?_;clear hK_ K_ hu_;simp only [sS, sN])|(refine rP rfl ?_;simp only [sS, sN])|(refine rP2 rfl ?_;simp only [sS, sN]))
  (refine reach_callR rfl (by first | rfl | simp [Region.wanted, yielded, TA_get, *]) rfl Tryd.func32 (by kernel_rfl) rfl (by simp [Act.eval, *]; try rfl) (allBlocks_r B n c nb z q2 (by omega) hz (by omega) (by omega) (hT.ext hA.ext)) ?_)
  rintro _ S1 w2 _ ⟨e1, DB', RB', rfl, hA'⟩
  subst S1
  simp only [stO_some]
  repeat (first|refine rA ?_|refine rB ?_|refine rC ?_|refine rD ?_|(refine rR ?_;simp only [tO, Nat.reduceAdd])|refine rE ?_|(refine rO goodFF rfl ?_;intro _ hu_ K_ hK_;go_simp;(try rw [wI _]);(try rw [wU _]);refine hK_ _ ?_;clear hK_ K_ hu_;simp only [sS, sN])|(refine rP rfl ?_;simp only [sS, sN])|(refine rP2 rfl ?_;simp only [sS, sN]))
  refine reach_turnQ (Q := fun y w => y = .pointer (some ⟨w2.heap.size, 0, none⟩) ∧ Ext w2 w ∧ w.heap[w2.heap.size]? = some (.cells #[.slice (some ⟨DB, 0, none⟩) n n, .slice (some ⟨DB', 0, none⟩) n n, .int .i64 wr] 73)) goodFF rfl rfl (by kernel_rfl) (fun u hu => ⟨_, _, .inl (run_box (x := .tmp 48) (y := .agg #[.slice (some ⟨DB, 0, none⟩) n n, .slice (some ⟨DB', 0, none⟩) n n, .int .i64 wr]) rfl (by simp) u), by rw [hu.heap], (Ext.twin hu).trans _ _ _ (Ext.alloc _ _), by rw [← hu.heap]; exact alloc_at _ _⟩) ?_
  rintro _ w3 ⟨rfl, hE3, hb3⟩
  simp only [stO_some]
  repeat (first|refine rA ?_|refine rB ?_|refine rC ?_|refine rD ?_|(refine rR ?_;simp only [tO, Nat.reduceAdd])|refine rE ?_|(refine rO goodFF rfl ?_;intro _ hu_ K_ hK_;go_simp;(try rw [wI _]);(try rw [wU _]);refine hK_ _ ?_;clear hK_ K_ hu_;simp only [sS, sN])|(refine rP rfl ?_;simp only [sS, sN])|(refine rP2 rfl ?_;simp only [sS, sN]))
  subst hnb
  refine reach_ret fun todo => ?_
  refine ret _ _ S w3 (.tuple #[.pointer (some ⟨w2.heap.size, 0, none⟩), .bool true]) ?_ ⟨rfl, hA.ext.trans _ _ _ (hA'.ext.trans _ _ _ hE3), _, DB, RB, _, _, rfl, ⟨hb3, fun d hd => ?_, fun d hd i hi => ?_⟩, DB', RB', ⟨rfl, rfl, hb3, hE3.row (hA'.ext.row hA.row), hE3.row hA'.row, fun d hd => hE3.row (hA'.ext.row (hA.blk d hd).2), fun d hd => hE3.row (hA'.blk d hd).2, hA.inj, fun d d' hd hd' e => ?_⟩, ?_, fun d hd => ⟨?_, ?_⟩⟩
  · simp [results, Tryd.results16]
  · rw [cell_of_row _ _ _ _ _ _ (hE3.row (hA'.ext.row hA.row)), rowsA_get hd, if_pos hd]
  · rw [cell_of_row _ _ _ _ _ _ (hE3.row (hA'.ext.row (hA.blk d hd).2))]
    exact zerosA_get hi
  · have h1 := (Array.getElem?_eq_some_iff.1 (hA.blk d hd).2).1
    have h2 := hA'.new
    have h3 := (hA'.blk d' hd').1
    omega
  · have h1 := hA.ext.size
    have h2 := hA'.ext.size
    omega
  · have h1 := hA.new
    have h2 := (hA.blk d hd).1
    omega
  · have h1 := hA'.new
    have h2 := (hA'.blk d hd).1
    have h3 := hA.ext.size
    omega
end Go.Proofs.YtpiefebngnlfoaaDoor

/-
  Mount, over disks of noughts; List of a store in which nothing is.
-/
set_option linter.unusedVariables false
set_option linter.unusedSimpArgs false
namespace Go.Proofs.YtpiefebngnlfoaaDoor
open Go.RowKit Go.Conc Go.Vw

set_option maxRecDepth 100000 in
set_option maxHeartbeats 2000000 in
theorem mountGoodF_r {S : Nat → Prop} {v : World} (E : Nat → Nat → (Nat → Nat) → Value → Value → World → Prop) (hEE : ∀ D DB RB r l w w', E D DB RB r l w → Ext w w' → E D DB RB r l w') (t : TypeId) (e : Value) (hg0 : v.cell? ⟨0, 0, none⟩ = some (.iface t e)) (a b : Value) (nd nb : Nat) (hb4 : 4 ≤ nb) (hn1 : 14 ≤ nd) (hnd : nd ≤ 18) (hnb : nb ≤ 64)
    (h1 : CallsR Tryd.prog 16 #[a, b] S v fun x S' v' => S' = S ∧ Ext v v' ∧ ∃ D DB RB r l, x = .tuple #[.pointer (some ⟨D, 0, none⟩), .bool true] ∧ Dk D DB RB nd nb r l v' ∧ E D DB RB r l v') :
    CallsR Tryd.prog 6 #[a, b] S v fun x S' v' => S' = S ∧ Ext v v' ∧ ∃ X D DB M RB r l, x = .tuple #[.pointer (some ⟨X, 0, none⟩), .int .i64 0] ∧ Sto X D DB M RB nd nb r l v' ∧ E D DB RB r l v' ∧ v.heap.size ≤ X ∧ v.heap.size ≤ M := by
  refine callsR_body Tryd.func6 rfl Tryd.ntmps6 (by simp) fun Stop cc cs ret => ?_
  have g0 : argF #[a, b] 0 = a := rfl
  have g1 : argF #[a, b] 1 = b := rfl
  generalize argF #[a, b] = f at g0 g1
  repeat (first|refine rA ?_|refine rB ?_|refine rC ?_|refine rD ?_|(refine rR ?_;simp only [tO, Nat.reduceAdd])|refine rE ?_|(refine rO goodFF rfl ?_;intro _ hu_ K_ hK_;go_simp;(try rw [wI _]);(try rw [wU _]);refine hK_ _ ?_;clear hK_ K_ hu_;simp only [sS, sN])|(refine rP rfl ?_;simp only [sS, sN])|(refine rP2 rfl ?_;simp only [sS, sN]))
  (refine reach_callR rfl (by first | rfl | simp [Region.wanted, yielded, TA_get, *]) rfl Tryd.func16 (by kernel_rfl) rfl (by simp [Act.eval, *]; try rfl) (h1) ?_)
  rintro _ S1 w1 _ ⟨e1, hE1, D, DB, RB, r, l, rfl, hD, hEx⟩
  subst S1
  simp only [stO_some]
  repeat (first|refine rA ?_|refine rB ?_|refine rC ?_|refine rD ?_|(refine rR ?_;simp only [tO, Nat.reduceAdd])|refine rE ?_|(refine rO goodFF rfl ?_;intro _ hu_ K_ hK_;go_simp;(try rw [wI _]);(try rw [wU _]);refine hK_ _ ?_;clear hK_ K_ hu_;simp only [sS, sN])|(refine rP rfl ?_;simp only [sS, sN])|(refine rP2 rfl ?_;simp only [sS, sN]))
  (refine reach_cond (t := false) (by simp [Act.eval]) ?_; simp only [if_true, if_false, reduceIte, Bool.false_eq_true])
  repeat (first|refine rA ?_|refine rB ?_|refine rC ?_|refine rD ?_|(refine rR ?_;simp only [tO, Nat.reduceAdd])|refine rE ?_|(refine rO goodFF rfl ?_;intro _ hu_ K_ hK_;go_simp;(try rw [wI _]);(try rw [wU _]);refine hK_ _ ?_;clear hK_ K_ hu_;simp only [sS, sN])|(refine rP rfl ?_;simp only [sS, sN])|(refine rP2 rfl ?_;simp only [sS, sN]))
  refine reach_mkmap rfl rfl rfl fun w2 hE2 hm2 => ?_
  simp only [stO_some]
  repeat (first|refine rA ?_|refine rB ?_|refine rC ?_|refine rD ?_|(refine rR ?_;simp only [tO, Nat.reduceAdd])|refine rE ?_|(refine rO goodFF rfl ?_;intro _ hu_ K_ hK_;go_simp;(try rw [wI _]);(try rw [wU _]);refine hK_ _ ?_;clear hK_ K_ hu_;simp only [sS, sN])|(refine rP rfl ?_;simp only [sS, sN])|(refine rP2 rfl ?_;simp only [sS, sN]))
  refine reach_turnQ (Q := fun y w => y = .pointer (some ⟨w2.heap.size, 0, none⟩) ∧ Ext w2 w ∧ w.heap[w2.heap.size]? = some (.cells #[.pointer (some ⟨D, 0, none⟩), .map (some w1.heap.size), .int .u64 0] 49)) goodFF rfl rfl (by kernel_rfl) (fun u hu => ⟨_, _, .inl (run_box (x := .tmp 20) (y := .agg #[.pointer (some ⟨D, 0, none⟩), .map (some w1.heap.size), .int .u64 0]) rfl (by simp) u), by rw [hu.heap], (Ext.twin hu).trans _ _ _ (Ext.alloc _ _), by rw [← hu.heap]; exact alloc_at _ _⟩) ?_
  rintro _ w3 ⟨rfl, hE3, hb3⟩
  simp only [stO_some]
  have hX : Sto w2.heap.size D DB w1.heap.size RB nd nb r l w3 := ⟨hb3, hE3.row hm2, hD.ext (hE2.trans _ _ _ hE3)⟩
  have hE13 := hE1.trans _ _ _ (hE2.trans _ _ _ hE3)
  have hXn : v.heap.size ≤ w2.heap.size := Nat.le_trans hE1.size hE2.size
  have hMn : v.heap.size ≤ w1.heap.size := hE1.size
  generalize w2.heap.size = X at hX hXn
  generalize w1.heap.size = M at hX hMn
  clear hb3 hm2
  repeat (first|refine rA ?_|refine rB ?_|refine rC ?_|refine rD ?_|(refine rR ?_;simp only [tO, Nat.reduceAdd])|refine rE ?_|(refine rO goodFF rfl ?_;intro _ hu_ K_ hK_;go_simp;(try rw [wI _]);(try rw [wU _]);refine hK_ _ ?_;clear hK_ K_ hu_;simp only [sS, sN])|(refine rP rfl ?_;simp only [sS, sN])|(refine rP2 rfl ?_;simp only [sS, sN]))
  (refine reach_callR rfl (by first | rfl | simp [Region.wanted, yielded, TA_get, *]) rfl Tryd.func17 (by kernel_rfl) rfl (by simp [Act.eval, *]; try rfl) (blocks_r D DB RB nd nb r l (by omega) hX.dk) ?_)
  rintro _ S1 w4 _ ⟨rfl, e1, e2⟩
  subst S1 w4
  simp only [stO_some]
  repeat (first|refine rA ?_|refine rB ?_|refine rC ?_|refine rD ?_|(refine rR ?_;simp only [tO, Nat.reduceAdd])|refine rE ?_|(refine rO goodFF rfl ?_;intro _ hu_ K_ hK_;go_simp;(try rw [wI _]);(try rw [wU _]);refine hK_ _ ?_;clear hK_ K_ hu_;simp only [sS, sN])|(refine rP rfl ?_;simp only [sS, sN])|(refine rP2 rfl ?_;simp only [sS, sN]))
  refine reach_rounds (fun d f' S' w => ∃ j, d = nb - j ∧ j ≤ nb ∧ S' = S ∧ Ext w3 w ∧ f' 8 = .pointer (some ⟨X, 0, none⟩) ∧ f' 23 = .int .i64 (nb : Nat) ∧ f' 24 = .int .i64 (j : Nat)) nb ⟨0, by omega, by omega, rfl, .refl _, by simp, by simp, by simp⟩ ?_
  clear g0 g1 f
  rintro d f S' w ⟨j, rfl, hj, eS, hEw, g8, g23, g24⟩ nxt
  subst S'
  repeat (first|refine rA ?_|refine rB ?_|refine rC ?_|refine rD ?_|(refine rR ?_;simp only [tO, Nat.reduceAdd])|refine rE ?_|(refine rO goodFF rfl ?_;intro _ hu_ K_ hK_;go_simp;(try rw [wI _]);(try rw [wU _]);refine hK_ _ ?_;clear hK_ K_ hu_;simp only [sS, sN])|(refine rP rfl ?_;simp only [sS, sN])|(refine rP2 rfl ?_;simp only [sS, sN]))
  by_cases hlt : j < nb
  · have hjI : (j : Int) < (nb : Int) := by omega
    (refine reach_cond (t := true) (by simp [Act.eval, g24, g23, hjI, hlt]) ?_; simp only [if_true, if_false, reduceIte, Bool.false_eq_true])
    repeat (first|refine rA ?_|refine rB ?_|refine rC ?_|refine rD ?_|(refine rR ?_;simp only [tO, Nat.reduceAdd])|refine rE ?_|(refine rO goodFF rfl ?_;intro _ hu_ K_ hK_;go_simp;(try rw [wI _]);(try rw [wU _]);refine hK_ _ ?_;clear hK_ K_ hu_;simp only [sS, sN])|(refine rP rfl ?_;simp only [sS, sN])|(refine rP2 rfl ?_;simp only [sS, sN]))
    (refine reach_callR rfl (by first | rfl | simp [Region.wanted, yielded, TA_get, *]) rfl Tryd.func18 (by kernel_rfl) rfl (by simp [Act.eval, *]; try rfl) (survey_r t e j (hEw.cell (hE13.cell hg0)) hlt hn1 hnd hnb (hX.ext hEw)) ?_)
    rintro _ S1 w5 _ ⟨rfl, e1, hE5⟩
    subst S1
    simp only [stO_some]
    repeat (first|refine rA ?_|refine rB ?_|refine rC ?_|refine rD ?_|(refine rR ?_;simp only [tO, Nat.reduceAdd])|refine rE ?_|(refine rO goodFF rfl ?_;intro _ hu_ K_ hK_;go_simp;(try rw [wI _]);(try rw [wU _]);refine hK_ _ ?_;clear hK_ K_ hu_;simp only [sS, sN])|(refine rP rfl ?_;simp only [sS, sN])|(refine rP2 rfl ?_;simp only [sS, sN]))
    refine nxt _ _ _ (nb - (j + 1)) (by omega) ⟨j + 1, rfl, by omega, rfl, hEw.trans _ _ _ hE5, by simp [g8], by simp [g23], by simp⟩
  · obtain rfl : j = nb := by omega
    (refine reach_cond (t := false) (by simp [Act.eval, g24, g23]) ?_; simp only [if_true, if_false, reduceIte, Bool.false_eq_true])
    refine reach_exit rfl ?_
    repeat (first|refine rA ?_|refine rB ?_|refine rC ?_|refine rD ?_|(refine rR ?_;simp only [tO, Nat.reduceAdd])|refine rE ?_|(refine rO goodFF rfl ?_;intro _ hu_ K_ hK_;go_simp;(try rw [wI _]);(try rw [wU _]);refine hK_ _ ?_;clear hK_ K_ hu_;simp only [sS, sN])|(refine rP rfl ?_;simp only [sS, sN])|(refine rP2 rfl ?_;simp only [sS, sN]))
    (refine reach_callR rfl (by first | rfl | simp [Region.wanted, yielded, TA_get, *]) rfl Tryd.func19 (by kernel_rfl) rfl (by simp [Act.eval, *]; try rfl) (sweep_r hb4 hn1 hnd hnb (hX.ext hEw)) ?_)
    rintro _ S1 w5 _ ⟨rfl, e1, hE5⟩
    subst S1
    simp only [stO_some]
    repeat (first|refine rA ?_|refine rB ?_|refine rC ?_|refine rD ?_|(refine rR ?_;simp only [tO, Nat.reduceAdd])|refine rE ?_|(refine rO goodFF rfl ?_;intro _ hu_ K_ hK_;go_simp;(try rw [wI _]);(try rw [wU _]);refine hK_ _ ?_;clear hK_ K_ hu_;simp only [sS, sN])|(refine rP rfl ?_;simp only [sS, sN])|(refine rP2 rfl ?_;simp only [sS, sN]))
    refine reach_ret fun todo => ?_
    refine ret _ _ S w5 (.tuple #[.pointer (some ⟨X, 0, none⟩), .int .i64 0]) ?_ ⟨rfl, hE13.trans _ _ _ (hEw.trans _ _ _ hE5), X, D, DB, M, RB, r, l, rfl, hX.ext (hEw.trans _ _ _ hE5), hEE _ _ _ _ _ _ _ hEx (hE2.trans _ _ _ (hE3.trans _ _ _ (hEw.trans _ _ _ hE5))), hXn, hMn⟩
    simp [results, Tryd.results6]
end Go.Proofs.YtpiefebngnlfoaaDoor

/-
  List of a store in which nothing is: the sort of nothing.
-/
set_option linter.unusedVariables false
set_option linter.unusedSimpArgs false
namespace Go.Proofs.YtpiefebngnlfoaaDoor
open Go.RowKit Go.Conc Go.Vw

set_option maxRecDepth 100000 in
theorem infoH : ∃ i, Tryd.prog.info? 41 = some i ∧ i.size = 3 ∧ i.bytes = 24 := ⟨_, rfl, rfl, rfl⟩
theorem run_make0 {o : Oper} {a : Act} {l c : Operand} (hop : o.op = .makeSlice 31 l c) (hl : a.eval l = .int .i64 0) (hc : a.eval c = .int .i64 0) (u : World) : (execOp a.eval o).run Tryd.prog u = .ok (.value (.slice (some ⟨u.heap.size, 0, none⟩) 0 0)) (u.alloc (.cells #[] 41)) := by
  obtain ⟨inf, hq, h1, h2⟩ := infoH
  have wl : IntKind.i64.wrap 0 = 0 := rfl
  unfold execOp
  simp [hop, hl, hc, Instr.makeSlice, run_underlying Tryd.underlying31, asInt, asIntOf, typeInfo, hq, h1, h2, sizeOf, askRoom, newRow, wl]
  have e : Array.map (fun _ : Nat => (default : Value)) (Array.range 0) = #[] := by
    apply Array.ext'
    simp
  rw [e]
section
variable {X D DB M : Nat} {RB : Nat → Nat} {nd nb : Nat} {r l : Value} {v : World} {S : Nat → Prop}
end
end Go.Proofs.YtpiefebngnlfoaaDoor

/-
  mosaiclaw: pick, blank.
-/
set_option linter.unusedVariables false
set_option linter.unusedSimpArgs false
namespace Go.Proofs.YtpiefebngnlfoaaDoor
open Go.RowKit Go.Conc Go.Vw

/-- So many noughts. -/
def zs (n : Nat) : ByteArray := strOfNums (List.replicate n 0)
theorem zs_all (n : Nat) : AllZ (zs n) n := by
  unfold AllZ zs
  rw [strOfNums_data, List.map_replicate]
  rfl
set_option maxRecDepth 100000 in
theorem infoStr : ∃ i z, Tryd.prog.info? 9 = some i ∧ i.zero = some z ∧ i.size = 1 ∧ i.bytes = 16 ∧ z.cells = #[z] := ⟨_, _, rfl, rfl, rfl, rfl, rfl⟩
/-- Bytes that are noughts, as a text. -/
theorem run_text {B n c : Nat} {u : World} (hz : ∀ i, i < n → u.cell? ⟨B, i, none⟩ = some (.int .u8 0)) : (convert 25 9 (.slice (some ⟨B, 0, none⟩) n c)).run Tryd.prog u = .ok (.string (zs n)) u :=
  run_convert_bytes_arg (P := Tryd.prog) u 25 5 Tryd.underlying25 Tryd.underlying5 B 0 n c (List.replicate n 0) (by simp) (fun i hi => by rw [Nat.zero_add, hz i hi]; simp [List.getD, List.getElem?_replicate, hi]) 9 Tryd.underlying9
theorem one_cellS {w : World} {b : Nat} {e : Value} {t : TypeId} (h : w.heap[b]? = some (.cells #[e] t)) : ∀ j y, [e][j]? = some y → w.cell? ((⟨b, 0, none⟩ : Addr).add j) = some y := by
  intro j y hy
  cases j with
  | zero =>
    simp only [List.getElem?_cons_zero, Option.some.injEq] at hy
    subst hy
    rw [Addr.add_lit]
    exact (cell_of_row _ b 0 _ _ _ h).trans rfl
  | succ j => simp at hy
/-- Texts so far. -/
def txts (z : Nat → Nat) (k : Nat) : List Value := (List.range k).map fun i => .string (zs (z i))
theorem txts_succ (z : Nat → Nat) (k : Nat) : txts z k ++ [.string (zs (z k))] = txts z (k + 1) := by
  simp [txts, List.range_succ]
theorem texts_of {w : World} {base n : Nat} {z : Nat → Nat} {g c : Nat} (h : w.ownsRow base 9 1 (.slice (some ⟨g, 0, none⟩) n c) n (txts z n)) : TextsV w g n z := by
  intro j hj
  obtain ⟨g', cap, cur, q1, q2, q3, q4, q5, q6⟩ := own_some h (.inr (by simp))
  cases q1
  refine ⟨zs (z j), ?_, zs_all _⟩
  rw [cell_of_row _ _ _ _ _ _ q3, q6 j hj]
  simp [txts, hj]
end Go.Proofs.YtpiefebngnlfoaaDoor
