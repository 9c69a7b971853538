/-
  A store that holds something: goodPieces, Get, Delete.
-/
import Derived.Test.YtpiefebngnlfoaaDoorMf
set_option linter.unusedVariables false
set_option linter.unusedSimpArgs false
namespace Go.Proofs.YtpiefebngnlfoaaDoor
open Go.RowKit Go.Conc Go.Vw

theorem ftC_all {q : Nat → Option Addr} (h : ∀ k, k < 14 → (q k).isSome = true) : ∀ i, i ≤ 14 → (ftC q i).1 = min i 10 ∧ ∀ j, j < min i 10 → (ftC q i).2 j = j
  | 0, _ => ⟨rfl, fun j hj => by omega⟩
  | i + 1, hi => by
    obtain ⟨h1, h2⟩ := ftC_all h i (by omega)
    unfold ftC
    by_cases hlt : i < 10
    · have h3 : (ftC q i).1 = i := by omega
      rw [if_pos ⟨h i (by omega), by omega⟩]
      refine ⟨by simp only; omega, fun j hj => ?_⟩
      simp only [h3]
      by_cases e : j = i
      · rw [if_pos e, e]
      · rw [if_neg e]
        exact h2 j (by omega)
    · rw [if_neg fun hh => by omega]
      exact ⟨by omega, fun j hj => h2 j (by omega)⟩
theorem mend_all {q : Nat → Option Addr} (h : ∀ k, k < 14 → (q k).isSome = true) (y : Nat → Nat → Nat) {k : Nat} (hk : k < 10) (i : Nat) : mendOf (ftC q 14).2 y k i = y k i := by
  have h2 := (ftC_all h 14 (Nat.le_refl _)).2
  unfold mendOf
  rw [if_neg]
  intro hl
  exact lackB_iff.1 hl k hk (h2 k (by omega))
theorem cut_rows (x : Nat → Nat) (L i : Nat) (h : i < L) : cutOf x L (i / ((L + 9) / 10)) (i % ((L + 9) / 10)) = x i := by
  have hm : 0 < (L + 9) / 10 := by omega
  have h1 : i / ((L + 9) / 10) < 10 := by
    rw [Nat.div_lt_iff_lt_mul hm]
    omega
  have h2 : i / ((L + 9) / 10) * ((L + 9) / 10) + i % ((L + 9) / 10) = i := Nat.div_add_mod' _ _
  unfold cutOf
  rw [if_pos h1]
  unfold rowOf
  rw [h2, if_pos h]
/-- Bytes in a row of their own. -/
def RowB (w : World) (B m : Nat) (y : Nat → Nat) : Prop := ∃ C : Array Value, w.heap[B]? = some (.cells C 5) ∧ ∀ j, j < m → C[j]? = some (.int .u8 (y j : Nat))
theorem RowB.ext {w w' : World} {B m : Nat} {y : Nat → Nat} (h : RowB w B m y) (hE : Ext w w') : RowB w' B m y := let ⟨C, h1, h2⟩ := h; ⟨C, hE.row h1, h2⟩
theorem RowB.wr {w w' : World} {B m g : Nat} {y : Nat → Nat} {o : Array Value} {c : Array Value} {t : TypeId} (h : RowB w B m y) (hg : w.heap[g]? = some (.cells c t)) (ht : t ≠ 5) (hW : Wr w g (.cells o t) w') : RowB w' B m y := by
  obtain ⟨C, h1, h2⟩ := h
  exact ⟨C, wr_row hW h1 (ne_of_type h1 hg (fun e => ht e.symm)), h2⟩
theorem RowB.of {w : World} {B m : Nat} {y : Nat → Nat} (h : BytesAt w B 0 m y) (hC : ∃ C, w.heap[B]? = some (.cells C 5)) : RowB w B m y := by
  obtain ⟨C, hC⟩ := hC
  refine ⟨C, hC, fun j hj => ?_⟩
  have := h j hj
  rw [Nat.zero_add, cell_of_row _ _ _ _ _ _ hC] at this
  exact this
theorem RowB.bytes {w : World} {B m : Nat} {y : Nat → Nat} (h : RowB w B m y) : BytesAt w B 0 m y := by
  obtain ⟨C, h1, h2⟩ := h
  intro j hj
  rw [Nat.zero_add, cell_of_row _ _ _ _ _ _ h1]
  exact h2 j hj
def specG (V X D bx k slot id size turn m : Nat) (y : Nat → Nat) (j : Nat) (x : Value) (w : World) : Prop :=
  match j with
  | 0 => x = .pointer (some ⟨X, 0, none⟩)
  | 1 => x = .pointer (some ⟨X, 0, none⟩)
  | 2 => x = .pointer (some ⟨X, 0, none⟩)
  | 3 => x = .pointer (some ⟨D, 0, none⟩)
  | 4 => x = .int .i64 (k : Nat)
  | 5 => x = .pointer (some ⟨bx, 3, none⟩)
  | 6 => x = .int .i64 (slot : Nat)
  | 7 => ∃ B c, x = .tuple #[.agg (pieceA id size turn k (some ⟨B, 0, none⟩) m c), .bool true] ∧ m ≤ c ∧ RowB w B m y
  | 8 => ∃ B c, x = .tuple #[.agg (pieceA id size turn k (some ⟨B, 0, none⟩) m c), .bool true] ∧ m ≤ c ∧ RowB w B m y
  | 9 => ∃ B c, x = .agg (pieceA id size turn k (some ⟨B, 0, none⟩) m c) ∧ m ≤ c ∧ RowB w B m y
  | 10 => x = .bool true
  | 11 => ∃ g, x = .pointer (some ⟨g, 0, none⟩) ∧ V ≤ g ∧ ∃ c : Array Value, c.size = 5 ∧ w.heap[g]? = some (.cells c 96)
  | _ => True
theorem specG_ext (V X D bx k slot id size turn m : Nat) (y : Nat → Nat) : ∀ j x w w', specG V X D bx k slot id size turn m y j x w → Ext w w' → specG V X D bx k slot id size turn m y j x w' := by
  intro j x w w' h hE
  unfold specG at h ⊢
  split at h <;> first | exact h | skip
  · obtain ⟨B, c, e, h1, h2⟩ := h
    exact ⟨B, c, e, h1, h2.ext hE⟩
  · obtain ⟨B, c, e, h1, h2⟩ := h
    exact ⟨B, c, e, h1, h2.ext hE⟩
  · obtain ⟨B, c, e, h1, h2⟩ := h
    exact ⟨B, c, e, h1, h2.ext hE⟩
  · obtain ⟨g, e, h1, c, h2, hg⟩ := h
    exact ⟨g, e, h1, c, h2, hE.row hg⟩
/-- The list of pieces, k of them being laid. -/
def GL (PB CP : Nat → Nat) (m k i : Nat) : Value := if i < k then .slice (some ⟨PB i, 0, none⟩) m (CP i) else .slice none 0 0
theorem GL_set (PB CP : Nat → Nat) (m k B c : Nat) : (allA (GL PB CP m k)).setIfInBounds k (.slice (some ⟨B, 0, none⟩) m c) = allA (GL (fun i => if i = k then B else PB i) (fun i => if i = k then c else CP i) m (k + 1)) := by
  rw [allA_set]
  refine allA_congr fun i _ => ?_
  unfold GL
  by_cases e : i = k
  · subst e
    simp
  · by_cases h : i < k
    · have : i < k + 1 := by omega
      simp [e, h, this]
    · have : ¬ i < k + 1 := by omega
      simp [e, h, this]
section
variable {X D DB DA M : Nat} {RB RA : Nat → Nat} {nd nb turn : Nat} {c : Nat → Nat → Nat → Nat} {L : List Ent} {w w' v : World} {S : Nat → Prop}
set_option maxRecDepth 100000 in
theorem run_indexY {o : Oper} {a : Act} {k : Nat} {u : World} {x y : Operand} (hk : k < 14) (hop : o.op = .index 54 x y) (hx : a.eval x = .agg yes14) (hy : a.eval y = .int .i64 (k : Nat)) : (execOp a.eval o).run Tryd.prog u = .ok (.value (.bool true)) u := by
  unfold execOp
  simp only [hop, hx, hy]
  rcases (by omega : k = 0 ∨ k = 1 ∨ k = 2 ∨ k = 3 ∨ k = 4 ∨ k = 5 ∨ k = 6 ∨ k = 7 ∨ k = 8 ∨ k = 9 ∨ k = 10 ∨ k = 11 ∨ k = 12 ∨ k = 13) with rfl | rfl | rfl | rfl | rfl | rfl | rfl | rfl | rfl | rfl | rfl | rfl | rfl | rfl <;> rfl
set_option maxRecDepth 100000 in
set_option maxHeartbeats 8000000 in
theorem goodPieces_r (e : Ent) (he : e ∈ L) (ht : turn < 1000000) (hn1 : 14 ≤ nd) (hnd : nd ≤ 18) (hnb : nb ≤ 64) (hX : StE X D DB DA M RB RA nd nb turn c L v) :
    CallsR Tryd.prog 30 #[.pointer (some ⟨X, 0, none⟩), .agg (keptA e)] S v fun x S' v' => S' = S ∧ Ext v v' ∧ ∃ BL PB CP, x = .slice (some ⟨BL, 0, none⟩) 14 14 ∧ v'.heap[BL]? = some (.cells (allA (GL PB CP ((e.size + 9) / 10) 14)) 25) ∧ ∀ k, k < 14 → (e.size + 9) / 10 ≤ CP k ∧ RowB v' (PB k) ((e.size + 9) / 10) (cutOf e.val e.size k) := by
  refine callsR_body Tryd.func30 rfl Tryd.ntmps30 (by simp) fun Stop cc cs ret => ?_
  have g0 : argF #[.pointer (some ⟨X, 0, none⟩), .agg (keptA e)] 0 = .pointer (some ⟨X, 0, none⟩) := rfl
  have g1 : argF #[.pointer (some ⟨X, 0, none⟩), .agg (keptA e)] 1 = .agg (keptA e) := rfl
  generalize argF #[.pointer (some ⟨X, 0, none⟩), .agg (keptA e)] = f at g0 g1
  have hok := hX.ent e he
  repeat (first|refine rA ?_|refine rB ?_|refine rC ?_|refine rD ?_|(refine rR ?_;simp only [tO, Nat.reduceAdd])|refine rE ?_|(refine rO goodFG rfl ?_;intro _ hu_ K_ hK_;go_simp;(try rw [wI _]);(try rw [wU _]);refine hK_ _ ?_;clear hK_ K_ hu_;simp only [sS, sN])|(refine rP rfl ?_;simp only [sS, sN])|(refine rP2 rfl ?_;simp only [sS, sN]))
  refine reach_turnQ (Q := fun y w => y = .pointer (some ⟨v.heap.size, 0, none⟩) ∧ Ext v w ∧ w.heap[v.heap.size]? = some (.cells (keptA e) 56)) goodFG rfl rfl (by kernel_rfl) (fun u hu => ⟨_, _, .inl (run_box (x := .tmp 1) (y := .agg (keptA e)) rfl (by simp [g1]) u), by rw [hu.heap], (Ext.twin hu).trans _ _ _ (Ext.alloc _ _), by rw [← hu.heap]; exact alloc_at _ _⟩) ?_
  rintro _ w1 ⟨rfl, hE1, hb1⟩
  simp only [stO_some]
  repeat (first|refine rA ?_|refine rB ?_|refine rC ?_|refine rD ?_|(refine rR ?_;simp only [tO, Nat.reduceAdd])|refine rE ?_|(refine rO goodFG rfl ?_;intro _ hu_ K_ hK_;go_simp;(try rw [wI _]);(try rw [wU _]);refine hK_ _ ?_;clear hK_ K_ hu_;simp only [sS, sN])|(refine rP rfl ?_;simp only [sS, sN])|(refine rP2 rfl ?_;simp only [sS, sN]))
  refine reach_makeV goodFG rfl rfl (by kernel_rfl) rfl (m := 14) (wd := 24) (z := .slice none 0 0) (by simp) (by simp) (by omega) (by omega) (by omega) Tryd.underlying59 (by kernel_rfl) rfl fun w2 hE2 hr2 hs2 => ?_
  simp only [stO_some]
  have hr2' : w2.heap[w1.heap.size]? = some (.cells (allA (GL (fun _ => 0) (fun _ => 0) ((e.size + 9) / 10) 0)) 25) := hr2
  have hvw : v.heap.size < w1.heap.size := (Array.getElem?_eq_some_iff.1 hb1).1
  generalize hBLd : w1.heap.size = BL at *
  have hb2 := hE2.row hb1
  generalize hbx : v.heap.size = bx at *
  repeat (first|refine rA ?_|refine rB ?_|refine rC ?_|refine rD ?_|(refine rR ?_;simp only [tO, Nat.reduceAdd])|refine rE ?_|(refine rO goodFG rfl ?_;intro _ hu_ K_ hK_;go_simp;(try rw [wI _]);(try rw [wU _]);refine hK_ _ ?_;clear hK_ K_ hu_;simp only [sS, sN])|(refine rP rfl ?_;simp only [sS, sN])|(refine rP2 rfl ?_;simp only [sS, sN]))
  refine reach_still goodFG rfl rfl (by kernel_rfl) (fun u hu => keptV_good (b := bx) ((Ext.twin hu).row hb2) (x := .tmp 11) rfl (by simp)) ?_
  simp only [stO_some]
  repeat (first|refine rA ?_|refine rB ?_|refine rC ?_|refine rD ?_|(refine rR ?_;simp only [tO, Nat.reduceAdd])|refine rE ?_|(refine rO goodFG rfl ?_;intro _ hu_ K_ hK_;go_simp;(try rw [wI _]);(try rw [wU _]);refine hK_ _ ?_;clear hK_ K_ hu_;simp only [sS, sN])|(refine rP rfl ?_;simp only [sS, sN])|(refine rP2 rfl ?_;simp only [sS, sN]))
  generalize hmm : (e.size + 9) / 10 = m at *
  have HM := hide hmm
  clear hmm
  refine reach_rounds (fun d f' S' w => ∃ k PB CP, d = 14 - k ∧ k ≤ 14 ∧ S' = S ∧ Ext v w ∧ Ext w1 w ∧ w.heap[BL]? = some (.cells (allA (GL PB CP m k)) 25) ∧ (∀ i, i < k → m ≤ CP i ∧ RowB w (PB i) m (cutOf e.val e.size i)) ∧ f' 0 = .pointer (some ⟨X, 0, none⟩) ∧ f' 3 = .pointer (some ⟨bx, 0, none⟩) ∧ f' 5 = .slice (some ⟨BL, 0, none⟩) 14 14 ∧ f' 12 = .agg yes14 ∧ f' 13 = .int .i64 (k : Nat)) 14 ⟨0, fun _ => 0, fun _ => 0, by omega, by omega, rfl, hE1.trans _ _ _ hE2, hE2, hr2', fun i hi => by omega, by simp [g0], by simp, by simp, by simp, by simp⟩ ?_
  clear g0 g1 f
  rintro d f S' w ⟨k, PB, CP, rfl, hk, eS, hEw, hE1w, hrow, hrb, g0, g3, g5, g12, g13⟩ nxt
  subst S'
  have hXw := hX.ext hEw
  have hbw := hE1w.row hb1
  repeat (first|refine rA ?_|refine rB ?_|refine rC ?_|refine rD ?_|(refine rR ?_;simp only [tO, Nat.reduceAdd])|refine rE ?_|(refine rO goodFG rfl ?_;intro _ hu_ K_ hK_;go_simp;(try rw [wI _]);(try rw [wU _]);refine hK_ _ ?_;clear hK_ K_ hu_;simp only [sS, sN])|(refine rP rfl ?_;simp only [sS, sN])|(refine rP2 rfl ?_;simp only [sS, sN]))
  by_cases hlt : k < 14
  · have hkI : (k : Int) < 14 := by omega
    (refine reach_cond (t := true) (by simp [Act.eval, g13, hkI]) ?_; simp only [if_true, if_false, reduceIte, Bool.false_eq_true])
    repeat (first|refine rA ?_|refine rB ?_|refine rC ?_|refine rD ?_|(refine rR ?_;simp only [tO, Nat.reduceAdd])|refine rE ?_|(refine rO goodFG rfl ?_;intro _ hu_ K_ hK_;go_simp;(try rw [wI _]);(try rw [wU _]);refine hK_ _ ?_;clear hK_ K_ hu_;simp only [sS, sN])|(refine rP rfl ?_;simp only [sS, sN])|(refine rP2 rfl ?_;simp only [sS, sN]))
    refine reach_still goodFG rfl rfl (by kernel_rfl) (fun u hu => run_indexY hlt (x := .tmp 12) (y := .tmp 13) rfl (by simp [g12]) (by simp [g13])) ?_
    simp only [stO_some]
    repeat (first|refine rA ?_|refine rB ?_|refine rC ?_|refine rD ?_|(refine rR ?_;simp only [tO, Nat.reduceAdd])|refine rE ?_|(refine rO goodFG rfl ?_;intro _ hu_ K_ hK_;go_simp;(try rw [wI _]);(try rw [wU _]);refine hK_ _ ?_;clear hK_ K_ hu_;simp only [sS, sN])|(refine rP rfl ?_;simp only [sS, sN])|(refine rP2 rfl ?_;simp only [sS, sN]))
    (refine reach_cond (t := false) (by simp [Act.eval]) ?_; simp only [if_true, if_false, reduceIte, Bool.false_eq_true])
    repeat (first|refine rA ?_|refine rB ?_|refine rC ?_|refine rD ?_|(refine rR ?_;simp only [tO, Nat.reduceAdd])|refine rE ?_|(refine rO goodFG rfl ?_;intro _ hu_ K_ hK_;go_simp;(try rw [wI _]);(try rw [wU _]);refine hK_ _ ?_;clear hK_ K_ hu_;simp only [sS, sN])|(refine rP rfl ?_;simp only [sS, sN])|(refine rP2 rfl ?_;simp only [sS, sN]))
    refine reach_pivot (by kernel_rfl) (by kernel_rfl) (by kernel_rfl) 12 [0, 1, 2, 3, 4, 5, 6, 7, 8, 9, 11] (by kernel_rfl) (specG w.heap.size X D bx k e.slot e.id e.size e.turn m (cutOf e.val e.size k)) (fun S' w' => S' = S ∧ Ext w w') (fun S' f w' => S' = S ∧ Ext w w' ∧ ∃ g B c, f 8 = .pointer (some ⟨g, 0, none⟩) ∧ w.heap.size ≤ g ∧ m ≤ c ∧ w'.heap[g]? = some (.cells (pieceA e.id e.size e.turn k (some ⟨B, 0, none⟩) m c) 96) ∧ RowB w' B m (cutOf e.val e.size k)) (fun S' w w' h hE => ⟨h.1, h.2.trans _ _ _ hE⟩) (fun S' i f x w3 w4 hi hA hm' h hE => ?_) (specG_ext _ _ _ _ _ _ _ _ _ _ _) ?_ ⟨rfl, .refl _⟩ ?_ ?_ ?_
    · obtain ⟨h1, h2, g, B, c, q1, q2, q3, q4, q5⟩ := h
      refine ⟨h1, h2.trans _ _ _ hE, g, B, c, ?_, q2, q3, hE.row q4, q5.ext hE⟩
      have hi' : i < 14 := hi
      simp at hA
      rcases (by omega : i = 10 ∨ i = 13) with rfl | rfl
      · exact q1
      · exact q1
    · intro j hj he x w h
      have hj' : j < 14 := hj
      rcases (by omega : j = 0 ∨ j = 1 ∨ j = 2 ∨ j = 3 ∨ j = 4 ∨ j = 5 ∨ j = 6 ∨ j = 7 ∨ j = 8 ∨ j = 9 ∨ j = 10 ∨ j = 11 ∨ j = 12 ∨ j = 13) with rfl | rfl | rfl | rfl | rfl | rfl | rfl | rfl | rfl | rfl | rfl | rfl | rfl | rfl <;> first | exact trivial | cases he
    · intro i f' S1 w3 rest hi hne hB hf hd nxt2
      have g0' : f' 0 = .pointer (some ⟨X, 0, none⟩) := (hf 0 (free_of (by kernel_rfl))).trans (by simp [g0])
      have g3' : f' 3 = .pointer (some ⟨bx, 0, none⟩) := (hf 3 (free_of (by kernel_rfl))).trans (by simp [g3])
      have g6' : f' 6 = .int .i64 (k : Nat) := (hf 6 (free_of (by kernel_rfl))).trans (by simp)
      have hi' : i < 14 := hi
      clear hf
      rcases (by omega : i = 0 ∨ i = 1 ∨ i = 2 ∨ i = 3 ∨ i = 4 ∨ i = 5 ∨ i = 6 ∨ i = 7 ∨ i = 8 ∨ i = 9 ∨ i = 10 ∨ i = 11 ∨ i = 12 ∨ i = 13) with rfl | rfl | rfl | rfl | rfl | rfl | rfl | rfl | rfl | rfl | rfl | rfl | rfl | rfl
      · clear hd
        (refine rO goodFG rfl ?_;intro _ hu_ K_ hK_;go_simp;(try rw [wI _]);(try rw [wU _]);refine hK_ _ ?_;clear hK_ K_ hu_;simp only [sS, sN])
        exact nxt2 _ w3 (.refl w3) rfl
      · have d0 : f' 20 = .pointer (some ⟨X, 0, none⟩) := hd 0 (mem_of_b (by kernel_rfl))
        clear hd
        (refine rO goodFG rfl ?_;intro _ hu_ K_ hK_;go_simp;(try rw [wI _]);(try rw [wU _]);refine hK_ _ ?_;clear hK_ K_ hu_;simp only [sS, sN])
        exact nxt2 _ w3 (.refl w3) rfl
      · have d0 : f' 21 = .pointer (some ⟨X, 0, none⟩) := hd 1 (mem_of_b (by kernel_rfl))
        clear hd
        (refine rO goodFG rfl ?_;intro _ hu_ K_ hK_;go_simp;(try rw [wI _]);(try rw [wU _]);refine hK_ _ ?_;clear hK_ K_ hu_;simp only [sS, sN])
        exact nxt2 _ w3 (.refl w3) rfl
      · have d0 : f' 22 = .pointer (some ⟨X, 0, none⟩) := hd 2 (mem_of_b (by kernel_rfl))
        obtain ⟨eS, hE⟩ := hB (by simp)
        subst S1
        have c0 := (hXw.ext hE).c0
        clear hd hB
        (refine rO goodFG rfl ?_;intro _ hu_ K_ hK_;(have hc := (Ext.twin hu_).cell c0);go_simp;(try rw [wI _]);(try rw [wU _]);refine hK_ _ ?_;clear hK_ K_ hu_;simp only [sS, sN])
        exact nxt2 _ w3 (.refl w3) rfl
      · clear hd
        (refine rO goodFG rfl ?_;intro _ hu_ K_ hK_;go_simp;(try rw [wI _]);(try rw [wU _]);refine hK_ _ ?_;clear hK_ K_ hu_;simp only [sS, sN])
        exact nxt2 _ w3 (.refl w3) rfl
      · clear hd
        (refine rO goodFG rfl ?_;intro _ hu_ K_ hK_;go_simp;(try rw [wI _]);(try rw [wU _]);refine hK_ _ ?_;clear hK_ K_ hu_;simp only [sS, sN])
        exact nxt2 _ w3 (.refl w3) rfl
      · have d0 : f' 25 = .pointer (some ⟨bx, 3, none⟩) := hd 5 (mem_of_b (by kernel_rfl))
        obtain ⟨eS, hE⟩ := hB (by simp)
        subst S1
        have c0 : w3.cell? ⟨bx, 3, none⟩ = some (.int .i64 (e.slot : Nat)) := (cell_of_row _ _ _ _ _ _ (hE.row hbw)).trans rfl
        clear hd hB
        (refine rO goodFG rfl ?_;intro _ hu_ K_ hK_;(have hc := (Ext.twin hu_).cell c0);go_simp;(try rw [wI _]);(try rw [wU _]);refine hK_ _ ?_;clear hK_ K_ hu_;simp only [sS, sN])
        exact nxt2 _ w3 (.refl w3) rfl
      · have d0 : f' 23 = .pointer (some ⟨D, 0, none⟩) := hd 3 (mem_of_b (by kernel_rfl))
        have d1 : f' 24 = .int .i64 (k : Nat) := hd 4 (mem_of_b (by kernel_rfl))
        have d2 : f' 26 = .int .i64 (e.slot : Nat) := hd 6 (mem_of_b (by kernel_rfl))
        obtain ⟨eS, hE⟩ := hB (by simp)
        subst S1
        clear hd hB
        (refine reach_callR rfl (by first | rfl | simp [Region.wanted, yielded, TA_get, *]) rfl Tryd.func47 (by kernel_rfl) rfl (by simp [Act.eval, *]; try rfl) (readS_r e.id e.size e.turn k m k e.slot (cutOf e.val e.size k) hok.id2 hok.id1 hok.size hlt (by have := hok.turn; omega) (by have := HM.out; omega) (cut_lt hok.val _ _) (by omega) hok.slot hnd hnb (hXw.ext hE).dk (fun j hj => by have h1 := hok.blk k hlt j hj; rw [HM.out] at h1; exact h1)) ?_)
        rintro _ S1 w4 _ ⟨e1, hE4, B, cp, rfl, hcp, hB, hby, hC⟩
        subst S1
        exact nxt2 _ w4 hE4 ⟨B, cp, rfl, hcp, RowB.of hby hC⟩
      · obtain ⟨B, cp, d0, hcp, hr⟩ : ∃ B c, f' 27 = .tuple #[.agg (pieceA e.id e.size e.turn k (some ⟨B, 0, none⟩) m c), .bool true] ∧ m ≤ c ∧ RowB w3 B m (cutOf e.val e.size k) := hd 7 (mem_of_b (by kernel_rfl))
        clear hd
        (refine rO goodFG rfl ?_;intro _ hu_ K_ hK_;go_simp;(try rw [wI _]);(try rw [wU _]);refine hK_ _ ?_;clear hK_ K_ hu_;simp only [sS, sN])
        exact nxt2 _ w3 (.refl w3) ⟨B, cp, rfl, hcp, hr⟩
      · obtain ⟨B, cp, d0, hcp, hr⟩ : ∃ B c, f' 19 = .tuple #[.agg (pieceA e.id e.size e.turn k (some ⟨B, 0, none⟩) m c), .bool true] ∧ m ≤ c ∧ RowB w3 B m (cutOf e.val e.size k) := hd 8 (mem_of_b (by kernel_rfl))
        clear hd
        (refine rO goodFG rfl ?_;intro _ hu_ K_ hK_;go_simp;(try rw [wI _]);(try rw [wU _]);refine hK_ _ ?_;clear hK_ K_ hu_;simp only [sS, sN])
        exact nxt2 _ w3 (.refl w3) ⟨B, cp, rfl, hcp, hr⟩
      · obtain ⟨B, cp, d0, hcp, hr⟩ : ∃ B c, f' 19 = .tuple #[.agg (pieceA e.id e.size e.turn k (some ⟨B, 0, none⟩) m c), .bool true] ∧ m ≤ c ∧ RowB w3 B m (cutOf e.val e.size k) := hd 8 (mem_of_b (by kernel_rfl))
        clear hd
        (refine rO goodFG rfl ?_;intro _ hu_ K_ hK_;go_simp;(try rw [wI _]);(try rw [wU _]);refine hK_ _ ?_;clear hK_ K_ hu_;simp only [sS, sN])
        exact nxt2 _ w3 (.refl w3) rfl
      · obtain ⟨eS, hE⟩ := hB (by simp)
        clear hd hB
        refine reach_alloc goodFG rfl rfl (by kernel_rfl) (.agg piece0) rfl (by kernel_rfl) fun w4 hE4 hb4 hs4 => ?_
        exact nxt2 _ w4 hE4 ⟨_, rfl, hE.size, _, rfl, hb4⟩
      · exact absurd rfl hne
      · have d0 : f' 29 = .bool true := hd 10 (mem_of_b (by kernel_rfl))
        clear hd
        (refine rO goodFG rfl ?_;intro _ hu_ K_ hK_;go_simp;(try rw [wI _]);(try rw [wU _]);refine hK_ _ ?_;clear hK_ K_ hu_;simp only [sS, sN])
        exact nxt2 _ w3 (.refl w3) trivial
    · rintro f' S1 w3 rest ⟨eS, hB⟩ hf hd nxt2
      subst S1
      obtain ⟨g, d0, hVg, c5, hc5, hg⟩ : ∃ g, f' 8 = .pointer (some ⟨g, 0, none⟩) ∧ w.heap.size ≤ g ∧ ∃ c : Array Value, c.size = 5 ∧ w3.heap[g]? = some (.cells c 96) := hd 11 (by simp)
      obtain ⟨B, cp, d1, hcp, hr⟩ : ∃ B c, f' 28 = .agg (pieceA e.id e.size e.turn k (some ⟨B, 0, none⟩) m c) ∧ m ≤ c ∧ RowB w3 B m (cutOf e.val e.size k) := hd 9 (by simp)
      clear hd
      refine reach_storeRow goodFG rfl rfl (by kernel_rfl) (x := .tmp 8) (y := .tmp 28) (g := g) (c := pieceA e.id e.size e.turn k (some ⟨B, 0, none⟩) m cp) rfl (by simp [d0]) (by simp [d1]) hg (by kernel_rfl) hc5 (by simp [pieceA, Value.oneCell']) fun w4 hW => ?_
      refine nxt2 undef S w4 ⟨rfl, ext_wr hB hVg hW, g, B, cp, d0, hVg, hcp, hW.at_, hr.wr hg (by decide) hW⟩ trivial fun j x' hj h => ?_
      unfold specG at h ⊢
      split at h <;> first | exact h | skip
      · obtain ⟨B, c, e, h1, h2⟩ := h
        exact ⟨B, c, e, h1, h2.wr hg (by decide) hW⟩
      · obtain ⟨B, c, e, h1, h2⟩ := h
        exact ⟨B, c, e, h1, h2.wr hg (by decide) hW⟩
      · obtain ⟨B, c, e, h1, h2⟩ := h
        exact ⟨B, c, e, h1, h2.wr hg (by decide) hW⟩
      · obtain ⟨g', e', h1', c', h2', hg'⟩ := h
        by_cases e : g' = g
        · subst e
          exact ⟨g', e', h1', _, rfl, hW.at_⟩
        · exact ⟨g', e', h1', c', h2', wr_row hW hg' e⟩
    · rintro f' S1 w3 ⟨eS, hE3, g, B, cp, g8', hVg, hcp, hg, hr⟩ hf hd
      subst S1
      have g0' : f' 0 = .pointer (some ⟨X, 0, none⟩) := (hf 0 (free_of (by kernel_rfl))).trans (by simp [g0])
      have g3' : f' 3 = .pointer (some ⟨bx, 0, none⟩) := (hf 3 (free_of (by kernel_rfl))).trans (by simp [g3])
      have g5' : f' 5 = .slice (some ⟨BL, 0, none⟩) 14 14 := (hf 5 (free_of (by kernel_rfl))).trans (by simp [g5])
      have g6' : f' 6 = .int .i64 (k : Nat) := (hf 6 (free_of (by kernel_rfl))).trans (by simp)
      have g12' : f' 12 = .agg yes14 := (hf 12 (free_of (by kernel_rfl))).trans (by simp [g12])
      have g13' : f' 13 = .int .i64 (k : Nat) := (hf 13 (free_of (by kernel_rfl))).trans (by simp [g13])
      clear hf hd
      have c4 : w3.cell? ⟨g, 4, none⟩ = some (.slice (some ⟨B, 0, none⟩) m cp) := (cell_of_row _ _ _ _ _ _ hg).trans rfl
      have hrow3 := hE3.row hrow
      repeat (first|refine rA ?_|refine rB ?_|refine rC ?_|refine rD ?_|(refine rR ?_;simp only [tO, Nat.reduceAdd])|refine rE ?_|(refine rO goodFG rfl ?_;intro _ hu_ K_ hK_;(have hc := (Ext.twin hu_).cell c4);go_simp;(try rw [wI _]);(try rw [wU _]);refine hK_ _ ?_;clear hK_ K_ hu_;simp only [sS, sN])|(refine rP rfl ?_;simp only [sS, sN])|(refine rP2 rfl ?_;simp only [sS, sN]))
      refine reach_store1 goodFG rfl rfl (by kernel_rfl) (x := .tmp 34) (y := .tmp 33) (g := BL) (j := k) (z := .slice (some ⟨B, 0, none⟩) m cp) rfl (by simp) (by simp) rfl rfl hrow3 (by rw [allA_size]; exact hlt) (by kernel_rfl) fun w4 hW4 => ?_
      simp only [stO_none]
      rw [GL_set] at hW4
      repeat (first|refine rA ?_|refine rB ?_|refine rC ?_|refine rD ?_|(refine rR ?_;simp only [tO, Nat.reduceAdd])|refine rE ?_|(refine rO goodFG rfl ?_;intro _ hu_ K_ hK_;go_simp;(try rw [wI _]);(try rw [wU _]);refine hK_ _ ?_;clear hK_ K_ hu_;simp only [sS, sN])|(refine rP rfl ?_;simp only [sS, sN])|(refine rP2 rfl ?_;simp only [sS, sN]))
      refine nxt _ _ _ (14 - (k + 1)) (by omega) ⟨k + 1, _, _, rfl, by omega, rfl, ext_wr (hEw.trans _ _ _ hE3) (by omega) hW4, ext_wr (hE1w.trans _ _ _ hE3) (by omega) hW4, hW4.at_, fun i hi => ?_, by simp [g0'], by simp [g3'], by simp [g5'], by simp [g12'], by simp⟩
      by_cases e : i = k
      · subst e
        simp only [if_true]
        exact ⟨hcp, hr.wr hrow3 (by decide) hW4⟩
      · obtain ⟨h1, h2⟩ := hrb i (by omega)
        simp only [e, if_false]
        exact ⟨h1, (h2.ext hE3).wr hrow3 (by decide) hW4⟩
  · obtain rfl : k = 14 := by omega
    (refine reach_cond (t := false) (by simp [Act.eval, g13]) ?_; simp only [if_true, if_false, reduceIte, Bool.false_eq_true])
    refine reach_exit rfl ?_
    repeat (first|refine rA ?_|refine rB ?_|refine rC ?_|refine rD ?_|(refine rR ?_;simp only [tO, Nat.reduceAdd])|refine rE ?_|(refine rO goodFG rfl ?_;intro _ hu_ K_ hK_;go_simp;(try rw [wI _]);(try rw [wU _]);refine hK_ _ ?_;clear hK_ K_ hu_;simp only [sS, sN])|(refine rP rfl ?_;simp only [sS, sN])|(refine rP2 rfl ?_;simp only [sS, sN]))
    refine reach_ret fun todo => ?_
    refine ret _ _ S w (.slice (some ⟨BL, 0, none⟩) 14 14) ?_ ⟨rfl, hEw, BL, PB, CP, rfl, hrow, hrb⟩
    simp [results, Tryd.results30, g5]
end
end Go.Proofs.YtpiefebngnlfoaaDoor

/-
  A store that holds something, on: Get, Delete.
-/
set_option linter.unusedVariables false
set_option linter.unusedSimpArgs false
namespace Go.Proofs.YtpiefebngnlfoaaDoor
open Go.RowKit Go.Conc Go.Vw

theorem RowB.kp {w w' : World} {B m : Nat} {y : Nat → Nat} (h : RowB w B m y) (hK : Kp w (fun _ => False) w') : RowB w' B m y := let ⟨C, h1, h2⟩ := h; ⟨C, hK.cells _ _ _ _ (fun x => x) h1, h2⟩
/-- The fourteen pieces of an entry, in memory. -/
def GPs (e : Ent) (BL : Nat) (PB CP : Nat → Nat) (w : World) : Prop := w.heap[BL]? = some (.cells (allA (GL PB CP ((e.size + 9) / 10) 14)) 25) ∧ ∀ k, k < 14 → (e.size + 9) / 10 ≤ CP k ∧ RowB w (PB k) ((e.size + 9) / 10) (cutOf e.val e.size k)
theorem GPs.kp {e : Ent} {BL : Nat} {PB CP : Nat → Nat} {w w' : World} (h : GPs e BL PB CP w) (hK : Kp w (fun _ => False) w') : GPs e BL PB CP w' := ⟨hK.cells _ _ _ _ (fun x => x) h.1, fun k hk => ⟨(h.2 k hk).1, (h.2 k hk).2.kp hK⟩⟩
theorem GPs.pl {e : Ent} {BL : Nat} {PB CP : Nat → Nat} {w : World} (h : GPs e BL PB CP w) : PL w BL 0 (fun k => some ⟨PB k, 0, none⟩) (fun _ => (e.size + 9) / 10) CP (cutOf e.val e.size) :=
  ⟨fun k hk => by
    rw [Nat.zero_add, cell_of_row _ _ _ _ _ _ h.1, allA_get _ _ hk]
    unfold GL
    rw [if_pos hk], fun k hk => .inr ⟨PB k, 0, rfl, (h.2 k hk).1, (h.2 k hk).2.bytes⟩⟩
def specT (e : Ent) (V X bx : Nat) (j : Nat) (x : Value) (w : World) : Prop :=
  match j with
  | 0 => x = .pointer (some ⟨X, 0, none⟩)
  | 1 => x = .agg (keptA e)
  | 2 => ∃ BL PB CP, x = .slice (some ⟨BL, 0, none⟩) 14 14 ∧ GPs e BL PB CP w
  | 3 => x = .pointer (some ⟨bx, 0, none⟩)
  | 4 => x = .pointer (some ⟨bx, 1, none⟩)
  | 5 => x = .int .i64 (e.size : Nat)
  | 6 => ∃ BV, x = .tuple #[sl BV e.size, .int .i64 0] ∧ V ≤ BV ∧ w.heap[BV]? = some (.cells (bytesA e.size e.val) 5)
  | 7 => ∃ BV, x = sl BV e.size ∧ V ≤ BV ∧ w.heap[BV]? = some (.cells (bytesA e.size e.val) 5)
  | 8 => x = .int .i64 0
  | 9 => ∃ BV, x = sl BV e.size ∧ V ≤ BV ∧ w.heap[BV]? = some (.cells (bytesA e.size e.val) 5)
  | 10 => x = .int .i64 0
  | _ => True
theorem specT_kp (e : Ent) (V X bx : Nat) : ∀ j x w w', specT e V X bx j x w → Kp w (fun _ => False) w' → specT e V X bx j x w' := by
  intro j x w w' h hK
  unfold specT at h ⊢
  split at h <;> first | exact h | skip
  · obtain ⟨BL, PB, CP, q, h1⟩ := h
    exact ⟨BL, PB, CP, q, h1.kp hK⟩
  · obtain ⟨BV, q, h1, h2⟩ := h
    exact ⟨BV, q, h1, hK.cells _ _ _ _ (fun x => x) h2⟩
  · obtain ⟨BV, q, h1, h2⟩ := h
    exact ⟨BV, q, h1, hK.cells _ _ _ _ (fun x => x) h2⟩
  · obtain ⟨BV, q, h1, h2⟩ := h
    exact ⟨BV, q, h1, hK.cells _ _ _ _ (fun x => x) h2⟩
section
variable {X D DB DA M : Nat} {RB RA : Nat → Nat} {nd nb turn : Nat} {c : Nat → Nat → Nat → Nat} {L : List Ent} {w w' v : World} {S : Nat → Prop}
/-- Join of the fourteen. -/
theorem joinE_r (e : Ent) (BL : Nat) (PB CP : Nat → Nat) (hsz : e.size ≤ 400) (hval : ∀ i, e.val i < 256) (hg : Tryd.prog.globals.size ≤ v.heap.size) (hP : GPs e BL PB CP v) :
    CallsR Tryd.prog 29 #[.slice (some ⟨BL, 0, none⟩) 14 14, .int .i64 (e.size : Nat)] S v fun x S' v' => ∃ BV, x = .tuple #[sl BV e.size, .int .i64 0] ∧ v.heap.size ≤ BV ∧ Kp v (fun _ => False) v' ∧ v'.heap[BV]? = some (.cells (bytesA e.size e.val) 5) := by
  have hq : ∀ k, k < 14 → ((fun k => some (⟨PB k, 0, none⟩ : Addr)) k).isSome = true := fun _ _ => rfl
  have h10 := (ftC_all hq 14 (Nat.le_refl _)).1
  refine (join_r (.slice (some ⟨BL, 0, none⟩) 14 14) ((e.size + 9) / 10) e.size _ (by omega) (by omega) (mend_r BL 0 14 ((e.size + 9) / 10) _ _ CP (cutOf e.val e.size) hP.pl (fun _ _ _ => rfl) (by omega) (by rw [h10]; rfl) (cut_lt hval _) hg)).mono fun y S' v' _ ⟨BV, e1, e2, hJ⟩ => ⟨BV, e1, e2, hJ.kp, ?_⟩
  rw [hJ.bv, bytesA_congr (g := e.val) fun i hi => ?_]
  have h1 : i / ((e.size + 9) / 10) < 10 := by
    rw [Nat.div_lt_iff_lt_mul (by omega)]
    omega
  rw [mend_all hq _ h1, cut_rows _ _ _ hi]
set_option maxRecDepth 100000 in
set_option maxHeartbeats 8000000 in
theorem get_r (id n : Nat) (e : Ent) (hq : findP id L 0 = some (n, e)) (hid1 : 1 ≤ id) (hid : id ≤ 9999) (hg : Tryd.prog.globals.size ≤ v.heap.size) (ht : turn < 1000000) (hn1 : 14 ≤ nd) (hnd : nd ≤ 18) (hnb : nb ≤ 64) (hX : StE X D DB DA M RB RA nd nb turn c L v) :
    CallsR Tryd.prog 13 #[.pointer (some ⟨X, 0, none⟩), .int .i64 (id : Nat)] S v fun x S' v' => Kp v (fun _ => False) v' ∧ ∃ BV, x = .tuple #[sl BV e.size, .int .i64 0] ∧ v.heap.size ≤ BV ∧ v'.heap[BV]? = some (.cells (bytesA e.size e.val) 5) := by
  refine callsR_body Tryd.func13 rfl Tryd.ntmps13 (by simp) fun Stop cc cs ret => ?_
  have g0 : argF #[.pointer (some ⟨X, 0, none⟩), .int .i64 (id : Nat)] 0 = .pointer (some ⟨X, 0, none⟩) := rfl
  have g1 : argF #[.pointer (some ⟨X, 0, none⟩), .int .i64 (id : Nat)] 1 = .int .i64 (id : Nat) := rfl
  generalize argF #[.pointer (some ⟨X, 0, none⟩), .int .i64 (id : Nat)] = f at g0 g1
  obtain ⟨n', hn, hget, hoid⟩ := findP_some hq
  have he : e ∈ L := List.mem_of_getElem? hget
  have hok := hX.ent e he
  obtain ⟨clock, hm, hbn⟩ := hX.map
  have c1 := hX.c1
  repeat (first|refine rA ?_|refine rB ?_|refine rC ?_|refine rD ?_|(refine rR ?_;simp only [tO, Nat.reduceAdd])|refine rE ?_|(refine rO goodFG rfl ?_;intro _ hu_ K_ hK_;go_simp;(try rw [wI _]);(try rw [wU _]);refine hK_ _ ?_;clear hK_ K_ hu_;simp only [sS, sN])|(refine rP rfl ?_;simp only [sS, sN])|(refine rP2 rfl ?_;simp only [sS, sN]))
  (refine reach_callR rfl (by first | rfl | simp [Region.wanted, yielded, TA_get, *]) rfl Tryd.func25 (by kernel_rfl) rfl (by simp [Act.eval, *]; try rfl) (isId_r id hid1 hid) ?_)
  rintro _ S2 w2 _ ⟨rfl, e1, e2⟩
  subst S2 w2
  simp only [stO_some]
  repeat (first|refine rA ?_|refine rB ?_|refine rC ?_|refine rD ?_|(refine rR ?_;simp only [tO, Nat.reduceAdd])|refine rE ?_|(refine rO goodFG rfl ?_;intro _ hu_ K_ hK_;go_simp;(try rw [wI _]);(try rw [wU _]);refine hK_ _ ?_;clear hK_ K_ hu_;simp only [sS, sN])|(refine rP rfl ?_;simp only [sS, sN])|(refine rP2 rfl ?_;simp only [sS, sN]))
  (refine reach_cond (t := false) (by simp [Act.eval]) ?_; simp only [if_true, if_false, reduceIte, Bool.false_eq_true])
  repeat (first|refine rA ?_|refine rB ?_|refine rC ?_|refine rD ?_|(refine rR ?_;simp only [tO, Nat.reduceAdd])|refine rE ?_|(refine rO goodFG rfl ?_;intro _ hu_ K_ hK_;(have hc := (Ext.twin hu_).cell c1);go_simp;(try rw [wI _]);(try rw [wU _]);refine hK_ _ ?_;clear hK_ K_ hu_;simp only [sS, sN])|(refine rP rfl ?_;simp only [sS, sN])|(refine rP2 rfl ?_;simp only [sS, sN]))
  refine reach_lookup rfl rfl rfl (x := .tmp 15) (y := .tmp 16) (id := id) (by simp) (by simp [g1]) hm ?_
  rw [hq]
  simp only [stO_some, lookV]
  repeat (first|refine rA ?_|refine rB ?_|refine rC ?_|refine rD ?_|(refine rR ?_;simp only [tO, Nat.reduceAdd])|refine rE ?_|(refine rO goodFG rfl ?_;intro _ hu_ K_ hK_;go_simp;(try rw [wI _]);(try rw [wU _]);refine hK_ _ ?_;clear hK_ K_ hu_;simp only [sS, sN])|(refine rP rfl ?_;simp only [sS, sN])|(refine rP2 rfl ?_;simp only [sS, sN]))
  refine reach_alloc goodFG rfl rfl (by kernel_rfl) (.agg (keptV 0 0 0 0 fun _ => false)) rfl (by kernel_rfl) fun w3 hE3 hb3 hs3 => ?_
  simp only [stO_some]
  refine reach_storeRow goodFG rfl rfl (by kernel_rfl) (x := .tmp 6) (y := .tmp 18) (g := v.heap.size) (c := keptA e) rfl (by simp) (by simp) hb3 (by kernel_rfl) rfl (keptA_all _) fun w4 hW4 => ?_
  simp only [stO_none]
  have hE4 : Ext v w4 := ext_wr hE3 (Nat.le_refl _) hW4
  have hX4 := hX.ext hE4
  have hb4 := hW4.at_
  generalize hbx : v.heap.size = bx at *
  repeat (first|refine rA ?_|refine rB ?_|refine rC ?_|refine rD ?_|(refine rR ?_;simp only [tO, Nat.reduceAdd])|refine rE ?_|(refine rO goodFG rfl ?_;intro _ hu_ K_ hK_;go_simp;(try rw [wI _]);(try rw [wU _]);refine hK_ _ ?_;clear hK_ K_ hu_;simp only [sS, sN])|(refine rP rfl ?_;simp only [sS, sN])|(refine rP2 rfl ?_;simp only [sS, sN]))
  (refine reach_cond (t := false) (by simp [Act.eval]) ?_; simp only [if_true, if_false, reduceIte, Bool.false_eq_true])
  repeat (first|refine rA ?_|refine rB ?_|refine rC ?_|refine rD ?_|(refine rR ?_;simp only [tO, Nat.reduceAdd])|refine rE ?_|(refine rO goodFG rfl ?_;intro _ hu_ K_ hK_;go_simp;(try rw [wI _]);(try rw [wU _]);refine hK_ _ ?_;clear hK_ K_ hu_;simp only [sS, sN])|(refine rP rfl ?_;simp only [sS, sN])|(refine rP2 rfl ?_;simp only [sS, sN]))
  refine reach_pivot (by kernel_rfl) (by kernel_rfl) (by kernel_rfl) 6 [0, 1, 2, 3, 4, 5] (by kernel_rfl) (specT e bx X bx) (fun S' w => S' = S ∧ Ext w4 w) (fun S' f w => Kp v (fun _ => False) w) (fun S' w w' h hE => ⟨h.1, h.2.trans _ _ _ hE⟩) (fun S' i f x w w' hi hA hm' h hE => h.ext hE) (fun j x w w' h hE => specT_kp _ _ _ _ _ _ _ _ h (kp_ext hE)) ?_ ⟨rfl, .refl _⟩ ?_ ?_ ?_
  · intro j hj he x w h
    have hj' : j < 11 := hj
    rcases (by omega : j = 0 ∨ j = 1 ∨ j = 2 ∨ j = 3 ∨ j = 4 ∨ j = 5 ∨ j = 6 ∨ j = 7 ∨ j = 8 ∨ j = 9 ∨ j = 10) with rfl | rfl | rfl | rfl | rfl | rfl | rfl | rfl | rfl | rfl | rfl <;> cases he
  · intro i f' S1 w5 rest hi hne hB hf hd nxt
    have g0' : f' 0 = .pointer (some ⟨X, 0, none⟩) := (hf 0 (free_of (by kernel_rfl))).trans (by simp [g0])
    have g6' : f' 6 = .pointer (some ⟨bx, 0, none⟩) := (hf 6 (free_of (by kernel_rfl))).trans (by simp)
    have hi' : i < 11 := hi
    clear hf
    rcases (by omega : i = 0 ∨ i = 1 ∨ i = 2 ∨ i = 3 ∨ i = 4 ∨ i = 5 ∨ i = 6 ∨ i = 7 ∨ i = 8 ∨ i = 9 ∨ i = 10) with rfl | rfl | rfl | rfl | rfl | rfl | rfl | rfl | rfl | rfl | rfl
    · clear hd
      (refine rO goodFG rfl ?_;intro _ hu_ K_ hK_;go_simp;(try rw [wI _]);(try rw [wU _]);refine hK_ _ ?_;clear hK_ K_ hu_;simp only [sS, sN])
      exact nxt _ w5 (.refl w5) rfl
    · obtain ⟨eS, hE⟩ := hB (by simp)
      subst S1
      clear hd
      refine reach_loadRow goodFG rfl rfl (by kernel_rfl) (x := .tmp 6) (b := bx) (c := keptA e) rfl (by simp [g6']) (hE.row hb4) (by kernel_rfl) (by kernel_rfl) ?_
      exact nxt _ w5 (.refl w5) rfl
    · have d0 : f' 22 = .pointer (some ⟨X, 0, none⟩) := hd 0 (mem_of_b (by kernel_rfl))
      have d1 : f' 23 = .agg (keptA e) := hd 1 (mem_of_b (by kernel_rfl))
      obtain ⟨eS, hE⟩ := hB (by simp)
      subst S1
      clear hd hB
      (refine reach_callR rfl (by first | rfl | simp [Region.wanted, yielded, TA_get, *]) rfl Tryd.func30 (by kernel_rfl) rfl (by simp [Act.eval, *]; try rfl) (goodPieces_r e he ht hn1 hnd hnb (hX4.ext hE)) ?_)
      rintro _ S1 w6 _ ⟨e1, hE6, BL, PB, CP, rfl, hrow, hps⟩
      subst S1
      exact nxt _ w6 hE6 ⟨BL, PB, CP, rfl, hrow, hps⟩
    · clear hd
      (refine rO goodFG rfl ?_;intro _ hu_ K_ hK_;go_simp;(try rw [wI _]);(try rw [wU _]);refine hK_ _ ?_;clear hK_ K_ hu_;simp only [sS, sN])
      exact nxt _ w5 (.refl w5) rfl
    · have d0 : f' 25 = .pointer (some ⟨bx, 0, none⟩) := hd 3 (mem_of_b (by kernel_rfl))
      clear hd
      (refine rO goodFG rfl ?_;intro _ hu_ K_ hK_;go_simp;(try rw [wI _]);(try rw [wU _]);refine hK_ _ ?_;clear hK_ K_ hu_;simp only [sS, sN])
      exact nxt _ w5 (.refl w5) rfl
    · have d0 : f' 26 = .pointer (some ⟨bx, 1, none⟩) := hd 4 (mem_of_b (by kernel_rfl))
      obtain ⟨eS, hE⟩ := hB (by simp)
      subst S1
      have c0 : w5.cell? ⟨bx, 1, none⟩ = some (.int .i64 (e.size : Nat)) := (cell_of_row _ _ _ _ _ _ (hE.row hb4)).trans rfl
      clear hd hB
      (refine rO goodFG rfl ?_;intro _ hu_ K_ hK_;(have hc := (Ext.twin hu_).cell c0);go_simp;(try rw [wI _]);(try rw [wU _]);refine hK_ _ ?_;clear hK_ K_ hu_;simp only [sS, sN])
      exact nxt _ w5 (.refl w5) rfl
    · exact absurd rfl hne
    · obtain ⟨BV, d0, h1, h2⟩ : ∃ BV, f' 28 = .tuple #[sl BV e.size, .int .i64 0] ∧ bx ≤ BV ∧ w5.heap[BV]? = some (.cells (bytesA e.size e.val) 5) := hd 6 (mem_of_b (by kernel_rfl))
      clear hd
      (refine rO goodFG rfl ?_;intro _ hu_ K_ hK_;go_simp;(try rw [wI _]);(try rw [wU _]);refine hK_ _ ?_;clear hK_ K_ hu_;simp only [sS, sN])
      exact nxt _ w5 (.refl w5) ⟨BV, rfl, h1, h2⟩
    · obtain ⟨BV, d0, h1, h2⟩ : ∃ BV, f' 28 = .tuple #[sl BV e.size, .int .i64 0] ∧ bx ≤ BV ∧ w5.heap[BV]? = some (.cells (bytesA e.size e.val) 5) := hd 6 (mem_of_b (by kernel_rfl))
      clear hd
      (refine rO goodFG rfl ?_;intro _ hu_ K_ hK_;go_simp;(try rw [wI _]);(try rw [wU _]);refine hK_ _ ?_;clear hK_ K_ hu_;simp only [sS, sN])
      exact nxt _ w5 (.refl w5) rfl
    · obtain ⟨BV, d0, h1, h2⟩ : ∃ BV, f' 29 = sl BV e.size ∧ bx ≤ BV ∧ w5.heap[BV]? = some (.cells (bytesA e.size e.val) 5) := hd 7 (mem_of_b (by kernel_rfl))
      clear hd
      (refine rO goodFG rfl ?_;intro _ hu_ K_ hK_;go_simp;(try rw [wI _]);(try rw [wU _]);refine hK_ _ ?_;clear hK_ K_ hu_;simp only [sS, sN])
      exact nxt _ w5 (.refl w5) ⟨BV, rfl, h1, h2⟩
    · have d0 : f' 30 = .int .i64 0 := hd 8 (mem_of_b (by kernel_rfl))
      clear hd
      (refine rO goodFG rfl ?_;intro _ hu_ K_ hK_;go_simp;(try rw [wI _]);(try rw [wU _]);refine hK_ _ ?_;clear hK_ K_ hu_;simp only [sS, sN])
      exact nxt _ w5 (.refl w5) rfl
  · rintro f' S1 w5 rest ⟨eS, hB⟩ hf hd nxt
    subst S1
    obtain ⟨BL, PB, CP, d0, hP⟩ : ∃ BL PB CP, f' 24 = .slice (some ⟨BL, 0, none⟩) 14 14 ∧ GPs e BL PB CP w5 := hd 2 (by simp)
    have d1 : f' 27 = .int .i64 (e.size : Nat) := hd 5 (by simp)
    have hsz5 : bx ≤ w5.heap.size := by have := hE4.size; have := hB.size; omega
    clear hd hf
    (refine reach_callR rfl (by first | rfl | simp [Region.wanted, yielded, TA_get, *]) rfl Tryd.func29 (by kernel_rfl) rfl (by simp [Act.eval, *]; try rfl) (joinE_r e BL PB CP hok.size hok.val (by omega) hP) ?_)
    rintro _ S2 w6 _ ⟨BV, rfl, hBV, hK6, hrow⟩
    exact nxt _ S2 w6 (((Kp.refl v _).ext (hE4.trans _ _ _ hB)).trans hK6) ⟨BV, rfl, by omega, hrow⟩ fun j y hj h => specT_kp _ _ _ _ _ _ _ _ h hK6
  · rintro f' S1 w5 hK hf hd
    obtain ⟨BV, d0, h1, h2⟩ : ∃ BV, f' 4 = sl BV e.size ∧ bx ≤ BV ∧ w5.heap[BV]? = some (.cells (bytesA e.size e.val) 5) := hd 9 (by decide)
    have d1 : f' 5 = .int .i64 0 := hd 10 (by decide)
    clear hf hd
    repeat (first|refine rA ?_|refine rB ?_|refine rC ?_|refine rD ?_|(refine rR ?_;simp only [tO, Nat.reduceAdd])|refine rE ?_|(refine rO goodFG rfl ?_;intro _ hu_ K_ hK_;go_simp;(try rw [wI _]);(try rw [wU _]);refine hK_ _ ?_;clear hK_ K_ hu_;simp only [sS, sN])|(refine rP rfl ?_;simp only [sS, sN])|(refine rP2 rfl ?_;simp only [sS, sN]))
    refine reach_ret fun todo => ?_
    refine ret _ _ S1 w5 (.tuple #[sl BV e.size, .int .i64 0]) ?_ ⟨hK, BV, rfl, h1, h2⟩
    simp [results, Tryd.results13, d0, d1]
set_option maxRecDepth 100000 in
set_option maxHeartbeats 4000000 in
theorem getNone_r (id : Nat) (hq : findP id L 0 = none) (hid1 : 1 ≤ id) (hid : id ≤ 9999) (hX : StE X D DB DA M RB RA nd nb turn c L v) :
    CallsR Tryd.prog 13 #[.pointer (some ⟨X, 0, none⟩), .int .i64 (id : Nat)] S v fun x S' v' => S' = S ∧ Ext v v' ∧ x = .tuple #[.slice none 0 0, .int .i64 4] := by
  refine callsR_body Tryd.func13 rfl Tryd.ntmps13 (by simp) fun Stop cc cs ret => ?_
  have g0 : argF #[.pointer (some ⟨X, 0, none⟩), .int .i64 (id : Nat)] 0 = .pointer (some ⟨X, 0, none⟩) := rfl
  have g1 : argF #[.pointer (some ⟨X, 0, none⟩), .int .i64 (id : Nat)] 1 = .int .i64 (id : Nat) := rfl
  generalize argF #[.pointer (some ⟨X, 0, none⟩), .int .i64 (id : Nat)] = f at g0 g1
  obtain ⟨clock, hm, hbn⟩ := hX.map
  have c1 := hX.c1
  repeat (first|refine rA ?_|refine rB ?_|refine rC ?_|refine rD ?_|(refine rR ?_;simp only [tO, Nat.reduceAdd])|refine rE ?_|(refine rO goodFG rfl ?_;intro _ hu_ K_ hK_;go_simp;(try rw [wI _]);(try rw [wU _]);refine hK_ _ ?_;clear hK_ K_ hu_;simp only [sS, sN])|(refine rP rfl ?_;simp only [sS, sN])|(refine rP2 rfl ?_;simp only [sS, sN]))
  (refine reach_callR rfl (by first | rfl | simp [Region.wanted, yielded, TA_get, *]) rfl Tryd.func25 (by kernel_rfl) rfl (by simp [Act.eval, *]; try rfl) (isId_r id hid1 hid) ?_)
  rintro _ S2 w2 _ ⟨rfl, e1, e2⟩
  subst S2 w2
  simp only [stO_some]
  repeat (first|refine rA ?_|refine rB ?_|refine rC ?_|refine rD ?_|(refine rR ?_;simp only [tO, Nat.reduceAdd])|refine rE ?_|(refine rO goodFG rfl ?_;intro _ hu_ K_ hK_;go_simp;(try rw [wI _]);(try rw [wU _]);refine hK_ _ ?_;clear hK_ K_ hu_;simp only [sS, sN])|(refine rP rfl ?_;simp only [sS, sN])|(refine rP2 rfl ?_;simp only [sS, sN]))
  (refine reach_cond (t := false) (by simp [Act.eval]) ?_; simp only [if_true, if_false, reduceIte, Bool.false_eq_true])
  repeat (first|refine rA ?_|refine rB ?_|refine rC ?_|refine rD ?_|(refine rR ?_;simp only [tO, Nat.reduceAdd])|refine rE ?_|(refine rO goodFG rfl ?_;intro _ hu_ K_ hK_;(have hc := (Ext.twin hu_).cell c1);go_simp;(try rw [wI _]);(try rw [wU _]);refine hK_ _ ?_;clear hK_ K_ hu_;simp only [sS, sN])|(refine rP rfl ?_;simp only [sS, sN])|(refine rP2 rfl ?_;simp only [sS, sN]))
  refine reach_lookup rfl rfl rfl (x := .tmp 15) (y := .tmp 16) (id := id) (by simp) (by simp [g1]) hm ?_
  rw [hq]
  simp only [stO_some, lookV]
  repeat (first|refine rA ?_|refine rB ?_|refine rC ?_|refine rD ?_|(refine rR ?_;simp only [tO, Nat.reduceAdd])|refine rE ?_|(refine rO goodFG rfl ?_;intro _ hu_ K_ hK_;go_simp;(try rw [wI _]);(try rw [wU _]);refine hK_ _ ?_;clear hK_ K_ hu_;simp only [sS, sN])|(refine rP rfl ?_;simp only [sS, sN])|(refine rP2 rfl ?_;simp only [sS, sN]))
  refine reach_alloc goodFG rfl rfl (by kernel_rfl) (.agg (keptV 0 0 0 0 fun _ => false)) rfl (by kernel_rfl) fun w3 hE3 hb3 hs3 => ?_
  simp only [stO_some]
  refine reach_storeRow goodFG rfl rfl (by kernel_rfl) (x := .tmp 6) (y := .tmp 18) (g := v.heap.size) (c := keptV 0 0 0 0 fun _ => false) rfl (by simp) (by simp) hb3 (by kernel_rfl) rfl (by simp [keptV, Value.oneCell']) fun w4 hW4 => ?_
  simp only [stO_none]
  have hE4 : Ext v w4 := ext_wr hE3 (Nat.le_refl _) hW4
  repeat (first|refine rA ?_|refine rB ?_|refine rC ?_|refine rD ?_|(refine rR ?_;simp only [tO, Nat.reduceAdd])|refine rE ?_|(refine rO goodFG rfl ?_;intro _ hu_ K_ hK_;go_simp;(try rw [wI _]);(try rw [wU _]);refine hK_ _ ?_;clear hK_ K_ hu_;simp only [sS, sN])|(refine rP rfl ?_;simp only [sS, sN])|(refine rP2 rfl ?_;simp only [sS, sN]))
  (refine reach_cond (t := true) (by simp [Act.eval]) ?_; simp only [if_true, if_false, reduceIte, Bool.false_eq_true])
  repeat (first|refine rA ?_|refine rB ?_|refine rC ?_|refine rD ?_|(refine rR ?_;simp only [tO, Nat.reduceAdd])|refine rE ?_|(refine rO goodFG rfl ?_;intro _ hu_ K_ hK_;go_simp;(try rw [wI _]);(try rw [wU _]);refine hK_ _ ?_;clear hK_ K_ hu_;simp only [sS, sN])|(refine rP rfl ?_;simp only [sS, sN])|(refine rP2 rfl ?_;simp only [sS, sN]))
  refine reach_ret fun todo => ?_
  refine ret _ _ S w4 (.tuple #[.slice none 0 0, .int .i64 4]) ?_ ⟨rfl, hE4, rfl⟩
  simp [results, Tryd.results13]
theorem delL_sub (L : List Ent) (id : Nat) : (delL L id).Sublist L := by
  unfold delL
  cases findP id L 0 with
  | none => exact List.Sublist.refl _
  | some q => exact List.eraseIdx_sublist ..
theorem erase_perm {α : Type} : ∀ (L : List α) (n : Nat) (e : α), L[n]? = some e → L.Perm (e :: L.eraseIdx n)
  | [], n, e, h => by simp at h
  | x :: L, 0, e, h => by
    simp at h
    subst h
    exact .refl _
  | x :: L, n + 1, e, h => by
    simp at h
    rw [List.eraseIdx_cons_succ]
    exact ((erase_perm L n e h).cons x).trans (.swap _ _ _)
theorem delL_perm {L : List Ent} {id n : Nat} {e : Ent} (hq : findP id L 0 = some (n, e)) : L.Perm (e :: delL L id) := by
  obtain ⟨n', hn, hget, _⟩ := findP_some hq
  obtain rfl : n = n' := by omega
  unfold delL
  rw [hq]
  exact erase_perm L n e hget
theorem StE.del (h : StE X D DB DA M RB RA nd nb turn c L w) {id clock : Nat} (hb : ∀ e ∈ L, e.born < clock) (hW : Wr w M (mapO (delL L id) clock) w') : StE X D DB DA M RB RA nd nb turn c (delL L id) w' :=
  have hs := delL_sub L id
  ⟨wr_row hW h.row (fun e => h.mn.2.1 e.symm), ⟨clock, hW.at_, fun e he => hb e (hs.subset he)⟩, h.dk.kp ((Kp.refl w (fun b => b = M)).wr (.inl rfl) hW) (fun e => h.mn.1 (.inl e.symm)) (fun e => h.mn.2.2.1 e.symm) (fun e => h.mn.2.2.2 e.symm) (fun d hd => ⟨fun e => h.mn.1 (.inr ⟨d, hd, .inl e.symm⟩), fun e => h.mn.1 (.inr ⟨d, hd, .inr e.symm⟩)⟩), fun e he => h.ent e (hs.subset he), List.Pairwise.sublist (hs.map _) h.ids, List.Pairwise.sublist (hs.map _) h.slots, List.Pairwise.sublist (hs.map _) h.borns⟩
set_option maxRecDepth 100000 in
set_option maxHeartbeats 4000000 in
theorem delete_r (id n : Nat) (e : Ent) (hq : findP id L 0 = some (n, e)) (hid1 : 1 ≤ id) (hid : id ≤ 9999) (hn1 : 14 ≤ nd) (hnd : nd ≤ 18) (hnb : nb ≤ 64) (hX : StE X D DB DA M RB RA nd nb turn c L v) :
    CallsR Tryd.prog 15 #[.pointer (some ⟨X, 0, none⟩), .int .i64 (id : Nat)] S v fun x S' v' => x = .int .i64 0 ∧ S' = S ∧ Kp v (SOwn X D M RB RA nd) v' ∧ ∃ c', StE X D DB DA M RB RA nd nb turn c' (delL L id) v' := by
  refine callsR_body Tryd.func15 rfl Tryd.ntmps15 (by simp) fun Stop cc cs ret => ?_
  have g0 : argF #[.pointer (some ⟨X, 0, none⟩), .int .i64 (id : Nat)] 0 = .pointer (some ⟨X, 0, none⟩) := rfl
  have g1 : argF #[.pointer (some ⟨X, 0, none⟩), .int .i64 (id : Nat)] 1 = .int .i64 (id : Nat) := rfl
  generalize argF #[.pointer (some ⟨X, 0, none⟩), .int .i64 (id : Nat)] = f at g0 g1
  obtain ⟨n', hn, hget, hoid⟩ := findP_some hq
  have he : e ∈ L := List.mem_of_getElem? hget
  have hok := hX.ent e he
  obtain ⟨clock, hm, hbn⟩ := hX.map
  have c1 := hX.c1
  repeat (first|refine rA ?_|refine rB ?_|refine rC ?_|refine rD ?_|(refine rR ?_;simp only [tO, Nat.reduceAdd])|refine rE ?_|(refine rO goodFG rfl ?_;intro _ hu_ K_ hK_;go_simp;(try rw [wI _]);(try rw [wU _]);refine hK_ _ ?_;clear hK_ K_ hu_;simp only [sS, sN])|(refine rP rfl ?_;simp only [sS, sN])|(refine rP2 rfl ?_;simp only [sS, sN]))
  (refine reach_callR rfl (by first | rfl | simp [Region.wanted, yielded, TA_get, *]) rfl Tryd.func25 (by kernel_rfl) rfl (by simp [Act.eval, *]; try rfl) (isId_r id hid1 hid) ?_)
  rintro _ S2 w2 _ ⟨rfl, e1, e2⟩
  subst S2 w2
  simp only [stO_some]
  repeat (first|refine rA ?_|refine rB ?_|refine rC ?_|refine rD ?_|(refine rR ?_;simp only [tO, Nat.reduceAdd])|refine rE ?_|(refine rO goodFG rfl ?_;intro _ hu_ K_ hK_;go_simp;(try rw [wI _]);(try rw [wU _]);refine hK_ _ ?_;clear hK_ K_ hu_;simp only [sS, sN])|(refine rP rfl ?_;simp only [sS, sN])|(refine rP2 rfl ?_;simp only [sS, sN]))
  (refine reach_cond (t := false) (by simp [Act.eval]) ?_; simp only [if_true, if_false, reduceIte, Bool.false_eq_true])
  repeat (first|refine rA ?_|refine rB ?_|refine rC ?_|refine rD ?_|(refine rR ?_;simp only [tO, Nat.reduceAdd])|refine rE ?_|(refine rO goodFG rfl ?_;intro _ hu_ K_ hK_;(have hc := (Ext.twin hu_).cell c1);go_simp;(try rw [wI _]);(try rw [wU _]);refine hK_ _ ?_;clear hK_ K_ hu_;simp only [sS, sN])|(refine rP rfl ?_;simp only [sS, sN])|(refine rP2 rfl ?_;simp only [sS, sN]))
  refine reach_lookup rfl rfl rfl (x := .tmp 14) (y := .tmp 15) (id := id) (by simp) (by simp [g1]) hm ?_
  rw [hq]
  simp only [stO_some, lookV]
  repeat (first|refine rA ?_|refine rB ?_|refine rC ?_|refine rD ?_|(refine rR ?_;simp only [tO, Nat.reduceAdd])|refine rE ?_|(refine rO goodFG rfl ?_;intro _ hu_ K_ hK_;go_simp;(try rw [wI _]);(try rw [wU _]);refine hK_ _ ?_;clear hK_ K_ hu_;simp only [sS, sN])|(refine rP rfl ?_;simp only [sS, sN])|(refine rP2 rfl ?_;simp only [sS, sN]))
  refine reach_alloc goodFG rfl rfl (by kernel_rfl) (.agg (keptV 0 0 0 0 fun _ => false)) rfl (by kernel_rfl) fun w3 hE3 hb3 hs3 => ?_
  simp only [stO_some]
  refine reach_storeRow goodFG rfl rfl (by kernel_rfl) (x := .tmp 5) (y := .tmp 17) (g := v.heap.size) (c := keptA e) rfl (by simp) (by simp) hb3 (by kernel_rfl) rfl (keptA_all _) fun w4 hW4 => ?_
  simp only [stO_none]
  have hE4 : Ext v w4 := ext_wr hE3 (Nat.le_refl _) hW4
  have hX4 := hX.ext hE4
  have hb4 := hW4.at_
  have c4 := hX4.c1
  have hm4 : w4.heap[M]? = some (mapO L clock) := by
    rw [hE4.block M (Array.getElem?_eq_some_iff.1 hm).1]
    exact hm
  generalize hbx : v.heap.size = bx at *
  repeat (first|refine rA ?_|refine rB ?_|refine rC ?_|refine rD ?_|(refine rR ?_;simp only [tO, Nat.reduceAdd])|refine rE ?_|(refine rO goodFG rfl ?_;intro _ hu_ K_ hK_;go_simp;(try rw [wI _]);(try rw [wU _]);refine hK_ _ ?_;clear hK_ K_ hu_;simp only [sS, sN])|(refine rP rfl ?_;simp only [sS, sN])|(refine rP2 rfl ?_;simp only [sS, sN]))
  (refine reach_cond (t := false) (by simp [Act.eval]) ?_; simp only [if_true, if_false, reduceIte, Bool.false_eq_true])
  repeat (first|refine rA ?_|refine rB ?_|refine rC ?_|refine rD ?_|(refine rR ?_;simp only [tO, Nat.reduceAdd])|refine rE ?_|(refine rO goodFG rfl ?_;intro _ hu_ K_ hK_;(have hc := (Ext.twin hu_).cell c4);go_simp;(try rw [wI _]);(try rw [wU _]);refine hK_ _ ?_;clear hK_ K_ hu_;simp only [sS, sN])|(refine rP rfl ?_;simp only [sS, sN])|(refine rP2 rfl ?_;simp only [sS, sN]))
  refine reach_delete rfl rfl rfl (x := .tmp 24) (y := .tmp 25) (id := id) (by simp) (by simp [g1]) hm4 fun w5 hW5 => ?_
  simp only [stO_none]
  have hX5 := hX4.del hbn hW5
  have hb5 := wr_row hW5 hb4 (fun h => map_ne hm4 hb4 h.symm)
  have hK5 : Kp v (SOwn X D M RB RA nd) w5 := ((Kp.refl v _).ext hE4).wr (.inl (.inr (.inl rfl))) hW5
  have cs3 : w5.cell? ⟨bx, 3, none⟩ = some (.int .i64 (e.slot : Nat)) := (cell_of_row _ _ _ _ _ _ hb5).trans rfl
  repeat (first|refine rA ?_|refine rB ?_|refine rC ?_|refine rD ?_|(refine rR ?_;simp only [tO, Nat.reduceAdd])|refine rE ?_|(refine rO goodFG rfl ?_;intro _ hu_ K_ hK_;(have hc := (Ext.twin hu_).cell cs3);go_simp;(try rw [wI _]);(try rw [wU _]);refine hK_ _ ?_;clear hK_ K_ hu_;simp only [sS, sN])|(refine rP rfl ?_;simp only [sS, sN])|(refine rP2 rfl ?_;simp only [sS, sN]))
  refine reach_still goodFG rfl rfl (by kernel_rfl) (fun u hu => keptV_good (b := bx) ((Ext.twin hu).row hb5) (x := .tmp 29) rfl (by simp)) ?_
  simp only [stO_some]
  (refine reach_callR rfl (by first | rfl | simp [Region.wanted, yielded, TA_get, *]) rfl Tryd.func28 (by kernel_rfl) rfl (by simp [Act.eval, *]; try rfl) (blankG_r e.slot hok.slot hn1 hnd hnb hX5.row hX5.dk) ?_)
  rintro _ S2 w6 _ ⟨rfl, e1, hK6, c'', hD6, hc6⟩
  subst S2
  simp only [stO_some]
  repeat (first|refine rA ?_|refine rB ?_|refine rC ?_|refine rD ?_|(refine rR ?_;simp only [tO, Nat.reduceAdd])|refine rE ?_|(refine rO goodFG rfl ?_;intro _ hu_ K_ hK_;go_simp;(try rw [wI _]);(try rw [wU _]);refine hK_ _ ?_;clear hK_ K_ hu_;simp only [sS, sN])|(refine rP rfl ?_;simp only [sS, sN])|(refine rP2 rfl ?_;simp only [sS, sN]))
  refine reach_ret fun todo => ?_
  refine ret _ _ S w6 (.int .i64 0) ?_ ⟨rfl, rfl, hK5.trans (hK6.mono fun b h => .inr (.inr h)), c'', hX5.slotOff (fun e' he' h => ?_) hK6 hD6 hc6⟩
  · simp [results, Tryd.results15]
  · have hp := (delL_perm hq).map (·.slot)
    have := (hp.nodup_iff).1 hX.slots
    rw [List.map_cons, List.nodup_cons] at this
    exact this.1 (List.mem_map.2 ⟨e', he', h⟩)
end
end Go.Proofs.YtpiefebngnlfoaaDoor
