/-
  block.Open, of a block that was sealed: the piece.
-/
import Derived.Test.YtpiefebngnlfoaaDoorMa
import Derived.Test.YtpiefebngnlfoaaDoorLi
set_option linter.unusedVariables false
set_option linter.unusedSimpArgs false
namespace Go.Proofs.YtpiefebngnlfoaaDoor
open Go.RowKit Go.Conc Go.Vw

set_option maxRecDepth 100000 in
theorem infoB_cells {i : TypeInfo} {z : Value} (h : Tryd.prog.info? 5 = some i) (hz : i.zero = some z) : z.cells = #[z] := by
  have : Tryd.prog.info? 5 = some _ := rfl
  rw [this] at h
  cases h
  cases hz
  rfl
theorem run_build0 {P : Program} {o : Oper} {a : Act} {t e : TypeId} {i : TypeInfo} {z : Value} (hop : o.op = Op.buildSlice t 0 #[]) (h1 : P.underlying t = some (.slice e)) (h2 : P.info? e = some i) (h3 : i.zero = some z) (h4 : i.size = 1) (h6 : z.cells = #[z]) (u : World) :
    (execOp a.eval o).run P u = .ok (.value (.slice (some ⟨u.heap.size, 0, none⟩) 0 0)) (u.alloc (.cells #[] e)) := by
  simp [execOp, hop, Instr.buildSlice, run_underlying h1, sizeOf, typeInfo, h2, h4, zeroValue, h3, h6, Instr.fill, newRow]
  congr 2
  apply Array.ext'
  simp
theorem sealF_id {id size turn k m : Nat} {y : Nat → Nat} {i : Nat} (hi : i < 2) : sealF id size turn k m y i = byteAt id i := by
  unfold sealF bodyF putF
  rw [if_neg (by omega)]
  dsimp only
  rw [if_neg (by omega), if_neg (by omega), if_neg (by omega), if_neg (by omega), if_pos (by omega), Nat.sub_zero]
theorem sealF_size {id size turn k m : Nat} {y : Nat → Nat} {i : Nat} (hi : i < 2) : sealF id size turn k m y (2 + i) = byteAt size i := by
  unfold sealF bodyF putF
  rw [if_neg (by omega)]
  dsimp only
  rw [if_neg (by omega), if_neg (by omega), if_neg (by omega), if_pos (by omega), show 2 + i - 2 = i by omega]
theorem sealF_num {id size turn k m : Nat} {y : Nat → Nat} {i : Nat} (hi : i < 1) : sealF id size turn k m y (4 + i) = byteAt k i := by
  unfold sealF bodyF putF
  rw [if_neg (by omega)]
  dsimp only
  rw [if_neg (by omega), if_neg (by omega), if_pos (by omega), show 4 + i - 4 = i by omega]
theorem sealF_turn {id size turn k m : Nat} {y : Nat → Nat} {i : Nat} (hi : i < 8) : sealF id size turn k m y (5 + i) = byteAt turn i := by
  unfold sealF bodyF putF
  rw [if_neg (by omega)]
  dsimp only
  rw [if_neg (by omega), if_pos (by omega), show 5 + i - 5 = i by omega]
theorem sealF_bytes {id size turn k m : Nat} {y : Nat → Nat} {i : Nat} (hm : m ≤ 79) (hi : i < m) : sealF id size turn k m y (13 + i) = y i := by
  unfold sealF putF bodyF
  rw [if_neg (by omega), if_pos (by omega), show 13 + i - 13 = i by omega]
/-- A label. -/
def labelA (id size turn : Nat) : Array Value := #[.int .i64 (id : Nat), .int .i64 (size : Nat), .int .u64 (turn : Nat)]
def specL (V B id size turn : Nat) (j : Nat) (x : Value) (w : World) : Prop :=
  match j with
  | 0 => x = .slice (some ⟨B, 0, none⟩) 2 96
  | 1 => x = .int .u64 (id : Nat)
  | 2 => x = .int .i64 (id : Nat)
  | 3 => x = .slice (some ⟨B, 2, none⟩) 2 94
  | 4 => x = .int .u64 (size : Nat)
  | 5 => x = .int .i64 (size : Nat)
  | 6 => x = .slice (some ⟨B, 5, none⟩) 8 91
  | 7 => x = .int .u64 (turn : Nat)
  | 8 => x = .agg (labelA id size turn)
  | 9 => ∃ g, x = .pointer (some ⟨g, 0, none⟩) ∧ V ≤ g ∧ ∃ c : Array Value, c.size = 3 ∧ w.heap[g]? = some (.cells c 53)
  | _ => True
theorem specL_ext (V B id size turn : Nat) : ∀ j x w w', specL V B id size turn j x w → Ext w w' → specL V B id size turn j x w' := by
  intro j x w w' h hE
  unfold specL at h ⊢
  split at h <;> first | exact h | skip
  obtain ⟨g, e, h1, c, h2, hg⟩ := h
  exact ⟨g, e, h1, c, h2, hE.row hg⟩
def specM (V B id size turn k : Nat) (j : Nat) (x : Value) (w : World) : Prop :=
  match j with
  | 0 => x = .agg (labelA id size turn)
  | 1 => x = .slice (some ⟨B, 4, none⟩) 1 92
  | 2 => x = .int .u64 (k : Nat)
  | 3 => x = .int .i64 (k : Nat)
  | 4 => x = .agg (pieceA id size turn k none 0 0)
  | 5 => ∃ g, x = .pointer (some ⟨g, 0, none⟩) ∧ V ≤ g ∧ ∃ c : Array Value, c.size = 5 ∧ w.heap[g]? = some (.cells c 96)
  | _ => True
theorem specM_ext (V B id size turn k : Nat) : ∀ j x w w', specM V B id size turn k j x w → Ext w w' → specM V B id size turn k j x w' := by
  intro j x w w' h hE
  unfold specM at h ⊢
  split at h <;> first | exact h | skip
  obtain ⟨g, e, h1, c, h2, hg⟩ := h
  exact ⟨g, e, h1, c, h2, hE.row hg⟩
def specN (blk pc : Value) (j : Nat) (x : Value) (w : World) : Prop :=
  match j with
  | 0 => x = pc
  | 1 => x = blk
  | 2 => x = blk
  | 3 => x = .bool false
  | _ => True
set_option maxRecDepth 100000 in
set_option maxHeartbeats 8000000 in
theorem openS_r {S : Nat → Prop} {v : World} (id size turn k m : Nat) (y : Nat → Nat) (hid : id ≤ 9999) (hid0 : 1 ≤ id) (hsz : size ≤ 400) (hk : k < 14) (ht : turn < 18446744073709551616) (hm : m = (size + 9) / 10) (hy : ∀ i, y i < 256) :
    CallsR Tryd.prog 68 #[.agg (bytesA 96 (sealF id size turn k m y))] S v fun x S' v' => S' = S ∧ Ext v v' ∧ ∃ B c, x = .agg (pieceA id size turn k (some ⟨B, 0, none⟩) m c) ∧ m ≤ c ∧ v.heap.size ≤ B ∧ BytesAt v' B 0 m y ∧ ∃ C, v'.heap[B]? = some (.cells C 5) := by
  refine callsR_body Tryd.func68 rfl Tryd.ntmps68 (by simp) fun Stop cc cs ret => ?_
  have g0 : argF #[.agg (bytesA 96 (sealF id size turn k m y))] 0 = .agg (bytesA 96 (sealF id size turn k m y)) := rfl
  generalize argF #[.agg (bytesA 96 (sealF id size turn k m y))] = f at g0
  have hm79 : m ≤ 79 := by omega
  have HM := hide hm
  clear hm
  repeat (first|refine rA ?_|refine rB ?_|refine rC ?_|refine rD ?_|(refine rR ?_;simp only [tO, Nat.reduceAdd])|refine rE ?_|(refine rO goodFG rfl ?_;intro _ hu_ K_ hK_;go_simp;(try rw [wI _]);(try rw [wU _]);refine hK_ _ ?_;clear hK_ K_ hu_;simp only [sS, sN])|(refine rP rfl ?_;simp only [sS, sN])|(refine rP2 rfl ?_;simp only [sS, sN]))
  refine reach_turnQ (Q := fun y' w => y' = .pointer (some ⟨v.heap.size, 0, none⟩) ∧ Ext v w ∧ w.heap[v.heap.size]? = some (.cells (bytesA 96 (sealF id size turn k m y)) 92) ∧ w.heap.size = v.heap.size + 1) goodFG rfl rfl (by kernel_rfl) (fun u hu => ⟨_, _, .inl (run_box (x := .tmp 0) (y := .agg (bytesA 96 (sealF id size turn k m y))) rfl (by simp [g0]) u), by rw [hu.heap], (Ext.twin hu).trans _ _ _ (Ext.alloc _ _), by rw [← hu.heap]; exact alloc_at _ _, by rw [alloc_size, hu.heap]⟩) ?_
  rintro _ w1 ⟨rfl, hE1, hb1, hs1⟩
  simp only [stO_some]
  refine reach_alloc goodFG rfl rfl (by kernel_rfl) (.agg #[.int .i64 0, .int .i64 0, .int .u64 0, .int .i64 0, .slice none 0 0]) rfl (by kernel_rfl) fun w2 hE2 hb2 hs2 => ?_
  simp only [stO_some]
  repeat (first|refine rA ?_|refine rB ?_|refine rC ?_|refine rD ?_|(refine rR ?_;simp only [tO, Nat.reduceAdd])|refine rE ?_|(refine rO goodFG rfl ?_;intro _ hu_ K_ hK_;go_simp;(try rw [wI _]);(try rw [wU _]);refine hK_ _ ?_;clear hK_ K_ hu_;simp only [sS, sN])|(refine rP rfl ?_;simp only [sS, sN])|(refine rP2 rfl ?_;simp only [sS, sN]))
  rw [hs1] at hb2
  rw [show w1.heap.size = v.heap.size + 1 by omega]
  have hb : w2.heap[v.heap.size]? = some (.cells (bytesA 96 (sealF id size turn k m y)) 92) := hE2.row hb1
  have hv2 := hE1.trans _ _ _ hE2
  clear hE1 hE2 hb1
  have hz : ∀ w : World, w.heap[v.heap.size]? = some (.cells (bytesA 96 (sealF id size turn k m y)) 92) → ∀ i, i < 96 → w.cell? ⟨v.heap.size, i, none⟩ = some (.int .u8 (sealF id size turn k m y i : Nat)) := fun w hw i hi => by
    rw [cell_of_row _ _ _ _ _ _ hw]
    exact bytesA_get _ _ _ hi
  have q1 : id % 256 ^ 2 = id := Nat.mod_eq_of_lt (by omega)
  have q2 : size % 256 ^ 2 = size := Nat.mod_eq_of_lt (by omega)
  have q3 : k % 256 ^ 1 = k := Nat.mod_eq_of_lt (by omega)
  have q4 : turn % 256 ^ 8 = turn := Nat.mod_eq_of_lt (by omega)
  refine reach_pivot (by kernel_rfl) (by kernel_rfl) (by kernel_rfl) 10 [0, 1, 2, 3, 4, 5, 6, 7, 8, 9] (by kernel_rfl) (specL w2.heap.size v.heap.size id size turn) (fun S' w => S' = S ∧ Ext w2 w) (fun S' f w => S' = S ∧ Ext w2 w ∧ ∃ g, f 3 = .pointer (some ⟨g, 0, none⟩) ∧ w2.heap.size ≤ g ∧ w.heap[g]? = some (.cells (labelA id size turn) 53)) (fun S' w w' h hE => ⟨h.1, h.2.trans _ _ _ hE⟩) (fun S' i f x w w' hi hA hm' => ?_) (specL_ext _ _ _ _ _) ?_ ⟨rfl, .refl _⟩ ?_ ?_ ?_
  · exfalso
    have hi' : i < 11 := hi
    simp at hA
    omega
  · intro j hj he x w h
    have : j = 10 := by
      have hj' : j < 11 := hj
      match j, hj' with
      | 0, _ => cases he
      | 1, _ => cases he
      | 2, _ => cases he
      | 3, _ => cases he
      | 4, _ => cases he
      | 5, _ => cases he
      | 6, _ => cases he
      | 7, _ => cases he
      | 8, _ => cases he
      | 9, _ => cases he
      | 10, _ => rfl
    subst this
    exact trivial
  · intro i f S1 w rest hi hne hB hf hd nxt
    have g1 : f 1 = .pointer (some ⟨v.heap.size, 0, none⟩) := (hf 1 (free_of (by kernel_rfl))).trans (by simp)
    have hi' : i < 11 := hi
    obtain ⟨eS, hE⟩ := hB (by
      simp
      omega)
    subst S1
    have hz' := hz w (hE.row hb)
    clear hf hB
    match i, hi' with
    | 0, _ =>
      clear hd
      (refine rO goodFG rfl ?_;intro _ hu_ K_ hK_;go_simp;(try rw [wI _]);(try rw [wU _]);refine hK_ _ ?_;clear hK_ K_ hu_;simp only [sS, sN])
      exact nxt _ w (.refl w) rfl
    | 1, _ =>
      have d0 : f 5 = .slice (some ⟨v.heap.size, 0, none⟩) 2 96 := hd 0 (mem_of_b (by kernel_rfl))
      clear hd
      (refine reach_callR rfl (by first | rfl | simp [Region.wanted, yielded, TA_get, *]) rfl Tryd.func96 (by kernel_rfl) rfl (by simp [Act.eval, *]; try rfl) (numberG_r v.heap.size 0 2 96 id (by omega) (by omega) fun i h => by rw [hz' _ (by omega), Nat.zero_add, sealF_id h]) ?_)
      rintro _ S1 w' _ ⟨rfl, e1, e2⟩
      subst S1 w'
      rw [q1]
      exact nxt _ w (.refl w) rfl
    | 2, _ =>
      have d1 : f 6 = .int .u64 (id : Nat) := hd 1 (mem_of_b (by kernel_rfl))
      clear hd
      (refine rO goodFG rfl ?_;intro _ hu_ K_ hK_;go_simp;(try rw [wI _]);(try rw [wU _]);refine hK_ _ ?_;clear hK_ K_ hu_;simp only [sS, sN])
      exact nxt _ w (.refl w) rfl
    | 3, _ =>
      clear hd
      (refine rO goodFG rfl ?_;intro _ hu_ K_ hK_;go_simp;(try rw [wI _]);(try rw [wU _]);refine hK_ _ ?_;clear hK_ K_ hu_;simp only [sS, sN])
      exact nxt _ w (.refl w) rfl
    | 4, _ =>
      have d0 : f 8 = .slice (some ⟨v.heap.size, 2, none⟩) 2 94 := hd 3 (mem_of_b (by kernel_rfl))
      clear hd
      (refine reach_callR rfl (by first | rfl | simp [Region.wanted, yielded, TA_get, *]) rfl Tryd.func96 (by kernel_rfl) rfl (by simp [Act.eval, *]; try rfl) (numberG_r v.heap.size 2 2 94 size (by omega) (by omega) fun i h => by rw [hz' _ (by omega), sealF_size h]) ?_)
      rintro _ S1 w' _ ⟨rfl, e1, e2⟩
      subst S1 w'
      rw [q2]
      exact nxt _ w (.refl w) rfl
    | 5, _ =>
      have d1 : f 9 = .int .u64 (size : Nat) := hd 4 (mem_of_b (by kernel_rfl))
      clear hd
      (refine rO goodFG rfl ?_;intro _ hu_ K_ hK_;go_simp;(try rw [wI _]);(try rw [wU _]);refine hK_ _ ?_;clear hK_ K_ hu_;simp only [sS, sN])
      exact nxt _ w (.refl w) rfl
    | 6, _ =>
      clear hd
      (refine rO goodFG rfl ?_;intro _ hu_ K_ hK_;go_simp;(try rw [wI _]);(try rw [wU _]);refine hK_ _ ?_;clear hK_ K_ hu_;simp only [sS, sN])
      exact nxt _ w (.refl w) rfl
    | 7, _ =>
      have d0 : f 11 = .slice (some ⟨v.heap.size, 5, none⟩) 8 91 := hd 6 (mem_of_b (by kernel_rfl))
      clear hd
      (refine reach_callR rfl (by first | rfl | simp [Region.wanted, yielded, TA_get, *]) rfl Tryd.func96 (by kernel_rfl) rfl (by simp [Act.eval, *]; try rfl) (numberG_r v.heap.size 5 8 91 turn (by omega) (by omega) fun i h => by rw [hz' _ (by omega), sealF_turn h]) ?_)
      rintro _ S1 w' _ ⟨rfl, e1, e2⟩
      subst S1 w'
      rw [q4]
      exact nxt _ w (.refl w) rfl
    | 8, _ =>
      have d0 : f 7 = .int .i64 (id : Nat) := hd 2 (mem_of_b (by kernel_rfl))
      have d1 : f 10 = .int .i64 (size : Nat) := hd 5 (mem_of_b (by kernel_rfl))
      have d2 : f 12 = .int .u64 (turn : Nat) := hd 7 (mem_of_b (by kernel_rfl))
      clear hd
      (refine rO goodFG rfl ?_;intro _ hu_ K_ hK_;go_simp;(try rw [wI _]);(try rw [wU _]);refine hK_ _ ?_;clear hK_ K_ hu_;simp only [sS, sN])
      exact nxt _ w (.refl w) rfl
    | 9, _ =>
      clear hd
      refine reach_alloc goodFG rfl rfl (by kernel_rfl) (.agg label0) rfl (by kernel_rfl) fun w3 hE3 hb3 hs3 => ?_
      exact nxt _ w3 hE3 ⟨_, rfl, hE.size, _, rfl, hb3⟩
    | 10, _ => exact absurd rfl hne
  · rintro f S1 w rest ⟨eS, hB⟩ hf hd nxt
    subst S1
    obtain ⟨g, d0, hVg, c, hc3, hg⟩ : ∃ g, f 3 = .pointer (some ⟨g, 0, none⟩) ∧ w2.heap.size ≤ g ∧ ∃ c : Array Value, c.size = 3 ∧ w.heap[g]? = some (.cells c 53) := hd 9 (by simp)
    have d1 : f 13 = .agg (labelA id size turn) := hd 8 (by simp)
    clear hd
    refine reach_storeRow goodFG rfl rfl (by kernel_rfl) (x := .tmp 3) (y := .tmp 13) (g := g) (c := labelA id size turn) rfl (by simp [d0]) (by simp [d1]) hg (by kernel_rfl) hc3 (by simp [labelA, Value.oneCell']) fun w3 hW => ?_
    refine nxt undef S w3 ⟨rfl, ext_wr hB hVg hW, g, d0, hVg, hW.at_⟩ trivial fun j x' hj h => ?_
    unfold specL at h ⊢
    split at h <;> first | exact h | skip
    obtain ⟨g', e', h1', c', h2', hg'⟩ := h
    by_cases e : g' = g
    · subst e
      exact ⟨g', e', h1', _, rfl, hW.at_⟩
    · exact ⟨g', e', h1', c', h2', wr_row hW hg' e⟩
  · rintro f S1 w ⟨eS, hEw, g, g3, hVg, hg⟩ hf hd
    subst S1
    have g1 : f 1 = .pointer (some ⟨v.heap.size, 0, none⟩) := (hf 1 (free_of (by kernel_rfl))).trans (by simp)
    have g2 : f 2 = .pointer (some ⟨v.heap.size + 1, 0, none⟩) := (hf 2 (free_of (by kernel_rfl))).trans (by simp)
    clear hf hd
    repeat (first|refine rA ?_|refine rB ?_|refine rC ?_|refine rD ?_|(refine rR ?_;simp only [tO, Nat.reduceAdd])|refine rE ?_|(refine rO goodFG rfl ?_;intro _ hu_ K_ hK_;go_simp;(try rw [wI _]);(try rw [wU _]);refine hK_ _ ?_;clear hK_ K_ hu_;simp only [sS, sN])|(refine rP rfl ?_;simp only [sS, sN])|(refine rP2 rfl ?_;simp only [sS, sN]))
    refine reach_pivot (by kernel_rfl) (by kernel_rfl) (by kernel_rfl) 6 [0, 1, 2, 3, 4, 5] (by kernel_rfl) (specM w.heap.size v.heap.size id size turn k) (fun S' w' => S' = S ∧ Ext w w') (fun S' f w' => S' = S ∧ Ext w w' ∧ ∃ g, f 4 = .pointer (some ⟨g, 0, none⟩) ∧ w.heap.size ≤ g ∧ w'.heap[g]? = some (.cells (pieceA id size turn k none 0 0) 96)) (fun S' w w' h hE => ⟨h.1, h.2.trans _ _ _ hE⟩) (fun S' i f x w w' hi hA hm' => ?_) (specM_ext _ _ _ _ _ _) ?_ ⟨rfl, .refl _⟩ ?_ ?_ ?_
    · exfalso
      have hi' : i < 7 := hi
      simp at hA
      omega
    · intro j hj he x w h
      have : j = 6 := by
        have hj' : j < 7 := hj
        match j, hj' with
        | 0, _ => cases he
        | 1, _ => cases he
        | 2, _ => cases he
        | 3, _ => cases he
        | 4, _ => cases he
        | 5, _ => cases he
        | 6, _ => rfl
      subst this
      exact trivial
    · intro i f' S1 w' rest hi hne hB hf' hd' nxt
      have q1' : f' 1 = .pointer (some ⟨v.heap.size, 0, none⟩) := (hf' 1 (free_of (by kernel_rfl))).trans g1
      have q3' : f' 3 = .pointer (some ⟨g, 0, none⟩) := (hf' 3 (free_of (by kernel_rfl))).trans g3
      have hi' : i < 7 := hi
      obtain ⟨eS, hE'⟩ := hB (by
        simp
        omega)
      subst S1
      have hz' := hz w' ((hEw.trans _ _ _ hE').row hb)
      clear hf' hB
      match i, hi' with
      | 0, _ =>
        clear hd'
        refine reach_loadRow goodFG rfl rfl (by kernel_rfl) (x := .tmp 3) (b := g) (c := labelA id size turn) rfl (by simp [q3']) (hE'.row hg) (by kernel_rfl) (by kernel_rfl) ?_
        exact nxt _ w' (.refl w') rfl
      | 1, _ =>
        clear hd'
        (refine rO goodFG rfl ?_;intro _ hu_ K_ hK_;go_simp;(try rw [wI _]);(try rw [wU _]);refine hK_ _ ?_;clear hK_ K_ hu_;simp only [sS, sN])
        exact nxt _ w' (.refl w') rfl
      | 2, _ =>
        have d0 : f' 15 = .slice (some ⟨v.heap.size, 4, none⟩) 1 92 := hd' 1 (mem_of_b (by kernel_rfl))
        clear hd'
        (refine reach_callR rfl (by first | rfl | simp [Region.wanted, yielded, TA_get, *]) rfl Tryd.func96 (by kernel_rfl) rfl (by simp [Act.eval, *]; try rfl) (numberG_r v.heap.size 4 1 92 k (by omega) (by omega) fun i h => by rw [hz' _ (by omega), sealF_num h]) ?_)
        rintro _ S1 w1 _ ⟨rfl, e1, e2⟩
        subst S1 w1
        rw [q3]
        exact nxt _ w' (.refl w') rfl
      | 3, _ =>
        have d1 : f' 16 = .int .u64 (k : Nat) := hd' 2 (mem_of_b (by kernel_rfl))
        clear hd'
        (refine rO goodFG rfl ?_;intro _ hu_ K_ hK_;go_simp;(try rw [wI _]);(try rw [wU _]);refine hK_ _ ?_;clear hK_ K_ hu_;simp only [sS, sN])
        exact nxt _ w' (.refl w') rfl
      | 4, _ =>
        have d0 : f' 14 = .agg (labelA id size turn) := hd' 0 (mem_of_b (by kernel_rfl))
        have d1 : f' 17 = .int .i64 (k : Nat) := hd' 3 (mem_of_b (by kernel_rfl))
        clear hd'
        unfold labelA at d0
        (refine rO goodFG rfl ?_;intro _ hu_ K_ hK_;go_simp;(try rw [wI _]);(try rw [wU _]);refine hK_ _ ?_;clear hK_ K_ hu_;simp only [sS, sN])
        exact nxt _ w' (.refl w') rfl
      | 5, _ =>
        clear hd'
        refine reach_alloc goodFG rfl rfl (by kernel_rfl) (.agg piece0) rfl (by kernel_rfl) fun w3 hE3 hb3 hs3 => ?_
        exact nxt _ w3 hE3 ⟨_, rfl, hE'.size, _, rfl, hb3⟩
      | 6, _ => exact absurd rfl hne
    · rintro f' S1 w' rest ⟨eS, hB⟩ hf' hd' nxt
      subst S1
      obtain ⟨g', d0, hVg', c, hc5, hg'⟩ : ∃ g', f' 4 = .pointer (some ⟨g', 0, none⟩) ∧ w.heap.size ≤ g' ∧ ∃ c : Array Value, c.size = 5 ∧ w'.heap[g']? = some (.cells c 96) := hd' 5 (by simp)
      have d1 : f' 18 = .agg (pieceA id size turn k none 0 0) := hd' 4 (by simp)
      clear hd'
      refine reach_storeRow goodFG rfl rfl (by kernel_rfl) (x := .tmp 4) (y := .tmp 18) (g := g') (c := pieceA id size turn k none 0 0) rfl (by simp [d0]) (by simp [d1]) hg' (by kernel_rfl) hc5 (by simp [pieceA, Value.oneCell']) fun w3 hW => ?_
      refine nxt undef S w3 ⟨rfl, ext_wr hB hVg' hW, g', d0, hVg', hW.at_⟩ trivial fun j x' hj h => ?_
      unfold specM at h ⊢
      split at h <;> first | exact h | skip
      obtain ⟨g2', e', h1', c', h2', hg2⟩ := h
      by_cases e : g2' = g'
      · subst e
        exact ⟨g2', e', h1', _, rfl, hW.at_⟩
      · exact ⟨g2', e', h1', c', h2', wr_row hW hg2 e⟩
    · rintro f' S1 w' ⟨eS, hEw', gp, q4', hVp, hgp⟩ hf' hd'
      subst S1
      have q1' : f' 1 = .pointer (some ⟨v.heap.size, 0, none⟩) := (hf' 1 (free_of (by kernel_rfl))).trans g1
      have q2' : f' 2 = .pointer (some ⟨v.heap.size + 1, 0, none⟩) := (hf' 2 (free_of (by kernel_rfl))).trans g2
      have q3' : f' 3 = .pointer (some ⟨g, 0, none⟩) := (hf' 3 (free_of (by kernel_rfl))).trans g3
      clear hf' hd' g1 g2 g3 g0
      have hEv := hv2.trans _ _ _ (hEw.trans _ _ _ hEw')
      have hlab := hEw'.row hg
      have hblk := hEw'.row (hEw.row hb)
      have hres := hEw'.row (hEw.row hb2)
      have l0 : w'.cell? ⟨g, 0, none⟩ = some (.int .i64 (id : Nat)) := (cell_of_row _ _ _ _ _ _ hlab).trans rfl
      have l1 : w'.cell? ⟨g, 1, none⟩ = some (.int .i64 (size : Nat)) := (cell_of_row _ _ _ _ _ _ hlab).trans rfl
      have l2 : w'.cell? ⟨gp, 3, none⟩ = some (.int .i64 (k : Nat)) := (cell_of_row _ _ _ _ _ _ hgp).trans rfl
      have i1 : ¬ (id : Int) < 1 := by omega
      have i2 : ¬ (9999 : Int) < (id : Int) := by omega
      have i3 : ¬ (400 : Int) < (size : Int) := by omega
      have i4 : ¬ (14 : Int) ≤ (k : Int) := by omega
      have n1 : ¬ id < 1 := by omega
      have n2 : ¬ 9999 < id := by omega
      have n3 : ¬ 400 < size := by omega
      have n4 : ¬ 14 ≤ k := by omega
      have n5 : ¬ id = 0 := by omega
      repeat (first|refine rA ?_|refine rB ?_|refine rC ?_|refine rD ?_|(refine rR ?_;simp only [tO, Nat.reduceAdd])|refine rE ?_|(refine rO goodFG rfl ?_;intro _ hu_ K_ hK_;(have hc := (Ext.twin hu_).cell l0; have hc1 := (Ext.twin hu_).cell l1; have hc2 := (Ext.twin hu_).cell l2);go_simp;(try rw [wI _]);(try rw [wU _]);refine hK_ _ ?_;clear hK_ K_ hu_;simp only [sS, sN])|(refine rP rfl ?_;simp only [sS, sN])|(refine rP2 rfl ?_;simp only [sS, sN]))
      (refine reach_cond (t := false) (by simp [Act.eval, i1, i2, i3, i4, n1, n2, n3, n4, n5]) ?_; simp only [if_true, if_false, reduceIte, Bool.false_eq_true])
      repeat (first|refine rA ?_|refine rB ?_|refine rC ?_|refine rD ?_|(refine rR ?_;simp only [tO, Nat.reduceAdd])|refine rE ?_|(refine rO goodFG rfl ?_;intro _ hu_ K_ hK_;go_simp;(try rw [wI _]);(try rw [wU _]);refine hK_ _ ?_;clear hK_ K_ hu_;simp only [sS, sN])|(refine rP rfl ?_;simp only [sS, sN])|(refine rP2 rfl ?_;simp only [sS, sN]))
      obtain ⟨ib, zb, ib1, ib2, ib3, ib4, ib5⟩ := infoB
      have hzc : zb.cells = #[zb] := infoB_cells ib1 ib2
      refine reach_turnQ (Q := fun y' w3 => y' = .slice (some ⟨w'.heap.size, 0, none⟩) 0 0 ∧ Ext w' w3 ∧ w3.heap[w'.heap.size]? = some (.cells #[] 5) ∧ w3.heap.size = w'.heap.size + 1) goodFG rfl rfl (by kernel_rfl) (fun u hu => ⟨_, _, .inl (run_build0 rfl Tryd.underlying25 ib1 ib2 ib3 hzc u), by rw [hu.heap], (Ext.twin hu).trans _ _ _ (Ext.alloc _ _), by rw [← hu.heap]; exact alloc_at _ _, by rw [alloc_size, hu.heap]⟩) ?_
      rintro _ w3 ⟨rfl, hE3, hb3, hs3⟩
      simp only [stO_some]
      have l1' := hE3.cell l1
      repeat (first|refine rA ?_|refine rB ?_|refine rC ?_|refine rD ?_|(refine rR ?_;simp only [tO, Nat.reduceAdd])|refine rE ?_|(refine rO goodFG rfl ?_;intro _ hu_ K_ hK_;(have hc1 := (Ext.twin hu_).cell l1');go_simp;(try rw [wI _]);(try rw [wU _]);refine hK_ _ ?_;clear hK_ K_ hu_;simp only [sS, sN])|(refine rP rfl ?_;simp only [sS, sN])|(refine rP2 rfl ?_;simp only [sS, sN]))
      (refine reach_callR rfl (by first | rfl | simp [Region.wanted, yielded, TA_get, *]) rfl Tryd.func39 (by kernel_rfl) rfl (by simp [Act.eval, *]; try rfl) (rowLength_r size hsz) ?_)
      rintro _ S1 w4 _ ⟨rfl, e1, e2⟩
      subst S1 w4
      simp only [stO_some]
      rw [← HM.out]
      have j1 : (13 : Int) ≤ 13 + (m : Int) := by omega
      have j2 : (13 : Int) + (m : Int) ≤ 96 := by omega
      have j3 : ((13 : Int) + (m : Int)).toNat = 13 + m := by omega
      have j4 : (0 : Int) ≤ 13 + (m : Int) := by omega
      have j5 : (13 : Int) ≤ max (13 + (m : Int)) 0 := by omega
      have j6 : ((13 : Int) + (m : Int)).toNat - 13 = m := by omega
      repeat (first|refine rA ?_|refine rB ?_|refine rC ?_|refine rD ?_|(refine rR ?_;simp only [tO, Nat.reduceAdd])|refine rE ?_|(refine rO goodFG rfl ?_;intro _ hu_ K_ hK_;go_simp;(try rw [wI _]);(try rw [wU _]);refine hK_ _ ?_;clear hK_ K_ hu_;simp only [sS, sN])|(refine rP rfl ?_;simp only [sS, sN])|(refine rP2 rfl ?_;simp only [sS, sN]))
      have hblk3 := hE3.row hblk
      have hown : w3.ownsRow w'.heap.size 5 1 (.slice (some ⟨w'.heap.size, 0, none⟩) 0 0) 0 [] := ⟨rfl, .inr ⟨_, 0, #[], rfl, Nat.le_refl _, hb3, Nat.le_refl _, Nat.zero_le _, rfl, rfl⟩⟩
      refine reach_turnQ (Q := fun y' w4 => w4.ownsRow w'.heap.size 5 1 y' (0 + m) ([] ++ (List.range m).map fun j => Value.int .u8 ((y j : Nat) : Int)) ∧ Gr w3 w4 (Value.slice (some ⟨w'.heap.size, 0, none⟩) 0 0).ownBlock ∧ (y' = .slice none 0 0 ↔ (Value.slice (some ⟨w'.heap.size, 0, none⟩) 0 0) = .slice none 0 0 ∧ m = 0)) goodFG rfl rfl (by kernel_rfl) (fun u hu => append_does (s := .tmp 38) (x := .tmp 43) (ad := ⟨v.heap.size, 13, none⟩) (c := 83) hu _ Tryd.underlying25 ib1 ib2 ib3 ib4 ib5 hown (by simp) (fun j z hj => ?_) bytesL_mem (by omega) (by omega) (by omega) rfl (by simp) (by simp)) ?_
      · obtain ⟨hjm, rfl⟩ := bytesL_get hj
        rw [Addr.add_lit]
        show w3.cell? ⟨v.heap.size, 13 + j, none⟩ = _
        rw [hz w3 hblk3 _ (by omega), sealF_bytes hm79 hjm]
      rintro y' w4 ⟨ho4, hG4, hn4⟩
      simp only [stO_some]
      rw [Nat.zero_add, List.nil_append] at ho4
      obtain ⟨gB, cap, cur, rfl, hgB, hrB, hcap, hcs, hcur⟩ := own_some ho4 (.inr fun e => by have := (hn4.1 e).1; cases this)
      have hE4 : Ext w' w4 := hG4.over hE3 fun b e => by
        simp only [Value.ownBlock, Option.some.injEq] at e
        omega
      clear hG4 hn4 ho4 hown hb3
      have hgp4 := hE4.row hgp
      have hgplt : gp < w'.heap.size := (Array.getElem?_eq_some_iff.1 hgp).1
      repeat (first|refine rA ?_|refine rB ?_|refine rC ?_|refine rD ?_|(refine rR ?_;simp only [tO, Nat.reduceAdd])|refine rE ?_|(refine rO goodFG rfl ?_;intro _ hu_ K_ hK_;go_simp;(try rw [wI _]);(try rw [wU _]);refine hK_ _ ?_;clear hK_ K_ hu_;simp only [sS, sN])|(refine rP rfl ?_;simp only [sS, sN])|(refine rP2 rfl ?_;simp only [sS, sN]))
      refine reach_store1 goodFG rfl rfl (by kernel_rfl) (x := .tmp 45) (y := .tmp 44) (g := gp) (j := 4) (z := .slice (some ⟨gB, 0, none⟩) m cap) rfl (by simp) (by simp) rfl rfl hgp4 (by simp [pieceA]) (by kernel_rfl) fun w5 hW5 => ?_
      simp only [stO_none]
      have hgp5 : w5.heap[gp]? = some (.cells (pieceA id size turn k (some ⟨gB, 0, none⟩) m cap) 96) := hW5.at_
      have hE5 : Ext v w5 := ext_wr (hEv.trans _ _ _ hE4) (Nat.le_trans hv2.size (Nat.le_trans hEw.size hVp)) hW5
      have hblk5 : w5.heap[v.heap.size]? = some (.cells (bytesA 96 (sealF id size turn k m y)) 92) := wr_row hW5 (hE4.row hblk) (fun e => by
        rw [e, hgp] at hblk
        exact absurd (Obj.cells.inj (Option.some.inj hblk)).2.1 (by decide))
      have hres5 : w5.heap[v.heap.size + 1]? = some (.cells #[.int .i64 0, .int .i64 0, .int .u64 0, .int .i64 0, .slice none 0 0] 96) := wr_row hW5 (hE4.row hres) (fun e => by
        have h1 : v.heap.size + 1 < w2.heap.size := (Array.getElem?_eq_some_iff.1 hb2).1
        have h2 := hEw.size
        omega)
      have hrB5 := wr_row hW5 hrB (by omega)
      have hBy5 : BytesAt w5 gB 0 m y := fun i hi => by
        rw [Nat.zero_add, cell_of_row _ _ _ _ _ _ hrB5, hcur i hi]
        simp [hi]
      repeat (first|refine rA ?_|refine rB ?_|refine rC ?_|refine rD ?_|(refine rR ?_;simp only [tO, Nat.reduceAdd])|refine rE ?_|(refine rO goodFG rfl ?_;intro _ hu_ K_ hK_;go_simp;(try rw [wI _]);(try rw [wU _]);refine hK_ _ ?_;clear hK_ K_ hu_;simp only [sS, sN])|(refine rP rfl ?_;simp only [sS, sN])|(refine rP2 rfl ?_;simp only [sS, sN]))
      refine reach_phase (by kernel_rfl) (by kernel_rfl) (by kernel_rfl) (specN (.agg (bytesA 96 (sealF id size turn k m y))) (.agg (pieceA id size turn k (some ⟨gB, 0, none⟩) m cap))) (fun j x w w' h hE => h) ?_ ?_ ?_
      · intro j hj he x w h
        have hj' : j < 4 := hj
        match j, hj' with
        | 0, _ => cases he
        | 1, _ => cases he
        | 2, _ => cases he
        | 3, _ => cases he
      · intro i f'' w6 rest hi hE6 hf'' hd'' nxt
        have r1 : f'' 1 = .pointer (some ⟨v.heap.size, 0, none⟩) := (hf'' 1 (free_of (by kernel_rfl))).trans (by simp [q1'])
        have r4 : f'' 4 = .pointer (some ⟨gp, 0, none⟩) := (hf'' 4 (free_of (by kernel_rfl))).trans (by simp [q4'])
        have hi' : i < 4 := hi
        clear hf''
        match i, hi' with
        | 0, _ =>
          clear hd''
          refine reach_loadRow goodFG rfl rfl (by kernel_rfl) (x := .tmp 4) (b := gp) rfl (by simp [r4]) (hE6.row hgp5) (by kernel_rfl) (by kernel_rfl) ?_
          exact nxt _ w6 (.refl w6) rfl
        | 1, _ =>
          have d0 : f'' 46 = .agg (pieceA id size turn k (some ⟨gB, 0, none⟩) m cap) := hd'' 0 (mem_of_b (by kernel_rfl))
          clear hd''
          (refine reach_callR rfl (by first | rfl | simp [Region.wanted, yielded, TA_get, *]) rfl Tryd.func69 (by kernel_rfl) rfl (by simp [Act.eval, *]; try rfl) (seal_r id size turn k m cap gB 0 y hid hsz hk ht hm79 hy (hBy5.ext hE6)) ?_)
          rintro _ S1 w7 _ ⟨rfl, e1, hE7⟩
          subst S1
          exact nxt _ w7 hE7 rfl
        | 2, _ =>
          clear hd''
          refine reach_loadRow goodFG rfl rfl (by kernel_rfl) (x := .tmp 1) (b := v.heap.size) rfl (by simp [r1]) (hE6.row hblk5) (by kernel_rfl) (by rw [bytesA_size]; kernel_rfl) ?_
          exact nxt _ w6 (.refl w6) rfl
        | 3, _ =>
          have d0 : f'' 47 = .agg (bytesA 96 (sealF id size turn k m y)) := hd'' 1 (mem_of_b (by kernel_rfl))
          have d1 : f'' 48 = .agg (bytesA 96 (sealF id size turn k m y)) := hd'' 2 (mem_of_b (by kernel_rfl))
          clear hd''
          refine reach_still goodFG rfl rfl (by kernel_rfl) (fun u hu => run_neqBlk (xo := .tmp 47) (yo := .tmp 48) (x := sealF id size turn k m y) (y := sealF id size turn k m y) rfl (by simp [d0]) (by simp [d1])) ?_
          rw [(eqF_iff _ _ 96 0).2 fun _ _ _ => rfl]
          exact nxt _ w6 (.refl w6) rfl
      · intro f'' w6 hE6 hf'' hd''
        have r2 : f'' 2 = .pointer (some ⟨v.heap.size + 1, 0, none⟩) := (hf'' 2 (free_of (by kernel_rfl))).trans (by simp [q2'])
        have r4 : f'' 4 = .pointer (some ⟨gp, 0, none⟩) := (hf'' 4 (free_of (by kernel_rfl))).trans (by simp [q4'])
        have d3 : f'' 49 = .bool false := hd'' 3 (by decide)
        clear hf'' hd''
        repeat (first|refine rA ?_|refine rB ?_|refine rC ?_|refine rD ?_|(refine rR ?_;simp only [tO, Nat.reduceAdd])|refine rE ?_|(refine rO goodFG rfl ?_;intro _ hu_ K_ hK_;go_simp;(try rw [wI _]);(try rw [wU _]);refine hK_ _ ?_;clear hK_ K_ hu_;simp only [sS, sN])|(refine rP rfl ?_;simp only [sS, sN])|(refine rP2 rfl ?_;simp only [sS, sN]))
        (refine reach_cond (t := false) (by simp [Act.eval, d3]) ?_; simp only [if_true, if_false, reduceIte, Bool.false_eq_true])
        repeat (first|refine rA ?_|refine rB ?_|refine rC ?_|refine rD ?_|(refine rR ?_;simp only [tO, Nat.reduceAdd])|refine rE ?_|(refine rO goodFG rfl ?_;intro _ hu_ K_ hK_;go_simp;(try rw [wI _]);(try rw [wU _]);refine hK_ _ ?_;clear hK_ K_ hu_;simp only [sS, sN])|(refine rP rfl ?_;simp only [sS, sN])|(refine rP2 rfl ?_;simp only [sS, sN]))
        refine reach_loadRow goodFG rfl rfl (by kernel_rfl) (x := .tmp 4) (b := gp) rfl (by simp [r4]) (hE6.row hgp5) (by kernel_rfl) (by kernel_rfl) ?_
        simp only [stO_some]
        refine reach_storeRow goodFG rfl rfl (by kernel_rfl) (x := .tmp 2) (y := .tmp 51) (g := v.heap.size + 1) (c := pieceA id size turn k (some ⟨gB, 0, none⟩) m cap) rfl (by simp [r2]) (by simp) (hE6.row hres5) (by kernel_rfl) rfl (by simp [pieceA, Value.oneCell']) fun w7 hW7 => ?_
        simp only [stO_none]
        repeat (first|refine rA ?_|refine rB ?_|refine rC ?_|refine rD ?_|(refine rR ?_;simp only [tO, Nat.reduceAdd])|refine rE ?_|(refine rO goodFG rfl ?_;intro _ hu_ K_ hK_;go_simp;(try rw [wI _]);(try rw [wU _]);refine hK_ _ ?_;clear hK_ K_ hu_;simp only [sS, sN])|(refine rP rfl ?_;simp only [sS, sN])|(refine rP2 rfl ?_;simp only [sS, sN]))
        refine reach_ret fun todo => ?_
        have hrB7 := wr_row hW7 (hE6.row hrB5) (by
          have h1 : v.heap.size + 1 < w2.heap.size := (Array.getElem?_eq_some_iff.1 hb2).1
          have h2 := hEw.size
          have h3 := hEw'.size
          omega)
        refine ret _ _ S w7 (.agg (pieceA id size turn k (some ⟨gB, 0, none⟩) m cap)) ?_ ⟨rfl, ext_wr (hE5.trans _ _ _ hE6) (by omega) hW7, gB, cap, rfl, hcap, by have := hEv.size; omega, fun i hi => ?_, _, hrB7⟩
        · have hl := run_loadVar_row (P := Tryd.prog) w7 (v.heap.size + 1) 96 96 (pieceA id size turn k (some ⟨gB, 0, none⟩) m cap) (0, 0) _ hW7.at_ Tryd.underlying96 rfl (by kernel_rfl)
          simp [results, Tryd.results68, asAddr, hl, r2]
        · rw [Nat.zero_add, cell_of_row _ _ _ _ _ _ hrB7, hcur i hi]
          simp [hi]
end Go.Proofs.YtpiefebngnlfoaaDoor
