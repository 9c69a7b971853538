/-
  mosaickeep's pick, same, blank, mounted.
-/
import Derived.Test.YtpiefebngnlfoaaDoorMk
import Derived.Test.YtpiefebngnlfoaaDoorLl
set_option linter.unusedVariables false
set_option linter.unusedSimpArgs false
namespace Go.Proofs.YtpiefebngnlfoaaDoor
open Go.RowKit Go.Conc Go.Vw
/-- What pick tells. -/
def pickN (c : Int) (n : Nat) : Nat := ((if c < 0 then -(c + 1) else c) % (n : Int)).toNat
theorem pickN_lt (c : Int) {n : Nat} (hn : 0 < n) : pickN c n < n := by
  have hl := Int.emod_lt_of_pos (if c < 0 then -(c + 1) else c) (show (0 : Int) < (n : Int) by omega)
  have hp := Int.emod_nonneg (if c < 0 then -(c + 1) else c) (show (n : Int) ≠ 0 by omega)
  unfold pickN
  omega
section
variable {v : World} {S : Nat → Prop}
set_option maxRecDepth 100000 in
theorem pickK_r (c : Int) (n : Nat) (hn : 0 < n) (hn2 : n ≤ 1000) (h1 : -9223372036854775808 ≤ c) (h2 : c ≤ 9223372036854775807) :
    CallsR Tryd.prog 9 #[.int .i64 c, .int .i64 (n : Nat)] S v fun x S' v' => x = .int .i64 (pickN c n : Nat) ∧ S' = S ∧ v' = v := by
  refine callsR_body Tryd.func9 rfl Tryd.ntmps9 (by simp) fun Stop cc cs ret => ?_
  have g0 : argF #[.int .i64 c, .int .i64 (n : Nat)] 0 = .int .i64 c := rfl
  have g1 : argF #[.int .i64 c, .int .i64 (n : Nat)] 1 = .int .i64 (n : Nat) := rfl
  generalize argF #[.int .i64 c, .int .i64 (n : Nat)] = f at g0 g1
  have hnz : ¬ (n : Int) = 0 := by omega
  have hnz' : ¬ n = 0 := by omega
  unfold pickN at ret
  by_cases hneg : c < 0
  · rw [if_pos hneg] at ret
    have hp := Int.emod_nonneg (-(c + 1)) hnz
    have hl := Int.emod_lt_of_pos (-(c + 1)) (show (0 : Int) < (n : Int) by omega)
    have e : (((-(c + 1)) % (n : Int)).toNat : Int) = (-(c + 1)).tmod n := by
      rw [Int.tmod_eq_emod_of_nonneg (by omega)]
      omega
    have HE := hide e
    have hr : -9223372036854775808 ≤ (-(c + 1)).tmod n ∧ (-(c + 1)).tmod n ≤ 9223372036854775807 := by omega
    clear e
    repeat (first|refine rA ?_|refine rB ?_|refine rC ?_|refine rD ?_|(refine rR ?_;simp only [tO, Nat.reduceAdd])|refine rE ?_|(refine rO goodFG rfl ?_;intro _ hu_ K_ hK_;go_simp;(try rw [wI _]);(try rw [wU _]);refine hK_ _ ?_;clear hK_ K_ hu_;simp only [sS, sN])|(refine rP rfl ?_;simp only [sS, sN])|(refine rP2 rfl ?_;simp only [sS, sN]))
    (refine reach_cond (t := true) (by simp [Act.eval, hneg]) ?_; simp only [if_true, if_false, reduceIte, Bool.false_eq_true])
    repeat (first|refine rA ?_|refine rB ?_|refine rC ?_|refine rD ?_|(refine rR ?_;simp only [tO, Nat.reduceAdd])|refine rE ?_|(refine rO goodFG rfl ?_;intro _ hu_ K_ hK_;go_simp;(try rw [wI _]);(try rw [wU _]);refine hK_ _ ?_;clear hK_ K_ hu_;simp only [sS, sN])|(refine rP rfl ?_;simp only [sS, sN])|(refine rP2 rfl ?_;simp only [sS, sN]))
    refine reach_ret fun todo => ?_
    refine ret _ _ S v (.int .i64 (((-(c + 1)) % (n : Int)).toNat : Nat)) ?_ ⟨rfl, rfl, rfl⟩
    simp [results, Tryd.results9, HE.out]
  · rw [if_neg hneg] at ret
    have hp := Int.emod_nonneg c hnz
    have hl := Int.emod_lt_of_pos c (show (0 : Int) < (n : Int) by omega)
    have e : ((c % (n : Int)).toNat : Int) = c.tmod n := by
      rw [Int.tmod_eq_emod_of_nonneg (by omega)]
      omega
    have HE := hide e
    have hr : -9223372036854775808 ≤ c.tmod n ∧ c.tmod n ≤ 9223372036854775807 := by omega
    clear e
    repeat (first|refine rA ?_|refine rB ?_|refine rC ?_|refine rD ?_|(refine rR ?_;simp only [tO, Nat.reduceAdd])|refine rE ?_|(refine rO goodFG rfl ?_;intro _ hu_ K_ hK_;go_simp;(try rw [wI _]);(try rw [wU _]);refine hK_ _ ?_;clear hK_ K_ hu_;simp only [sS, sN])|(refine rP rfl ?_;simp only [sS, sN])|(refine rP2 rfl ?_;simp only [sS, sN]))
    (refine reach_cond (t := false) (by simp [Act.eval, hneg]) ?_; simp only [if_true, if_false, reduceIte, Bool.false_eq_true])
    repeat (first|refine rA ?_|refine rB ?_|refine rC ?_|refine rD ?_|(refine rR ?_;simp only [tO, Nat.reduceAdd])|refine rE ?_|(refine rO goodFG rfl ?_;intro _ hu_ K_ hK_;go_simp;(try rw [wI _]);(try rw [wU _]);refine hK_ _ ?_;clear hK_ K_ hu_;simp only [sS, sN])|(refine rP rfl ?_;simp only [sS, sN])|(refine rP2 rfl ?_;simp only [sS, sN]))
    refine reach_ret fun todo => ?_
    refine ret _ _ S v (.int .i64 ((c % (n : Int)).toNat : Nat)) ?_ ⟨rfl, rfl, rfl⟩
    simp [results, Tryd.results9, HE.out]
set_option maxRecDepth 100000 in
set_option maxHeartbeats 1000000 in
theorem sameK_r (p1 p2 : Option Addr) (L c1 c2 : Nat) (x1 x2 : Nat → Nat) (hL : L ≤ 400) (h1 : SliceV v p1 L c1 x1) (h2 : SliceV v p2 L c2 x2) (he : ∀ i, i < L → x1 i = x2 i) :
    CallsR Tryd.prog 14 #[.slice p1 L c1, .slice p2 L c2] S v fun x S' v' => x = .bool true ∧ S' = S ∧ v' = v := by
  refine callsR_body Tryd.func14 rfl Tryd.ntmps14 (by simp) fun Stop cc cs ret => ?_
  have g0 : argF #[.slice p1 L c1, .slice p2 L c2] 0 = .slice p1 L c1 := rfl
  have g1 : argF #[.slice p1 L c1, .slice p2 L c2] 1 = .slice p2 L c2 := rfl
  generalize argF #[.slice p1 L c1, .slice p2 L c2] = f at g0 g1
  repeat (first|refine rA ?_|refine rB ?_|refine rC ?_|refine rD ?_|(refine rR ?_;simp only [tO, Nat.reduceAdd])|refine rE ?_|(refine rO goodFG rfl ?_;intro _ hu_ K_ hK_;go_simp;(try rw [wI _]);(try rw [wU _]);refine hK_ _ ?_;clear hK_ K_ hu_;simp only [sS, sN])|(refine rP rfl ?_;simp only [sS, sN])|(refine rP2 rfl ?_;simp only [sS, sN]))
  (refine reach_cond (t := false) (by simp [Act.eval]) ?_; simp only [if_true, if_false, reduceIte, Bool.false_eq_true])
  repeat (first|refine rA ?_|refine rB ?_|refine rC ?_|refine rD ?_|(refine rR ?_;simp only [tO, Nat.reduceAdd])|refine rE ?_|(refine rO goodFG rfl ?_;intro _ hu_ K_ hK_;go_simp;(try rw [wI _]);(try rw [wU _]);refine hK_ _ ?_;clear hK_ K_ hu_;simp only [sS, sN])|(refine rP rfl ?_;simp only [sS, sN])|(refine rP2 rfl ?_;simp only [sS, sN]))
  refine reach_rounds (fun d f' S' v' => ∃ j, d = L - j ∧ j ≤ L ∧ S' = S ∧ v' = v ∧ f' 0 = .slice p1 L c1 ∧ f' 1 = .slice p2 L c2 ∧ f' 5 = .int .i64 (j : Nat)) L ⟨0, by omega, by omega, rfl, rfl, by simp [g0], by simp [g1], by simp⟩ ?_
  rintro d f' S' v' ⟨j, rfl, hj, eS, eV, q0, q1, q5⟩ next
  subst S' v'
  repeat (first|refine rA ?_|refine rB ?_|refine rC ?_|refine rD ?_|(refine rR ?_;simp only [tO, Nat.reduceAdd])|refine rE ?_|(refine rO goodFG rfl ?_;intro _ hu_ K_ hK_;go_simp;(try rw [wI _]);(try rw [wU _]);refine hK_ _ ?_;clear hK_ K_ hu_;simp only [sS, sN])|(refine rP rfl ?_;simp only [sS, sN])|(refine rP2 rfl ?_;simp only [sS, sN]))
  by_cases hlt : j < L
  · have hjI : (j : Int) < (L : Int) := by omega
    obtain ⟨B1, o1, hp1, k1, b1⟩ : ∃ B off, p1 = some ⟨B, off, none⟩ ∧ L ≤ c1 ∧ BytesAt v B off L x1 := by
      rcases h1 with ⟨_, h, _⟩ | h
      · omega
      · exact h
    obtain ⟨B2, o2, hp2, k2, b2⟩ : ∃ B off, p2 = some ⟨B, off, none⟩ ∧ L ≤ c2 ∧ BytesAt v B off L x2 := by
      rcases h2 with ⟨_, h, _⟩ | h
      · omega
      · exact h
    subst hp1 hp2
    have e1 := b1 j hlt
    have e2 := b2 j hlt
    rw [he j hlt] at e1
    (refine reach_cond (t := true) (by simp [Act.eval, hlt]) ?_; simp only [if_true, if_false, reduceIte, Bool.false_eq_true])
    repeat (first|refine rA ?_|refine rB ?_|refine rC ?_|refine rD ?_|(refine rR ?_;simp only [tO, Nat.reduceAdd])|refine rE ?_|(refine rO goodFG rfl ?_;intro _ hu_ K_ hK_;go_simp;(try rw [wI _]);(try rw [wU _]);refine hK_ _ ?_;clear hK_ K_ hu_;simp only [sS, sN])|(refine rP rfl ?_;simp only [sS, sN])|(refine rP2 rfl ?_;simp only [sS, sN]))
    refine reach_draw goodFG (by first | kernel_rfl | rfl) ?_
    simp only [List.size_toArray, List.length_cons, List.length_nil, Nat.reduceAdd, Nat.zero_add]
    co_applyP rT (i := 0) rfl (fun _ hu_ => run_eq_of ?u1_0) ?v1_0
    case u1_0 => intro K_ hK_;go_simp;(try rw [wI _]);(try rw [wU _]);exact hK_
    simp only [sS, sN]
    co_applyP rT (i := 1) rfl (fun _ hu_ => run_eq_of ?u1_1) ?v1_1
    case u1_1 => intro K_ hK_;go_simp;(try rw [wI _]);(try rw [wU _]);exact hK_
    simp only [sS, sN]
    co_applyP rT (i := 2) rfl (fun _ hu_ => run_eq_of ?u1_2) ?v1_2
    case u1_2 => intro K_ hK_;go_simp;(try rw [wI _]);(try rw [wU _]);exact hK_
    simp only [sS, sN]
    co_applyP rT (i := 3) rfl (fun _ hu_ => run_eq_of ?u2) ?v2
    case u2 => intro K_ hK_;(have hc := (Ext.twin hu_).cell e1);go_simp;(try rw [wI _]);(try rw [wU _]);exact hK_
    simp only [sS, sN]
    co_applyP rT (i := 4) rfl (fun _ hu_ => run_eq_of ?u3_4) ?v3_4
    case u3_4 => intro K_ hK_;go_simp;(try rw [wI _]);(try rw [wU _]);exact hK_
    simp only [sS, sN]
    co_applyP rT (i := 5) rfl (fun _ hu_ => run_eq_of ?u3_5) ?v3_5
    case u3_5 => intro K_ hK_;go_simp;(try rw [wI _]);(try rw [wU _]);exact hK_
    simp only [sS, sN]
    co_applyP rT (i := 6) rfl (fun _ hu_ => run_eq_of ?u3_6) ?v3_6
    case u3_6 => intro K_ hK_;go_simp;(try rw [wI _]);(try rw [wU _]);exact hK_
    simp only [sS, sN]
    co_applyP rT (i := 7) rfl (fun _ hu_ => run_eq_of ?u4) ?v4
    case u4 => intro K_ hK_;(have hc := (Ext.twin hu_).cell e2);go_simp;(try rw [wI _]);(try rw [wU _]);exact hK_
    simp only [sS, sN]
    co_applyP rT (i := 8) rfl (fun _ hu_ => run_eq_of ?u5) ?v5
    case u5 => intro K_ hK_;go_simp;(try rw [wI _]);(try rw [wU _]);exact hK_
    simp only [sS, sN]
    refine anyR_done (by first | kernel_rfl | decide +kernel) ?_ _
    repeat (first|refine rA ?_|refine rB ?_|refine rC ?_|refine rD ?_|(refine rR ?_;simp only [tO, Nat.reduceAdd])|refine rE ?_|(refine rO goodFG rfl ?_;intro _ hu_ K_ hK_;go_simp;(try rw [wI _]);(try rw [wU _]);refine hK_ _ ?_;clear hK_ K_ hu_;simp only [sS, sN])|(refine rP rfl ?_;simp only [sS, sN])|(refine rP2 rfl ?_;simp only [sS, sN]))
    (refine reach_cond (t := false) (by simp [Act.eval]) ?_; simp only [if_true, if_false, reduceIte, Bool.false_eq_true])
    repeat (first|refine rA ?_|refine rB ?_|refine rC ?_|refine rD ?_|(refine rR ?_;simp only [tO, Nat.reduceAdd])|refine rE ?_|(refine rO goodFG rfl ?_;intro _ hu_ K_ hK_;go_simp;(try rw [wI _]);(try rw [wU _]);refine hK_ _ ?_;clear hK_ K_ hu_;simp only [sS, sN])|(refine rP rfl ?_;simp only [sS, sN])|(refine rP2 rfl ?_;simp only [sS, sN]))
    refine next _ _ _ (L - (j + 1)) (by omega) ⟨j + 1, rfl, by omega, rfl, rfl, by simp [q0], by simp [q1], by simp⟩
  · obtain rfl : j = L := by omega
    (refine reach_cond (t := false) (by simp [Act.eval]) ?_; simp only [if_true, if_false, reduceIte, Bool.false_eq_true])
    refine reach_exit rfl ?_
    repeat (first|refine rA ?_|refine rB ?_|refine rC ?_|refine rD ?_|(refine rR ?_;simp only [tO, Nat.reduceAdd])|refine rE ?_|(refine rO goodFG rfl ?_;intro _ hu_ K_ hK_;go_simp;(try rw [wI _]);(try rw [wU _]);refine hK_ _ ?_;clear hK_ K_ hu_;simp only [sS, sN])|(refine rP rfl ?_;simp only [sS, sN])|(refine rP2 rfl ?_;simp only [sS, sN]))
    refine reach_ret fun todo => ?_
    refine ret _ _ _ _ (.bool true) ?_ ⟨rfl, rfl, rfl⟩
    simp [results, Tryd.results14]
set_option maxRecDepth 100000 in
set_option maxHeartbeats 2000000 in
theorem blankK_r (nd nb : Nat) (h1 : 14 ≤ nd) (h2 : nd ≤ 18) (hb1 : 4 ≤ nb) (hb2 : nb ≤ 13) :
    CallsR Tryd.prog 11 #[.int .i64 (nd : Nat), .int .i64 (nb : Nat)] S v fun x S' v' => S' = S ∧ Ext v v' ∧ ∃ g c, x = .slice (some ⟨g, 0, none⟩) nd c ∧ ∀ j, j < nd → v'.cell? ⟨g, j, none⟩ = some (.string (zs (nb * 96))) := by
  obtain ⟨is, zz, is1, is2, is3, is4, is5⟩ := infoStr
  refine callsR_body Tryd.func11 rfl Tryd.ntmps11 (by simp) fun Stop cc cs ret => ?_
  have g0 : argF #[.int .i64 (nd : Nat), .int .i64 (nb : Nat)] 0 = .int .i64 (nd : Nat) := rfl
  have g1 : argF #[.int .i64 (nd : Nat), .int .i64 (nb : Nat)] 1 = .int .i64 (nb : Nat) := rfl
  generalize argF #[.int .i64 (nd : Nat), .int .i64 (nb : Nat)] = f at g0 g1
  have hmul : (nb : Int) * 96 = ((nb * 96 : Nat) : Int) := by omega
  have hbb : nb * 96 ≤ 1248 := by omega
  generalize hm : nb * 96 = m at *
  repeat (first|refine rA ?_|refine rB ?_|refine rC ?_|refine rD ?_|(refine rR ?_;simp only [tO, Nat.reduceAdd])|refine rE ?_|(refine rO goodFG rfl ?_;intro _ hu_ K_ hK_;go_simp;(try rw [wI _]);(try rw [wU _]);refine hK_ _ ?_;clear hK_ K_ hu_;simp only [sS, sN])|(refine rP rfl ?_;simp only [sS, sN])|(refine rP2 rfl ?_;simp only [sS, sN]))
  refine reach_makeBytes goodFG rfl rfl (by kernel_rfl) rfl (m := m) (by simp) (by simp) (by omega) (by kernel_rfl) Tryd.underlying25 fun w1 hE1 hr1 hs1 => ?_
  simp only [stO_some]
  have hz1 : ∀ w, Ext w1 w → ∀ i, i < m → w.cell? ⟨v.heap.size, i, none⟩ = some (.int .u8 0) := fun w hE i hi => by
    rw [cell_of_row _ _ _ _ _ _ (hE.row hr1)]
    simp [hi]
  repeat (first|refine rA ?_|refine rB ?_|refine rC ?_|refine rD ?_|(refine rR ?_;simp only [tO, Nat.reduceAdd])|refine rE ?_|(refine rO goodFG rfl ?_;intro _ hu_ K_ hK_;go_simp;(try rw [wI _]);(try rw [wU _]);refine hK_ _ ?_;clear hK_ K_ hu_;simp only [sS, sN])|(refine rP rfl ?_;simp only [sS, sN])|(refine rP2 rfl ?_;simp only [sS, sN]))
  refine reach_rounds (fun d f' S' w => ∃ j ov, d = nd - j ∧ j ≤ nd ∧ S' = S ∧ (Ext w1 w ∧ w.ownsRow w1.heap.size 9 1 ov j (txts (fun _ => m) j)) ∧ f' 0 = .int .i64 (nd : Nat) ∧ f' 5 = .slice (some ⟨v.heap.size, 0, none⟩) m m ∧ f' 6 = ov ∧ f' 7 = .int .i64 (j : Nat)) nd ⟨0, .slice none 0 0, by omega, by omega, rfl, ⟨.refl _, World.ownsRow_nil _ _ _ _⟩, by simp [g0], by simp, by simp, by simp⟩ ?_
  clear g0 g1 f
  rintro d f S' w ⟨j, ov, rfl, hj, eS, ⟨hEw, how⟩, g0, g5, g6, g7⟩ nxt
  subst S'
  repeat (first|refine rA ?_|refine rB ?_|refine rC ?_|refine rD ?_|(refine rR ?_;simp only [tO, Nat.reduceAdd])|refine rE ?_|(refine rO goodFG rfl ?_;intro _ hu_ K_ hK_;go_simp;(try rw [wI _]);(try rw [wU _]);refine hK_ _ ?_;clear hK_ K_ hu_;simp only [sS, sN])|(refine rP rfl ?_;simp only [sS, sN])|(refine rP2 rfl ?_;simp only [sS, sN]))
  by_cases hlt : j < nd
  · have hjI : (j : Int) < (nd : Int) := by omega
    have hz := hz1 w hEw
    (refine reach_cond (t := true) (by simp [Act.eval, hlt]) ?_; simp only [if_true, if_false, reduceIte, Bool.false_eq_true])
    repeat (first|refine rA ?_|refine rB ?_|refine rC ?_|refine rD ?_|(refine rR ?_;simp only [tO, Nat.reduceAdd])|refine rE ?_|(refine rO goodFG rfl ?_;intro _ hu_ K_ hK_;(have kc := run_text (c := m) fun i hi => (Ext.twin hu_).cell (hz i hi));go_simp;(try rw [wI _]);(try rw [wU _]);refine hK_ _ ?_;clear hK_ K_ hu_;simp only [sS, sN])|(refine rP rfl ?_;simp only [sS, sN])|(refine rP2 rfl ?_;simp only [sS, sN]))
    refine reach_turnQ (Q := fun x w2 => x = .slice (some ⟨w.heap.size, 0, none⟩) 1 1 ∧ Ext w w2 ∧ w2.heap[w.heap.size]? = some (.cells #[.string (zs m)] 9)) goodFG rfl rfl (by kernel_rfl) (fun u hu => ⟨_, _, .inl (run_build1 (x := .tmp 18) (y := .string (zs m)) rfl Tryd.underlying23 is1 is2 is3 is5 (by simp) rfl u), by rw [hu.heap], (Ext.twin hu).trans _ _ _ (Ext.alloc _ _), by rw [← hu.heap]; exact alloc_at _ _⟩) ?_
    rintro _ w2 ⟨rfl, hE2, hr2⟩
    simp only [stO_some]
    have gw : Gr w w2 none := ⟨hE2.os, hE2.output, hE2.size, fun b hb _ => hE2.block b hb⟩
    have how2 := own_gr how gw (by simp)
    refine reach_turnQ goodFG rfl rfl (by kernel_rfl) (fun u hu => append_does (s := .tmp 16) (x := .tmp 19) (ad := ⟨w.heap.size, 0, none⟩) (m := 1) (c := 1) (news := [.string (zs m)]) hu w1.heap.size Tryd.underlying23 is1 is2 is3 is4 (by rw [is5]; rfl) how2 rfl (one_cellS hr2) (fun y hy => by rw [List.mem_singleton] at hy; subst hy; rfl) (by omega) (by omega) (Nat.le_trans hEw.size hE2.size) rfl (by simp [g6]) (by simp)) ?_
    rintro ov' w3 ⟨ho3, hg3, _⟩
    simp only [stO_some]
    have ho4 : w3.ownsRow w1.heap.size 9 1 ov' (j + 1) (txts (fun _ => m) (j + 1)) := by
      rw [← txts_succ]
      exact ho3
    have hE3 : Ext w1 w3 := Gr.over (hEw.trans _ _ _ hE2) hg3 fun b hb => own_base how2 hb
    repeat (first|refine rA ?_|refine rB ?_|refine rC ?_|refine rD ?_|(refine rR ?_;simp only [tO, Nat.reduceAdd])|refine rE ?_|(refine rO goodFG rfl ?_;intro _ hu_ K_ hK_;go_simp;(try rw [wI _]);(try rw [wU _]);refine hK_ _ ?_;clear hK_ K_ hu_;simp only [sS, sN])|(refine rP rfl ?_;simp only [sS, sN])|(refine rP2 rfl ?_;simp only [sS, sN]))
    refine nxt _ _ _ (nd - (j + 1)) (by omega) ⟨j + 1, ov', rfl, by omega, rfl, ⟨hE3, ho4⟩, by simp [g0], by simp [g5], by simp, by simp⟩
  · obtain rfl : j = nd := by omega
    obtain ⟨g, c, cur, q1, q2, q3, q4, q5, q6⟩ := own_some how (.inl (by omega))
    subst q1
    (refine reach_cond (t := false) (by simp [Act.eval, g7]) ?_; simp only [if_true, if_false, reduceIte, Bool.false_eq_true])
    refine reach_exit rfl ?_
    repeat (first|refine rA ?_|refine rB ?_|refine rC ?_|refine rD ?_|(refine rR ?_;simp only [tO, Nat.reduceAdd])|refine rE ?_|(refine rO goodFG rfl ?_;intro _ hu_ K_ hK_;go_simp;(try rw [wI _]);(try rw [wU _]);refine hK_ _ ?_;clear hK_ K_ hu_;simp only [sS, sN])|(refine rP rfl ?_;simp only [sS, sN])|(refine rP2 rfl ?_;simp only [sS, sN]))
    refine reach_ret fun todo => ?_
    refine ret _ _ S w (.slice (some ⟨g, 0, none⟩) j c) ?_ ⟨rfl, hE1.trans _ _ _ hEw, g, c, rfl, ?_⟩
    · simp [results, Tryd.results11]
    · intro i hi
      rw [cell_of_row _ _ _ _ _ _ q3, q6 i hi]
      simp [txts, hi]
theorem fstZ_const {L : Nat} (hL : 0 < L) : ∀ n, 0 < n → fstZ (fun _ => L) n = L
  | 0, h => by omega
  | 1, _ => by simp [fstZ]
  | n + 2, _ => by
    rw [fstZ_succ, fstZ_const hL (n + 1) (by omega)]
    simp
theorem okZ_const (L : Nat) : ∀ n, okZ (fun _ => L) n = true
  | 0 => rfl
  | n + 1 => by
    unfold okZ
    rw [okZ_const L n]
    by_cases h : L = 0
    · simp [h]
    · by_cases hn : 0 < n
      · rw [fstZ_const (by omega) n hn]
        simp
      · obtain rfl : n = 0 := by omega
        simp [fstZ]
/-- A store of blank disks. -/
theorem StE.blank {X D DB DA M : Nat} {RB RA : Nat → Nat} {nd nb : Nat} {r l : Value} {w : World} {left : Nat} (hl : left ≤ 1099511627776) (h : Sto X D DB M RB nd nb r l w) (hF : DkF D DB RB nd nb r l (left : Nat) w DA RA) : StE X D DB DA M RB RA nd nb 0 (fun _ _ _ => 0) [] w :=
  ⟨h.row, ⟨0, h.map, fun e he => by (cases he)⟩, ⟨⟨left, hl, by rw [hF.row, hF.er, hF.el]⟩, hF.db, hF.da, fun d hd => by rw [hF.rb d hd, zeros_bytes]; rfl, fun d hd => ⟨fun _ => 0, by rw [hF.ra d hd, zeros_bytes]⟩, hF.inj, hF.apart⟩, fun e he => by (cases he), List.nodup_nil, List.nodup_nil, List.nodup_nil⟩
set_option maxRecDepth 100000 in
set_option maxHeartbeats 2000000 in
theorem mounted_r (t : TypeId) (e : Value) (hg0 : v.cell? ⟨0, 0, none⟩ = some (.iface t e)) (nd nb g c : Nat) (h1 : 14 ≤ nd) (h2 : nd ≤ 18) (hb1 : 4 ≤ nb) (hb2 : nb ≤ 13) (hz : ∀ j, j < nd → v.cell? ⟨g, j, none⟩ = some (.string (zs (nb * 96)))) :
    CallsR Tryd.prog 10 #[.slice (some ⟨g, 0, none⟩) nd c, .int .i64 1099511627776] S v fun x S' v' => S' = S ∧ Ext v v' ∧ ∃ X D DB DA M RB RA, x = .pointer (some ⟨X, 0, none⟩) ∧ StE X D DB DA M RB RA nd nb 0 (fun _ _ _ => 0) [] v' ∧ ∀ b, SOwn X D M RB RA nd b → v.heap.size ≤ b := by
  obtain ⟨is, zz, is1, is2, is3, is4, is5⟩ := infoStr
  refine callsR_body Tryd.func10 rfl Tryd.ntmps10 (by simp) fun Stop cc cs ret => ?_
  have g0 : argF #[.slice (some ⟨g, 0, none⟩) nd c, .int .i64 1099511627776] 0 = .slice (some ⟨g, 0, none⟩) nd c := rfl
  have g1 : argF #[.slice (some ⟨g, 0, none⟩) nd c, .int .i64 1099511627776] 1 = .int .i64 1099511627776 := rfl
  generalize argF #[.slice (some ⟨g, 0, none⟩) nd c, .int .i64 1099511627776] = f at g0 g1
  repeat (first|refine rA ?_|refine rB ?_|refine rC ?_|refine rD ?_|(refine rR ?_;simp only [tO, Nat.reduceAdd])|refine rE ?_|(refine rO goodFG rfl ?_;intro _ hu_ K_ hK_;go_simp;(try rw [wI _]);(try rw [wU _]);refine hK_ _ ?_;clear hK_ K_ hu_;simp only [sS, sN])|(refine rP rfl ?_;simp only [sS, sN])|(refine rP2 rfl ?_;simp only [sS, sN]))
  refine reach_turnQ goodFG rfl rfl (by kernel_rfl) (fun u hu => grow_does (s := .tmp 8) (x := .tmp 9) (p := none) (n := 0) (cap := 0) (olds := []) (ad := ⟨g, 0, none⟩) (m := nd) (c := c) (news := txts (fun _ => nb * 96) nd) hu Tryd.underlying23 is1 is2 is3 is4 (by rw [is5]; rfl) (.inl ⟨rfl, rfl, rfl⟩) rfl (fun b h => by cases h) (by omega) (by simp [txts]) (fun j y hy => ?_) (fun y hy => ?_) (by unfold maxLen; omega) (by omega) rfl (by simp) (by simp [g0])) ?_
  · have hj : j < nd := by
      have := (List.getElem?_eq_some_iff.1 hy).1
      simpa [txts] using this
    rw [Addr.add_lit, Nat.zero_add, hz j hj]
    simp [txts, hj] at hy
    rw [hy]
  · simp [txts] at hy
    obtain ⟨_, _, rfl⟩ := hy
    rfl
  rintro y w1 ⟨ho, hE1⟩
  rw [Nat.zero_add, List.nil_append] at ho
  obtain ⟨g', c', cur, q1, _⟩ := own_some ho (.inl (by omega))
  subst q1
  simp only [stO_some]
  have hT := texts_of ho
  have hL : 0 < nb * 96 := by omega
  have hn := newGoodF_r (S := S) (v := w1) g' nd c' (nb * 96) (fun _ => nb * 96) 1099511627776 (fun _ => by omega) ⟨h1, h2, rfl, by omega, by omega, by omega⟩ hT ((oneLen_r g' nd c' (fun _ => nb * 96) (by omega) (fun _ => by omega) hT).mono fun x S' v' _ h => by
    rw [okZ_const, if_pos rfl, fstZ_const hL nd (by omega)] at h
    exact h)
  rw [show nb * 96 / 96 = nb by omega] at hn
  repeat (first|refine rA ?_|refine rB ?_|refine rC ?_|refine rD ?_|(refine rR ?_;simp only [tO, Nat.reduceAdd])|refine rE ?_|(refine rO goodFG rfl ?_;intro _ hu_ K_ hK_;go_simp;(try rw [wI _]);(try rw [wU _]);refine hK_ _ ?_;clear hK_ K_ hu_;simp only [sS, sN])|(refine rP rfl ?_;simp only [sS, sN])|(refine rP2 rfl ?_;simp only [sS, sN]))
  (refine reach_callR rfl (by first | rfl | simp [Region.wanted, yielded, TA_get, *]) rfl Tryd.func6 (by kernel_rfl) rfl (by simp [Act.eval, *]; try rfl) (mountGoodF_r (fun D DB RB r l w => ∃ DA RA, DkF D DB RB nd nb r l 1099511627776 w DA RA ∧ w1.heap.size ≤ D ∧ ∀ d, d < nd → w1.heap.size ≤ RB d ∧ w1.heap.size ≤ RA d) (fun D DB RB r l w w' ⟨DA, RA, h, q1, q2⟩ hE => ⟨DA, RA, h.ext hE, q1, q2⟩) t e (hE1.cell hg0) _ _ nd nb hb1 h1 h2 (by omega) hn) ?_)
  rintro _ S1 w2 _ ⟨e1, hE2, X, D, DB, M, RB, r, l, rfl, hSt, ⟨DA, RA, hF, q1, q2⟩, q3, q4⟩
  subst S1
  simp only [stO_some]
  repeat (first|refine rA ?_|refine rB ?_|refine rC ?_|refine rD ?_|(refine rR ?_;simp only [tO, Nat.reduceAdd])|refine rE ?_|(refine rO goodFG rfl ?_;intro _ hu_ K_ hK_;go_simp;(try rw [wI _]);(try rw [wU _]);refine hK_ _ ?_;clear hK_ K_ hu_;simp only [sS, sN])|(refine rP rfl ?_;simp only [sS, sN])|(refine rP2 rfl ?_;simp only [sS, sN]))
  (refine reach_cond (t := false) (by simp [Act.eval]) ?_; simp only [if_true, if_false, reduceIte, Bool.false_eq_true])
  repeat (first|refine rA ?_|refine rB ?_|refine rC ?_|refine rD ?_|(refine rR ?_;simp only [tO, Nat.reduceAdd])|refine rE ?_|(refine rO goodFG rfl ?_;intro _ hu_ K_ hK_;go_simp;(try rw [wI _]);(try rw [wU _]);refine hK_ _ ?_;clear hK_ K_ hu_;simp only [sS, sN])|(refine rP rfl ?_;simp only [sS, sN])|(refine rP2 rfl ?_;simp only [sS, sN]))
  refine reach_ret fun todo => ?_
  refine ret _ _ S w2 (.pointer (some ⟨X, 0, none⟩)) ?_ ⟨rfl, hE1.trans _ _ _ hE2, X, D, DB, DA, M, RB, RA, rfl, StE.blank (left := 1099511627776) (by omega) hSt hF, ?_⟩
  · simp [results, Tryd.results10]
  · have h0 := hE1.size
    rintro b (h | h | h | ⟨d, hd, h | h⟩)
    · omega
    · omega
    · omega
    · have := (q2 d hd).1
      omega
    · have := (q2 d hd).2
      omega
end
end Go.Proofs.YtpiefebngnlfoaaDoor
