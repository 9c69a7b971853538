/-
  slices.SortFunc of up to twelve, to its end; goodCount.
-/
import Derived.Test.YtpiefebngnlfoaaDoorMi
set_option linter.unusedVariables false
set_option linter.unusedSimpArgs false
namespace Go.Proofs.YtpiefebngnlfoaaDoor
open Go.RowKit Go.Conc Go.Vw
section
variable {w w' v : World} {S : Nat → Prop}
set_option maxRecDepth 100000 in
set_option maxHeartbeats 8000000 in
theorem len64N_r (n : Nat) (hn : n ≤ 12) : CallsR Tryd.prog 58 #[.int .u64 (n : Nat)] S v fun x S' v' => ∃ y, x = .int .i64 y ∧ S' = S ∧ v' = v := by
  refine callsR_body Tryd.func58 rfl Tryd.ntmps58 (by simp) fun Stop cc cs ret => ?_
  have g0 : argF #[.int .u64 (n : Nat)] 0 = .int .u64 (n : Nat) := rfl
  generalize argF #[.int .u64 (n : Nat)] = f at g0
  have key : ∀ (f' : Nat → Value) (todo : List Item), (∃ y, f' 2 = .int .i64 y) → Vw.Reach Tryd.prog Stop (G { (base 58).at ⟨TA 25 f', []⟩ todo with mode := .returning } (cc :: cs)) S v := fun f' todo ⟨y, h⟩ => ret f' todo S v (.int .i64 y) (by simp [results, Tryd.results58, h]) ⟨y, rfl, rfl, rfl⟩
  clear ret
  rcases (by omega : n = 0 ∨ n = 1 ∨ n = 2 ∨ n = 3 ∨ n = 4 ∨ n = 5 ∨ n = 6 ∨ n = 7 ∨ n = 8 ∨ n = 9 ∨ n = 10 ∨ n = 11 ∨ n = 12) with rfl | rfl | rfl | rfl | rfl | rfl | rfl | rfl | rfl | rfl | rfl | rfl | rfl
  all_goals
    repeat (first|refine rA ?_|refine rB ?_|refine rC ?_|refine rD ?_|(refine rR ?_;simp only [tO, Nat.reduceAdd])|refine rE ?_|(refine rO goodFG rfl ?_;intro _ hu_ K_ hK_;go_simp;(try rw [wI _]);(try rw [wU _]);refine hK_ _ ?_;clear hK_ K_ hu_;simp only [sS, sN])|(refine rP rfl ?_;simp only [sS, sN])|(refine rP2 rfl ?_;simp only [sS, sN]))
    (refine reach_cond (t := false) (by simp [Act.eval]) ?_; simp only [if_true, if_false, reduceIte, Bool.false_eq_true])
    repeat (first|refine rA ?_|refine rB ?_|refine rC ?_|refine rD ?_|(refine rR ?_;simp only [tO, Nat.reduceAdd])|refine rE ?_|(refine rO goodFG rfl ?_;intro _ hu_ K_ hK_;go_simp;(try rw [wI _]);(try rw [wU _]);refine hK_ _ ?_;clear hK_ K_ hu_;simp only [sS, sN])|(refine rP rfl ?_;simp only [sS, sN])|(refine rP2 rfl ?_;simp only [sS, sN]))
    (refine reach_cond (t := false) (by simp [Act.eval]) ?_; simp only [if_true, if_false, reduceIte, Bool.false_eq_true])
    repeat (first|refine rA ?_|refine rB ?_|refine rC ?_|refine rD ?_|(refine rR ?_;simp only [tO, Nat.reduceAdd])|refine rE ?_|(refine rO goodFG rfl ?_;intro _ hu_ K_ hK_;go_simp;(try rw [wI _]);(try rw [wU _]);refine hK_ _ ?_;clear hK_ K_ hu_;simp only [sS, sN])|(refine rP rfl ?_;simp only [sS, sN])|(refine rP2 rfl ?_;simp only [sS, sN]))
    (refine reach_cond (t := false) (by simp [Act.eval]) ?_; simp only [if_true, if_false, reduceIte, Bool.false_eq_true])
    repeat (first|refine rA ?_|refine rB ?_|refine rC ?_|refine rD ?_|(refine rR ?_;simp only [tO, Nat.reduceAdd])|refine rE ?_|(refine rO goodFG rfl ?_;intro _ hu_ K_ hK_;go_simp;(try rw [wI _]);(try rw [wU _]);refine hK_ _ ?_;clear hK_ K_ hu_;simp only [sS, sN])|(refine rP rfl ?_;simp only [sS, sN])|(refine rP2 rfl ?_;simp only [sS, sN]))
    refine reach_ret fun todo => ?_
    exact key _ _ ⟨_, rfl⟩
set_option maxRecDepth 100000 in
theorem blenN_r (n : Nat) (hn : n ≤ 12) : CallsR Tryd.prog 37 #[.int .u64 (n : Nat)] S v fun x S' v' => ∃ y, x = .int .i64 y ∧ S' = S ∧ v' = v := by
  refine callsR_body Tryd.func37 rfl Tryd.ntmps37 (by simp) fun Stop cc cs ret => ?_
  have g0 : argF #[.int .u64 (n : Nat)] 0 = .int .u64 (n : Nat) := rfl
  generalize argF #[.int .u64 (n : Nat)] = f at g0
  repeat (first|refine rA ?_|refine rB ?_|refine rC ?_|refine rD ?_|(refine rR ?_;simp only [tO, Nat.reduceAdd])|refine rE ?_|(refine rO goodFG rfl ?_;intro _ hu_ K_ hK_;go_simp;(try rw [wI _]);(try rw [wU _]);refine hK_ _ ?_;clear hK_ K_ hu_;simp only [sS, sN])|(refine rP rfl ?_;simp only [sS, sN])|(refine rP2 rfl ?_;simp only [sS, sN]))
  (refine reach_cond (t := false) (by simp [Act.eval]) ?_; simp only [if_true, if_false, reduceIte, Bool.false_eq_true])
  repeat (first|refine rA ?_|refine rB ?_|refine rC ?_|refine rD ?_|(refine rR ?_;simp only [tO, Nat.reduceAdd])|refine rE ?_|(refine rO goodFG rfl ?_;intro _ hu_ K_ hK_;go_simp;(try rw [wI _]);(try rw [wU _]);refine hK_ _ ?_;clear hK_ K_ hu_;simp only [sS, sN])|(refine rP rfl ?_;simp only [sS, sN])|(refine rP2 rfl ?_;simp only [sS, sN]))
  (refine reach_callR rfl (by first | rfl | simp [Region.wanted, yielded, TA_get, *]) rfl Tryd.func58 (by kernel_rfl) rfl (by simp [Act.eval, *]; try rfl) (len64N_r n hn) ?_)
  rintro _ S1 w1 _ ⟨y, rfl, e1, e2⟩
  subst S1 w1
  simp only [stO_some]
  repeat (first|refine rA ?_|refine rB ?_|refine rC ?_|refine rD ?_|(refine rR ?_;simp only [tO, Nat.reduceAdd])|refine rE ?_|(refine rO goodFG rfl ?_;intro _ hu_ K_ hK_;go_simp;(try rw [wI _]);(try rw [wU _]);refine hK_ _ ?_;clear hK_ K_ hu_;simp only [sS, sN])|(refine rP rfl ?_;simp only [sS, sN])|(refine rP2 rfl ?_;simp only [sS, sN]))
  refine reach_ret fun todo => ?_
  refine ret _ _ S v (.int .i64 y) ?_ ⟨y, rfl, rfl, rfl⟩
  simp [results, Tryd.results37]
/-- What the sort makes of a row. -/
def SortQ (n N g : Nat) (h0 : Nat → Hl) (S : Nat → Prop) (v : World) (x : Value) (S' : Nat → Prop) (v' : World) : Prop := x = .tuple #[] ∧ S' = S ∧ ∃ h, SortI n N g v h0 h 0 v' ∧ ∀ a b, a < b → b < n → (h a).id ≤ (h b).id
set_option maxRecDepth 100000 in
set_option maxHeartbeats 1000000 in
theorem pdqN_r (l : Value) (g n cap N : Nat) (h0 : Nat → Hl) (hnc : n ≤ cap) (hn : n ≤ 12) (hnN : n ≤ N) (hg : v.heap[g]? = some (.cells (hA N h0) 41)) :
    CallsR Tryd.prog 36 #[.slice (some ⟨g, 0, none⟩) n cap, .int .i64 0, .int .i64 (n : Nat), l, .func (.func 22) #[] #[]] S v (SortQ n N g h0 S v) := by
  refine callsR_body Tryd.func36 rfl Tryd.ntmps36 (by simp) fun Stop cc cs ret => ?_
  have g0 : argF #[.slice (some ⟨g, 0, none⟩) n cap, .int .i64 0, .int .i64 (n : Nat), l, .func (.func 22) #[] #[]] 0 = .slice (some ⟨g, 0, none⟩) n cap := rfl
  have g1 : argF #[.slice (some ⟨g, 0, none⟩) n cap, .int .i64 0, .int .i64 (n : Nat), l, .func (.func 22) #[] #[]] 1 = .int .i64 0 := rfl
  have g2 : argF #[.slice (some ⟨g, 0, none⟩) n cap, .int .i64 0, .int .i64 (n : Nat), l, .func (.func 22) #[] #[]] 2 = .int .i64 (n : Nat) := rfl
  have g4 : argF #[.slice (some ⟨g, 0, none⟩) n cap, .int .i64 0, .int .i64 (n : Nat), l, .func (.func 22) #[] #[]] 4 = .func (.func 22) #[] #[] := rfl
  generalize argF #[.slice (some ⟨g, 0, none⟩) n cap, .int .i64 0, .int .i64 (n : Nat), l, .func (.func 22) #[] #[]] = f at g0 g1 g2 g4
  repeat (first|refine rA ?_|refine rB ?_|refine rC ?_|refine rD ?_|(refine rR ?_;simp only [tO, Nat.reduceAdd])|refine rE ?_|(refine rO goodFG rfl ?_;intro _ hu_ K_ hK_;go_simp;(try rw [wI _]);(try rw [wU _]);refine hK_ _ ?_;clear hK_ K_ hu_;simp only [sS, sN])|(refine rP rfl ?_;simp only [sS, sN])|(refine rP2 rfl ?_;simp only [sS, sN]))
  refine reach_rounds (fun d f' S' w => S' = S ∧ w = v ∧ f' 0 = .slice (some ⟨g, 0, none⟩) n cap ∧ f' 1 = .int .i64 0 ∧ f' 2 = .int .i64 (n : Nat) ∧ f' 4 = .func (.func 22) #[] #[]) 0 ⟨rfl, rfl, by simp [g0], by simp [g1], by simp [g2], by simp [g4]⟩ ?_
  clear g0 g1 g2 g4 f
  rintro d f S' w ⟨eS, eW, g0, g1, g2, g4⟩ nxt
  subst S' w
  have hnI : (n : Int) ≤ 12 := by omega
  repeat (first|refine rA ?_|refine rB ?_|refine rC ?_|refine rD ?_|(refine rR ?_;simp only [tO, Nat.reduceAdd])|refine rE ?_|(refine rO goodFG rfl ?_;intro _ hu_ K_ hK_;go_simp;(try rw [wI _]);(try rw [wU _]);refine hK_ _ ?_;clear hK_ K_ hu_;simp only [sS, sN])|(refine rP rfl ?_;simp only [sS, sN])|(refine rP2 rfl ?_;simp only [sS, sN]))
  (refine reach_cond (t := true) (by simp [Act.eval, hnI]) ?_; simp only [if_true, if_false, reduceIte, Bool.false_eq_true])
  repeat (first|refine rA ?_|refine rB ?_|refine rC ?_|refine rD ?_|(refine rR ?_;simp only [tO, Nat.reduceAdd])|refine rE ?_|(refine rO goodFG rfl ?_;intro _ hu_ K_ hK_;go_simp;(try rw [wI _]);(try rw [wU _]);refine hK_ _ ?_;clear hK_ K_ hu_;simp only [sS, sN])|(refine rP rfl ?_;simp only [sS, sN])|(refine rP2 rfl ?_;simp only [sS, sN]))
  (refine reach_callR rfl (by first | rfl | simp [Region.wanted, yielded, TA_get, *]) rfl Tryd.func49 (by kernel_rfl) rfl (by simp [Act.eval, *]; try rfl) (insertion_r g n cap N h0 hnc hn hnN hg) ?_)
  rintro _ S1 w1 _ ⟨rfl, e1, hh⟩
  subst S1
  simp only [stO_some]
  repeat (first|refine rA ?_|refine rB ?_|refine rC ?_|refine rD ?_|(refine rR ?_;simp only [tO, Nat.reduceAdd])|refine rE ?_|(refine rO goodFG rfl ?_;intro _ hu_ K_ hK_;go_simp;(try rw [wI _]);(try rw [wU _]);refine hK_ _ ?_;clear hK_ K_ hu_;simp only [sS, sN])|(refine rP rfl ?_;simp only [sS, sN])|(refine rP2 rfl ?_;simp only [sS, sN]))
  refine reach_ret fun todo => ?_
  refine ret _ _ S w1 (.tuple #[]) ?_ ⟨rfl, rfl, hh⟩
  simp [results, Tryd.results36]
set_option maxRecDepth 100000 in
theorem sortN_r (g n cap N : Nat) (h0 : Nat → Hl) (hnc : n ≤ cap) (hn : n ≤ 12) (hnN : n ≤ N) (hg : v.heap[g]? = some (.cells (hA N h0) 41)) :
    CallsR Tryd.prog 21 #[.slice (some ⟨g, 0, none⟩) n cap, .func (.func 22) #[] #[]] S v (SortQ n N g h0 S v) := by
  refine callsR_body Tryd.func21 rfl Tryd.ntmps21 (by simp) fun Stop cc cs ret => ?_
  have g0 : argF #[.slice (some ⟨g, 0, none⟩) n cap, .func (.func 22) #[] #[]] 0 = .slice (some ⟨g, 0, none⟩) n cap := rfl
  have g1 : argF #[.slice (some ⟨g, 0, none⟩) n cap, .func (.func 22) #[] #[]] 1 = .func (.func 22) #[] #[] := rfl
  generalize argF #[.slice (some ⟨g, 0, none⟩) n cap, .func (.func 22) #[] #[]] = f at g0 g1
  have hw1 : IntKind.u64.wrap (n : Int) = (n : Int) := by rw [IntKind.wrap_u64]; omega
  repeat (first|refine rA ?_|refine rB ?_|refine rC ?_|refine rD ?_|(refine rR ?_;simp only [tO, Nat.reduceAdd])|refine rE ?_|(refine rO goodFG rfl ?_;intro _ hu_ K_ hK_;go_simp;(try rw [wI _]);(try rw [wU _]);refine hK_ _ ?_;clear hK_ K_ hu_;simp only [sS, sN])|(refine rP rfl ?_;simp only [sS, sN])|(refine rP2 rfl ?_;simp only [sS, sN]))
  (refine reach_callR rfl (by first | rfl | simp [Region.wanted, yielded, TA_get, *]) rfl Tryd.func37 (by kernel_rfl) rfl (by simp [Act.eval, *]; try rfl) (blenN_r n hn) ?_)
  rintro _ S1 w1 _ ⟨y, rfl, e1, e2⟩
  subst S1 w1
  simp only [stO_some]
  repeat (first|refine rA ?_|refine rB ?_|refine rC ?_|refine rD ?_|(refine rR ?_;simp only [tO, Nat.reduceAdd])|refine rE ?_|(refine rO goodFG rfl ?_;intro _ hu_ K_ hK_;go_simp;(try rw [wI _]);(try rw [wU _]);refine hK_ _ ?_;clear hK_ K_ hu_;simp only [sS, sN])|(refine rP rfl ?_;simp only [sS, sN])|(refine rP2 rfl ?_;simp only [sS, sN]))
  (refine reach_callR rfl (by first | rfl | simp [Region.wanted, yielded, TA_get, *]) rfl Tryd.func36 (by kernel_rfl) rfl (by simp [Act.eval, *]; try rfl) (pdqN_r (.int .i64 y) g n cap N h0 hnc hn hnN hg) ?_)
  rintro _ S1 w1 _ ⟨rfl, e1, hh⟩
  subst S1
  simp only [stO_some]
  repeat (first|refine rA ?_|refine rB ?_|refine rC ?_|refine rD ?_|(refine rR ?_;simp only [tO, Nat.reduceAdd])|refine rE ?_|(refine rO goodFG rfl ?_;intro _ hu_ K_ hK_;go_simp;(try rw [wI _]);(try rw [wU _]);refine hK_ _ ?_;clear hK_ K_ hu_;simp only [sS, sN])|(refine rP rfl ?_;simp only [sS, sN])|(refine rP2 rfl ?_;simp only [sS, sN]))
  refine reach_end ?_
  refine ret _ _ S w1 (.tuple #[]) ?_ ⟨rfl, rfl, hh⟩
  simp [results, Tryd.results21]
set_option maxRecDepth 100000 in
set_option maxHeartbeats 1000000 in
theorem goodCount_r (e : Ent) : CallsR Tryd.prog 20 #[.agg (keptA e)] S v fun x S' v' => x = .int .i64 14 ∧ S' = S ∧ Ext v v' := by
  refine callsR_body Tryd.func20 rfl Tryd.ntmps20 (by simp) fun Stop cc cs ret => ?_
  have g0 : argF #[.agg (keptA e)] 0 = .agg (keptA e) := rfl
  generalize argF #[.agg (keptA e)] = f at g0
  repeat (first|refine rA ?_|refine rB ?_|refine rC ?_|refine rD ?_|(refine rR ?_;simp only [tO, Nat.reduceAdd])|refine rE ?_|(refine rO goodFG rfl ?_;intro _ hu_ K_ hK_;go_simp;(try rw [wI _]);(try rw [wU _]);refine hK_ _ ?_;clear hK_ K_ hu_;simp only [sS, sN])|(refine rP rfl ?_;simp only [sS, sN])|(refine rP2 rfl ?_;simp only [sS, sN]))
  refine reach_turnQ (Q := fun y w => y = .pointer (some ⟨v.heap.size, 0, none⟩) ∧ Ext v w ∧ w.heap[v.heap.size]? = some (.cells (keptA e) 56)) goodFG rfl rfl (by kernel_rfl) (fun u hu => ⟨_, _, .inl (run_box (x := .tmp 0) (y := .agg (keptA e)) rfl (by simp [g0]) u), by rw [hu.heap], (Ext.twin hu).trans _ _ _ (Ext.alloc _ _), by rw [← hu.heap]; exact alloc_at _ _⟩) ?_
  rintro _ w1 ⟨rfl, hE1, hb1⟩
  simp only [stO_some]
  repeat (first|refine rA ?_|refine rB ?_|refine rC ?_|refine rD ?_|(refine rR ?_;simp only [tO, Nat.reduceAdd])|refine rE ?_|(refine rO goodFG rfl ?_;intro _ hu_ K_ hK_;go_simp;(try rw [wI _]);(try rw [wU _]);refine hK_ _ ?_;clear hK_ K_ hu_;simp only [sS, sN])|(refine rP rfl ?_;simp only [sS, sN])|(refine rP2 rfl ?_;simp only [sS, sN]))
  refine reach_still goodFG rfl rfl (by kernel_rfl) (fun u hu => keptV_good (b := v.heap.size) ((Ext.twin hu).row hb1) (x := .tmp 6) rfl (by simp)) ?_
  simp only [stO_some]
  repeat (first|refine rA ?_|refine rB ?_|refine rC ?_|refine rD ?_|(refine rR ?_;simp only [tO, Nat.reduceAdd])|refine rE ?_|(refine rO goodFG rfl ?_;intro _ hu_ K_ hK_;go_simp;(try rw [wI _]);(try rw [wU _]);refine hK_ _ ?_;clear hK_ K_ hu_;simp only [sS, sN])|(refine rP rfl ?_;simp only [sS, sN])|(refine rP2 rfl ?_;simp only [sS, sN]))
  refine reach_rounds (fun d f' S' w => ∃ k, d = 14 - k ∧ k ≤ 14 ∧ S' = S ∧ w = w1 ∧ f' 3 = .int .i64 (k : Nat) ∧ f' 7 = .agg yes14 ∧ f' 8 = .int .i64 (k : Nat)) 14 ⟨0, by omega, by omega, rfl, rfl, by simp, by simp, by simp⟩ ?_
  clear g0 f
  rintro d f S' w ⟨k, rfl, hk, eS, eW, g3, g7, g8⟩ nxt
  subst S' w
  repeat (first|refine rA ?_|refine rB ?_|refine rC ?_|refine rD ?_|(refine rR ?_;simp only [tO, Nat.reduceAdd])|refine rE ?_|(refine rO goodFG rfl ?_;intro _ hu_ K_ hK_;go_simp;(try rw [wI _]);(try rw [wU _]);refine hK_ _ ?_;clear hK_ K_ hu_;simp only [sS, sN])|(refine rP rfl ?_;simp only [sS, sN])|(refine rP2 rfl ?_;simp only [sS, sN]))
  by_cases hlt : k < 14
  · have hkI : (k : Int) < 14 := by omega
    (refine reach_cond (t := true) (by simp [Act.eval, hkI]) ?_; simp only [if_true, if_false, reduceIte, Bool.false_eq_true])
    repeat (first|refine rA ?_|refine rB ?_|refine rC ?_|refine rD ?_|(refine rR ?_;simp only [tO, Nat.reduceAdd])|refine rE ?_|(refine rO goodFG rfl ?_;intro _ hu_ K_ hK_;go_simp;(try rw [wI _]);(try rw [wU _]);refine hK_ _ ?_;clear hK_ K_ hu_;simp only [sS, sN])|(refine rP rfl ?_;simp only [sS, sN])|(refine rP2 rfl ?_;simp only [sS, sN]))
    refine reach_still goodFG rfl rfl (by kernel_rfl) (fun u hu => run_indexY hlt (x := .tmp 7) (y := .tmp 8) rfl (by simp [g7]) (by simp [g8])) ?_
    simp only [stO_some]
    repeat (first|refine rA ?_|refine rB ?_|refine rC ?_|refine rD ?_|(refine rR ?_;simp only [tO, Nat.reduceAdd])|refine rE ?_|(refine rO goodFG rfl ?_;intro _ hu_ K_ hK_;go_simp;(try rw [wI _]);(try rw [wU _]);refine hK_ _ ?_;clear hK_ K_ hu_;simp only [sS, sN])|(refine rP rfl ?_;simp only [sS, sN])|(refine rP2 rfl ?_;simp only [sS, sN]))
    (refine reach_cond (t := true) (by simp [Act.eval]) ?_; simp only [if_true, if_false, reduceIte, Bool.false_eq_true])
    repeat (first|refine rA ?_|refine rB ?_|refine rC ?_|refine rD ?_|(refine rR ?_;simp only [tO, Nat.reduceAdd])|refine rE ?_|(refine rO goodFG rfl ?_;intro _ hu_ K_ hK_;go_simp;(try rw [wI _]);(try rw [wU _]);refine hK_ _ ?_;clear hK_ K_ hu_;simp only [sS, sN])|(refine rP rfl ?_;simp only [sS, sN])|(refine rP2 rfl ?_;simp only [sS, sN]))
    refine nxt _ _ _ (14 - (k + 1)) (by omega) ⟨k + 1, rfl, by omega, rfl, rfl, by simp, by simp [g7], by simp⟩
  · obtain rfl : k = 14 := by omega
    (refine reach_cond (t := false) (by simp [Act.eval]) ?_; simp only [if_true, if_false, reduceIte, Bool.false_eq_true])
    refine reach_exit rfl ?_
    repeat (first|refine rA ?_|refine rB ?_|refine rC ?_|refine rD ?_|(refine rR ?_;simp only [tO, Nat.reduceAdd])|refine rE ?_|(refine rO goodFG rfl ?_;intro _ hu_ K_ hK_;go_simp;(try rw [wI _]);(try rw [wU _]);refine hK_ _ ?_;clear hK_ K_ hu_;simp only [sS, sN])|(refine rP rfl ?_;simp only [sS, sN])|(refine rP2 rfl ?_;simp only [sS, sN]))
    refine reach_ret fun todo => ?_
    refine ret _ _ S w1 (.int .i64 14) ?_ ⟨rfl, rfl, hE1⟩
    simp [results, Tryd.results20]
end
end Go.Proofs.YtpiefebngnlfoaaDoor
