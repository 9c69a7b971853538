/-
  slices.SortFunc of up to twelve, on.
-/
import Derived.Test.YtpiefebngnlfoaaDoorMh
set_option linter.unusedVariables false
set_option linter.unusedSimpArgs false
namespace Go.Proofs.YtpiefebngnlfoaaDoor
open Go.RowKit Go.Conc Go.Vw
section
variable {w w' v : World} {S : Nat → Prop}
set_option maxRecDepth 100000 in
set_option maxHeartbeats 8000000 in
/-- Two change places. -/
theorem ins_swap {f : Nat → Value} {Stop : Goroutine → (Nat → Prop) → World → Prop} {cs : List Frame} {k0 : List Item} (g n cap N j : Nat) (h : Nat → Hl) (hj : 0 < j) (hjn : j < n) (hnc : n ≤ cap) (hn : n ≤ 12) (hnN : n ≤ N) (hg : w.heap[g]? = some (.cells (hA N h) 41))
    (g0 : f 0 = .slice (some ⟨g, 0, none⟩) n cap) (g9 : f 9 = .int .i64 (j : Nat))
    (next : ∀ w1 w2 f', Wr w g (.cells (hA N (updH h j (h (j - 1)))) 41) w1 → Wr w1 g (.cells (hA N (swH h j)) 41) w2 → (∀ s, s < 18 → f' s = f s) → Vw.Reach Tryd.prog Stop (G ((base 49).at ⟨TA 53 f', []⟩ (.inRegion ((opsAt 6 (Tryd.f49.body.getD .skip)).getD #[]) [] :: k0)) cs) S w2) :
    Vw.Reach Tryd.prog Stop (G ((base 49).at ⟨TA 53 f, []⟩ (.code (.region 6 ((opsAt 6 (Tryd.f49.body.getD .skip)).getD #[]) true) :: k0)) cs) S w := by
  have e : opsAt 6 (Tryd.f49.body.getD .skip) = some _ := rfl
  rw [e] at next ⊢
  simp only [Option.getD_some] at next ⊢
  clear e
  obtain ⟨i, rfl⟩ : ∃ i, j = i + 1 := ⟨j - 1, by omega⟩
  have hjI : ((i + 1 : Nat) : Int) < (n : Int) := by omega
  have hiI : ((i : Nat) : Int) < (n : Int) := by omega
  have hcast : ((i + 1 : Nat) : Int) - 1 = ((i : Nat) : Int) := by omega
  rw [Nat.add_sub_cancel] at next
  unfold swH at next
  rw [Nat.add_sub_cancel] at next
  generalize hj1 : i + 1 = j at *
  refine reach_drawW (fun i => decide (i < 15)) goodFG (by first | kernel_rfl | rfl) ?_
  simp only [List.size_toArray, List.length_cons, List.length_nil, Nat.reduceAdd, Nat.zero_add]
  co_applyP anyW_free (i := 0) rfl (by first | kernel_rfl | decide +kernel) (by first | kernel_rfl | decide +kernel) (by first | kernel_rfl | decide +kernel) (by first | rfl | (simp [Region.wanted, yielded, TA_get, *]; done)) (by kernel_rfl) (fun _ => run_eq_of ?run1_0) ?rest1_0
  case run1_0 =>
    intro K_ hK_
    (skip)
    go_simp
    (try rw [wrapI _ (by omega) (by omega)])
    exact hK_
  simp only [stO_some, stO_none]
  co_applyP anyW_free (i := 1) rfl (by first | kernel_rfl | decide +kernel) (by first | kernel_rfl | decide +kernel) (by first | kernel_rfl | decide +kernel) (by first | rfl | (simp [Region.wanted, yielded, TA_get, *]; done)) (by kernel_rfl) (fun _ => run_eq_of ?run1_1) ?rest1_1
  case run1_1 =>
    intro K_ hK_
    (skip)
    go_simp
    (try rw [wrapI _ (by omega) (by omega)])
    exact hK_
  simp only [stO_some, stO_none]
  co_applyP anyW_free (i := 2) rfl (by first | kernel_rfl | decide +kernel) (by first | kernel_rfl | decide +kernel) (by first | kernel_rfl | decide +kernel) (by first | rfl | (simp [Region.wanted, yielded, TA_get, *]; done)) (by kernel_rfl) (fun _ => run_eq_of ?run1_2) ?rest1_2
  case run1_2 =>
    intro K_ hK_
    (skip)
    go_simp
    (try rw [wrapI _ (by omega) (by omega)])
    exact hK_
  simp only [stO_some, stO_none]
  co_applyP anyW_free (i := 3) rfl (by first | kernel_rfl | decide +kernel) (by first | kernel_rfl | decide +kernel) (by first | kernel_rfl | decide +kernel) (by first | rfl | (simp [Region.wanted, yielded, TA_get, *]; done)) (by kernel_rfl) (fun _ => run_eq_of ?run1_3) ?rest1_3
  case run1_3 =>
    intro K_ hK_
    (skip)
    go_simp
    (try rw [wrapI _ (by omega) (by omega)])
    exact hK_
  simp only [stO_some, stO_none]
  co_applyP anyW_free (i := 4) rfl (by first | kernel_rfl | decide +kernel) (by first | kernel_rfl | decide +kernel) (by first | kernel_rfl | decide +kernel) (by first | rfl | (simp [Region.wanted, yielded, TA_get, *]; done)) (by kernel_rfl) (fun _ => run_eq_of ?run1_4) ?rest1_4
  case run1_4 =>
    intro K_ hK_
    (skip)
    go_simp
    (try rw [wrapI _ (by omega) (by omega)])
    exact hK_
  simp only [stO_some, stO_none]
  co_applyP anyW_free (i := 5) rfl (by first | kernel_rfl | decide +kernel) (by first | kernel_rfl | decide +kernel) (by first | kernel_rfl | decide +kernel) (by first | rfl | (simp [Region.wanted, yielded, TA_get, *]; done)) (by kernel_rfl) (fun _ => run_eq_of ?run2_5) ?rest2_5
  case run2_5 =>
    intro K_ hK_
    (skip)
    go_simp
    (try rw [wrapI _ (by omega) (by omega)])
    exact hK_
  simp only [stO_some, stO_none]
  co_applyP anyW_free (i := 6) rfl (by first | kernel_rfl | decide +kernel) (by first | kernel_rfl | decide +kernel) (by first | kernel_rfl | decide +kernel) (by first | rfl | (simp [Region.wanted, yielded, TA_get, *]; done)) (by kernel_rfl) (fun _ => run_eq_of ?run2_6) ?rest2_6
  case run2_6 =>
    intro K_ hK_
    (skip)
    go_simp
    (try rw [wrapI _ (by omega) (by omega)])
    exact hK_
  simp only [stO_some, stO_none]
  co_applyP anyW_free (i := 7) rfl (by first | kernel_rfl | decide +kernel) (by first | kernel_rfl | decide +kernel) (by first | kernel_rfl | decide +kernel) (by first | rfl | (simp [Region.wanted, yielded, TA_get, *]; done)) (by kernel_rfl) (fun _ => run_eq_of ?run2_7) ?rest2_7
  case run2_7 =>
    intro K_ hK_
    (skip)
    go_simp
    (try rw [wrapI _ (by omega) (by omega)])
    exact hK_
  simp only [stO_some, stO_none]
  co_applyP anyW_free (i := 8) rfl (by first | kernel_rfl | decide +kernel) (by first | kernel_rfl | decide +kernel) (by first | kernel_rfl | decide +kernel) (by first | rfl | (simp [Region.wanted, yielded, TA_get, *]; done)) (by kernel_rfl) (fun _ => run_eq_of ?run3_8) ?rest3_8
  case run3_8 =>
    intro K_ hK_
    (skip)
    go_simp
    (try rw [wrapI _ (by omega) (by omega)])
    exact hK_
  simp only [stO_some, stO_none]
  co_applyP anyW_quiet (i := 9) rfl (by first | kernel_rfl | decide +kernel) (by first | kernel_rfl | decide +kernel) (by first | kernel_rfl | decide +kernel) (by first | kernel_rfl | decide +kernel) rfl (by kernel_rfl) (fun u hu => run_loadH (x := .tmp 45) (b := g) (n := N) (j := i) rfl (by simp) ((Ext.twin hu).row hg) (by omega)) ?_
  simp only [stO_some]
  co_applyP anyW_free (i := 10) rfl (by first | kernel_rfl | decide +kernel) (by first | kernel_rfl | decide +kernel) (by first | kernel_rfl | decide +kernel) (by first | rfl | (simp [Region.wanted, yielded, TA_get, *]; done)) (by kernel_rfl) (fun _ => run_eq_of ?run4_10) ?rest4_10
  case run4_10 =>
    intro K_ hK_
    (skip)
    go_simp
    (try rw [wrapI _ (by omega) (by omega)])
    exact hK_
  simp only [stO_some, stO_none]
  co_applyP anyW_free (i := 11) rfl (by first | kernel_rfl | decide +kernel) (by first | kernel_rfl | decide +kernel) (by first | kernel_rfl | decide +kernel) (by first | rfl | (simp [Region.wanted, yielded, TA_get, *]; done)) (by kernel_rfl) (fun _ => run_eq_of ?run4_11) ?rest4_11
  case run4_11 =>
    intro K_ hK_
    (skip)
    go_simp
    (try rw [wrapI _ (by omega) (by omega)])
    exact hK_
  simp only [stO_some, stO_none]
  co_applyP anyW_free (i := 12) rfl (by first | kernel_rfl | decide +kernel) (by first | kernel_rfl | decide +kernel) (by first | kernel_rfl | decide +kernel) (by first | rfl | (simp [Region.wanted, yielded, TA_get, *]; done)) (by kernel_rfl) (fun _ => run_eq_of ?run4_12) ?rest4_12
  case run4_12 =>
    intro K_ hK_
    (skip)
    go_simp
    (try rw [wrapI _ (by omega) (by omega)])
    exact hK_
  simp only [stO_some, stO_none]
  co_applyP anyW_quiet (i := 13) rfl (by first | kernel_rfl | decide +kernel) (by first | kernel_rfl | decide +kernel) (by first | kernel_rfl | decide +kernel) (by first | kernel_rfl | decide +kernel) rfl (by kernel_rfl) (fun u hu => run_loadH (x := .tmp 49) (b := g) (n := N) (j := j) rfl (by simp) ((Ext.twin hu).row hg) (by omega)) ?_
  simp only [stO_some]
  co_applyP anyW_free (i := 14) rfl (by first | kernel_rfl | decide +kernel) (by first | kernel_rfl | decide +kernel) (by first | kernel_rfl | decide +kernel) (by first | rfl | (simp [Region.wanted, yielded, TA_get, *]; done)) (by kernel_rfl) (fun _ => run_eq_of ?run5_14) ?rest5_14
  case run5_14 =>
    intro K_ hK_
    (skip)
    go_simp
    (try rw [wrapI _ (by omega) (by omega)])
    exact hK_
  simp only [stO_some, stO_none]
  refine anyW_only (i := 15) (Q := fun x w1 => Wr w g (.cells (hA N (updH h j (h i))) 41) w1) rfl (by first | kernel_rfl | decide +kernel) rfl (by kernel_rfl) (fun u hu => storeH_does (x := .tmp 51) (y := .tmp 46) (j := j) (z := h i) hu hg (by omega) rfl (by simp) (by simp)) ?_ (by rfl)
  rintro x1 w1 hW1
  simp only [stO_none]
  co_applyP anyW_free (i := 16) rfl (by first | kernel_rfl | decide +kernel) (by first | kernel_rfl | decide +kernel) (by first | kernel_rfl | decide +kernel) (by first | rfl | (simp [Region.wanted, yielded, TA_get, *]; done)) (by kernel_rfl) (fun _ => run_eq_of ?run6_16) ?rest6_16
  case run6_16 =>
    intro K_ hK_
    (skip)
    go_simp
    (try rw [wrapI _ (by omega) (by omega)])
    exact hK_
  simp only [stO_some, stO_none]
  refine anyW_only (i := 17) (Q := fun x w2 => Wr w1 g (.cells (hA N (updH (updH h j (h i)) i (h j))) 41) w2) rfl (by first | kernel_rfl | decide +kernel) rfl (by kernel_rfl) (fun u hu => storeH_does (x := .tmp 52) (y := .tmp 50) (j := i) (z := h j) hu hW1.at_ (by omega) rfl (by simp) (by simp)) ?_ (by rfl)
  rintro x2 w2 hW2
  simp only [stO_none]
  refine anyW_done (by first | kernel_rfl | decide +kernel) ?_ _
  refine next w1 w2 _ hW1 hW2 fun s hs => ?_
  simp only [st]
  repeat rw [if_neg (by omega)]
/-- What is sorted. -/
structure SortI (n N g : Nat) (v : World) (h0 h : Nat → Hl) (i : Nat) (w : World) : Prop where
  kp : Kp v (fun b => b = g) w
  row : w.heap[g]? = some (.cells (hA N h) 41)
  perm : permH n h0 h
theorem SortI.ext {n N g i : Nat} {h0 h : Nat → Hl} (H : SortI n N g v h0 h i w) (hE : Ext w w') : SortI n N g v h0 h i w' := ⟨H.kp.ext hE, hE.row H.row, H.perm⟩
set_option maxRecDepth 100000 in
set_option maxHeartbeats 8000000 in
theorem insertion_r (g n cap N : Nat) (h0 : Nat → Hl) (hnc : n ≤ cap) (hn : n ≤ 12) (hnN : n ≤ N) (hg : v.heap[g]? = some (.cells (hA N h0) 41)) :
    CallsR Tryd.prog 49 #[.slice (some ⟨g, 0, none⟩) n cap, .int .i64 0, .int .i64 (n : Nat), .func (.func 22) #[] #[]] S v fun x S' v' => x = .tuple #[] ∧ S' = S ∧ ∃ h, SortI n N g v h0 h 0 v' ∧ ∀ a b, a < b → b < n → (h a).id ≤ (h b).id := by
  refine callsR_body Tryd.func49 rfl Tryd.ntmps49 (by simp) fun Stop cc cs ret => ?_
  have g0 : argF #[.slice (some ⟨g, 0, none⟩) n cap, .int .i64 0, .int .i64 (n : Nat), .func (.func 22) #[] #[]] 0 = .slice (some ⟨g, 0, none⟩) n cap := rfl
  have g1 : argF #[.slice (some ⟨g, 0, none⟩) n cap, .int .i64 0, .int .i64 (n : Nat), .func (.func 22) #[] #[]] 1 = .int .i64 0 := rfl
  have g2 : argF #[.slice (some ⟨g, 0, none⟩) n cap, .int .i64 0, .int .i64 (n : Nat), .func (.func 22) #[] #[]] 2 = .int .i64 (n : Nat) := rfl
  have g3 : argF #[.slice (some ⟨g, 0, none⟩) n cap, .int .i64 0, .int .i64 (n : Nat), .func (.func 22) #[] #[]] 3 = .func (.func 22) #[] #[] := rfl
  generalize argF #[.slice (some ⟨g, 0, none⟩) n cap, .int .i64 0, .int .i64 (n : Nat), .func (.func 22) #[] #[]] = f at g0 g1 g2 g3
  repeat (first|refine rA ?_|refine rB ?_|refine rC ?_|refine rD ?_|(refine rR ?_;simp only [tO, Nat.reduceAdd])|refine rE ?_|(refine rO goodFG rfl ?_;intro _ hu_ K_ hK_;go_simp;(try rw [wI _]);(try rw [wU _]);refine hK_ _ ?_;clear hK_ K_ hu_;simp only [sS, sN])|(refine rP rfl ?_;simp only [sS, sN])|(refine rP2 rfl ?_;simp only [sS, sN]))
  refine reach_rounds (fun d f' S' w => ∃ i h, d = n - i ∧ 1 ≤ i ∧ (i ≤ n ∨ i = 1) ∧ S' = S ∧ SortI n N g v h0 h i w ∧ (∀ a b, a < b → b < i → (h a).id ≤ (h b).id) ∧ f' 0 = .slice (some ⟨g, 0, none⟩) n cap ∧ f' 1 = .int .i64 0 ∧ f' 2 = .int .i64 (n : Nat) ∧ f' 3 = .func (.func 22) #[] #[] ∧ f' 8 = .int .i64 (i : Nat)) (n - 1) ⟨1, h0, rfl, by omega, .inr rfl, rfl, ⟨.refl _ _, hg, List.Perm.refl _⟩, fun a b h1 h2 => by omega, by simp [g0], by simp [g1], by simp [g2], by simp [g3], by simp⟩ ?_
  clear g0 g1 g2 g3 f
  rintro d f S' w ⟨i, h, rfl, hi1, hi2, eS, hI, hso, g0, g1, g2, g3, g8⟩ nxt
  subst S'
  repeat (first|refine rA ?_|refine rB ?_|refine rC ?_|refine rD ?_|(refine rR ?_;simp only [tO, Nat.reduceAdd])|refine rE ?_|(refine rO goodFG rfl ?_;intro _ hu_ K_ hK_;go_simp;(try rw [wI _]);(try rw [wU _]);refine hK_ _ ?_;clear hK_ K_ hu_;simp only [sS, sN])|(refine rP rfl ?_;simp only [sS, sN])|(refine rP2 rfl ?_;simp only [sS, sN]))
  by_cases hlt : i < n
  · have hltI : (i : Int) < (n : Int) := by omega
    (refine reach_cond (t := true) (by simp [Act.eval, hlt]) ?_; simp only [if_true, if_false, reduceIte, Bool.false_eq_true])
    repeat (first|refine rA ?_|refine rB ?_|refine rC ?_|refine rD ?_|(refine rR ?_;simp only [tO, Nat.reduceAdd])|refine rE ?_|(refine rO goodFG rfl ?_;intro _ hu_ K_ hK_;go_simp;(try rw [wI _]);(try rw [wU _]);refine hK_ _ ?_;clear hK_ K_ hu_;simp only [sS, sN])|(refine rP rfl ?_;simp only [sS, sN])|(refine rP2 rfl ?_;simp only [sS, sN]))
    refine reach_rounds (fun d f' S' w => ∃ j h, d = j ∧ j ≤ i ∧ S' = S ∧ SortI n N g v h0 h i w ∧ InsI i j h ∧ f' 0 = .slice (some ⟨g, 0, none⟩) n cap ∧ f' 1 = .int .i64 0 ∧ f' 2 = .int .i64 (n : Nat) ∧ f' 3 = .func (.func 22) #[] #[] ∧ f' 8 = .int .i64 (i : Nat) ∧ f' 9 = .int .i64 (j : Nat)) i ⟨i, h, rfl, by omega, rfl, hI, .start hso, by simp [g0], by simp [g1], by simp [g2], by simp [g3], by simp [g8], by simp⟩ ?_
    clear g0 g1 g2 g3 g8 f hI hso h w
    rintro d f S' w ⟨j, h, ed, hj, eS, hI, hN, g0, g1, g2, g3, g8, g9⟩ nxt2
    subst S'
    have out : ∀ f w, SortI n N g v h0 h i w → (j = 0 ∨ (h (j - 1)).id ≤ (h j).id) → f 0 = .slice (some ⟨g, 0, none⟩) n cap → f 1 = .int .i64 0 → f 2 = .int .i64 (n : Nat) → f 3 = .func (.func 22) #[] #[] → f 8 = .int .i64 (i : Nat) → ∃ i' h', n - (i + 1) = n - i' ∧ 1 ≤ i' ∧ (i' ≤ n ∨ i' = 1) ∧ S = S ∧ SortI n N g v h0 h' i' w ∧ (∀ a b, a < b → b < i' → (h' a).id ≤ (h' b).id) ∧ (st (st (st f 15 (.int .i64 (i : Nat))) 16 (.int .i64 ((i : Nat) + 1))) 8 (.int .i64 ((i : Nat) + 1))) 0 = .slice (some ⟨g, 0, none⟩) n cap ∧ (st (st (st f 15 (.int .i64 (i : Nat))) 16 (.int .i64 ((i : Nat) + 1))) 8 (.int .i64 ((i : Nat) + 1))) 1 = .int .i64 0 ∧ (st (st (st f 15 (.int .i64 (i : Nat))) 16 (.int .i64 ((i : Nat) + 1))) 8 (.int .i64 ((i : Nat) + 1))) 2 = .int .i64 (n : Nat) ∧ (st (st (st f 15 (.int .i64 (i : Nat))) 16 (.int .i64 ((i : Nat) + 1))) 8 (.int .i64 ((i : Nat) + 1))) 3 = .func (.func 22) #[] #[] ∧ (st (st (st f 15 (.int .i64 (i : Nat))) 16 (.int .i64 ((i : Nat) + 1))) 8 (.int .i64 ((i : Nat) + 1))) 8 = .int .i64 (i' : Nat) := fun f w hI' ho q0 q1 q2 q3 q8 => ⟨i + 1, h, rfl, by omega, .inl (by omega), rfl, ⟨hI'.kp, hI'.row, hI'.perm⟩, hN.done ho hj, by simp [q0], by simp [q1], by simp [q2], by simp [q3], by simp⟩
    by_cases hj0 : j = 0
    · subst j
      repeat (first|refine rA ?_|refine rB ?_|refine rC ?_|refine rD ?_|(refine rR ?_;simp only [tO, Nat.reduceAdd])|refine rE ?_|(refine rO goodFG rfl ?_;intro _ hu_ K_ hK_;go_simp;(try rw [wI _]);(try rw [wU _]);refine hK_ _ ?_;clear hK_ K_ hu_;simp only [sS, sN])|(refine rP rfl ?_;simp only [sS, sN])|(refine rP2 rfl ?_;simp only [sS, sN]))
      refine reach_draw goodFG (by first | kernel_rfl | rfl) ?_
      simp only [List.size_toArray, List.length_cons, List.length_nil, Nat.reduceAdd, Nat.zero_add]
      co_applyP rT (i := 0) rfl (fun _ hu_ => run_eq_of ?u7_0) ?v7_0
      case u7_0 => intro K_ hK_;go_simp;(try rw [wI _]);(try rw [wU _]);exact hK_
      simp only [sS, sN]
      co_applyP rT (i := 1) rfl (fun _ hu_ => run_eq_of ?u7_1) ?v7_1
      case u7_1 => intro K_ hK_;go_simp;(try rw [wI _]);(try rw [wU _]);exact hK_
      simp only [sS, sN]
      co_applyP rT (i := 2) rfl (fun _ hu_ => run_eq_of ?u7_2) ?v7_2
      case u7_2 => intro K_ hK_;go_simp;(try rw [wI _]);(try rw [wU _]);exact hK_
      simp only [sS, sN]
      co_applyP rT (i := 3) rfl (fun _ hu_ => run_eq_of ?u7_3) ?v7_3
      case u7_3 => intro K_ hK_;go_simp;(try rw [wI _]);(try rw [wU _]);exact hK_
      simp only [sS, sN]
      co_applyP anyR_take (i := 4) (x := undef) rfl (by first | kernel_rfl | decide +kernel) (by first | kernel_rfl | decide +kernel) (by first | kernel_rfl | decide +kernel) (.inr ⟨(by simp [Region.wanted, yielded, TA_get, *]), rfl⟩) ?rest8
      simp only [stO_some, stO_none]
      co_applyP anyR_take (i := 5) (x := undef) rfl (by first | kernel_rfl | decide +kernel) (by first | kernel_rfl | decide +kernel) (by first | kernel_rfl | decide +kernel) (.inr ⟨(by simp [Region.wanted, yielded, TA_get, *]), rfl⟩) ?rest9
      simp only [stO_some, stO_none]
      co_applyP anyR_take (i := 6) (x := undef) rfl (by first | kernel_rfl | decide +kernel) (by first | kernel_rfl | decide +kernel) (by first | kernel_rfl | decide +kernel) (.inr ⟨(by simp [Region.wanted, yielded, TA_get, *]), rfl⟩) ?rest10
      simp only [stO_some, stO_none]
      co_applyP anyR_take (i := 7) (x := undef) rfl (by first | kernel_rfl | decide +kernel) (by first | kernel_rfl | decide +kernel) (by first | kernel_rfl | decide +kernel) (.inr ⟨(by simp [Region.wanted, yielded, TA_get, *]), rfl⟩) ?rest11
      simp only [stO_some, stO_none]
      co_applyP anyR_take (i := 8) (x := undef) rfl (by first | kernel_rfl | decide +kernel) (by first | kernel_rfl | decide +kernel) (by first | kernel_rfl | decide +kernel) (.inr ⟨(by simp [Region.wanted, yielded, TA_get, *]), rfl⟩) ?rest12
      simp only [stO_some, stO_none]
      co_applyP anyR_take (i := 9) (x := undef) rfl (by first | kernel_rfl | decide +kernel) (by first | kernel_rfl | decide +kernel) (by first | kernel_rfl | decide +kernel) (.inr ⟨(by simp [Region.wanted, yielded, TA_get, *]), rfl⟩) ?rest13
      simp only [stO_some, stO_none]
      co_applyP anyR_take (i := 10) (x := undef) rfl (by first | kernel_rfl | decide +kernel) (by first | kernel_rfl | decide +kernel) (by first | kernel_rfl | decide +kernel) (.inr ⟨(by simp [Region.wanted, yielded, TA_get, *]), rfl⟩) ?rest14
      simp only [stO_some, stO_none]
      co_applyP anyR_take (i := 11) (x := undef) rfl (by first | kernel_rfl | decide +kernel) (by first | kernel_rfl | decide +kernel) (by first | kernel_rfl | decide +kernel) (.inr ⟨(by simp [Region.wanted, yielded, TA_get, *]), rfl⟩) ?rest15
      simp only [stO_some, stO_none]
      co_applyP anyR_take (i := 12) (x := undef) rfl (by first | kernel_rfl | decide +kernel) (by first | kernel_rfl | decide +kernel) (by first | kernel_rfl | decide +kernel) (.inr ⟨(by simp [Region.wanted, yielded, TA_get, *]), rfl⟩) ?rest16
      simp only [stO_some, stO_none]
      co_applyP anyR_take (i := 13) (x := undef) rfl (by first | kernel_rfl | decide +kernel) (by first | kernel_rfl | decide +kernel) (by first | kernel_rfl | decide +kernel) (.inr ⟨(by simp [Region.wanted, yielded, TA_get, *]), rfl⟩) ?rest17
      simp only [stO_some, stO_none]
      co_applyP anyR_take (i := 14) (x := undef) rfl (by first | kernel_rfl | decide +kernel) (by first | kernel_rfl | decide +kernel) (by first | kernel_rfl | decide +kernel) (.inr ⟨(by simp [Region.wanted, yielded, TA_get, *]), rfl⟩) ?rest18
      simp only [stO_some, stO_none]
      co_applyP anyR_take (i := 15) (x := undef) rfl (by first | kernel_rfl | decide +kernel) (by first | kernel_rfl | decide +kernel) (by first | kernel_rfl | decide +kernel) (.inr ⟨(by simp [Region.wanted, yielded, TA_get, *]), rfl⟩) ?rest19
      simp only [stO_some, stO_none]
      co_applyP rT (i := 16) rfl (fun _ hu_ => run_eq_of ?u20) ?v20
      case u20 => intro K_ hK_;go_simp;(try rw [wI _]);(try rw [wU _]);exact hK_
      simp only [sS, sN]
      refine anyR_done (by first | kernel_rfl | decide +kernel) ?_ _
      repeat (first|refine rA ?_|refine rB ?_|refine rC ?_|refine rD ?_|(refine rR ?_;simp only [tO, Nat.reduceAdd])|refine rE ?_|(refine rO goodFG rfl ?_;intro _ hu_ K_ hK_;go_simp;(try rw [wI _]);(try rw [wU _]);refine hK_ _ ?_;clear hK_ K_ hu_;simp only [sS, sN])|(refine rP rfl ?_;simp only [sS, sN])|(refine rP2 rfl ?_;simp only [sS, sN]))
      (refine reach_cond (t := false) (by simp [Act.eval]) ?_; simp only [if_true, if_false, reduceIte, Bool.false_eq_true])
      refine reach_exit rfl ?_
      repeat (first|refine rA ?_|refine rB ?_|refine rC ?_|refine rD ?_|(refine rR ?_;simp only [tO, Nat.reduceAdd])|refine rE ?_|(refine rO goodFG rfl ?_;intro _ hu_ K_ hK_;go_simp;(try rw [wI _]);(try rw [wU _]);refine hK_ _ ?_;clear hK_ K_ hu_;simp only [sS, sN])|(refine rP rfl ?_;simp only [sS, sN])|(refine rP2 rfl ?_;simp only [sS, sN]))
      exact nxt _ _ _ _ (by omega) (out _ w hI (.inl hj0) (by simp [g0]) (by simp [g1]) (by simp [g2]) (by simp [g3]) (by simp [g8]))
    · have hjp : 0 < j := by omega
      repeat (first|refine rA ?_|refine rB ?_|refine rC ?_|refine rD ?_|(refine rR ?_;simp only [tO, Nat.reduceAdd])|refine rE ?_|(refine rO goodFG rfl ?_;intro _ hu_ K_ hK_;go_simp;(try rw [wI _]);(try rw [wU _]);refine hK_ _ ?_;clear hK_ K_ hu_;simp only [sS, sN])|(refine rP rfl ?_;simp only [sS, sN])|(refine rP2 rfl ?_;simp only [sS, sN]))
      refine ins_test g n cap N j h hjp (by omega) hnc hn hnN hI.row g0 g1 g3 g9 fun w1 f1 hE1 g34 hf1 => ?_
      have hI1 := hI.ext hE1
      have k0 : f1 0 = .slice (some ⟨g, 0, none⟩) n cap := (hf1 0 (by omega)).trans g0
      have k1 : f1 1 = .int .i64 0 := (hf1 1 (by omega)).trans g1
      have k2 : f1 2 = .int .i64 (n : Nat) := (hf1 2 (by omega)).trans g2
      have k3 : f1 3 = .func (.func 22) #[] #[] := (hf1 3 (by omega)).trans g3
      have k8 : f1 8 = .int .i64 (i : Nat) := (hf1 8 (by omega)).trans g8
      have k9 : f1 9 = .int .i64 (j : Nat) := (hf1 9 (by omega)).trans g9
      clear g0 g1 g2 g3 g8 g9 hf1
      by_cases hless : (h j).id < (h (j - 1)).id
      · rw [decide_eq_true hless] at g34
        repeat (first|refine rA ?_|refine rB ?_|refine rC ?_|refine rD ?_|(refine rR ?_;simp only [tO, Nat.reduceAdd])|refine rE ?_|(refine rO goodFG rfl ?_;intro _ hu_ K_ hK_;go_simp;(try rw [wI _]);(try rw [wU _]);refine hK_ _ ?_;clear hK_ K_ hu_;simp only [sS, sN])|(refine rP rfl ?_;simp only [sS, sN])|(refine rP2 rfl ?_;simp only [sS, sN]))
        (refine reach_cond (t := true) (by simp [Act.eval, g34]) ?_; simp only [if_true, if_false, reduceIte, Bool.false_eq_true])
        repeat (first|refine rA ?_|refine rB ?_|refine rC ?_|refine rD ?_|(refine rR ?_;simp only [tO, Nat.reduceAdd])|refine rE ?_|(refine rO goodFG rfl ?_;intro _ hu_ K_ hK_;go_simp;(try rw [wI _]);(try rw [wU _]);refine hK_ _ ?_;clear hK_ K_ hu_;simp only [sS, sN])|(refine rP rfl ?_;simp only [sS, sN])|(refine rP2 rfl ?_;simp only [sS, sN]))
        refine ins_swap g n cap N j h hjp (by omega) hnc hn hnN hI1.row k0 k9 fun w2 w3 f3 hW2 hW3 hf3 => ?_
        have l0 : f3 0 = .slice (some ⟨g, 0, none⟩) n cap := (hf3 0 (by omega)).trans (by simp [k0])
        have l1 : f3 1 = .int .i64 0 := (hf3 1 (by omega)).trans (by simp [k1])
        have l2 : f3 2 = .int .i64 (n : Nat) := (hf3 2 (by omega)).trans (by simp [k2])
        have l3 : f3 3 = .func (.func 22) #[] #[] := (hf3 3 (by omega)).trans (by simp [k3])
        have l8 : f3 8 = .int .i64 (i : Nat) := (hf3 8 (by omega)).trans (by simp [k8])
        have l9 : f3 9 = .int .i64 (j : Nat) := (hf3 9 (by omega)).trans (by simp [k9])
        clear k0 k1 k2 k3 k8 k9 hf3 g34
        have hcast : (j : Int) - 1 = ((j - 1 : Nat) : Int) := by omega
        repeat (first|refine rA ?_|refine rB ?_|refine rC ?_|refine rD ?_|(refine rR ?_;simp only [tO, Nat.reduceAdd])|refine rE ?_|(refine rO goodFG rfl ?_;intro _ hu_ K_ hK_;go_simp;(try rw [wI _]);(try rw [wU _]);refine hK_ _ ?_;clear hK_ K_ hu_;simp only [sS, sN])|(refine rP rfl ?_;simp only [sS, sN])|(refine rP2 rfl ?_;simp only [sS, sN]))
        refine nxt2 _ _ _ (j - 1) (by omega) ⟨j - 1, swH h j, rfl, by omega, rfl, ⟨(hI1.kp.wr (.inl rfl) hW2).wr (.inl rfl) hW3, hW3.at_, hI1.perm.trans (swH_perm h hjp (by omega))⟩, hN.swap hjp hj hless, by simp [l0], by simp [l1], by simp [l2], by simp [l3], by simp [l8], by simp⟩
      · rw [decide_eq_false hless] at g34
        repeat (first|refine rA ?_|refine rB ?_|refine rC ?_|refine rD ?_|(refine rR ?_;simp only [tO, Nat.reduceAdd])|refine rE ?_|(refine rO goodFG rfl ?_;intro _ hu_ K_ hK_;go_simp;(try rw [wI _]);(try rw [wU _]);refine hK_ _ ?_;clear hK_ K_ hu_;simp only [sS, sN])|(refine rP rfl ?_;simp only [sS, sN])|(refine rP2 rfl ?_;simp only [sS, sN]))
        (refine reach_cond (t := false) (by simp [Act.eval, g34]) ?_; simp only [if_true, if_false, reduceIte, Bool.false_eq_true])
        refine reach_exit rfl ?_
        repeat (first|refine rA ?_|refine rB ?_|refine rC ?_|refine rD ?_|(refine rR ?_;simp only [tO, Nat.reduceAdd])|refine rE ?_|(refine rO goodFG rfl ?_;intro _ hu_ K_ hK_;go_simp;(try rw [wI _]);(try rw [wU _]);refine hK_ _ ?_;clear hK_ K_ hu_;simp only [sS, sN])|(refine rP rfl ?_;simp only [sS, sN])|(refine rP2 rfl ?_;simp only [sS, sN]))
        exact nxt _ _ _ _ (by omega) (out _ w1 hI1 (.inr (by omega)) (by simp [k0]) (by simp [k1]) (by simp [k2]) (by simp [k3]) (by simp [k8]))
  · have hge : n ≤ i := by omega
    (refine reach_cond (t := false) (by simp [Act.eval, hge]) ?_; simp only [if_true, if_false, reduceIte, Bool.false_eq_true])
    refine reach_exit rfl ?_
    repeat (first|refine rA ?_|refine rB ?_|refine rC ?_|refine rD ?_|(refine rR ?_;simp only [tO, Nat.reduceAdd])|refine rE ?_|(refine rO goodFG rfl ?_;intro _ hu_ K_ hK_;go_simp;(try rw [wI _]);(try rw [wU _]);refine hK_ _ ?_;clear hK_ K_ hu_;simp only [sS, sN])|(refine rP rfl ?_;simp only [sS, sN])|(refine rP2 rfl ?_;simp only [sS, sN]))
    refine reach_end ?_
    refine ret _ _ S w (.tuple #[]) ?_ ⟨rfl, rfl, h, ⟨hI.kp, hI.row, hI.perm⟩, fun a b h1 h2 => hso a b h1 (by omega)⟩
    simp [results, Tryd.results49]
end
end Go.Proofs.YtpiefebngnlfoaaDoor
