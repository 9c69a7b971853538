/-
  mosaickeep.Linear: the sum is reckoned.
-/
import Derived.Test.YtpiefebngnlfoaaLp
set_option linter.unusedVariables false
set_option linter.unusedSimpArgs false
namespace Go.Proofs.Ytpiefebngnlfoaa
open Go.RowKit Go.Conc Go.Vw

theorem lin_eqB : linB (Try.f9.body.getD .skip) = .seq (hd (linB (Try.f9.body.getD .skip))) (.seq (hd (tl (linB (Try.f9.body.getD .skip)))) (linC (Try.f9.body.getD .skip))) := rfl
/-- The sum. -/
def sumOf (by_ : Nat) (x1 x2 : Nat → Nat) (i : Nat) : Nat := x1 i ^^^ Fld.mul by_ (x2 i)
def sumP (by_ : Nat) (x1 x2 : Nat → Nat) (e i : Nat) : Nat := if i < e then sumOf by_ x1 x2 i else 0
theorem sumP_set (by_ : Nat) (x1 x2 : Nat → Nat) (n j : Nat) : (bytesA n (sumP by_ x1 x2 j)).setIfInBounds j (.int .u8 ((sumOf by_ x1 x2 j : Nat) : Int)) = bytesA n (sumP by_ x1 x2 (j + 1)) := by
  rw [bytesA_set]
  refine bytesA_congr fun c hc => ?_
  by_cases e : c = j
  · subst e; simp [sumP]
  · simp only [if_neg e, sumP, show c < j + 1 ↔ c < j by omega]

set_option maxRecDepth 100000 in
set_option maxHeartbeats 2000000 in
theorem lin_b {S : Nat → Prop} {v0 v : World} {f : Nat → Value} (p1 p2 : Option Addr) (L cap1 cap2 by_ : Nat) (x1 x2 : Nat → Nat) (hk : Kp v0 (fun _ => False) v) (hL : L ≤ 400) (hb : by_ < 256) (hx1 : ∀ i, x1 i < 256) (hx2 : ∀ i, x2 i < 256) (h1 : SliceV v p1 L cap1 x1) (h2 : SliceV v p2 L cap2 x2)
    (f0 : f 0 = .slice p1 L cap1) (f1 : f 1 = .slice p2 L cap2) (f2 : f 2 = .int .u8 (by_ : Nat)) (f7 : f 7 = .bool true)
    (next : ∀ (v' : World) (f : Nat → Value) (BS : Nat), Kp v0 (fun _ => False) v' → SliceV v' p1 L cap1 x1 → SliceV v' p2 L cap2 x2 → v'.heap[BS]? = some (.cells (bytesA L (sumOf by_ x1 x2)) 5) → f 0 = .slice p1 L cap1 → f 1 = .slice p2 L cap2 → f 2 = .int .u8 (by_ : Nat) → f 7 = .bool true → f 8 = sl BS L → LinR (linC (Try.f9.body.getD .skip)) S v0 v' f) :
    LinR (linB (Try.f9.body.getD .skip)) S v0 v f := by
  intro Stop cs ret
  rw [lin_eqB]
  generalize linC (Try.f9.body.getD .skip) = LC at next ⊢
  simp only [linB, hd, tl, Try.f9, Option.getD_some]
  repeat (first|refine rA ?_|refine rB ?_|refine rC ?_|refine rD ?_|(refine rR ?_;simp only [tO, Nat.reduceAdd])|refine rE ?_|(refine rO goodFF rfl ?_;intro _ hu_ K_ hK_;go_simp;(try rw [wI _]);(try rw [wU _]);refine hK_ _ ?_;clear hK_ K_ hu_;simp only [sS, sN])|(refine rP rfl ?_;simp only [sS, sN]))
  refine reach_makeBytes goodFF rfl rfl (by kernel_rfl) rfl (m := L) (by simp [f0]) (by simp [f0]) (by omega) (by kernel_rfl) Try.underlying25 fun v1 hE1 hr1 hs1 => ?_
  simp only [stO_some]
  repeat (first|refine rA ?_|refine rB ?_|refine rC ?_|refine rD ?_|(refine rR ?_;simp only [tO, Nat.reduceAdd])|refine rE ?_|(refine rO goodFF rfl ?_;intro _ hu_ K_ hK_;go_simp;(try rw [wI _]);(try rw [wU _]);refine hK_ _ ?_;clear hK_ K_ hu_;simp only [sS, sN])|(refine rP rfl ?_;simp only [sS, sN]))
  refine reach_rounds (fun d f' S' v' => ∃ j, d = L - j ∧ j ≤ L ∧ S' = S ∧ (Kp v (fun _ => False) v' ∧ v'.heap[v.heap.size]? = some (.cells (bytesA L (sumP by_ x1 x2 j)) 5)) ∧ f' 0 = .slice p1 L cap1 ∧ f' 1 = .slice p2 L cap2 ∧ f' 2 = .int .u8 (by_ : Nat) ∧ f' 7 = .bool true ∧ f' 8 = sl v.heap.size L ∧ f' 9 = .int .i64 (j : Nat)) L ⟨0, by omega, by omega, rfl, ⟨(Kp.refl v _).ext hE1, by rw [hr1, bytesA_zero, bytesA_congr (g := sumP by_ x1 x2 0) fun i hi => by simp [sumP]]⟩, by simp [f0], by simp [f1], by simp [f2], by simp [f7], by simp, by simp⟩ ?_
  rintro d f' S' v' ⟨j, rfl, hj, eS, ⟨hk', hsum⟩, g0, g1, g2, g7, g8, g9⟩ nxt
  subst S'
  repeat (first|refine rA ?_|refine rB ?_|refine rC ?_|refine rD ?_|(refine rR ?_;simp only [tO, Nat.reduceAdd])|refine rE ?_|(refine rO goodFF rfl ?_;intro _ hu_ K_ hK_;go_simp;(try rw [wI _]);(try rw [wU _]);refine hK_ _ ?_;clear hK_ K_ hu_;simp only [sS, sN])|(refine rP rfl ?_;simp only [sS, sN]))
  by_cases hlt : j < L
  · have hjI : (j : Int) < (L : Int) := by omega
    obtain ⟨B1, o1, hp1, c1, b1⟩ : ∃ B off, p1 = some ⟨B, off, none⟩ ∧ L ≤ cap1 ∧ BytesAt v B off L x1 := by
      rcases h1 with ⟨_, h, _⟩ | h
      · omega
      · exact h
    obtain ⟨B2, o2, hp2, c2, b2⟩ : ∃ B off, p2 = some ⟨B, off, none⟩ ∧ L ≤ cap2 ∧ BytesAt v B off L x2 := by
      rcases h2 with ⟨_, h, _⟩ | h
      · omega
      · exact h
    subst hp1 hp2
    have k1 := hk'.cell (fun x => x) (b1 j hlt)
    have k2 := hk'.cell (fun x => x) (b2 j hlt)
    have e1 := hx1 j
    have e2 := hx2 j
    have e3 := Fld.mul_lt hb (x2 j)
    (refine reach_cond (t := true) (by simp [Act.eval, hlt]) ?_; simp only [if_true, if_false, reduceIte, Bool.false_eq_true])
    repeat (first|refine rA ?_|refine rB ?_|refine rC ?_|refine rD ?_|(refine rR ?_;simp only [tO, Nat.reduceAdd])|refine rE ?_|(refine rO goodFF rfl ?_;intro _ hu_ K_ hK_;go_simp;(try rw [wI _]);(try rw [wU _]);refine hK_ _ ?_;clear hK_ K_ hu_;simp only [sS, sN])|(refine rP rfl ?_;simp only [sS, sN]))
    refine reach_draw goodFF (by first | kernel_rfl | rfl) ?_
    simp only [List.size_toArray, List.length_cons, List.length_nil, Nat.reduceAdd, Nat.zero_add]
    co_applyP rT (i := 0) rfl (fun _ hu_ => run_eq_of ?u1_0) ?v1_0
    case u1_0 => intro K_ hK_;go_simp;(try rw [wI _]);(try rw [wU _]);exact hK_
    simp only [sS, sN]
    co_applyP rT (i := 1) rfl (fun _ hu_ => run_eq_of ?u1_1) ?v1_1
    case u1_1 => intro K_ hK_;go_simp;(try rw [wI _]);(try rw [wU _]);exact hK_
    simp only [sS, sN]
    co_applyP rT (i := 2) rfl (fun _ hu_ => run_eq_of ?u1_2) ?v1_2
    case u1_2 => intro K_ hK_;go_simp;(try rw [wI _]);(try rw [wU _]);exact hK_
    simp only [sS, sN]
    co_applyP rT (i := 3) rfl (fun _ hu_ => run_eq_of ?u1_3) ?v1_3
    case u1_3 => intro K_ hK_;go_simp;(try rw [wI _]);(try rw [wU _]);exact hK_
    simp only [sS, sN]
    co_applyP rT (i := 4) rfl (fun _ hu_ => run_eq_of ?u1_4) ?v1_4
    case u1_4 => intro K_ hK_;go_simp;(try rw [wI _]);(try rw [wU _]);exact hK_
    simp only [sS, sN]
    co_applyP rT (i := 5) rfl (fun _ hu_ => run_eq_of ?u2) ?v2
    case u2 => intro K_ hK_;(have hc := (Ext.twin hu_).cell k1);go_simp;(try rw [wI _]);(try rw [wU _]);exact hK_
    simp only [sS, sN]
    co_applyP rT (i := 6) rfl (fun _ hu_ => run_eq_of ?u3_6) ?v3_6
    case u3_6 => intro K_ hK_;go_simp;(try rw [wI _]);(try rw [wU _]);exact hK_
    simp only [sS, sN]
    co_applyP rT (i := 7) rfl (fun _ hu_ => run_eq_of ?u3_7) ?v3_7
    case u3_7 => intro K_ hK_;go_simp;(try rw [wI _]);(try rw [wU _]);exact hK_
    simp only [sS, sN]
    co_applyP rT (i := 8) rfl (fun _ hu_ => run_eq_of ?u3_8) ?v3_8
    case u3_8 => intro K_ hK_;go_simp;(try rw [wI _]);(try rw [wU _]);exact hK_
    simp only [sS, sN]
    co_applyP rT (i := 9) rfl (fun _ hu_ => run_eq_of ?u3_9) ?v3_9
    case u3_9 => intro K_ hK_;go_simp;(try rw [wI _]);(try rw [wU _]);exact hK_
    simp only [sS, sN]
    co_applyP rT (i := 10) rfl (fun _ hu_ => run_eq_of ?u3_10) ?v3_10
    case u3_10 => intro K_ hK_;go_simp;(try rw [wI _]);(try rw [wU _]);exact hK_
    simp only [sS, sN]
    co_applyP rT (i := 11) rfl (fun _ hu_ => run_eq_of ?u4) ?v4
    case u4 => intro K_ hK_;(have hc := (Ext.twin hu_).cell k2);go_simp;(try rw [wI _]);(try rw [wU _]);exact hK_
    simp only [sS, sN]
    co_applyP rT (i := 12) rfl (fun _ hu_ => run_eq_of ?u5) ?v5
    case u5 => intro K_ hK_;go_simp;(try rw [wI _]);(try rw [wU _]);exact hK_
    simp only [sS, sN]
    co_applyP anyR_take (i := 13) rfl (by first | kernel_rfl | decide +kernel) (by first | kernel_rfl | decide +kernel) (by first | kernel_rfl | decide +kernel) (.inl ⟨(by first | rfl | (simp [Region.wanted, yielded, TA_get, *]; done)), .inr ⟨_, _, _, _, _, rfl, Try.func10, (by kernel_rfl), rfl, ?run6⟩⟩) ?rest6
    case run6 =>
      simp [Act.eval, *]
      exact pmul_r by_ (x2 j) hb e2
    simp only [stO_some, stO_none]
    co_applyP rT (i := 14) rfl (fun _ hu_ => run_eq_of ?u7) ?v7
    case u7 => intro K_ hK_;go_simp;(try rw [wI _]);(try rw [wU _]);exact hK_
    simp only [sS, sN]
    co_applyP rT (i := 15) rfl (fun _ hu_ => run_eq_of ?u8) ?v8
    case u8 => intro K_ hK_;go_simp;(try rw [wI _]);(try rw [wU _]);exact hK_
    simp only [sS, sN]
    rw [u8_xor_nat _ _ e1 e3]
    co_applyP rT (i := 16) rfl (fun _ hu_ => run_eq_of ?u9) ?v9
    case u9 => intro K_ hK_;go_simp;(try rw [wI _]);(try rw [wU _]);exact hK_
    simp only [sS, sN]
    refine anyR_last (j := 17) (by first | kernel_rfl | decide +kernel) (lastR_of (by kernel_rfl)) ?_
    refine reach_store1 goodFF rfl rfl (by kernel_rfl) (x := .tmp 61) (y := .tmp 60) (g := v.heap.size) (j := j) (z := .int .u8 ((sumOf by_ x1 x2 j : Nat) : Int)) rfl (by simp) (by simp [sumOf]) rfl rfl hsum (by rw [bytesA_size]; exact hlt) (by kernel_rfl) fun v3 hW => ?_
    simp only [stO_none]
    rw [sumP_set] at hW
    repeat (first|refine rA ?_|refine rB ?_|refine rC ?_|refine rD ?_|(refine rR ?_;simp only [tO, Nat.reduceAdd])|refine rE ?_|(refine rO goodFF rfl ?_;intro _ hu_ K_ hK_;go_simp;(try rw [wI _]);(try rw [wU _]);refine hK_ _ ?_;clear hK_ K_ hu_;simp only [sS, sN])|(refine rP rfl ?_;simp only [sS, sN]))
    refine nxt _ _ _ (L - (j + 1)) (by omega) ⟨j + 1, rfl, by omega, rfl, ⟨⟨?_, ?_, ?_, fun b o _ hc ht => ?_⟩, hW.at_⟩, ?_, ?_, ?_, ?_, ?_, ?_⟩
    · rw [hW.size]; exact hk'.size
    · rw [hW.os]; exact hk'.os
    · rw [hW.output]; exact hk'.output
    · have := (Array.getElem?_eq_some_iff.1 hc).1
      rw [hW.other b (by omega)]
      exact hk'.objs b o (fun x => x) hc ht
    · simp [g0]
    · simp [g1]
    · simp [g2]
    · simp [g7]
    · simp [g8]
    · simp
  · obtain rfl : j = L := by omega
    (refine reach_cond (t := false) (by simp [Act.eval]) ?_; simp only [if_true, if_false, reduceIte, Bool.false_eq_true])
    refine reach_exit rfl ?_
    refine next v' _ v.heap.size (hk.trans hk') (slice_kp hk' h1) (slice_kp hk' h2) (by rw [hsum, bytesA_congr (g := sumOf by_ x1 x2) fun i hi => by simp [sumP, hi]]) ?_ ?_ ?_ ?_ ?_ Stop cs ret
    · simp [g0]
    · simp [g1]
    · simp [g2]
    · simp [g7]
    · simp [g8]
end Go.Proofs.Ytpiefebngnlfoaa
