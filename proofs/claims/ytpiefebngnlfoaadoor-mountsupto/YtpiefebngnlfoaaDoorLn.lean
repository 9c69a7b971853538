/-
  mosaiclaw.Mounts: its walk, on.
-/
import Derived.Test.YtpiefebngnlfoaaDoorLm
import Derived.Test.YtpiefebngnlfoaaDoorLi
import Derived.Test.YtpiefebngnlfoaaDoorLd
import Derived.Test.YtpiefebngnlfoaaDoorRows
import Derived.Conc.LeavingOf
import Derived.Carry
import Derived.ChangeSlices
import Derived.WalkKit
import Derived.ProofKit
import Derived.OpenShut
set_option linter.unusedVariables false
set_option linter.unusedSimpArgs false
namespace Go.Proofs.YtpiefebngnlfoaaDoor
open Go.RowKit Go.Conc Go.Vw

section
variable {S : Nat → Prop} {v w : World}
set_option maxRecDepth 100000 in
set_option maxHeartbeats 2000000 in
theorem mo_bad {f : Nat → Value} {dv : Value} {L : Nat} {b1 : Bool} (hL : L ≤ 7000) (f3 : f 3 = dv) (f4 : f 4 = .int .i64 (L : Nat)) (f5 : f 5 = .bool b1)
    (next : ∀ f : Nat → Value, f 3 = dv → f 5 = .bool (b1 || decide (L % 96 ≠ 0) || decide (L < 384) || decide (6144 < L)) → MoR (rst 6 (Tryd.f3.body.getD .skip)) S v w f) :
    MoR (rst 5 (Tryd.f3.body.getD .skip)) S v w f := by
  intro Stop cs ret
  rw [mo_eq3]
  have nx := fun f a b => next f a b Stop cs ret
  clear next ret
  generalize rst 6 (Tryd.f3.body.getD .skip) = R at nx
  simp only [nth, hd, tl, Tryd.f3, Option.getD_some]
  cases b1 with
  | true =>
    repeat (first|refine rA ?_|refine rB ?_|refine rC ?_|refine rD ?_|(refine rR ?_;simp only [tO, Nat.reduceAdd])|refine rE ?_|(refine rO goodFF rfl ?_;intro _ hu_ K_ hK_;go_simp;(try rw [wI _]);(try rw [wU _]);refine hK_ _ ?_;clear hK_ K_ hu_;simp only [sS, sN])|(refine rP rfl ?_;simp only [sS, sN])|(refine rP2 rfl ?_;simp only [sS, sN]))
    exact nx _ (by simp [f3]) (by simp)
  | false =>
    by_cases hC : L % 96 = 0
    · have hK : (L : Int).tmod 96 = 0 := by rw [Int.tmod_eq_emod_of_nonneg (by omega)]; omega
      by_cases hD : L < 384
      · have hM : (L : Int) < 384 := by omega
        repeat (first|refine rA ?_|refine rB ?_|refine rC ?_|refine rD ?_|(refine rR ?_;simp only [tO, Nat.reduceAdd])|refine rE ?_|(refine rO goodFF rfl ?_;intro _ hu_ K_ hK_;go_simp;(try rw [wI _]);(try rw [wU _]);refine hK_ _ ?_;clear hK_ K_ hu_;simp only [sS, sN])|(refine rP rfl ?_;simp only [sS, sN])|(refine rP2 rfl ?_;simp only [sS, sN]))
        exact nx _ (by simp [f3]) (by simp [hC, hD])
      · have hM : ¬ (L : Int) < 384 := by omega
        by_cases hE : 6144 < L
        · have hO : (6144 : Int) < (L : Int) := by omega
          repeat (first|refine rA ?_|refine rB ?_|refine rC ?_|refine rD ?_|(refine rR ?_;simp only [tO, Nat.reduceAdd])|refine rE ?_|(refine rO goodFF rfl ?_;intro _ hu_ K_ hK_;go_simp;(try rw [wI _]);(try rw [wU _]);refine hK_ _ ?_;clear hK_ K_ hu_;simp only [sS, sN])|(refine rP rfl ?_;simp only [sS, sN])|(refine rP2 rfl ?_;simp only [sS, sN]))
          exact nx _ (by simp [f3]) (by simp [hC, hD, hE, hO])
        · have hO : ¬ (6144 : Int) < (L : Int) := by omega
          repeat (first|refine rA ?_|refine rB ?_|refine rC ?_|refine rD ?_|(refine rR ?_;simp only [tO, Nat.reduceAdd])|refine rE ?_|(refine rO goodFF rfl ?_;intro _ hu_ K_ hK_;go_simp;(try rw [wI _]);(try rw [wU _]);refine hK_ _ ?_;clear hK_ K_ hu_;simp only [sS, sN])|(refine rP rfl ?_;simp only [sS, sN])|(refine rP2 rfl ?_;simp only [sS, sN]))
          exact nx _ (by simp [f3]) (by simp [hC, hD, hE, hO])
    · have hK : ¬ (L : Int).tmod 96 = 0 := by rw [Int.tmod_eq_emod_of_nonneg (by omega)]; omega
      repeat (first|refine rA ?_|refine rB ?_|refine rC ?_|refine rD ?_|(refine rR ?_;simp only [tO, Nat.reduceAdd])|refine rE ?_|(refine rO goodFF rfl ?_;intro _ hu_ K_ hK_;go_simp;(try rw [wI _]);(try rw [wU _]);refine hK_ _ ?_;clear hK_ K_ hu_;simp only [sS, sN])|(refine rP rfl ?_;simp only [sS, sN])|(refine rP2 rfl ?_;simp only [sS, sN]))
      exact nx _ (by simp [f3]) (by simp [hC])
/-- The store of fourteen disks of four blocks. -/
theorem mount14_r (t : TypeId) (e : Value) (hg0 : w.cell? ⟨0, 0, none⟩ = some (.iface t e)) (g c : Nat) (hT : TextsV w g 14 fun _ => 384) :
    CallsR Tryd.prog 6 #[.slice (some ⟨g, 0, none⟩) 14 c, .int .i64 5] S w fun x S' v' => S' = S ∧ Ext w v' ∧ ∃ X D DB M RB r l, x = .tuple #[.pointer (some ⟨X, 0, none⟩), .int .i64 0] ∧ Sto X D DB M RB 14 4 r l v' :=
  mountGood_r t e hg0 _ _ 14 4 (by omega) (by omega) (by omega) (by omega) (newGood_r g 14 c 384 (fun _ => 384) 5 (fun _ => by omega) ⟨by omega, by omega, rfl, by omega, by omega, by omega⟩ hT (oneLen_r g 14 c (fun _ => 384) (by omega) (fun _ => by omega) hT))
set_option maxRecDepth 100000 in
set_option maxHeartbeats 2000000 in
theorem mo_endBad (t : TypeId) (e : Value) (hg0 : w.cell? ⟨0, 0, none⟩ = some (.iface t e)) {f : Nat → Value} {dv : Value} (hE : Ext v w) (f3 : f 3 = dv) (f5 : f 5 = .bool true) (h1 : CallsR Tryd.prog 6 #[dv, .int .i64 5] S w fun x S' v' => x = .tuple #[.pointer none, .int .i64 3] ∧ S' = S ∧ v' = w) :
    MoR (rst 6 (Tryd.f3.body.getD .skip)) S v w f := by
  intro Stop cs ret
  simp only [rst, tl, Tryd.f3, Option.getD_some]
  repeat (first|refine rA ?_|refine rB ?_|refine rC ?_|refine rD ?_|(refine rR ?_;simp only [tO, Nat.reduceAdd])|refine rE ?_|(refine rO goodFF rfl ?_;intro _ hu_ K_ hK_;go_simp;(try rw [wI _]);(try rw [wU _]);refine hK_ _ ?_;clear hK_ K_ hu_;simp only [sS, sN])|(refine rP rfl ?_;simp only [sS, sN])|(refine rP2 rfl ?_;simp only [sS, sN]))
  (refine reach_callR rfl (by first | rfl | simp [Region.wanted, yielded, TA_get, *]) rfl Tryd.func6 (by kernel_rfl) rfl (by simp [Act.eval, *]; try rfl) (h1) ?_)
  rintro _ S1 w1 _ ⟨rfl, e1, e2⟩
  subst S1 w1
  simp only [stO_some]
  repeat (first|refine rA ?_|refine rB ?_|refine rC ?_|refine rD ?_|(refine rR ?_;simp only [tO, Nat.reduceAdd])|refine rE ?_|(refine rO goodFF rfl ?_;intro _ hu_ K_ hK_;go_simp;(try rw [wI _]);(try rw [wU _]);refine hK_ _ ?_;clear hK_ K_ hu_;simp only [sS, sN])|(refine rP rfl ?_;simp only [sS, sN])|(refine rP2 rfl ?_;simp only [sS, sN]))
  (refine reach_callR rfl (by first | rfl | simp [Region.wanted, yielded, TA_get, *]) rfl Tryd.func7 (by kernel_rfl) rfl (by simp [Act.eval, *]; try rfl) (lblank_r) ?_)
  rintro _ S1 w1 _ ⟨e1, hE1, g, c, rfl, hT⟩
  subst S1
  simp only [stO_some]
  repeat (first|refine rA ?_|refine rB ?_|refine rC ?_|refine rD ?_|(refine rR ?_;simp only [tO, Nat.reduceAdd])|refine rE ?_|(refine rO goodFF rfl ?_;intro _ hu_ K_ hK_;go_simp;(try rw [wI _]);(try rw [wU _]);refine hK_ _ ?_;clear hK_ K_ hu_;simp only [sS, sN])|(refine rP rfl ?_;simp only [sS, sN])|(refine rP2 rfl ?_;simp only [sS, sN]))
  (refine reach_callR rfl (by first | rfl | simp [Region.wanted, yielded, TA_get, *]) rfl Tryd.func6 (by kernel_rfl) rfl (by simp [Act.eval, *]; try rfl) (mount14_r t e (hE1.cell hg0) g c hT) ?_)
  rintro _ S1 w2 _ ⟨e1, hE2, X, D, DB, M, RB, r, l, rfl, hX⟩
  subst S1
  simp only [stO_some]
  repeat (first|refine rA ?_|refine rB ?_|refine rC ?_|refine rD ?_|(refine rR ?_;simp only [tO, Nat.reduceAdd])|refine rE ?_|(refine rO goodFF rfl ?_;intro _ hu_ K_ hK_;go_simp;(try rw [wI _]);(try rw [wU _]);refine hK_ _ ?_;clear hK_ K_ hu_;simp only [sS, sN])|(refine rP rfl ?_;simp only [sS, sN])|(refine rP2 rfl ?_;simp only [sS, sN]))
  (refine reach_cond (t := false) (by simp [Act.eval]) ?_; simp only [if_true, if_false, reduceIte, Bool.false_eq_true])
  repeat (first|refine rA ?_|refine rB ?_|refine rC ?_|refine rD ?_|(refine rR ?_;simp only [tO, Nat.reduceAdd])|refine rE ?_|(refine rO goodFF rfl ?_;intro _ hu_ K_ hK_;go_simp;(try rw [wI _]);(try rw [wU _]);refine hK_ _ ?_;clear hK_ K_ hu_;simp only [sS, sN])|(refine rP rfl ?_;simp only [sS, sN])|(refine rP2 rfl ?_;simp only [sS, sN]))
  (refine reach_cond (t := true) (by simp [Act.eval]) ?_; simp only [if_true, if_false, reduceIte, Bool.false_eq_true])
  repeat (first|refine rA ?_|refine rB ?_|refine rC ?_|refine rD ?_|(refine rR ?_;simp only [tO, Nat.reduceAdd])|refine rE ?_|(refine rO goodFF rfl ?_;intro _ hu_ K_ hK_;go_simp;(try rw [wI _]);(try rw [wU _]);refine hK_ _ ?_;clear hK_ K_ hu_;simp only [sS, sN])|(refine rP rfl ?_;simp only [sS, sN])|(refine rP2 rfl ?_;simp only [sS, sN]))
  refine reach_ret fun todo => ?_
  exact ret _ _ _ _ (by simp) (hE.trans _ _ _ (hE1.trans _ _ _ hE2))
set_option maxRecDepth 100000 in
set_option maxHeartbeats 2000000 in
theorem mo_endGood (t : TypeId) (e : Value) (hg0 : w.cell? ⟨0, 0, none⟩ = some (.iface t e)) {f : Nat → Value} {dv : Value} {nd nb : Nat} (hE : Ext v w) (f3 : f 3 = dv) (f5 : f 5 = .bool false) (h1 : CallsR Tryd.prog 6 #[dv, .int .i64 5] S w fun x S' v' => S' = S ∧ Ext w v' ∧ ∃ X D DB M RB r l, x = .tuple #[.pointer (some ⟨X, 0, none⟩), .int .i64 0] ∧ Sto X D DB M RB nd nb r l v') :
    MoR (rst 6 (Tryd.f3.body.getD .skip)) S v w f := by
  intro Stop cs ret
  simp only [rst, tl, Tryd.f3, Option.getD_some]
  repeat (first|refine rA ?_|refine rB ?_|refine rC ?_|refine rD ?_|(refine rR ?_;simp only [tO, Nat.reduceAdd])|refine rE ?_|(refine rO goodFF rfl ?_;intro _ hu_ K_ hK_;go_simp;(try rw [wI _]);(try rw [wU _]);refine hK_ _ ?_;clear hK_ K_ hu_;simp only [sS, sN])|(refine rP rfl ?_;simp only [sS, sN])|(refine rP2 rfl ?_;simp only [sS, sN]))
  (refine reach_callR rfl (by first | rfl | simp [Region.wanted, yielded, TA_get, *]) rfl Tryd.func6 (by kernel_rfl) rfl (by simp [Act.eval, *]; try rfl) (h1) ?_)
  rintro _ S1 w0 _ ⟨e1, hE0, X0, D0, DB0, M0, RB0, r0, l0, rfl, hX0⟩
  subst S1
  simp only [stO_some]
  repeat (first|refine rA ?_|refine rB ?_|refine rC ?_|refine rD ?_|(refine rR ?_;simp only [tO, Nat.reduceAdd])|refine rE ?_|(refine rO goodFF rfl ?_;intro _ hu_ K_ hK_;go_simp;(try rw [wI _]);(try rw [wU _]);refine hK_ _ ?_;clear hK_ K_ hu_;simp only [sS, sN])|(refine rP rfl ?_;simp only [sS, sN])|(refine rP2 rfl ?_;simp only [sS, sN]))
  (refine reach_callR rfl (by first | rfl | simp [Region.wanted, yielded, TA_get, *]) rfl Tryd.func7 (by kernel_rfl) rfl (by simp [Act.eval, *]; try rfl) (lblank_r) ?_)
  rintro _ S1 w1 _ ⟨e1, hE1, g, c, rfl, hT⟩
  subst S1
  simp only [stO_some]
  repeat (first|refine rA ?_|refine rB ?_|refine rC ?_|refine rD ?_|(refine rR ?_;simp only [tO, Nat.reduceAdd])|refine rE ?_|(refine rO goodFF rfl ?_;intro _ hu_ K_ hK_;go_simp;(try rw [wI _]);(try rw [wU _]);refine hK_ _ ?_;clear hK_ K_ hu_;simp only [sS, sN])|(refine rP rfl ?_;simp only [sS, sN])|(refine rP2 rfl ?_;simp only [sS, sN]))
  (refine reach_callR rfl (by first | rfl | simp [Region.wanted, yielded, TA_get, *]) rfl Tryd.func6 (by kernel_rfl) rfl (by simp [Act.eval, *]; try rfl) (mount14_r t e (hE1.cell (hE0.cell hg0)) g c hT) ?_)
  rintro _ S1 w2 _ ⟨e1, hE2, X, D, DB, M, RB, r, l, rfl, hX⟩
  subst S1
  simp only [stO_some]
  repeat (first|refine rA ?_|refine rB ?_|refine rC ?_|refine rD ?_|(refine rR ?_;simp only [tO, Nat.reduceAdd])|refine rE ?_|(refine rO goodFF rfl ?_;intro _ hu_ K_ hK_;go_simp;(try rw [wI _]);(try rw [wU _]);refine hK_ _ ?_;clear hK_ K_ hu_;simp only [sS, sN])|(refine rP rfl ?_;simp only [sS, sN])|(refine rP2 rfl ?_;simp only [sS, sN]))
  (refine reach_cond (t := false) (by simp [Act.eval]) ?_; simp only [if_true, if_false, reduceIte, Bool.false_eq_true])
  repeat (first|refine rA ?_|refine rB ?_|refine rC ?_|refine rD ?_|(refine rR ?_;simp only [tO, Nat.reduceAdd])|refine rE ?_|(refine rO goodFF rfl ?_;intro _ hu_ K_ hK_;go_simp;(try rw [wI _]);(try rw [wU _]);refine hK_ _ ?_;clear hK_ K_ hu_;simp only [sS, sN])|(refine rP rfl ?_;simp only [sS, sN])|(refine rP2 rfl ?_;simp only [sS, sN]))
  (refine reach_cond (t := false) (by simp [Act.eval]) ?_; simp only [if_true, if_false, reduceIte, Bool.false_eq_true])
  repeat (first|refine rA ?_|refine rB ?_|refine rC ?_|refine rD ?_|(refine rR ?_;simp only [tO, Nat.reduceAdd])|refine rE ?_|(refine rO goodFF rfl ?_;intro _ hu_ K_ hK_;go_simp;(try rw [wI _]);(try rw [wU _]);refine hK_ _ ?_;clear hK_ K_ hu_;simp only [sS, sN])|(refine rP rfl ?_;simp only [sS, sN])|(refine rP2 rfl ?_;simp only [sS, sN]))
  (refine reach_callR rfl (by first | rfl | simp [Region.wanted, yielded, TA_get, *]) rfl Tryd.func8 (by kernel_rfl) rfl (by simp [Act.eval, *]; try rfl) (list_r (hX0.ext (hE1.trans _ _ _ hE2))) ?_)
  rintro _ S1 w3 _ ⟨pl, cl, rfl, e1, hE3⟩
  subst S1
  simp only [stO_some]
  repeat (first|refine rA ?_|refine rB ?_|refine rC ?_|refine rD ?_|(refine rR ?_;simp only [tO, Nat.reduceAdd])|refine rE ?_|(refine rO goodFF rfl ?_;intro _ hu_ K_ hK_;go_simp;(try rw [wI _]);(try rw [wU _]);refine hK_ _ ?_;clear hK_ K_ hu_;simp only [sS, sN])|(refine rP rfl ?_;simp only [sS, sN])|(refine rP2 rfl ?_;simp only [sS, sN]))
  refine reach_ret fun todo => ?_
  exact ret _ _ _ _ (by simp) (hE.trans _ _ _ (hE0.trans _ _ _ (hE1.trans _ _ _ (hE2.trans _ _ _ hE3))))
/-- ████ THE WALK OF Mounts. ████ -/
theorem mounts_whole {p : Option Addr} {n c : Nat} (t : TypeId) (e : Value) (hg0 : v.cell? ⟨0, 0, none⟩ = some (.iface t e)) (zz : Nat → Int) (hzz : ∀ j, -9223372036854775808 ≤ zz j ∧ zz j ≤ 9223372036854775807) (hn : n ≤ 1048576) (hs : IntsV v p n c zz) :
    MoR (Tryd.f3.body.getD .skip) S v v (argF #[.slice p n c]) := by
  refine mo_pre fun f f0 f3 f4 f5 => ?_
  refine mo_loop zz hzz hn hs (badB n) f0 f3 f4 f5 fun f w dv hE how f3 f4 f5 => ?_
  obtain ⟨z, hz⟩ : ∃ z : Nat → Nat, z = fun j => pickZ (zz j) := ⟨_, rfl⟩
  rw [← hz] at how f4 f5
  have hz7 : ∀ j, z j ≤ 7000 := fun j => by rw [hz]; have := pickZ_lt (zz j); show pickZ (zz j) ≤ 7000; omega
  have hL : ∀ k, fstZ z k ≤ 7000 := fun k => by
    induction k with
    | zero => exact Nat.zero_le _
    | succ k ih =>
      rw [fstZ_succ]
      split
      · exact ih
      · exact hz7 k
  have hL' : (if okZ z n = true then fstZ z n else 0) ≤ 7000 := by
    split
    · exact hL n
    · omega
  refine mo_bad (hL n) f3 f4 f5 fun f' k3 k5 => ?_
  clear f3 f4 f5
  have hgw := hE.cell hg0
  by_cases hgood : GoodZ n (if okZ z n = true then fstZ z n else 0) (okZ z n)
  · obtain ⟨q1, q2, q3, q4, q5, q6⟩ := hgood
    rw [q3] at k5
    simp only [q3, if_true] at q4 q5 q6
    obtain ⟨g, cg, cur, e1, _⟩ := own_some how (.inl (by omega))
    subst e1
    have hT := texts_of how
    have h1 : CallsR Tryd.prog 31 #[.slice (some ⟨g, 0, none⟩) n cg] S w fun x S' v' => x = .tuple #[.int .i64 ((fstZ z n : Nat) : Int), .bool true] ∧ S' = S ∧ v' = w := by
      have := oneLen_r (S := S) g n cg z (by omega) hz7 hT
      rw [q3] at this
      exact this
    have hb : (badB n || !true || decide (fstZ z n % 96 ≠ 0) || decide (fstZ z n < 384) || decide (6144 < fstZ z n)) = false := by
      simp [badB]
      omega
    rw [hb] at k5
    exact mo_endGood t e hgw hE k3 k5 (mountGood_r t e hgw _ _ n (fstZ z n / 96) (by omega) q1 q2 (by omega) (newGood_r g n cg (fstZ z n) z 5 hz7 ⟨q1, q2, rfl, q4, q5, q6⟩ hT h1))
  · have hb : (badB n || !okZ z n || decide (fstZ z n % 96 ≠ 0) || decide (fstZ z n < 384) || decide (6144 < fstZ z n)) = true := by
      refine Classical.byContradiction fun h => hgood ?_
      simp [badB] at h
      obtain ⟨⟨⟨⟨⟨h1, h2⟩, h3⟩, h4⟩, h5⟩, h6⟩ := h
      rw [h3, if_pos rfl]
      exact ⟨by omega, by omega, rfl, by omega, by omega, by omega⟩
    rw [hb] at k5
    rcases how.2 with ⟨e1, e2⟩ | ⟨g, cg, cur, e1, _⟩
    · subst e1
      have e2' : n = 0 := e2
      subst e2'
      exact mo_endBad t e hgw hE k3 k5 (mountBad_r _ _ (newBad_r none 0 0 0 true 5 (by omega) (by omega) (fun h => by have := h.1; omega) oneLenNil_r))
    · obtain ⟨g, cg, cur, e1, _⟩ := own_some how (.inr (by rw [e1]; simp))
      subst e1
      exact mo_endBad t e hgw hE k3 k5 (mountBad_r _ _ (newBad_r (some ⟨g, 0, none⟩) n cg _ (okZ z n) 5 (by omega) hL' hgood (oneLen_r g n cg z (by omega) hz7 (texts_of how))))
end
end Go.Proofs.YtpiefebngnlfoaaDoor

/-
  The row of a law: what was there before reads as it did.
-/
set_option linter.unusedVariables false
set_option linter.unusedSimpArgs false
set_option linter.unnecessarySimpa false
namespace Go.Proofs.YtpiefebngnlfoaaDoor
open Go.ChangeShapes Go.WideShapes Go.ChangeAt Go.RowKit Go.Conc Go.Vw

/-- Nothing that was there before has turned. -/
structure Old (W W' : World) : Prop where
  size : W.heap.size ≤ W'.heap.size
  os : W'.os = W.os
  output : W'.output = W.output
  block : ∀ b, b < W.heap.size → W'.heap[b]? = W.heap[b]?
theorem old_of {W W' v' : World} {S' : Nat → Prop} (hodd : ∀ b, Odd W b → Tryd.prog.globals.size ≤ b) (hk : Kp (firstView W) (fun _ => False) v') (hR : Rel Tryd.prog S' 0 v' W') (hF : Fx (Odd W) W S' W') : Old W W' := by
  have h0 := first_rel (P := Tryd.prog) hodd
  refine ⟨?_, ?_, ?_, fun b hb => ?_⟩
  · rw [← hR.size, ← h0.size]; exact hk.size
  · rw [← hR.os, hk.os]; exact h0.os
  · rw [← hR.output, hk.output]; exact h0.output
  · by_cases ho : Odd W b
    · exact (hF b ho).2
    · have hs := h0.seen b ho
      have hi : W.heap[b]? = some W.heap[b] := Array.getElem?_eq_getElem hb
      rw [hi] at hs
      have ht := h0.tame b ho _ hs
      have hv := hk.objs b _ (fun x => x) hs ht
      by_cases hS : S' b
      · exfalso
        have hj := hR.hid b hS
        rw [hv] at hj
        have hj' := Option.some.inj hj
        rw [hj'] at ht
        exact ht
      · rw [← hR.seen b hS, hv, hi]
theorem Old.kept {W W' : World} (h : Old W W') (may : MemPlace → Prop) : W.keptBut W' may := by
  refine ⟨h.os, h.output, fun i hi => ?_⟩
  rw [h.block i hi]
  cases W.heap[i]? with
  | none => rfl
  | some o => cases o <;> simp
theorem Old.same {W W' : World} (h : Old W W') {p : MemPlace} (hp : p.block < W.heap.size) : W.sameAt W' p := by
  cases p with
  | cell b o => exact World.cell?_of_block (w := W) (h.block b hp)
  | map b => exact h.block b hp
theorem first_cell {W : World} {a : Addr} {x : Value} (h : W.cell? a = some x) : (firstView W).cell? a = some x := by
  unfold World.cell? at h ⊢
  cases hb : W.heap[a.block]? with
  | none => simp [hb] at h
  | some o =>
    have ho : (firstView W).heap[a.block]? = some (if tameB o then o else junk) := by
      show (W.heap.map _)[a.block]? = _
      rw [Array.getElem?_map, hb]
      rfl
    cases o with
    | cells c t fr =>
      have : tameB (Obj.cells c t fr) = true := rfl
      rw [if_pos this] at ho
      rw [ho]
      rw [hb] at h
      exact h
    | _ => simp [hb] at h
theorem own : ownKnob Tryd.prog.godebug = none := by kernel_rfl
theorem laid : laidOutB Tryd.prog = true := by kernel_rfl
theorem plain : ((List.range Tryd.prog.globals.size).all fun g => (((begin Tryd.prog (fun _ _ => 0) default).world.heap[g]?).bind Obj.row?).isSome) = true := by kernel_rfl
theorem shaped_row {W : World} (h : W.ShapedOpen Tryd.prog) {b : Nat} (hb : b < Tryd.prog.globals.size) : ∃ cs t, W.heap[b]? = some (.cells cs t) := by
  have := List.all_eq_true.1 plain b (by simpa using hb)
  obtain ⟨⟨zero, t⟩, hz⟩ := Option.isSome_iff_exists.1 this
  obtain ⟨cs, hc, _⟩ := h.1 b zero t hb hz
  exact ⟨cs, t, hc⟩
theorem shaped_odd {W : World} (h : W.ShapedOpen Tryd.prog) : ∀ b, Odd W b → Tryd.prog.globals.size ≤ b := by
  intro b ⟨o, ho, hn⟩
  refine Nat.le_of_not_lt fun hb => ?_
  obtain ⟨cs, t, hc⟩ := shaped_row h hb
  rw [hc] at ho
  cases ho
  exact hn trivial
theorem shaped_size {W : World} (h : W.ShapedOpen Tryd.prog) : Tryd.prog.globals.size ≤ W.heap.size := by
  refine Nat.le_of_not_lt fun hb => ?_
  obtain ⟨cs, t, hc⟩ := shaped_row h hb
  simp at hc
end Go.Proofs.YtpiefebngnlfoaaDoor
