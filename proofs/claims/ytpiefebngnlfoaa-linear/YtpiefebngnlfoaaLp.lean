/-
  mosaickeep.Linear: its body, in four parts.
-/
import Derived.Test.YtpiefebngnlfoaaLo
import Derived.Test.YtpiefebngnlfoaaLk
set_option linter.unusedVariables false
set_option linter.unusedSimpArgs false
namespace Go.Proofs.Ytpiefebngnlfoaa
open Go.RowKit Go.Conc Go.Vw

theorem pmul_r {S : Nat → Prop} {v : World} (a b : Nat) (ha : a < 256) (hb : b < 256) : CallsR Try.prog 10 #[.int .i64 (a : Nat), .int .i64 (b : Nat)] S v fun x S' v' => x = .int .i64 (Fld.mul a b : Nat) ∧ S' = S ∧ v' = v :=
  callsR_pure goodFF (by kernel_rfl) fun u => pmul_nat a b u ha hb
/-- The law's text, in parts. -/
def linB (c : Code) : Code := tl (tl (tl (tl (tl (tl c)))))
def linC (c : Code) : Code := tl (tl (linB c))

theorem lin_eqA : Try.f9.body.getD .skip = .seq (hd (Try.f9.body.getD .skip)) (.seq (hd (tl (Try.f9.body.getD .skip))) (.seq (hd (tl (tl (Try.f9.body.getD .skip)))) (.seq (hd (tl (tl (tl (Try.f9.body.getD .skip))))) (.seq (hd (tl (tl (tl (tl (Try.f9.body.getD .skip)))))) (.seq (hd (tl (tl (tl (tl (tl (Try.f9.body.getD .skip))))))) (linB (Try.f9.body.getD .skip))))))) := rfl
/-- The rest of Linear, from a point of its text on. -/
def LinR (c : Code) (S : Nat → Prop) (v0 v : World) (f : Nat → Value) : Prop :=
  ∀ (Stop : Goroutine → (Nat → Prop) → World → Prop) (cs : List Frame),
    (∀ (f' : Nat → Value) (todo : List Item) (S' : Nat → Prop) (v' : World), f' 6 = .bool true → Kp v0 (fun _ => False) v' → Vw.Reach Try.prog Stop (G { (base 9).at ⟨TA 171 f', []⟩ todo with mode := .returning } cs) S' v') →
    Vw.Reach Try.prog Stop (G ((base 9).at ⟨TA 171 f, []⟩ [.code c]) cs) S v

set_option maxRecDepth 100000 in
set_option maxHeartbeats 1000000 in
theorem lin_a {S : Nat → Prop} {v : World} (p1 p2 : Option Addr) (len1 cap1 len2 cap2 by_ : Nat) (x1 x2 : Nat → Nat) (h1 : SliceV v p1 len1 cap1 x1) (h2 : SliceV v p2 len2 cap2 x2) (hl1 : len1 < 2 ^ 63) (hl2 : len2 < 2 ^ 63) (hg : Try.prog.globals.size ≤ v.heap.size)
    (next : ∀ (S' : Nat → Prop) (v' : World) (f : Nat → Value) (L : Nat), Kp v (fun _ => False) v' → L ≤ 400 → SliceV v' p1 L cap1 x1 → SliceV v' p2 L cap2 x2 → f 0 = .slice p1 L cap1 → f 1 = .slice p2 L cap2 → f 2 = .int .u8 (by_ : Nat) → f 7 = .bool true → LinR (linB (Try.f9.body.getD .skip)) S' v v' f) :
    LinR (Try.f9.body.getD .skip) S v v (argF #[.slice p1 len1 cap1, .slice p2 len2 cap2, .int .u8 (by_ : Nat)]) := by
  intro Stop cs ret
  have g0 : argF #[.slice p1 len1 cap1, .slice p2 len2 cap2, .int .u8 (by_ : Nat)] 0 = .slice p1 len1 cap1 := rfl
  have g1 : argF #[.slice p1 len1 cap1, .slice p2 len2 cap2, .int .u8 (by_ : Nat)] 1 = .slice p2 len2 cap2 := rfl
  have g2 : argF #[.slice p1 len1 cap1, .slice p2 len2 cap2, .int .u8 (by_ : Nat)] 2 = .int .u8 (by_ : Nat) := rfl
  generalize argF #[.slice p1 len1 cap1, .slice p2 len2 cap2, .int .u8 (by_ : Nat)] = f at g0 g1 g2
  rw [lin_eqA]
  generalize linB (Try.f9.body.getD .skip) = LB at next ⊢
  simp only [hd, tl, Try.f9, Option.getD_some]
  repeat (first|refine rA ?_|refine rB ?_|refine rC ?_|refine rD ?_|(refine rR ?_;simp only [tO, Nat.reduceAdd])|refine rE ?_|(refine rO goodFF rfl ?_;intro _ hu_ K_ hK_;go_simp;(try rw [wI _]);(try rw [wU _]);refine hK_ _ ?_;clear hK_ K_ hu_;simp only [sS, sN])|(refine rP rfl ?_;simp only [sS, sN]))
  (refine reach_callR rfl (by first | rfl | simp [Region.wanted, yielded, TA_get, *]) rfl Try.func29 (by kernel_rfl) rfl (by simp [Act.eval, *]; try rfl) (alive_r hg) ?_)
  rintro _ S1 v1 hv1 ⟨rfl, hk1⟩
  simp only [stO_some]
  have q1 := slice_kp hk1 h1
  have q2 := slice_kp hk1 h2
  repeat (first|refine rA ?_|refine rB ?_|refine rC ?_|refine rD ?_|(refine rR ?_;simp only [tO, Nat.reduceAdd])|refine rE ?_|(refine rO goodFF rfl ?_;intro _ hu_ K_ hK_;go_simp;(try rw [wI _]);(try rw [wU _]);refine hK_ _ ?_;clear hK_ K_ hu_;simp only [sS, sN])|(refine rP rfl ?_;simp only [sS, sN]))
  (refine reach_callR rfl (by first | rfl | simp [Region.wanted, yielded, TA_get, *]) rfl Try.func30 (by kernel_rfl) rfl (by simp [Act.eval, *]; try rfl) (short_r len1 cap1 p1 x1 q1 hl1) ?_)
  rintro _ S2 w2 _ ⟨rfl, e1, e2⟩
  subst S2 w2
  simp only [stO_some]
  repeat (first|refine rA ?_|refine rB ?_|refine rC ?_|refine rD ?_|(refine rR ?_;simp only [tO, Nat.reduceAdd])|refine rE ?_|(refine rO goodFF rfl ?_;intro _ hu_ K_ hK_;go_simp;(try rw [wI _]);(try rw [wU _]);refine hK_ _ ?_;clear hK_ K_ hu_;simp only [sS, sN])|(refine rP rfl ?_;simp only [sS, sN]))
  (refine reach_callR rfl (by first | rfl | simp [Region.wanted, yielded, TA_get, *]) rfl Try.func30 (by kernel_rfl) rfl (by simp [Act.eval, *]; try rfl) (short_r len2 cap2 p2 x2 q2 hl2) ?_)
  rintro _ S2 w2 _ ⟨rfl, e1, e2⟩
  subst S2 w2
  simp only [stO_some]
  replace q1 := q1.head (Nat.min_le_left len1 400)
  replace q2 := q2.head (Nat.min_le_left len2 400)
  have m1 := Nat.min_le_right len1 400
  have m2 := Nat.min_le_right len2 400
  generalize min len1 400 = L1 at q1 m1 ⊢
  generalize min len2 400 = L2 at q2 m2 ⊢
  repeat (first|refine rA ?_|refine rB ?_|refine rC ?_|refine rD ?_|(refine rR ?_;simp only [tO, Nat.reduceAdd])|refine rE ?_|(refine rO goodFF rfl ?_;intro _ hu_ K_ hK_;go_simp;(try rw [wI _]);(try rw [wU _]);refine hK_ _ ?_;clear hK_ K_ hu_;simp only [sS, sN])|(refine rP rfl ?_;simp only [sS, sN]))
  by_cases hlt : L2 < L1
  · have hI : (L2 : Int) < (L1 : Int) := by omega
    obtain ⟨B1, o1, hp1, c1, b1⟩ : ∃ B off, p1 = some ⟨B, off, none⟩ ∧ L1 ≤ cap1 ∧ BytesAt v1 B off L1 x1 := by
      rcases q1 with ⟨_, h, _⟩ | h
      · omega
      · exact h
    subst hp1
    have hc1 : (L2 : Int) ≤ (cap1 : Int) := by omega
    (refine reach_cond (t := true) (by simp [Act.eval, hlt]) ?_; simp only [if_true, if_false, reduceIte, Bool.false_eq_true])
    rcases q2 with ⟨hp2, hL2, hcp⟩ | ⟨B2, o2, hp2, c2, b2⟩
    · subst hp2 hL2 hcp
      have hc0 : (0 : Int) ≤ (cap1 : Int) := by omega
      repeat (first|refine rA ?_|refine rB ?_|refine rC ?_|refine rD ?_|(refine rR ?_;simp only [tO, Nat.reduceAdd])|refine rE ?_|(refine rO goodFF rfl ?_;intro _ hu_ K_ hK_;go_simp;(try rw [wI _]);(try rw [wU _]);refine hK_ _ ?_;clear hK_ K_ hu_;simp only [sS, sN])|(refine rP rfl ?_;simp only [sS, sN]))
      refine next S1 v1 _ 0 hk1 (by omega) (.inr ⟨B1, o1, rfl, by omega, fun j hj => by omega⟩) (.inl ⟨rfl, rfl, rfl⟩) ?_ ?_ ?_ ?_ Stop cs ret
      all_goals simp [g2]
    · subst hp2
      have hc2 : (L2 : Int) ≤ (cap2 : Int) := by omega
      repeat (first|refine rA ?_|refine rB ?_|refine rC ?_|refine rD ?_|(refine rR ?_;simp only [tO, Nat.reduceAdd])|refine rE ?_|(refine rO goodFF rfl ?_;intro _ hu_ K_ hK_;go_simp;(try rw [wI _]);(try rw [wU _]);refine hK_ _ ?_;clear hK_ K_ hu_;simp only [sS, sN])|(refine rP rfl ?_;simp only [sS, sN]))
      refine next S1 v1 _ L2 hk1 (by omega) (.inr ⟨B1, o1, rfl, by omega, fun j hj => b1 j (by omega)⟩) (.inr ⟨B2, o2, rfl, c2, b2⟩) ?_ ?_ ?_ ?_ Stop cs ret
      all_goals simp [g2]
  · have hI : ¬ (L2 : Int) < (L1 : Int) := by omega
    (refine reach_cond (t := false) (by simp [Act.eval, hlt]) ?_; simp only [if_true, if_false, reduceIte, Bool.false_eq_true])
    rcases q2 with ⟨hp2, hL2, hcp⟩ | ⟨B2, o2, hp2, c2, b2⟩
    · subst hp2 hL2 hcp
      obtain rfl : L1 = 0 := by omega
      repeat (first|refine rA ?_|refine rB ?_|refine rC ?_|refine rD ?_|(refine rR ?_;simp only [tO, Nat.reduceAdd])|refine rE ?_|(refine rO goodFF rfl ?_;intro _ hu_ K_ hK_;go_simp;(try rw [wI _]);(try rw [wU _]);refine hK_ _ ?_;clear hK_ K_ hu_;simp only [sS, sN])|(refine rP rfl ?_;simp only [sS, sN]))
      refine next S1 v1 _ 0 hk1 (by omega) q1 (.inl ⟨rfl, rfl, rfl⟩) ?_ ?_ ?_ ?_ Stop cs ret
      all_goals simp [g2]
    · subst hp2
      have hc2 : (L1 : Int) ≤ (cap2 : Int) := by omega
      repeat (first|refine rA ?_|refine rB ?_|refine rC ?_|refine rD ?_|(refine rR ?_;simp only [tO, Nat.reduceAdd])|refine rE ?_|(refine rO goodFF rfl ?_;intro _ hu_ K_ hK_;go_simp;(try rw [wI _]);(try rw [wU _]);refine hK_ _ ?_;clear hK_ K_ hu_;simp only [sS, sN])|(refine rP rfl ?_;simp only [sS, sN]))
      refine next S1 v1 _ L1 hk1 (by omega) q1 (.inr ⟨B2, o2, rfl, by omega, fun j hj => b2 j (by omega)⟩) ?_ ?_ ?_ ?_ Stop cs ret
      all_goals simp [g2]
end Go.Proofs.Ytpiefebngnlfoaa
