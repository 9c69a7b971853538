/-
  mosaickeep.Linear: the three lists of pieces.
-/
import Derived.Test.YtpiefebngnlfoaaLq
set_option linter.unusedVariables false
set_option linter.unusedSimpArgs false
namespace Go.Proofs.Ytpiefebngnlfoaa
open Go.RowKit Go.Conc Go.Vw

def linD (c : Code) : Code := tl (tl (tl (tl (linC c))))
theorem lin_eqC : linC (Try.f9.body.getD .skip) = .seq (hd (linC (Try.f9.body.getD .skip))) (.seq (hd (tl (linC (Try.f9.body.getD .skip)))) (.seq (hd (tl (tl (linC (Try.f9.body.getD .skip))))) (.seq (hd (tl (tl (tl (linC (Try.f9.body.getD .skip)))))) (linD (Try.f9.body.getD .skip))))) := rfl
set_option maxRecDepth 100000 in
set_option maxHeartbeats 2000000 in
theorem lin_c {S : Nat → Prop} {v0 v : World} {f : Nat → Value} (p1 p2 : Option Addr) (L cap1 cap2 by_ BS : Nat) (x1 x2 : Nat → Nat) (hk : Kp v0 (fun _ => False) v) (hg : Try.prog.globals.size ≤ v0.heap.size) (hL : L ≤ 400) (hb : by_ < 256) (hx1 : ∀ i, x1 i < 256) (hx2 : ∀ i, x2 i < 256) (h1 : SliceV v p1 L cap1 x1) (h2 : SliceV v p2 L cap2 x2)
    (hsum : v.heap[BS]? = some (.cells (bytesA L (sumOf by_ x1 x2)) 5)) (f0 : f 0 = .slice p1 L cap1) (f1 : f 1 = .slice p2 L cap2) (f2 : f 2 = .int .u8 (by_ : Nat)) (f7 : f 7 = .bool true) (f8 : f 8 = sl BS L)
    (next : ∀ (S' : Nat → Prop) (v' : World) (f : Nat → Value) (BX BY BZ : Nat) (PX PY PZ : Nat → Nat), Kp v0 (fun _ => False) v' → L14 v' BX PX ((L + 9) / 10) (cutOf x1 L) → L14 v' BY PY ((L + 9) / 10) (cutOf x2 L) → L14 v' BZ PZ ((L + 9) / 10) (cutOf (sumOf by_ x1 x2) L) → f 2 = .int .u8 (by_ : Nat) → f 10 = sl BX 14 → f 12 = sl BY 14 → f 14 = sl BZ 14 → LinR (linD (Try.f9.body.getD .skip)) S' v0 v' f) :
    LinR (linC (Try.f9.body.getD .skip)) S v0 v f := by
  intro Stop cs ret
  rw [lin_eqC]
  generalize linD (Try.f9.body.getD .skip) = LD at next ⊢
  simp only [linC, linB, hd, tl, Try.f9, Option.getD_some]
  have hgv := Nat.le_trans hg hk.size
  repeat (first|refine rA ?_|refine rB ?_|refine rC ?_|refine rD ?_|(refine rR ?_;simp only [tO, Nat.reduceAdd])|refine rE ?_|(refine rO goodFF rfl ?_;intro _ hu_ K_ hK_;go_simp;(try rw [wI _]);(try rw [wU _]);refine hK_ _ ?_;clear hK_ K_ hu_;simp only [sS, sN])|(refine rP rfl ?_;simp only [sS, sN]))
  (refine reach_callR rfl (by first | rfl | simp [Region.wanted, yielded, TA_get, *]) rfl Try.func13 (by kernel_rfl) rfl (by simp [Act.eval, *]; try rfl) (mcut_r L cap1 p1 x1 hL hx1 h1 hgv) ?_)
  rintro _ S1 v1 _ ⟨BX, PX, rfl, hpx⟩
  simp only [stO_some]
  repeat (first|refine rA ?_|refine rB ?_|refine rC ?_|refine rD ?_|(refine rR ?_;simp only [tO, Nat.reduceAdd])|refine rE ?_|(refine rO goodFF rfl ?_;intro _ hu_ K_ hK_;go_simp;(try rw [wI _]);(try rw [wU _]);refine hK_ _ ?_;clear hK_ K_ hu_;simp only [sS, sN])|(refine rP rfl ?_;simp only [sS, sN]))
  (refine reach_callR rfl (by first | rfl | simp [Region.wanted, yielded, TA_get, *]) rfl Try.func13 (by kernel_rfl) rfl (by simp [Act.eval, *]; try rfl) (mcut_r L cap2 p2 x2 hL hx2 (slice_kp hpx.kp h2) (Nat.le_trans hgv hpx.kp.size)) ?_)
  rintro _ S2 v2 _ ⟨BY, PY, rfl, hpy⟩
  simp only [stO_some]
  have hsx : ∀ i, sumOf by_ x1 x2 i < 256 := fun i => Fld.xor_lt (hx1 i) (Fld.mul_lt hb _)
  have hss : SliceV v2 (some ⟨BS, 0, none⟩) L L (sumOf by_ x1 x2) := slice_kp (hpx.kp.trans hpy.kp) (.inr ⟨BS, 0, rfl, Nat.le_refl _, fun j hj => by
    rw [Nat.zero_add]
    exact (cell_of_row _ BS j _ _ _ hsum).trans (bytesA_get L _ j hj)⟩)
  repeat (first|refine rA ?_|refine rB ?_|refine rC ?_|refine rD ?_|(refine rR ?_;simp only [tO, Nat.reduceAdd])|refine rE ?_|(refine rO goodFF rfl ?_;intro _ hu_ K_ hK_;go_simp;(try rw [wI _]);(try rw [wU _]);refine hK_ _ ?_;clear hK_ K_ hu_;simp only [sS, sN])|(refine rP rfl ?_;simp only [sS, sN]))
  (refine reach_callR rfl (by first | rfl | simp [Region.wanted, yielded, TA_get, *]) rfl Try.func13 (by kernel_rfl) rfl (by simp [Act.eval, *]; try rfl) (mcut_r L L (some ⟨BS, 0, none⟩) (sumOf by_ x1 x2) hL hsx hss (Nat.le_trans (Nat.le_trans hgv hpx.kp.size) hpy.kp.size)) ?_)
  rintro _ S3 v3 _ ⟨BZ, PZ, rfl, hpz⟩
  simp only [stO_some]
  repeat (first|refine rA ?_|refine rB ?_|refine rC ?_|refine rD ?_|(refine rR ?_;simp only [tO, Nat.reduceAdd])|refine rE ?_|(refine rO goodFF rfl ?_;intro _ hu_ K_ hK_;go_simp;(try rw [wI _]);(try rw [wU _]);refine hK_ _ ?_;clear hK_ K_ hu_;simp only [sS, sN])|(refine rP rfl ?_;simp only [sS, sN]))
  (refine reach_cond (t := false) (by simp [Act.eval]) ?_; simp only [if_true, if_false, reduceIte, Bool.false_eq_true])
  refine reach_skip ?_
  refine next S3 v3 _ BX BY BZ PX PY PZ (((hk.trans hpx.kp).trans hpy.kp).trans hpz.kp) ((hpx.l14.kp hpy.kp).kp hpz.kp) (hpy.l14.kp hpz.kp) hpz.l14 ?_ ?_ ?_ ?_ Stop cs ret
  · simp [f2]
  · simp
  · simp
  · simp
end Go.Proofs.Ytpiefebngnlfoaa
