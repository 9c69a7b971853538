/-
  mosaickeep.Any: up to four pieces are lost; Join, Mend.
-/
import Derived.Test.YtpiefebngnlfoaaLp
set_option linter.unusedVariables false
set_option linter.unusedSimpArgs false
namespace Go.Proofs.Ytpiefebngnlfoaa
open Go.RowKit Go.Conc Go.Vw

theorem any_eqC : anyC (Try.f8.body.getD .skip) = .seq (hd (anyC (Try.f8.body.getD .skip))) (anyD (Try.f8.body.getD .skip)) := rfl
/-- What is there still. -/
def leftQ (QB : Nat → Nat) (lo : Nat → Bool) (k : Nat) : Option Addr := if lo k = true then none else some ⟨QB k, 0, none⟩
theorem SomeL.lose {v w w1 : World} {m g r : Nat} {p : Nat → Nat → Nat} {QB cp : Nat → Nat} {lo : Nat → Bool} {cur : Array Value} (h : SomeL v m p g QB cp lo w) (hr : r < 14) (h1 : w.heap[g]? = some (.cells cur 25)) (h2 : 14 ≤ cur.size) (h3 : ∀ k, k < 14 → cur[k]? = some (if lo k = true then .slice none 0 0 else .slice (some ⟨QB k, 0, none⟩) m (cp k)))
    (hW : Wr w g (.cells (cur.setIfInBounds r (.slice none 0 0)) 25) w1) : SomeL v m p g QB cp (fun k => if k = r then true else lo k) w1 := by
  have gne : ∀ {b : Nat} {cc : Array Value}, w.heap[b]? = some (.cells cc 5) → b ≠ g := by
    rintro b cc hb rfl
    rw [h1] at hb
    simp at hb
  have hn := h.new
  refine ⟨⟨?_, fun b hb => ?_, ?_, ?_⟩, h.new, ⟨_, hW.at_, by simpa using h2, fun k hk => ?_⟩, fun i hi => ?_⟩
  · rw [hW.size]; exact h.ext.size
  · rw [hW.other b (by omega)]; exact h.ext.block b hb
  · rw [hW.os]; exact h.ext.os
  · rw [hW.output]; exact h.ext.output
  · by_cases e : k = r
    · subst e
      simp [show k < cur.size by omega]
    · rw [Array.getElem?_setIfInBounds_ne (by omega), h3 k hk]
      simp [e]
  · obtain ⟨r1, ⟨c, r2⟩, r3⟩ := h.el i hi
    refine ⟨r1, ⟨c, (hW.other _ (gne r2)).trans r2⟩, fun j hj => ?_⟩
    rw [← r3 j hj]
    exact World.cell?_of_block (hW.other _ (gne r2))

set_option maxRecDepth 100000 in
set_option maxHeartbeats 4000000 in
theorem any_c {S : Nat → Prop} {v0 v w : World} {f : Nat → Value} (p1 p2 : Option Addr) (L cap1 len2 cap2 BA m g cap : Nat) (p : Nat → Nat → Nat) (QB cp : Nat → Nat) (z : Nat → Int) (hz : ∀ j, -9223372036854775808 ≤ z j ∧ z j ≤ 9223372036854775807) (hl2 : len2 < 2 ^ 63) (h2 : IntsV v p2 len2 cap2 z) (hA : SomeL v m p g QB cp (fun _ => false) w) (hcap : 14 ≤ cap) (f0 : f 0 = .slice p1 L cap1) (f1 : f 1 = .slice p2 len2 cap2) (f6 : f 6 = sl BA 14) (f8 : f 8 = .slice (some ⟨g, 0, none⟩) 14 cap)
    (next : ∀ (w : World) (f : Nat → Value) (lo : Nat → Bool), SomeL v m p g QB cp lo w → 10 ≤ cntS (leftQ QB lo) 14 → f 0 = .slice p1 L cap1 → f 6 = sl BA 14 → f 8 = .slice (some ⟨g, 0, none⟩) 14 cap → AnR (anyD (Try.f8.body.getD .skip)) S v0 w f) :
    AnR (anyC (Try.f8.body.getD .skip)) S v0 w f := by
  intro Stop cs ret
  rw [any_eqC]
  generalize anyD (Try.f8.body.getD .skip) = LC at next ⊢
  simp only [anyC, anyB', hd, tl, Try.f8, Option.getD_some]
  repeat (first|refine rA ?_|refine rB ?_|refine rC ?_|refine rD ?_|(refine rR ?_;simp only [tO, Nat.reduceAdd])|refine rE ?_|(refine rO goodFF rfl ?_;intro _ hu_ K_ hK_;go_simp;(try rw [wI _]);(try rw [wU _]);refine hK_ _ ?_;clear hK_ K_ hu_;simp only [sS, sN])|(refine rP rfl ?_;simp only [sS, sN]))
  refine reach_rounds (fun d f' S' w => ∃ i lo, d = 4 - i ∧ i ≤ 4 ∧ S' = S ∧ SomeL v m p g QB cp lo w ∧ 14 ≤ cntS (leftQ QB lo) 14 + i ∧ f' 0 = .slice p1 L cap1 ∧ f' 1 = .slice p2 len2 cap2 ∧ f' 6 = sl BA 14 ∧ f' 8 = .slice (some ⟨g, 0, none⟩) 14 cap ∧ f' 11 = .int .i64 (i : Nat)) 4 ⟨0, _, by omega, by omega, rfl, hA, by rw [cntS_all 14 fun k _ => by simp [leftQ]]; omega, by simp [f0], by simp [f1], by simp [f6], by simp [f8], by simp⟩ ?_
  clear hA
  rintro d f' S' w ⟨i, lo, rfl, hi, eS, hA, hcnt, g0, g1, g6, g8, g11⟩ nxt
  subst S'
  by_cases hlt : i < len2
  · have hlI : (i : Int) < (len2 : Int) := by omega
    by_cases hl4 : i < 4
    · have h4I : (i : Int) < 4 := by omega
      obtain ⟨B2, o2, hp2, c2, b2⟩ : ∃ B off, p2 = some ⟨B, off, none⟩ ∧ len2 ≤ cap2 ∧ ∀ j, j < len2 → v.cell? ⟨B, off + j, none⟩ = some (.int .i64 (z j)) := by
        rcases h2 with ⟨_, h, _⟩ | h
        · omega
        · exact h
      subst hp2
      have hc2 := hA.ext.cell (b2 i hlt)
      repeat (first|refine rA ?_|refine rB ?_|refine rC ?_|refine rD ?_|(refine rR ?_;simp only [tO, Nat.reduceAdd])|refine rE ?_|(refine rO goodFF rfl ?_;intro _ hu_ K_ hK_;go_simp;(try rw [wI _]);(try rw [wU _]);refine hK_ _ ?_;clear hK_ K_ hu_;simp only [sS, sN])|(refine rP rfl ?_;simp only [sS, sN]))
      (refine reach_cond (t := true) (by simp [Act.eval]) ?_; simp only [if_true, if_false, reduceIte, Bool.false_eq_true])
      repeat (first|refine rA ?_|refine rB ?_|refine rC ?_|refine rD ?_|(refine rR ?_;simp only [tO, Nat.reduceAdd])|refine rE ?_|(refine rO goodFF rfl ?_;intro _ hu_ K_ hK_;(have hc := (Ext.twin hu_).cell hc2);go_simp;(try rw [wI _]);(try rw [wU _]);refine hK_ _ ?_;clear hK_ K_ hu_;simp only [sS, sN])|(refine rP rfl ?_;simp only [sS, sN]))
      (refine reach_callR rfl (by first | rfl | simp [Region.wanted, yielded, TA_get, *]) rfl Try.func31 (by kernel_rfl) rfl (by simp [Act.eval, *]; try rfl) (pick_r (z i) (hz i).1 (hz i).2) ?_)
      rintro _ S2 w2 _ ⟨⟨r, hr, rfl⟩, e1, e2⟩
      subst S2 w2
      have hrI : (r : Int) < 14 := by omega
      simp only [stO_some]
      repeat (first|refine rA ?_|refine rB ?_|refine rC ?_|refine rD ?_|(refine rR ?_;simp only [tO, Nat.reduceAdd])|refine rE ?_|(refine rO goodFF rfl ?_;intro _ hu_ K_ hK_;go_simp;(try rw [wI _]);(try rw [wU _]);refine hK_ _ ?_;clear hK_ K_ hu_;simp only [sS, sN])|(refine rP rfl ?_;simp only [sS, sN]))
      obtain ⟨cur, r1, r2, r3⟩ := hA.row
      refine reach_store1 goodFF rfl rfl (by kernel_rfl) (x := .tmp 76) (y := .const (.slice none 0 0)) (g := g) (j := r) (z := .slice none 0 0) rfl (by simp) rfl rfl rfl r1 (by omega) (by kernel_rfl) fun w3 hW => ?_
      simp only [stO_none]
      repeat (first|refine rA ?_|refine rB ?_|refine rC ?_|refine rD ?_|(refine rR ?_;simp only [tO, Nat.reduceAdd])|refine rE ?_|(refine rO goodFF rfl ?_;intro _ hu_ K_ hK_;go_simp;(try rw [wI _]);(try rw [wU _]);refine hK_ _ ?_;clear hK_ K_ hu_;simp only [sS, sN])|(refine rP rfl ?_;simp only [sS, sN]))
      refine nxt _ _ _ (4 - (i + 1)) (by omega) ⟨i + 1, _, rfl, by omega, rfl, hA.lose hr r1 r2 r3 hW, ?_, by simp [g0], by simp [g1], by simp [g6], by simp [g8], by simp⟩
      have := cntS_lose (q := leftQ QB lo) (q' := leftQ QB fun k => if k = r then true else lo k) (r := r) (fun k hk => by simp [leftQ, hk]) 14
      rw [if_pos hr] at this
      omega
    · have h4I : ¬ (i : Int) < 4 := by omega
      repeat (first|refine rA ?_|refine rB ?_|refine rC ?_|refine rD ?_|(refine rR ?_;simp only [tO, Nat.reduceAdd])|refine rE ?_|(refine rO goodFF rfl ?_;intro _ hu_ K_ hK_;go_simp;(try rw [wI _]);(try rw [wU _]);refine hK_ _ ?_;clear hK_ K_ hu_;simp only [sS, sN])|(refine rP rfl ?_;simp only [sS, sN]))
      (refine reach_cond (t := false) (by simp [Act.eval]) ?_; simp only [if_true, if_false, reduceIte, Bool.false_eq_true])
      refine reach_exit rfl ?_
      refine next w _ lo hA (by omega) ?_ ?_ ?_ Stop cs ret
      · simp [g0]
      · simp [g6]
      · simp [g8]
  · have hlI : ¬ (i : Int) < (len2 : Int) := by omega
    repeat (first|refine rA ?_|refine rB ?_|refine rC ?_|refine rD ?_|(refine rR ?_;simp only [tO, Nat.reduceAdd])|refine rE ?_|(refine rO goodFF rfl ?_;intro _ hu_ K_ hK_;go_simp;(try rw [wI _]);(try rw [wU _]);refine hK_ _ ?_;clear hK_ K_ hu_;simp only [sS, sN])|(refine rP rfl ?_;simp only [sS, sN]))
    (refine reach_cond (t := false) (by simp [Act.eval]) ?_; simp only [if_true, if_false, reduceIte, Bool.false_eq_true])
    refine reach_exit rfl ?_
    refine next w _ lo hA (by omega) ?_ ?_ ?_ Stop cs ret
    · simp [g0]
    · simp [g6]
    · simp [g8]
end Go.Proofs.Ytpiefebngnlfoaa

/-
  mosaickeep.Any: Join and Mend of what is left, and that it is what it was.
-/
set_option linter.unusedVariables false
set_option linter.unusedSimpArgs false
namespace Go.Proofs.Ytpiefebngnlfoaa
open Go.RowKit Go.Conc Go.Vw

theorem any_eqD : anyD (Try.f8.body.getD .skip) = .seq (hd (anyD (Try.f8.body.getD .skip))) (.seq (hd (tl (anyD (Try.f8.body.getD .skip)))) (.seq (hd (tl (tl (anyD (Try.f8.body.getD .skip))))) (anyE (Try.f8.body.getD .skip)))) := rfl
theorem SomeL.pl {v w : World} {m g : Nat} {p : Nat → Nat → Nat} {QB cp : Nat → Nat} {lo : Nat → Bool} (h : SomeL v m p g QB cp lo w) : PL w g 0 (leftQ QB lo) (fun k => if lo k = true then 0 else m) (fun k => if lo k = true then 0 else cp k) p := by
  obtain ⟨cur, r1, r2, r3⟩ := h.row
  refine ⟨fun k hk => ?_, fun k hk => ?_⟩
  · rw [Nat.zero_add, cell_of_row _ g k _ _ _ r1, r3 k hk]
    unfold leftQ
    by_cases e : lo k = true <;> simp [e]
  · unfold leftQ
    by_cases e : lo k = true
    · simp only [e, if_true]
      exact .inl ⟨rfl, rfl, rfl⟩
    · obtain ⟨q1, _, q3⟩ := h.el k hk
      simp only [e, if_false]
      exact .inr ⟨QB k, 0, rfl, q1, q3⟩
theorem leftQ_len {QB : Nat → Nat} {lo : Nat → Bool} {m : Nat} : ∀ k, k < 14 → (leftQ QB lo k).isSome = true → (if lo k = true then 0 else m) = m := by
  intro k _ h
  unfold leftQ at h
  by_cases e : lo k = true
  · simp [e] at h
  · simp [e]
/-- The first ten of those that are there are ten, in order. -/
theorem kn_ok {q : Nat → Option Addr} (h : 10 ≤ cntS q 14) : (ftC q 14).1 = 10 ∧ (∀ i, i < 10 → (ftC q 14).2 i < 14) ∧ ∀ i j, i < 10 → j < 10 → (ftC q 14).2 i = (ftC q 14).2 j → i = j := by
  have h1 : (ftC q 14).1 = 10 := by rw [ftC_cnt]; omega
  have h2 := ftC_kn q 14
  rw [h1] at h2
  refine ⟨h1, fun i hi => (h2 i hi).1, fun i j hi hj e => ?_⟩
  rcases Nat.lt_trichotomy i j with hlt | he | hgt
  · have := (h2 j hj).2.2 i hlt
    omega
  · exact he
  · have := (h2 i hi).2.2 j hgt
    omega
theorem mmend_r {S : Nat → Prop} {v : World} (BL ol cl m : Nat) (q : Nat → Option Addr) (ln cp : Nat → Nat) (y : Nat → Nat → Nat) (hP : PL v BL ol q ln cp y) (hm : ∀ k, k < 14 → (q k).isSome = true → ln k = m) (hm4 : m ≤ 400) (h10 : (ftC q 14).1 = 10) (hy : ∀ k i, y k i < 256) (hg : Try.prog.globals.size ≤ v.heap.size) :
    CallsR Try.prog 21 #[.slice (some ⟨BL, ol, none⟩) 14 cl] S v fun x S' v' => ∃ BA PB, x = .tuple #[sl BA 14, .int .i64 0] ∧ Pieces v BA PB m (mendOf (ftC q 14).2 y) v' :=
  mmend_of ((mend_r BL ol cl m q ln cp y hP hm hm4 h10 hy hg).mono fun y S' v' _ q => let ⟨BA, PB, e, hp⟩ := q; ⟨sl BA 14, .int .i64 0, e, BA, PB, e, hp⟩)
theorem mjoin_r {S : Nat → Prop} {v : World} (s : Value) (m n : Nat) (p : Nat → Nat → Nat) (hm : m ≤ 400) (hn : n ≤ 10 * m) (hmend : CallsR Try.prog 38 #[s] S v fun x S' v' => ∃ BA PB, x = .tuple #[sl BA 14, .int .i64 0] ∧ Pieces v BA PB m p v') :
    CallsR Try.prog 25 #[s, .int .i64 (n : Nat)] S v fun x S' v' => ∃ BV, x = .tuple #[sl BV n, .int .i64 0] ∧ v.heap.size ≤ BV ∧ JI v BV n (fun i => p (i / m) (i % m)) v' :=
  mjoin_of ((join_r s m n p hm hn hmend).mono fun y S' v' _ q => let ⟨BV, e, hp⟩ := q; ⟨sl BV n, .int .i64 0, e, BV, e, hp⟩)
/-- The value, of its rows. -/
theorem cut_rows (x : Nat → Nat) (L i : Nat) (h : i < L) : cutOf x L (i / ((L + 9) / 10)) (i % ((L + 9) / 10)) = x i := by
  have hm : 0 < (L + 9) / 10 := by omega
  have h1 : i / ((L + 9) / 10) < 10 := by
    rw [Nat.div_lt_iff_lt_mul hm]
    omega
  have h2 : i / ((L + 9) / 10) * ((L + 9) / 10) + i % ((L + 9) / 10) = i := Nat.div_add_mod' _ _
  unfold cutOf
  rw [if_pos h1]
  unfold rowOf
  rw [h2, if_pos h]

set_option maxRecDepth 100000 in
set_option maxHeartbeats 4000000 in
theorem any_d {S : Nat → Prop} {v0 v w : World} {f : Nat → Value} (p1 : Option Addr) (L cap1 BA g cap : Nat) (PA : Nat → Nat) (x : Nat → Nat) (QB cp : Nat → Nat) (lo : Nat → Bool) (hx : ∀ i, x i < 256) (hL : L ≤ 400) (hg : Try.prog.globals.size ≤ v0.heap.size) (hk : Kp v0 (fun _ => False) v) (h1 : SliceV v p1 L cap1 x) (hp : L14 v BA PA ((L + 9) / 10) (cutOf x L)) (hA : SomeL v ((L + 9) / 10) (cutOf x L) g QB cp lo w) (hcnt : 10 ≤ cntS (leftQ QB lo) 14) (f0 : f 0 = .slice p1 L cap1) (f6 : f 6 = sl BA 14) (f8 : f 8 = .slice (some ⟨g, 0, none⟩) 14 cap)
    (next : ∀ (S' : Nat → Prop) (w : World) (f : Nat → Value) (BV BL : Nat) (PL : Nat → Nat), Kp v0 (fun _ => False) w → SliceV w p1 L cap1 x → SliceV w (some ⟨BV, 0, none⟩) L L x → L14 w BA PA ((L + 9) / 10) (cutOf x L) → L14 w BL PL ((L + 9) / 10) (cutOf x L) → f 0 = .slice p1 L cap1 → f 6 = sl BA 14 → f 12 = sl BV L → f 14 = sl BL 14 → AnR (anyE (Try.f8.body.getD .skip)) S' v0 w f) :
    AnR (anyD (Try.f8.body.getD .skip)) S v0 w f := by
  intro Stop cs ret
  rw [any_eqD]
  generalize anyE (Try.f8.body.getD .skip) = LC at next ⊢
  simp only [anyD, anyC, anyB', hd, tl, Try.f8, Option.getD_some]
  obtain ⟨h10, hk14, hinj⟩ := kn_ok hcnt
  have hm : (L + 9) / 10 ≤ 400 := by omega
  have hkw : Kp v (fun _ => False) w := (Kp.refl v _).ext hA.ext
  have hgw := Nat.le_trans hg (hk.trans hkw).size
  have hy : ∀ k i, cutOf x L k i < 256 := fun k i => cut_lt hx L k i
  repeat (first|refine rA ?_|refine rB ?_|refine rC ?_|refine rD ?_|(refine rR ?_;simp only [tO, Nat.reduceAdd])|refine rE ?_|(refine rO goodFF rfl ?_;intro _ hu_ K_ hK_;go_simp;(try rw [wI _]);(try rw [wU _]);refine hK_ _ ?_;clear hK_ K_ hu_;simp only [sS, sN])|(refine rP rfl ?_;simp only [sS, sN]))
  (refine reach_callR rfl (by first | rfl | simp [Region.wanted, yielded, TA_get, *]) rfl Try.func25 (by kernel_rfl) rfl (by simp [Act.eval, *]; try rfl) (mjoin_r (.slice (some ⟨g, 0, none⟩) 14 cap) ((L + 9) / 10) L (mendOf (ftC (leftQ QB lo) 14).2 (cutOf x L)) hm (by omega) (mend_r g 0 cap ((L + 9) / 10) (leftQ QB lo) _ _ (cutOf x L) hA.pl leftQ_len hm h10 hy hgw)) ?_)
  rintro _ S1 w1 _ ⟨BV, rfl, hBV, hJ⟩
  simp only [stO_some]
  repeat (first|refine rA ?_|refine rB ?_|refine rC ?_|refine rD ?_|(refine rR ?_;simp only [tO, Nat.reduceAdd])|refine rE ?_|(refine rO goodFF rfl ?_;intro _ hu_ K_ hK_;go_simp;(try rw [wI _]);(try rw [wU _]);refine hK_ _ ?_;clear hK_ K_ hu_;simp only [sS, sN])|(refine rP rfl ?_;simp only [sS, sN]))
  (refine reach_callR rfl (by first | rfl | simp [Region.wanted, yielded, TA_get, *]) rfl Try.func21 (by kernel_rfl) rfl (by simp [Act.eval, *]; try rfl) (mmend_r g 0 cap ((L + 9) / 10) (leftQ QB lo) _ _ (cutOf x L) (hA.pl.kp hJ.kp) leftQ_len hm h10 hy (Nat.le_trans hgw hJ.kp.size)) ?_)
  rintro _ S2 w2 _ ⟨BL, PL, rfl, hM⟩
  simp only [stO_some]
  repeat (first|refine rA ?_|refine rB ?_|refine rC ?_|refine rD ?_|(refine rR ?_;simp only [tO, Nat.reduceAdd])|refine rE ?_|(refine rO goodFF rfl ?_;intro _ hu_ K_ hK_;go_simp;(try rw [wI _]);(try rw [wU _]);refine hK_ _ ?_;clear hK_ K_ hu_;simp only [sS, sN])|(refine rP rfl ?_;simp only [sS, sN]))
  (refine reach_cond (t := false) (by simp [Act.eval]) ?_; simp only [if_true, if_false, reduceIte, Bool.false_eq_true])
  refine reach_skip ?_
  have hkv : Kp v (fun _ => False) w2 := (hkw.trans hJ.kp).trans hM.kp
  refine next S2 w2 _ BV BL PL (hk.trans hkv) (slice_kp hkv h1) ?_ (hp.kp hkv) ⟨hM.ba, fun k hk => ?_⟩ ?_ ?_ ?_ ?_ Stop cs ret
  · refine .inr ⟨BV, 0, rfl, Nat.le_refl _, fun j hj => ?_⟩
    have hb := hM.kp.cells _ _ _ _ (fun x => x) hJ.bv
    rw [Nat.zero_add, cell_of_row _ BV j _ _ _ hb, bytesA_get L _ j hj]
    have hq : j / ((L + 9) / 10) < 14 := by
      rw [Nat.div_lt_iff_lt_mul (by omega)]
      omega
    rw [mend_cut hx L hk14 hinj hq, cut_rows x L j hj]
  · rw [hM.pb k hk, bytesA_congr (g := cutOf x L k) fun i _ => mend_cut hx L hk14 hinj hk i]
  · simp [f0]
  · simp [f6]
  · simp
  · simp

set_option maxRecDepth 100000 in
set_option maxHeartbeats 4000000 in
theorem any_e {S : Nat → Prop} {v0 v : World} {f : Nat → Value} (p1 : Option Addr) (L cap1 BA BV BL : Nat) (PA PL : Nat → Nat) (x : Nat → Nat) (hL : L ≤ 400) (hk : Kp v0 (fun _ => False) v) (h1 : SliceV v p1 L cap1 x) (h2 : SliceV v (some ⟨BV, 0, none⟩) L L x) (hp : L14 v BA PA ((L + 9) / 10) (cutOf x L)) (hq : L14 v BL PL ((L + 9) / 10) (cutOf x L)) (f0 : f 0 = .slice p1 L cap1) (f6 : f 6 = sl BA 14) (f12 : f 12 = sl BV L) (f14 : f 14 = sl BL 14) :
    AnR (anyE (Try.f8.body.getD .skip)) S v0 v f := by
  intro Stop cs ret
  have hm : (L + 9) / 10 ≤ 400 := by omega
  generalize (L + 9) / 10 = m at *
  generalize cutOf x L = p at *
  simp only [anyE, anyD, anyC, anyB', hd, tl, Try.f8, Option.getD_some]
  repeat (first|refine rA ?_|refine rB ?_|refine rC ?_|refine rD ?_|(refine rR ?_;simp only [tO, Nat.reduceAdd])|refine rE ?_|(refine rO goodFF rfl ?_;intro _ hu_ K_ hK_;go_simp;(try rw [wI _]);(try rw [wU _]);refine hK_ _ ?_;clear hK_ K_ hu_;simp only [sS, sN])|(refine rP rfl ?_;simp only [sS, sN]))
  refine reach_rounds (fun d f' S' v' => ∃ j, d = 14 - j ∧ j ≤ 14 ∧ S' = S ∧ v' = v ∧ f' 0 = .slice p1 L cap1 ∧ f' 6 = sl BA 14 ∧ f' 12 = sl BV L ∧ f' 14 = sl BL 14 ∧ f' 16 = .int .i64 (j : Nat)) 14 ⟨0, by omega, by omega, rfl, rfl, by simp [f0], by simp [f6], by simp [f12], by simp [f14], by simp⟩ ?_
  rintro d f' S' v' ⟨j, rfl, hj, eS, eV, g0, g6, g12, g14, g16⟩ next
  subst S' v'
  repeat (first|refine rA ?_|refine rB ?_|refine rC ?_|refine rD ?_|(refine rR ?_;simp only [tO, Nat.reduceAdd])|refine rE ?_|(refine rO goodFF rfl ?_;intro _ hu_ K_ hK_;go_simp;(try rw [wI _]);(try rw [wU _]);refine hK_ _ ?_;clear hK_ K_ hu_;simp only [sS, sN])|(refine rP rfl ?_;simp only [sS, sN]))
  by_cases hlt : j < 14
  · have hjI : (j : Int) < 14 := by omega
    have cx := hq.piece hlt
    have cy := hp.piece hlt
    have sx : SliceV v (some ⟨PL j, 0, none⟩) m m (p j) := .inr ⟨PL j, 0, rfl, Nat.le_refl _, fun i hi => by rw [Nat.zero_add]; exact hq.byte hlt hi⟩
    have sy : SliceV v (some ⟨PA j, 0, none⟩) m m (p j) := .inr ⟨PA j, 0, rfl, Nat.le_refl _, fun i hi => by rw [Nat.zero_add]; exact hp.byte hlt hi⟩
    (refine reach_cond (t := true) (by simp [Act.eval, hjI]) ?_; simp only [if_true, if_false, reduceIte, Bool.false_eq_true])
    repeat (first|refine rA ?_|refine rB ?_|refine rC ?_|refine rD ?_|(refine rR ?_;simp only [tO, Nat.reduceAdd])|refine rE ?_|(refine rO goodFF rfl ?_;intro _ hu_ K_ hK_;go_simp;(try rw [wI _]);(try rw [wU _]);refine hK_ _ ?_;clear hK_ K_ hu_;simp only [sS, sN])|(refine rP rfl ?_;simp only [sS, sN]))
    refine reach_draw goodFF (by first | kernel_rfl | rfl) ?_
    simp only [List.size_toArray, List.length_cons, List.length_nil, Nat.reduceAdd, Nat.zero_add]
    co_applyP rT (i := 0) rfl (fun _ hu_ => run_eq_of ?u1_0) ?v1_0
    case u1_0 => intro K_ hK_;go_simp;(try rw [wI _]);(try rw [wU _]);exact hK_
    simp only [sS, sN]
    co_applyP rT (i := 1) rfl (fun _ hu_ => run_eq_of ?u1_1) ?v1_1
    case u1_1 => intro K_ hK_;go_simp;(try rw [wI _]);(try rw [wU _]);exact hK_
    simp only [sS, sN]
    co_applyP rT (i := 2) rfl (fun _ hu_ => run_eq_of ?u1_2) ?v1_2
    case u1_2 => intro K_ hK_;go_simp;(try rw [wI _]);(try rw [wU _]);exact hK_
    simp only [sS, sN]
    co_applyP rT (i := 3) rfl (fun _ hu_ => run_eq_of ?u2) ?v2
    case u2 => intro K_ hK_;(have hc := (Ext.twin hu_).cell cx);go_simp;(try rw [wI _]);(try rw [wU _]);exact hK_
    simp only [sS, sN]
    co_applyP rT (i := 4) rfl (fun _ hu_ => run_eq_of ?u3_4) ?v3_4
    case u3_4 => intro K_ hK_;go_simp;(try rw [wI _]);(try rw [wU _]);exact hK_
    simp only [sS, sN]
    co_applyP rT (i := 5) rfl (fun _ hu_ => run_eq_of ?u3_5) ?v3_5
    case u3_5 => intro K_ hK_;go_simp;(try rw [wI _]);(try rw [wU _]);exact hK_
    simp only [sS, sN]
    co_applyP rT (i := 6) rfl (fun _ hu_ => run_eq_of ?u3_6) ?v3_6
    case u3_6 => intro K_ hK_;go_simp;(try rw [wI _]);(try rw [wU _]);exact hK_
    simp only [sS, sN]
    co_applyP rT (i := 7) rfl (fun _ hu_ => run_eq_of ?u4) ?v4
    case u4 => intro K_ hK_;(have hc := (Ext.twin hu_).cell cy);go_simp;(try rw [wI _]);(try rw [wU _]);exact hK_
    simp only [sS, sN]
    co_applyP anyR_take (i := 8) rfl (by first | kernel_rfl | decide +kernel) (by first | kernel_rfl | decide +kernel) (by first | kernel_rfl | decide +kernel) (.inl ⟨(by first | rfl | (simp [Region.wanted, yielded, TA_get, *]; done)), .inr ⟨_, _, _, _, _, rfl, Try.func32, (by kernel_rfl), rfl, ?run5⟩⟩) ?rest5
    case run5 =>
      simp [Act.eval, *]
      exact same_r _ _ m m m (p j) (p j) hm sx sy fun _ _ => rfl
    simp only [stO_some, stO_none]
    co_applyP rT (i := 9) rfl (fun _ hu_ => run_eq_of ?u6) ?v6
    case u6 => intro K_ hK_;go_simp;(try rw [wI _]);(try rw [wU _]);exact hK_
    simp only [sS, sN]
    refine anyR_done (by first | kernel_rfl | decide +kernel) ?_ _
    repeat (first|refine rA ?_|refine rB ?_|refine rC ?_|refine rD ?_|(refine rR ?_;simp only [tO, Nat.reduceAdd])|refine rE ?_|(refine rO goodFF rfl ?_;intro _ hu_ K_ hK_;go_simp;(try rw [wI _]);(try rw [wU _]);refine hK_ _ ?_;clear hK_ K_ hu_;simp only [sS, sN])|(refine rP rfl ?_;simp only [sS, sN]))
    (refine reach_cond (t := false) (by simp [Act.eval]) ?_; simp only [if_true, if_false, reduceIte, Bool.false_eq_true])
    repeat (first|refine rA ?_|refine rB ?_|refine rC ?_|refine rD ?_|(refine rR ?_;simp only [tO, Nat.reduceAdd])|refine rE ?_|(refine rO goodFF rfl ?_;intro _ hu_ K_ hK_;go_simp;(try rw [wI _]);(try rw [wU _]);refine hK_ _ ?_;clear hK_ K_ hu_;simp only [sS, sN])|(refine rP rfl ?_;simp only [sS, sN]))
    refine next _ _ _ (14 - (j + 1)) (by omega) ⟨j + 1, rfl, by omega, rfl, rfl, by simp [g0], by simp [g6], by simp [g12], by simp [g14], by simp⟩
  · obtain rfl : j = 14 := by omega
    (refine reach_cond (t := false) (by simp [Act.eval, g16]) ?_; simp only [if_true, if_false, reduceIte, Bool.false_eq_true])
    refine reach_exit rfl ?_
    repeat (first|refine rA ?_|refine rB ?_|refine rC ?_|refine rD ?_|(refine rR ?_;simp only [tO, Nat.reduceAdd])|refine rE ?_|(refine rO goodFF rfl ?_;intro _ hu_ K_ hK_;go_simp;(try rw [wI _]);(try rw [wU _]);refine hK_ _ ?_;clear hK_ K_ hu_;simp only [sS, sN])|(refine rP rfl ?_;simp only [sS, sN]))
    (refine reach_callR rfl (by first | rfl | simp [Region.wanted, yielded, TA_get, *]) rfl Try.func32 (by kernel_rfl) rfl (by simp [Act.eval, *]; try rfl) (same_r _ p1 L L cap1 x x hL h2 h1 fun _ _ => rfl) ?_)
    rintro _ S1 w1 _ ⟨rfl, e1, e2⟩
    subst S1 w1
    simp only [stO_some]
    repeat (first|refine rA ?_|refine rB ?_|refine rC ?_|refine rD ?_|(refine rR ?_;simp only [tO, Nat.reduceAdd])|refine rE ?_|(refine rO goodFF rfl ?_;intro _ hu_ K_ hK_;go_simp;(try rw [wI _]);(try rw [wU _]);refine hK_ _ ?_;clear hK_ K_ hu_;simp only [sS, sN])|(refine rP rfl ?_;simp only [sS, sN]))
    refine reach_ret fun todo => ?_
    exact ret _ _ _ _ (by simp) hk
end Go.Proofs.Ytpiefebngnlfoaa
