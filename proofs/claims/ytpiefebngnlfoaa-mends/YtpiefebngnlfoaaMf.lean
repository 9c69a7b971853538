/-
  The statement Mends: for every list the function mosaiclaw.Mends answers true (every Mend is the document's answer, what is handed in stays as it was, and what comes out is the caller's own), its call ends without a race whatever order its goroutines run in, and all that was there before reads as it did. No condition.
-/
import Derived.Test.YtpiefebngnlfoaaMe
set_option linter.unusedVariables false
set_option linter.unusedSimpArgs false
namespace Go.Proofs.Ytpiefebngnlfoaa
open Go.RowKit Go.Conc Go.Vw

/-- The rest of Mends, from a point of its text on. -/
def MnR (c : Code) (S : Nat → Prop) (v0 v : World) (f : Nat → Value) : Prop :=
  ∀ (Stop : Goroutine → (Nat → Prop) → World → Prop) (cs : List Frame),
    (∀ (f' : Nat → Value) (todo : List Item) (S' : Nat → Prop) (v' : World), f' 2 = .bool true → Kp v0 (fun _ => False) v' → Vw.Reach Try.prog Stop (G { (base 6).at ⟨TA 79 f', []⟩ todo with mode := .returning } cs) S' v') →
    Vw.Reach Try.prog Stop (G ((base 6).at ⟨TA 79 f, []⟩ [.code c]) cs) S v
theorem nils_err {ln : Nat → Nat} : mendErr (fun _ => none) ln = 2 := by
  have h1 : okL (fun _ => none) ln 14 = true := by simp [okL]
  have h2 : anyB (fun _ => none) 14 = false := by rfl
  have h3 : cntR (fun _ => none) 14 = 0 := by simp [cntR]
  unfold mendErr
  rw [if_pos ⟨h1, fun h => by rw [h2] at h; cases h⟩, h3]
  rfl
set_option maxRecDepth 100000 in
set_option maxHeartbeats 8000000 in
theorem mends_whole {S : Nat → Prop} {v : World} (p : Option Addr) (n c : Nat) (q : Nat → Option Addr) (ln cp : Nat → Nat) (y : Nat → Nat → Nat) (hy : ∀ k i, y k i < 256) (hn : n < 5864062014805) (hln : ∀ i, i < n → ln i < 140737488355328) (hs : ListE v p n c q ln cp y) (hg : Try.prog.globals.size ≤ v.heap.size) :
    MnR (Try.f6.body.getD .skip) S v v (argF #[.slice p n c]) := by
  intro Stop cs ret
  have g0 : argF #[.slice p n c] 0 = .slice p n c := rfl
  generalize argF #[.slice p n c] = f at g0
  simp only [Try.f6, Option.getD_some]
  repeat (first|refine rA ?_|refine rB ?_|refine rC ?_|refine rD ?_|(refine rR ?_;simp only [tO, Nat.reduceAdd])|refine rE ?_|(refine rO goodFF rfl ?_;intro _ hu_ K_ hK_;go_simp;(try rw [wI _]);(try rw [wU _]);refine hK_ _ ?_;clear hK_ K_ hu_;simp only [sS, sN])|(refine rP rfl ?_;simp only [sS, sN]))
  refine reach_turnQ (Q := fun y w => y = .pointer (some ⟨v.heap.size, 0, none⟩) ∧ Ext v w ∧ w.heap[v.heap.size]? = some (.cells #[.slice none 0 0, .slice none 0 0, .slice none 0 0, .slice none 0 0] 32)) goodFF rfl rfl (by kernel_rfl) (fun u hu => ⟨_, _, .inl (run_box (x := .tmp 16) (y := .agg #[.slice none 0 0, .slice none 0 0, .slice none 0 0, .slice none 0 0]) rfl (by simp) u), by rw [hu.heap], (Ext.twin hu).trans _ _ _ (Ext.alloc _ _), by rw [← hu.heap]; exact alloc_at _ _⟩) ?_
  rintro _ w0 ⟨rfl, hE0, hr0⟩
  simp only [stO_some]
  repeat (first|refine rA ?_|refine rB ?_|refine rC ?_|refine rD ?_|(refine rR ?_;simp only [tO, Nat.reduceAdd])|refine rE ?_|(refine rO goodFF rfl ?_;intro _ hu_ K_ hK_;go_simp;(try rw [wI _]);(try rw [wU _]);refine hK_ _ ?_;clear hK_ K_ hu_;simp only [sS, sN])|(refine rP rfl ?_;simp only [sS, sN]))
  refine reach_rounds (fun d f' S' w => ∃ k O nb nl bv lv, d = 2 - k ∧ k ≤ 2 ∧ (Book v.heap.size v.heap.size O nb nl bv lv w ∧ nb ≤ 14 * k ∧ nl ≤ k ∧ Kp v (fun _ => False) w) ∧ f' 0 = .slice p n c ∧ f' 3 = .pointer (some ⟨v.heap.size, 0, none⟩) ∧ f' 4 = .int .i64 (k : Nat)) 2 ⟨0, _, 0, 0, _, _, by omega, by omega, ⟨Book.start hE0 hr0, by omega, by omega, kp_ext hE0⟩, by simp [g0], by simp, by simp⟩ ?_
  clear hE0 hr0 g0 w0 f
  rintro d f S0 w ⟨k, O, nb, nl, bv, lv, rfl, hk, ⟨hB, hnb, hnl, hK⟩, g0, g3, g4⟩ nxt
  repeat (first|refine rA ?_|refine rB ?_|refine rC ?_|refine rD ?_|(refine rR ?_;simp only [tO, Nat.reduceAdd])|refine rE ?_|(refine rO goodFF rfl ?_;intro _ hu_ K_ hK_;go_simp;(try rw [wI _]);(try rw [wU _]);refine hK_ _ ?_;clear hK_ K_ hu_;simp only [sS, sN])|(refine rP rfl ?_;simp only [sS, sN]))
  by_cases hlt : k < 2
  · have hkI : (k : Int) < 2 := by omega
    (refine reach_cond (t := true) (by simp [Act.eval, hkI]) ?_; simp only [if_true, if_false, reduceIte, Bool.false_eq_true])
    repeat (first|refine rA ?_|refine rB ?_|refine rC ?_|refine rD ?_|(refine rR ?_;simp only [tO, Nat.reduceAdd])|refine rE ?_|(refine rO goodFF rfl ?_;intro _ hu_ K_ hK_;go_simp;(try rw [wI _]);(try rw [wU _]);refine hK_ _ ?_;clear hK_ K_ hu_;simp only [sS, sN])|(refine rP rfl ?_;simp only [sS, sN]))
    (refine reach_callR rfl (by first | rfl | simp [Region.wanted, yielded, TA_get, *]) rfl Try.func20 (by kernel_rfl) rfl (by simp [Act.eval, *]; try rfl) (roomsV_r p n c q ln cp y hn hln (hs.kp hK)) ?_)
    rintro _ S1 w1 _ ⟨e1, po, co, pw, cw, RO, MB, RW, pr, cr, rfl, hE1, hpp, hR1⟩
    subst S1
    simp only [stO_some]
    have hgs : Try.prog.globals.size ≤ w1.heap.size := Nat.le_trans hg (Nat.le_trans hK.size hE1.size)
    repeat (first|refine rA ?_|refine rB ?_|refine rC ?_|refine rD ?_|(refine rR ?_;simp only [tO, Nat.reduceAdd])|refine rE ?_|(refine rO goodFF rfl ?_;intro _ hu_ K_ hK_;go_simp;(try rw [wI _]);(try rw [wU _]);refine hK_ _ ?_;clear hK_ K_ hu_;simp only [sS, sN])|(refine rP rfl ?_;simp only [sS, sN]))
    (refine reach_callR rfl (by first | rfl | simp [Region.wanted, yielded, TA_get, *]) rfl Try.func21 (by kernel_rfl) rfl (by simp [Act.eval, *]; try rfl) (mendL_r po n co pr ln cr y hy hR1.list hgs) ?_)
    rintro _ S2 w2 _ ⟨pl, kk, ee, BA, PB, rfl, hk2, hC2⟩
    simp only [stO_some]
    have hK2 := (hK.ext hE1).trans hk2
    replace hC2 := hC2.congr hR1.some
    repeat (first|refine rA ?_|refine rB ?_|refine rC ?_|refine rD ?_|(refine rR ?_;simp only [tO, Nat.reduceAdd])|refine rE ?_|(refine rO goodFF rfl ?_;intro _ hu_ K_ hK_;go_simp;(try rw [wI _]);(try rw [wU _]);refine hK_ _ ?_;clear hK_ K_ hu_;simp only [sS, sN])|(refine rP rfl ?_;simp only [sS, sN]))
    (refine reach_callR rfl (by first | rfl | simp [Region.wanted, yielded, TA_get, *]) rfl Try.func22 (by kernel_rfl) rfl (by simp [Act.eval, *]; try rfl) (rmendL_r p n c q ln cp y hy (hs.kp hK2) hln) ?_)
    rintro _ S3 w3 _ ⟨z, e', rfl, e3, hE3, hC3⟩
    subst S3
    simp only [stO_some]
    repeat (first|refine rA ?_|refine rB ?_|refine rC ?_|refine rD ?_|(refine rR ?_;simp only [tO, Nat.reduceAdd])|refine rE ?_|(refine rO goodFF rfl ?_;intro _ hu_ K_ hK_;go_simp;(try rw [wI _]);(try rw [wU _]);refine hK_ _ ?_;clear hK_ K_ hu_;simp only [sS, sN])|(refine rP rfl ?_;simp only [sS, sN]))
    (refine reach_callR rfl (by first | rfl | simp [Region.wanted, yielded, TA_get, *]) rfl Try.func15 (by kernel_rfl) rfl (by simp [Act.eval, *]; try rfl) (sameM_r hy hC2 hC3 hE3) ?_)
    rintro _ S4 w4 _ ⟨rfl, e4, e5⟩
    subst S4 w4
    simp only [stO_some]
    have hKw3 : Kp w (fun _ => False) w3 := ((kp_ext hE1).trans hk2).trans (kp_ext hE3)
    have hk13 : Kp w1 (fun _ => False) w3 := hk2.trans (kp_ext hE3)
    have hB3 := hB.kp hKw3
    have hK3 : Kp v (fun _ => False) w3 := hK.trans hKw3
    obtain ⟨⟨m, hm, hPc⟩, hkk, hPX⟩ := pcM_of (O := O) hK.size hB.lt hE1 hE3 hC2
    have hee : ee = e' := hC2.1.trans hC3.1.symm
    subst hee
    clear hC2 hC3
    repeat (first|refine rA ?_|refine rB ?_|refine rC ?_|refine rD ?_|(refine rR ?_;simp only [tO, Nat.reduceAdd])|refine rE ?_|(refine rO goodFF rfl ?_;intro _ hu_ K_ hK_;go_simp;(try rw [wI _]);(try rw [wU _]);refine hK_ _ ?_;clear hK_ K_ hu_;simp only [sS, sN])|(refine rP rfl ?_;simp only [sS, sN]))
    (refine reach_callR rfl (by first | rfl | simp [Region.wanted, yielded, TA_get, *]) rfl Try.func16 (by kernel_rfl) rfl (by simp [Act.eval, *]; try rfl) (pieces_r v.heap.size v.heap.size nb nl kk BA m O bv lv pl PB hm (by omega) (by omega) hB3 hPc) ?_)
    rintro _ S5 w5 _ ⟨rfl, e5, O', bv', lv', hFr, hB5, hO5⟩
    subst S5
    have hw1 : v.heap.size ≤ w1.heap.size := Nat.le_trans hK.size hE1.size
    have hK5 : Kp v (fun _ => False) w5 := kp_frm hK3 hFr fun b q => Nat.le_trans hw1 (hPX b q)
    have hkb : KeepB w1 w5 := keepB_frm hk13 hFr hPX
    have hO' : ∀ b, O' b → b < w.heap.size ∨ w1.heap.size ≤ b := fun b ob => by
      rcases hO5 b ob with r | r | r
      · exact .inl (hB.lt b r)
      · exact .inr (hPX b r)
      · exact .inr (Nat.le_trans hk13.size r)
    repeat (first|refine rA ?_|refine rB ?_|refine rC ?_|refine rD ?_|(refine rR ?_;simp only [tO, Nat.reduceAdd])|refine rE ?_|(refine rO goodFF rfl ?_;intro _ hu_ K_ hK_;go_simp;(try rw [wI _]);(try rw [wU _]);refine hK_ _ ?_;clear hK_ K_ hu_;simp only [sS, sN])|(refine rP rfl ?_;simp only [sS, sN]))
    (refine reach_callR rfl (by first | rfl | simp [Region.wanted, yielded, TA_get, *]) rfl Try.func23 (by kernel_rfl) rfl (by simp [Act.eval, *]; try rfl) (keepsL_r (by omega) hln (hs.kp hK5) (hR1.keep hkb) hpp) ?_)
    rintro _ S6 w6 _ ⟨rfl, e6, e7⟩
    subst S6 w6
    simp only [stO_some]
    repeat (first|refine rA ?_|refine rB ?_|refine rC ?_|refine rD ?_|(refine rR ?_;simp only [tO, Nat.reduceAdd])|refine rE ?_|(refine rO goodFF rfl ?_;intro _ hu_ K_ hK_;go_simp;(try rw [wI _]);(try rw [wU _]);refine hK_ _ ?_;clear hK_ K_ hu_;simp only [sS, sN])|(refine rP rfl ?_;simp only [sS, sN]))
    (refine reach_callR rfl (by first | rfl | simp [Region.wanted, yielded, TA_get, *]) rfl Try.func24 (by kernel_rfl) rfl (by simp [Act.eval, *]; try rfl) (spoil_r v.heap.size v.heap.size (nb + kk) (nl + 1) RW n cw O' bv' lv' pw pr ln cr (by omega) (fun i hi => by have := hln i hi; omega) hB5 (hR1.spW hkb hO' hK.size) (hR1.spel hkb hO' hK.size)) ?_)
    rintro _ S6 w6 _ ⟨rfl, e6, hF6, hB6⟩
    subst S6
    have hsO : (po = none ∧ n = 0) ∨ (po = some ⟨RO, 0, none⟩ ∧ v.heap.size ≤ RO ∧ ¬ O' RO ∧ ∃ cur, w6.heap[RO]? = some (.cells cur 25) ∧ n ≤ cur.size ∧ ∀ i, i < n → cur[i]? = some (.slice (pr i) (ln i) (cr i))) := (hR1.spO hkb hO' hK.size).imp id fun ⟨r1, r2, r3, cur, r4, r5⟩ => ⟨r1, r2, r3, cur, hF6.lists RO cur (Ne.symm hR1.1) r4, r5⟩
    have hsE := fun i hi => (hR1.spel hkb hO' hK.size i hi).keep hF6
    repeat (first|refine rA ?_|refine rB ?_|refine rC ?_|refine rD ?_|(refine rR ?_;simp only [tO, Nat.reduceAdd])|refine rE ?_|(refine rO goodFF rfl ?_;intro _ hu_ K_ hK_;go_simp;(try rw [wI _]);(try rw [wU _]);refine hK_ _ ?_;clear hK_ K_ hu_;simp only [sS, sN])|(refine rP rfl ?_;simp only [sS, sN]))
    (refine reach_callR rfl (by first | rfl | simp [Region.wanted, yielded, TA_get, *]) rfl Try.func24 (by kernel_rfl) rfl (by simp [Act.eval, *]; try rfl) (spoil_r v.heap.size v.heap.size (nb + kk) (nl + 1) RO n co O' bv' lv' po pr ln cr (by omega) (fun i hi => by have := hln i hi; omega) hB6 hsO hsE) ?_)
    rintro _ S7 w7 _ ⟨rfl, e7, hF7, hB7⟩
    subst S7
    have hK7 : Kp v (fun _ => False) w7 := kp_sp (kp_sp hK5 hF6) hF7
    clear hsO hsE hF6 hF7 hB6 hB5 hO5 hO' hkb hK5 hFr hPX hPc hK3 hB3 hk13 hKw3 hE3 hK2 hk2 hgs hR1 hE1 hK hB
    repeat (first|refine rA ?_|refine rB ?_|refine rC ?_|refine rD ?_|(refine rR ?_;simp only [tO, Nat.reduceAdd])|refine rE ?_|(refine rO goodFF rfl ?_;intro _ hu_ K_ hK_;go_simp;(try rw [wI _]);(try rw [wU _]);refine hK_ _ ?_;clear hK_ K_ hu_;simp only [sS, sN])|(refine rP rfl ?_;simp only [sS, sN]))
    (refine reach_callR rfl (by first | rfl | simp [Region.wanted, yielded, TA_get, *]) rfl Try.func18 (by kernel_rfl) rfl (by simp [Act.eval, *]; try rfl) (num_r ee) ?_)
    rintro _ S8 w8 _ ⟨rfl, e6, e7⟩
    subst S8 w8
    simp only [stO_some]
    repeat (first|refine rA ?_|refine rB ?_|refine rC ?_|refine rD ?_|(refine rR ?_;simp only [tO, Nat.reduceAdd])|refine rE ?_|(refine rO goodFF rfl ?_;intro _ hu_ K_ hK_;go_simp;(try rw [wI _]);(try rw [wU _]);refine hK_ _ ?_;clear hK_ K_ hu_;simp only [sS, sN])|(refine rP rfl ?_;simp only [sS, sN]))
    (refine reach_cond (t := false) (by simp [Act.eval]) ?_; simp only [if_true, if_false, reduceIte, Bool.false_eq_true])
    repeat (first|refine rA ?_|refine rB ?_|refine rC ?_|refine rD ?_|(refine rR ?_;simp only [tO, Nat.reduceAdd])|refine rE ?_|(refine rO goodFF rfl ?_;intro _ hu_ K_ hK_;go_simp;(try rw [wI _]);(try rw [wU _]);refine hK_ _ ?_;clear hK_ K_ hu_;simp only [sS, sN])|(refine rP rfl ?_;simp only [sS, sN]))
    refine nxt _ _ _ (2 - (k + 1)) (by omega) ⟨k + 1, O', nb + kk, nl + 1, bv', lv', rfl, by omega, ⟨hB7, by omega, by omega, hK7⟩, by simp [g0], by simp [g3], by simp [g4]⟩
  · obtain rfl : k = 2 := by omega
    (refine reach_cond (t := false) (by simp [Act.eval, g4]) ?_; simp only [if_true, if_false, reduceIte, Bool.false_eq_true])
    refine reach_exit rfl ?_
    repeat (first|refine rA ?_|refine rB ?_|refine rC ?_|refine rD ?_|(refine rR ?_;simp only [tO, Nat.reduceAdd])|refine rE ?_|(refine rO goodFF rfl ?_;intro _ hu_ K_ hK_;go_simp;(try rw [wI _]);(try rw [wU _]);refine hK_ _ ?_;clear hK_ K_ hu_;simp only [sS, sN])|(refine rP rfl ?_;simp only [sS, sN]))
    refine reach_makeV goodFF rfl rfl (by kernel_rfl) rfl (m := 14) (wd := 24) (z := .slice none 0 0) rfl rfl (by omega) (by omega) (by omega) Try.underlying34 (by kernel_rfl) rfl fun w1 hE1 hr1 hs1 => ?_
    simp only [stO_some]
    have hgs : Try.prog.globals.size ≤ w1.heap.size := Nat.le_trans hg (Nat.le_trans hK.size hE1.size)
    have hL : ListV w1 (some ⟨w.heap.size, 0, none⟩) 14 14 (fun _ => none) (fun _ => 0) (fun _ => 0) (fun _ _ => 0) := .inr ⟨w.heap.size, 0, rfl, by omega, fun i hi => by rw [Nat.zero_add, cell_of_row _ _ i _ _ _ hr1]; simp [hi], fun i hi => .inl ⟨rfl, rfl, rfl⟩⟩
    repeat (first|refine rA ?_|refine rB ?_|refine rC ?_|refine rD ?_|(refine rR ?_;simp only [tO, Nat.reduceAdd])|refine rE ?_|(refine rO goodFF rfl ?_;intro _ hu_ K_ hK_;go_simp;(try rw [wI _]);(try rw [wU _]);refine hK_ _ ?_;clear hK_ K_ hu_;simp only [sS, sN])|(refine rP rfl ?_;simp only [sS, sN]))
    (refine reach_callR rfl (by first | rfl | simp [Region.wanted, yielded, TA_get, *]) rfl Try.func21 (by kernel_rfl) rfl (by simp [Act.eval, *]; try rfl) (mendL_r _ 14 14 _ _ _ _ (fun _ _ => by omega) hL hgs) ?_)
    rintro _ S2 w2 _ ⟨pl, kk, ee, BA, PB, rfl, hk2, hC2⟩
    simp only [stO_some]
    obtain ⟨hee, hC2⟩ := hC2
    rw [if_pos rfl, nils_err] at hee
    subst hee
    obtain ⟨rfl, rfl⟩ : pl = none ∧ kk = 0 := by
      rcases hC2 with ⟨_, h1, h2⟩ | ⟨_, h, _⟩
      · exact ⟨h1, h2⟩
      · omega
    have hk12 := (kp_ext hE1).trans hk2
    repeat (first|refine rA ?_|refine rB ?_|refine rC ?_|refine rD ?_|(refine rR ?_;simp only [tO, Nat.reduceAdd])|refine rE ?_|(refine rO goodFF rfl ?_;intro _ hu_ K_ hK_;go_simp;(try rw [wI _]);(try rw [wU _]);refine hK_ _ ?_;clear hK_ K_ hu_;simp only [sS, sN])|(refine rP rfl ?_;simp only [sS, sN]))
    (refine reach_callR rfl (by first | rfl | simp [Region.wanted, yielded, TA_get, *]) rfl Try.func19 (by kernel_rfl) rfl (by simp [Act.eval, *]; try rfl) (looks_r (hB.kp hk12) (by omega) (by omega)) ?_)
    rintro _ S3 w3 _ ⟨rfl, e1, e2⟩
    subst S3 w3
    simp only [stO_some]
    repeat (first|refine rA ?_|refine rB ?_|refine rC ?_|refine rD ?_|(refine rR ?_;simp only [tO, Nat.reduceAdd])|refine rE ?_|(refine rO goodFF rfl ?_;intro _ hu_ K_ hK_;go_simp;(try rw [wI _]);(try rw [wU _]);refine hK_ _ ?_;clear hK_ K_ hu_;simp only [sS, sN])|(refine rP rfl ?_;simp only [sS, sN]))
    refine reach_ret fun todo => ?_
    exact ret _ _ _ _ (by simp) (hK.trans hk12)
end Go.Proofs.Ytpiefebngnlfoaa

/-
  The statement Mends: for every list the function mosaiclaw.Mends answers true (every Mend is the document's answer, what is handed in stays as it was, and what comes out is the caller's own), its call ends without a race whatever order its goroutines run in, and all that was there before reads as it did. No condition.
-/
set_option linter.unusedVariables false
set_option linter.unusedSimpArgs false
set_option linter.unnecessarySimpa false
namespace Go.Proofs.Ytpiefebngnlfoaa.mends
open Go.ChangeShapes Go.WideShapes Go.ChangeAt Go.RowKit Go.Conc Go.Vw

set_option maxRecDepth 100000 in
theorem ends {W : World} {Post : Value → World → Prop} (hodd : ∀ b, Odd W b → Try.prog.globals.size ≤ b) (hg : Try.prog.globals.size ≤ W.heap.size) (p1 : Option Addr) (len1 cap1 : Nat) (q : Nat → Option Addr) (ln cp : Nat → Nat) (y : Nat → Nat → Nat) (hy : ∀ k i, y k i < 256) (h1 : ListE (firstView W) p1 len1 cap1 q ln cp y) (hl : len1 < 5864062014805 ∧ ∀ i, i < len1 → ln i < 140737488355328) (hpost : ∀ W', Old W W' → Post (.bool true) W') :
    ∃ M last o w' t', runNT Try.prog (M + 1) (solo (G (Frame.enter Try.prog 6 #[.slice p1 len1 cap1] .normal) []) W) #[] = (.ended o w', t') ∧ runN Try.prog M (solo (G (Frame.enter Try.prog 6 #[.slice p1 len1 cap1] .normal) []) W) = .next last ∧ step Try.prog last = .ended o w' ∧ Conc.Good Try.prog Post last o w' t' := by
  refine ends_of_reach hodd ?_
  rw [enter_at _ Try.func6 (c := Try.f6.body.getD .skip) rfl, Try.ntmps6, TA_enter (by simp)]
  refine mends_whole p1 len1 cap1 q ln cp y hy hl.1 hl.2 h1 (by rw [(first_rel (P := Try.prog) hodd).size]; exact hg) _ [] fun f' todo S' v' h6 hk => ?_
  refine Reach.done ⟨_, .bool true, rfl, ⟨rfl, rfl, rfl, _, Try.func6, ?_⟩, by kernel_rfl, fun W' hR hF => hpost W' (old_of hodd hk hR hF)⟩
  show (results _ (TA 79 f')).run _ _ = _
  simp [results, Try.results6, h6]
set_option maxRecDepth 100000 in
theorem lifted (os : Os) (started : os.Started) (H : Type) (enc : TypeId × Value → H) :
    ReturnsInLeavingWide {} Try.checked os 6 .any (Rows.mendsSpec.pre6 enc Try.prog Try.f6 Rows.mendsRow.domain false) (Rows.mendsSpec.post enc Try.prog Try.f6 false true false false) := by
  refine returnsInLeavingWide_of_good (C := Try.checked) own started
    (ChangeSpec.witness6 (enc := enc) (C := Try.checked) false ⟨#[], #[.slice none 0 0], []⟩ 8 (by kernel_rfl) (by kernel_rfl) (by kernel_rfl) (by kernel_rfl)) ?_
  intro w tape i _ hsh _ hok hpre _
  obtain ⟨_, _, _, fn', hfn', _, _, _, _, hval0⟩ := hok
  have e : fn' = Try.f6 := Option.some.inj (hfn'.symm.trans Try.func6)
  subst e
  obtain ⟨⟨ds, gs, before, hw, hc⟩, hz⟩ := hpre
  have hW := DataW.Whole.of_heap (w' := w.forCall tape i) (by rfl) hw
  have hsz := hz.weights hw
  clear hw hz hc hfn'
  refine (?_ : ∃ N last o w' t', _ ∧ _ ∧ _ ∧ Conc.Good Try.prog (fun v w' => Rows.mendsSpec.post enc Try.prog Try.f6 false true false false (w.forCall tape i) i.args v w') last o w' t').imp fun N h => h.imp fun last h => h.imp fun o h => h.imp fun w' h => h.imp fun t' h => ⟨h.1, h.2.1, h.2.2.1, h.2.2.2.mono fun v hp => ChangeSpec.post_blind hp⟩
  generalize w.heap.size = base at hval0
  generalize w.forCall tape i = W at *
  generalize i.args = args at *
  have hval : ∀ (j : Nat) t v, Try.f6.params[j]? = some t → args[j]? = some v → Value.okWide Try.prog W .any base t v := hval0
  have hW' := hW
  obtain ⟨p, q, hA0, hV, rfl, hfz, hnd⟩ := hW
  have hA : DataW.TrodAll enc Try.prog W 0 (fun _ => true) true Try.f6.params.toList args.toList ds p := hA0
  rw [Try.params6] at hA hval
  obtain ⟨v0, vs0, d0, ds0, p0, q0, hargs, rfl, rfl, h0, r0⟩ := trodAll_cons hA
  obtain ⟨rfl, rfl, rfl⟩ := trodAll_nil r0
  obtain rfl : args = #[v0] := by cases args; simp_all
  obtain ⟨rfl, rfl⟩ := trodVars_none hV
  obtain ⟨b0, c0, e0, q0, l0, k0, y0, rfl, hy0, s1, hd0⟩ := open_list (hval 0 34 v0 rfl rfl) h0
  have hlen := list_sizes hsz (j := 0) rfl rfl hd0
  clear hA0 hval0
  simp only [List.append_nil] at hW'
  refine ends (shaped_odd hsh) (shaped_size hsh) b0 c0 e0 q0 l0 k0 y0 hy0 s1 hlen fun W' hO => ?_
  have hlt0 : ∀ x ∈ p0, x.block < W.heap.size := fun x hx => by simpa using hW'.lt x (by simp [hx])
  have t0 := WideElems.Trod_stays (sp' := fun b => decide (b < W.heap.size)) laid (by kernel_rfl) (of_decide_eq_true (by kernel_rfl)) h0 (fun x hx => hO.same (hlt0 x hx)) (fun x hx => by simpa using hlt0 x hx)
  exact ⟨_, _, _, [], _, [], hW', trodAll_cons_mk (shut_bool Try.underlying4 _) trodAll_mk0, trodAll_cons_mk t0 trodAll_mk0, rfl, hO.kept _, fun h => by cases h⟩

theorem over : Rows.mendsRow.holds Try.pinned (OpenSpec.ofChange Rows.mendsSpec) :=
  OpenClaim.holds_of_wide_leaving 6 Try.f6 rfl rfl rfl rfl rfl rfl rfl ⟨rfl, rfl, rfl, rfl, rfl⟩ rfl rfl rfl rfl rfl (by kernel_rfl) Try.func6 (by kernel_rfl)
    (of_decide_eq_true (by kernel_rfl)) (by unfold Func.isWrapper; first | (rw [if_pos (by decide +kernel)]; kernel_rfl) | (rw [if_neg (by decide +kernel)]; exact ⟨rfl, rfl⟩))
    (fun os started H enc _ => lifted os started H enc)

/-- ████ THE STATEMENT ████ -/
theorem proved : Rows.MendsSaid :=
  over
#print axioms proved
end Go.Proofs.Ytpiefebngnlfoaa.mends
