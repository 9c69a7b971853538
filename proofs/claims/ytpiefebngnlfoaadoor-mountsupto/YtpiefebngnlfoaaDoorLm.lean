/-
  mosaiclaw.blank; mosaiclaw.Mounts: its walk.
-/
import Derived.Test.YtpiefebngnlfoaaDoorLl
set_option linter.unusedVariables false
set_option linter.unusedSimpArgs false
namespace Go.Proofs.YtpiefebngnlfoaaDoor
open Go.RowKit Go.Conc Go.Vw

set_option maxRecDepth 100000 in
set_option maxHeartbeats 2000000 in
theorem lblank_r {S : Nat → Prop} {v : World} :
    CallsR Tryd.prog 7 #[.int .i64 14, .int .i64 4] S v fun x S' v' => S' = S ∧ Ext v v' ∧ ∃ g c, x = .slice (some ⟨g, 0, none⟩) 14 c ∧ TextsV v' g 14 fun _ => 384 := by
  obtain ⟨is, zz, is1, is2, is3, is4, is5⟩ := infoStr
  refine callsR_body Tryd.func7 rfl Tryd.ntmps7 (by simp) fun Stop cc cs ret => ?_
  have g0 : argF #[.int .i64 14, .int .i64 4] 0 = .int .i64 14 := rfl
  have g1 : argF #[.int .i64 14, .int .i64 4] 1 = .int .i64 4 := rfl
  generalize argF #[.int .i64 14, .int .i64 4] = f at g0 g1
  repeat (first|refine rA ?_|refine rB ?_|refine rC ?_|refine rD ?_|(refine rR ?_;simp only [tO, Nat.reduceAdd])|refine rE ?_|(refine rO goodFF rfl ?_;intro _ hu_ K_ hK_;go_simp;(try rw [wI _]);(try rw [wU _]);refine hK_ _ ?_;clear hK_ K_ hu_;simp only [sS, sN])|(refine rP rfl ?_;simp only [sS, sN])|(refine rP2 rfl ?_;simp only [sS, sN]))
  refine reach_makeBytes goodFF rfl rfl (by kernel_rfl) rfl (m := 384) (by simp) (by simp) (by omega) (by kernel_rfl) Tryd.underlying25 fun w1 hE1 hr1 hs1 => ?_
  simp only [stO_some]
  have hz1 : ∀ w, Ext w1 w → ∀ i, i < 384 → w.cell? ⟨v.heap.size, i, none⟩ = some (.int .u8 0) := fun w hE i hi => by
    rw [cell_of_row _ _ _ _ _ _ (hE.row hr1)]
    simp [hi]
  repeat (first|refine rA ?_|refine rB ?_|refine rC ?_|refine rD ?_|(refine rR ?_;simp only [tO, Nat.reduceAdd])|refine rE ?_|(refine rO goodFF rfl ?_;intro _ hu_ K_ hK_;go_simp;(try rw [wI _]);(try rw [wU _]);refine hK_ _ ?_;clear hK_ K_ hu_;simp only [sS, sN])|(refine rP rfl ?_;simp only [sS, sN])|(refine rP2 rfl ?_;simp only [sS, sN]))
  refine reach_rounds (fun d f' S' w => ∃ j ov, d = 14 - j ∧ j ≤ 14 ∧ S' = S ∧ (Ext w1 w ∧ w.ownsRow w1.heap.size 9 1 ov j (txts (fun _ => 384) j)) ∧ f' 0 = .int .i64 14 ∧ f' 5 = .slice (some ⟨v.heap.size, 0, none⟩) 384 384 ∧ f' 6 = ov ∧ f' 7 = .int .i64 (j : Nat)) 14 ⟨0, .slice none 0 0, by omega, by omega, rfl, ⟨.refl _, World.ownsRow_nil _ _ _ _⟩, by simp [g0], by simp, by simp, by simp⟩ ?_
  clear g0 g1 f
  rintro d f S' w ⟨j, ov, rfl, hj, eS, ⟨hEw, how⟩, g0, g5, g6, g7⟩ nxt
  subst S'
  repeat (first|refine rA ?_|refine rB ?_|refine rC ?_|refine rD ?_|(refine rR ?_;simp only [tO, Nat.reduceAdd])|refine rE ?_|(refine rO goodFF rfl ?_;intro _ hu_ K_ hK_;go_simp;(try rw [wI _]);(try rw [wU _]);refine hK_ _ ?_;clear hK_ K_ hu_;simp only [sS, sN])|(refine rP rfl ?_;simp only [sS, sN])|(refine rP2 rfl ?_;simp only [sS, sN]))
  by_cases hlt : j < 14
  · have hjI : (j : Int) < 14 := by omega
    have hz := hz1 w hEw
    (refine reach_cond (t := true) (by simp [Act.eval, hjI]) ?_; simp only [if_true, if_false, reduceIte, Bool.false_eq_true])
    repeat (first|refine rA ?_|refine rB ?_|refine rC ?_|refine rD ?_|(refine rR ?_;simp only [tO, Nat.reduceAdd])|refine rE ?_|(refine rO goodFF rfl ?_;intro _ hu_ K_ hK_;(have kc := run_text (c := 384) fun i hi => (Ext.twin hu_).cell (hz i hi));go_simp;(try rw [wI _]);(try rw [wU _]);refine hK_ _ ?_;clear hK_ K_ hu_;simp only [sS, sN])|(refine rP rfl ?_;simp only [sS, sN])|(refine rP2 rfl ?_;simp only [sS, sN]))
    refine reach_turnQ (Q := fun x w2 => x = .slice (some ⟨w.heap.size, 0, none⟩) 1 1 ∧ Ext w w2 ∧ w2.heap[w.heap.size]? = some (.cells #[.string (zs 384)] 9)) goodFF rfl rfl (by kernel_rfl) (fun u hu => ⟨_, _, .inl (run_build1 (x := .tmp 18) (y := .string (zs 384)) rfl Tryd.underlying23 is1 is2 is3 is5 (by simp) rfl u), by rw [hu.heap], (Ext.twin hu).trans _ _ _ (Ext.alloc _ _), by rw [← hu.heap]; exact alloc_at _ _⟩) ?_
    rintro _ w2 ⟨rfl, hE2, hr2⟩
    simp only [stO_some]
    have gw : Gr w w2 none := ⟨hE2.os, hE2.output, hE2.size, fun b hb _ => hE2.block b hb⟩
    have how2 := own_gr how gw (by simp)
    refine reach_turnQ goodFF rfl rfl (by kernel_rfl) (fun u hu => append_does (s := .tmp 16) (x := .tmp 19) (ad := ⟨w.heap.size, 0, none⟩) (m := 1) (c := 1) (news := [.string (zs 384)]) hu w1.heap.size Tryd.underlying23 is1 is2 is3 is4 (by rw [is5]; rfl) how2 rfl (one_cellS hr2) (fun y hy => by rw [List.mem_singleton] at hy; subst hy; rfl) (by omega) (by omega) (Nat.le_trans hEw.size hE2.size) rfl (by simp [g6]) (by simp)) ?_
    rintro ov' w3 ⟨ho3, hg3, _⟩
    simp only [stO_some]
    have ho4 : w3.ownsRow w1.heap.size 9 1 ov' (j + 1) (txts (fun _ => 384) (j + 1)) := by
      rw [← txts_succ]
      exact ho3
    have hE3 : Ext w1 w3 := Gr.over (hEw.trans _ _ _ hE2) hg3 fun b hb => own_base how2 hb
    repeat (first|refine rA ?_|refine rB ?_|refine rC ?_|refine rD ?_|(refine rR ?_;simp only [tO, Nat.reduceAdd])|refine rE ?_|(refine rO goodFF rfl ?_;intro _ hu_ K_ hK_;go_simp;(try rw [wI _]);(try rw [wU _]);refine hK_ _ ?_;clear hK_ K_ hu_;simp only [sS, sN])|(refine rP rfl ?_;simp only [sS, sN])|(refine rP2 rfl ?_;simp only [sS, sN]))
    refine nxt _ _ _ (14 - (j + 1)) (by omega) ⟨j + 1, ov', rfl, by omega, rfl, ⟨hE3, ho4⟩, by simp [g0], by simp [g5], by simp, by simp⟩
  · obtain rfl : j = 14 := by omega
    obtain ⟨g, c, cur, q1, _⟩ := own_some how (.inl (by omega))
    subst q1
    (refine reach_cond (t := false) (by simp [Act.eval, g7]) ?_; simp only [if_true, if_false, reduceIte, Bool.false_eq_true])
    refine reach_exit rfl ?_
    repeat (first|refine rA ?_|refine rB ?_|refine rC ?_|refine rD ?_|(refine rR ?_;simp only [tO, Nat.reduceAdd])|refine rE ?_|(refine rO goodFF rfl ?_;intro _ hu_ K_ hK_;go_simp;(try rw [wI _]);(try rw [wU _]);refine hK_ _ ?_;clear hK_ K_ hu_;simp only [sS, sN])|(refine rP rfl ?_;simp only [sS, sN])|(refine rP2 rfl ?_;simp only [sS, sN]))
    refine reach_ret fun todo => ?_
    refine ret _ _ S w (.slice (some ⟨g, 0, none⟩) 14 c) ?_ ⟨rfl, hE1.trans _ _ _ hEw, g, c, rfl, texts_of how⟩
    simp [results, Tryd.results7]
/-- Numbers that are handed in. -/
def IntsV (v : World) (p : Option Addr) (len cap : Nat) (z : Nat → Int) : Prop := (p = none ∧ len = 0 ∧ cap = 0) ∨ ∃ B off, p = some ⟨B, off, none⟩ ∧ len ≤ cap ∧ ∀ j, j < len → v.cell? ⟨B, off + j, none⟩ = some (.int .i64 (z j))
/-- The rest of Mounts, from a point of its text on. -/
def MoR (c : Code) (S : Nat → Prop) (v0 v : World) (f : Nat → Value) : Prop :=
  ∀ (Stop : Goroutine → (Nat → Prop) → World → Prop) (cs : List Frame),
    (∀ (f' : Nat → Value) (todo : List Item) (S' : Nat → Prop) (v' : World), f' 2 = .bool true → Ext v0 v' → Vw.Reach Tryd.prog Stop (G { (base 3).at ⟨TA 104 f', []⟩ todo with mode := .returning } cs) S' v') →
    Vw.Reach Tryd.prog Stop (G ((base 3).at ⟨TA 104 f, []⟩ [.code c]) cs) S v
def badB (n : Nat) : Bool := decide (n < 14) || decide (18 < n)
def hd : Code → Code
  | .seq a _ => a
  | c => c
def tl : Code → Code
  | .seq _ b => b
  | c => c
def nth : Nat → Code → Code
  | 0, c => hd c
  | n + 1, c => nth n (tl c)
def rst : Nat → Code → Code
  | 0, c => c
  | n + 1, c => rst n (tl c)
set_option maxRecDepth 100000 in
theorem mo_eq : Tryd.f3.body.getD .skip = .seq (nth 0 (Tryd.f3.body.getD .skip)) (.seq (nth 1 (Tryd.f3.body.getD .skip)) (.seq (nth 2 (Tryd.f3.body.getD .skip)) (.seq (nth 3 (Tryd.f3.body.getD .skip)) (rst 4 (Tryd.f3.body.getD .skip))))) := rfl
set_option maxRecDepth 100000 in
theorem mo_eq2 : rst 4 (Tryd.f3.body.getD .skip) = .seq (nth 4 (Tryd.f3.body.getD .skip)) (rst 5 (Tryd.f3.body.getD .skip)) := rfl
set_option maxRecDepth 100000 in
theorem mo_eq3 : rst 5 (Tryd.f3.body.getD .skip) = .seq (nth 5 (Tryd.f3.body.getD .skip)) (rst 6 (Tryd.f3.body.getD .skip)) := rfl
section
variable {S : Nat → Prop} {v : World} {p : Option Addr} {n c : Nat}
set_option maxRecDepth 100000 in
set_option maxHeartbeats 2000000 in
theorem mo_pre (next : ∀ f : Nat → Value, f 0 = .slice p n c → f 3 = .slice none 0 0 → f 4 = .int .i64 0 → f 5 = .bool (badB n) → MoR (rst 4 (Tryd.f3.body.getD .skip)) S v v f) :
    MoR (Tryd.f3.body.getD .skip) S v v (argF #[.slice p n c]) := by
  intro Stop cs ret
  have g0 : argF #[.slice p n c] 0 = .slice p n c := rfl
  generalize argF #[.slice p n c] = f at g0
  rw [mo_eq]
  have nx := fun f a b d e => next f a b d e Stop cs ret
  clear next ret
  generalize rst 4 (Tryd.f3.body.getD .skip) = R at nx
  simp only [nth, hd, tl, Tryd.f3, Option.getD_some]
  by_cases hA : n < 14
  · have hI : (n : Int) < 14 := by omega
    have hB : badB n = true := by simp [badB, hA]
    repeat (first|refine rA ?_|refine rB ?_|refine rC ?_|refine rD ?_|(refine rR ?_;simp only [tO, Nat.reduceAdd])|refine rE ?_|(refine rO goodFF rfl ?_;intro _ hu_ K_ hK_;go_simp;(try rw [wI _]);(try rw [wU _]);refine hK_ _ ?_;clear hK_ K_ hu_;simp only [sS, sN])|(refine rP rfl ?_;simp only [sS, sN])|(refine rP2 rfl ?_;simp only [sS, sN]))
    exact nx _ (by simp [g0]) (by simp) (by simp) (by simp [hB])
  · by_cases hB : 18 < n
    · have hI : ¬ (n : Int) < 14 := by omega
      have hJ : (18 : Int) < (n : Int) := by omega
      have hC : badB n = true := by simp [badB, hB]
      repeat (first|refine rA ?_|refine rB ?_|refine rC ?_|refine rD ?_|(refine rR ?_;simp only [tO, Nat.reduceAdd])|refine rE ?_|(refine rO goodFF rfl ?_;intro _ hu_ K_ hK_;go_simp;(try rw [wI _]);(try rw [wU _]);refine hK_ _ ?_;clear hK_ K_ hu_;simp only [sS, sN])|(refine rP rfl ?_;simp only [sS, sN])|(refine rP2 rfl ?_;simp only [sS, sN]))
      exact nx _ (by simp [g0]) (by simp) (by simp) (by simp [hC])
    · have hI : ¬ (n : Int) < 14 := by omega
      have hJ : ¬ (18 : Int) < (n : Int) := by omega
      have hC : badB n = false := by simp [badB, hA, hB]
      repeat (first|refine rA ?_|refine rB ?_|refine rC ?_|refine rD ?_|(refine rR ?_;simp only [tO, Nat.reduceAdd])|refine rE ?_|(refine rO goodFF rfl ?_;intro _ hu_ K_ hK_;go_simp;(try rw [wI _]);(try rw [wU _]);refine hK_ _ ?_;clear hK_ K_ hu_;simp only [sS, sN])|(refine rP rfl ?_;simp only [sS, sN])|(refine rP2 rfl ?_;simp only [sS, sN]))
      exact nx _ (by simp [g0]) (by simp) (by simp) (by simp [hC])
def inn : Code → Code
  | .block _ c => c
  | .loop c => c
  | c => c
/-- What a round does behind the text it makes. -/
def tailM (c : Code) : Code := tl (tl (inn (hd (tl (inn (inn (tl (nth 4 c))))))))
set_option maxRecDepth 100000 in
set_option maxHeartbeats 8000000 in
theorem mo_tail {Stop : Goroutine → (Nat → Prop) → World → Prop} {cs : List Frame} {k0 : List Item} {f : Nat → Value} {z : Nat → Nat} {k : Nat} {b0 : Bool} (g4 : f 4 = .int .i64 ((fstZ z k : Nat) : Int)) (g5 : f 5 = .bool (b0 || !okZ z k)) (g7 : f 7 = .int .i64 ((z k : Nat) : Int))
    (nx : ∀ f' : Nat → Value, f' 0 = f 0 → f' 3 = f 3 → f' 6 = f 6 → f' 4 = .int .i64 ((fstZ z (k + 1) : Nat) : Int) → f' 5 = .bool (b0 || !okZ z (k + 1)) → Vw.Reach Tryd.prog Stop (G ((base 3).at ⟨TA 104 f', []⟩ k0) cs) S v) :
    Vw.Reach Tryd.prog Stop (G ((base 3).at ⟨TA 104 f, []⟩ (.code (tailM (Tryd.f3.body.getD .skip)) :: k0)) cs) S v := by
  simp only [tailM, inn, nth, hd, tl, Tryd.f3, Option.getD_some]
  have hfs := fstZ_succ z k
  have hos : okZ z (k + 1) = (okZ z k && (decide (z k = 0) || decide (fstZ z k = 0) || decide (z k = fstZ z k))) := rfl
  have HF := hide hfs
  have HO := hide hos
  clear hfs hos
  obtain ⟨bk, hbk⟩ : ∃ bk, bk = (b0 || !okZ z k) := ⟨_, rfl⟩
  rw [← hbk] at g5
  have HB := hide hbk
  clear hbk
  by_cases h0 : z k = 0
  · have n1 : fstZ z (k + 1) = fstZ z k := by
      rw [HF.out, h0]
      split <;> omega
    have n2 : (b0 || !okZ z (k + 1)) = bk := by
      rw [HO.out, HB.out, h0]
      simp
    rw [n1, n2] at nx
    have hI : ¬ (0 : Int) < ((z k : Nat) : Int) := by omega
    have hN : ¬ 0 < z k := by omega
    have HZ := hide h0
    clear n1 n2 h0
    cases bk with
    | true =>
      repeat (first|refine rA ?_|refine rB ?_|refine rC ?_|refine rD ?_|(refine rR ?_;simp only [tO, Nat.reduceAdd])|refine rE ?_|(refine rO goodFF rfl ?_;intro _ hu_ K_ hK_;go_simp;(try rw [wI _]);(try rw [wU _]);refine hK_ _ ?_;clear hK_ K_ hu_;simp only [sS, sN])|(refine rP rfl ?_;simp only [sS, sN])|(refine rP2 rfl ?_;simp only [sS, sN]))
      (refine reach_cond (t := false) (by simp [Act.eval]) ?_; simp only [if_true, if_false, reduceIte, Bool.false_eq_true])
      repeat (first|refine rA ?_|refine rB ?_|refine rC ?_|refine rD ?_|(refine rR ?_;simp only [tO, Nat.reduceAdd])|refine rE ?_|(refine rO goodFF rfl ?_;intro _ hu_ K_ hK_;go_simp;(try rw [wI _]);(try rw [wU _]);refine hK_ _ ?_;clear hK_ K_ hu_;simp only [sS, sN])|(refine rP rfl ?_;simp only [sS, sN])|(refine rP2 rfl ?_;simp only [sS, sN]))
      exact nx _ (by simp) (by simp) (by simp) (by simp [g4]) (by simp)
    | false =>
      repeat (first|refine rA ?_|refine rB ?_|refine rC ?_|refine rD ?_|(refine rR ?_;simp only [tO, Nat.reduceAdd])|refine rE ?_|(refine rO goodFF rfl ?_;intro _ hu_ K_ hK_;go_simp;(try rw [wI _]);(try rw [wU _]);refine hK_ _ ?_;clear hK_ K_ hu_;simp only [sS, sN])|(refine rP rfl ?_;simp only [sS, sN])|(refine rP2 rfl ?_;simp only [sS, sN]))
      (refine reach_cond (t := false) (by simp [Act.eval]) ?_; simp only [if_true, if_false, reduceIte, Bool.false_eq_true])
      repeat (first|refine rA ?_|refine rB ?_|refine rC ?_|refine rD ?_|(refine rR ?_;simp only [tO, Nat.reduceAdd])|refine rE ?_|(refine rO goodFF rfl ?_;intro _ hu_ K_ hK_;go_simp;(try rw [wI _]);(try rw [wU _]);refine hK_ _ ?_;clear hK_ K_ hu_;simp only [sS, sN])|(refine rP rfl ?_;simp only [sS, sN])|(refine rP2 rfl ?_;simp only [sS, sN]))
      exact nx _ (by simp) (by simp) (by simp) (by simp [g4]) (by simp)
  · have hI : (0 : Int) < ((z k : Nat) : Int) := by omega
    have hN : 0 < z k := by omega
    by_cases hf : fstZ z k = 0
    · have n1 : fstZ z (k + 1) = z k := by
        rw [HF.out, hf]
        simp
      have n2 : (b0 || !okZ z (k + 1)) = bk := by
        rw [HO.out, HB.out, hf]
        simp
      rw [n1, n2] at nx
      rw [hf] at g4
      have HZ := hide h0
      clear n1 n2 h0
      cases bk with
      | true =>
        repeat (first|refine rA ?_|refine rB ?_|refine rC ?_|refine rD ?_|(refine rR ?_;simp only [tO, Nat.reduceAdd])|refine rE ?_|(refine rO goodFF rfl ?_;intro _ hu_ K_ hK_;go_simp;(try rw [wI _]);(try rw [wU _]);refine hK_ _ ?_;clear hK_ K_ hu_;simp only [sS, sN])|(refine rP rfl ?_;simp only [sS, sN])|(refine rP2 rfl ?_;simp only [sS, sN]))
        (refine reach_cond (t := true) (by simp [Act.eval]) ?_; simp only [if_true, if_false, reduceIte, Bool.false_eq_true])
        repeat (first|refine rA ?_|refine rB ?_|refine rC ?_|refine rD ?_|(refine rR ?_;simp only [tO, Nat.reduceAdd])|refine rE ?_|(refine rO goodFF rfl ?_;intro _ hu_ K_ hK_;go_simp;(try rw [wI _]);(try rw [wU _]);refine hK_ _ ?_;clear hK_ K_ hu_;simp only [sS, sN])|(refine rP rfl ?_;simp only [sS, sN])|(refine rP2 rfl ?_;simp only [sS, sN]))
        exact nx _ (by simp) (by simp) (by simp) (by simp) (by simp)
      | false =>
        repeat (first|refine rA ?_|refine rB ?_|refine rC ?_|refine rD ?_|(refine rR ?_;simp only [tO, Nat.reduceAdd])|refine rE ?_|(refine rO goodFF rfl ?_;intro _ hu_ K_ hK_;go_simp;(try rw [wI _]);(try rw [wU _]);refine hK_ _ ?_;clear hK_ K_ hu_;simp only [sS, sN])|(refine rP rfl ?_;simp only [sS, sN])|(refine rP2 rfl ?_;simp only [sS, sN]))
        (refine reach_cond (t := true) (by simp [Act.eval]) ?_; simp only [if_true, if_false, reduceIte, Bool.false_eq_true])
        repeat (first|refine rA ?_|refine rB ?_|refine rC ?_|refine rD ?_|(refine rR ?_;simp only [tO, Nat.reduceAdd])|refine rE ?_|(refine rO goodFF rfl ?_;intro _ hu_ K_ hK_;go_simp;(try rw [wI _]);(try rw [wU _]);refine hK_ _ ?_;clear hK_ K_ hu_;simp only [sS, sN])|(refine rP rfl ?_;simp only [sS, sN])|(refine rP2 rfl ?_;simp only [sS, sN]))
        exact nx _ (by simp) (by simp) (by simp) (by simp) (by simp)
    · have n1 : fstZ z (k + 1) = fstZ z k := by
        rw [HF.out, if_pos hf]
      have hfI : ¬ ((fstZ z k : Nat) : Int) = 0 := by omega
      by_cases he : z k = fstZ z k
      · have n2 : (b0 || !okZ z (k + 1)) = bk := by
          rw [HO.out, HB.out]
          simp [he]
        rw [n1, n2] at nx
        have heI : ((z k : Nat) : Int) = ((fstZ z k : Nat) : Int) := by omega
        have hN2 : 0 < fstZ z k := by omega
        have HZ := hide h0
        clear n1 n2 h0
        cases bk with
        | true =>
          repeat (first|refine rA ?_|refine rB ?_|refine rC ?_|refine rD ?_|(refine rR ?_;simp only [tO, Nat.reduceAdd])|refine rE ?_|(refine rO goodFF rfl ?_;intro _ hu_ K_ hK_;go_simp;(try rw [wI _]);(try rw [wU _]);refine hK_ _ ?_;clear hK_ K_ hu_;simp only [sS, sN])|(refine rP rfl ?_;simp only [sS, sN])|(refine rP2 rfl ?_;simp only [sS, sN]))
          (refine reach_cond (t := false) (by simp [Act.eval, hf]) ?_; simp only [if_true, if_false, reduceIte, Bool.false_eq_true])
          repeat (first|refine rA ?_|refine rB ?_|refine rC ?_|refine rD ?_|(refine rR ?_;simp only [tO, Nat.reduceAdd])|refine rE ?_|(refine rO goodFF rfl ?_;intro _ hu_ K_ hK_;go_simp;(try rw [wI _]);(try rw [wU _]);refine hK_ _ ?_;clear hK_ K_ hu_;simp only [sS, sN])|(refine rP rfl ?_;simp only [sS, sN])|(refine rP2 rfl ?_;simp only [sS, sN]))
          exact nx _ (by simp) (by simp) (by simp) (by simp [g4]) (by simp)
        | false =>
          repeat (first|refine rA ?_|refine rB ?_|refine rC ?_|refine rD ?_|(refine rR ?_;simp only [tO, Nat.reduceAdd])|refine rE ?_|(refine rO goodFF rfl ?_;intro _ hu_ K_ hK_;go_simp;(try rw [wI _]);(try rw [wU _]);refine hK_ _ ?_;clear hK_ K_ hu_;simp only [sS, sN])|(refine rP rfl ?_;simp only [sS, sN])|(refine rP2 rfl ?_;simp only [sS, sN]))
          (refine reach_cond (t := false) (by simp [Act.eval, hf]) ?_; simp only [if_true, if_false, reduceIte, Bool.false_eq_true])
          repeat (first|refine rA ?_|refine rB ?_|refine rC ?_|refine rD ?_|(refine rR ?_;simp only [tO, Nat.reduceAdd])|refine rE ?_|(refine rO goodFF rfl ?_;intro _ hu_ K_ hK_;go_simp;(try rw [wI _]);(try rw [wU _]);refine hK_ _ ?_;clear hK_ K_ hu_;simp only [sS, sN])|(refine rP rfl ?_;simp only [sS, sN])|(refine rP2 rfl ?_;simp only [sS, sN]))
          exact nx _ (by simp) (by simp) (by simp) (by simp [g4]) (by simp [heI])
      · have n2 : (b0 || !okZ z (k + 1)) = true := by
          rw [HO.out]
          simp [he, h0, hf]
        rw [n1, n2] at nx
        have heI : ¬ ((z k : Nat) : Int) = ((fstZ z k : Nat) : Int) := by omega
        have HZ := hide h0
        clear n1 n2 h0
        cases bk with
        | true =>
          repeat (first|refine rA ?_|refine rB ?_|refine rC ?_|refine rD ?_|(refine rR ?_;simp only [tO, Nat.reduceAdd])|refine rE ?_|(refine rO goodFF rfl ?_;intro _ hu_ K_ hK_;go_simp;(try rw [wI _]);(try rw [wU _]);refine hK_ _ ?_;clear hK_ K_ hu_;simp only [sS, sN])|(refine rP rfl ?_;simp only [sS, sN])|(refine rP2 rfl ?_;simp only [sS, sN]))
          (refine reach_cond (t := false) (by simp [Act.eval, hf]) ?_; simp only [if_true, if_false, reduceIte, Bool.false_eq_true])
          repeat (first|refine rA ?_|refine rB ?_|refine rC ?_|refine rD ?_|(refine rR ?_;simp only [tO, Nat.reduceAdd])|refine rE ?_|(refine rO goodFF rfl ?_;intro _ hu_ K_ hK_;go_simp;(try rw [wI _]);(try rw [wU _]);refine hK_ _ ?_;clear hK_ K_ hu_;simp only [sS, sN])|(refine rP rfl ?_;simp only [sS, sN])|(refine rP2 rfl ?_;simp only [sS, sN]))
          exact nx _ (by simp) (by simp) (by simp) (by simp [g4]) (by simp)
        | false =>
          repeat (first|refine rA ?_|refine rB ?_|refine rC ?_|refine rD ?_|(refine rR ?_;simp only [tO, Nat.reduceAdd])|refine rE ?_|(refine rO goodFF rfl ?_;intro _ hu_ K_ hK_;go_simp;(try rw [wI _]);(try rw [wU _]);refine hK_ _ ?_;clear hK_ K_ hu_;simp only [sS, sN])|(refine rP rfl ?_;simp only [sS, sN])|(refine rP2 rfl ?_;simp only [sS, sN]))
          (refine reach_cond (t := false) (by simp [Act.eval, hf]) ?_; simp only [if_true, if_false, reduceIte, Bool.false_eq_true])
          repeat (first|refine rA ?_|refine rB ?_|refine rC ?_|refine rD ?_|(refine rR ?_;simp only [tO, Nat.reduceAdd])|refine rE ?_|(refine rO goodFF rfl ?_;intro _ hu_ K_ hK_;go_simp;(try rw [wI _]);(try rw [wU _]);refine hK_ _ ?_;clear hK_ K_ hu_;simp only [sS, sN])|(refine rP rfl ?_;simp only [sS, sN])|(refine rP2 rfl ?_;simp only [sS, sN]))
          exact nx _ (by simp) (by simp) (by simp) (by simp [g4]) (by simp [heI, he])
set_option maxRecDepth 100000 in
set_option maxHeartbeats 8000000 in
theorem mo_loop {f : Nat → Value} (zz : Nat → Int) (hzz : ∀ j, -9223372036854775808 ≤ zz j ∧ zz j ≤ 9223372036854775807) (hn : n ≤ 1048576) (hs : IntsV v p n c zz) (b0 : Bool) (f0 : f 0 = .slice p n c) (f3 : f 3 = .slice none 0 0) (f4 : f 4 = .int .i64 0) (f5 : f 5 = .bool b0)
    (next : ∀ (f : Nat → Value) (w : World) (dv : Value), Ext v w → w.ownsRow v.heap.size 9 1 dv n (txts (fun j => pickZ (zz j)) n) → f 3 = dv → f 4 = .int .i64 ((fstZ (fun j => pickZ (zz j)) n : Nat) : Int) → f 5 = .bool (b0 || !okZ (fun j => pickZ (zz j)) n) → MoR (rst 5 (Tryd.f3.body.getD .skip)) S v w f) :
    MoR (rst 4 (Tryd.f3.body.getD .skip)) S v v f := by
  intro Stop cs ret
  obtain ⟨is, zc, is1, is2, is3, is4, is5⟩ := infoStr
  rw [mo_eq2]
  have nx := fun f w dv a b d e g => next f w dv a b d e g Stop cs ret
  clear next ret
  generalize rst 5 (Tryd.f3.body.getD .skip) = R at nx
  simp only [nth, hd, tl, Tryd.f3, Option.getD_some]
  obtain ⟨z, hz⟩ : ∃ z : Nat → Nat, z = fun j => pickZ (zz j) := ⟨_, rfl⟩
  rw [← hz] at nx
  have HZz := hide hz
  clear hz
  repeat (first|refine rA ?_|refine rB ?_|refine rC ?_|refine rD ?_|(refine rR ?_;simp only [tO, Nat.reduceAdd])|refine rE ?_|(refine rO goodFF rfl ?_;intro _ hu_ K_ hK_;go_simp;(try rw [wI _]);(try rw [wU _]);refine hK_ _ ?_;clear hK_ K_ hu_;simp only [sS, sN])|(refine rP rfl ?_;simp only [sS, sN])|(refine rP2 rfl ?_;simp only [sS, sN]))
  refine reach_rounds (fun d f' S' w => ∃ k dv, d = n - k ∧ k ≤ n ∧ S' = S ∧ (Ext v w ∧ w.ownsRow v.heap.size 9 1 dv k (txts z k)) ∧ f' 0 = .slice p n c ∧ f' 3 = dv ∧ f' 4 = .int .i64 ((fstZ z k : Nat) : Int) ∧ f' 5 = .bool (b0 || !okZ z k) ∧ f' 6 = .int .i64 (k : Nat)) n ⟨0, .slice none 0 0, by omega, by omega, rfl, ⟨.refl _, World.ownsRow_nil _ _ _ _⟩, by simp [f0], by simp [f3], by simp [f4, fstZ], by simp [f5, okZ], by simp⟩ ?_
  clear f0 f3 f4 f5 f
  rintro d f S' w ⟨k, dv, rfl, hk, eS, ⟨hEw, how⟩, g0, g3, g4, g5, g6⟩ nxt
  subst S'
  repeat (first|refine rA ?_|refine rB ?_|refine rC ?_|refine rD ?_|(refine rR ?_;simp only [tO, Nat.reduceAdd])|refine rE ?_|(refine rO goodFF rfl ?_;intro _ hu_ K_ hK_;go_simp;(try rw [wI _]);(try rw [wU _]);refine hK_ _ ?_;clear hK_ K_ hu_;simp only [sS, sN])|(refine rP rfl ?_;simp only [sS, sN])|(refine rP2 rfl ?_;simp only [sS, sN]))
  by_cases hlt : k < n
  · have hkI : (k : Int) < (n : Int) := by omega
    obtain ⟨B, off, rfl, hcap, hcell⟩ : ∃ B off, p = some ⟨B, off, none⟩ ∧ n ≤ c ∧ ∀ j, j < n → v.cell? ⟨B, off + j, none⟩ = some (.int .i64 (zz j)) := by
      rcases hs with ⟨_, h, _⟩ | h
      · omega
      · exact h
    have hck := hEw.cell (hcell k hlt)
    (refine reach_cond (t := true) (by simp [Act.eval, hkI, hlt]) ?_; simp only [if_true, if_false, reduceIte, Bool.false_eq_true])
    repeat (first|refine rA ?_|refine rB ?_|refine rC ?_|refine rD ?_|(refine rR ?_;simp only [tO, Nat.reduceAdd])|refine rE ?_|(refine rO goodFF rfl ?_;intro _ hu_ K_ hK_;(have hc := (Ext.twin hu_).cell hck);go_simp;(try rw [wI _]);(try rw [wU _]);refine hK_ _ ?_;clear hK_ K_ hu_;simp only [sS, sN])|(refine rP rfl ?_;simp only [sS, sN])|(refine rP2 rfl ?_;simp only [sS, sN]))
    (refine reach_callR rfl (by first | rfl | simp [Region.wanted, yielded, TA_get, *]) rfl Tryd.func5 (by kernel_rfl) rfl (by simp [Act.eval, *]; try rfl) (pick_r (zz k) (hzz k).1 (hzz k).2) ?_)
    rintro _ S1 w1 _ ⟨rfl, e1, e2⟩
    subst S1 w1
    simp only [stO_some]
    have hzk : pickZ (zz k) = z k := by rw [HZz.out]
    have hz7 : z k < 7000 := by rw [← hzk]; exact pickZ_lt _
    rw [hzk]
    clear hzk
    repeat (first|refine rA ?_|refine rB ?_|refine rC ?_|refine rD ?_|(refine rR ?_;simp only [tO, Nat.reduceAdd])|refine rE ?_|(refine rO goodFF rfl ?_;intro _ hu_ K_ hK_;go_simp;(try rw [wI _]);(try rw [wU _]);refine hK_ _ ?_;clear hK_ K_ hu_;simp only [sS, sN])|(refine rP rfl ?_;simp only [sS, sN])|(refine rP2 rfl ?_;simp only [sS, sN]))
    refine reach_makeBytes goodFF rfl rfl (by kernel_rfl) rfl (m := z k) (by simp) (by simp) (by omega) (by kernel_rfl) Tryd.underlying25 fun w1 hE1 hr1 hs1 => ?_
    simp only [stO_some]
    have hzc : ∀ i, i < z k → w1.cell? ⟨w.heap.size, i, none⟩ = some (.int .u8 0) := fun i hi => by
      rw [cell_of_row _ _ _ _ _ _ hr1]
      simp [hi]
    repeat (first|refine rA ?_|refine rB ?_|refine rC ?_|refine rD ?_|(refine rR ?_;simp only [tO, Nat.reduceAdd])|refine rE ?_|(refine rO goodFF rfl ?_;intro _ hu_ K_ hK_;(have kc := run_text (c := z k) fun i hi => (Ext.twin hu_).cell (hzc i hi));go_simp;(try rw [wI _]);(try rw [wU _]);refine hK_ _ ?_;clear hK_ K_ hu_;simp only [sS, sN])|(refine rP rfl ?_;simp only [sS, sN])|(refine rP2 rfl ?_;simp only [sS, sN]))
    refine reach_turnQ (Q := fun x w2 => x = .slice (some ⟨w1.heap.size, 0, none⟩) 1 1 ∧ Ext w1 w2 ∧ w2.heap[w1.heap.size]? = some (.cells #[.string (zs (z k))] 9)) goodFF rfl rfl (by kernel_rfl) (fun u hu => ⟨_, _, .inl (run_build1 (x := .tmp 35) (y := .string (zs (z k))) rfl Tryd.underlying23 is1 is2 is3 is5 (by simp) rfl u), by rw [hu.heap], (Ext.twin hu).trans _ _ _ (Ext.alloc _ _), by rw [← hu.heap]; exact alloc_at _ _⟩) ?_
    rintro _ w2 ⟨rfl, hE2, hr2⟩
    simp only [stO_some]
    have hE12 := hE1.trans _ _ _ hE2
    have gw : Gr w w2 none := ⟨hE12.os, hE12.output, hE12.size, fun b hb _ => hE12.block b hb⟩
    have how2 := own_gr how gw (by simp)
    refine reach_turnQ goodFF rfl rfl (by kernel_rfl) (fun u hu => append_does2 (s := .tmp 32) (x := .tmp 36) (ad := ⟨w1.heap.size, 0, none⟩) (m := 1) (c := 1) (news := [.string (zs (z k))]) hu v.heap.size Tryd.underlying23 is1 is2 is3 is4 (by rw [is5]; rfl) how2 rfl (by omega) (one_cellS hr2) (fun y hy => by rw [List.mem_singleton] at hy; subst hy; rfl) (by unfold maxLen; omega) (by omega) (Nat.le_trans hEw.size hE12.size) rfl (by simp [g3]) (by simp)) ?_
    rintro dv' w3 ⟨ho3, hg3, _⟩
    simp only [stO_some]
    have ho4 : w3.ownsRow v.heap.size 9 1 dv' (k + 1) (txts z (k + 1)) := by
      rw [← txts_succ]
      exact ho3
    have hE3 : Ext v w3 := Gr.over (hEw.trans _ _ _ hE12) hg3 fun b hb => own_base how2 hb
    clear ho3 hg3 how2 gw hE12 hr2 hE2 hzc hr1 hE1 hcell hck how
    have nxt' : ∀ f' : Nat → Value, f' 0 = .slice (some ⟨B, off, none⟩) n c → f' 3 = dv' → f' 4 = .int .i64 ((fstZ z (k + 1) : Nat) : Int) → f' 5 = .bool (b0 || !okZ z (k + 1)) → f' 6 = .int .i64 ((k + 1 : Nat) : Int) → _ := fun f' a1 a2 a3 a4 a5 => nxt f' S w3 (n - (k + 1)) (by omega) ⟨k + 1, dv', rfl, by omega, rfl, ⟨hE3, ho4⟩, a1, a2, a3, a4, a5⟩
    clear nxt nx
    (refine rO goodFF rfl ?_;intro _ hu_ K_ hK_;go_simp;(try rw [wI _]);(try rw [wU _]);refine hK_ _ ?_;clear hK_ K_ hu_;simp only [sS, sN])
    refine rE ?_
    refine mo_tail (z := z) (k := k) (b0 := b0) ?_ ?_ ?_ ?_
    · simp [g4]
    · simp [g5]
    · simp
    intro f' a0 a3 a6 a4 a5
    simp only [st_apply, Nat.reduceEqDiff, if_false, if_true, reduceIte] at a0 a3 a6
    repeat (first|refine rA ?_|refine rB ?_|refine rC ?_|refine rD ?_|(refine rR ?_;simp only [tO, Nat.reduceAdd])|refine rE ?_|(refine rO goodFF rfl ?_;intro _ hu_ K_ hK_;go_simp;(try rw [wI _]);(try rw [wU _]);refine hK_ _ ?_;clear hK_ K_ hu_;simp only [sS, sN])|(refine rP rfl ?_;simp only [sS, sN])|(refine rP2 rfl ?_;simp only [sS, sN]))
    exact nxt' _ (by simp [a0, g0]) (by simp [a3]) (by simp [a4]) (by simp [a5]) (by simp [a6, g6])
  · obtain rfl : k = n := by omega
    (refine reach_cond (t := false) (by simp [Act.eval]) ?_; simp only [if_true, if_false, reduceIte, Bool.false_eq_true])
    refine reach_exit rfl ?_
    repeat (first|refine rA ?_|refine rB ?_|refine rC ?_|refine rD ?_|(refine rR ?_;simp only [tO, Nat.reduceAdd])|refine rE ?_|(refine rO goodFF rfl ?_;intro _ hu_ K_ hK_;go_simp;(try rw [wI _]);(try rw [wU _]);refine hK_ _ ?_;clear hK_ K_ hu_;simp only [sS, sN])|(refine rP rfl ?_;simp only [sS, sN])|(refine rP2 rfl ?_;simp only [sS, sN]))
    exact nx _ w dv hEw how (by simp [g3]) (by simp [g4]) (by simp [g5])
end
end Go.Proofs.YtpiefebngnlfoaaDoor
