/-
  mosaickeep.Any, the small functions that it calls: pick, same; and what ten pieces settle.
-/
import Derived.Test.YtpiefebngnlfoaaLo
import Derived.Test.YtpiefebngnlfoaaLl
set_option linter.unusedVariables false
set_option linter.unusedSimpArgs false
namespace Go.Proofs.Ytpiefebngnlfoaa
open Go.RowKit Go.Conc Go.Vw

theorem pick_neg {S : Nat → Prop} {v : World} (c : Int) (h1 : -9223372036854775808 ≤ c) (h2 : c ≤ 9223372036854775807) (hc : c < 0) :
    CallsR Try.prog 31 #[.int .i64 c, .int .i64 14] S v fun x S' v' => (∃ r : Nat, r < 14 ∧ x = .int .i64 (r : Nat)) ∧ S' = S ∧ v' = v := by
  refine callsR_body Try.func31 rfl Try.ntmps31 (by simp) fun Stop cc cs ret => ?_
  have g0 : argF #[.int .i64 c, .int .i64 14] 0 = .int .i64 c := rfl
  have g1 : argF #[.int .i64 c, .int .i64 14] 1 = .int .i64 14 := rfl
  generalize argF #[.int .i64 c, .int .i64 14] = f at g0 g1
  repeat (first|refine rA ?_|refine rB ?_|refine rC ?_|refine rD ?_|(refine rR ?_;simp only [tO, Nat.reduceAdd])|refine rE ?_|(refine rO goodFF rfl ?_;intro _ hu_ K_ hK_;go_simp;(try rw [wI _]);(try rw [wU _]);refine hK_ _ ?_;clear hK_ K_ hu_;simp only [sS, sN])|(refine rP rfl ?_;simp only [sS, sN]))
  (refine reach_cond (t := true) (by simp [Act.eval, hc]) ?_; simp only [if_true, if_false, reduceIte, Bool.false_eq_true])
  repeat (first|refine rA ?_|refine rB ?_|refine rC ?_|refine rD ?_|(refine rR ?_;simp only [tO, Nat.reduceAdd])|refine rE ?_|(refine rO goodFF rfl ?_;intro _ hu_ K_ hK_;go_simp;(try rw [wI _]);(try rw [wU _]);refine hK_ _ ?_;clear hK_ K_ hu_;simp only [sS, sN])|(refine rP rfl ?_;simp only [sS, sN]))
  refine reach_ret fun todo => ?_
  have hm : (-(c + 1)).tmod 14 = (-(c + 1)) % 14 := Int.tmod_eq_emod_of_nonneg (by omega)
  have hr : (-(c + 1)).tmod 14 = ((((-(c + 1)).tmod 14).toNat : Nat) : Int) := by omega
  refine ret _ _ _ _ (.int .i64 ((-(c + 1)).tmod 14)) ?_ ⟨⟨((-(c + 1)).tmod 14).toNat, by omega, by rw [← hr]⟩, rfl, rfl⟩
  simp [results, Try.results31]
theorem pick_pos {S : Nat → Prop} {v : World} (c : Int) (h1 : -9223372036854775808 ≤ c) (h2 : c ≤ 9223372036854775807) (hc : ¬ c < 0) :
    CallsR Try.prog 31 #[.int .i64 c, .int .i64 14] S v fun x S' v' => (∃ r : Nat, r < 14 ∧ x = .int .i64 (r : Nat)) ∧ S' = S ∧ v' = v := by
  refine callsR_body Try.func31 rfl Try.ntmps31 (by simp) fun Stop cc cs ret => ?_
  have g0 : argF #[.int .i64 c, .int .i64 14] 0 = .int .i64 c := rfl
  have g1 : argF #[.int .i64 c, .int .i64 14] 1 = .int .i64 14 := rfl
  generalize argF #[.int .i64 c, .int .i64 14] = f at g0 g1
  repeat (first|refine rA ?_|refine rB ?_|refine rC ?_|refine rD ?_|(refine rR ?_;simp only [tO, Nat.reduceAdd])|refine rE ?_|(refine rO goodFF rfl ?_;intro _ hu_ K_ hK_;go_simp;(try rw [wI _]);(try rw [wU _]);refine hK_ _ ?_;clear hK_ K_ hu_;simp only [sS, sN])|(refine rP rfl ?_;simp only [sS, sN]))
  (refine reach_cond (t := false) (by simp [Act.eval, hc]) ?_; simp only [if_true, if_false, reduceIte, Bool.false_eq_true])
  repeat (first|refine rA ?_|refine rB ?_|refine rC ?_|refine rD ?_|(refine rR ?_;simp only [tO, Nat.reduceAdd])|refine rE ?_|(refine rO goodFF rfl ?_;intro _ hu_ K_ hK_;go_simp;(try rw [wI _]);(try rw [wU _]);refine hK_ _ ?_;clear hK_ K_ hu_;simp only [sS, sN])|(refine rP rfl ?_;simp only [sS, sN]))
  refine reach_ret fun todo => ?_
  have hm : c.tmod 14 = c % 14 := Int.tmod_eq_emod_of_nonneg (by omega)
  have hr : c.tmod 14 = (((c.tmod 14).toNat : Nat) : Int) := by omega
  refine ret _ _ _ _ (.int .i64 (c.tmod 14)) ?_ ⟨⟨(c.tmod 14).toNat, by omega, by rw [← hr]⟩, rfl, rfl⟩
  simp [results, Try.results31]
theorem pick_r {S : Nat → Prop} {v : World} (c : Int) (h1 : -9223372036854775808 ≤ c) (h2 : c ≤ 9223372036854775807) :
    CallsR Try.prog 31 #[.int .i64 c, .int .i64 14] S v fun x S' v' => (∃ r : Nat, r < 14 ∧ x = .int .i64 (r : Nat)) ∧ S' = S ∧ v' = v := by
  by_cases hc : c < 0
  · exact pick_neg c h1 h2 hc
  · exact pick_pos c h1 h2 hc

set_option maxRecDepth 100000 in
set_option maxHeartbeats 1000000 in
/-- Bytes that are the same. -/
theorem same_r {S : Nat → Prop} {v : World} (p1 p2 : Option Addr) (L c1 c2 : Nat) (x1 x2 : Nat → Nat) (hL : L ≤ 400) (h1 : SliceV v p1 L c1 x1) (h2 : SliceV v p2 L c2 x2) (he : ∀ i, i < L → x1 i = x2 i) :
    CallsR Try.prog 32 #[.slice p1 L c1, .slice p2 L c2] S v fun x S' v' => x = .bool true ∧ S' = S ∧ v' = v := by
  refine callsR_body Try.func32 rfl Try.ntmps32 (by simp) fun Stop cc cs ret => ?_
  have g0 : argF #[.slice p1 L c1, .slice p2 L c2] 0 = .slice p1 L c1 := rfl
  have g1 : argF #[.slice p1 L c1, .slice p2 L c2] 1 = .slice p2 L c2 := rfl
  generalize argF #[.slice p1 L c1, .slice p2 L c2] = f at g0 g1
  repeat (first|refine rA ?_|refine rB ?_|refine rC ?_|refine rD ?_|(refine rR ?_;simp only [tO, Nat.reduceAdd])|refine rE ?_|(refine rO goodFF rfl ?_;intro _ hu_ K_ hK_;go_simp;(try rw [wI _]);(try rw [wU _]);refine hK_ _ ?_;clear hK_ K_ hu_;simp only [sS, sN])|(refine rP rfl ?_;simp only [sS, sN]))
  (refine reach_cond (t := false) (by simp [Act.eval]) ?_; simp only [if_true, if_false, reduceIte, Bool.false_eq_true])
  repeat (first|refine rA ?_|refine rB ?_|refine rC ?_|refine rD ?_|(refine rR ?_;simp only [tO, Nat.reduceAdd])|refine rE ?_|(refine rO goodFF rfl ?_;intro _ hu_ K_ hK_;go_simp;(try rw [wI _]);(try rw [wU _]);refine hK_ _ ?_;clear hK_ K_ hu_;simp only [sS, sN])|(refine rP rfl ?_;simp only [sS, sN]))
  refine reach_rounds (fun d f' S' v' => ∃ j, d = L - j ∧ j ≤ L ∧ S' = S ∧ v' = v ∧ f' 0 = .slice p1 L c1 ∧ f' 1 = .slice p2 L c2 ∧ f' 5 = .int .i64 (j : Nat)) L ⟨0, by omega, by omega, rfl, rfl, by simp [g0], by simp [g1], by simp⟩ ?_
  rintro d f' S' v' ⟨j, rfl, hj, eS, eV, q0, q1, q5⟩ next
  subst S' v'
  repeat (first|refine rA ?_|refine rB ?_|refine rC ?_|refine rD ?_|(refine rR ?_;simp only [tO, Nat.reduceAdd])|refine rE ?_|(refine rO goodFF rfl ?_;intro _ hu_ K_ hK_;go_simp;(try rw [wI _]);(try rw [wU _]);refine hK_ _ ?_;clear hK_ K_ hu_;simp only [sS, sN])|(refine rP rfl ?_;simp only [sS, sN]))
  by_cases hlt : j < L
  · have hjI : (j : Int) < (L : Int) := by omega
    obtain ⟨B1, o1, hp1, k1, b1⟩ : ∃ B off, p1 = some ⟨B, off, none⟩ ∧ L ≤ c1 ∧ BytesAt v B off L x1 := by
      rcases h1 with ⟨_, h, _⟩ | h
      · omega
      · exact h
    obtain ⟨B2, o2, hp2, k2, b2⟩ : ∃ B off, p2 = some ⟨B, off, none⟩ ∧ L ≤ c2 ∧ BytesAt v B off L x2 := by
      rcases h2 with ⟨_, h, _⟩ | h
      · omega
      · exact h
    subst hp1 hp2
    have e1 := b1 j hlt
    have e2 := b2 j hlt
    rw [he j hlt] at e1
    (refine reach_cond (t := true) (by simp [Act.eval, hlt]) ?_; simp only [if_true, if_false, reduceIte, Bool.false_eq_true])
    repeat (first|refine rA ?_|refine rB ?_|refine rC ?_|refine rD ?_|(refine rR ?_;simp only [tO, Nat.reduceAdd])|refine rE ?_|(refine rO goodFF rfl ?_;intro _ hu_ K_ hK_;go_simp;(try rw [wI _]);(try rw [wU _]);refine hK_ _ ?_;clear hK_ K_ hu_;simp only [sS, sN])|(refine rP rfl ?_;simp only [sS, sN]))
    refine reach_draw goodFF (by first | kernel_rfl | rfl) ?_
    simp only [List.size_toArray, List.length_cons, List.length_nil, Nat.reduceAdd, Nat.zero_add]
    co_applyP rT (i := 0) rfl (fun _ hu_ => run_eq_of ?u1_0) ?v1_0
    case u1_0 => intro K_ hK_;go_simp;(try rw [wI _]);(try rw [wU _]);exact hK_
    simp only [sS, sN]
    co_applyP rT (i := 1) rfl (fun _ hu_ => run_eq_of ?u1_1) ?v1_1
    case u1_1 => intro K_ hK_;go_simp;(try rw [wI _]);(try rw [wU _]);exact hK_
    simp only [sS, sN]
    co_applyP rT (i := 2) rfl (fun _ hu_ => run_eq_of ?u1_2) ?v1_2
    case u1_2 => intro K_ hK_;go_simp;(try rw [wI _]);(try rw [wU _]);exact hK_
    simp only [sS, sN]
    co_applyP rT (i := 3) rfl (fun _ hu_ => run_eq_of ?u2) ?v2
    case u2 => intro K_ hK_;(have hc := (Ext.twin hu_).cell e1);go_simp;(try rw [wI _]);(try rw [wU _]);exact hK_
    simp only [sS, sN]
    co_applyP rT (i := 4) rfl (fun _ hu_ => run_eq_of ?u3_4) ?v3_4
    case u3_4 => intro K_ hK_;go_simp;(try rw [wI _]);(try rw [wU _]);exact hK_
    simp only [sS, sN]
    co_applyP rT (i := 5) rfl (fun _ hu_ => run_eq_of ?u3_5) ?v3_5
    case u3_5 => intro K_ hK_;go_simp;(try rw [wI _]);(try rw [wU _]);exact hK_
    simp only [sS, sN]
    co_applyP rT (i := 6) rfl (fun _ hu_ => run_eq_of ?u3_6) ?v3_6
    case u3_6 => intro K_ hK_;go_simp;(try rw [wI _]);(try rw [wU _]);exact hK_
    simp only [sS, sN]
    co_applyP rT (i := 7) rfl (fun _ hu_ => run_eq_of ?u4) ?v4
    case u4 => intro K_ hK_;(have hc := (Ext.twin hu_).cell e2);go_simp;(try rw [wI _]);(try rw [wU _]);exact hK_
    simp only [sS, sN]
    co_applyP rT (i := 8) rfl (fun _ hu_ => run_eq_of ?u5) ?v5
    case u5 => intro K_ hK_;go_simp;(try rw [wI _]);(try rw [wU _]);exact hK_
    simp only [sS, sN]
    refine anyR_done (by first | kernel_rfl | decide +kernel) ?_ _
    repeat (first|refine rA ?_|refine rB ?_|refine rC ?_|refine rD ?_|(refine rR ?_;simp only [tO, Nat.reduceAdd])|refine rE ?_|(refine rO goodFF rfl ?_;intro _ hu_ K_ hK_;go_simp;(try rw [wI _]);(try rw [wU _]);refine hK_ _ ?_;clear hK_ K_ hu_;simp only [sS, sN])|(refine rP rfl ?_;simp only [sS, sN]))
    (refine reach_cond (t := false) (by simp [Act.eval]) ?_; simp only [if_true, if_false, reduceIte, Bool.false_eq_true])
    repeat (first|refine rA ?_|refine rB ?_|refine rC ?_|refine rD ?_|(refine rR ?_;simp only [tO, Nat.reduceAdd])|refine rE ?_|(refine rO goodFF rfl ?_;intro _ hu_ K_ hK_;go_simp;(try rw [wI _]);(try rw [wU _]);refine hK_ _ ?_;clear hK_ K_ hu_;simp only [sS, sN])|(refine rP rfl ?_;simp only [sS, sN]))
    refine next _ _ _ (L - (j + 1)) (by omega) ⟨j + 1, rfl, by omega, rfl, rfl, by simp [q0], by simp [q1], by simp⟩
  · obtain rfl : j = L := by omega
    (refine reach_cond (t := false) (by simp [Act.eval]) ?_; simp only [if_true, if_false, reduceIte, Bool.false_eq_true])
    refine reach_exit rfl ?_
    repeat (first|refine rA ?_|refine rB ?_|refine rC ?_|refine rD ?_|(refine rR ?_;simp only [tO, Nat.reduceAdd])|refine rE ?_|(refine rO goodFF rfl ?_;intro _ hu_ K_ hK_;go_simp;(try rw [wI _]);(try rw [wU _]);refine hK_ _ ?_;clear hK_ K_ hu_;simp only [sS, sN])|(refine rP rfl ?_;simp only [sS, sN]))
    refine reach_ret fun todo => ?_
    refine ret _ _ _ _ (.bool true) ?_ ⟨rfl, rfl, rfl⟩
    simp [results, Try.results32]

theorem cut_isP {x : Nat → Nat} (h : ∀ i, x i < 256) (L i : Nat) : Fld.IsP 10 fun k => pieceOf id (rowOf x L ((L + 9) / 10)) k i :=
  Fld.comb_isP (fun i hi => by simp only [id]; omega) (fun j => row_lt h _ _ _ _) 10 (Nat.le_refl _)
theorem cut_piece {x : Nat → Nat} (h : ∀ i, x i < 256) (L k i : Nat) : cutOf x L k i = pieceOf id (rowOf x L ((L + 9) / 10)) k i := by
  unfold cutOf
  split
  · rename_i hk
    exact (Fld.comb_at (known := id) (x := rowOf x L ((L + 9) / 10)) (i := i) (m := k) (fun i hi => by simp only [id]; omega) (fun i j _ _ e => e) (fun j => row_lt h _ _ _ _) hk).symm
  · rfl
/-- ANY TEN PIECES ARE ENOUGH. -/
theorem mend_cut {x : Nat → Nat} (h : ∀ i, x i < 256) (L : Nat) {kn : Nat → Nat} (hk : ∀ i, i < 10 → kn i < 14) (hinj : ∀ i j, i < 10 → j < 10 → kn i = kn j → i = j) {k : Nat} (hk14 : k < 14) (i : Nat) : mendOf kn (cutOf x L) k i = cutOf x L k i := by
  unfold mendOf
  split
  · have hf : Fld.IsP 10 fun k => cutOf x L k i := by
      obtain ⟨c, hc, he⟩ := cut_isP h L i
      exact ⟨c, hc, fun y hy => (cut_piece h L y i).trans (he y hy)⟩
    exact Fld.comb_back (fun i hi => by have := hk i hi; omega) hinj hf (fun k => cut_lt h L k i) k (by omega)
  · rfl
/-- How many are there. -/
def cntS (q : Nat → Option Addr) : Nat → Nat
  | 0 => 0
  | i + 1 => cntS q i + if (q i).isSome = true then 1 else 0
theorem ftC_cnt (q : Nat → Option Addr) (i : Nat) : (ftC q i).1 = min 10 (cntS q i) := by
  induction i with
  | zero => rfl
  | succ i ih =>
    unfold ftC cntS
    by_cases h : (q i).isSome = true
    · by_cases h10 : (ftC q i).1 < 10
      · rw [if_pos ⟨h, h10⟩, if_pos h]
        show (ftC q i).1 + 1 = _
        omega
      · rw [if_neg (fun e => h10 e.2), if_pos h]
        omega
    · rw [if_neg (fun e => h e.1), if_neg h]
      exact ih
theorem cntS_lose {q q' : Nat → Option Addr} {r : Nat} (h : ∀ k, k ≠ r → q' k = q k) (i : Nat) : cntS q i ≤ cntS q' i + if r < i then 1 else 0 := by
  induction i with
  | zero => exact Nat.zero_le _
  | succ i ih =>
    unfold cntS
    by_cases e : i = r
    · subst e
      rw [if_neg (Nat.lt_irrefl _)] at ih
      rw [if_pos (Nat.lt_succ_self _)]
      split <;> split <;> omega
    · rw [h i e]
      have : (if r < i + 1 then 1 else 0) = if r < i then 1 else 0 := by
        by_cases h1 : r < i
        · rw [if_pos h1, if_pos (by omega)]
        · rw [if_neg h1, if_neg (by omega)]
      rw [this]
      omega
theorem cntS_all {q : Nat → Option Addr} (i : Nat) (h : ∀ k, k < i → (q k).isSome = true) : cntS q i = i := by
  induction i with
  | zero => rfl
  | succ i ih =>
    unfold cntS
    rw [ih fun k hk => h k (by omega), if_pos (h i (by omega))]
end Go.Proofs.Ytpiefebngnlfoaa

/-
  mosaickeep.Any: to the list of pieces.
-/
set_option linter.unusedVariables false
set_option linter.unusedSimpArgs false
namespace Go.Proofs.Ytpiefebngnlfoaa
open Go.RowKit Go.Conc Go.Vw

/-- The law's text, in parts. -/
def anyB' (c : Code) : Code := tl (tl (tl (tl (tl c))))
def anyC (c : Code) : Code := tl (tl (anyB' c))
def anyD (c : Code) : Code := tl (anyC c)
def anyE (c : Code) : Code := tl (tl (tl (anyD c)))

theorem any_eqA : Try.f8.body.getD .skip = .seq (hd (Try.f8.body.getD .skip)) (.seq (hd (tl (Try.f8.body.getD .skip))) (.seq (hd (tl (tl (Try.f8.body.getD .skip)))) (.seq (hd (tl (tl (tl (Try.f8.body.getD .skip))))) (.seq (hd (tl (tl (tl (tl (Try.f8.body.getD .skip)))))) (anyB' (Try.f8.body.getD .skip)))))) := rfl
/-- The rest of Any, from a point of its text on. -/
def AnR (c : Code) (S : Nat → Prop) (v0 v : World) (f : Nat → Value) : Prop :=
  ∀ (Stop : Goroutine → (Nat → Prop) → World → Prop) (cs : List Frame),
    (∀ (f' : Nat → Value) (todo : List Item) (S' : Nat → Prop) (v' : World), f' 4 = .bool true → Kp v0 (fun _ => False) v' → Vw.Reach Try.prog Stop (G { (base 8).at ⟨TA 118 f', []⟩ todo with mode := .returning } cs) S' v') →
    Vw.Reach Try.prog Stop (G ((base 8).at ⟨TA 118 f, []⟩ [.code c]) cs) S v
/-- A slice of numbers, or nil. -/
def IntsV (v : World) (p : Option Addr) (len cap : Nat) (z : Nat → Int) : Prop := (p = none ∧ len = 0 ∧ cap = 0) ∨ ∃ B off, p = some ⟨B, off, none⟩ ∧ len ≤ cap ∧ ∀ j, j < len → v.cell? ⟨B, off + j, none⟩ = some (.int .i64 (z j))
theorem ints_kp {v v' : World} (h : Kp v (fun _ => False) v') {p : Option Addr} {len cap : Nat} {z : Nat → Int} (hs : IntsV v p len cap z) : IntsV v' p len cap z :=
  hs.imp id fun ⟨B, off, h1, h2, h3⟩ => ⟨B, off, h1, h2, fun j hj => h.cell (fun x => x) (h3 j hj)⟩

set_option maxRecDepth 100000 in
set_option maxHeartbeats 1000000 in
theorem any_a {S : Nat → Prop} {v : World} (p1 p2 : Option Addr) (len1 cap1 len2 cap2 : Nat) (x : Nat → Nat) (z : Nat → Int) (hx : ∀ i, x i < 256) (h1 : SliceV v p1 len1 cap1 x) (h2 : IntsV v p2 len2 cap2 z) (hl1 : len1 < 2 ^ 63) (hg : Try.prog.globals.size ≤ v.heap.size)
    (next : ∀ (S' : Nat → Prop) (v' : World) (f : Nat → Value) (L BA : Nat) (PA : Nat → Nat), Kp v (fun _ => False) v' → L ≤ 400 → SliceV v' p1 L cap1 x → IntsV v' p2 len2 cap2 z → L14 v' BA PA ((L + 9) / 10) (cutOf x L) → f 0 = .slice p1 L cap1 → f 1 = .slice p2 len2 cap2 → f 6 = sl BA 14 → AnR (anyB' (Try.f8.body.getD .skip)) S' v v' f) :
    AnR (Try.f8.body.getD .skip) S v v (argF #[.slice p1 len1 cap1, .slice p2 len2 cap2]) := by
  intro Stop cs ret
  have g0 : argF #[.slice p1 len1 cap1, .slice p2 len2 cap2] 0 = .slice p1 len1 cap1 := rfl
  have g1 : argF #[.slice p1 len1 cap1, .slice p2 len2 cap2] 1 = .slice p2 len2 cap2 := rfl
  generalize argF #[.slice p1 len1 cap1, .slice p2 len2 cap2] = f at g0 g1
  rw [any_eqA]
  generalize anyB' (Try.f8.body.getD .skip) = LB at next ⊢
  simp only [hd, tl, Try.f8, Option.getD_some]
  repeat (first|refine rA ?_|refine rB ?_|refine rC ?_|refine rD ?_|(refine rR ?_;simp only [tO, Nat.reduceAdd])|refine rE ?_|(refine rO goodFF rfl ?_;intro _ hu_ K_ hK_;go_simp;(try rw [wI _]);(try rw [wU _]);refine hK_ _ ?_;clear hK_ K_ hu_;simp only [sS, sN])|(refine rP rfl ?_;simp only [sS, sN]))
  (refine reach_callR rfl (by first | rfl | simp [Region.wanted, yielded, TA_get, *]) rfl Try.func29 (by kernel_rfl) rfl (by simp [Act.eval, *]; try rfl) (alive_r hg) ?_)
  rintro _ S1 v1 hv1 ⟨rfl, hk1⟩
  simp only [stO_some]
  have q1 := slice_kp hk1 h1
  have q2 := ints_kp hk1 h2
  repeat (first|refine rA ?_|refine rB ?_|refine rC ?_|refine rD ?_|(refine rR ?_;simp only [tO, Nat.reduceAdd])|refine rE ?_|(refine rO goodFF rfl ?_;intro _ hu_ K_ hK_;go_simp;(try rw [wI _]);(try rw [wU _]);refine hK_ _ ?_;clear hK_ K_ hu_;simp only [sS, sN])|(refine rP rfl ?_;simp only [sS, sN]))
  (refine reach_callR rfl (by first | rfl | simp [Region.wanted, yielded, TA_get, *]) rfl Try.func30 (by kernel_rfl) rfl (by simp [Act.eval, *]; try rfl) (short_r len1 cap1 p1 x q1 hl1) ?_)
  rintro _ S2 w2 _ ⟨rfl, e1, e2⟩
  subst S2 w2
  simp only [stO_some]
  replace q1 := q1.head (Nat.min_le_left len1 400)
  have m1 := Nat.min_le_right len1 400
  generalize min len1 400 = L1 at q1 m1 ⊢
  repeat (first|refine rA ?_|refine rB ?_|refine rC ?_|refine rD ?_|(refine rR ?_;simp only [tO, Nat.reduceAdd])|refine rE ?_|(refine rO goodFF rfl ?_;intro _ hu_ K_ hK_;go_simp;(try rw [wI _]);(try rw [wU _]);refine hK_ _ ?_;clear hK_ K_ hu_;simp only [sS, sN])|(refine rP rfl ?_;simp only [sS, sN]))
  (refine reach_callR rfl (by first | rfl | simp [Region.wanted, yielded, TA_get, *]) rfl Try.func13 (by kernel_rfl) rfl (by simp [Act.eval, *]; try rfl) (mcut_r L1 cap1 p1 x m1 hx q1 (Nat.le_trans hg hk1.size)) ?_)
  rintro _ S2 v2 _ ⟨BA, PA, rfl, hpx⟩
  simp only [stO_some]
  repeat (first|refine rA ?_|refine rB ?_|refine rC ?_|refine rD ?_|(refine rR ?_;simp only [tO, Nat.reduceAdd])|refine rE ?_|(refine rO goodFF rfl ?_;intro _ hu_ K_ hK_;go_simp;(try rw [wI _]);(try rw [wU _]);refine hK_ _ ?_;clear hK_ K_ hu_;simp only [sS, sN])|(refine rP rfl ?_;simp only [sS, sN]))
  (refine reach_cond (t := false) (by simp [Act.eval]) ?_; simp only [if_true, if_false, reduceIte, Bool.false_eq_true])
  refine reach_skip ?_
  refine next S2 v2 _ L1 BA PA (hk1.trans hpx.kp) m1 (slice_kp hpx.kp q1) (ints_kp hpx.kp q2) hpx.l14 ?_ ?_ ?_ Stop cs ret
  all_goals simp [g1]
end Go.Proofs.Ytpiefebngnlfoaa

/-
  mosaickeep.Any: the pieces are copied.
-/
set_option linter.unusedVariables false
set_option linter.unusedSimpArgs false
namespace Go.Proofs.Ytpiefebngnlfoaa
open Go.RowKit Go.Conc Go.Vw

theorem any_eqB : anyB' (Try.f8.body.getD .skip) = .seq (hd (anyB' (Try.f8.body.getD .skip))) (.seq (hd (tl (anyB' (Try.f8.body.getD .skip)))) (anyC (Try.f8.body.getD .skip))) := rfl
/-- What the first loop leaves alone. -/
structure AnyF (f : Nat → Value) (p1 p2 : Option Addr) (L cap1 len2 cap2 BA : Nat) (sv : Value) (k : Nat) : Prop where
  g0 : f 0 = .slice p1 L cap1
  g1 : f 1 = .slice p2 len2 cap2
  g6 : f 6 = sl BA 14
  g8 : f 8 = sv
  g9 : f 9 = .int .i64 (k : Nat)
/-- The list so far: k slices in a row of its own. -/
structure AL (v : World) (m : Nat) (p : Nat → Nat → Nat) (k : Nat) (sv : Value) (QB cp : Nat → Nat) (w : World) : Prop where
  ext : Ext v w
  own : w.ownsRow v.heap.size 25 1 sv k ((List.range k).map fun i => .slice (some ⟨QB i, 0, none⟩) m (cp i))
  el : ∀ i, i < k → m ≤ cp i ∧ (∃ c, w.heap[QB i]? = some (.cells c 5)) ∧ BytesAt w (QB i) 0 m (p i)
/-- One more, as 'append' has left it. -/
structure AL1 (v : World) (m : Nat) (p : Nat → Nat → Nat) (k : Nat) (sv e : Value) (QB cp : Nat → Nat) (w : World) : Prop where
  ext : Ext v w
  own : w.ownsRow v.heap.size 25 1 sv (k + 1) (((List.range k).map fun i => .slice (some ⟨QB i, 0, none⟩) m (cp i)) ++ [e])
  el : ∀ i, i < k → m ≤ cp i ∧ (∃ c, w.heap[QB i]? = some (.cells c 5)) ∧ BytesAt w (QB i) 0 m (p i)
  me : w.ownsRow v.heap.size 5 1 e m ((List.range m).map fun j => .int .u8 (p k j : Nat))
  nil : e = .slice none 0 0 ↔ m = 0
set_option maxRecDepth 100000 in
set_option maxHeartbeats 4000000 in
theorem any_r11 {S : Nat → Prop} {v w : World} {f : Nat → Value} {Stop : Goroutine → (Nat → Prop) → World → Prop} {cs : List Frame} {k0 : List Item} (p1 p2 : Option Addr) (L cap1 len2 cap2 BA m k : Nat) (PA : Nat → Nat) (p : Nat → Nat → Nat) (sv : Value) (QB cp : Nat → Nat) (hm : m ≤ 400) (hf : AnyF f p1 p2 L cap1 len2 cap2 BA sv k) (g10 : f 10 = .slice none 0 0) (hk : k < 14)
    (hp : L14 v BA PA m p) (hA : AL v m p k sv QB cp w)
    (next : ∀ f' sv' e w', AnyF f' p1 p2 L cap1 len2 cap2 BA sv' k → AL1 v m p k sv' e QB cp w' → Vw.Reach Try.prog Stop (G ((base 8).at ⟨TA 118 f', []⟩ (.inRegion ((opsAt 11 (Try.f8.body.getD .skip)).getD #[]) [] :: k0)) cs) S w') :
    Vw.Reach Try.prog Stop (G ((base 8).at ⟨TA 118 f, []⟩ (.code (.region 11 ((opsAt 11 (Try.f8.body.getD .skip)).getD #[]) true) :: k0)) cs) S w := by
  obtain ⟨g0, g1, g6, g8, g9⟩ := hf
  have hkI : (k : Int) < 14 := by omega
  have e : opsAt 11 (Try.f8.body.getD .skip) = some _ := rfl
  rw [e] at next ⊢
  simp only [Option.getD_some] at next ⊢
  clear e
  have hc6 := hA.ext.cell (hp.piece hk)
  obtain ⟨ib, zb, ib1, ib2, ib3, ib4, ib5⟩ := infoB
  obtain ⟨is, zs, is1, is2, is3, is4, is5⟩ := infoS
  refine reach_drawW (fun _ => false) goodFF (by first | kernel_rfl | rfl) ?_
  simp only [List.size_toArray, List.length_cons, List.length_nil, Nat.reduceAdd, Nat.zero_add]
  co_applyP anyW_free (i := 0) rfl (by first | kernel_rfl | decide +kernel) (by first | kernel_rfl | decide +kernel) (by first | kernel_rfl | decide +kernel) (by first | rfl | (simp [Region.wanted, yielded, TA_get, *]; done)) (by kernel_rfl) (fun _ => run_eq_of ?run1_0) ?rest1_0
  case run1_0 =>
    intro K_ hK_
    (skip)
    go_simp
    (try rw [wrapI _ (by omega) (by omega)])
    exact hK_
  simp only [stO_some, stO_none]
  co_applyP anyW_free (i := 1) rfl (by first | kernel_rfl | decide +kernel) (by first | kernel_rfl | decide +kernel) (by first | kernel_rfl | decide +kernel) (by first | rfl | (simp [Region.wanted, yielded, TA_get, *]; done)) (by kernel_rfl) (fun _ => run_eq_of ?run1_1) ?rest1_1
  case run1_1 =>
    intro K_ hK_
    (skip)
    go_simp
    (try rw [wrapI _ (by omega) (by omega)])
    exact hK_
  simp only [stO_some, stO_none]
  refine anyW_free (i := 2) rfl (by first | kernel_rfl | decide +kernel) (by first | kernel_rfl | decide +kernel) (by first | kernel_rfl | decide +kernel) rfl (by kernel_rfl) (run_append_zero (s := .tmp 42) (x := .const (.int .i64 0)) rfl Try.underlying25 ib1 Try.underlying3 (by simp [g10]) rfl) ?_
  simp only [stO_some]
  co_applyP anyW_free (i := 3) rfl (by first | kernel_rfl | decide +kernel) (by first | kernel_rfl | decide +kernel) (by first | kernel_rfl | decide +kernel) (by first | rfl | (simp [Region.wanted, yielded, TA_get, *]; done)) (by kernel_rfl) (fun _ => run_eq_of ?run2_3) ?rest2_3
  case run2_3 =>
    intro K_ hK_
    (skip)
    go_simp
    (try rw [wrapI _ (by omega) (by omega)])
    exact hK_
  simp only [stO_some, stO_none]
  co_applyP anyW_free (i := 4) rfl (by first | kernel_rfl | decide +kernel) (by first | kernel_rfl | decide +kernel) (by first | kernel_rfl | decide +kernel) (by first | rfl | (simp [Region.wanted, yielded, TA_get, *]; done)) (by kernel_rfl) (fun _ => run_eq_of ?run2_4) ?rest2_4
  case run2_4 =>
    intro K_ hK_
    (skip)
    go_simp
    (try rw [wrapI _ (by omega) (by omega)])
    exact hK_
  simp only [stO_some, stO_none]
  co_applyP anyW_free (i := 5) rfl (by first | kernel_rfl | decide +kernel) (by first | kernel_rfl | decide +kernel) (by first | kernel_rfl | decide +kernel) (by first | rfl | (simp [Region.wanted, yielded, TA_get, *]; done)) (by kernel_rfl) (fun _ => run_eq_of ?run2_5) ?rest2_5
  case run2_5 =>
    intro K_ hK_
    (skip)
    go_simp
    (try rw [wrapI _ (by omega) (by omega)])
    exact hK_
  simp only [stO_some, stO_none]
  co_applyP anyW_still (i := 6) rfl (by first | kernel_rfl | decide +kernel) (by first | rfl | (simp [Region.wanted, yielded, TA_get, *]; done)) (by kernel_rfl) (fun _ hu_ => run_eq_of ?run3_6) ?rest3_6
  case run3_6 =>
    intro K_ hK_
    (have hc := (Ext.twin hu_).cell hc6)
    go_simp
    (try rw [wrapI _ (by omega) (by omega)])
    exact hK_
  simp only [stO_some, stO_none]
  have hbyte := bytesL_cell (w := w) (B := PA k) (off := 0) (m := m) (x := p k) fun j hj => hA.ext.cell (by rw [Nat.zero_add]; exact hp.byte hk hj)
  refine anyW_only (i := 7) rfl (by first | kernel_rfl | decide +kernel) rfl (by kernel_rfl) (fun u hu => append_does (s := .tmp 43) (x := .tmp 47) (sv := .slice none 0 0) (n := 0) (xs := []) (ad := ⟨PA k, 0, none⟩) (m := m) (c := m) (news := (List.range m).map fun j => .int .u8 (p k j : Nat)) hu w.heap.size Try.underlying25 ib1 ib2 ib3 ib4 ib5 (World.ownsRow_nil _ _ _ _) (by simp) hbyte bytesL_mem (by omega) (by omega) (Nat.le_refl _) rfl (by simp) (by simp)) ?_
  rintro e w1 ⟨he, hg1, hn1⟩
  simp only [stO_some]
  refine anyW_only (i := 8) (Q := fun x w2 => x = .slice (some ⟨w1.heap.size, 0, none⟩) 1 1 ∧ Ext w1 w2 ∧ w2.heap[w1.heap.size]? = some (.cells #[e] 25)) rfl (by first | kernel_rfl | decide +kernel) rfl (by kernel_rfl) (fun u hu => ⟨_, _, .inl (run_build1 (x := .tmp 48) (y := e) rfl Try.underlying34 is1 is2 is3 is5 (by simp) (own_cells he).1 u), by rw [hu.heap], (Ext.twin hu).trans _ _ _ (Ext.alloc _ _), by rw [← hu.heap]; exact alloc_at _ _⟩) ?_
  rintro _ w2 ⟨rfl, hE2, hr2⟩
  simp only [stO_some]
  have g2 : Gr w1 w2 none := ⟨hE2.os, hE2.output, hE2.size, fun b hb _ => hE2.block b hb⟩
  have hE : Ext w w2 := (Gr.ext hg1).trans _ _ _ hE2
  have gw : Gr w w2 none := ⟨hE.os, hE.output, hE.size, fun b hb _ => hE.block b hb⟩
  have how := own_gr hA.own gw (by simp)
  have hne : ∀ {b c : Nat} {cc : Array Value}, w2.heap[b]? = some (.cells cc 5) → some b ≠ sv.ownBlock := by
    intro b c cc hb hs
    obtain ⟨c', hc'⟩ := own_type how hs.symm
    rw [hb] at hc'
    simp at hc'
  refine anyW_only (i := 9) rfl (by first | kernel_rfl | decide +kernel) rfl (by kernel_rfl) (fun u hu => append_does (s := .tmp 41) (x := .tmp 49) (ad := ⟨w1.heap.size, 0, none⟩) (m := 1) (c := 1) (news := [e]) hu v.heap.size Try.underlying34 is1 is2 is3 is4 (by rw [is5]; rfl) how rfl (fun j y hy => ?_) (fun y hy => ?_) (by omega) (by omega) (Nat.le_trans hA.ext.size hE.size) rfl (by simp [g8]) (by simp)) ?_
  · cases j with
    | zero =>
      simp only [List.getElem?_cons_zero, Option.some.injEq] at hy
      subst hy
      rw [Addr.add_lit]
      exact (cell_of_row _ w1.heap.size 0 _ _ _ hr2).trans rfl
    | succ j => simp at hy
  · rw [List.mem_singleton] at hy
    subst hy
    exact (own_cells he).2
  rintro sv' w3 ⟨hs', g3, _⟩
  simp only [stO_some]
  co_applyP anyW_still (i := 10) rfl (by first | kernel_rfl | decide +kernel) (by first | rfl | (simp [Region.wanted, yielded, TA_get, *]; done)) (by kernel_rfl) (fun _ hu_ => run_eq_of ?run4_10) ?rest4_10
  case run4_10 =>
    intro K_ hK_
    (skip)
    go_simp
    (try rw [wrapI _ (by omega) (by omega)])
    exact hK_
  simp only [stO_some, stO_none]
  refine anyW_done (by first | kernel_rfl | decide +kernel) ?_ _
  refine next _ sv' e w3 ⟨by simp [g0], by simp [g1], by simp [g6], by simp, by simp [g9]⟩ ⟨Gr.over (hA.ext.trans _ _ _ hE) g3 fun b hb => own_base how hb, hs', fun i hi => ?_, ?_, ?_⟩
  · obtain ⟨q1, ⟨c, q2⟩, q3⟩ := hA.el i hi
    have q4 := hE.row q2
    exact ⟨q1, ⟨c, g3.row q4 (hne (c := 0) q4)⟩, bytes_gr g3 (Array.getElem?_eq_some_iff.1 q4).1 (hne (c := 0) q4) (bytes_gr gw (Array.getElem?_eq_some_iff.1 q2).1 (by simp) q3)⟩
  · have h1 : w1.ownsRow w.heap.size 5 1 e m ((List.range m).map fun j => .int .u8 (p k j : Nat)) := by simpa using he
    have h2 := own_lower (own_gr h1 g2 (by simp)) hA.ext.size
    refine own_gr h2 g3 fun b hb => ?_
    obtain ⟨c, hc⟩ := own_type h2 hb
    exact hne (c := 0) hc
  · simpa using hn1
end Go.Proofs.Ytpiefebngnlfoaa

/-
  mosaickeep.Any: the first loop.
-/
set_option linter.unusedVariables false
set_option linter.unusedSimpArgs false
namespace Go.Proofs.Ytpiefebngnlfoaa
open Go.RowKit Go.Conc Go.Vw

/-- The list is done: fourteen slices in row g. -/
structure SomeL (v : World) (m : Nat) (p : Nat → Nat → Nat) (g : Nat) (QB cp : Nat → Nat) (lo : Nat → Bool) (w : World) : Prop where
  ext : Ext v w
  new : v.heap.size ≤ g
  row : ∃ cur, w.heap[g]? = some (.cells cur 25) ∧ 14 ≤ cur.size ∧ ∀ k, k < 14 → cur[k]? = some (if lo k = true then .slice none 0 0 else .slice (some ⟨QB k, 0, none⟩) m (cp k))
  el : ∀ i, i < 14 → m ≤ cp i ∧ (∃ c, w.heap[QB i]? = some (.cells c 5)) ∧ BytesAt w (QB i) 0 m (p i)
theorem AL.start (v : World) (m : Nat) (p : Nat → Nat → Nat) : AL v m p 0 (.slice none 0 0) (fun _ => 0) (fun _ => 0) v := ⟨.refl v, World.ownsRow_nil _ _ _ _, fun i hi => by omega⟩
theorem AL.done {v w : World} {m : Nat} {p : Nat → Nat → Nat} {sv : Value} {QB cp : Nat → Nat} (h : AL v m p 14 sv QB cp w) : ∃ g cap, sv = .slice (some ⟨g, 0, none⟩) 14 cap ∧ 14 ≤ cap ∧ SomeL v m p g QB cp (fun _ => false) w := by
  obtain ⟨g, cap, cur, q1, q2, q3, q4, q5, q6⟩ := own_some h.own (.inl (by omega))
  refine ⟨g, cap, q1, q4, h.ext, q2, ⟨cur, q3, by omega, fun k hk => ?_⟩, h.el⟩
  rw [q6 k hk]
  simp [hk]
/-- The element is what it is: not nil. -/
theorem AL1.keep {v w : World} {m k : Nat} {p : Nat → Nat → Nat} {sv e : Value} {QB cp : Nat → Nat} (h : AL1 v m p k sv e QB cp w) (he : e ≠ .slice none 0 0) : ∃ QB' cp', AL v m p (k + 1) sv QB' cp' w := by
  obtain ⟨g, cap, cur, q1, q2, q3, q4, q5, q6⟩ := own_some h.me (.inr he)
  refine ⟨fun i => if i = k then g else QB i, fun i => if i = k then cap else cp i, h.ext, ?_, fun i hi => ?_⟩
  · have := h.own
    rw [q1] at this
    rw [List.range_succ, List.map_append, List.map_congr_left (g := fun i => Value.slice (some ⟨QB i, 0, none⟩) m (cp i))]
    · simpa using this
    · intro i hi
      have : i ≠ k := by have := List.mem_range.1 hi; omega
      simp [this]
  · by_cases e1 : i = k
    · subst e1
      simp only [if_true]
      refine ⟨q4, ⟨cur, q3⟩, fun j hj => ?_⟩
      rw [Nat.zero_add, cell_of_row _ g j _ _ _ q3, q6 j hj]
      simp [hj]
    · simp only [e1, if_false]
      exact h.el i (by omega)
/-- It was nil: there stands an empty one now. -/
theorem AL1.mend {v w w1 w2 : World} {m k g cap B : Nat} {p : Nat → Nat → Nat} {cur : Array Value} {QB cp : Nat → Nat} (h : AL1 v m p k (.slice (some ⟨g, 0, none⟩) (k + 1) cap) (.slice none 0 0) QB cp w) (hE : Ext w w1) (hB : w1.heap[B]? = some (.cells #[] 5)) (hc : w.heap[g]? = some (.cells cur 25))
    (hW : Wr w1 g (.cells (cur.setIfInBounds k (.slice (some ⟨B, 0, none⟩) 0 0)) 25) w2) : ∃ QB' cp', AL v m p (k + 1) (.slice (some ⟨g, 0, none⟩) (k + 1) cap) QB' cp' w2 := by
  have hm : m = 0 := h.nil.1 rfl
  subst hm
  have hbase := own_base h.own rfl
  obtain ⟨q0, q | ⟨g', cap', cur', q1, q2, q3, q4, q5, q6, q7⟩⟩ := h.own
  · cases q.1
  cases q1
  rw [hc] at q3
  cases q3
  have gne : ∀ {b : Nat} {cc : Array Value}, w1.heap[b]? = some (.cells cc 5) → b ≠ g := by
    rintro b cc hb rfl
    rw [hE.row hc] at hb
    simp at hb
  refine ⟨fun i => if i = k then B else QB i, fun i => if i = k then 0 else cp i, ⟨?_, fun b hb => ?_, ?_, ?_⟩, ⟨by simp, .inr ⟨g, cap, _, rfl, q2, hW.at_, q4, q5, by simpa using q6, ?_⟩⟩, fun i hi => ?_⟩
  · rw [hW.size]; exact Nat.le_trans h.ext.size hE.size
  · rw [hW.other b (by omega)]
    exact (hE.block b (Nat.lt_of_lt_of_le hb h.ext.size)).trans (h.ext.block b hb)
  · rw [hW.os, hE.os]; exact h.ext.os
  · rw [hW.output, hE.output]; exact h.ext.output
  · apply List.ext_getElem?
    intro j
    have hj := congrArg (fun l => l[j]?) q7
    simp only [List.getElem?_take, Nat.mul_one] at hj ⊢
    by_cases hlt : j < k + 1
    · rw [if_pos hlt] at hj ⊢
      rw [Array.getElem?_toList] at hj ⊢
      have hsz : k < cur.size := by rw [q6]; omega
      by_cases e : j = k
      · subst e
        simp [hsz, hlt]
      · have hjk : j < k := by omega
        rw [Array.getElem?_setIfInBounds_ne (by omega), hj]
        simp [List.getElem?_append, hjk, hlt, e]
    · rw [if_neg hlt]
      refine (List.getElem?_eq_none ?_).symm
      simp
      omega
  · by_cases e1 : i = k
    · subst e1
      simp only [if_true]
      exact ⟨Nat.le_refl _, ⟨_, (hW.other B (gne hB)).trans hB⟩, fun j hj => by omega⟩
    · simp only [e1, if_false]
      obtain ⟨r1, ⟨c, r2⟩, r3⟩ := h.el i (by omega)
      exact ⟨r1, ⟨c, (hW.other _ (gne (hE.row r2))).trans (hE.row r2)⟩, fun j hj => by omega⟩

set_option maxRecDepth 100000 in
set_option maxHeartbeats 4000000 in
theorem any_b {S : Nat → Prop} {v0 v : World} {f : Nat → Value} (p1 p2 : Option Addr) (L cap1 len2 cap2 BA : Nat) (PA : Nat → Nat) (x : Nat → Nat) (hL : L ≤ 400) (hp : L14 v BA PA ((L + 9) / 10) (cutOf x L)) (f0 : f 0 = .slice p1 L cap1) (f1 : f 1 = .slice p2 len2 cap2) (f6 : f 6 = sl BA 14)
    (next : ∀ (w : World) (f : Nat → Value) (g cap : Nat) (QB cp : Nat → Nat), SomeL v ((L + 9) / 10) (cutOf x L) g QB cp (fun _ => false) w → 14 ≤ cap → f 0 = .slice p1 L cap1 → f 1 = .slice p2 len2 cap2 → f 6 = sl BA 14 → f 8 = .slice (some ⟨g, 0, none⟩) 14 cap → AnR (anyC (Try.f8.body.getD .skip)) S v0 w f) :
    AnR (anyB' (Try.f8.body.getD .skip)) S v0 v f := by
  intro Stop cs ret
  rw [any_eqB]
  have hm : (L + 9) / 10 ≤ 400 := by omega
  generalize anyC (Try.f8.body.getD .skip) = LC at next ⊢
  generalize (L + 9) / 10 = m at *
  generalize cutOf x L = p at *
  simp only [anyB', hd, tl, Try.f8, Option.getD_some]
  repeat (first|refine rA ?_|refine rB ?_|refine rC ?_|refine rD ?_|(refine rR ?_;simp only [tO, Nat.reduceAdd])|refine rE ?_|(refine rO goodFF rfl ?_;intro _ hu_ K_ hK_;go_simp;(try rw [wI _]);(try rw [wU _]);refine hK_ _ ?_;clear hK_ K_ hu_;simp only [sS, sN])|(refine rP rfl ?_;simp only [sS, sN]))
  refine reach_rounds (fun d f' S' w => ∃ k sv QB cp, d = 14 - k ∧ k ≤ 14 ∧ S' = S ∧ AL v m p k sv QB cp w ∧ AnyF f' p1 p2 L cap1 len2 cap2 BA sv k) 14 ⟨0, _, _, _, by omega, by omega, rfl, AL.start v m p, by simp [f0], by simp [f1], by simp [f6], by simp, by simp⟩ ?_
  rintro d f' S' w ⟨k, sv, QB, cp, rfl, hk, eS, hA, hF⟩ nxt
  subst S'
  have g9 := hF.g9
  repeat (first|refine rA ?_|refine rB ?_|refine rC ?_|refine rD ?_|(refine rR ?_;simp only [tO, Nat.reduceAdd])|refine rE ?_|(refine rO goodFF rfl ?_;intro _ hu_ K_ hK_;go_simp;(try rw [wI _]);(try rw [wU _]);refine hK_ _ ?_;clear hK_ K_ hu_;simp only [sS, sN])|(refine rP rfl ?_;simp only [sS, sN]))
  by_cases hlt : k < 14
  · have hkI : (k : Int) < 14 := by omega
    (refine reach_cond (t := true) (by simp [Act.eval, g9, hkI]) ?_; simp only [if_true, if_false, reduceIte, Bool.false_eq_true])
    repeat (first|refine rA ?_|refine rB ?_|refine rC ?_|refine rD ?_|(refine rR ?_;simp only [tO, Nat.reduceAdd])|refine rE ?_|(refine rO goodFF rfl ?_;intro _ hu_ K_ hK_;go_simp;(try rw [wI _]);(try rw [wU _]);refine hK_ _ ?_;clear hK_ K_ hu_;simp only [sS, sN])|(refine rP rfl ?_;simp only [sS, sN]))
    refine any_r11 p1 p2 L cap1 len2 cap2 BA m k PA p sv QB cp hm ⟨by simp [hF.g0], by simp [hF.g1], by simp [hF.g6], by simp [hF.g8], by simp [hF.g9]⟩ (by simp) hlt hp hA fun f1 sv1 e w1 hF1 hA1 => ?_
    obtain ⟨g, cap, cur, q1, q2, q3, q4, q5, q6⟩ := own_some hA1.own (.inl (by omega))
    subst q1
    have h8 := hF1.g8
    have h9 := hF1.g9
    have hcI : (k : Int) < (k : Int) + 1 := by omega
    have hce : w1.cell? ⟨g, k, none⟩ = some e := by
      rw [cell_of_row _ g k _ _ _ q3, q6 k (by omega)]
      simp
    by_cases he : e = .slice none 0 0
    · subst he
      repeat (first|refine rA ?_|refine rB ?_|refine rC ?_|refine rD ?_|(refine rR ?_;simp only [tO, Nat.reduceAdd])|refine rE ?_|(refine rO goodFF rfl ?_;intro _ hu_ K_ hK_;(have hc := (Ext.twin hu_).cell hce);go_simp;(try rw [wI _]);(try rw [wU _]);refine hK_ _ ?_;clear hK_ K_ hu_;simp only [sS, sN])|(refine rP rfl ?_;simp only [sS, sN]))
      (refine reach_cond (t := true) (by simp [Act.eval]) ?_; simp only [if_true, if_false, reduceIte, Bool.false_eq_true])
      repeat (first|refine rA ?_|refine rB ?_|refine rC ?_|refine rD ?_|(refine rR ?_;simp only [tO, Nat.reduceAdd])|refine rE ?_|(refine rO goodFF rfl ?_;intro _ hu_ K_ hK_;go_simp;(try rw [wI _]);(try rw [wU _]);refine hK_ _ ?_;clear hK_ K_ hu_;simp only [sS, sN])|(refine rP rfl ?_;simp only [sS, sN]))
      refine reach_makeBytes goodFF rfl rfl (by kernel_rfl) rfl (m := 0) (by simp) (by simp) (by omega) (by kernel_rfl) Try.underlying25 fun w2 hE2 hr2 hs2 => ?_
      simp only [stO_some]
      repeat (first|refine rA ?_|refine rB ?_|refine rC ?_|refine rD ?_|(refine rR ?_;simp only [tO, Nat.reduceAdd])|refine rE ?_|(refine rO goodFF rfl ?_;intro _ hu_ K_ hK_;go_simp;(try rw [wI _]);(try rw [wU _]);refine hK_ _ ?_;clear hK_ K_ hu_;simp only [sS, sN])|(refine rP rfl ?_;simp only [sS, sN]))
      refine reach_store1 goodFF rfl rfl (by kernel_rfl) (x := .tmp 59) (y := .tmp 58) (g := g) (j := k) (z := .slice (some ⟨w1.heap.size, 0, none⟩) 0 0) rfl (by simp) (by simp) rfl rfl (hE2.row q3) (by omega) (by kernel_rfl) fun w3 hW => ?_
      simp only [stO_none]
      repeat (first|refine rA ?_|refine rB ?_|refine rC ?_|refine rD ?_|(refine rR ?_;simp only [tO, Nat.reduceAdd])|refine rE ?_|(refine rO goodFF rfl ?_;intro _ hu_ K_ hK_;go_simp;(try rw [wI _]);(try rw [wU _]);refine hK_ _ ?_;clear hK_ K_ hu_;simp only [sS, sN])|(refine rP rfl ?_;simp only [sS, sN]))
      obtain ⟨QB', cp', hA2⟩ := hA1.mend hE2 (B := w1.heap.size) (by rw [hr2, show ((Array.range 0).map fun _ => Value.int .u8 0) = #[] by simp]) q3 hW
      refine nxt _ _ _ (14 - (k + 1)) (by omega) ⟨k + 1, _, QB', cp', rfl, by omega, rfl, hA2, by simp [hF1.g0], by simp [hF1.g1], by simp [hF1.g6], by simp [hF1.g8], by simp⟩
    · obtain ⟨ge, ce, _, r1, _⟩ := own_some hA1.me (.inr he)
      subst r1
      repeat (first|refine rA ?_|refine rB ?_|refine rC ?_|refine rD ?_|(refine rR ?_;simp only [tO, Nat.reduceAdd])|refine rE ?_|(refine rO goodFF rfl ?_;intro _ hu_ K_ hK_;(have hc := (Ext.twin hu_).cell hce);go_simp;(try rw [wI _]);(try rw [wU _]);refine hK_ _ ?_;clear hK_ K_ hu_;simp only [sS, sN])|(refine rP rfl ?_;simp only [sS, sN]))
      (refine reach_cond (t := false) (by simp [Act.eval]) ?_; simp only [if_true, if_false, reduceIte, Bool.false_eq_true])
      repeat (first|refine rA ?_|refine rB ?_|refine rC ?_|refine rD ?_|(refine rR ?_;simp only [tO, Nat.reduceAdd])|refine rE ?_|(refine rO goodFF rfl ?_;intro _ hu_ K_ hK_;go_simp;(try rw [wI _]);(try rw [wU _]);refine hK_ _ ?_;clear hK_ K_ hu_;simp only [sS, sN])|(refine rP rfl ?_;simp only [sS, sN]))
      obtain ⟨QB', cp', hA2⟩ := hA1.keep he
      refine nxt _ _ _ (14 - (k + 1)) (by omega) ⟨k + 1, _, QB', cp', rfl, by omega, rfl, hA2, by simp [hF1.g0], by simp [hF1.g1], by simp [hF1.g6], by simp [hF1.g8], by simp⟩
  · obtain rfl : k = 14 := by omega
    obtain ⟨g, cap, rfl, hcap, hS⟩ := hA.done
    (refine reach_cond (t := false) (by simp [Act.eval, g9]) ?_; simp only [if_true, if_false, reduceIte, Bool.false_eq_true])
    refine reach_exit rfl ?_
    refine next w _ g cap QB cp hS hcap ?_ ?_ ?_ ?_ Stop cs ret
    · simp [hF.g0]
    · simp [hF.g1]
    · simp [hF.g6]
    · simp [hF.g8]
end Go.Proofs.Ytpiefebngnlfoaa
