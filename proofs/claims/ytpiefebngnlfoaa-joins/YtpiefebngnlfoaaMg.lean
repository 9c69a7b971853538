/-
  piece.Join, mosaic.Join, for every list and number; mosaicref.Join.
-/
import Derived.Test.YtpiefebngnlfoaaMe
set_option linter.unusedVariables false
set_option linter.unusedSimpArgs false
namespace Go.Proofs.Ytpiefebngnlfoaa
open Go.RowKit Go.Conc Go.Vw

set_option maxRecDepth 100000 in
theorem joinErr_r {S : Nat → Prop} {v : World} (s : Value) (n : Int) (e : Nat) (he : e ≠ 0) (hmend : CallsR Try.prog 38 #[s] S v fun x S' v' => x = .tuple #[.slice none 0 0, .int .i64 ((e : Nat) : Int)] ∧ Kp v (fun _ => False) v') :
    CallsR Try.prog 39 #[s, .int .i64 n] S v fun x S' v' => x = .tuple #[.slice none 0 0, .int .i64 ((e : Nat) : Int)] ∧ Kp v (fun _ => False) v' := by
  refine callsR_body Try.func39 rfl Try.ntmps39 (by simp) fun Stop cc cs ret => ?_
  have h0 : argF #[s, .int .i64 n] 0 = s := rfl
  have h1 : argF #[s, .int .i64 n] 1 = .int .i64 n := rfl
  generalize argF #[s, .int .i64 n] = f at h0 h1
  have heI : ¬ ((e : Nat) : Int) = 0 := by omega
  repeat (first|refine rA ?_|refine rB ?_|refine rC ?_|refine rD ?_|(refine rR ?_;simp only [tO, Nat.reduceAdd])|refine rE ?_|(refine rO goodFF rfl ?_;intro _ hu_ K_ hK_;go_simp;(try rw [wI _]);(try rw [wU _]);refine hK_ _ ?_;clear hK_ K_ hu_;simp only [sS, sN])|(refine rP rfl ?_;simp only [sS, sN]))
  (refine reach_callR rfl (by first | rfl | simp [Region.wanted, yielded, TA_get, *]) rfl Try.func38 (by kernel_rfl) rfl (by simp [Act.eval, *]; try rfl) (hmend) ?_)
  rintro _ S1 v1 hv1 ⟨rfl, hk⟩
  simp only [stO_some]
  repeat (first|refine rA ?_|refine rB ?_|refine rC ?_|refine rD ?_|(refine rR ?_;simp only [tO, Nat.reduceAdd])|refine rE ?_|(refine rO goodFF rfl ?_;intro _ hu_ K_ hK_;go_simp;(try rw [wI _]);(try rw [wU _]);refine hK_ _ ?_;clear hK_ K_ hu_;simp only [sS, sN])|(refine rP rfl ?_;simp only [sS, sN]))
  (refine reach_cond (t := true) (by simp [Act.eval, heI, he]) ?_; simp only [if_true, if_false, reduceIte, Bool.false_eq_true])
  repeat (first|refine rA ?_|refine rB ?_|refine rC ?_|refine rD ?_|(refine rR ?_;simp only [tO, Nat.reduceAdd])|refine rE ?_|(refine rO goodFF rfl ?_;intro _ hu_ K_ hK_;go_simp;(try rw [wI _]);(try rw [wU _]);refine hK_ _ ?_;clear hK_ K_ hu_;simp only [sS, sN])|(refine rP rfl ?_;simp only [sS, sN]))
  refine reach_ret fun todo => ?_
  refine ret _ _ S1 v1 (.tuple #[.slice none 0 0, .int .i64 ((e : Nat) : Int)]) ?_ ⟨rfl, hk⟩
  simp [results, Try.results39]
set_option maxRecDepth 100000 in
set_option maxHeartbeats 1000000 in
theorem joinArg_r {S : Nat → Prop} {v : World} (s : Value) (m : Nat) (n : Int) (p : Nat → Nat → Nat) (hm : m ≤ 400) (hn : n < 0 ∨ 10 * (m : Int) < n) (hmend : CallsR Try.prog 38 #[s] S v fun x S' v' => ∃ BA PB, x = .tuple #[sl BA 14, .int .i64 0] ∧ Pieces v BA PB m p v') :
    CallsR Try.prog 39 #[s, .int .i64 n] S v fun x S' v' => x = .tuple #[.slice none 0 0, .int .i64 1] ∧ Kp v (fun _ => False) v' := by
  refine callsR_body Try.func39 rfl Try.ntmps39 (by simp) fun Stop cc cs ret => ?_
  have h0 : argF #[s, .int .i64 n] 0 = s := rfl
  have h1 : argF #[s, .int .i64 n] 1 = .int .i64 n := rfl
  generalize argF #[s, .int .i64 n] = f at h0 h1
  repeat (first|refine rA ?_|refine rB ?_|refine rC ?_|refine rD ?_|(refine rR ?_;simp only [tO, Nat.reduceAdd])|refine rE ?_|(refine rO goodFF rfl ?_;intro _ hu_ K_ hK_;go_simp;(try rw [wI _]);(try rw [wU _]);refine hK_ _ ?_;clear hK_ K_ hu_;simp only [sS, sN])|(refine rP rfl ?_;simp only [sS, sN]))
  (refine reach_callR rfl (by first | rfl | simp [Region.wanted, yielded, TA_get, *]) rfl Try.func38 (by kernel_rfl) rfl (by simp [Act.eval, *]; try rfl) (hmend) ?_)
  rintro _ S1 v1 hv1 ⟨BA, PB, rfl, hp⟩
  simp only [stO_some]
  have hc0 : v1.cell? ⟨BA, 0, none⟩ = some (sl (PB 0) m) := (cell_of_row _ BA 0 _ _ _ hp.ba).trans (allA_get _ 0 (by omega))
  by_cases hneg : n < 0
  · skip
    repeat (first|refine rA ?_|refine rB ?_|refine rC ?_|refine rD ?_|(refine rR ?_;simp only [tO, Nat.reduceAdd])|refine rE ?_|(refine rO goodFF rfl ?_;intro _ hu_ K_ hK_;(have hc := (Ext.twin hu_).cell hc0);go_simp;(try rw [wI _]);(try rw [wU _]);refine hK_ _ ?_;clear hK_ K_ hu_;simp only [sS, sN])|(refine rP rfl ?_;simp only [sS, sN]))
    (refine reach_cond (t := false) (by simp [Act.eval]) ?_; simp only [if_true, if_false, reduceIte, Bool.false_eq_true])
    repeat (first|refine rA ?_|refine rB ?_|refine rC ?_|refine rD ?_|(refine rR ?_;simp only [tO, Nat.reduceAdd])|refine rE ?_|(refine rO goodFF rfl ?_;intro _ hu_ K_ hK_;(have hc := (Ext.twin hu_).cell hc0);go_simp;(try rw [wI _]);(try rw [wU _]);refine hK_ _ ?_;clear hK_ K_ hu_;simp only [sS, sN])|(refine rP rfl ?_;simp only [sS, sN]))
    (refine reach_cond (t := true) (by simp [Act.eval, hneg]) ?_; simp only [if_true, if_false, reduceIte, Bool.false_eq_true])
    repeat (first|refine rA ?_|refine rB ?_|refine rC ?_|refine rD ?_|(refine rR ?_;simp only [tO, Nat.reduceAdd])|refine rE ?_|(refine rO goodFF rfl ?_;intro _ hu_ K_ hK_;go_simp;(try rw [wI _]);(try rw [wU _]);refine hK_ _ ?_;clear hK_ K_ hu_;simp only [sS, sN])|(refine rP rfl ?_;simp only [sS, sN]))
    refine reach_ret fun todo => ?_
    refine ret _ _ S1 v1 (.tuple #[.slice none 0 0, .int .i64 1]) ?_ ⟨rfl, hp.kp⟩
    simp [results, Try.results39]
  · have hbig : 10 * (m : Int) < n := hn.resolve_left hneg
    repeat (first|refine rA ?_|refine rB ?_|refine rC ?_|refine rD ?_|(refine rR ?_;simp only [tO, Nat.reduceAdd])|refine rE ?_|(refine rO goodFF rfl ?_;intro _ hu_ K_ hK_;(have hc := (Ext.twin hu_).cell hc0);go_simp;(try rw [wI _]);(try rw [wU _]);refine hK_ _ ?_;clear hK_ K_ hu_;simp only [sS, sN])|(refine rP rfl ?_;simp only [sS, sN]))
    (refine reach_cond (t := false) (by simp [Act.eval]) ?_; simp only [if_true, if_false, reduceIte, Bool.false_eq_true])
    repeat (first|refine rA ?_|refine rB ?_|refine rC ?_|refine rD ?_|(refine rR ?_;simp only [tO, Nat.reduceAdd])|refine rE ?_|(refine rO goodFF rfl ?_;intro _ hu_ K_ hK_;(have hc := (Ext.twin hu_).cell hc0);go_simp;(try rw [wI _]);(try rw [wU _]);refine hK_ _ ?_;clear hK_ K_ hu_;simp only [sS, sN])|(refine rP rfl ?_;simp only [sS, sN]))
    (refine reach_cond (t := true) (by simp [Act.eval, hbig, hneg]) ?_; simp only [if_true, if_false, reduceIte, Bool.false_eq_true])
    repeat (first|refine rA ?_|refine rB ?_|refine rC ?_|refine rD ?_|(refine rR ?_;simp only [tO, Nat.reduceAdd])|refine rE ?_|(refine rO goodFF rfl ?_;intro _ hu_ K_ hK_;go_simp;(try rw [wI _]);(try rw [wU _]);refine hK_ _ ?_;clear hK_ K_ hu_;simp only [sS, sN])|(refine rP rfl ?_;simp only [sS, sN]))
    refine reach_ret fun todo => ?_
    refine ret _ _ S1 v1 (.tuple #[.slice none 0 0, .int .i64 1]) ?_ ⟨rfl, hp.kp⟩
    simp [results, Try.results39]
/-- The error of Join. -/
def joinErr (n : Nat) (k : Int) (q : Nat → Option Addr) (ln : Nat → Nat) : Nat := if n = 14 then (if mendErr q ln ≠ 0 then mendErr q ln else if k < 0 ∨ 10 * ((lastL q ln 14 : Nat) : Int) < k then 1 else 0) else 1
/-- What Join answers. -/
def JoinOut (w : World) (n : Nat) (k : Int) (q : Nat → Option Addr) (ln : Nat → Nat) (y : Nat → Nat → Nat) (pv : Option Addr) (c e BV : Nat) (w' : World) : Prop :=
  e = joinErr n k q ln ∧ ((e ≠ 0 ∧ pv = none ∧ c = 0) ∨ (e = 0 ∧ n = 14 ∧ mendErr q ln = 0 ∧ k = ((c : Nat) : Int) ∧ c ≤ 10 * lastL q ln 14 ∧ pv = some ⟨BV, 0, none⟩ ∧ w.heap.size ≤ BV ∧ w'.heap[BV]? = some (.cells (bytesA c fun i => mendOf (ftC q 14).2 y (i / lastL q ln 14) (i % lastL q ln 14)) 5)))
theorem joinL_r {S : Nat → Prop} {v : World} (p : Option Addr) (n c : Nat) (k : Int) (q : Nat → Option Addr) (ln cp : Nat → Nat) (y : Nat → Nat → Nat) (hy : ∀ k i, y k i < 256) (hl : ListV v p n c q ln cp y) (hg : Try.prog.globals.size ≤ v.heap.size) :
    CallsR Try.prog 25 #[.slice p n c, .int .i64 k] S v fun x S' v' => ∃ pv d e BV, x = .tuple #[.slice pv d d, .int .i64 ((e : Nat) : Int)] ∧ Kp v (fun _ => False) v' ∧ JoinOut v n k q ln y pv d e BV v' := by
  have hM := pmendL_r (S := S) p n c q ln cp y hy hl hg
  by_cases h : n = 14 ∧ mendErr q ln = 0
  · obtain ⟨rfl, hz⟩ := h
    have hG : CallsR Try.prog 38 #[.slice p 14 c] S v fun x S' v' => ∃ BA PB, x = .tuple #[sl BA 14, .int .i64 0] ∧ Pieces v BA PB (lastL q ln 14) (mendOf (ftC q 14).2 y) v' := hM.mono fun x S' v' _ h => by
      obtain ⟨pl, kk, e, BA, PB, rfl, hk, he, hC⟩ := h
      rw [if_pos rfl, hz] at he
      subst he
      rcases hC with ⟨h0, _⟩ | ⟨_, _, rfl, rfl, hP⟩
      · exact absurd rfl h0
      · exact ⟨BA, PB, rfl, hP⟩
    have hm := (mendErr_zero hz).1
    by_cases hb : k < 0 ∨ 10 * ((lastL q ln 14 : Nat) : Int) < k
    · exact mjoin_of ((joinArg_r (.slice p 14 c) (lastL q ln 14) k _ hm hb hG).mono fun x S' v' _ ⟨e1, e2⟩ => ⟨_, _, e1, none, 0, 1, 0, e1, e2, by unfold joinErr; rw [if_pos rfl, if_neg (by omega), if_pos hb], .inl ⟨by omega, rfl, rfl⟩⟩)
    · obtain ⟨j, rfl⟩ : ∃ j : Nat, k = (j : Int) := ⟨k.toNat, by omega⟩
      exact mjoin_of ((join_r (.slice p 14 c) (lastL q ln 14) j _ hm (by omega) hG).mono fun x S' v' _ ⟨BV, e1, e2, e3⟩ => ⟨_, _, e1, some ⟨BV, 0, none⟩, j, 0, BV, e1, e3.kp, by unfold joinErr; rw [if_pos rfl, if_neg (by omega), if_neg hb], .inr ⟨rfl, rfl, hz, rfl, by omega, rfl, e2, e3.bv⟩⟩)
  · obtain ⟨e, he⟩ : ∃ e, e = if n = 14 then mendErr q ln else 1 := ⟨_, rfl⟩
    have hne : e ≠ 0 := by
      rw [he]
      split
      · rename_i h14
        exact fun h0 => h ⟨h14, h0⟩
      · omega
    have hje : e = joinErr n k q ln := by
      unfold joinErr
      rw [he]
      split
      · rename_i h14
        rw [if_pos fun h0 => h ⟨h14, h0⟩]
      · rfl
    have hG : CallsR Try.prog 38 #[.slice p n c] S v fun x S' v' => x = .tuple #[.slice none 0 0, .int .i64 ((e : Nat) : Int)] ∧ Kp v (fun _ => False) v' := hM.mono fun x S' v' _ h => by
      obtain ⟨pl, kk, e', BA, PB, rfl, hk, he', hC⟩ := h
      have hee := he.trans he'.symm
      subst hee
      rcases hC with ⟨_, rfl, rfl⟩ | ⟨_, h0, _⟩
      · exact ⟨rfl, hk⟩
      · exact absurd h0 hne
    exact mjoin_of ((joinErr_r (.slice p n c) k e hne hG).mono fun x S' v' _ ⟨e1, e2⟩ => ⟨_, _, e1, none, 0, e, 0, e1, e2, hje, .inl ⟨hne, rfl, rfl⟩⟩)
theorem JoinOut.congr {w w' : World} {n d e BV : Nat} {k : Int} {q q' : Nat → Option Addr} {ln : Nat → Nat} {y : Nat → Nat → Nat} {pv : Option Addr} (hq : ∀ i, i < n → (q i).isSome = (q' i).isSome) (h : JoinOut w n k q ln y pv d e BV w') : JoinOut w n k q' ln y pv d e BV w' := by
  by_cases hn : n = 14
  · subst hn
    unfold JoinOut joinErr at h ⊢
    rw [mendErr_congr hq, lastL_congr 14 hq, ftC_congr 14 hq] at h
    exact h
  · obtain ⟨a, b⟩ := h
    refine ⟨by rw [a]; unfold joinErr; rw [if_neg hn, if_neg hn], .inl ?_⟩
    rcases b with b | ⟨_, b, _⟩
    · exact b
    · exact absurd b hn
theorem join_list (m k : Nat) (g : Nat → Nat → Nat) : ((List.range (k * m)).map fun i => Value.int .u8 ((g (i / m) (i % m) : Nat) : Int)) ++ ((List.range m).map fun i => Value.int .u8 ((g k i : Nat) : Int)) = (List.range ((k + 1) * m)).map fun i => Value.int .u8 ((g (i / m) (i % m) : Nat) : Int) := by
  rw [Nat.succ_mul, List.range_add, List.map_append, List.map_map]
  congr 1
  refine List.map_congr_left fun i hi => ?_
  have hi := List.mem_range.1 hi
  have h0 : 0 < m := by omega
  have e1 : (k * m + i) / m = k := by
    rw [Nat.add_comm, Nat.add_mul_div_right _ _ h0, Nat.div_eq_of_lt hi, Nat.zero_add]
  have e2 : (k * m + i) % m = i := by
    rw [Nat.add_comm, Nat.add_mul_mod_self_right, Nat.mod_eq_of_lt hi]
  simp only [Function.comp, e1, e2]
set_option maxRecDepth 100000 in
theorem rjoinErr_r {S : Nat → Prop} {v : World} (s : Value) (n : Int) (e : Nat) (he : e ≠ 0) (hmend : CallsR Try.prog 22 #[s] S v fun x S' v' => x = .tuple #[.slice none 0 0, .int .i64 ((e : Nat) : Int)] ∧ S' = S ∧ Ext v v') :
    CallsR Try.prog 26 #[s, .int .i64 n] S v fun x S' v' => x = .tuple #[.slice none 0 0, .int .i64 ((e : Nat) : Int)] ∧ S' = S ∧ Ext v v' := by
  refine callsR_body Try.func26 rfl Try.ntmps26 (by simp) fun Stop cc cs ret => ?_
  have h0 : argF #[s, .int .i64 n] 0 = s := rfl
  have h1 : argF #[s, .int .i64 n] 1 = .int .i64 n := rfl
  generalize argF #[s, .int .i64 n] = f at h0 h1
  have heI : ¬ ((e : Nat) : Int) = 0 := by omega
  repeat (first|refine rA ?_|refine rB ?_|refine rC ?_|refine rD ?_|(refine rR ?_;simp only [tO, Nat.reduceAdd])|refine rE ?_|(refine rO goodFF rfl ?_;intro _ hu_ K_ hK_;go_simp;(try rw [wI _]);(try rw [wU _]);refine hK_ _ ?_;clear hK_ K_ hu_;simp only [sS, sN])|(refine rP rfl ?_;simp only [sS, sN]))
  (refine reach_callR rfl (by first | rfl | simp [Region.wanted, yielded, TA_get, *]) rfl Try.func22 (by kernel_rfl) rfl (by simp [Act.eval, *]; try rfl) (hmend) ?_)
  rintro _ S1 v1 hv1 ⟨rfl, e1, hk⟩
  subst S1
  simp only [stO_some]
  repeat (first|refine rA ?_|refine rB ?_|refine rC ?_|refine rD ?_|(refine rR ?_;simp only [tO, Nat.reduceAdd])|refine rE ?_|(refine rO goodFF rfl ?_;intro _ hu_ K_ hK_;go_simp;(try rw [wI _]);(try rw [wU _]);refine hK_ _ ?_;clear hK_ K_ hu_;simp only [sS, sN])|(refine rP rfl ?_;simp only [sS, sN]))
  (refine reach_cond (t := true) (by simp [Act.eval, heI, he]) ?_; simp only [if_true, if_false, reduceIte, Bool.false_eq_true])
  repeat (first|refine rA ?_|refine rB ?_|refine rC ?_|refine rD ?_|(refine rR ?_;simp only [tO, Nat.reduceAdd])|refine rE ?_|(refine rO goodFF rfl ?_;intro _ hu_ K_ hK_;go_simp;(try rw [wI _]);(try rw [wU _]);refine hK_ _ ?_;clear hK_ K_ hu_;simp only [sS, sN])|(refine rP rfl ?_;simp only [sS, sN]))
  refine reach_ret fun todo => ?_
  refine ret _ _ S v1 (.tuple #[.slice none 0 0, .int .i64 ((e : Nat) : Int)]) ?_ ⟨rfl, rfl, hk⟩
  simp [results, Try.results26]
set_option maxRecDepth 100000 in
set_option maxHeartbeats 2000000 in
theorem rjoinGood_r {S : Nat → Prop} {v : World} (s : Value) (m : Nat) (n : Int) (p : Nat → Nat → Nat) (hm : m ≤ 400) (hmend : CallsR Try.prog 22 #[s] S v fun x S' v' => ∃ z, x = .tuple #[z, .int .i64 0] ∧ S' = S ∧ Ext v v' ∧ RefP v z m p v') :
    CallsR Try.prog 26 #[s, .int .i64 n] S v fun x S' v' => ∃ z e, x = .tuple #[z, .int .i64 ((e : Nat) : Int)] ∧ S' = S ∧ Ext v v' ∧ (((n < 0 ∨ 10 * (m : Int) < n) ∧ e = 1 ∧ z = .slice none 0 0) ∨ (¬ (n < 0 ∨ 10 * (m : Int) < n) ∧ e = 0 ∧ ∃ pz c cz, z = .slice pz c cz ∧ n = ((c : Nat) : Int) ∧ SliceV v' pz c cz fun i => p (i / m) (i % m))) := by
  obtain ⟨ib, zb, ib1, ib2, ib3, ib4, ib5⟩ := infoB
  refine callsR_body Try.func26 rfl Try.ntmps26 (by simp) fun Stop cc cs ret => ?_
  have h0 : argF #[s, .int .i64 n] 0 = s := rfl
  have h1 : argF #[s, .int .i64 n] 1 = .int .i64 n := rfl
  generalize argF #[s, .int .i64 n] = f at h0 h1
  repeat (first|refine rA ?_|refine rB ?_|refine rC ?_|refine rD ?_|(refine rR ?_;simp only [tO, Nat.reduceAdd])|refine rE ?_|(refine rO goodFF rfl ?_;intro _ hu_ K_ hK_;go_simp;(try rw [wI _]);(try rw [wU _]);refine hK_ _ ?_;clear hK_ K_ hu_;simp only [sS, sN])|(refine rP rfl ?_;simp only [sS, sN]))
  (refine reach_callR rfl (by first | rfl | simp [Region.wanted, yielded, TA_get, *]) rfl Try.func22 (by kernel_rfl) rfl (by simp [Act.eval, *]; try rfl) (hmend) ?_)
  rintro _ S1 v1 hv1 ⟨z, rfl, e1, hE1, _, OB, cap, PR, rfl, q2, q3⟩
  subst S1
  simp only [stO_some]
  repeat (first|refine rA ?_|refine rB ?_|refine rC ?_|refine rD ?_|(refine rR ?_;simp only [tO, Nat.reduceAdd])|refine rE ?_|(refine rO goodFF rfl ?_;intro _ hu_ K_ hK_;go_simp;(try rw [wI _]);(try rw [wU _]);refine hK_ _ ?_;clear hK_ K_ hu_;simp only [sS, sN])|(refine rP rfl ?_;simp only [sS, sN]))
  (refine reach_cond (t := false) (by simp [Act.eval]) ?_; simp only [if_true, if_false, reduceIte, Bool.false_eq_true])
  repeat (first|refine rA ?_|refine rB ?_|refine rC ?_|refine rD ?_|(refine rR ?_;simp only [tO, Nat.reduceAdd])|refine rE ?_|(refine rO goodFF rfl ?_;intro _ hu_ K_ hK_;go_simp;(try rw [wI _]);(try rw [wU _]);refine hK_ _ ?_;clear hK_ K_ hu_;simp only [sS, sN])|(refine rP rfl ?_;simp only [sS, sN]))
  refine reach_rounds (fun d f' S' w => ∃ j ov, d = 10 - j ∧ j ≤ 10 ∧ S' = S ∧ (Ext v1 w ∧ w.ownsRow v1.heap.size 5 1 ov (j * m) ((List.range (j * m)).map fun i => .int .u8 ((p (i / m) (i % m) : Nat) : Int))) ∧ f' 1 = .int .i64 n ∧ f' 6 = .slice (some ⟨OB, 0, none⟩) 14 cap ∧ f' 8 = ov ∧ f' 9 = .int .i64 (j : Nat)) 10 ⟨0, .slice none 0 0, by omega, by omega, rfl, ⟨.refl _, by rw [Nat.zero_mul]; exact World.ownsRow_nil _ _ _ _⟩, by simp [h1], by simp, by simp, by simp⟩ ?_
  clear h0 h1 f
  rintro d f S' w ⟨j, ov, rfl, hj, eS, ⟨hEw, how⟩, g1, g4, g6, g7⟩ nxt
  subst S'
  repeat (first|refine rA ?_|refine rB ?_|refine rC ?_|refine rD ?_|(refine rR ?_;simp only [tO, Nat.reduceAdd])|refine rE ?_|(refine rO goodFF rfl ?_;intro _ hu_ K_ hK_;go_simp;(try rw [wI _]);(try rw [wU _]);refine hK_ _ ?_;clear hK_ K_ hu_;simp only [sS, sN])|(refine rP rfl ?_;simp only [sS, sN]))
  by_cases hlt : j < 10
  · have hjI : (j : Int) < 10 := by omega
    have hc1 := hEw.cell (q2 j (by omega))
    have hb1 : BytesAt w (PR j) 0 m (p j) := fun i hi => by
      rw [Nat.zero_add]
      refine hEw.cell ?_
      rw [cell_of_row _ (PR j) i _ _ _ (q3 j (by omega))]
      exact bytesA_get _ _ i hi
    have hjm : j * m ≤ 10 * 400 := Nat.mul_le_mul hj hm
    have hjJ : (j : Int) < 14 := by omega
    (refine reach_cond (t := true) (by simp [Act.eval, hjI]) ?_; simp only [if_true, if_false, reduceIte, Bool.false_eq_true])
    repeat (first|refine rA ?_|refine rB ?_|refine rC ?_|refine rD ?_|(refine rR ?_;simp only [tO, Nat.reduceAdd])|refine rE ?_|(refine rO goodFF rfl ?_;intro _ hu_ K_ hK_;(have hc := (Ext.twin hu_).cell hc1);go_simp;(try rw [wI _]);(try rw [wU _]);refine hK_ _ ?_;clear hK_ K_ hu_;simp only [sS, sN])|(refine rP rfl ?_;simp only [sS, sN]))
    refine reach_turnQ goodFF rfl rfl (by kernel_rfl) (fun u hu => append_does (ad := ⟨PR j, 0, none⟩) (m := m) (c := m) (news := (List.range m).map fun i => .int .u8 ((p j i : Nat) : Int)) hu v1.heap.size Try.underlying25 ib1 ib2 ib3 ib4 ib5 how (by simp) (bytesL_cell hb1) bytesL_mem (by omega) (by omega) hEw.size rfl (by simp [g6]) (by simp)) ?_
    rintro ov' w2 ⟨ho, hg, _⟩
    simp only [stO_some]
    rw [join_list, ← Nat.succ_mul] at ho
    have hE2 : Ext v1 w2 := Gr.over hEw hg fun b hb => own_base how hb
    repeat (first|refine rA ?_|refine rB ?_|refine rC ?_|refine rD ?_|(refine rR ?_;simp only [tO, Nat.reduceAdd])|refine rE ?_|(refine rO goodFF rfl ?_;intro _ hu_ K_ hK_;go_simp;(try rw [wI _]);(try rw [wU _]);refine hK_ _ ?_;clear hK_ K_ hu_;simp only [sS, sN])|(refine rP rfl ?_;simp only [sS, sN]))
    refine nxt _ _ _ (10 - (j + 1)) (by omega) ⟨j + 1, ov', rfl, by omega, rfl, ⟨hE2, ho⟩, by simp [g1], by simp [g4], by simp, by simp⟩
  · obtain rfl : j = 10 := by omega
    obtain ⟨pz, cz, rfl, hcz, hsl⟩ : ∃ pz cz, ov = .slice pz (10 * m) cz ∧ 10 * m ≤ cz ∧ ∀ c, c ≤ 10 * m → SliceV w pz c cz fun i => p (i / m) (i % m) := by
      by_cases hov : ov = .slice none 0 0
      · have h0 : 10 * m = 0 := by
          rcases how.2 with ⟨_, e2⟩ | ⟨g, cap, cur, e1, _⟩
          · exact e2
          · rw [e1] at hov
            cases hov
        rw [h0]
        exact ⟨none, 0, hov, by omega, fun c hc => .inl ⟨rfl, by omega, rfl⟩⟩
      · obtain ⟨g, cp, cur, r1, r2, r3, r4, r5, r6⟩ := own_some how (.inr hov)
        refine ⟨some ⟨g, 0, none⟩, cp, r1, r4, fun c hc => .inr ⟨g, 0, rfl, by omega, fun i hi => ?_⟩⟩
        rw [Nat.zero_add, cell_of_row _ g i _ _ _ r3, r6 i (by omega)]
        simp [show i < 10 * m by omega]
    (refine reach_cond (t := false) (by simp [Act.eval, g7]) ?_; simp only [if_true, if_false, reduceIte, Bool.false_eq_true])
    refine reach_exit rfl ?_
    by_cases hneg : n < 0
    · skip
      repeat (first|refine rA ?_|refine rB ?_|refine rC ?_|refine rD ?_|(refine rR ?_;simp only [tO, Nat.reduceAdd])|refine rE ?_|(refine rO goodFF rfl ?_;intro _ hu_ K_ hK_;go_simp;(try rw [wI _]);(try rw [wU _]);refine hK_ _ ?_;clear hK_ K_ hu_;simp only [sS, sN])|(refine rP rfl ?_;simp only [sS, sN]))
      (refine reach_cond (t := true) (by simp [Act.eval, hneg]) ?_; simp only [if_true, if_false, reduceIte, Bool.false_eq_true])
      repeat (first|refine rA ?_|refine rB ?_|refine rC ?_|refine rD ?_|(refine rR ?_;simp only [tO, Nat.reduceAdd])|refine rE ?_|(refine rO goodFF rfl ?_;intro _ hu_ K_ hK_;go_simp;(try rw [wI _]);(try rw [wU _]);refine hK_ _ ?_;clear hK_ K_ hu_;simp only [sS, sN])|(refine rP rfl ?_;simp only [sS, sN]))
      refine reach_ret fun todo => ?_
      refine ret _ _ S w (.tuple #[.slice none 0 0, .int .i64 1]) ?_ ⟨_, 1, rfl, rfl, hE1.trans _ _ _ hEw, .inl ⟨.inl hneg, rfl, rfl⟩⟩
      simp [results, Try.results26]
    · by_cases hbig : 10 * (m : Int) < n
      · skip
        repeat (first|refine rA ?_|refine rB ?_|refine rC ?_|refine rD ?_|(refine rR ?_;simp only [tO, Nat.reduceAdd])|refine rE ?_|(refine rO goodFF rfl ?_;intro _ hu_ K_ hK_;go_simp;(try rw [wI _]);(try rw [wU _]);refine hK_ _ ?_;clear hK_ K_ hu_;simp only [sS, sN])|(refine rP rfl ?_;simp only [sS, sN]))
        (refine reach_cond (t := true) (by simp [Act.eval, hneg, hbig]) ?_; simp only [if_true, if_false, reduceIte, Bool.false_eq_true])
        repeat (first|refine rA ?_|refine rB ?_|refine rC ?_|refine rD ?_|(refine rR ?_;simp only [tO, Nat.reduceAdd])|refine rE ?_|(refine rO goodFF rfl ?_;intro _ hu_ K_ hK_;go_simp;(try rw [wI _]);(try rw [wU _]);refine hK_ _ ?_;clear hK_ K_ hu_;simp only [sS, sN])|(refine rP rfl ?_;simp only [sS, sN]))
        refine reach_ret fun todo => ?_
        refine ret _ _ S w (.tuple #[.slice none 0 0, .int .i64 1]) ?_ ⟨_, 1, rfl, rfl, hE1.trans _ _ _ hEw, .inl ⟨.inr hbig, rfl, rfl⟩⟩
        simp [results, Try.results26]
      · obtain ⟨c, rfl⟩ : ∃ c : Nat, n = (c : Int) := ⟨n.toNat, by omega⟩
        have hcI : (c : Int) ≤ (cz : Int) := by omega
        repeat (first|refine rA ?_|refine rB ?_|refine rC ?_|refine rD ?_|(refine rR ?_;simp only [tO, Nat.reduceAdd])|refine rE ?_|(refine rO goodFF rfl ?_;intro _ hu_ K_ hK_;go_simp;(try rw [wI _]);(try rw [wU _]);refine hK_ _ ?_;clear hK_ K_ hu_;simp only [sS, sN])|(refine rP rfl ?_;simp only [sS, sN]))
        (refine reach_cond (t := false) (by simp [Act.eval, hneg, hbig]) ?_; simp only [if_true, if_false, reduceIte, Bool.false_eq_true])
        repeat (first|refine rA ?_|refine rB ?_|refine rC ?_|refine rD ?_|(refine rR ?_;simp only [tO, Nat.reduceAdd])|refine rE ?_|(refine rO goodFF rfl ?_;intro _ hu_ K_ hK_;go_simp;(try rw [wI _]);(try rw [wU _]);refine hK_ _ ?_;clear hK_ K_ hu_;simp only [sS, sN])|(refine rP rfl ?_;simp only [sS, sN]))
        refine reach_ret fun todo => ?_
        refine ret _ _ S w (.tuple #[.slice pz c cz, .int .i64 0]) ?_ ⟨_, 0, rfl, rfl, hE1.trans _ _ _ hEw, .inr ⟨fun h => h.elim hneg hbig, rfl, pz, c, cz, rfl, rfl, hsl c (by omega)⟩⟩
        simp [results, Try.results26]
/-- What the reference's Join answers. -/
def RefJV (n : Nat) (k : Int) (q : Nat → Option Addr) (ln : Nat → Nat) (y : Nat → Nat → Nat) (z : Value) (e : Nat) (v' : World) : Prop :=
  e = joinErr n k q ln ∧ ((e ≠ 0 ∧ z = .slice none 0 0) ∨ (e = 0 ∧ ∃ pz c cz, z = .slice pz c cz ∧ k = ((c : Nat) : Int) ∧ SliceV v' pz c cz fun i => Fld.comb (Fld.wgt (ftC q 14).2 (i / lastL q ln 14)) (fun j => y ((ftC q 14).2 j)) 10 (i % lastL q ln 14)))
theorem rjoinL_r {S : Nat → Prop} {v : World} (p : Option Addr) (n c : Nat) (k : Int) (q : Nat → Option Addr) (ln cp : Nat → Nat) (y : Nat → Nat → Nat) (hy : ∀ k i, y k i < 256) (hl : ListE v p n c q ln cp y) (hln : ∀ i, i < n → ln i < 140737488355328) :
    CallsR Try.prog 26 #[.slice p n c, .int .i64 k] S v fun x S' v' => ∃ z e, x = .tuple #[z, .int .i64 ((e : Nat) : Int)] ∧ S' = S ∧ Ext v v' ∧ RefJV n k q ln y z e v' := by
  have hM := rmendL_r (S := S) p n c q ln cp y hy hl hln
  by_cases h : n = 14 ∧ mendErr q ln = 0
  · obtain ⟨rfl, hz⟩ := h
    have hm := (mendErr_zero hz).1
    refine (rjoinGood_r (.slice p 14 c) (lastL q ln 14) k (fun j c => Fld.comb (Fld.wgt (ftC q 14).2 j) (fun i => y ((ftC q 14).2 i)) 10 c) hm (hM.mono fun x S' v' _ h => ?_)).mono fun x S' v' _ h => ?_
    · obtain ⟨z, e, rfl, hS, hE, he, hC⟩ := h
      rw [if_pos rfl, hz] at he
      subst he
      rcases hC with ⟨h0, _⟩ | ⟨_, _, hP⟩
      · exact absurd rfl h0
      · exact ⟨z, rfl, hS, hE, hP⟩
    · obtain ⟨z, e, e1, e2, e3, ⟨hb, h1, h2⟩ | ⟨hb, h1, h2⟩⟩ := h
      · exact ⟨z, e, e1, e2, e3, by unfold joinErr; rw [if_pos rfl, if_neg (by omega), if_pos hb, h1], .inl ⟨by omega, h2⟩⟩
      · exact ⟨z, e, e1, e2, e3, by unfold joinErr; rw [if_pos rfl, if_neg (by omega), if_neg hb, h1], .inr ⟨h1, h2⟩⟩
  · obtain ⟨e, he⟩ : ∃ e, e = if n = 14 then mendErr q ln else 1 := ⟨_, rfl⟩
    have hne : e ≠ 0 := by
      rw [he]
      split
      · rename_i h14
        exact fun h0 => h ⟨h14, h0⟩
      · omega
    have hje : e = joinErr n k q ln := by
      unfold joinErr
      rw [he]
      split
      · rename_i h14
        rw [if_pos fun h0 => h ⟨h14, h0⟩]
      · rfl
    refine (rjoinErr_r (.slice p n c) k e hne (hM.mono fun x S' v' _ h => ?_)).mono fun x S' v' _ ⟨e1, e2, e3⟩ => ⟨_, e, e1, e2, e3, hje, .inl ⟨hne, rfl⟩⟩
    obtain ⟨z, e', rfl, hS, hE, he', hC⟩ := h
    have hee := he.trans he'.symm
    subst hee
    rcases hC with ⟨_, rfl⟩ | ⟨_, h0, _⟩
    · exact ⟨rfl, hS, hE⟩
    · exact absurd h0 hne
/-- The two are the same. -/
theorem sameJ_r {S : Nat → Prop} {v0 v1 v : World} {n d e e' BV : Nat} {k : Int} {q : Nat → Option Addr} {ln : Nat → Nat} {y : Nat → Nat → Nat} {pv : Option Addr} {z : Value} (hy : ∀ k i, y k i < 256) (hC : JoinOut v0 n k q ln y pv d e BV v1) (hR : RefJV n k q ln y z e' v) (hE : Ext v1 v) :
    CallsR Try.prog 27 #[.slice pv d d, z] S v fun y S' v' => y = .bool true ∧ S' = S ∧ v' = v := by
  have hee : e = e' := hC.1.trans hR.1.symm
  subst hee
  rcases hC.2 with ⟨h1, rfl, rfl⟩ | ⟨h1, rfl, hz, hk, hd, rfl, hnew, hrow⟩
  · rcases hR.2 with ⟨_, rfl⟩ | ⟨h2, _⟩
    · exact lsame_r none none 0 0 0 (fun _ => 0) (fun _ => 0) (by omega) (.inl ⟨rfl, rfl, rfl⟩) (.inl (.inl ⟨rfl, rfl, rfl⟩)) fun _ _ => rfl
    · omega
  · rcases hR.2 with ⟨h2, _⟩ | ⟨_, pz, c, cz, rfl, hkc, hsl⟩
    · omega
    · obtain rfl : c = d := by omega
      obtain ⟨hm, hc⟩ := mendErr_zero hz
      obtain ⟨hk1, hk2⟩ := kn_ok' hc
      refine lsame_r _ pz c c cz _ _ (by omega) (.inr ⟨BV, 0, rfl, Nat.le_refl _, fun i hi => ?_⟩) (.inl hsl) fun i hi => mend_ref hk1 hk2 hy _ _
      rw [Nat.zero_add, cell_of_row _ BV i _ _ _ (hE.row hrow)]
      exact bytesA_get _ _ i hi
/-- What is handed to the book. -/
theorem rwJ_of {N n d e BV : Nat} {O : Nat → Prop} {k : Int} {q : Nat → Option Addr} {ln : Nat → Nat} {y : Nat → Nat → Nat} {pv : Option Addr} {w w1 w2 w3 : World} (hN : N ≤ w.heap.size) (hO : ∀ b, O b → b < w.heap.size) (hE1 : Ext w w1) (hE3 : Ext w2 w3) (hC : JoinOut w1 n k q ln y pv d e BV w2) : d ≤ 4000 ∧ Rw N O w3 pv d ∧ ∀ b, pv = some ⟨b, 0, none⟩ → w1.heap.size ≤ b := by
  have h1 := hE1.size
  rcases hC.2 with ⟨_, rfl, rfl⟩ | ⟨h0, rfl, hz, hk, hd, rfl, hnew, hrow⟩
  · exact ⟨by omega, .inl ⟨rfl, rfl⟩, fun b hb => by cases hb⟩
  · have hm := (mendErr_zero hz).1
    refine ⟨by omega, .inr ⟨BV, _, rfl, by omega, hE3.row hrow, bytesA_size _ _, fun q => by have := hO _ q; omega⟩, fun b hb => ?_⟩
    cases hb
    exact hnew
end Go.Proofs.Ytpiefebngnlfoaa
