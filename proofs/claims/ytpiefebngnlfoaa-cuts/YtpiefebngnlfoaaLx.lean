/-
  mosaiclaw: same, roomy, kept, num.
-/
import Derived.Test.YtpiefebngnlfoaaLo
import Derived.Test.YtpiefebngnlfoaaLw
import Derived.Test.YtpiefebngnlfoaaLs
set_option linter.unusedVariables false
set_option linter.unusedSimpArgs false
namespace Go.Proofs.Ytpiefebngnlfoaa
open Go.RowKit Go.Conc Go.Vw

set_option maxRecDepth 100000 in
set_option maxHeartbeats 1000000 in
theorem lsame_r {S : Nat → Prop} {v : World} (p1 p2 : Option Addr) (L c1 c2 : Nat) (x1 x2 : Nat → Nat) (hL : L < 2 ^ 62) (h1 : SliceV v p1 L c1 x1) (h2 : SliceE v p2 L c2 x2) (he : ∀ i, i < L → x1 i = x2 i) :
    CallsR Try.prog 27 #[.slice p1 L c1, .slice p2 L c2] S v fun x S' v' => x = .bool true ∧ S' = S ∧ v' = v := by
  refine callsR_body Try.func27 rfl Try.ntmps27 (by simp) fun Stop cc cs ret => ?_
  have g0 : argF #[.slice p1 L c1, .slice p2 L c2] 0 = .slice p1 L c1 := rfl
  have g1 : argF #[.slice p1 L c1, .slice p2 L c2] 1 = .slice p2 L c2 := rfl
  generalize argF #[.slice p1 L c1, .slice p2 L c2] = f at g0 g1
  repeat (first|refine rA ?_|refine rB ?_|refine rC ?_|refine rD ?_|(refine rR ?_;simp only [tO, Nat.reduceAdd])|refine rE ?_|(refine rO goodFF rfl ?_;intro _ hu_ K_ hK_;go_simp;(try rw [wI _]);(try rw [wU _]);refine hK_ _ ?_;clear hK_ K_ hu_;simp only [sS, sN])|(refine rP rfl ?_;simp only [sS, sN]))
  (refine reach_cond (t := false) (by simp [Act.eval]) ?_; simp only [if_true, if_false, reduceIte, Bool.false_eq_true])
  repeat (first|refine rA ?_|refine rB ?_|refine rC ?_|refine rD ?_|(refine rR ?_;simp only [tO, Nat.reduceAdd])|refine rE ?_|(refine rO goodFF rfl ?_;intro _ hu_ K_ hK_;go_simp;(try rw [wI _]);(try rw [wU _]);refine hK_ _ ?_;clear hK_ K_ hu_;simp only [sS, sN])|(refine rP rfl ?_;simp only [sS, sN]))
  refine reach_rounds (fun d f' S' v' => ∃ j, d = L - j ∧ j ≤ L ∧ S' = S ∧ v' = v ∧ f' 0 = .slice p1 L c1 ∧ f' 1 = .slice p2 L c2 ∧ f' 5 = .int .i64 (j : Nat)) L ⟨0, by omega, by omega, rfl, rfl, by simp [g0], by simp [g1], by simp⟩ ?_
  rintro d f' S' v' ⟨j, rfl, hj, eS, eV, q0, q1, q5⟩ next
  subst S' v'
  repeat (first|refine rA ?_|refine rB ?_|refine rC ?_|refine rD ?_|(refine rR ?_;simp only [tO, Nat.reduceAdd])|refine rE ?_|(refine rO goodFF rfl ?_;intro _ hu_ K_ hK_;go_simp;(try rw [wI _]);(try rw [wU _]);refine hK_ _ ?_;clear hK_ K_ hu_;simp only [sS, sN])|(refine rP rfl ?_;simp only [sS, sN]))
  by_cases hlt : j < L
  · have hjI : (j : Int) < (L : Int) := by omega
    obtain ⟨B1, o1, hp1, k1, b1⟩ : ∃ B off, p1 = some ⟨B, off, none⟩ ∧ L ≤ c1 ∧ BytesAt v B off L x1 := by
      rcases h1 with ⟨_, h, _⟩ | h
      · omega
      · exact h
    obtain ⟨B2, o2, hp2, k2, b2⟩ : ∃ B off, p2 = some ⟨B, off, none⟩ ∧ L ≤ c2 ∧ BytesAt v B off L x2 := by
      rcases h2.of (by omega) with ⟨_, h, _⟩ | h
      · omega
      · exact h
    subst hp1 hp2
    have e1 := b1 j hlt
    have e2 := b2 j hlt
    rw [he j hlt] at e1
    (refine reach_cond (t := true) (by simp [Act.eval, hlt]) ?_; simp only [if_true, if_false, reduceIte, Bool.false_eq_true])
    repeat (first|refine rA ?_|refine rB ?_|refine rC ?_|refine rD ?_|(refine rR ?_;simp only [tO, Nat.reduceAdd])|refine rE ?_|(refine rO goodFF rfl ?_;intro _ hu_ K_ hK_;go_simp;(try rw [wI _]);(try rw [wU _]);refine hK_ _ ?_;clear hK_ K_ hu_;simp only [sS, sN])|(refine rP rfl ?_;simp only [sS, sN]))
    refine reach_draw goodFF (by first | kernel_rfl | rfl) ?_
    simp only [List.size_toArray, List.length_cons, List.length_nil, Nat.reduceAdd, Nat.zero_add]
    co_applyP rT (i := 0) rfl (fun _ hu_ => run_eq_of ?u1_0) ?v1_0
    case u1_0 => intro K_ hK_;go_simp;(try rw [wI _]);(try rw [wU _]);exact hK_
    simp only [sS, sN]
    co_applyP rT (i := 1) rfl (fun _ hu_ => run_eq_of ?u1_1) ?v1_1
    case u1_1 => intro K_ hK_;go_simp;(try rw [wI _]);(try rw [wU _]);exact hK_
    simp only [sS, sN]
    co_applyP rT (i := 2) rfl (fun _ hu_ => run_eq_of ?u1_2) ?v1_2
    case u1_2 => intro K_ hK_;go_simp;(try rw [wI _]);(try rw [wU _]);exact hK_
    simp only [sS, sN]
    co_applyP rT (i := 3) rfl (fun _ hu_ => run_eq_of ?u2) ?v2
    case u2 => intro K_ hK_;(have hc := (Ext.twin hu_).cell e1);go_simp;(try rw [wI _]);(try rw [wU _]);exact hK_
    simp only [sS, sN]
    co_applyP rT (i := 4) rfl (fun _ hu_ => run_eq_of ?u3_4) ?v3_4
    case u3_4 => intro K_ hK_;go_simp;(try rw [wI _]);(try rw [wU _]);exact hK_
    simp only [sS, sN]
    co_applyP rT (i := 5) rfl (fun _ hu_ => run_eq_of ?u3_5) ?v3_5
    case u3_5 => intro K_ hK_;go_simp;(try rw [wI _]);(try rw [wU _]);exact hK_
    simp only [sS, sN]
    co_applyP rT (i := 6) rfl (fun _ hu_ => run_eq_of ?u3_6) ?v3_6
    case u3_6 => intro K_ hK_;go_simp;(try rw [wI _]);(try rw [wU _]);exact hK_
    simp only [sS, sN]
    co_applyP rT (i := 7) rfl (fun _ hu_ => run_eq_of ?u4) ?v4
    case u4 => intro K_ hK_;(have hc := (Ext.twin hu_).cell e2);go_simp;(try rw [wI _]);(try rw [wU _]);exact hK_
    simp only [sS, sN]
    co_applyP rT (i := 8) rfl (fun _ hu_ => run_eq_of ?u5) ?v5
    case u5 => intro K_ hK_;go_simp;(try rw [wI _]);(try rw [wU _]);exact hK_
    simp only [sS, sN]
    refine anyR_done (by first | kernel_rfl | decide +kernel) ?_ _
    repeat (first|refine rA ?_|refine rB ?_|refine rC ?_|refine rD ?_|(refine rR ?_;simp only [tO, Nat.reduceAdd])|refine rE ?_|(refine rO goodFF rfl ?_;intro _ hu_ K_ hK_;go_simp;(try rw [wI _]);(try rw [wU _]);refine hK_ _ ?_;clear hK_ K_ hu_;simp only [sS, sN])|(refine rP rfl ?_;simp only [sS, sN]))
    (refine reach_cond (t := false) (by simp [Act.eval]) ?_; simp only [if_true, if_false, reduceIte, Bool.false_eq_true])
    repeat (first|refine rA ?_|refine rB ?_|refine rC ?_|refine rD ?_|(refine rR ?_;simp only [tO, Nat.reduceAdd])|refine rE ?_|(refine rO goodFF rfl ?_;intro _ hu_ K_ hK_;go_simp;(try rw [wI _]);(try rw [wU _]);refine hK_ _ ?_;clear hK_ K_ hu_;simp only [sS, sN])|(refine rP rfl ?_;simp only [sS, sN]))
    refine next _ _ _ (L - (j + 1)) (by omega) ⟨j + 1, rfl, by omega, rfl, rfl, by simp [q0], by simp [q1], by simp⟩
  · obtain rfl : j = L := by omega
    (refine reach_cond (t := false) (by simp [Act.eval]) ?_; simp only [if_true, if_false, reduceIte, Bool.false_eq_true])
    refine reach_exit rfl ?_
    repeat (first|refine rA ?_|refine rB ?_|refine rC ?_|refine rD ?_|(refine rR ?_;simp only [tO, Nat.reduceAdd])|refine rE ?_|(refine rO goodFF rfl ?_;intro _ hu_ K_ hK_;go_simp;(try rw [wI _]);(try rw [wU _]);refine hK_ _ ?_;clear hK_ K_ hu_;simp only [sS, sN])|(refine rP rfl ?_;simp only [sS, sN]))
    refine reach_ret fun todo => ?_
    refine ret _ _ _ _ (.bool true) ?_ ⟨rfl, rfl, rfl⟩
    simp [results, Try.results27]
theorem num_r {S : Nat → Prop} {v : World} (e : Nat) : CallsR Try.prog 18 #[.int .i64 (e : Nat)] S v fun x S' v' => x = .int .i64 (e : Nat) ∧ S' = S ∧ v' = v := by
  refine callsR_body Try.func18 rfl Try.ntmps18 (by simp) fun Stop cc cs ret => ?_
  have g0 : argF #[.int .i64 (e : Nat)] 0 = .int .i64 (e : Nat) := rfl
  generalize argF #[.int .i64 (e : Nat)] = f at g0
  repeat (first|refine rA ?_|refine rB ?_|refine rC ?_|refine rD ?_|(refine rR ?_;simp only [tO, Nat.reduceAdd])|refine rE ?_|(refine rO goodFF rfl ?_;intro _ hu_ K_ hK_;go_simp;(try rw [wI _]);(try rw [wU _]);refine hK_ _ ?_;clear hK_ K_ hu_;simp only [sS, sN])|(refine rP rfl ?_;simp only [sS, sN]))
  refine reach_ret fun todo => ?_
  refine ret _ _ _ _ (.int .i64 (e : Nat)) ?_ ⟨rfl, rfl, rfl⟩
  simp [results, Try.results18]
/-- A copy with something in its spare room. -/
structure Roomy (v : World) (n : Nat) (x : Nat → Nat) (RB cap : Nat) (v' : World) : Prop where
  ext : Ext v v'
  new : v.heap.size ≤ RB
  row : ∃ cur, v'.heap[RB]? = some (.cells cur 5) ∧ cur.size = cap ∧ n < cap ∧ (∀ j, j < n → cur[j]? = some (.int .u8 ((x j : Nat) : Int))) ∧ cur[n]? = some (.int .u8 77)
set_option maxRecDepth 100000 in
theorem infoB2 : ∃ i z, Try.prog.info? 5 = some i ∧ i.zero = some z ∧ i.size = 1 ∧ i.bytes = 1 ∧ z.cells = #[z] := ⟨_, _, rfl, rfl, rfl, rfl, rfl⟩
set_option maxRecDepth 100000 in
theorem roomyNil_r {S : Nat → Prop} {v : World} : CallsR Try.prog 12 #[.slice none 0 0] S v fun y S' v' => y = .slice none 0 0 ∧ S' = S ∧ v' = v := by
  refine callsR_body Try.func12 rfl Try.ntmps12 (by simp) fun Stop cc cs ret => ?_
  have g0 : argF #[.slice none 0 0] 0 = .slice none 0 0 := rfl
  generalize argF #[.slice none 0 0] = f at g0
  repeat (first|refine rA ?_|refine rB ?_|refine rC ?_|refine rD ?_|(refine rR ?_;simp only [tO, Nat.reduceAdd])|refine rE ?_|(refine rO goodFF rfl ?_;intro _ hu_ K_ hK_;go_simp;(try rw [wI _]);(try rw [wU _]);refine hK_ _ ?_;clear hK_ K_ hu_;simp only [sS, sN])|(refine rP rfl ?_;simp only [sS, sN]))
  (refine reach_cond (t := true) (by simp [Act.eval]) ?_; simp only [if_true, if_false, reduceIte, Bool.false_eq_true])
  repeat (first|refine rA ?_|refine rB ?_|refine rC ?_|refine rD ?_|(refine rR ?_;simp only [tO, Nat.reduceAdd])|refine rE ?_|(refine rO goodFF rfl ?_;intro _ hu_ K_ hK_;go_simp;(try rw [wI _]);(try rw [wU _]);refine hK_ _ ?_;clear hK_ K_ hu_;simp only [sS, sN])|(refine rP rfl ?_;simp only [sS, sN]))
  refine reach_ret fun todo => ?_
  refine ret _ _ _ _ (.slice none 0 0) ?_ ⟨rfl, rfl, rfl⟩
  simp [results, Try.results12]
/-- A copy of bytes. -/
theorem copy_does {w u : World} {o : Oper} {a : Act} {xo : Operand} {ad : Addr} {n c : Nat} {x : Nat → Nat} (hn : n < 140737488355328) (hx : n = 0 ∨ ∃ B off, ad = ⟨B, off, none⟩ ∧ BytesAt w B off n x) (hu : Vw.Twin w u) (hop : o.op = Op.call { callee := Callee.builtin Builtin.append, args := #[.const (.slice none 0 0), xo], argTypes := #[25, 25] }) (hs : a.eval (.const (.slice none 0 0)) = .slice none 0 0) (ho : a.eval xo = .slice (some ad) n c) :
    ∃ y w', ((execOp a.eval o).run Try.prog u = .ok (.value y) w' ∨ ((execOp a.eval o).run Try.prog u = .ok .skip w' ∧ y = undef)) ∧ (w'.ownsRow w.heap.size 5 1 y n ((List.range n).map fun j => .int .u8 ((x j : Nat) : Int)) ∧ Ext w w') := by
  obtain ⟨ib, zb, ib1, ib2, ib3, ib4, ib5⟩ := infoB
  by_cases h0 : n = 0
  · subst h0
    obtain ⟨y, w', hr, q1, q2, _⟩ := append_does (ad := ad) (m := 0) (c := c) (news := []) hu w.heap.size Try.underlying25 ib1 ib2 ib3 ib4 ib5 (World.ownsRow_nil _ _ _ _) rfl (by simp) (by simp) (by omega) (by omega) (Nat.le_refl _) hop hs ho
    exact ⟨y, w', hr, by simpa using q1, q2.ext⟩
  · obtain ⟨B, off, rfl, hb⟩ := hx.resolve_left h0
    obtain ⟨y, w', hr, q1, q2⟩ := grow_does (p := none) (n := 0) (cap := 0) (olds := []) (ad := ⟨B, off, none⟩) (m := n) (c := c) (news := (List.range n).map fun j => .int .u8 ((x j : Nat) : Int)) hu Try.underlying25 ib1 ib2 ib3 ib4 ib5 (.inl ⟨rfl, rfl, rfl⟩) rfl (fun b hb => by cases hb) (by omega) (by simp) (bytesL_cell hb) bytesL_mem (by unfold maxLen; omega) (by omega) hop hs ho
    exact ⟨y, w', hr, by simpa using q1, q2⟩
set_option maxRecDepth 100000 in
set_option maxHeartbeats 1000000 in
theorem roomy_r {S : Nat → Prop} {v : World} (ad : Addr) (n c : Nat) (x : Nat → Nat) (hn : n < 140737488355328) (hc : n ≤ c) (hx : n = 0 ∨ ∃ B off, ad = ⟨B, off, none⟩ ∧ BytesAt v B off n x) :
    CallsR Try.prog 12 #[.slice (some ad) n c] S v fun y S' v' => S' = S ∧ ∃ RB cap, y = .slice (some ⟨RB, 0, none⟩) n cap ∧ Roomy v n x RB cap v' := by
  obtain ⟨ib, zb, ib1, ib2, ib3, ib4, ib6⟩ := infoB2
  have ib5 : zb.cells.size = 1 := by rw [ib6]; rfl
  refine callsR_body Try.func12 rfl Try.ntmps12 (by simp) fun Stop cc cs ret => ?_
  have g0 : argF #[.slice (some ad) n c] 0 = .slice (some ad) n c := rfl
  generalize argF #[.slice (some ad) n c] = f at g0
  repeat (first|refine rA ?_|refine rB ?_|refine rC ?_|refine rD ?_|(refine rR ?_;simp only [tO, Nat.reduceAdd])|refine rE ?_|(refine rO goodFF rfl ?_;intro _ hu_ K_ hK_;go_simp;(try rw [wI _]);(try rw [wU _]);refine hK_ _ ?_;clear hK_ K_ hu_;simp only [sS, sN])|(refine rP rfl ?_;simp only [sS, sN]))
  (refine reach_cond (t := false) (by simp [Act.eval]) ?_; simp only [if_true, if_false, reduceIte, Bool.false_eq_true])
  repeat (first|refine rA ?_|refine rB ?_|refine rC ?_|refine rD ?_|(refine rR ?_;simp only [tO, Nat.reduceAdd])|refine rE ?_|(refine rO goodFF rfl ?_;intro _ hu_ K_ hK_;go_simp;(try rw [wI _]);(try rw [wU _]);refine hK_ _ ?_;clear hK_ K_ hu_;simp only [sS, sN])|(refine rP rfl ?_;simp only [sS, sN]))
  refine reach_turnQ goodFF rfl rfl (by kernel_rfl) (fun u hu => copy_does (c := c) hn hx hu rfl rfl (by simp [g0])) ?_
  rintro y6 w6 ⟨ho6, hE6⟩
  simp only [stO_some]
  refine reach_turnQ (Q := fun y w2 => y = .slice (some ⟨w6.heap.size, 0, none⟩) 1 1 ∧ Ext w6 w2 ∧ w2.heap[w6.heap.size]? = some (.cells #[.int .u8 77] 5)) goodFF rfl rfl (by kernel_rfl) (fun u hu => ⟨_, _, .inl (run_build1 (x := .const (.int .u8 77)) (y := .int .u8 77) rfl Try.underlying25 ib1 ib2 ib3 ib6 rfl rfl u), by rw [hu.heap], (Ext.twin hu).trans _ _ _ (Ext.alloc _ _), by rw [← hu.heap]; exact alloc_at _ _⟩) ?_
  rintro _ w7 ⟨rfl, hE7, hr7⟩
  simp only [stO_some]
  have gw : Gr w6 w7 none := ⟨hE7.os, hE7.output, hE7.size, fun b hb _ => hE7.block b hb⟩
  have how := own_gr ho6 gw (by simp)
  refine reach_turnQ goodFF rfl rfl (by kernel_rfl) (fun u hu => append_does2 (s := .tmp 6) (x := .tmp 7) (ad := ⟨w6.heap.size, 0, none⟩) (m := 1) (c := 1) (news := [.int .u8 77]) hu v.heap.size Try.underlying25 ib1 ib2 ib3 ib4 ib5 how rfl (by omega) ?_ (fun y hy => by rw [List.mem_singleton] at hy; subst hy; rfl) (by unfold maxLen; omega) (by omega) (Nat.le_trans hE6.size hE7.size) rfl (by simp) (by simp)) ?_
  · intro j y hy
    cases j with
    | zero =>
      simp only [List.getElem?_cons_zero, Option.some.injEq] at hy
      subst hy
      rw [Addr.add_lit]
      exact (cell_of_row _ w6.heap.size 0 _ _ _ hr7).trans rfl
    | succ j => simp at hy
  rintro y8 w8 ⟨ho8, hg8, _⟩
  obtain ⟨RB, cap, cur, q1, q2, q3, q4, q5, q6⟩ := own_some ho8 (.inl (by omega))
  subst q1
  have hcI : (n : Int) ≤ (cap : Int) := by omega
  simp only [stO_some]
  repeat (first|refine rA ?_|refine rB ?_|refine rC ?_|refine rD ?_|(refine rR ?_;simp only [tO, Nat.reduceAdd])|refine rE ?_|(refine rO goodFF rfl ?_;intro _ hu_ K_ hK_;go_simp;(try rw [wI _]);(try rw [wU _]);refine hK_ _ ?_;clear hK_ K_ hu_;simp only [sS, sN])|(refine rP rfl ?_;simp only [sS, sN]))
  refine reach_ret fun todo => ?_
  refine ret _ _ S w8 (.slice (some ⟨RB, 0, none⟩) n cap) ?_ ⟨rfl, RB, cap, rfl, Gr.over (hE6.trans _ _ _ hE7) hg8 fun b hb => own_base how hb, q2, cur, q3, q5, by omega, fun j hj => ?_, ?_⟩
  · simp [results, Try.results12]
  · rw [q6 j (by omega), List.getElem?_append_left (by simpa using hj)]
    simp [hj]
  · rw [q6 n (by omega), List.getElem?_append_right (by simp)]
    simp
end Go.Proofs.Ytpiefebngnlfoaa

/-
  mosaiclaw: kept, sameAll.
-/
set_option linter.unusedVariables false
set_option linter.unusedSimpArgs false
namespace Go.Proofs.Ytpiefebngnlfoaa
open Go.RowKit Go.Conc Go.Vw

set_option maxRecDepth 100000 in
theorem keptNil_r {S : Nat → Prop} {v : World} : CallsR Try.prog 17 #[.slice none 0 0, .slice none 0 0] S v fun y S' v' => y = .bool true ∧ S' = S ∧ v' = v := by
  refine callsR_body Try.func17 rfl Try.ntmps17 (by simp) fun Stop cc cs ret => ?_
  have g0 : argF #[.slice none 0 0, .slice none 0 0] 0 = .slice none 0 0 := rfl
  have g1 : argF #[.slice none 0 0, .slice none 0 0] 1 = .slice none 0 0 := rfl
  generalize argF #[.slice none 0 0, .slice none 0 0] = f at g0 g1
  repeat (first|refine rA ?_|refine rB ?_|refine rC ?_|refine rD ?_|(refine rR ?_;simp only [tO, Nat.reduceAdd])|refine rE ?_|(refine rO goodFF rfl ?_;intro _ hu_ K_ hK_;go_simp;(try rw [wI _]);(try rw [wU _]);refine hK_ _ ?_;clear hK_ K_ hu_;simp only [sS, sN])|(refine rP rfl ?_;simp only [sS, sN]))
  (refine reach_cond (t := true) (by simp [Act.eval]) ?_; simp only [if_true, if_false, reduceIte, Bool.false_eq_true])
  repeat (first|refine rA ?_|refine rB ?_|refine rC ?_|refine rD ?_|(refine rR ?_;simp only [tO, Nat.reduceAdd])|refine rE ?_|(refine rO goodFF rfl ?_;intro _ hu_ K_ hK_;go_simp;(try rw [wI _]);(try rw [wU _]);refine hK_ _ ?_;clear hK_ K_ hu_;simp only [sS, sN])|(refine rP rfl ?_;simp only [sS, sN]))
  refine reach_ret fun todo => ?_
  refine ret _ _ _ _ (.bool true) ?_ ⟨rfl, rfl, rfl⟩
  simp [results, Try.results17]
/-- The row of such a copy. -/
def RoomyRow (v : World) (n : Nat) (x : Nat → Nat) (RB cap : Nat) : Prop := ∃ cur, v.heap[RB]? = some (.cells cur 5) ∧ cur.size = cap ∧ n < cap ∧ (∀ j, j < n → cur[j]? = some (.int .u8 ((x j : Nat) : Int))) ∧ cur[n]? = some (.int .u8 77)
theorem RoomyRow.slice {v : World} {n : Nat} {x : Nat → Nat} {RB cap : Nat} (h : RoomyRow v n x RB cap) : SliceV v (some ⟨RB, 0, none⟩) n cap x := by
  obtain ⟨cur, q1, q2, q3, q4, _⟩ := h
  exact .inr ⟨RB, 0, rfl, by omega, fun j hj => by rw [Nat.zero_add, cell_of_row _ RB j _ _ _ q1]; exact q4 j hj⟩
set_option maxRecDepth 100000 in
set_option maxHeartbeats 1000000 in
theorem kept_r {S : Nat → Prop} {v : World} (ad : Addr) (n c RB cap : Nat) (x : Nat → Nat) (hn : n < 140737488355328) (hE : SliceE v (some ad) n c x) (hr : RoomyRow v n x RB cap) :
    CallsR Try.prog 17 #[.slice (some ⟨RB, 0, none⟩) n cap, .slice (some ad) n c] S v fun y S' v' => y = .bool true ∧ S' = S ∧ v' = v := by
  have hs := hr.slice
  obtain ⟨cur, q1, q2, q3, q4, q5⟩ := hr
  have h77 : v.cell? ⟨RB, n, none⟩ = some (.int .u8 77) := by rw [cell_of_row _ RB n _ _ _ q1]; exact q5
  refine callsR_body Try.func17 rfl Try.ntmps17 (by simp) fun Stop cc cs ret => ?_
  have g0 : argF #[.slice (some ⟨RB, 0, none⟩) n cap, .slice (some ad) n c] 0 = .slice (some ⟨RB, 0, none⟩) n cap := rfl
  have g1 : argF #[.slice (some ⟨RB, 0, none⟩) n cap, .slice (some ad) n c] 1 = .slice (some ad) n c := rfl
  generalize argF #[.slice (some ⟨RB, 0, none⟩) n cap, .slice (some ad) n c] = f at g0 g1
  have hcI : (n : Int) + 1 ≤ (cap : Int) := by omega
  have hnI : (n : Int) < (n : Int) + 1 := by omega
  repeat (first|refine rA ?_|refine rB ?_|refine rC ?_|refine rD ?_|(refine rR ?_;simp only [tO, Nat.reduceAdd])|refine rE ?_|(refine rO goodFF rfl ?_;intro _ hu_ K_ hK_;go_simp;(try rw [wI _]);(try rw [wU _]);refine hK_ _ ?_;clear hK_ K_ hu_;simp only [sS, sN])|(refine rP rfl ?_;simp only [sS, sN]))
  (refine reach_cond (t := false) (by simp [Act.eval]) ?_; simp only [if_true, if_false, reduceIte, Bool.false_eq_true])
  repeat (first|refine rA ?_|refine rB ?_|refine rC ?_|refine rD ?_|(refine rR ?_;simp only [tO, Nat.reduceAdd])|refine rE ?_|(refine rO goodFF rfl ?_;intro _ hu_ K_ hK_;go_simp;(try rw [wI _]);(try rw [wU _]);refine hK_ _ ?_;clear hK_ K_ hu_;simp only [sS, sN])|(refine rP rfl ?_;simp only [sS, sN]))
  (refine reach_callR rfl (by first | rfl | simp [Region.wanted, yielded, TA_get, *]) rfl Try.func27 (by kernel_rfl) rfl (by simp [Act.eval, *]; try rfl) (lsame_r _ _ n cap c x x (by omega) hs hE fun _ _ => rfl) ?_)
  rintro _ S1 v1 _ ⟨rfl, e1, e2⟩
  subst S1 v1
  simp only [stO_some]
  repeat (first|refine rA ?_|refine rB ?_|refine rC ?_|refine rD ?_|(refine rR ?_;simp only [tO, Nat.reduceAdd])|refine rE ?_|(refine rO goodFF rfl ?_;intro _ hu_ K_ hK_;(have hc := (Ext.twin hu_).cell h77);go_simp;(try rw [wI _]);(try rw [wU _]);refine hK_ _ ?_;clear hK_ K_ hu_;simp only [sS, sN])|(refine rP rfl ?_;simp only [sS, sN]))
  refine reach_ret fun todo => ?_
  refine ret _ _ _ _ (.bool true) ?_ ⟨rfl, rfl, rfl⟩
  simp [results, Try.results17]
set_option maxRecDepth 100000 in
theorem sameNil_r {S : Nat → Prop} {v : World} : CallsR Try.prog 15 #[.slice none 0 0, .slice none 0 0] S v fun y S' v' => y = .bool true ∧ S' = S ∧ v' = v := by
  refine callsR_body Try.func15 rfl Try.ntmps15 (by simp) fun Stop cc cs ret => ?_
  have g0 : argF #[.slice none 0 0, .slice none 0 0] 0 = .slice none 0 0 := rfl
  have g1 : argF #[.slice none 0 0, .slice none 0 0] 1 = .slice none 0 0 := rfl
  generalize argF #[.slice none 0 0, .slice none 0 0] = f at g0 g1
  repeat (first|refine rA ?_|refine rB ?_|refine rC ?_|refine rD ?_|(refine rR ?_;simp only [tO, Nat.reduceAdd])|refine rE ?_|(refine rO goodFF rfl ?_;intro _ hu_ K_ hK_;go_simp;(try rw [wI _]);(try rw [wU _]);refine hK_ _ ?_;clear hK_ K_ hu_;simp only [sS, sN])|(refine rP rfl ?_;simp only [sS, sN]))
  (refine reach_cond (t := false) (by simp [Act.eval]) ?_; simp only [if_true, if_false, reduceIte, Bool.false_eq_true])
  repeat (first|refine rA ?_|refine rB ?_|refine rC ?_|refine rD ?_|(refine rR ?_;simp only [tO, Nat.reduceAdd])|refine rE ?_|(refine rO goodFF rfl ?_;intro _ hu_ K_ hK_;go_simp;(try rw [wI _]);(try rw [wU _]);refine hK_ _ ?_;clear hK_ K_ hu_;simp only [sS, sN])|(refine rP rfl ?_;simp only [sS, sN]))
  refine reach_rounds (fun d f' S' v' => S' = S ∧ v' = v ∧ f' 0 = .slice none 0 0 ∧ f' 1 = .slice none 0 0 ∧ f' 5 = .int .i64 0) 0 ⟨rfl, rfl, by simp [g0], by simp [g1], by simp⟩ ?_
  rintro d f' S' v' ⟨eS, eV, q0, q1, q5⟩ next
  subst S' v'
  repeat (first|refine rA ?_|refine rB ?_|refine rC ?_|refine rD ?_|(refine rR ?_;simp only [tO, Nat.reduceAdd])|refine rE ?_|(refine rO goodFF rfl ?_;intro _ hu_ K_ hK_;go_simp;(try rw [wI _]);(try rw [wU _]);refine hK_ _ ?_;clear hK_ K_ hu_;simp only [sS, sN])|(refine rP rfl ?_;simp only [sS, sN]))
  (refine reach_cond (t := false) (by simp [Act.eval]) ?_; simp only [if_true, if_false, reduceIte, Bool.false_eq_true])
  refine reach_exit rfl ?_
  repeat (first|refine rA ?_|refine rB ?_|refine rC ?_|refine rD ?_|(refine rR ?_;simp only [tO, Nat.reduceAdd])|refine rE ?_|(refine rO goodFF rfl ?_;intro _ hu_ K_ hK_;go_simp;(try rw [wI _]);(try rw [wU _]);refine hK_ _ ?_;clear hK_ K_ hu_;simp only [sS, sN])|(refine rP rfl ?_;simp only [sS, sN]))
  refine reach_ret fun todo => ?_
  refine ret _ _ _ _ (.bool true) ?_ ⟨rfl, rfl, rfl⟩
  simp [results, Try.results15]
set_option maxRecDepth 100000 in
set_option maxHeartbeats 4000000 in
theorem sameAll_r {S : Nat → Prop} {v : World} (BA BB ca cb m : Nat) (PA PB : Nat → Nat) (x y : Nat → Nat → Nat) (hm : m ≤ 4000) (ha : ∀ j, j < 14 → v.cell? ⟨BA, j, none⟩ = some (.slice (some ⟨PA j, 0, none⟩) m m)) (hb : ∀ j, j < 14 → v.cell? ⟨BB, j, none⟩ = some (.slice (some ⟨PB j, 0, none⟩) m m))
    (hx : ∀ j, j < 14 → BytesAt v (PA j) 0 m (x j)) (hy : ∀ j, j < 14 → BytesAt v (PB j) 0 m (y j)) (he : ∀ j i, j < 14 → i < m → x j i = y j i) :
    CallsR Try.prog 15 #[.slice (some ⟨BA, 0, none⟩) 14 ca, .slice (some ⟨BB, 0, none⟩) 14 cb] S v fun y S' v' => y = .bool true ∧ S' = S ∧ v' = v := by
  refine callsR_body Try.func15 rfl Try.ntmps15 (by simp) fun Stop cc cs ret => ?_
  have g0 : argF #[.slice (some ⟨BA, 0, none⟩) 14 ca, .slice (some ⟨BB, 0, none⟩) 14 cb] 0 = .slice (some ⟨BA, 0, none⟩) 14 ca := rfl
  have g1 : argF #[.slice (some ⟨BA, 0, none⟩) 14 ca, .slice (some ⟨BB, 0, none⟩) 14 cb] 1 = .slice (some ⟨BB, 0, none⟩) 14 cb := rfl
  generalize argF #[.slice (some ⟨BA, 0, none⟩) 14 ca, .slice (some ⟨BB, 0, none⟩) 14 cb] = f at g0 g1
  repeat (first|refine rA ?_|refine rB ?_|refine rC ?_|refine rD ?_|(refine rR ?_;simp only [tO, Nat.reduceAdd])|refine rE ?_|(refine rO goodFF rfl ?_;intro _ hu_ K_ hK_;go_simp;(try rw [wI _]);(try rw [wU _]);refine hK_ _ ?_;clear hK_ K_ hu_;simp only [sS, sN])|(refine rP rfl ?_;simp only [sS, sN]))
  (refine reach_cond (t := false) (by simp [Act.eval]) ?_; simp only [if_true, if_false, reduceIte, Bool.false_eq_true])
  repeat (first|refine rA ?_|refine rB ?_|refine rC ?_|refine rD ?_|(refine rR ?_;simp only [tO, Nat.reduceAdd])|refine rE ?_|(refine rO goodFF rfl ?_;intro _ hu_ K_ hK_;go_simp;(try rw [wI _]);(try rw [wU _]);refine hK_ _ ?_;clear hK_ K_ hu_;simp only [sS, sN])|(refine rP rfl ?_;simp only [sS, sN]))
  refine reach_rounds (fun d f' S' v' => ∃ j, d = 14 - j ∧ j ≤ 14 ∧ S' = S ∧ v' = v ∧ f' 0 = .slice (some ⟨BA, 0, none⟩) 14 ca ∧ f' 1 = .slice (some ⟨BB, 0, none⟩) 14 cb ∧ f' 5 = .int .i64 (j : Nat)) 14 ⟨0, by omega, by omega, rfl, rfl, by simp [g0], by simp [g1], by simp⟩ ?_
  rintro d f' S' v' ⟨j, rfl, hj, eS, eV, q0, q1, q5⟩ next
  subst S' v'
  repeat (first|refine rA ?_|refine rB ?_|refine rC ?_|refine rD ?_|(refine rR ?_;simp only [tO, Nat.reduceAdd])|refine rE ?_|(refine rO goodFF rfl ?_;intro _ hu_ K_ hK_;go_simp;(try rw [wI _]);(try rw [wU _]);refine hK_ _ ?_;clear hK_ K_ hu_;simp only [sS, sN])|(refine rP rfl ?_;simp only [sS, sN]))
  by_cases hlt : j < 14
  · have hjI : (j : Int) < 14 := by omega
    have ca := ha j hlt
    have cb := hb j hlt
    (refine reach_cond (t := true) (by simp [Act.eval, hjI]) ?_; simp only [if_true, if_false, reduceIte, Bool.false_eq_true])
    repeat (first|refine rA ?_|refine rB ?_|refine rC ?_|refine rD ?_|(refine rR ?_;simp only [tO, Nat.reduceAdd])|refine rE ?_|(refine rO goodFF rfl ?_;intro _ hu_ K_ hK_;go_simp;(try rw [wI _]);(try rw [wU _]);refine hK_ _ ?_;clear hK_ K_ hu_;simp only [sS, sN])|(refine rP rfl ?_;simp only [sS, sN]))
    refine reach_draw goodFF (by first | kernel_rfl | rfl) ?_
    simp only [List.size_toArray, List.length_cons, List.length_nil, Nat.reduceAdd, Nat.zero_add]
    co_applyP rT (i := 0) rfl (fun _ hu_ => run_eq_of ?u1_0) ?v1_0
    case u1_0 => intro K_ hK_;go_simp;(try rw [wI _]);(try rw [wU _]);exact hK_
    simp only [sS, sN]
    co_applyP rT (i := 1) rfl (fun _ hu_ => run_eq_of ?u1_1) ?v1_1
    case u1_1 => intro K_ hK_;go_simp;(try rw [wI _]);(try rw [wU _]);exact hK_
    simp only [sS, sN]
    co_applyP rT (i := 2) rfl (fun _ hu_ => run_eq_of ?u1_2) ?v1_2
    case u1_2 => intro K_ hK_;go_simp;(try rw [wI _]);(try rw [wU _]);exact hK_
    simp only [sS, sN]
    co_applyP rT (i := 3) rfl (fun _ hu_ => run_eq_of ?u2) ?v2
    case u2 => intro K_ hK_;(have hc := (Ext.twin hu_).cell ca);go_simp;(try rw [wI _]);(try rw [wU _]);exact hK_
    simp only [sS, sN]
    co_applyP rT (i := 4) rfl (fun _ hu_ => run_eq_of ?u3_4) ?v3_4
    case u3_4 => intro K_ hK_;go_simp;(try rw [wI _]);(try rw [wU _]);exact hK_
    simp only [sS, sN]
    co_applyP rT (i := 5) rfl (fun _ hu_ => run_eq_of ?u3_5) ?v3_5
    case u3_5 => intro K_ hK_;go_simp;(try rw [wI _]);(try rw [wU _]);exact hK_
    simp only [sS, sN]
    co_applyP rT (i := 6) rfl (fun _ hu_ => run_eq_of ?u3_6) ?v3_6
    case u3_6 => intro K_ hK_;go_simp;(try rw [wI _]);(try rw [wU _]);exact hK_
    simp only [sS, sN]
    co_applyP rT (i := 7) rfl (fun _ hu_ => run_eq_of ?u4) ?v4
    case u4 => intro K_ hK_;(have hc := (Ext.twin hu_).cell cb);go_simp;(try rw [wI _]);(try rw [wU _]);exact hK_
    simp only [sS, sN]
    co_applyP anyR_take (i := 8) rfl (by first | kernel_rfl | decide +kernel) (by first | kernel_rfl | decide +kernel) (by first | kernel_rfl | decide +kernel) (.inl ⟨(by first | rfl | (simp [Region.wanted, yielded, TA_get, *]; done)), .inr ⟨_, _, _, _, _, rfl, Try.func27, (by kernel_rfl), rfl, ?run5⟩⟩) ?rest5
    case run5 =>
      simp [Act.eval, *]
      exact lsame_r _ _ m m m (x j) (y j) (by omega) (.inr ⟨PA j, 0, rfl, Nat.le_refl _, hx j hlt⟩) (.inl (.inr ⟨PB j, 0, rfl, Nat.le_refl _, hy j hlt⟩)) (fun i hi => he j i hlt hi)
    simp only [stO_some, stO_none]
    co_applyP rT (i := 9) rfl (fun _ hu_ => run_eq_of ?u6) ?v6
    case u6 => intro K_ hK_;go_simp;(try rw [wI _]);(try rw [wU _]);exact hK_
    simp only [sS, sN]
    refine anyR_done (by first | kernel_rfl | decide +kernel) ?_ _
    repeat (first|refine rA ?_|refine rB ?_|refine rC ?_|refine rD ?_|(refine rR ?_;simp only [tO, Nat.reduceAdd])|refine rE ?_|(refine rO goodFF rfl ?_;intro _ hu_ K_ hK_;go_simp;(try rw [wI _]);(try rw [wU _]);refine hK_ _ ?_;clear hK_ K_ hu_;simp only [sS, sN])|(refine rP rfl ?_;simp only [sS, sN]))
    refine reach_draw goodFF (by first | kernel_rfl | rfl) ?_
    simp only [List.size_toArray, List.length_cons, List.length_nil, Nat.reduceAdd, Nat.zero_add]
    co_applyP rT (i := 0) rfl (fun _ hu_ => run_eq_of ?u7_0) ?v7_0
    case u7_0 => intro K_ hK_;go_simp;(try rw [wI _]);(try rw [wU _]);exact hK_
    simp only [sS, sN]
    co_applyP rT (i := 1) rfl (fun _ hu_ => run_eq_of ?u7_1) ?v7_1
    case u7_1 => intro K_ hK_;go_simp;(try rw [wI _]);(try rw [wU _]);exact hK_
    simp only [sS, sN]
    co_applyP rT (i := 2) rfl (fun _ hu_ => run_eq_of ?u7_2) ?v7_2
    case u7_2 => intro K_ hK_;go_simp;(try rw [wI _]);(try rw [wU _]);exact hK_
    simp only [sS, sN]
    co_applyP rT (i := 3) rfl (fun _ hu_ => run_eq_of ?u7_3) ?v7_3
    case u7_3 => intro K_ hK_;go_simp;(try rw [wI _]);(try rw [wU _]);exact hK_
    simp only [sS, sN]
    co_applyP rT (i := 4) rfl (fun _ hu_ => run_eq_of ?u7_4) ?v7_4
    case u7_4 => intro K_ hK_;go_simp;(try rw [wI _]);(try rw [wU _]);exact hK_
    simp only [sS, sN]
    co_applyP rT (i := 5) rfl (fun _ hu_ => run_eq_of ?u7_5) ?v7_5
    case u7_5 => intro K_ hK_;go_simp;(try rw [wI _]);(try rw [wU _]);exact hK_
    simp only [sS, sN]
    co_applyP rT (i := 6) rfl (fun _ hu_ => run_eq_of ?u8) ?v8
    case u8 => intro K_ hK_;(have hc := (Ext.twin hu_).cell ca);go_simp;(try rw [wI _]);(try rw [wU _]);exact hK_
    simp only [sS, sN]
    co_applyP rT (i := 7) rfl (fun _ hu_ => run_eq_of ?u9_7) ?v9_7
    case u9_7 => intro K_ hK_;go_simp;(try rw [wI _]);(try rw [wU _]);exact hK_
    simp only [sS, sN]
    co_applyP rT (i := 8) rfl (fun _ hu_ => run_eq_of ?u9_8) ?v9_8
    case u9_8 => intro K_ hK_;go_simp;(try rw [wI _]);(try rw [wU _]);exact hK_
    simp only [sS, sN]
    co_applyP rT (i := 9) rfl (fun _ hu_ => run_eq_of ?u9_9) ?v9_9
    case u9_9 => intro K_ hK_;go_simp;(try rw [wI _]);(try rw [wU _]);exact hK_
    simp only [sS, sN]
    co_applyP rT (i := 10) rfl (fun _ hu_ => run_eq_of ?u9_10) ?v9_10
    case u9_10 => intro K_ hK_;go_simp;(try rw [wI _]);(try rw [wU _]);exact hK_
    simp only [sS, sN]
    co_applyP rT (i := 11) rfl (fun _ hu_ => run_eq_of ?u10) ?v10
    case u10 => intro K_ hK_;(have hc := (Ext.twin hu_).cell cb);go_simp;(try rw [wI _]);(try rw [wU _]);exact hK_
    simp only [sS, sN]
    co_applyP rT (i := 12) rfl (fun _ hu_ => run_eq_of ?u11_12) ?v11_12
    case u11_12 => intro K_ hK_;go_simp;(try rw [wI _]);(try rw [wU _]);exact hK_
    simp only [sS, sN]
    co_applyP rT (i := 13) rfl (fun _ hu_ => run_eq_of ?u11_13) ?v11_13
    case u11_13 => intro K_ hK_;go_simp;(try rw [wI _]);(try rw [wU _]);exact hK_
    simp only [sS, sN]
    co_applyP rT (i := 14) rfl (fun _ hu_ => run_eq_of ?u11_14) ?v11_14
    case u11_14 => intro K_ hK_;go_simp;(try rw [wI _]);(try rw [wU _]);exact hK_
    simp only [sS, sN]
    refine anyR_done (by first | kernel_rfl | decide +kernel) ?_ _
    repeat (first|refine rA ?_|refine rB ?_|refine rC ?_|refine rD ?_|(refine rR ?_;simp only [tO, Nat.reduceAdd])|refine rE ?_|(refine rO goodFF rfl ?_;intro _ hu_ K_ hK_;go_simp;(try rw [wI _]);(try rw [wU _]);refine hK_ _ ?_;clear hK_ K_ hu_;simp only [sS, sN])|(refine rP rfl ?_;simp only [sS, sN]))
    (refine reach_cond (t := false) (by simp [Act.eval]) ?_; simp only [if_true, if_false, reduceIte, Bool.false_eq_true])
    repeat (first|refine rA ?_|refine rB ?_|refine rC ?_|refine rD ?_|(refine rR ?_;simp only [tO, Nat.reduceAdd])|refine rE ?_|(refine rO goodFF rfl ?_;intro _ hu_ K_ hK_;go_simp;(try rw [wI _]);(try rw [wU _]);refine hK_ _ ?_;clear hK_ K_ hu_;simp only [sS, sN])|(refine rP rfl ?_;simp only [sS, sN]))
    refine next _ _ _ (14 - (j + 1)) (by omega) ⟨j + 1, rfl, by omega, rfl, rfl, by simp [q0], by simp [q1], by simp⟩
  · obtain rfl : j = 14 := by omega
    (refine reach_cond (t := false) (by simp [Act.eval, q5]) ?_; simp only [if_true, if_false, reduceIte, Bool.false_eq_true])
    refine reach_exit rfl ?_
    repeat (first|refine rA ?_|refine rB ?_|refine rC ?_|refine rD ?_|(refine rR ?_;simp only [tO, Nat.reduceAdd])|refine rE ?_|(refine rO goodFF rfl ?_;intro _ hu_ K_ hK_;go_simp;(try rw [wI _]);(try rw [wU _]);refine hK_ _ ?_;clear hK_ K_ hu_;simp only [sS, sN])|(refine rP rfl ?_;simp only [sS, sN]))
    refine reach_ret fun todo => ?_
    refine ret _ _ _ _ (.bool true) ?_ ⟨rfl, rfl, rfl⟩
    simp [results, Try.results15]
end Go.Proofs.Ytpiefebngnlfoaa

/-
  mosaiclaw.Cuts: what its round calls, for every value.
-/
set_option linter.unusedVariables false
set_option linter.unusedSimpArgs false
namespace Go.Proofs.Ytpiefebngnlfoaa
open Go.RowKit Go.Conc Go.Vw

theorem MarkV.kp {O : Nat → Prop} {w w' : World} {z : Nat} {e : Value} (h : MarkV O w z e) (hk : Kp w (fun _ => False) w') : MarkV O w' z e := by
  obtain ⟨p, len, cap, e1, e2, e3⟩ := h
  refine ⟨p, len, cap, e1, e2, e3.imp id ?_⟩
  rintro ⟨B, q1, q2, q3, q4, q5⟩
  exact ⟨B, q1, q2, q3, Nat.lt_of_lt_of_le q4 hk.size, hk.bytes (fun x => x) q5⟩
theorem BkE.kp {O : Nat → Prop} {w w' : World} {z : Nat} {e : Value} (h : BkE O w z e) (hk : Kp w (fun _ => False) w') : BkE O w' z e := by
  obtain ⟨E, e0, e1, e2, e3, q1, q2, q3, q4, q5, q6, q7⟩ := h
  exact ⟨E, e0, e1, e2, e3, q1, q2, hk.cells _ _ _ _ (fun x => x) q3, q4.kp hk, q5.kp hk, q6.kp hk, q7.kp hk⟩
theorem MarkL.kp {O : Nat → Prop} {w w' : World} {z : Nat} {e : Value} (h : MarkL O w z e) (hk : Kp w (fun _ => False) w') : MarkL O w' z e := by
  obtain ⟨p, len, cap, e1, e2, e3⟩ := h
  refine ⟨p, len, cap, e1, e2, e3.imp id ?_⟩
  rintro ⟨B, q1, q2, q3, q4, q5⟩
  refine ⟨B, q1, q2, q3, Nat.lt_of_lt_of_le q4 hk.size, fun j hj => ?_⟩
  obtain ⟨M, c, r1, r2, r3, r4⟩ := q5 j hj
  exact ⟨M, c, hk.cell (fun x => x) r1, r2, r3, hk.cell (fun x => x) r4⟩
theorem LsE.kp {O : Nat → Prop} {w w' : World} {z : Nat} {e : Value} (h : LsE O w z e) (hk : Kp w (fun _ => False) w') : LsE O w' z e := by
  obtain ⟨E, e0, e1, e2, e3, q1, q2, q3, q4, q5, q6, q7⟩ := h
  exact ⟨E, e0, e1, e2, e3, q1, q2, hk.cells _ _ _ _ (fun x => x) q3, q4.kp hk, q5.kp hk, q6.kp hk, q7.kp hk⟩
theorem own_kp {w w' : World} {base n : Nat} {t : TypeId} {sv : Value} {xs : List Value} (h : w.ownsRow base t 1 sv n xs) (hk : Kp w (fun _ => False) w') : w'.ownsRow base t 1 sv n xs :=
  ⟨h.1, h.2.imp id fun ⟨b, cap, cur, q1, q2, q3, q4⟩ => ⟨b, cap, cur, q1, q2, hk.cells _ _ _ _ (fun x => x) q3, q4⟩⟩
theorem Book.kp {N OB nb nl : Nat} {O : Nat → Prop} {bv lv : Value} {w w' : World} (h : Book N OB O nb nl bv lv w) (hk : Kp w (fun _ => False) w') : Book N OB O nb nl bv lv w' := by
  obtain ⟨xs, a1, a2⟩ := h.bs.own
  obtain ⟨ys, b1, b2⟩ := h.ls.own
  exact ⟨h.new, hk.cells _ _ _ _ (fun x => x) h.row, h.obO, fun b hb => Nat.lt_of_lt_of_le (h.lt b hb) hk.size, h.ge,
    ⟨⟨xs, own_kp a1 hk, fun i hi => let ⟨y, r1, r2⟩ := a2 i hi; ⟨y, r1, r2.kp hk⟩⟩, h.bs.out⟩, ⟨⟨ys, own_kp b1 hk, fun i hi => let ⟨y, r1, r2⟩ := b2 i hi; ⟨y, r1, r2.kp hk⟩⟩, h.ls.out⟩⟩
theorem kp_ext {w w' : World} (h : Ext w w') : Kp w (fun _ => False) w' := (Kp.refl w _).ext h
theorem kp_frm {v w w' : World} {X : Nat → Prop} (h : Kp v (fun _ => False) w) (hf : Frm v.heap.size X w w') (hX : ∀ b, X b → v.heap.size ≤ b) : Kp v (fun _ => False) w' :=
  ⟨Nat.le_trans h.size hf.size, hf.os.trans h.os, hf.output.trans h.output, fun b o hb hc ht => hf.kept b o (h.objs b o hb hc ht) (fun q => by have := hX b q; have := (Array.getElem?_eq_some_iff.1 hc).1; omega) (.inl (Array.getElem?_eq_some_iff.1 hc).1)⟩
theorem kp_wr {v w w' : World} {B : Nat} {o : Obj} (h : Kp v (fun _ => False) w) (hB : v.heap.size ≤ B) (hW : Wr w B o w') : Kp v (fun _ => False) w' :=
  ⟨by rw [hW.size]; exact h.size, hW.os.trans h.os, hW.output.trans h.output, fun b o' hb hc ht => by
    have := (Array.getElem?_eq_some_iff.1 hc).1
    rw [hW.other b (by omega)]
    exact h.objs b o' hb hc ht⟩
/-- The copy that is handed in. -/
def RowR (N : Nat) (w : World) (n : Nat) (x : Nat → Nat) (pr : Option Addr) (capr : Nat) : Prop := (pr = none ∧ n = 0 ∧ capr = 0) ∨ ∃ RB, pr = some ⟨RB, 0, none⟩ ∧ N ≤ RB ∧ RoomyRow w n x RB capr
theorem RowR.slice {N : Nat} {w : World} {n : Nat} {x : Nat → Nat} {pr : Option Addr} {capr : Nat} (h : RowR N w n x pr capr) : SliceV w pr n capr x := by
  rcases h with ⟨e1, e2, e3⟩ | ⟨RB, e1, e2, e3⟩
  · exact .inl ⟨e1, e2, e3⟩
  · subst e1
    exact e3.slice
theorem RowR.kp {N : Nat} {w w' : World} {n : Nat} {x : Nat → Nat} {pr : Option Addr} {capr : Nat} (h : RowR N w n x pr capr) (hk : Kp w (fun _ => False) w') : RowR N w' n x pr capr :=
  h.imp id fun ⟨RB, e1, e2, cur, q1, q2⟩ => ⟨RB, e1, e2, cur, hk.cells _ _ _ _ (fun x => x) q1, q2⟩
theorem roomyV_r {S : Nat → Prop} {v : World} (p : Option Addr) (n c : Nat) (x : Nat → Nat) (hn : n < 140737488355328) (hs : SliceE v p n c x) :
    CallsR Try.prog 12 #[.slice p n c] S v fun y S' v' => S' = S ∧ ∃ pr capr, y = .slice pr n capr ∧ Ext v v' ∧ RowR v.heap.size v' n x pr capr ∧ (p = none ↔ pr = none) := by
  rcases hs.parts with ⟨rfl, rfl, rfl⟩ | ⟨a, rfl, hc, hb⟩
  · exact roomyNil_r.mono fun y S' v' _ ⟨e1, e2, e3⟩ => ⟨e2, none, 0, e1, by rw [e3]; exact .refl _, .inl ⟨rfl, rfl, rfl⟩, Iff.rfl⟩
  · exact (roomy_r a n c x hn hc hb).mono fun y S' v' _ ⟨e1, RB, cap, e2, hR⟩ => ⟨e1, _, cap, e2, hR.ext, .inr ⟨RB, rfl, hR.new, hR.row⟩, by simp⟩
theorem keptV_r {S : Nat → Prop} {v : World} (N : Nat) (p pr : Option Addr) (n c capr : Nat) (x : Nat → Nat) (hn : n < 140737488355328) (hs : SliceE v p n c x) (hr : RowR N v n x pr capr) (hpp : p = none ↔ pr = none) :
    CallsR Try.prog 17 #[.slice pr n capr, .slice p n c] S v fun y S' v' => y = .bool true ∧ S' = S ∧ v' = v := by
  rcases hs.parts with ⟨rfl, rfl, rfl⟩ | ⟨a, rfl, hc, hb⟩
  · obtain rfl := hpp.1 rfl
    rcases hr with ⟨_, _, rfl⟩ | ⟨RB, e, _⟩
    · exact keptNil_r
    · cases e
  · rcases hr with ⟨e, _, _⟩ | ⟨RB, rfl, _, e3⟩
    · cases hpp.2 e
    · exact kept_r a n c RB capr x hn hs e3
set_option maxRecDepth 100000 in
theorem cutBig_r {S : Nat → Prop} {v : World} (p : Option Addr) (len cap : Nat) (hl : 400 < len) :
    CallsR Try.prog 35 #[.slice p len cap] S v fun y S' v' => y = .tuple #[.slice none 0 0, .int .i64 1] ∧ S' = S ∧ v' = v := by
  refine callsR_body Try.func35 rfl Try.ntmps35 (by simp) fun Stop cc cs ret => ?_
  have g0 : argF #[.slice p len cap] 0 = .slice p len cap := rfl
  generalize argF #[.slice p len cap] = f at g0
  have hI : (400 : Int) < (len : Int) := by omega
  repeat (first|refine rA ?_|refine rB ?_|refine rC ?_|refine rD ?_|(refine rR ?_;simp only [tO, Nat.reduceAdd])|refine rE ?_|(refine rO goodFF rfl ?_;intro _ hu_ K_ hK_;go_simp;(try rw [wI _]);(try rw [wU _]);refine hK_ _ ?_;clear hK_ K_ hu_;simp only [sS, sN])|(refine rP rfl ?_;simp only [sS, sN]))
  (refine reach_cond (t := true) (by simp [Act.eval, hI, g0]) ?_; simp only [if_true, if_false, reduceIte, Bool.false_eq_true])
  repeat (first|refine rA ?_|refine rB ?_|refine rC ?_|refine rD ?_|(refine rR ?_;simp only [tO, Nat.reduceAdd])|refine rE ?_|(refine rO goodFF rfl ?_;intro _ hu_ K_ hK_;go_simp;(try rw [wI _]);(try rw [wU _]);refine hK_ _ ?_;clear hK_ K_ hu_;simp only [sS, sN])|(refine rP rfl ?_;simp only [sS, sN]))
  refine reach_ret fun todo => ?_
  refine ret _ _ _ _ (.tuple #[.slice none 0 0, .int .i64 1]) ?_ ⟨rfl, rfl, rfl⟩
  simp [results, Try.results35]
/-- What Cut answers. -/
def CutOut (w : World) (n : Nat) (x : Nat → Nat) (pl : Option Addr) (k e : Nat) (BA : Nat) (PB : Nat → Nat) (w' : World) : Prop := (400 < n ∧ pl = none ∧ k = 0 ∧ e = 1) ∨ (n ≤ 400 ∧ pl = some ⟨BA, 0, none⟩ ∧ k = 14 ∧ e = 0 ∧ Pieces w BA PB ((n + 9) / 10) (cutOf x n) w')
theorem cutV_r {S : Nat → Prop} {v : World} (p : Option Addr) (n c : Nat) (x : Nat → Nat) (hx : ∀ i, x i < 256) (hs : SliceV v p n c x) (hg : Try.prog.globals.size ≤ v.heap.size) :
    CallsR Try.prog 13 #[.slice p n c] S v fun y S' v' => ∃ pl k e BA PB, y = .tuple #[.slice pl k k, .int .i64 (e : Nat)] ∧ Kp v (fun _ => False) v' ∧ CutOut v n x pl k e BA PB v' := by
  by_cases h : n ≤ 400
  · exact (mcut_r n c p x h hx hs hg).mono fun y S' v' _ ⟨BA, PB, e, hp⟩ => ⟨some ⟨BA, 0, none⟩, 14, 0, BA, PB, e, hp.kp, .inr ⟨h, rfl, rfl, rfl, hp⟩⟩
  · exact mcut_of ((cutBig_r p n c (by omega)).mono fun y S' v' _ ⟨e1, e2, e3⟩ => ⟨.slice none 0 0, .int .i64 1, e1, none, 0, 1, 0, fun _ => 0, e1, by rw [e3]; exact .refl _ _, .inl ⟨by omega, rfl, rfl, rfl⟩⟩)
/-- What the reference's Cut answers. -/
def RefOut (w : World) (n : Nat) (x : Nat → Nat) (y : Value) (e : Nat) (w' : World) : Prop := (400 < n ∧ y = .slice none 0 0 ∧ e = 1 ∧ w' = w) ∨ (n ≤ 400 ∧ e = 0 ∧ RefP w y ((n + 9) / 10) (cutOf x n) w')
theorem rcutV_r {S : Nat → Prop} {v : World} (p : Option Addr) (n c : Nat) (x : Nat → Nat) (hx : ∀ i, x i < 256) (hs : SliceV v p n c x) :
    CallsR Try.prog 14 #[.slice p n c] S v fun y S' v' => ∃ z e, y = .tuple #[z, .int .i64 (e : Nat)] ∧ S' = S ∧ Ext v v' ∧ RefOut v n x z e v' := by
  by_cases h : n ≤ 400
  · refine (rcut_r p n c x h hx hs).mono fun y S' v' _ ⟨z, e1, hR, e2⟩ => ⟨z, 0, e1, e2, hR.ext, .inr ⟨h, rfl, hR.ext, ?_⟩⟩
    obtain ⟨OB, cap, PB, q1, q2, q3⟩ := hR.list
    exact ⟨OB, cap, PB, q1, q2, fun j hj => by rw [q3 j hj, bytesA_congr (g := cutOf x n j) fun i _ => (cut_piece' hx n j i).symm]⟩
  · exact (rcutBig_r p n c (by omega)).mono fun y S' v' _ ⟨e1, e2, e3⟩ => ⟨_, 1, e1, e2, by rw [e3]; exact .refl _, .inl ⟨by omega, rfl, rfl, e3⟩⟩
/-- The two are the same. -/
theorem sameV_r {S : Nat → Prop} {v0 v1 v2 v : World} {n k e e' BA : Nat} {x : Nat → Nat} {pl : Option Addr} {PB : Nat → Nat} {z : Value} (hC : CutOut v0 n x pl k e BA PB v1) (hR : RefOut v1 n x z e' v) (hE : Ext v1 v) :
    CallsR Try.prog 15 #[.slice pl k k, z] S v fun y S' v' => y = .bool true ∧ S' = S ∧ v' = v := by
  rcases hC with ⟨h1, rfl, rfl, rfl⟩ | ⟨h1, rfl, rfl, rfl, hP⟩
  · rcases hR with ⟨_, rfl, _, _⟩ | ⟨h2, _⟩
    · exact sameNil_r
    · omega
  · rcases hR with ⟨h2, _⟩ | ⟨_, _, hE', OB, cap, PR, rfl, q2, q3⟩
    · omega
    · have hl := hP.l14.kp (kp_ext hE)
      exact sameAll_r BA OB 14 cap ((n + 9) / 10) PB PR (cutOf x n) (cutOf x n) (by omega) (fun j hj => hl.piece hj) q2 (fun j hj i hi => by rw [Nat.zero_add]; exact hl.byte hj hi) (fun j hj i hi => by rw [Nat.zero_add, cell_of_row _ (PR j) i _ _ _ (q3 j hj)]; exact bytesA_get _ _ i hi) fun _ _ _ _ => rfl
/-- A new book. -/
theorem run_box {P : Program} {o : Oper} {a : Act} {x : Operand} {t : TypeId} {y : Value} (hop : o.op = Op.box t x) (hx : a.eval x = y) (u : World) :
    (execOp a.eval o).run P u = .ok (.value (.pointer (some ⟨u.heap.size, 0, none⟩))) (u.alloc (.cells y.cells t)) := by
  simp [execOp, hop, hx, Instr.box, newVar, newRow]
theorem Book.start {v w : World} (hE : Ext v w) (hr : w.heap[v.heap.size]? = some (.cells #[.slice none 0 0, .slice none 0 0, .slice none 0 0, .slice none 0 0] 32)) : Book v.heap.size v.heap.size (fun _ => False) 0 0 (.slice none 0 0) (.slice none 0 0) w :=
  ⟨Nat.le_refl _, hr, fun h => h, fun _ h => h.elim, fun _ h => h.elim, ⟨⟨[], World.ownsRow_nil _ _ _ _, fun i hi => by omega⟩, fun g hg => by cases hg⟩, ⟨⟨[], World.ownsRow_nil _ _ _ _, fun i hi => by omega⟩, fun g hg => by cases hg⟩⟩
end Go.Proofs.Ytpiefebngnlfoaa

/-
  mosaiclaw.Cuts: its walk.
-/
set_option linter.unusedVariables false
set_option linter.unusedSimpArgs false
namespace Go.Proofs.Ytpiefebngnlfoaa
open Go.RowKit Go.Conc Go.Vw

/-- The rest of Cuts, from a point of its text on. -/
def CuR (c : Code) (S : Nat → Prop) (v0 v : World) (f : Nat → Value) : Prop :=
  ∀ (Stop : Goroutine → (Nat → Prop) → World → Prop) (cs : List Frame),
    (∀ (f' : Nat → Value) (todo : List Item) (S' : Nat → Prop) (v' : World), f' 2 = .bool true → Kp v0 (fun _ => False) v' → Vw.Reach Try.prog Stop (G { (base 5).at ⟨TA 63 f', []⟩ todo with mode := .returning } cs) S' v') →
    Vw.Reach Try.prog Stop (G ((base 5).at ⟨TA 63 f, []⟩ [.code c]) cs) S v
theorem pc_of {N n k e BA : Nat} {O : Nat → Prop} {x : Nat → Nat} {pl : Option Addr} {PB : Nat → Nat} {w w1 w2 w3 : World} (hN : N ≤ w.heap.size) (hO : ∀ b, O b → b < w.heap.size) (hE1 : Ext w w1) (hE3 : Ext w2 w3) (hC : CutOut w1 n x pl k e BA PB w2) : (∃ m, m ≤ 4000 ∧ PcI N O w3 pl k BA PB m) ∧ (k = 0 ∨ k = 14) ∧ ∀ b, PcX k BA PB b → w1.heap.size ≤ b := by
  have h1 := hE1.size
  rcases hC with ⟨_, rfl, rfl, rfl⟩ | ⟨h, rfl, rfl, rfl, hP⟩
  · exact ⟨⟨0, by omega, .inl ⟨rfl, rfl⟩⟩, .inl rfl, fun b ⟨q, _⟩ => by omega⟩
  · refine ⟨⟨(n + 9) / 10, by omega, .inr ⟨rfl, rfl, ?_⟩⟩, .inr rfl, ?_⟩
    · have hA := hP.newA
      exact ⟨by omega, hE3.row hP.ba, fun q => by have := hO _ q; omega, fun j hj => by have := hP.newP j hj; omega, fun j hj => ⟨_, hE3.row (hP.pb j hj), bytesA_size _ _⟩, fun j hj q => by have := hO _ q; have := hP.newP j hj; omega, hP.inj⟩
    · rintro b ⟨_, rfl | ⟨j, hj, rfl⟩⟩
      · exact hP.newA
      · exact hP.newP j hj
theorem err_eq {w w' w1 w2 : World} {n k e e' BA : Nat} {x : Nat → Nat} {pl : Option Addr} {PB : Nat → Nat} {z : Value} (hC : CutOut w n x pl k e BA PB w') (hR : RefOut w1 n x z e' w2) : e = e' := by
  rcases hC with ⟨h1, _, _, rfl⟩ | ⟨h1, _, _, rfl, _⟩ <;> rcases hR with ⟨h2, _, rfl, _⟩ | ⟨h2, rfl, _⟩ <;> omega
set_option maxRecDepth 100000 in
set_option maxHeartbeats 8000000 in
theorem cuts_whole {S : Nat → Prop} {v : World} (p : Option Addr) (n c : Nat) (x : Nat → Nat) (hx : ∀ i, x i < 256) (hn : n < 140737488355328) (hs : SliceV v p n c x) (hg : Try.prog.globals.size ≤ v.heap.size) :
    CuR (Try.f5.body.getD .skip) S v v (argF #[.slice p n c]) := by
  intro Stop cs ret
  have g0 : argF #[.slice p n c] 0 = .slice p n c := rfl
  generalize argF #[.slice p n c] = f at g0
  simp only [Try.f5, Option.getD_some]
  repeat (first|refine rA ?_|refine rB ?_|refine rC ?_|refine rD ?_|(refine rR ?_;simp only [tO, Nat.reduceAdd])|refine rE ?_|(refine rO goodFF rfl ?_;intro _ hu_ K_ hK_;go_simp;(try rw [wI _]);(try rw [wU _]);refine hK_ _ ?_;clear hK_ K_ hu_;simp only [sS, sN])|(refine rP rfl ?_;simp only [sS, sN]))
  refine reach_turnQ (Q := fun y w => y = .pointer (some ⟨v.heap.size, 0, none⟩) ∧ Ext v w ∧ w.heap[v.heap.size]? = some (.cells #[.slice none 0 0, .slice none 0 0, .slice none 0 0, .slice none 0 0] 32)) goodFF rfl rfl (by kernel_rfl) (fun u hu => ⟨_, _, .inl (run_box (x := .tmp 13) (y := .agg #[.slice none 0 0, .slice none 0 0, .slice none 0 0, .slice none 0 0]) rfl (by simp) u), by rw [hu.heap], (Ext.twin hu).trans _ _ _ (Ext.alloc _ _), by rw [← hu.heap]; exact alloc_at _ _⟩) ?_
  rintro _ w0 ⟨rfl, hE0, hr0⟩
  simp only [stO_some]
  repeat (first|refine rA ?_|refine rB ?_|refine rC ?_|refine rD ?_|(refine rR ?_;simp only [tO, Nat.reduceAdd])|refine rE ?_|(refine rO goodFF rfl ?_;intro _ hu_ K_ hK_;go_simp;(try rw [wI _]);(try rw [wU _]);refine hK_ _ ?_;clear hK_ K_ hu_;simp only [sS, sN])|(refine rP rfl ?_;simp only [sS, sN]))
  refine reach_rounds (fun d f' S' w => ∃ k O nb nl bv lv, d = 2 - k ∧ k ≤ 2 ∧ (Book v.heap.size v.heap.size O nb nl bv lv w ∧ nb ≤ 14 * k ∧ nl ≤ k ∧ Kp v (fun _ => False) w) ∧ f' 0 = .slice p n c ∧ f' 3 = .pointer (some ⟨v.heap.size, 0, none⟩) ∧ f' 4 = .int .i64 (k : Nat)) 2 ⟨0, _, 0, 0, _, _, by omega, by omega, ⟨Book.start hE0 hr0, by omega, by omega, kp_ext hE0⟩, by simp [g0], by simp, by simp⟩ ?_
  clear hE0 hr0 g0 w0 f
  rintro d f S0 w ⟨k, O, nb, nl, bv, lv, rfl, hk, ⟨hB, hnb, hnl, hK⟩, g0, g3, g4⟩ nxt
  repeat (first|refine rA ?_|refine rB ?_|refine rC ?_|refine rD ?_|(refine rR ?_;simp only [tO, Nat.reduceAdd])|refine rE ?_|(refine rO goodFF rfl ?_;intro _ hu_ K_ hK_;go_simp;(try rw [wI _]);(try rw [wU _]);refine hK_ _ ?_;clear hK_ K_ hu_;simp only [sS, sN])|(refine rP rfl ?_;simp only [sS, sN]))
  by_cases hlt : k < 2
  · have hkI : (k : Int) < 2 := by omega
    (refine reach_cond (t := true) (by simp [Act.eval, hkI]) ?_; simp only [if_true, if_false, reduceIte, Bool.false_eq_true])
    repeat (first|refine rA ?_|refine rB ?_|refine rC ?_|refine rD ?_|(refine rR ?_;simp only [tO, Nat.reduceAdd])|refine rE ?_|(refine rO goodFF rfl ?_;intro _ hu_ K_ hK_;go_simp;(try rw [wI _]);(try rw [wU _]);refine hK_ _ ?_;clear hK_ K_ hu_;simp only [sS, sN])|(refine rP rfl ?_;simp only [sS, sN]))
    (refine reach_callR rfl (by first | rfl | simp [Region.wanted, yielded, TA_get, *]) rfl Try.func12 (by kernel_rfl) rfl (by simp [Act.eval, *]; try rfl) (roomyV_r p n c x hn (.inl (slice_kp hK hs))) ?_)
    rintro _ S1 w1 _ ⟨e1, pr, capr, rfl, hE1, hR1, hpp⟩
    subst S1
    simp only [stO_some]
    have hgs : Try.prog.globals.size ≤ w1.heap.size := Nat.le_trans hg (Nat.le_trans hK.size hE1.size)
    repeat (first|refine rA ?_|refine rB ?_|refine rC ?_|refine rD ?_|(refine rR ?_;simp only [tO, Nat.reduceAdd])|refine rE ?_|(refine rO goodFF rfl ?_;intro _ hu_ K_ hK_;go_simp;(try rw [wI _]);(try rw [wU _]);refine hK_ _ ?_;clear hK_ K_ hu_;simp only [sS, sN])|(refine rP rfl ?_;simp only [sS, sN]))
    (refine reach_callR rfl (by first | rfl | simp [Region.wanted, yielded, TA_get, *]) rfl Try.func13 (by kernel_rfl) rfl (by simp [Act.eval, *]; try rfl) (cutV_r pr n capr x hx hR1.slice hgs) ?_)
    rintro _ S2 w2 _ ⟨pl, kk, ee, BA, PB, rfl, hk2, hC2⟩
    simp only [stO_some]
    have hK2 := (hK.ext hE1).trans hk2
    repeat (first|refine rA ?_|refine rB ?_|refine rC ?_|refine rD ?_|(refine rR ?_;simp only [tO, Nat.reduceAdd])|refine rE ?_|(refine rO goodFF rfl ?_;intro _ hu_ K_ hK_;go_simp;(try rw [wI _]);(try rw [wU _]);refine hK_ _ ?_;clear hK_ K_ hu_;simp only [sS, sN])|(refine rP rfl ?_;simp only [sS, sN]))
    (refine reach_callR rfl (by first | rfl | simp [Region.wanted, yielded, TA_get, *]) rfl Try.func14 (by kernel_rfl) rfl (by simp [Act.eval, *]; try rfl) (rcutV_r p n c x hx (slice_kp hK2 hs)) ?_)
    rintro _ S3 w3 _ ⟨z, e', rfl, e3, hE3, hC3⟩
    subst S3
    simp only [stO_some]
    repeat (first|refine rA ?_|refine rB ?_|refine rC ?_|refine rD ?_|(refine rR ?_;simp only [tO, Nat.reduceAdd])|refine rE ?_|(refine rO goodFF rfl ?_;intro _ hu_ K_ hK_;go_simp;(try rw [wI _]);(try rw [wU _]);refine hK_ _ ?_;clear hK_ K_ hu_;simp only [sS, sN])|(refine rP rfl ?_;simp only [sS, sN]))
    (refine reach_callR rfl (by first | rfl | simp [Region.wanted, yielded, TA_get, *]) rfl Try.func15 (by kernel_rfl) rfl (by simp [Act.eval, *]; try rfl) (sameV_r hC2 hC3 hE3 (v2 := w3)) ?_)
    rintro _ S4 w4 _ ⟨rfl, e4, e5⟩
    subst S4 w4
    simp only [stO_some]
    have hKw3 : Kp w (fun _ => False) w3 := ((kp_ext hE1).trans hk2).trans (kp_ext hE3)
    have hB3 := hB.kp hKw3
    have hK3 : Kp v (fun _ => False) w3 := hK.trans hKw3
    obtain ⟨⟨m, hm, hPc⟩, hkk, hPX⟩ := pc_of (O := O) hK.size hB.lt hE1 hE3 hC2
    have hee := err_eq hC2 hC3
    subst hee
    repeat (first|refine rA ?_|refine rB ?_|refine rC ?_|refine rD ?_|(refine rR ?_;simp only [tO, Nat.reduceAdd])|refine rE ?_|(refine rO goodFF rfl ?_;intro _ hu_ K_ hK_;go_simp;(try rw [wI _]);(try rw [wU _]);refine hK_ _ ?_;clear hK_ K_ hu_;simp only [sS, sN])|(refine rP rfl ?_;simp only [sS, sN]))
    (refine reach_callR rfl (by first | rfl | simp [Region.wanted, yielded, TA_get, *]) rfl Try.func16 (by kernel_rfl) rfl (by simp [Act.eval, *]; try rfl) (pieces_r v.heap.size v.heap.size nb nl kk BA m O bv lv pl PB hm (by omega) (by omega) hB3 hPc) ?_)
    rintro _ S5 w5 _ ⟨rfl, e5, O', bv', lv', hFr, hB5, hO5⟩
    subst S5
    simp only [stO_some]
    have hw1 : v.heap.size ≤ w1.heap.size := Nat.le_trans hK.size hE1.size
    have hK5 : Kp v (fun _ => False) w5 := kp_frm hK3 hFr fun b q => Nat.le_trans hw1 (hPX b q)
    have hR5 : (pr = none ∧ n = 0 ∧ capr = 0) ∨ ∃ RB, pr = some ⟨RB, 0, none⟩ ∧ v.heap.size ≤ RB ∧ RoomyRow w5 n x RB capr ∧ ¬ O' RB := by
      rcases hR1 with h | ⟨RB, q1, q2, cur, q3, q4⟩
      · exact .inl h
      · have hlt := (Array.getElem?_eq_some_iff.1 q3).1
        have hk13 : Kp w1 (fun _ => False) w3 := hk2.trans (kp_ext hE3)
        have q5 := hk13.cells _ _ _ _ (fun x => x) q3
        have hlt3 := (Array.getElem?_eq_some_iff.1 q5).1
        have hnx : ¬ PcX kk BA PB RB := fun q => by have := hPX RB q; omega
        refine .inr ⟨RB, q1, Nat.le_trans hK.size q2, ⟨cur, hFr.kept RB _ q5 hnx (.inr (.inl ⟨_, _, rfl⟩)), q4⟩, fun q => ?_⟩
        rcases hO5 RB q with r | r | r
        · have := hB.lt RB r
          omega
        · exact hnx r
        · omega
    repeat (first|refine rA ?_|refine rB ?_|refine rC ?_|refine rD ?_|(refine rR ?_;simp only [tO, Nat.reduceAdd])|refine rE ?_|(refine rO goodFF rfl ?_;intro _ hu_ K_ hK_;go_simp;(try rw [wI _]);(try rw [wU _]);refine hK_ _ ?_;clear hK_ K_ hu_;simp only [sS, sN])|(refine rP rfl ?_;simp only [sS, sN]))
    (refine reach_callR rfl (by first | rfl | simp [Region.wanted, yielded, TA_get, *]) rfl Try.func17 (by kernel_rfl) rfl (by simp [Act.eval, *]; try rfl) (keptV_r v.heap.size p pr n c capr x hn (.inl (slice_kp hK5 hs)) (hR5.imp id fun ⟨RB, q1, q2, q3, _⟩ => ⟨RB, q1, q2, q3⟩) hpp) ?_)
    rintro _ S6 w6 _ ⟨rfl, e6, e7⟩
    subst S6 w6
    simp only [stO_some]
    repeat (first|refine rA ?_|refine rB ?_|refine rC ?_|refine rD ?_|(refine rR ?_;simp only [tO, Nat.reduceAdd])|refine rE ?_|(refine rO goodFF rfl ?_;intro _ hu_ K_ hK_;go_simp;(try rw [wI _]);(try rw [wU _]);refine hK_ _ ?_;clear hK_ K_ hu_;simp only [sS, sN])|(refine rP rfl ?_;simp only [sS, sN]))
    (refine reach_callR rfl (by first | rfl | simp [Region.wanted, yielded, TA_get, *]) rfl Try.func18 (by kernel_rfl) rfl (by simp [Act.eval, *]; try rfl) (num_r ee) ?_)
    rintro _ S6 w6 _ ⟨rfl, e6, e7⟩
    subst S6 w6
    simp only [stO_some]
    repeat (first|refine rA ?_|refine rB ?_|refine rC ?_|refine rD ?_|(refine rR ?_;simp only [tO, Nat.reduceAdd])|refine rE ?_|(refine rO goodFF rfl ?_;intro _ hu_ K_ hK_;go_simp;(try rw [wI _]);(try rw [wU _]);refine hK_ _ ?_;clear hK_ K_ hu_;simp only [sS, sN])|(refine rP rfl ?_;simp only [sS, sN]))
    (refine reach_cond (t := false) (by simp [Act.eval]) ?_; simp only [if_true, if_false, reduceIte, Bool.false_eq_true])
    repeat (first|refine rA ?_|refine rB ?_|refine rC ?_|refine rD ?_|(refine rR ?_;simp only [tO, Nat.reduceAdd])|refine rE ?_|(refine rO goodFF rfl ?_;intro _ hu_ K_ hK_;go_simp;(try rw [wI _]);(try rw [wU _]);refine hK_ _ ?_;clear hK_ K_ hu_;simp only [sS, sN])|(refine rP rfl ?_;simp only [sS, sN]))
    refine reach_rounds (fun d f' S' w' => ∃ i, d = n - i ∧ i ≤ n ∧ (Book v.heap.size v.heap.size O' (nb + kk) (nl + 1) bv' lv' w' ∧ Kp v (fun _ => False) w' ∧ ((pr = none ∧ n = 0 ∧ capr = 0) ∨ ∃ RB cur, pr = some ⟨RB, 0, none⟩ ∧ v.heap.size ≤ RB ∧ w'.heap[RB]? = some (.cells cur 5) ∧ n < cur.size ∧ ¬ O' RB)) ∧ f' 0 = .slice p n c ∧ f' 3 = .pointer (some ⟨v.heap.size, 0, none⟩) ∧ f' 4 = .int .i64 (k : Nat) ∧ f' 5 = .slice pr n capr ∧ f' 12 = .int .i64 (i : Nat)) n ⟨0, by omega, by omega, ⟨hB5, hK5, hR5.imp id fun ⟨RB, q1, q2, ⟨cur, q3, q4, q5, _⟩, q6⟩ => ⟨RB, cur, q1, q2, q3, by omega, q6⟩⟩, by simp [g0], by simp [g3], by simp [g4], by simp, by simp⟩ ?_
    clear hB5 hK5 hR5 hFr hO5 hPX hPc hK3 hB3 hKw3 hC2 hC3 hE3 hK2 hk2 hgs hR1 hE1 hK hB g0 g3 g4
    clear f
    rintro d f S7 w7 ⟨i, rfl, hi, ⟨hB7, hK7, hR7⟩, g0, g3, g4, g5, g12⟩ nxt2
    repeat (first|refine rA ?_|refine rB ?_|refine rC ?_|refine rD ?_|(refine rR ?_;simp only [tO, Nat.reduceAdd])|refine rE ?_|(refine rO goodFF rfl ?_;intro _ hu_ K_ hK_;go_simp;(try rw [wI _]);(try rw [wU _]);refine hK_ _ ?_;clear hK_ K_ hu_;simp only [sS, sN])|(refine rP rfl ?_;simp only [sS, sN]))
    by_cases hli : i < n
    · obtain ⟨RB, cur, rfl, q2, q3, q4, q5⟩ : ∃ RB cur, pr = some ⟨RB, 0, none⟩ ∧ v.heap.size ≤ RB ∧ w7.heap[RB]? = some (.cells cur 5) ∧ n < cur.size ∧ ¬ O' RB := by
        rcases hR7 with ⟨_, h, _⟩ | h
        · omega
        · exact h
      have hiI : (i : Int) < (n : Int) := by omega
      (refine reach_cond (t := true) (by simp [Act.eval, hli]) ?_; simp only [if_true, if_false, reduceIte, Bool.false_eq_true])
      repeat (first|refine rA ?_|refine rB ?_|refine rC ?_|refine rD ?_|(refine rR ?_;simp only [tO, Nat.reduceAdd])|refine rE ?_|(refine rO goodFF rfl ?_;intro _ hu_ K_ hK_;go_simp;(try rw [wI _]);(try rw [wU _]);refine hK_ _ ?_;clear hK_ K_ hu_;simp only [sS, sN])|(refine rP rfl ?_;simp only [sS, sN]))
      refine reach_store1 goodFF rfl rfl (by kernel_rfl) (x := .tmp 60) (y := .const (.int .u8 99)) (g := RB) (j := i) (z := .int .u8 99) rfl (by simp) rfl rfl rfl q3 (by omega) (by kernel_rfl) fun w8 hW => ?_
      simp only [stO_none]
      repeat (first|refine rA ?_|refine rB ?_|refine rC ?_|refine rD ?_|(refine rR ?_;simp only [tO, Nat.reduceAdd])|refine rE ?_|(refine rO goodFF rfl ?_;intro _ hu_ K_ hK_;go_simp;(try rw [wI _]);(try rw [wU _]);refine hK_ _ ?_;clear hK_ K_ hu_;simp only [sS, sN])|(refine rP rfl ?_;simp only [sS, sN]))
      refine nxt2 _ _ _ (n - (i + 1)) (by omega) ⟨i + 1, rfl, by omega, ⟨hB7.wr q3 (.inl rfl) q5 hW, kp_wr hK7 q2 hW, .inr ⟨RB, _, rfl, q2, hW.at_, by simpa using q4, q5⟩⟩, by simp [g0], by simp [g3], by simp [g4], by simp [g5], by simp⟩
    · obtain rfl : i = n := by omega
      (refine reach_cond (t := false) (by simp [Act.eval]) ?_; simp only [if_true, if_false, reduceIte, Bool.false_eq_true])
      refine reach_exit rfl ?_
      repeat (first|refine rA ?_|refine rB ?_|refine rC ?_|refine rD ?_|(refine rR ?_;simp only [tO, Nat.reduceAdd])|refine rE ?_|(refine rO goodFF rfl ?_;intro _ hu_ K_ hK_;go_simp;(try rw [wI _]);(try rw [wU _]);refine hK_ _ ?_;clear hK_ K_ hu_;simp only [sS, sN])|(refine rP rfl ?_;simp only [sS, sN]))
      refine nxt _ _ _ (2 - (k + 1)) (by omega) ⟨k + 1, O', nb + kk, nl + 1, bv', lv', rfl, by omega, ⟨hB7, by omega, by omega, hK7⟩, by simp [g0], by simp [g3], by simp⟩
  · obtain rfl : k = 2 := by omega
    (refine reach_cond (t := false) (by simp [Act.eval, g4]) ?_; simp only [if_true, if_false, reduceIte, Bool.false_eq_true])
    refine reach_exit rfl ?_
    repeat (first|refine rA ?_|refine rB ?_|refine rC ?_|refine rD ?_|(refine rR ?_;simp only [tO, Nat.reduceAdd])|refine rE ?_|(refine rO goodFF rfl ?_;intro _ hu_ K_ hK_;go_simp;(try rw [wI _]);(try rw [wU _]);refine hK_ _ ?_;clear hK_ K_ hu_;simp only [sS, sN])|(refine rP rfl ?_;simp only [sS, sN]))
    (refine reach_callR rfl (by first | rfl | simp [Region.wanted, yielded, TA_get, *]) rfl Try.func19 (by kernel_rfl) rfl (by simp [Act.eval, *]; try rfl) (looks_r hB (by omega) (by omega)) ?_)
    rintro _ S1 w1 _ ⟨rfl, e1, e2⟩
    subst S1 w1
    simp only [stO_some]
    repeat (first|refine rA ?_|refine rB ?_|refine rC ?_|refine rD ?_|(refine rR ?_;simp only [tO, Nat.reduceAdd])|refine rE ?_|(refine rO goodFF rfl ?_;intro _ hu_ K_ hK_;go_simp;(try rw [wI _]);(try rw [wU _]);refine hK_ _ ?_;clear hK_ K_ hu_;simp only [sS, sN])|(refine rP rfl ?_;simp only [sS, sN]))
    refine reach_ret fun todo => ?_
    exact ret _ _ _ _ (by simp) hK
end Go.Proofs.Ytpiefebngnlfoaa
