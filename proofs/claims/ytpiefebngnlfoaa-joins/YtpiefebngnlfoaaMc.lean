/-
  mosaiclaw.rooms.
-/
import Derived.Test.YtpiefebngnlfoaaLx
set_option linter.unusedVariables false
set_option linter.unusedSimpArgs false
namespace Go.Proofs.Ytpiefebngnlfoaa
open Go.RowKit Go.Conc Go.Vw

/-- The copies so far, in two lists. -/
structure RmsI (v : World) (q : Nat → Option Addr) (ln : Nat → Nat) (y : Nat → Nat → Nat) (k : Nat) (ov wv : Value) (pr : Nat → Option Addr) (cr : Nat → Nat) (w : World) : Prop where
  ext : Ext v w
  out : w.ownsRow v.heap.size 25 1 ov k ((List.range k).map fun i => .slice (pr i) (ln i) (cr i))
  own : w.ownsRow v.heap.size 25 1 wv k ((List.range k).map fun i => .slice (pr i) (ln i) (cr i))
  apart : ∀ b, ov.ownBlock = some b → wv.ownBlock ≠ some b
  el : ∀ i, i < k → RowR v.heap.size w (ln i) (y i) (pr i) (cr i) ∧ (q i = none ↔ pr i = none)
theorem RmsI.start (v : World) (q : Nat → Option Addr) (ln : Nat → Nat) (y : Nat → Nat → Nat) : RmsI v q ln y 0 (.slice none 0 0) (.slice none 0 0) (fun _ => none) (fun _ => 0) v := ⟨.refl v, World.ownsRow_nil _ _ _ _, World.ownsRow_nil _ _ _ _, fun b hb => (by cases hb), fun i hi => by omega⟩
theorem RowR.ext {N : Nat} {w w' : World} {n : Nat} {x : Nat → Nat} {pr : Option Addr} {capr : Nat} (h : RowR N w n x pr capr) (hE : Ext w w') : RowR N w' n x pr capr :=
  h.imp id fun ⟨RB, e1, e2, cur, q1, q2⟩ => ⟨RB, e1, e2, cur, hE.row q1, q2⟩
theorem RowR.gr {N base m : Nat} {w w' : World} {n : Nat} {x : Nat → Nat} {pr : Option Addr} {capr : Nat} {sv : Value} {xs : List Value} (h : RowR N w n x pr capr) (ho : w.ownsRow base 25 1 sv m xs) (hg : Gr w w' sv.ownBlock) : RowR N w' n x pr capr :=
  h.imp id fun ⟨RB, e1, e2, cur, q1, q2⟩ => ⟨RB, e1, e2, cur, hg.row q1 (type_ne ho q1 (by decide)), q2⟩
theorem RowR.low {N N' : Nat} {w : World} {n : Nat} {x : Nat → Nat} {pr : Option Addr} {capr : Nat} (h : RowR N w n x pr capr) (hN : N' ≤ N) : RowR N' w n x pr capr :=
  h.imp id fun ⟨RB, e1, e2, e3⟩ => ⟨RB, e1, Nat.le_trans hN e2, e3⟩
theorem RmsI.add {v w w1 w2 w3 w4 w5 : World} {q : Nat → Option Addr} {ln : Nat → Nat} {y : Nat → Nat → Nat} {k : Nat} {ov wv ov' wv' : Value} {pr : Nat → Option Addr} {cr : Nat → Nat} {prk : Option Addr} {crk : Nat} (h : RmsI v q ln y k ov wv pr cr w) (hE1 : Ext w w1) (hR : RowR w.heap.size w1 (ln k) (y k) prk crk) (hpp : q k = none ↔ prk = none)
    (hE2 : Ext w1 w2) (hg3 : Gr w2 w3 ov.ownBlock) (ho3 : w3.ownsRow v.heap.size 25 1 ov' (k + 1) (((List.range k).map fun i => .slice (pr i) (ln i) (cr i)) ++ [.slice prk (ln k) crk])) (hb3 : ∀ g, ov'.ownBlock = some g → ov.ownBlock = some g ∨ w2.heap.size ≤ g)
    (hE4 : Ext w3 w4) (hg5 : Gr w4 w5 wv.ownBlock) (ho5 : w5.ownsRow v.heap.size 25 1 wv' (k + 1) (((List.range k).map fun i => .slice (pr i) (ln i) (cr i)) ++ [.slice prk (ln k) crk])) (hb5 : ∀ g, wv'.ownBlock = some g → wv.ownBlock = some g ∨ w4.heap.size ≤ g) :
    RmsI v q ln y (k + 1) ov' wv' (fun i => if i = k then prk else pr i) (fun i => if i = k then crk else cr i) w5 := by
  have hE12 := hE1.trans _ _ _ hE2
  have g12 : Gr w w2 none := ⟨hE12.os, hE12.output, hE12.size, fun b hb _ => hE12.block b hb⟩
  have g34 : Gr w3 w4 none := ⟨hE4.os, hE4.output, hE4.size, fun b hb _ => hE4.block b hb⟩
  have o2 := own_gr h.out g12 (by simp)
  have p2 := own_gr h.own g12 (by simp)
  have p3 := own_gr p2 hg3 fun b hb e => h.apart b e.symm hb
  have p4 := own_gr p3 g34 (by simp)
  have o4 := own_gr ho3 g34 (by simp)
  have hwlt : ∀ b, wv.ownBlock = some b → b < w2.heap.size := fun b hb => (p2.lt b hb).2
  have holt : ∀ b, ov'.ownBlock = some b → b < w3.heap.size := fun b hb => (ho3.lt b hb).2
  have hap : ∀ b, ov'.ownBlock = some b → wv.ownBlock ≠ some b := fun b hb e => by
    rcases hb3 b hb with r | r
    · exact h.apart b r e
    · have := hwlt b e
      omega
  have o5 := own_gr o4 hg5 fun b hb e => hap b hb e.symm
  refine ⟨?_, ?_, ?_, fun b hb e => ?_, fun i hi => ?_⟩
  · exact Gr.over ((Gr.over (h.ext.trans _ _ _ hE12) hg3 fun b hb => own_base o2 hb).trans _ _ _ hE4) hg5 fun b hb => own_base p4 hb
  · rw [List.range_succ, List.map_append, List.map_congr_left (g := fun i => Value.slice (pr i) (ln i) (cr i))]
    · simpa using o5
    · intro i hi
      have : i ≠ k := by have := List.mem_range.1 hi; omega
      simp [this]
  · rw [List.range_succ, List.map_append, List.map_congr_left (g := fun i => Value.slice (pr i) (ln i) (cr i))]
    · simpa using ho5
    · intro i hi
      have : i ≠ k := by have := List.mem_range.1 hi; omega
      simp [this]
  · rcases hb5 b e with r | r
    · exact hap b hb r
    · have := holt b hb
      have := hE4.size
      omega
  · have fin : ∀ {n : Nat} {x : Nat → Nat} {p : Option Addr} {c : Nat}, RowR v.heap.size w2 n x p c → RowR v.heap.size w5 n x p c := fun hr => ((hr.gr o2 hg3).ext hE4).gr p4 hg5
    by_cases e : i = k
    · subst e
      simp only [if_true]
      exact ⟨fin ((hR.low h.ext.size).ext hE2), hpp⟩
    · simp only [e, if_false]
      obtain ⟨r1, r2⟩ := h.el i (by omega)
      exact ⟨fin (r1.ext hE12), r2⟩
theorem wr_extR {v w w' : World} {b : Nat} {o : Obj} (h : Ext v w) (hb : v.heap.size ≤ b) (hW : Wr w b o w') : Ext v w' :=
  ⟨by rw [hW.size]; exact h.size, fun c hc => (hW.other c (by omega)).trans (h.block c hc), hW.os.trans h.os, hW.output.trans h.output⟩
/-- What rooms answers. -/
structure Rooms (v : World) (len : Nat) (q : Nat → Option Addr) (ln : Nat → Nat) (y : Nat → Nat → Nat) (RO capO : Nat) (wv : Value) (pr : Nat → Option Addr) (cr : Nat → Nat) (MB : Nat) (w : World) : Prop where
  ext : Ext v w
  new : v.heap.size ≤ RO
  row : ∃ cur, w.heap[RO]? = some (.cells cur 25) ∧ cur.size = capO ∧ len < capO ∧ (∀ i, i < len → cur[i]? = some (.slice (pr i) (ln i) (cr i))) ∧ cur[len]? = some (.slice (some ⟨MB, 0, none⟩) 4 4)
  mine : ∃ fr, w.heap[MB]? = some (.cells #[.int .u8 109, .int .u8 105, .int .u8 110, .int .u8 101] 5 fr)
  newM : v.heap.size ≤ MB
  own : w.ownsRow v.heap.size 25 1 wv len ((List.range len).map fun i => .slice (pr i) (ln i) (cr i))
  apart : wv.ownBlock ≠ some RO
  el : ∀ i, i < len → RowR v.heap.size w (ln i) (y i) (pr i) (cr i) ∧ (q i = none ↔ pr i = none)
set_option maxRecDepth 100000 in
theorem roomsNil_r {S : Nat → Prop} {v : World} : CallsR Try.prog 20 #[.slice none 0 0] S v fun x S' v' => x = .tuple #[.slice none 0 0, .slice none 0 0] ∧ S' = S ∧ v' = v := by
  refine callsR_body Try.func20 rfl Try.ntmps20 (by simp) fun Stop cc cs ret => ?_
  have g0 : argF #[.slice none 0 0] 0 = .slice none 0 0 := rfl
  generalize argF #[.slice none 0 0] = f at g0
  repeat (first|refine rA ?_|refine rB ?_|refine rC ?_|refine rD ?_|(refine rR ?_;simp only [tO, Nat.reduceAdd])|refine rE ?_|(refine rO goodFF rfl ?_;intro _ hu_ K_ hK_;go_simp;(try rw [wI _]);(try rw [wU _]);refine hK_ _ ?_;clear hK_ K_ hu_;simp only [sS, sN])|(refine rP rfl ?_;simp only [sS, sN]))
  (refine reach_cond (t := true) (by simp [Act.eval]) ?_; simp only [if_true, if_false, reduceIte, Bool.false_eq_true])
  repeat (first|refine rA ?_|refine rB ?_|refine rC ?_|refine rD ?_|(refine rR ?_;simp only [tO, Nat.reduceAdd])|refine rE ?_|(refine rO goodFF rfl ?_;intro _ hu_ K_ hK_;go_simp;(try rw [wI _]);(try rw [wU _]);refine hK_ _ ?_;clear hK_ K_ hu_;simp only [sS, sN])|(refine rP rfl ?_;simp only [sS, sN]))
  refine reach_ret fun todo => ?_
  refine ret _ _ _ _ (.tuple #[.slice none 0 0, .slice none 0 0]) ?_ ⟨rfl, rfl, rfl⟩
  simp [results, Try.results20]
set_option maxRecDepth 100000 in
set_option maxHeartbeats 4000000 in
theorem rooms_r {S : Nat → Prop} {v : World} (BL ol len cl : Nat) (q : Nat → Option Addr) (ln cp : Nat → Nat) (y : Nat → Nat → Nat) (hlen : len < 5864062014805) (hln : ∀ i, i < len → ln i < 140737488355328) (hat : ∀ i, i < len → v.cell? ⟨BL, ol + i, none⟩ = some (.slice (q i) (ln i) (cp i))) (hsl : ∀ i, i < len → SliceE v (q i) (ln i) (cp i) (y i)) :
    CallsR Try.prog 20 #[.slice (some ⟨BL, ol, none⟩) len cl] S v fun x S' v' => S' = S ∧ ∃ RO capO wv pr cr MB, x = .tuple #[.slice (some ⟨RO, 0, none⟩) len capO, wv] ∧ Rooms v len q ln y RO capO wv pr cr MB v' := by
  obtain ⟨is, zs, is1, is2, is3, is4, is5⟩ := infoS
  obtain ⟨ib, zb, ib1, ib2, ib3, ib4, ib5⟩ := infoB2
  refine callsR_body Try.func20 rfl Try.ntmps20 (by simp) fun Stop cc cs ret => ?_
  have g0 : argF #[.slice (some ⟨BL, ol, none⟩) len cl] 0 = .slice (some ⟨BL, ol, none⟩) len cl := rfl
  generalize argF #[.slice (some ⟨BL, ol, none⟩) len cl] = f at g0
  repeat (first|refine rA ?_|refine rB ?_|refine rC ?_|refine rD ?_|(refine rR ?_;simp only [tO, Nat.reduceAdd])|refine rE ?_|(refine rO goodFF rfl ?_;intro _ hu_ K_ hK_;go_simp;(try rw [wI _]);(try rw [wU _]);refine hK_ _ ?_;clear hK_ K_ hu_;simp only [sS, sN])|(refine rP rfl ?_;simp only [sS, sN]))
  (refine reach_cond (t := false) (by simp [Act.eval]) ?_; simp only [if_true, if_false, reduceIte, Bool.false_eq_true])
  repeat (first|refine rA ?_|refine rB ?_|refine rC ?_|refine rD ?_|(refine rR ?_;simp only [tO, Nat.reduceAdd])|refine rE ?_|(refine rO goodFF rfl ?_;intro _ hu_ K_ hK_;go_simp;(try rw [wI _]);(try rw [wU _]);refine hK_ _ ?_;clear hK_ K_ hu_;simp only [sS, sN])|(refine rP rfl ?_;simp only [sS, sN]))
  refine reach_rounds (fun d f' S' w => ∃ k ov wv pr cr, d = len - k ∧ k ≤ len ∧ S' = S ∧ RmsI v q ln y k ov wv pr cr w ∧ f' 0 = .slice (some ⟨BL, ol, none⟩) len cl ∧ f' 4 = ov ∧ f' 5 = wv ∧ f' 6 = .int .i64 (k : Nat)) len ⟨0, _, _, _, _, by omega, by omega, rfl, RmsI.start v q ln y, by simp [g0], by simp, by simp, by simp⟩ ?_
  clear g0 f
  rintro d f S' w ⟨k, ov, wv, pr, cr, rfl, hk, eS, hI, g0, g4, g5, g6⟩ nxt
  subst S'
  repeat (first|refine rA ?_|refine rB ?_|refine rC ?_|refine rD ?_|(refine rR ?_;simp only [tO, Nat.reduceAdd])|refine rE ?_|(refine rO goodFF rfl ?_;intro _ hu_ K_ hK_;go_simp;(try rw [wI _]);(try rw [wU _]);refine hK_ _ ?_;clear hK_ K_ hu_;simp only [sS, sN])|(refine rP rfl ?_;simp only [sS, sN]))
  by_cases hlt : k < len
  · have hkI : (k : Int) < (len : Int) := by omega
    have hc1 := hI.ext.cell (hat k hlt)
    (refine reach_cond (t := true) (by simp [Act.eval, hlt]) ?_; simp only [if_true, if_false, reduceIte, Bool.false_eq_true])
    repeat (first|refine rA ?_|refine rB ?_|refine rC ?_|refine rD ?_|(refine rR ?_;simp only [tO, Nat.reduceAdd])|refine rE ?_|(refine rO goodFF rfl ?_;intro _ hu_ K_ hK_;(have hc := (Ext.twin hu_).cell hc1);go_simp;(try rw [wI _]);(try rw [wU _]);refine hK_ _ ?_;clear hK_ K_ hu_;simp only [sS, sN])|(refine rP rfl ?_;simp only [sS, sN]))
    (refine reach_callR rfl (by first | rfl | simp [Region.wanted, yielded, TA_get, *]) rfl Try.func12 (by kernel_rfl) rfl (by simp [Act.eval, *]; try rfl) (roomyV_r (q k) (ln k) (cp k) (y k) (hln k hlt) ((hsl k hlt).ext hI.ext)) ?_)
    rintro _ S1 w1 hvw ⟨e1, prk, crk, rfl, hE1, hR1, hpp⟩
    subst S1
    simp only [stO_some]
    repeat (first|refine rA ?_|refine rB ?_|refine rC ?_|refine rD ?_|(refine rR ?_;simp only [tO, Nat.reduceAdd])|refine rE ?_|(refine rO goodFF rfl ?_;intro _ hu_ K_ hK_;go_simp;(try rw [wI _]);(try rw [wU _]);refine hK_ _ ?_;clear hK_ K_ hu_;simp only [sS, sN])|(refine rP rfl ?_;simp only [sS, sN]))
    refine reach_turnQ (Q := fun x w2 => x = .slice (some ⟨w1.heap.size, 0, none⟩) 1 1 ∧ Ext w1 w2 ∧ w2.heap[w1.heap.size]? = some (.cells #[.slice prk (ln k) crk] 25)) goodFF rfl rfl (by kernel_rfl) (fun u hu => ⟨_, _, .inl (run_build1 (x := .tmp 22) (y := .slice prk (ln k) crk) rfl Try.underlying34 is1 is2 is3 is5 (by simp) rfl u), by rw [hu.heap], (Ext.twin hu).trans _ _ _ (Ext.alloc _ _), by rw [← hu.heap]; exact alloc_at _ _⟩) ?_
    rintro _ w2 ⟨rfl, hE2, hr2⟩
    simp only [stO_some]
    have hE12 := hE1.trans _ _ _ hE2
    have g12 : Gr w w2 none := ⟨hE12.os, hE12.output, hE12.size, fun b hb _ => hE12.block b hb⟩
    have hv2 : v.heap.size ≤ w2.heap.size := Nat.le_trans hI.ext.size hE12.size
    refine reach_turnQ goodFF rfl rfl (by kernel_rfl) (fun u hu => append_does2 (s := .tmp 21) (x := .tmp 23) (ad := ⟨w1.heap.size, 0, none⟩) (m := 1) (c := 1) (news := [.slice prk (ln k) crk]) hu v.heap.size Try.underlying34 is1 is2 is3 is4 (by rw [is5]; rfl) (own_gr hI.out g12 (by simp)) rfl (by omega) (one_cellB hr2) (fun y hy => by rw [List.mem_singleton] at hy; subst hy; rfl) (by unfold maxLen; omega) (by omega) hv2 rfl (by simp [g4]) (by simp)) ?_
    rintro ov' w3 ⟨ho3, hg3, hb3⟩
    simp only [stO_some]
    repeat (first|refine rA ?_|refine rB ?_|refine rC ?_|refine rD ?_|(refine rR ?_;simp only [tO, Nat.reduceAdd])|refine rE ?_|(refine rO goodFF rfl ?_;intro _ hu_ K_ hK_;go_simp;(try rw [wI _]);(try rw [wU _]);refine hK_ _ ?_;clear hK_ K_ hu_;simp only [sS, sN])|(refine rP rfl ?_;simp only [sS, sN]))
    refine reach_turnQ (Q := fun x w4 => x = .slice (some ⟨w3.heap.size, 0, none⟩) 1 1 ∧ Ext w3 w4 ∧ w4.heap[w3.heap.size]? = some (.cells #[.slice prk (ln k) crk] 25)) goodFF rfl rfl (by kernel_rfl) (fun u hu => ⟨_, _, .inl (run_build1 (x := .tmp 26) (y := .slice prk (ln k) crk) rfl Try.underlying34 is1 is2 is3 is5 (by simp) rfl u), by rw [hu.heap], (Ext.twin hu).trans _ _ _ (Ext.alloc _ _), by rw [← hu.heap]; exact alloc_at _ _⟩) ?_
    rintro _ w4 ⟨rfl, hE4, hr4⟩
    simp only [stO_some]
    have g34 : Gr w3 w4 none := ⟨hE4.os, hE4.output, hE4.size, fun b hb _ => hE4.block b hb⟩
    have p3 := own_gr (own_gr hI.own g12 (by simp)) hg3 fun b hb e => hI.apart b e.symm hb
    refine reach_turnQ goodFF rfl rfl (by kernel_rfl) (fun u hu => append_does2 (s := .tmp 25) (x := .tmp 27) (ad := ⟨w3.heap.size, 0, none⟩) (m := 1) (c := 1) (news := [.slice prk (ln k) crk]) hu v.heap.size Try.underlying34 is1 is2 is3 is4 (by rw [is5]; rfl) (own_gr p3 g34 (by simp)) rfl (by omega) (one_cellB hr4) (fun y hy => by rw [List.mem_singleton] at hy; subst hy; rfl) (by unfold maxLen; omega) (by omega) (Nat.le_trans hv2 (Nat.le_trans hg3.size hE4.size)) rfl (by simp [g5]) (by simp)) ?_
    rintro wv' w5 ⟨ho5, hg5, hb5⟩
    simp only [stO_some]
    repeat (first|refine rA ?_|refine rB ?_|refine rC ?_|refine rD ?_|(refine rR ?_;simp only [tO, Nat.reduceAdd])|refine rE ?_|(refine rO goodFF rfl ?_;intro _ hu_ K_ hK_;go_simp;(try rw [wI _]);(try rw [wU _]);refine hK_ _ ?_;clear hK_ K_ hu_;simp only [sS, sN])|(refine rP rfl ?_;simp only [sS, sN]))
    refine nxt _ _ _ (len - (k + 1)) (by omega) ⟨k + 1, ov', wv', _, _, rfl, by omega, rfl, hI.add hE1 hR1 hpp hE2 hg3 ho3 hb3 hE4 hg5 ho5 hb5, by simp [g0], by simp, by simp, by simp⟩
  · obtain rfl : k = len := by omega
    (refine reach_cond (t := false) (by simp [Act.eval]) ?_; simp only [if_true, if_false, reduceIte, Bool.false_eq_true])
    refine reach_exit rfl ?_
    repeat (first|refine rA ?_|refine rB ?_|refine rC ?_|refine rD ?_|(refine rR ?_;simp only [tO, Nat.reduceAdd])|refine rE ?_|(refine rO goodFF rfl ?_;intro _ hu_ K_ hK_;go_simp;(try rw [wI _]);(try rw [wU _]);refine hK_ _ ?_;clear hK_ K_ hu_;simp only [sS, sN])|(refine rP rfl ?_;simp only [sS, sN]))
    refine reach_turnQ (Q := fun x w1 => x = .slice (some ⟨w.heap.size, 0, none⟩) 4 4 ∧ Ext w w1 ∧ w1.heap[w.heap.size]? = some (.cells #[.int .u8 109, .int .u8 105, .int .u8 110, .int .u8 101] 5)) goodFF rfl rfl (by kernel_rfl) (fun u hu => ⟨_, _, .inl (run_build4 (x0 := .const (.int .u8 109)) (x1 := .const (.int .u8 105)) (x2 := .const (.int .u8 110)) (x3 := .const (.int .u8 101)) (y0 := .int .u8 109) (y1 := .int .u8 105) (y2 := .int .u8 110) (y3 := .int .u8 101) rfl Try.underlying25 ib1 ib2 ib3 ib5 rfl rfl rfl rfl rfl rfl rfl rfl u), by rw [hu.heap], (Ext.twin hu).trans _ _ _ (Ext.alloc _ _), by rw [← hu.heap]; exact alloc_at _ _⟩) ?_
    rintro _ w0 ⟨rfl, hE0, hr0⟩
    simp only [stO_some]
    refine reach_mark rfl rfl rfl Try.underlying25 Try.underlying5 (g := w.heap.size) (o' := 0) (m := 4) (c := 4) (by simp) hr0 fun w1 fr1 hW1 => ?_
    simp only [stO_some]
    have hE1 : Ext w w1 := wr_extR hE0 (Nat.le_refl _) hW1
    have hr1 := hW1.at_
    repeat (first|refine rA ?_|refine rB ?_|refine rC ?_|refine rD ?_|(refine rR ?_;simp only [tO, Nat.reduceAdd])|refine rE ?_|(refine rO goodFF rfl ?_;intro _ hu_ K_ hK_;go_simp;(try rw [wI _]);(try rw [wU _]);refine hK_ _ ?_;clear hK_ K_ hu_;simp only [sS, sN])|(refine rP rfl ?_;simp only [sS, sN]))
    refine reach_turnQ (Q := fun x w2 => x = .slice (some ⟨w1.heap.size, 0, none⟩) 1 1 ∧ Ext w1 w2 ∧ w2.heap[w1.heap.size]? = some (.cells #[.slice (some ⟨w.heap.size, 0, none⟩) 4 4] 25)) goodFF rfl rfl (by kernel_rfl) (fun u hu => ⟨_, _, .inl (run_build1 (x := .tmp 31) (y := .slice (some ⟨w.heap.size, 0, none⟩) 4 4) rfl Try.underlying34 is1 is2 is3 is5 (by simp) rfl u), by rw [hu.heap], (Ext.twin hu).trans _ _ _ (Ext.alloc _ _), by rw [← hu.heap]; exact alloc_at _ _⟩) ?_
    rintro _ w2 ⟨rfl, hE2, hr2⟩
    simp only [stO_some]
    have hE12 := hE1.trans _ _ _ hE2
    have g12 : Gr w w2 none := ⟨hE12.os, hE12.output, hE12.size, fun b hb _ => hE12.block b hb⟩
    have hv2 : v.heap.size ≤ w2.heap.size := Nat.le_trans hI.ext.size hE12.size
    have o2 := own_gr hI.out g12 (by simp)
    have p2 := own_gr hI.own g12 (by simp)
    refine reach_turnQ goodFF rfl rfl (by kernel_rfl) (fun u hu => append_does2 (s := .tmp 29) (x := .tmp 32) (ad := ⟨w1.heap.size, 0, none⟩) (m := 1) (c := 1) (news := [.slice (some ⟨w.heap.size, 0, none⟩) 4 4]) hu v.heap.size Try.underlying34 is1 is2 is3 is4 (by rw [is5]; rfl) o2 rfl (by omega) (one_cellB hr2) (fun y hy => by rw [List.mem_singleton] at hy; subst hy; rfl) (by unfold maxLen; omega) (by omega) hv2 rfl (by simp [g4]) (by simp)) ?_
    rintro ov' w3 ⟨ho3, hg3, hb3⟩
    obtain ⟨RO, capO, cur, q1, q2, q3, q4, q5, q6⟩ := own_some ho3 (.inl (by omega))
    subst q1
    have hcI : (k : Int) ≤ (capO : Int) := by omega
    simp only [stO_some]
    repeat (first|refine rA ?_|refine rB ?_|refine rC ?_|refine rD ?_|(refine rR ?_;simp only [tO, Nat.reduceAdd])|refine rE ?_|(refine rO goodFF rfl ?_;intro _ hu_ K_ hK_;go_simp;(try rw [wI _]);(try rw [wU _]);refine hK_ _ ?_;clear hK_ K_ hu_;simp only [sS, sN])|(refine rP rfl ?_;simp only [sS, sN]))
    refine reach_ret fun todo => ?_
    have hMw := hE2.row hr1
    have hMne : some w.heap.size ≠ ov.ownBlock := fun e => by
      obtain ⟨c', hc'⟩ := own_type o2 e.symm
      rw [hMw] at hc'
      simp at hc'
    refine ret _ _ S w3 (.tuple #[.slice (some ⟨RO, 0, none⟩) k capO, wv]) ?_ ⟨rfl, RO, capO, wv, pr, cr, w.heap.size, rfl, Gr.over (hI.ext.trans _ _ _ hE12) hg3 fun b hb => own_base o2 hb, q2, ⟨cur, q3, q5, by omega, fun i hi => ?_, ?_⟩, ⟨fr1, hg3.row hMw hMne⟩, hI.ext.size, own_gr p2 hg3 fun b hb e => hI.apart b e.symm hb, fun e => ?_, fun i hi => ?_⟩
    · simp [results, Try.results20, g5]
    · rw [q6 i (by omega), List.getElem?_append_left (by simpa using hi)]
      simp [hi]
    · rw [q6 k (by omega), List.getElem?_append_right (by simp)]
      simp
    · rcases hb3 RO rfl with r | r
      · exact hI.apart RO r e
      · have := (p2.lt RO e).2
        omega
    · obtain ⟨r1, r2⟩ := hI.el i hi
      exact ⟨(r1.ext hE12).gr o2 hg3, r2⟩
end Go.Proofs.Ytpiefebngnlfoaa

/-
  mosaiclaw.spoil.
-/
set_option linter.unusedVariables false
set_option linter.unusedSimpArgs false
namespace Go.Proofs.Ytpiefebngnlfoaa
open Go.RowKit Go.Conc Go.Vw

/-- What spoiling leaves: all below N, other lists; rows of bytes keep their sizes. -/
structure SpF (N RL : Nat) (w w' : World) : Prop where
  size : w'.heap.size = w.heap.size
  os : w'.os = w.os
  output : w'.output = w.output
  low : ∀ b : Nat, b < N → w'.heap[b]? = w.heap[b]?
  lists : ∀ (b : Nat) (cur : Array Value), b ≠ RL → w.heap[b]? = some (.cells cur 25) → w'.heap[b]? = some (.cells cur 25)
  rows : ∀ (b : Nat) (cur : Array Value), w.heap[b]? = some (.cells cur 5) → ∃ cur' : Array Value, w'.heap[b]? = some (.cells cur' 5) ∧ cur'.size = cur.size
theorem SpF.refl (N RL : Nat) (w : World) : SpF N RL w w := ⟨rfl, rfl, rfl, fun _ _ => rfl, fun _ _ _ h => h, fun _ cur h => ⟨cur, h, rfl⟩⟩
theorem SpF.trans {N RL : Nat} {a b c : World} (h : SpF N RL a b) (k : SpF N RL b c) : SpF N RL a c :=
  ⟨k.size.trans h.size, k.os.trans h.os, k.output.trans h.output, fun x hx => (k.low x hx).trans (h.low x hx), fun x cur hn hx => k.lists x cur hn (h.lists x cur hn hx), fun x cur hx => by
    obtain ⟨c1, q1, q2⟩ := h.rows x cur hx
    obtain ⟨c2, r1, r2⟩ := k.rows x c1 q1
    exact ⟨c2, r1, r2.trans q2⟩⟩
theorem SpF.byte {N RL B : Nat} {w w' : World} {cur cur' : Array Value} (hN : N ≤ B) (hr : w.heap[B]? = some (.cells cur 5)) (hs : cur'.size = cur.size) (hW : Wr w B (.cells cur' 5) w') : SpF N RL w w' :=
  ⟨hW.size, hW.os, hW.output, fun b hb => hW.other b (by omega), fun b c _ hb => by
    rw [hW.other b]
    · exact hb
    · rintro rfl
      rw [hr] at hb
      simp at hb, fun b c hb => by
    by_cases e : b = B
    · subst e
      rw [hr] at hb
      cases hb
      exact ⟨_, hW.at_, hs⟩
    · exact ⟨c, (hW.other b e).trans hb, rfl⟩⟩
theorem SpF.list {N RL : Nat} {w w' : World} {cur cur' : Array Value} (hN : N ≤ RL) (hr : w.heap[RL]? = some (.cells cur 25)) (hW : Wr w RL (.cells cur' 25) w') : SpF N RL w w' :=
  ⟨hW.size, hW.os, hW.output, fun b hb => hW.other b (by omega), fun b c hn hb => (hW.other b hn).trans hb, fun b c hb => by
    refine ⟨c, (hW.other b ?_).trans hb, rfl⟩
    rintro rfl
    rw [hr] at hb
    simp at hb⟩
/-- A slice of the list: nothing, or a row of bytes of the law's own. -/
def SpEl (N : Nat) (O : Nat → Prop) (w : World) (p : Option Addr) (n : Nat) : Prop := (p = none ∧ n = 0) ∨ ∃ RB cur, p = some ⟨RB, 0, none⟩ ∧ N ≤ RB ∧ w.heap[RB]? = some (.cells cur 5) ∧ n ≤ cur.size ∧ ¬ O RB
theorem SpEl.keep {N RL : Nat} {O : Nat → Prop} {w w' : World} {p : Option Addr} {n : Nat} (h : SpEl N O w p n) (hf : SpF N RL w w') : SpEl N O w' p n :=
  h.imp id fun ⟨RB, cur, q1, q2, q3, q4, q5⟩ => let ⟨cur', r1, r2⟩ := hf.rows RB cur q3; ⟨RB, cur', q1, q2, r1, by omega, q5⟩
set_option maxRecDepth 100000 in
set_option maxHeartbeats 4000000 in
theorem spoil_r {S : Nat → Prop} {v : World} (N OB nb nl RL n cap : Nat) (O : Nat → Prop) (bv lv : Value) (p : Option Addr) (pr : Nat → Option Addr) (ln cr : Nat → Nat) (hn : n < 2 ^ 62) (hln : ∀ i, i < n → ln i < 2 ^ 62) (hB : Book N OB O nb nl bv lv v) (hl : (p = none ∧ n = 0) ∨ (p = some ⟨RL, 0, none⟩ ∧ N ≤ RL ∧ ¬ O RL ∧ ∃ cur, v.heap[RL]? = some (.cells cur 25) ∧ n ≤ cur.size ∧ ∀ i, i < n → cur[i]? = some (.slice (pr i) (ln i) (cr i)))) (hel : ∀ i, i < n → SpEl N O v (pr i) (ln i)) :
    CallsR Try.prog 24 #[.slice p n cap] S v fun x S' v' => x = .tuple #[] ∧ S' = S ∧ SpF N RL v v' ∧ Book N OB O nb nl bv lv v' := by
  refine callsR_body Try.func24 rfl Try.ntmps24 (by simp) fun Stop cc cs ret => ?_
  have g0 : argF #[.slice p n cap] 0 = .slice p n cap := rfl
  generalize argF #[.slice p n cap] = f at g0
  repeat (first|refine rA ?_|refine rB ?_|refine rC ?_|refine rD ?_|(refine rR ?_;simp only [tO, Nat.reduceAdd])|refine rE ?_|(refine rO goodFF rfl ?_;intro _ hu_ K_ hK_;go_simp;(try rw [wI _]);(try rw [wU _]);refine hK_ _ ?_;clear hK_ K_ hu_;simp only [sS, sN])|(refine rP rfl ?_;simp only [sS, sN]))
  refine reach_rounds (fun d f' S' w => ∃ k, d = n - k ∧ k ≤ n ∧ S' = S ∧ (SpF N RL v w ∧ Book N OB O nb nl bv lv w ∧ ((p = none ∧ n = 0) ∨ (p = some ⟨RL, 0, none⟩ ∧ N ≤ RL ∧ ¬ O RL ∧ ∃ cur, w.heap[RL]? = some (.cells cur 25) ∧ n ≤ cur.size ∧ ∀ i, k ≤ i → i < n → cur[i]? = some (.slice (pr i) (ln i) (cr i))))) ∧ f' 0 = .slice p n cap ∧ f' 2 = .int .i64 (k : Nat)) n ⟨0, by omega, by omega, rfl, ⟨.refl _ _ _, hB, hl.imp id fun ⟨q1, q2, q3, cur, q4, q5, q6⟩ => ⟨q1, q2, q3, cur, q4, q5, fun i _ hi => q6 i hi⟩⟩, by simp [g0], by simp⟩ ?_
  clear hl g0 f
  rintro d f S' w ⟨k, rfl, hk, eS, ⟨hF, hBw, hlw⟩, g0, g2⟩ nxt
  subst S'
  repeat (first|refine rA ?_|refine rB ?_|refine rC ?_|refine rD ?_|(refine rR ?_;simp only [tO, Nat.reduceAdd])|refine rE ?_|(refine rO goodFF rfl ?_;intro _ hu_ K_ hK_;go_simp;(try rw [wI _]);(try rw [wU _]);refine hK_ _ ?_;clear hK_ K_ hu_;simp only [sS, sN])|(refine rP rfl ?_;simp only [sS, sN]))
  by_cases hlt : k < n
  · have hkI : (k : Int) < (n : Int) := by omega
    obtain ⟨rfl, q2, q3, cur, q4, q5, q6⟩ : p = some ⟨RL, 0, none⟩ ∧ N ≤ RL ∧ ¬ O RL ∧ ∃ cur, w.heap[RL]? = some (.cells cur 25) ∧ n ≤ cur.size ∧ ∀ i, k ≤ i → i < n → cur[i]? = some (.slice (pr i) (ln i) (cr i)) := by
      rcases hlw with ⟨_, h⟩ | h
      · omega
      · exact h
    have hlk := hln k hlt
    (refine reach_cond (t := true) (by simp [Act.eval, hlt]) ?_; simp only [if_true, if_false, reduceIte, Bool.false_eq_true])
    repeat (first|refine rA ?_|refine rB ?_|refine rC ?_|refine rD ?_|(refine rR ?_;simp only [tO, Nat.reduceAdd])|refine rE ?_|(refine rO goodFF rfl ?_;intro _ hu_ K_ hK_;go_simp;(try rw [wI _]);(try rw [wU _]);refine hK_ _ ?_;clear hK_ K_ hu_;simp only [sS, sN])|(refine rP rfl ?_;simp only [sS, sN]))
    refine reach_rounds (fun d f' S' w' => ∃ j, d = ln k - j ∧ j ≤ ln k ∧ S' = S ∧ (SpF N RL v w' ∧ Book N OB O nb nl bv lv w' ∧ w'.heap[RL]? = some (.cells cur 25)) ∧ f' 0 = .slice (some ⟨RL, 0, none⟩) n cap ∧ f' 2 = .int .i64 (k : Nat) ∧ f' 3 = .int .i64 (j : Nat)) (ln k) ⟨0, by omega, by omega, rfl, ⟨hF, hBw, q4⟩, by simp [g0], by simp [g2], by simp⟩ ?_
    clear hF hBw hlw q4 g0 g2 f
    rintro d f S' w1 ⟨j, rfl, hj, eS, ⟨hF, hBw, q4⟩, g0, g2, g3⟩ nxt2
    subst S'
    have hc1 : w1.cell? ⟨RL, k, none⟩ = some (.slice (pr k) (ln k) (cr k)) := (cell_of_row _ RL k _ _ _ q4).trans (q6 k (Nat.le_refl _) hlt)
    repeat (first|refine rA ?_|refine rB ?_|refine rC ?_|refine rD ?_|(refine rR ?_;simp only [tO, Nat.reduceAdd])|refine rE ?_|(refine rO goodFF rfl ?_;intro _ hu_ K_ hK_;(have hc := (Ext.twin hu_).cell hc1);go_simp;(try rw [wI _]);(try rw [wU _]);refine hK_ _ ?_;clear hK_ K_ hu_;simp only [sS, sN])|(refine rP rfl ?_;simp only [sS, sN]))
    by_cases hlj : j < ln k
    · have hjI : (j : Int) < ((ln k : Nat) : Int) := by omega
      obtain ⟨RB, curB, r1, r2, r3, r4, r5⟩ : ∃ RB curB, pr k = some ⟨RB, 0, none⟩ ∧ N ≤ RB ∧ w1.heap[RB]? = some (.cells curB 5) ∧ ln k ≤ curB.size ∧ ¬ O RB := by
        rcases (hel k hlt).keep hF with ⟨_, h⟩ | h
        · omega
        · exact h
      rw [r1] at hc1
      (refine reach_cond (t := true) (by simp [Act.eval, hlj]) ?_; simp only [if_true, if_false, reduceIte, Bool.false_eq_true])
      repeat (first|refine rA ?_|refine rB ?_|refine rC ?_|refine rD ?_|(refine rR ?_;simp only [tO, Nat.reduceAdd])|refine rE ?_|(refine rO goodFF rfl ?_;intro _ hu_ K_ hK_;(have hc := (Ext.twin hu_).cell hc1);go_simp;(try rw [wI _]);(try rw [wU _]);refine hK_ _ ?_;clear hK_ K_ hu_;simp only [sS, sN])|(refine rP rfl ?_;simp only [sS, sN]))
      refine reach_store1 goodFF rfl rfl (by kernel_rfl) (x := .tmp 24) (y := .const (.int .u8 99)) (g := RB) (j := j) (z := .int .u8 99) rfl (by simp) rfl rfl rfl r3 (by omega) (by kernel_rfl) fun w2 hW => ?_
      simp only [stO_none]
      repeat (first|refine rA ?_|refine rB ?_|refine rC ?_|refine rD ?_|(refine rR ?_;simp only [tO, Nat.reduceAdd])|refine rE ?_|(refine rO goodFF rfl ?_;intro _ hu_ K_ hK_;go_simp;(try rw [wI _]);(try rw [wU _]);refine hK_ _ ?_;clear hK_ K_ hu_;simp only [sS, sN])|(refine rP rfl ?_;simp only [sS, sN]))
      refine nxt2 _ _ _ (ln k - (j + 1)) (by omega) ⟨j + 1, rfl, by omega, rfl, ⟨hF.trans (.byte r2 r3 (by simp) hW), hBw.wr r3 (.inl rfl) r5 hW, ?_⟩, by simp [g0], by simp [g2], by simp⟩
      rw [hW.other RL]
      · exact q4
      · rintro rfl
        rw [q4] at r3
        simp at r3
    · obtain rfl : j = ln k := by omega
      (refine reach_cond (t := false) (by simp [Act.eval]) ?_; simp only [if_true, if_false, reduceIte, Bool.false_eq_true])
      refine reach_exit rfl ?_
      repeat (first|refine rA ?_|refine rB ?_|refine rC ?_|refine rD ?_|(refine rR ?_;simp only [tO, Nat.reduceAdd])|refine rE ?_|(refine rO goodFF rfl ?_;intro _ hu_ K_ hK_;go_simp;(try rw [wI _]);(try rw [wU _]);refine hK_ _ ?_;clear hK_ K_ hu_;simp only [sS, sN])|(refine rP rfl ?_;simp only [sS, sN]))
      refine reach_store1 goodFF rfl rfl (by kernel_rfl) (x := .tmp 27) (y := .const (.slice none 0 0)) (g := RL) (j := k) (z := .slice none 0 0) rfl (by simp) rfl rfl rfl q4 (by omega) (by kernel_rfl) fun w2 hW => ?_
      simp only [stO_none]
      repeat (first|refine rA ?_|refine rB ?_|refine rC ?_|refine rD ?_|(refine rR ?_;simp only [tO, Nat.reduceAdd])|refine rE ?_|(refine rO goodFF rfl ?_;intro _ hu_ K_ hK_;go_simp;(try rw [wI _]);(try rw [wU _]);refine hK_ _ ?_;clear hK_ K_ hu_;simp only [sS, sN])|(refine rP rfl ?_;simp only [sS, sN]))
      refine nxt _ _ _ (n - (k + 1)) (by omega) ⟨k + 1, rfl, by omega, rfl, ⟨hF.trans (.list q2 q4 hW), hBw.wr q4 (.inr rfl) q3 hW, .inr ⟨rfl, q2, q3, _, hW.at_, by simpa using q5, fun i h1 h2 => ?_⟩⟩, by simp [g0], by simp⟩
      rw [Array.getElem?_setIfInBounds_ne (by omega)]
      exact q6 i (by omega) h2
  · obtain rfl : k = n := by omega
    (refine reach_cond (t := false) (by simp [Act.eval]) ?_; simp only [if_true, if_false, reduceIte, Bool.false_eq_true])
    refine reach_exit rfl ?_
    refine reach_end ?_
    refine ret _ _ S w (.tuple #[]) ?_ ⟨rfl, rfl, hF, hBw⟩
    simp [results, Try.results24]
end Go.Proofs.Ytpiefebngnlfoaa
