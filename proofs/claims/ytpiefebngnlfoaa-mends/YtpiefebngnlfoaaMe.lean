/-
  mosaiclaw.Mends: what its round calls, for every list.
-/
import Derived.Test.YtpiefebngnlfoaaMd
import Derived.Test.YtpiefebngnlfoaaMb
import Derived.Test.YtpiefebngnlfoaaLn
import Derived.Test.YtpiefebngnlfoaaLe
import Derived.Test.YtpiefebngnlfoaaRows
import Derived.Conc.LeavingOf
import Derived.Carry
import Derived.ChangeSlices
import Derived.WalkKit
import Derived.ProofKit
import Derived.OpenShut
import Derived.SizedLaws
import Derived.Deep.Matrix
set_option linter.unusedVariables false
set_option linter.unusedSimpArgs false
namespace Go.Proofs.Ytpiefebngnlfoaa
open Go.RowKit Go.Conc Go.Vw

theorem anyB_congr {q q' : Nat → Option Addr} (i : Nat) (h : ∀ k, k < i → (q k).isSome = (q' k).isSome) : anyB q i = anyB q' i := by
  induction i with
  | zero => rfl
  | succ i ih => rw [anyB_succ, anyB_succ, ih fun k hk => h k (by omega), h i (by omega)]
theorem lastL_congr {q q' : Nat → Option Addr} {ln : Nat → Nat} (i : Nat) (h : ∀ k, k < i → (q k).isSome = (q' k).isSome) : lastL q ln i = lastL q' ln i := by
  induction i with
  | zero => rfl
  | succ i ih =>
    unfold lastL
    rw [ih fun k hk => h k (by omega), h i (by omega)]
theorem okL_congr {q q' : Nat → Option Addr} {ln : Nat → Nat} (i : Nat) (h : ∀ k, k < i → (q k).isSome = (q' k).isSome) : okL q ln i = okL q' ln i := by
  induction i with
  | zero => rfl
  | succ i ih =>
    unfold okL
    rw [ih fun k hk => h k (by omega), h i (by omega), anyB_congr i fun k hk => h k (by omega), lastL_congr i fun k hk => h k (by omega)]
theorem ftC_congr {q q' : Nat → Option Addr} (i : Nat) (h : ∀ k, k < i → (q k).isSome = (q' k).isSome) : ftC q i = ftC q' i := by
  induction i with
  | zero => rfl
  | succ i ih =>
    unfold ftC
    rw [ih fun k hk => h k (by omega), h i (by omega)]
theorem cntR_congr {q q' : Nat → Option Addr} (i : Nat) (h : ∀ k, k < i → (q k).isSome = (q' k).isSome) : cntR q i = cntR q' i := by
  induction i with
  | zero => rfl
  | succ i ih =>
    unfold cntR
    rw [ih fun k hk => h k (by omega), h i (by omega)]
/-- What the first ten settle is what the reference says. -/
theorem mend_ref {kn : Nat → Nat} (hk : ∀ i, i < 10 → kn i < 14) (hinj : ∀ i j, i < 10 → j < 10 → kn i = kn j → i = j) {y : Nat → Nat → Nat} (hy : ∀ k i, y k i < 256) (k i : Nat) : mendOf kn y k i = Fld.comb (Fld.wgt kn k) (fun j => y (kn j)) 10 i := by
  unfold mendOf
  cases hl : lackB kn k with
  | true => simp [pieceOf]
  | false =>
    obtain ⟨m, hm, e⟩ : ∃ m, m < 10 ∧ kn m = k := by
      refine Classical.byContradiction fun hn => ?_
      have : lackB kn k = true := lackB_iff.2 fun m hm e => hn ⟨m, hm, e⟩
      rw [hl] at this
      cases this
    simp only [Bool.false_eq_true, if_false]
    rw [← e]
    exact (Fld.comb_at (fun i hi => by have := hk i hi; omega) hinj (x := fun j => y (kn j)) (fun j => hy _ _) hm).symm
set_option maxRecDepth 100000 in
theorem rmendLen_r {S : Nat → Prop} {v : World} (p : Option Addr) (len cap : Nat) (hl : len ≠ 14) :
    CallsR Try.prog 22 #[.slice p len cap] S v fun x S' v' => x = .tuple #[.slice none 0 0, .int .i64 1] ∧ S' = S ∧ v' = v := by
  refine callsR_body Try.func22 rfl Try.ntmps22 (by simp) fun Stop cc cs ret => ?_
  have g0 : argF #[.slice p len cap] 0 = .slice p len cap := rfl
  generalize argF #[.slice p len cap] = f at g0
  have hI : ¬ (len : Int) = 14 := by omega
  repeat (first|refine rA ?_|refine rB ?_|refine rC ?_|refine rD ?_|(refine rR ?_;simp only [tO, Nat.reduceAdd])|refine rE ?_|(refine rO goodFF rfl ?_;intro _ hu_ K_ hK_;go_simp;(try rw [wI _]);(try rw [wU _]);refine hK_ _ ?_;clear hK_ K_ hu_;simp only [sS, sN])|(refine rP rfl ?_;simp only [sS, sN]))
  (refine reach_cond (t := true) (by simp [Act.eval, hI, hl, g0]) ?_; simp only [if_true, if_false, reduceIte, Bool.false_eq_true])
  repeat (first|refine rA ?_|refine rB ?_|refine rC ?_|refine rD ?_|(refine rR ?_;simp only [tO, Nat.reduceAdd])|refine rE ?_|(refine rO goodFF rfl ?_;intro _ hu_ K_ hK_;go_simp;(try rw [wI _]);(try rw [wU _]);refine hK_ _ ?_;clear hK_ K_ hu_;simp only [sS, sN])|(refine rP rfl ?_;simp only [sS, sN]))
  refine reach_ret fun todo => ?_
  refine ret _ _ _ _ (.tuple #[.slice none 0 0, .int .i64 1]) ?_ ⟨rfl, rfl, rfl⟩
  simp [results, Try.results22]
/-- A list of fourteen may be mended, or not: 1, 2 is the error. -/
def mendErr (q : Nat → Option Addr) (ln : Nat → Nat) : Nat := if okL q ln 14 = true ∧ (anyB q 14 = true → lastL q ln 14 ≤ 400) then (if cntR q 14 < 10 then 2 else 0) else 1
theorem lastL_none {q : Nat → Option Addr} {ln : Nat → Nat} (i : Nat) (h : anyB q i = false) : lastL q ln i = 0 := by
  induction i with
  | zero => rfl
  | succ i ih =>
    rw [anyB_succ, Bool.or_eq_false_iff] at h
    unfold lastL
    rw [h.2]
    exact ih h.1
theorem pmendV_r {S : Nat → Prop} {v : World} (BL ol cl : Nat) (q : Nat → Option Addr) (ln cp : Nat → Nat) (y : Nat → Nat → Nat) (hy : ∀ k i, y k i < 256) (hP : PL v BL ol q ln cp y) (hg : Try.prog.globals.size ≤ v.heap.size) :
    CallsR Try.prog 38 #[.slice (some ⟨BL, ol, none⟩) 14 cl] S v fun x S' v' => ∃ pl k BA PB, x = .tuple #[.slice pl k k, .int .i64 ((mendErr q ln : Nat) : Int)] ∧ Kp v (fun _ => False) v' ∧ ((mendErr q ln ≠ 0 ∧ pl = none ∧ k = 0) ∨ (mendErr q ln = 0 ∧ pl = some ⟨BA, 0, none⟩ ∧ k = 14 ∧ Pieces v BA PB (lastL q ln 14) (mendOf (ftC q 14).2 y) v')) := by
  by_cases hbad : okL q ln 14 = true ∧ (anyB q 14 = true → lastL q ln 14 ≤ 400)
  · have hm : lastL q ln 14 ≤ 400 := by
      cases ha : anyB q 14 with
      | true => exact hbad.2 ha
      | false => rw [lastL_none 14 ha]; omega
    by_cases hc : cntR q 14 < 10
    · have he : mendErr q ln = 2 := by rw [mendErr, if_pos hbad, if_pos hc]
      have hne : (ftC q 14).1 ≠ 10 := by rw [ftC_cntR]; omega
      rw [he]
      exact ((mendFew_r BL ol cl q ln cp y hP hbad.1 hm hne).mono fun x S' v' _ ⟨e1, e2, e3⟩ => ⟨none, 0, 0, fun _ => 0, e1, kp_ext e3, .inl ⟨by omega, rfl, rfl⟩⟩)
    · have he : mendErr q ln = 0 := by rw [mendErr, if_pos hbad, if_neg hc]
      have h10 : (ftC q 14).1 = 10 := by rw [ftC_cntR]; omega
      rw [he]
      exact ((mend_r BL ol cl (lastL q ln 14) q ln cp y hP (fun k hk hs => okL_all 14 hbad.1 k hk hs) hm h10 hy hg).mono fun x S' v' _ ⟨BA, PB, e1, hp⟩ => ⟨some ⟨BA, 0, none⟩, 14, BA, PB, e1, hp.kp, .inr ⟨rfl, rfl, rfl, hp⟩⟩)
  · have he : mendErr q ln = 1 := by rw [mendErr, if_neg hbad]
    rw [he]
    refine ((mendBad_r BL ol cl q ln cp y hP fun hok => ?_).mono fun x S' v' _ ⟨e1, e2, e3⟩ => ⟨none, 0, 0, fun _ => 0, e1, by rw [e3]; exact .refl _ _, .inl ⟨by omega, rfl, rfl⟩⟩)
    refine Nat.lt_of_not_le fun hle => hbad ⟨hok, fun _ => hle⟩
theorem mendV_r {S : Nat → Prop} {v : World} (BL ol cl : Nat) (q : Nat → Option Addr) (ln cp : Nat → Nat) (y : Nat → Nat → Nat) (hy : ∀ k i, y k i < 256) (hP : PL v BL ol q ln cp y) (hg : Try.prog.globals.size ≤ v.heap.size) :
    CallsR Try.prog 21 #[.slice (some ⟨BL, ol, none⟩) 14 cl] S v fun x S' v' => ∃ pl k BA PB, x = .tuple #[.slice pl k k, .int .i64 ((mendErr q ln : Nat) : Int)] ∧ Kp v (fun _ => False) v' ∧ ((mendErr q ln ≠ 0 ∧ pl = none ∧ k = 0) ∨ (mendErr q ln = 0 ∧ pl = some ⟨BA, 0, none⟩ ∧ k = 14 ∧ Pieces v BA PB (lastL q ln 14) (mendOf (ftC q 14).2 y) v')) :=
  mmend_of ((pmendV_r BL ol cl q ln cp y hy hP hg).mono fun x S' v' _ h => by
    obtain ⟨pl, k, BA, PB, e1, h2⟩ := h
    exact ⟨_, _, e1, pl, k, BA, PB, e1, h2⟩)
end Go.Proofs.Ytpiefebngnlfoaa

/-
  mosaiclaw.Mends: what its round calls, for every list.
-/
set_option linter.unusedVariables false
set_option linter.unusedSimpArgs false
namespace Go.Proofs.Ytpiefebngnlfoaa
open Go.RowKit Go.Conc Go.Vw

/-- A list that is handed in. -/
def ListV (v : World) (p : Option Addr) (n c : Nat) (q : Nat → Option Addr) (ln cp : Nat → Nat) (y : Nat → Nat → Nat) : Prop := (p = none ∧ n = 0 ∧ c = 0) ∨ ∃ BL ol, p = some ⟨BL, ol, none⟩ ∧ n ≤ c ∧ (∀ i, i < n → v.cell? ⟨BL, ol + i, none⟩ = some (.slice (q i) (ln i) (cp i))) ∧ ∀ i, i < n → SliceV v (q i) (ln i) (cp i) (y i)
theorem ListV.kp {v w : World} {p : Option Addr} {n c : Nat} {q : Nat → Option Addr} {ln cp : Nat → Nat} {y : Nat → Nat → Nat} (h : ListV v p n c q ln cp y) (hk : Kp v (fun _ => False) w) : ListV w p n c q ln cp y :=
  h.imp id fun ⟨BL, ol, e, hc, h1, h2⟩ => ⟨BL, ol, e, hc, fun i hi => hk.cell (fun x => x) (h1 i hi), fun i hi => slice_kp hk (h2 i hi)⟩
/-- .. whose empty pieces lie wherever. -/
def ListE (v : World) (p : Option Addr) (n c : Nat) (q : Nat → Option Addr) (ln cp : Nat → Nat) (y : Nat → Nat → Nat) : Prop := (p = none ∧ n = 0 ∧ c = 0) ∨ ∃ BL ol, p = some ⟨BL, ol, none⟩ ∧ n ≤ c ∧ (∀ i, i < n → v.cell? ⟨BL, ol + i, none⟩ = some (.slice (q i) (ln i) (cp i))) ∧ ∀ i, i < n → SliceE v (q i) (ln i) (cp i) (y i)
theorem ListE.kp {v w : World} {p : Option Addr} {n c : Nat} {q : Nat → Option Addr} {ln cp : Nat → Nat} {y : Nat → Nat → Nat} (h : ListE v p n c q ln cp y) (hk : Kp v (fun _ => False) w) : ListE w p n c q ln cp y :=
  h.imp id fun ⟨BL, ol, e, hc, h1, h2⟩ => ⟨BL, ol, e, hc, fun i hi => hk.cell (fun x => x) (h1 i hi), fun i hi => sliceE_kp hk (h2 i hi)⟩
/-- The copy of a list, as it stands in a world. -/
structure RmA (N n : Nat) (q : Nat → Option Addr) (ln : Nat → Nat) (y : Nat → Nat → Nat) (RO capO MB RW : Nat) (pw : Option Addr) (pr : Nat → Option Addr) (cr : Nat → Nat) (w : World) : Prop where
  newO : N ≤ RO
  row : ∃ cur, w.heap[RO]? = some (.cells cur 25) ∧ cur.size = capO ∧ n < capO ∧ (∀ i, i < n → cur[i]? = some (.slice (pr i) (ln i) (cr i))) ∧ cur[n]? = some (.slice (some ⟨MB, 0, none⟩) 4 4)
  mine : ∃ fr, w.heap[MB]? = some (.cells #[.int .u8 109, .int .u8 105, .int .u8 110, .int .u8 101] 5 fr)
  apart : RW ≠ RO
  own : (pw = none ∧ n = 0) ∨ (pw = some ⟨RW, 0, none⟩ ∧ N ≤ RW ∧ ∃ cur, w.heap[RW]? = some (.cells cur 25) ∧ n ≤ cur.size ∧ ∀ i, i < n → cur[i]? = some (.slice (pr i) (ln i) (cr i)))
  el : ∀ i, i < n → RowR N w (ln i) (y i) (pr i) (cr i) ∧ (q i = none ↔ pr i = none)
/-- Rows of bytes and of slices stay. -/
def KeepB (w w' : World) : Prop := ∀ (b : Nat) (c : Array Value) (t : TypeId) (fr : Nat × Nat), (t = 5 ∨ (t = 25 ∧ fr = (0, 0))) → w.heap[b]? = some (.cells c t fr) → w'.heap[b]? = some (.cells c t fr)
theorem keepB_kp {w w' : World} (h : Kp w (fun _ => False) w') : KeepB w w' := fun b c t fr _ hb => h.cells b c t fr (fun x => x) hb
theorem keepB_frm {N : Nat} {X : Nat → Prop} {w1 w3 w5 : World} (h : Kp w1 (fun _ => False) w3) (hf : Frm N X w3 w5) (hX : ∀ b, X b → w1.heap.size ≤ b) : KeepB w1 w5 := fun b c t fr ht hb => by
  have hlt := (Array.getElem?_eq_some_iff.1 hb).1
  refine hf.kept b _ (h.cells b c t fr (fun x => x) hb) (fun q => by have := hX b q; omega) ?_
  rcases ht with rfl | ⟨rfl, rfl⟩
  · exact .inr (.inl ⟨_, _, rfl⟩)
  · exact .inr (.inr ⟨_, rfl⟩)
theorem RmA.keep {N n : Nat} {q : Nat → Option Addr} {ln : Nat → Nat} {y : Nat → Nat → Nat} {RO capO MB RW : Nat} {pw : Option Addr} {pr : Nat → Option Addr} {cr : Nat → Nat} {w w' : World} (h : RmA N n q ln y RO capO MB RW pw pr cr w) (hk : KeepB w w') : RmA N n q ln y RO capO MB RW pw pr cr w' := by
  obtain ⟨cur, a1, a2⟩ := h.row
  obtain ⟨fr, b1⟩ := h.mine
  exact ⟨h.newO, ⟨cur, hk _ _ _ _ (.inr ⟨rfl, rfl⟩) a1, a2⟩, ⟨fr, hk _ _ _ _ (.inl rfl) b1⟩, h.apart, h.own.imp id fun ⟨c1, c2, cu, c3, c4⟩ => ⟨c1, c2, cu, hk _ _ _ _ (.inr ⟨rfl, rfl⟩) c3, c4⟩, fun i hi => ⟨(h.el i hi).1.imp id fun ⟨RB, e1, e2, cu, e3, e4⟩ => ⟨RB, e1, e2, cu, hk _ _ _ _ (.inl rfl) e3, e4⟩, (h.el i hi).2⟩⟩
/-- .. of one that may be nil. -/
def RmV (N n : Nat) (q : Nat → Option Addr) (ln : Nat → Nat) (y : Nat → Nat → Nat) (po : Option Addr) (co : Nat) (pw : Option Addr) (cw RO MB RW : Nat) (pr : Nat → Option Addr) (cr : Nat → Nat) (w : World) : Prop :=
  RW ≠ RO ∧ ((po = none ∧ n = 0 ∧ co = 0 ∧ pw = none ∧ cw = 0) ∨ (po = some ⟨RO, 0, none⟩ ∧ RmA N n q ln y RO co MB RW pw pr cr w))
section
variable {N n co cw RO MB RW : Nat} {q pr : Nat → Option Addr} {ln cr : Nat → Nat} {y : Nat → Nat → Nat} {po pw : Option Addr} {w w' : World}
theorem RmV.keep (h : RmV N n q ln y po co pw cw RO MB RW pr cr w) (hk : KeepB w w') : RmV N n q ln y po co pw cw RO MB RW pr cr w' := ⟨h.1, h.2.imp id fun ⟨e, hA⟩ => ⟨e, hA.keep hk⟩⟩
theorem RmV.list (h : RmV N n q ln y po co pw cw RO MB RW pr cr w) : ListV w po n co pr ln cr y := by
  rcases h.2 with ⟨rfl, rfl, rfl, _, _⟩ | ⟨rfl, hA⟩
  · exact .inl ⟨rfl, rfl, rfl⟩
  · obtain ⟨cur, a1, a2, a3, a4, a5⟩ := hA.row
    exact .inr ⟨RO, 0, rfl, by omega, fun i hi => by rw [Nat.zero_add, cell_of_row _ RO i _ _ _ a1]; exact a4 i hi, fun i hi => (hA.el i hi).1.slice⟩
theorem RmV.some (h : RmV N n q ln y po co pw cw RO MB RW pr cr w) : ∀ i, i < n → (pr i).isSome = (q i).isSome := by
  intro i hi
  rcases h.2 with ⟨_, h0, _⟩ | ⟨_, hA⟩
  · omega
  · have e := (hA.el i hi).2
    cases hq : q i with
    | none => rw [e.1 hq]
    | some a =>
      cases hp : pr i with
      | none => rw [e.2 hp] at hq; cases hq
      | some b => rfl
/-- The book has none of it. -/
theorem RmV.spel {N0 : Nat} {O : Nat → Prop} (h : RmV N n q ln y po co pw cw RO MB RW pr cr w) (hk : KeepB w w') (hO : ∀ b, O b → b < N ∨ w.heap.size ≤ b) (hN : N0 ≤ N) : ∀ i, i < n → SpEl N0 O w' (pr i) (ln i) := by
  intro i hi
  rcases h.2 with ⟨_, h0, _⟩ | ⟨_, hA⟩
  · omega
  · rcases (hA.el i hi).1 with ⟨e1, e2, _⟩ | ⟨RB, e1, e2, cu, e3, e4, e5, _⟩
    · exact .inl ⟨e1, e2⟩
    · have hlt := (Array.getElem?_eq_some_iff.1 e3).1
      exact .inr ⟨RB, cu, e1, Nat.le_trans hN e2, hk _ _ _ _ (.inl rfl) e3, by omega, fun o => by have := hO RB o; omega⟩
theorem RmV.spO {N0 : Nat} {O : Nat → Prop} (h : RmV N n q ln y po co pw cw RO MB RW pr cr w) (hk : KeepB w w') (hO : ∀ b, O b → b < N ∨ w.heap.size ≤ b) (hN : N0 ≤ N) : (po = none ∧ n = 0) ∨ (po = Option.some ⟨RO, 0, none⟩ ∧ N0 ≤ RO ∧ ¬ O RO ∧ ∃ cur, w'.heap[RO]? = Option.some (.cells cur 25) ∧ n ≤ cur.size ∧ ∀ i, i < n → cur[i]? = Option.some (.slice (pr i) (ln i) (cr i))) := by
  rcases h.2 with ⟨h1, h0, _⟩ | ⟨h1, hA⟩
  · exact .inl ⟨h1, h0⟩
  · obtain ⟨cur, a1, a2, a3, a4, a5⟩ := hA.row
    have hlt := (Array.getElem?_eq_some_iff.1 a1).1
    have := hA.newO
    exact .inr ⟨h1, Nat.le_trans hN hA.newO, fun o => by have := hO RO o; omega, cur, hk _ _ _ _ (.inr ⟨rfl, rfl⟩) a1, by omega, a4⟩
theorem RmV.spW {N0 : Nat} {O : Nat → Prop} (h : RmV N n q ln y po co pw cw RO MB RW pr cr w) (hk : KeepB w w') (hO : ∀ b, O b → b < N ∨ w.heap.size ≤ b) (hN : N0 ≤ N) : (pw = none ∧ n = 0) ∨ (pw = Option.some ⟨RW, 0, none⟩ ∧ N0 ≤ RW ∧ ¬ O RW ∧ ∃ cur, w'.heap[RW]? = Option.some (.cells cur 25) ∧ n ≤ cur.size ∧ ∀ i, i < n → cur[i]? = Option.some (.slice (pr i) (ln i) (cr i))) := by
  rcases h.2 with ⟨_, h0, _, h1, _⟩ | ⟨_, hA⟩
  · exact .inl ⟨h1, h0⟩
  · refine hA.own.imp id fun ⟨c1, c2, cur, a1, a2, a3⟩ => ?_
    have hlt := (Array.getElem?_eq_some_iff.1 a1).1
    exact ⟨c1, Nat.le_trans hN c2, fun o => by have := hO RW o; omega, cur, hk _ _ _ _ (.inr ⟨rfl, rfl⟩) a1, a2, a3⟩
end
theorem roomsV_r {S : Nat → Prop} {v : World} (p : Option Addr) (n c : Nat) (q : Nat → Option Addr) (ln cp : Nat → Nat) (y : Nat → Nat → Nat) (hn : n < 5864062014805) (hln : ∀ i, i < n → ln i < 140737488355328) (hl : ListE v p n c q ln cp y) :
    CallsR Try.prog 20 #[.slice p n c] S v fun x S' v' => S' = S ∧ ∃ po co pw cw RO MB RW pr cr, x = .tuple #[.slice po n co, .slice pw n cw] ∧ Ext v v' ∧ (p = none ↔ po = none) ∧ RmV v.heap.size n q ln y po co pw cw RO MB RW pr cr v' := by
  rcases hl with ⟨rfl, rfl, rfl⟩ | ⟨BL, ol, rfl, hc, h1, h2⟩
  · exact roomsNil_r.mono fun x S' v' _ ⟨e1, e2, e3⟩ => ⟨e2, none, 0, none, 0, 0, 0, 1, fun _ => none, fun _ => 0, e1, by rw [e3]; exact .refl _, Iff.rfl, by omega, .inl ⟨rfl, rfl, rfl, rfl, rfl⟩⟩
  · refine (rooms_r BL ol n c q ln cp y hn hln h1 h2).mono fun x S' v' _ ⟨e1, RO, capO, wv, pr, cr, MB, e2, hR⟩ => ?_
    rcases hR.own.2 with ⟨a1, a2⟩ | ⟨g, cap, cur, a1, a2⟩
    · subst a1 a2
      exact ⟨e1, some ⟨RO, 0, none⟩, capO, none, 0, RO, MB, RO + 1, pr, cr, e2, hR.ext, by simp, by omega, .inr ⟨rfl, hR.new, hR.row, hR.mine, by omega, .inl ⟨rfl, rfl⟩, hR.el⟩⟩
    · obtain ⟨g, cap, cur, q1, q2, q3, q4, q5, q6⟩ := own_some hR.own (.inr (by rw [a1]; simp))
      have hap := hR.apart
      rw [q1] at hap e2
      have hne : g ≠ RO := fun e => hap (by rw [e]; rfl)
      exact ⟨e1, some ⟨RO, 0, none⟩, capO, some ⟨g, 0, none⟩, cap, RO, MB, g, pr, cr, e2, hR.ext, by simp, hne, .inr ⟨rfl, hR.new, hR.row, hR.mine, hne, .inr ⟨rfl, q2, cur, q3, by omega, fun i hi => by rw [q6 i hi]; simp [hi]⟩, hR.el⟩⟩
theorem keepsL_r {S : Nat → Prop} {v : World} {N n c co cw RO MB RW : Nat} {p po pw : Option Addr} {q pr : Nat → Option Addr} {ln cp cr : Nat → Nat} {y : Nat → Nat → Nat} (hn : n < 2 ^ 62) (hln : ∀ i, i < n → ln i < 140737488355328) (hl : ListE v p n c q ln cp y) (hr : RmV N n q ln y po co pw cw RO MB RW pr cr v) (hpp : p = none ↔ po = none) :
    CallsR Try.prog 23 #[.slice po n co, .slice pw n cw, .slice p n c] S v fun x S' v' => x = .bool true ∧ S' = S ∧ v' = v := by
  rcases hr.2 with ⟨rfl, rfl, rfl, rfl, rfl⟩ | ⟨rfl, hA⟩
  · rcases hl with ⟨rfl, _, rfl⟩ | ⟨BL, ol, rfl, _⟩
    · exact keepsNil_r
    · cases hpp.2 rfl
  · rcases hl with ⟨rfl, _, rfl⟩ | ⟨BL, ol, rfl, hc, h1, h2⟩
    · cases hpp.1 rfl
    · obtain ⟨cur, a1, a2, a3, a4, a5⟩ := hA.row
      obtain ⟨fr, b1⟩ := hA.mine
      refine keeps_r N BL ol n c RO co cw RW MB pw q pr ln cp cr y hn hln h1 h2 a3 (fun i hi => by rw [cell_of_row _ RO i _ _ _ a1]; exact a4 i hi) (by rw [cell_of_row _ RO n _ _ _ a1]; exact a5) (fun i hi => ?_) (fun h0 => ?_) (fun i hi => ?_) hA.el
      · rw [Nat.zero_add, cell_of_row _ MB i _ _ _ b1]
        match i, hi with
        | 0, _ => rfl
        | 1, _ => rfl
        | 2, _ => rfl
        | 3, _ => rfl
      · rcases hA.own with ⟨_, h⟩ | ⟨h, _⟩
        · omega
        · exact h
      · rcases hA.own with ⟨_, h⟩ | ⟨_, _, cu, c1, _, c2⟩
        · omega
        · rw [cell_of_row _ RW i _ _ _ c1]; exact c2 i hi
/-- What Mend answers. -/
def MendOut (w : World) (n : Nat) (q : Nat → Option Addr) (ln : Nat → Nat) (y : Nat → Nat → Nat) (pl : Option Addr) (k e BA : Nat) (PB : Nat → Nat) (w' : World) : Prop :=
  e = (if n = 14 then mendErr q ln else 1) ∧ ((e ≠ 0 ∧ pl = none ∧ k = 0) ∨ (n = 14 ∧ e = 0 ∧ pl = some ⟨BA, 0, none⟩ ∧ k = 14 ∧ Pieces w BA PB (lastL q ln 14) (mendOf (ftC q 14).2 y) w'))
theorem pmendL_r {S : Nat → Prop} {v : World} (p : Option Addr) (n c : Nat) (q : Nat → Option Addr) (ln cp : Nat → Nat) (y : Nat → Nat → Nat) (hy : ∀ k i, y k i < 256) (hl : ListV v p n c q ln cp y) (hg : Try.prog.globals.size ≤ v.heap.size) :
    CallsR Try.prog 38 #[.slice p n c] S v fun x S' v' => ∃ pl k e BA PB, x = .tuple #[.slice pl k k, .int .i64 ((e : Nat) : Int)] ∧ Kp v (fun _ => False) v' ∧ MendOut v n q ln y pl k e BA PB v' := by
  by_cases h : n = 14
  · subst h
    rcases hl with ⟨_, h0, _⟩ | ⟨BL, ol, rfl, hc, h1, h2⟩
    · omega
    · exact (pmendV_r BL ol c q ln cp y hy ⟨h1, h2⟩ hg).mono fun x S' v' _ ⟨pl, k, BA, PB, e1, e2, e3⟩ => ⟨pl, k, mendErr q ln, BA, PB, e1, e2, by rw [if_pos rfl], e3.imp id fun ⟨a1, a2, a3, a4⟩ => ⟨rfl, a1, a2, a3, a4⟩⟩
  · exact ((mendLen_r p n c h).mono fun x S' v' _ ⟨e1, e2, e3⟩ => ⟨none, 0, 1, 0, fun _ => 0, e1, by rw [e3]; exact .refl _ _, by rw [if_neg h], .inl ⟨by omega, rfl, rfl⟩⟩)
theorem mendL_r {S : Nat → Prop} {v : World} (p : Option Addr) (n c : Nat) (q : Nat → Option Addr) (ln cp : Nat → Nat) (y : Nat → Nat → Nat) (hy : ∀ k i, y k i < 256) (hl : ListV v p n c q ln cp y) (hg : Try.prog.globals.size ≤ v.heap.size) :
    CallsR Try.prog 21 #[.slice p n c] S v fun x S' v' => ∃ pl k e BA PB, x = .tuple #[.slice pl k k, .int .i64 ((e : Nat) : Int)] ∧ Kp v (fun _ => False) v' ∧ MendOut v n q ln y pl k e BA PB v' :=
  mmend_of ((pmendL_r p n c q ln cp y hy hl hg).mono fun x S' v' _ h => by
    obtain ⟨pl, k, e, BA, PB, e1, h2⟩ := h
    exact ⟨_, _, e1, pl, k, e, BA, PB, e1, h2⟩)
theorem mendErr_congr {q q' : Nat → Option Addr} {ln : Nat → Nat} (h : ∀ k, k < 14 → (q k).isSome = (q' k).isSome) : mendErr q ln = mendErr q' ln := by
  unfold mendErr
  rw [okL_congr 14 h, anyB_congr 14 h, lastL_congr 14 h, cntR_congr 14 h]
theorem MendOut.congr {w w' : World} {n k e BA : Nat} {q q' : Nat → Option Addr} {ln : Nat → Nat} {y : Nat → Nat → Nat} {pl : Option Addr} {PB : Nat → Nat} (hq : ∀ i, i < n → (q i).isSome = (q' i).isSome) (h : MendOut w n q ln y pl k e BA PB w') : MendOut w n q' ln y pl k e BA PB w' := by
  by_cases hn : n = 14
  · subst hn
    unfold MendOut at h ⊢
    rw [mendErr_congr hq, lastL_congr 14 hq, ftC_congr 14 hq] at h
    exact h
  · obtain ⟨a, b⟩ := h
    refine ⟨by rw [a, if_neg hn, if_neg hn], .inl ?_⟩
    rcases b with b | ⟨b, _⟩
    · exact b
    · exact absurd b hn
/-- What the reference's Mend answers. -/
def RefMV (v : World) (n : Nat) (q : Nat → Option Addr) (ln : Nat → Nat) (y : Nat → Nat → Nat) (z : Value) (e : Nat) (v' : World) : Prop :=
  e = (if n = 14 then mendErr q ln else 1) ∧ ((e ≠ 0 ∧ z = .slice none 0 0) ∨ (n = 14 ∧ e = 0 ∧ RefP v z (lastL q ln 14) (fun j c => Fld.comb (Fld.wgt (ftC q 14).2 j) (fun i => y ((ftC q 14).2 i)) 10 c) v'))
theorem refM_V {v v' : World} {q : Nat → Option Addr} {ln : Nat → Nat} {y : Nat → Nat → Nat} {x : Value} {e : Nat} (h : RefM v q ln y x e v') : RefMV v 14 q ln y x e v' := by
  unfold RefMV
  rw [if_pos rfl]
  unfold mendErr
  rcases h with ⟨h1, h2, h3⟩ | ⟨h1, h2, ⟨a, b, c⟩ | ⟨a, b, c⟩⟩
  · exact ⟨by rw [if_neg h1, h3], .inl ⟨by omega, h2⟩⟩
  · exact ⟨by rw [if_pos ⟨h1, h2⟩, if_pos a, c], .inl ⟨by omega, b⟩⟩
  · exact ⟨by rw [if_pos ⟨h1, h2⟩, if_neg (by omega), b], .inr ⟨rfl, b, c⟩⟩
theorem rmendL_r {S : Nat → Prop} {v : World} (p : Option Addr) (n c : Nat) (q : Nat → Option Addr) (ln cp : Nat → Nat) (y : Nat → Nat → Nat) (hy : ∀ k i, y k i < 256) (hl : ListE v p n c q ln cp y) (hln : ∀ i, i < n → ln i < 140737488355328) :
    CallsR Try.prog 22 #[.slice p n c] S v fun x S' v' => ∃ z e, x = .tuple #[z, .int .i64 ((e : Nat) : Int)] ∧ S' = S ∧ Ext v v' ∧ RefMV v n q ln y z e v' := by
  by_cases h : n = 14
  · subst h
    rcases hl with ⟨_, h0, _⟩ | ⟨BL, ol, rfl, hc, h1, h2⟩
    · omega
    · exact (rmend_r BL ol c q ln cp y hy ⟨h1, h2⟩ fun k hk => by have := hln k hk; omega).mono fun x S' v' _ ⟨z, e, e1, e2, e3, e4⟩ => ⟨z, e, e1, e2, e3, refM_V e4⟩
  · exact (rmendLen_r p n c h).mono fun x S' v' _ ⟨e1, e2, e3⟩ => ⟨_, 1, e1, e2, by rw [e3]; exact .refl _, by rw [if_neg h], .inl ⟨by omega, rfl⟩⟩
theorem mendErr_zero {q : Nat → Option Addr} {ln : Nat → Nat} (h : mendErr q ln = 0) : lastL q ln 14 ≤ 400 ∧ 10 ≤ cntR q 14 := by
  unfold mendErr at h
  split at h
  · rename_i hb
    split at h
    · omega
    · refine ⟨?_, by omega⟩
      cases ha : anyB q 14 with
      | true => exact hb.2 ha
      | false => rw [lastL_none 14 ha]; omega
  · omega
theorem kn_ok' {q : Nat → Option Addr} (h : 10 ≤ cntR q 14) : (∀ i, i < 10 → (ftC q 14).2 i < 14) ∧ ∀ i j, i < 10 → j < 10 → (ftC q 14).2 i = (ftC q 14).2 j → i = j := by
  have h10 : (ftC q 14).1 = 10 := by rw [ftC_cntR]; omega
  refine ⟨fun i hi => (ftC_kn q 14 i (by omega)).1, fun i j hi hj e => ?_⟩
  rcases Nat.lt_trichotomy i j with hlt | rfl | hlt
  · have := (ftC_kn q 14 j (by omega)).2.2 i hlt
    omega
  · rfl
  · have := (ftC_kn q 14 i (by omega)).2.2 j hlt
    omega
/-- The two are the same. -/
theorem sameM_r {S : Nat → Prop} {v0 v1 v : World} {n k e e' BA : Nat} {q : Nat → Option Addr} {ln : Nat → Nat} {y : Nat → Nat → Nat} {pl : Option Addr} {PB : Nat → Nat} {z : Value} (hy : ∀ k i, y k i < 256) (hC : MendOut v0 n q ln y pl k e BA PB v1) (hR : RefMV v1 n q ln y z e' v) (hE : Ext v1 v) :
    CallsR Try.prog 15 #[.slice pl k k, z] S v fun y S' v' => y = .bool true ∧ S' = S ∧ v' = v := by
  have hee : e = e' := hC.1.trans hR.1.symm
  subst hee
  rcases hC.2 with ⟨h1, rfl, rfl⟩ | ⟨rfl, h1, rfl, rfl, hP⟩
  · rcases hR.2 with ⟨_, rfl⟩ | ⟨_, h2, _⟩
    · exact sameNil_r
    · omega
  · rcases hR.2 with ⟨h2, _⟩ | ⟨_, _, hE', OB, cap, PR, rfl, q2, q3⟩
    · omega
    · have hz : mendErr q ln = 0 := by
        have := hC.1
        rw [if_pos rfl] at this
        omega
      obtain ⟨hm, hc⟩ := mendErr_zero hz
      obtain ⟨hk1, hk2⟩ := kn_ok' hc
      have hl := hP.l14.kp (kp_ext hE)
      exact sameAll_r BA OB 14 cap (lastL q ln 14) PB PR _ _ (by omega) (fun j hj => hl.piece hj) q2 (fun j hj i hi => by rw [Nat.zero_add]; exact hl.byte hj hi) (fun j hj i hi => by rw [Nat.zero_add, cell_of_row _ (PR j) i _ _ _ (q3 j hj)]; exact bytesA_get _ _ i hi) fun j i _ _ => mend_ref hk1 hk2 hy j i
theorem pcM_of {N n k e BA : Nat} {O : Nat → Prop} {q : Nat → Option Addr} {ln : Nat → Nat} {y : Nat → Nat → Nat} {pl : Option Addr} {PB : Nat → Nat} {w w1 w2 w3 : World} (hN : N ≤ w.heap.size) (hO : ∀ b, O b → b < w.heap.size) (hE1 : Ext w w1) (hE3 : Ext w2 w3) (hC : MendOut w1 n q ln y pl k e BA PB w2) : (∃ m, m ≤ 4000 ∧ PcI N O w3 pl k BA PB m) ∧ (k = 0 ∨ k = 14) ∧ ∀ b, PcX k BA PB b → w1.heap.size ≤ b := by
  have h1 := hE1.size
  rcases hC.2 with ⟨_, rfl, rfl⟩ | ⟨h, h0, rfl, rfl, hP⟩
  · exact ⟨⟨0, by omega, .inl ⟨rfl, rfl⟩⟩, .inl rfl, fun b ⟨q, _⟩ => by omega⟩
  · have hz : mendErr q ln = 0 := by
      have := hC.1
      rw [if_pos h] at this
      omega
    have hm := (mendErr_zero hz).1
    refine ⟨⟨lastL q ln 14, by omega, .inr ⟨rfl, rfl, ?_⟩⟩, .inr rfl, ?_⟩
    · have hA := hP.newA
      exact ⟨by omega, hE3.row hP.ba, fun q => by have := hO _ q; omega, fun j hj => by have := hP.newP j hj; omega, fun j hj => ⟨_, hE3.row (hP.pb j hj), bytesA_size _ _⟩, fun j hj q => by have := hO _ q; have := hP.newP j hj; omega, hP.inj⟩
    · rintro b ⟨_, rfl | ⟨j, hj, rfl⟩⟩
      · exact hP.newA
      · exact hP.newP j hj
theorem kp_sp {v w w' : World} {RL : Nat} (h : Kp v (fun _ => False) w) (hs : SpF v.heap.size RL w w') : Kp v (fun _ => False) w' :=
  ⟨by rw [hs.size]; exact h.size, hs.os.trans h.os, hs.output.trans h.output, fun b o hb hc ht => by
    rw [hs.low b (Array.getElem?_eq_some_iff.1 hc).1]
    exact h.objs b o hb hc ht⟩
end Go.Proofs.Ytpiefebngnlfoaa

/-
  The row of a law: what was there before reads as it did; slices among the arguments.
-/
set_option linter.unusedVariables false
set_option linter.unusedSimpArgs false
set_option linter.unnecessarySimpa false
namespace Go.Proofs.Ytpiefebngnlfoaa
open Go.ChangeShapes Go.WideShapes Go.ChangeAt Go.RowKit Go.Conc Go.Vw

/-- Nothing that was there before has turned. -/
structure Old (W W' : World) : Prop where
  size : W.heap.size ≤ W'.heap.size
  os : W'.os = W.os
  output : W'.output = W.output
  block : ∀ b, b < W.heap.size → W'.heap[b]? = W.heap[b]?
theorem old_of {W W' v' : World} {S' : Nat → Prop} (hodd : ∀ b, Odd W b → Try.prog.globals.size ≤ b) (hk : Kp (firstView W) (fun _ => False) v') (hR : Rel Try.prog S' 0 v' W') (hF : Fx (Odd W) W S' W') : Old W W' := by
  have h0 := first_rel (P := Try.prog) hodd
  refine ⟨?_, ?_, ?_, fun b hb => ?_⟩
  · rw [← hR.size, ← h0.size]; exact hk.size
  · rw [← hR.os, hk.os]; exact h0.os
  · rw [← hR.output, hk.output]; exact h0.output
  · by_cases ho : Odd W b
    · exact (hF b ho).2
    · have hs := h0.seen b ho
      have hi : W.heap[b]? = some W.heap[b] := Array.getElem?_eq_getElem hb
      rw [hi] at hs
      have ht := h0.tame b ho _ hs
      have hv := hk.objs b _ (fun x => x) hs ht
      by_cases hS : S' b
      · exfalso
        have hj := hR.hid b hS
        rw [hv] at hj
        have hj' := Option.some.inj hj
        rw [hj'] at ht
        exact ht
      · rw [← hR.seen b hS, hv, hi]
theorem Old.kept {W W' : World} (h : Old W W') (may : MemPlace → Prop) : W.keptBut W' may := by
  refine ⟨h.os, h.output, fun i hi => ?_⟩
  rw [h.block i hi]
  cases W.heap[i]? with
  | none => rfl
  | some o => cases o <;> simp
theorem Old.same {W W' : World} (h : Old W W') {p : MemPlace} (hp : p.block < W.heap.size) : W.sameAt W' p := by
  cases p with
  | cell b o => exact World.cell?_of_block (w := W) (h.block b hp)
  | map b => exact h.block b hp
theorem first_cell {W : World} {a : Addr} {x : Value} (h : W.cell? a = some x) : (firstView W).cell? a = some x := by
  unfold World.cell? at h ⊢
  cases hb : W.heap[a.block]? with
  | none => simp [hb] at h
  | some o =>
    have ho : (firstView W).heap[a.block]? = some (if tameB o then o else junk) := by
      show (W.heap.map _)[a.block]? = _
      rw [Array.getElem?_map, hb]
      rfl
    cases o with
    | cells c t fr =>
      have : tameB (Obj.cells c t fr) = true := rfl
      rw [if_pos this] at ho
      rw [ho]
      rw [hb] at h
      exact h
    | _ => simp [hb] at h
theorem slice_first {W : World} {a : Addr} {len cap : Nat} {zs : List Int} (hs : a.spot = none) (hl : len ≤ cap) (hz : len ≤ zs.length) (hc : ∀ i, i < zs.length → W.cell? (a.add i) = some (.int .u8 (zs.getD i 0))) (hw : ∀ n ∈ zs, (Lit.int .u8 n).wf = true) :
    ∃ x : Nat → Nat, (∀ i, x i < 256) ∧ SliceV (firstView W) (some a) len cap x := by
  obtain ⟨b, off, spot⟩ := a
  simp only at hs
  subst hs
  have hbd : ∀ i, 0 ≤ zs.getD i 0 ∧ zs.getD i 0 ≤ 255 := fun i => by
    by_cases hi : i < zs.length
    · have : zs.getD i 0 = zs[i] := by simp [List.getD, hi]
      rw [this]
      exact bounds_u8 (hw _ (List.getElem_mem hi))
    · have : zs.getD i 0 = 0 := by simp [List.getD, List.getElem?_eq_none (Nat.le_of_not_lt hi)]
      rw [this]
      omega
  refine ⟨fun i => (zs.getD i 0).toNat, fun i => by have := hbd i; show (zs.getD i 0).toNat < 256; omega, .inr ⟨b, off, rfl, hl, fun j hj => ?_⟩⟩
  have := first_cell (hc j (by omega))
  rw [show ((⟨b, off, none⟩ : Addr).add j) = ⟨b, off + j, none⟩ by simp [Addr.add]] at this
  rw [this]
  congr 2
  have := hbd j
  show zs.getD j 0 = ((zs.getD j 0).toNat : Int)
  omega
theorem own : ownKnob Try.prog.godebug = none := by kernel_rfl
theorem laid : laidOutB Try.prog = true := by kernel_rfl
theorem plain : ((List.range Try.prog.globals.size).all fun g => (((begin Try.prog (fun _ _ => 0) default).world.heap[g]?).bind Obj.row?).isSome) = true := by kernel_rfl
theorem shaped_row {W : World} (h : W.ShapedOpen Try.prog) {b : Nat} (hb : b < Try.prog.globals.size) : ∃ cs t, W.heap[b]? = some (.cells cs t) := by
  have := List.all_eq_true.1 plain b (by simpa using hb)
  obtain ⟨⟨zero, t⟩, hz⟩ := Option.isSome_iff_exists.1 this
  obtain ⟨cs, hc, _⟩ := h.1 b zero t hb hz
  exact ⟨cs, t, hc⟩
theorem shaped_odd {W : World} (h : W.ShapedOpen Try.prog) : ∀ b, Odd W b → Try.prog.globals.size ≤ b := by
  intro b ⟨o, ho, hn⟩
  refine Nat.le_of_not_lt fun hb => ?_
  obtain ⟨cs, t, hc⟩ := shaped_row h hb
  rw [hc] at ho
  cases ho
  exact hn trivial
theorem shaped_size {W : World} (h : W.ShapedOpen Try.prog) : Try.prog.globals.size ≤ W.heap.size := by
  refine Nat.le_of_not_lt fun hb => ?_
  obtain ⟨cs, t, hc⟩ := shaped_row h hb
  simp at hc
set_option maxRecDepth 100000 in
/-- A slice of bytes among the arguments. -/
theorem open_arg {H : Type} {enc : TypeId × Value → H} {W : World} {base : Nat} {v : Value} {d : DataW H} {ps : List MemPlace} (hval : Value.okWide Try.prog W .any base 25 v) (h : DataW.Trod enc Try.prog W 0 (fun _ => true) true 25 v d ps) :
    ∃ (p : Option Addr) (len cap : Nat) (x : Nat → Nat), v = .slice p len cap ∧ (∀ i, x i < 256) ∧ SliceV (firstView W) p len cap x ∧ len < 2 ^ 63 := by
  obtain ⟨a0, len, cap, rfl⟩ := okWide_slice Try.underlying25 hval
  obtain ⟨fuel, hf⟩ := h
  rcases open_ints Try.underlying25 Try.underlying5 (by kernel_rfl) hf with ⟨hcs, _⟩ | ⟨a, len', cap', zs, hcs, _, hl, hm, hz, _, hcell, hw⟩
  · simp [Value.cells] at hcs
    obtain ⟨rfl, rfl, rfl⟩ := hcs
    exact ⟨none, 0, 0, fun _ => 0, rfl, fun _ => Nat.zero_lt_succ _, .inl ⟨rfl, rfl, rfl⟩, by omega⟩
  · simp [Value.cells] at hcs
    obtain ⟨rfl, rfl, rfl⟩ := hcs
    have hsp : a.spot = none := by
      simp only [Value.okWide, Try.underlying25, Cell.okWide, Cell.ok, World.has] at hval
      exact hval.2.2.2.1
    simp only [if_true] at hz
    obtain ⟨x, hx, hs⟩ := slice_first (W := W) hsp hl (by omega) hcell hw
    exact ⟨some a, len, cap, x, rfl, hx, hs, by unfold maxLen at hm; omega⟩

end Go.Proofs.Ytpiefebngnlfoaa

/-
  A list of pieces among the arguments of a law.
-/
set_option linter.unusedVariables false
set_option linter.unusedSimpArgs false
namespace Go.Proofs.Ytpiefebngnlfoaa
open Go.ChangeShapes Go.WideShapes Go.ChangeAt Go.RowKit Go.Conc Go.Vw

theorem cell_spot {W : World} {a : Addr} {x : Value} (h : W.cell? a = some x) : a.spot = none := by
  unfold World.cell? at h
  split at h
  · split at h
    · cases h
    · rename_i hs
      simpa using hs
  · cases h
theorem all_mem {H : Type} {P : Program} {e : TypeId} : ∀ {l : List (DataW H)} {i : Nat} {d : DataW H}, l[i]? = some d → ∀ n ∈ d.weights P e, n ∈ DataW.weightsAll P e l
  | [], i, d, h, n, hn => by simp at h
  | x :: l, 0, d, h, n, hn => by
    simp only [List.getElem?_cons_zero, Option.some.injEq] at h
    subst h
    simp only [DataW.weightsAll, List.mem_append]
    exact .inl hn
  | x :: l, i + 1, d, h, n, hn => by
    simp only [List.getElem?_cons_succ] at h
    simp only [DataW.weightsAll, List.mem_append]
    exact .inr (all_mem h n hn)
set_option maxRecDepth 100000 in
theorem open_list {H : Type} {enc : TypeId × Value → H} {W : World} {base : Nat} {v : Value} {d : DataW H} {ps : List MemPlace} (hval : Value.okWide Try.prog W .any base 34 v) (h : DataW.Trod enc Try.prog W 0 (fun _ => true) true 34 v d ps) :
    ∃ (p : Option Addr) (n c : Nat) (q : Nat → Option Addr) (ln cp : Nat → Nat) (y : Nat → Nat → Nat), v = .slice p n c ∧ (∀ k i, y k i < 256) ∧ ListE (firstView W) p n c q ln cp y ∧
      (n = 0 ∨ ∃ elems spare, d = .slice elems spare ∧ elems.length = n ∧ ∀ i, i < n → ln i = 0 ∨ ∃ es sp, elems[i]? = some (.slice es sp) ∧ es.length = ln i) := by
  obtain ⟨a0, len, cap, rfl⟩ := okWide_slice Try.underlying34 hval
  obtain ⟨fuel, hf⟩ := h
  rcases Deep.open_int_rows Try.underlying34 Try.underlying25 Try.underlying5 (by kernel_rfl) (by kernel_rfl) hf with ⟨hcs, _⟩ | ⟨a, len', cap', A, L, C, Z, hcs, _, hl, hm, hx, hr⟩
  · simp [Value.cells] at hcs
    obtain ⟨rfl, rfl, rfl⟩ := hcs
    exact ⟨none, 0, 0, fun _ => none, fun _ => 0, fun _ => 0, fun _ _ => 0, rfl, fun _ _ => Nat.zero_lt_succ _, .inl ⟨rfl, rfl, rfl⟩, .inl rfl⟩
  · simp [Value.cells] at hcs
    obtain ⟨rfl, rfl, rfl⟩ := hcs
    have hsp : a.spot = none := by
      simp only [Value.okWide, Try.underlying34, Cell.okWide, Cell.ok, World.has] at hval
      exact hval.2.2.2.1
    obtain ⟨b, off, spot⟩ := a
    simp only at hsp
    subst hsp
    have each : ∀ r, ∃ x : Nat → Nat, (∀ i, x i < 256) ∧ (r < len → SliceE (firstView W) (A r) (L r) (C r) x) := by
      intro r
      by_cases hlt : r < len
      · obtain ⟨h1, h2, h3, h4, h5, h6, h7⟩ := hr r (by omega)
        cases hA : A r with
        | none =>
          have := h6 hA
          exact ⟨fun _ => 0, fun _ => Nat.zero_lt_succ _, fun _ => .inl (.inl ⟨rfl, by omega, by omega⟩)⟩
        | some a' =>
          obtain ⟨_, h8⟩ := h7 a' hA
          by_cases h0 : C r = 0
          · exact ⟨fun _ => 0, fun _ => Nat.zero_lt_succ _, fun _ => .inr ⟨⟨a', rfl⟩, by omega, h0⟩⟩
          · have hs : a'.spot = none := cell_spot (h8 0 (by omega))
            obtain ⟨x, e1, e2⟩ := slice_first (W := W) (cap := C r) (len := L r) (zs := Z r) hs h2 (by omega) (fun i hi => h8 i (by omega)) h5
            exact ⟨x, e1, fun _ => .inl e2⟩
      · exact ⟨fun _ => 0, fun _ => Nat.zero_lt_succ _, fun h => absurd h hlt⟩
    refine ⟨some ⟨b, off, none⟩, len, cap, A, L, C, fun r => Classical.choose (each r), rfl, fun k i => (Classical.choose_spec (each k)).1 i, .inr ⟨b, off, rfl, hl, fun i hi => ?_, fun i hi => (Classical.choose_spec (each i)).2 hi⟩, .inr ⟨_, _, (Prod.ext_iff.1 hx).1, by simp, fun i hi => ?_⟩⟩
    · have := first_cell (hr i (by omega)).1
      rw [show ((⟨b, off, none⟩ : Addr).add i) = ⟨b, off + i, none⟩ by simp [Addr.add]] at this
      exact this
    · obtain ⟨h1, h2, h3, h4, h5, h6, h7⟩ := hr i (by omega)
      cases hA : A i with
      | none =>
        have := h6 hA
        exact .inl (by omega)
      | some a' =>
        refine .inr ⟨lits .u8 ((Z i).take (L i)), lits .u8 ((Z i).drop (L i)), ?_, ?_⟩
        · rw [List.getElem?_map, List.getElem?_range hi]
          simp only [Option.map_some, Deep.intRow, hA]
        · simp [lits]
          omega
set_option maxRecDepth 100000 in
/-- How long they may be. -/
theorem list_sizes {H : Type} {ts : List TypeId} {ds : List (DataW H)} {n j : Nat} {ln : Nat → Nat} {d : DataW H} (hsz : (DataW.weightsEach Try.prog ts ds).all (· ≤ reachBytes) = true) (ht : ts[j]? = some 34) (hd : ds[j]? = some d)
    (h : n = 0 ∨ ∃ elems spare, d = .slice elems spare ∧ elems.length = n ∧ ∀ i, i < n → ln i = 0 ∨ ∃ es sp, elems[i]? = some (.slice es sp) ∧ es.length = ln i) : n < 5864062014805 ∧ ∀ i, i < n → ln i < 140737488355328 := by
  have hr : reachBytes = 140737488351232 := rfl
  rcases h with h | ⟨elems, spare, rfl, hl, hi⟩
  · subst h
    exact ⟨by omega, fun i hi => by omega⟩
  · have h1 := sized_slice hsz ht hd Try.underlying34
    have hb : Try.prog.bytesOf 25 = 24 := by kernel_rfl
    rw [hb] at h1
    refine ⟨by omega, fun i hlt => ?_⟩
    rcases hi i hlt with h0 | ⟨es, sp, h2, h3⟩
    · omega
    · have hb1 : Try.prog.bytesOf 5 = 1 := by kernel_rfl
      have h4 : (es.length + sp.length) * Try.prog.bytesOf 5 ≤ reachBytes := by
        have := List.all_eq_true.1 hsz _ (DataW.weights_mem_each ht hd ((es.length + sp.length) * Try.prog.bytesOf 5) (by
          simp only [DataW.weights, Try.underlying34, List.mem_cons, List.mem_append]
          refine .inr (.inl (all_mem h2 _ ?_))
          simp [DataW.weights, Try.underlying25]))
        simpa using this
      rw [hb1] at h4
      omega
end Go.Proofs.Ytpiefebngnlfoaa
