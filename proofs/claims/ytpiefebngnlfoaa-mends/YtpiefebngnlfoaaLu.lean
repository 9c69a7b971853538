/-
  mosaiclaw.book.pieces: the entry of the second list.
-/
import Derived.Test.YtpiefebngnlfoaaLt
set_option linter.unusedVariables false
set_option linter.unusedSimpArgs false
namespace Go.Proofs.Ytpiefebngnlfoaa
open Go.RowKit Go.Conc Go.Vw

/-- So many of the one slice, made anew. -/
def NewL (N0 k : Nat) (mv : Value) (y : Value) (w : World) : Prop := ∃ B, y = .slice (some ⟨B, 0, none⟩) k k ∧ N0 ≤ B ∧ w.heap[B]? = some (.cells (Array.replicate k mv) 25)
/-- So many of the one slice, behind what was there. -/
def MksL (N0 k : Nat) (mv : Value) (y : Value) (w : World) : Prop := ∃ B cap, y = .slice (some ⟨B, 0, none⟩) k cap ∧ N0 ≤ B ∧ k ≤ cap ∧ B < w.heap.size ∧ ∀ j, j < k → w.cell? ⟨B, j, none⟩ = some mv
def EntL (N0 n : Nat) (mv l : Value) (y : Value) (w : World) : Prop := ∃ E e1 e2 e3, y = .slice (some ⟨E, 0, none⟩) 4 4 ∧ N0 ≤ E ∧ w.heap[E]? = some (.cells #[l, e1, e2, e3] 34) ∧ MksL N0 (n + 1) mv e1 w ∧ MksL N0 (n + 2) mv e2 w ∧ MksL N0 (n + 6) mv e3 w
theorem NewL.ext {N0 k : Nat} {mv y : Value} {w w' : World} (h : NewL N0 k mv y w) (e : Ext w w') : NewL N0 k mv y w' := by
  obtain ⟨B, h1, h2, h3⟩ := h
  exact ⟨B, h1, h2, e.row h3⟩
theorem MksL.ext {N0 k : Nat} {mv y : Value} {w w' : World} (h : MksL N0 k mv y w) (e : Ext w w') : MksL N0 k mv y w' := by
  obtain ⟨B, cap, h1, h2, h3, h4, h5⟩ := h
  exact ⟨B, cap, h1, h2, h3, Nat.lt_of_lt_of_le h4 e.size, fun j hj => e.cell (h5 j hj)⟩
theorem EntL.ext {N0 n : Nat} {mv l y : Value} {w w' : World} (h : EntL N0 n mv l y w) (e : Ext w w') : EntL N0 n mv l y w' := by
  obtain ⟨E, e1, e2, e3, h1, h2, h3, h4, h5, h6⟩ := h
  exact ⟨E, e1, e2, e3, h1, h2, e.row h3, h4.ext e, h5.ext e, h6.ext e⟩
/-- What each operation leaves. -/
def lsp (OB N0 n : Nat) (lv mv l : Value) (i : Nat) (y : Value) (w : World) : Prop :=
  if i ≤ 2 then y = .pointer (some ⟨OB, 0, none⟩) else if i = 3 then y = .pointer (some ⟨OB, 1, none⟩) else if i = 4 then y = lv else if i = 5 ∨ i = 6 ∨ i = 10 ∨ i = 15 then y = l
  else if i = 8 then NewL N0 1 mv y w else if i = 9 then MksL N0 (n + 1) mv y w else if i = 13 then NewL N0 2 mv y w else if i = 14 then MksL N0 (n + 2) mv y w
  else if i = 22 then NewL N0 6 mv y w else if i = 23 then MksL N0 (n + 6) mv y w else if i = 24 then EntL N0 n mv l y w
  else if i = 25 then ∃ B y', y = .slice (some ⟨B, 0, none⟩) 1 1 ∧ w.heap[B]? = some (.cells #[y'] 27) ∧ EntL N0 n mv l y' w
  else y = mv
theorem lsp_stable (OB N0 n : Nat) (lv mv l : Value) (i : Nat) (y : Value) (w w' : World) (h : lsp OB N0 n lv mv l i y w) (e : Ext w w') : lsp OB N0 n lv mv l i y w' := by
  unfold lsp at h ⊢
  by_cases c1 : i ≤ 2
  · rw [if_pos c1] at h ⊢; exact h
  rw [if_neg c1] at h ⊢
  by_cases c1 : i = 3
  · rw [if_pos c1] at h ⊢; exact h
  rw [if_neg c1] at h ⊢
  by_cases c2 : i = 4
  · rw [if_pos c2] at h ⊢; exact h
  rw [if_neg c2] at h ⊢
  by_cases c3 : i = 5 ∨ i = 6 ∨ i = 10 ∨ i = 15
  · rw [if_pos c3] at h ⊢; exact h
  rw [if_neg c3] at h ⊢
  by_cases c4 : i = 8
  · rw [if_pos c4] at h ⊢; exact h.ext e
  rw [if_neg c4] at h ⊢
  by_cases c5 : i = 9
  · rw [if_pos c5] at h ⊢; exact h.ext e
  rw [if_neg c5] at h ⊢
  by_cases c6 : i = 13
  · rw [if_pos c6] at h ⊢; exact h.ext e
  rw [if_neg c6] at h ⊢
  by_cases c7 : i = 14
  · rw [if_pos c7] at h ⊢; exact h.ext e
  rw [if_neg c7] at h ⊢
  by_cases c8 : i = 22
  · rw [if_pos c8] at h ⊢; exact h.ext e
  rw [if_neg c8] at h ⊢
  by_cases c9 : i = 23
  · rw [if_pos c9] at h ⊢; exact h.ext e
  rw [if_neg c9] at h ⊢
  by_cases c10 : i = 24
  · rw [if_pos c10] at h ⊢; exact h.ext e
  rw [if_neg c10] at h ⊢
  by_cases c11 : i = 25
  · rw [if_pos c11] at h ⊢
    obtain ⟨B, y', h1, h2, h3⟩ := h
    exact ⟨B, y', h1, e.row h2, h3.ext e⟩
  rw [if_neg c11] at h ⊢
  exact h
/-- A list that is full of the one slice. -/
def FullL (N : Nat) (w : World) (p : Option Addr) (n : Nat) (mv : Value) : Prop := (p = none ∧ n = 0) ∨ ∃ B cur, p = some ⟨B, 0, none⟩ ∧ N ≤ B ∧ w.heap[B]? = some (.cells cur 25) ∧ cur.size = n ∧ ∀ j, j < n → cur[j]? = some mv
/-- Behind what is full: more of it. -/
theorem fullL_grow {N N0 n m MB : Nat} {w w0 u u' : World} {o : Oper} {a : Act} {s x : Operand} {p : Option Addr} {y1 : Value} (hF : FullL N w0 p n (.slice (some ⟨MB, 0, none⟩) 1 1)) (hE : Ext w0 w) (hn : n ≤ 14) (hm : 0 < m) (hm6 : m ≤ 6) (hN : N0 ≤ w.heap.size) (hM : NewL N0 m (.slice (some ⟨MB, 0, none⟩) 1 1) y1 w) (hu : Vw.Twin w u) (hop : o.op = Op.call { callee := Callee.builtin Builtin.append, args := #[s, x], argTypes := #[34, 34] }) (hs : a.eval s = .slice p n n) (hx : a.eval x = y1) :
    ∃ y w', ((execOp a.eval o).run Try.prog u = .ok (.value y) w' ∨ ((execOp a.eval o).run Try.prog u = .ok .skip w' ∧ y = undef)) ∧ (MksL N0 (n + m) (.slice (some ⟨MB, 0, none⟩) 1 1) y w' ∧ Ext w w') := by
  obtain ⟨is, zs, is1, is2, is3, is4, is5⟩ := infoS
  obtain ⟨B1, rfl, _, hr1⟩ := hM
  obtain ⟨olds, hlo, holds, hz⟩ : ∃ olds : List Value, olds.length = n ∧ (∀ b, p = some b → ∀ j y, olds[j]? = some y → w.cell? (b.add j) = some y) ∧ ∀ j, j < n → olds[j]? = some (.slice (some ⟨MB, 0, none⟩) 1 1) := by
    rcases hF with ⟨rfl, rfl⟩ | ⟨B, cur, rfl, _, q2, q3, q4⟩
    · exact ⟨[], rfl, fun b hb => (by cases hb), fun j hj => by omega⟩
    · refine ⟨cur.toList, by simpa using q3, fun b hb j y hy => ?_, fun j hj => by rw [Array.getElem?_toList]; exact q4 j hj⟩
      cases hb
      rw [Addr.add_lit, Nat.zero_add]
      rw [Array.getElem?_toList] at hy
      exact (cell_of_row _ B j _ _ _ (hE.row q2)).trans hy
  have hrep : ∀ j y, (List.replicate m (Value.slice (some ⟨MB, 0, none⟩) 1 1))[j]? = some y → w.cell? ((⟨B1, 0, none⟩ : Addr).add j) = some y := by
    intro j y hy
    rw [Addr.add_lit, Nat.zero_add]
    have hj : j < m := by
      have := (List.getElem?_eq_some_iff.1 hy).1
      simpa using this
    rw [cell_of_row _ B1 j _ _ _ hr1]
    simp [hj] at hy ⊢
    exact hy
  obtain ⟨y, w', hrun, ho, hEx⟩ := grow_does (w := w) (p := p) (n := n) (cap := n) (olds := olds) (ad := ⟨B1, 0, none⟩) (m := m) (c := m) (news := List.replicate m (.slice (some ⟨MB, 0, none⟩) 1 1)) hu Try.underlying34 is1 is2 is3 is4 (by rw [is5]; rfl) (by
      rcases hF with ⟨e1, e2⟩ | ⟨B, cur, e1, _⟩
      · exact .inl ⟨e1, e2, e2⟩
      · exact .inr ⟨_, e1⟩) hlo holds (by omega) (by simp) hrep (fun y hy => by rw [List.mem_replicate] at hy; rw [hy.2]; rfl) (by unfold maxLen; omega) (by omega) hop hs hx
  refine ⟨y, w', hrun, ?_, hEx⟩
  obtain ⟨g, cap, cur, q1, q2, q3, q4, q5, q6⟩ := own_some ho (.inl (by omega))
  refine ⟨g, cap, q1, by omega, q4, (Array.getElem?_eq_some_iff.1 q3).1, fun j hj => ?_⟩
  rw [cell_of_row _ g j _ _ _ q3, q6 j hj]
  by_cases e : j < n
  · rw [List.getElem?_append_left (by omega)]
    exact hz j e
  · rw [List.getElem?_append_right (by omega)]
    simp only [List.getElem?_replicate]
    rw [if_pos (by omega)]
/-- The book has an entry more in its second list. -/
theorem Book.addL {N OB nb nl n a MB : Nat} {O : Nat → Prop} {bv lv lv' y' : Value} {p : Option Addr} {w w2 w3 w4 : World} {xs : List Value} (h : Book N OB O nb nl bv lv w) (hn : n ≤ 14) (ha : a ≤ MB) (hOBa : OB < a) (hba : ∀ g, bv.ownBlock = some g → g < a) (hla : ∀ g, lv.ownBlock = some g → g < a) (hMB : w.heap[MB]? = some (.cells #[.int .u8 ((mrk nl : Nat) : Int)] 5)) (hF : FullL N w p n (.slice (some ⟨MB, 0, none⟩) 1 1)) (hE : Ext w w2) (hxs : w.ownsRow N 27 1 lv nl xs) (hent : ∀ i, i < nl → ∃ y, xs[i]? = some y ∧ LsE O w (mrk i) y)
    (hEnt : EntL w.heap.size n (.slice (some ⟨MB, 0, none⟩) 1 1) (.slice p n n) y' w2) (hown : w3.ownsRow N 27 1 lv' (nl + 1) (xs ++ [y'])) (hg : Gr w2 w3 lv.ownBlock) (hblk : ∀ g, lv'.ownBlock = some g → lv.ownBlock = some g ∨ w2.heap.size ≤ g) (hW : Wr w3 OB (.cells #[bv, lv', .slice none 0 0, .slice none 0 0] 32) w4) :
    Book N OB (addO O p a w2.heap.size) nb (nl + 1) bv lv' w4 := by
  have hOB : OB < w.heap.size := (Array.getElem?_eq_some_iff.1 h.row).1
  have hMlt : MB < w.heap.size := (Array.getElem?_eq_some_iff.1 hMB).1
  have hlvlt : ∀ g, lv.ownBlock = some g → g < w.heap.size := fun g q => (hxs.lt g q).2
  have keep1 : ∀ b, b < w2.heap.size → b ≠ OB → lv.ownBlock ≠ some b → w4.heap[b]? = w2.heap[b]? := fun b h1 h2 h3 => by
    rw [hW.other b h2]
    exact hg.block b h1 (fun e => h3 e.symm)
  have keepO : ∀ b, O b → w4.heap[b]? = w.heap[b]? := fun b hb => by
    have hlt := h.lt b hb
    rw [keep1 b (Nat.lt_of_lt_of_le hlt hE.size) (fun e => h.obO (e ▸ hb)) (fun e => h.ls.out b e hb)]
    exact hE.block b hlt
  have hsz : w2.heap.size ≤ w4.heap.size := by rw [hW.size]; exact hg.size
  have hK : KeepO O w w4 := ⟨Nat.le_trans hE.size hsz, keepO⟩
  have hwE := hE.size
  have hBl : ∀ B, p = some ⟨B, 0, none⟩ → B < w.heap.size ∧ N ≤ B ∧ B ≠ OB ∧ bv.ownBlock ≠ some B ∧ lv.ownBlock ≠ some B := by
    intro B hB
    rcases hF with ⟨e, _⟩ | ⟨B', cur, e, q1, q2, q3, q4⟩
    · rw [e] at hB; cases hB
    · rw [e] at hB
      cases hB
      exact ⟨(Array.getElem?_eq_some_iff.1 q2).1, q1, h.apart q2 (.inr rfl)⟩
  have hm1 : ∀ {B : Nat}, B < w2.heap.size → B ≠ OB → lv.ownBlock ≠ some B → ∀ j x, w2.cell? ⟨B, j, none⟩ = some x → w4.cell? ⟨B, j, none⟩ = some x := fun h1 h2 h3 j x hx => by
    rw [← hx]
    exact World.cell?_of_block (keep1 _ h1 h2 h3)
  have hMB4 : w4.cell? ⟨MB, 0, none⟩ = some (.int .u8 ((mrk nl : Nat) : Int)) :=
    hm1 (by omega) (by omega) (fun e => by have := hla MB e; omega) 0 _ (hE.cell ((cell_of_row _ MB 0 _ _ _ hMB).trans rfl))
  have hOM : addO O p a w2.heap.size MB := .inr (.inr ⟨ha, by omega⟩)
  have hmk : ∀ {k : Nat} {e : Value}, k ≤ 5000 → MksL w.heap.size k (.slice (some ⟨MB, 0, none⟩) 1 1) e w2 → MarkL (addO O p a w2.heap.size) w4 (mrk nl) e := by
    rintro k e hk ⟨B, cap, q1, q2, q3, q4, q5⟩
    refine ⟨_, _, _, q1, hk, .inr ⟨B, rfl, .inr (.inr ⟨by omega, q4⟩), q3, Nat.lt_of_lt_of_le q4 hsz, fun j hj => ⟨MB, 1, ?_, hOM, by omega, hMB4⟩⟩⟩
    exact hm1 q4 (by omega) (fun e => by have := hlvlt B e; omega) j _ (q5 j hj)
  have hge : ∀ b, addO O p a w2.heap.size b → N ≤ b := by
    rintro b (q | ⟨B, q1, rfl⟩ | ⟨q, _⟩)
    · exact h.ge b q
    · exact (hBl _ q1).2.1
    · have := h.new
      omega
  refine ⟨h.new, hW.at_, ?_, ?_, hge, ⟨?_, ?_⟩, ⟨⟨xs ++ [y'], ?_, fun i hi => ?_⟩, ?_⟩⟩
  · rintro (q | ⟨B, q1, e⟩ | ⟨q, _⟩)
    · exact h.obO q
    · exact (hBl B q1).2.2.1 e.symm
    · omega
  · rintro b (q | ⟨B, q1, rfl⟩ | ⟨_, q⟩)
    · exact Nat.lt_of_lt_of_le (h.lt b q) (Nat.le_trans hE.size hsz)
    · exact Nat.lt_of_lt_of_le (hBl _ q1).1 (Nat.le_trans hE.size hsz)
    · omega
  · obtain ⟨ys, q1, q2⟩ := h.bs.own
    refine ⟨ys, ⟨q1.1, q1.2.imp id ?_⟩, fun i hi => ?_⟩
    · rintro ⟨g, cap, cur, r1, r2, r3, r4⟩
      refine ⟨g, cap, cur, r1, r2, ?_, r4⟩
      have hlt := (Array.getElem?_eq_some_iff.1 r3).1
      rw [keep1 g (Nat.lt_of_lt_of_le hlt hE.size)]
      · exact hE.row r3
      · rintro rfl
        rw [h.row] at r3
        simp at r3
      · intro e
        obtain ⟨c', hc'⟩ := own_type hxs e
        rw [r3] at hc'
        simp at hc'
    · obtain ⟨y, r1, r2⟩ := q2 i hi
      exact ⟨y, r1, r2.keep hK fun b q => .inl q⟩
  · intro g hg' hO
    rcases hO with q | ⟨B, q1, rfl⟩ | ⟨q, _⟩
    · exact h.bs.out g hg' q
    · exact (hBl _ q1).2.2.2.1 hg'
    · have := hba g hg'
      omega
  · refine ⟨hown.1, hown.2.imp id ?_⟩
    rintro ⟨g, cap, cur, q1, q2, q3, q4⟩
    refine ⟨g, cap, cur, q1, q2, ?_, q4⟩
    rw [hW.other g]
    · exact q3
    · rintro rfl
      rcases hblk g (by rw [q1]; rfl) with e | e
      · obtain ⟨c', hc'⟩ := own_type hxs e
        rw [h.row] at hc'
        simp at hc'
      · omega
  · have hxl := hxs.1
    simp only [Nat.mul_one] at hxl
    by_cases e : i < nl
    · obtain ⟨y, q1, q2⟩ := hent i e
      exact ⟨y, by rw [List.getElem?_append_left (by omega)]; exact q1, q2.keep hK fun b q => .inl q⟩
    · obtain rfl : i = nl := by omega
      obtain ⟨E, e1, e2, e3, r1, r2, r3, r4, r5, r6⟩ := hEnt
      have hElt := (Array.getElem?_eq_some_iff.1 r3).1
      refine ⟨y', by simp [hxl], E, .slice p n n, e1, e2, e3, r1, .inr (.inr ⟨by omega, hElt⟩), ?_, ?_, hmk (by omega) r4, hmk (by omega) r5, hmk (by omega) r6⟩
      · rw [keep1 E hElt (by omega) fun e => by have := hlvlt E e; omega]
        exact r3
      · rcases hF with ⟨rfl, rfl⟩ | ⟨B, cur, rfl, q1, q2, q3, q4⟩
        · exact ⟨_, _, _, rfl, by omega, .inl ⟨rfl, rfl, rfl⟩⟩
        · obtain ⟨s1, s2, s3, s4, s5⟩ := hBl B rfl
          refine ⟨_, _, _, rfl, by omega, .inr ⟨B, rfl, .inr (.inl ⟨B, rfl, rfl⟩), Nat.le_refl _, Nat.lt_of_lt_of_le s1 (Nat.le_trans hE.size hsz), fun j hj => ⟨MB, 1, ?_, hOM, by omega, hMB4⟩⟩⟩
          exact hm1 (by omega) s3 s5 j _ (hE.cell ((cell_of_row _ B j _ _ _ q2).trans (q4 j hj)))
  · intro g hg' hO
    rcases hblk g hg' with e | e
    · rcases hO with q | ⟨B, q1, rfl⟩ | ⟨q, _⟩
      · exact h.ls.out g e q
      · exact (hBl _ q1).2.2.2.2 e
      · have := hla g e
        omega
    · rcases hO with q | ⟨B, q1, rfl⟩ | ⟨_, q⟩
      · have := h.lt g q
        omega
      · have := (hBl _ q1).1
        omega
      · omega
end Go.Proofs.Ytpiefebngnlfoaa

/-
  mosaiclaw.book.pieces: its walk.
-/
set_option linter.unusedVariables false
set_option linter.unusedSimpArgs false
namespace Go.Proofs.Ytpiefebngnlfoaa
open Go.RowKit Go.Conc Go.Vw

set_option maxRecDepth 100000 in
theorem infoQ : ∃ i z, Try.prog.info? 27 = some i ∧ i.zero = some z ∧ i.size = 1 ∧ i.bytes = 24 ∧ z.cells = #[z] := ⟨_, _, rfl, rfl, rfl, rfl, rfl⟩
set_option maxRecDepth 100000 in
set_option maxHeartbeats 8000000 in
theorem bk_r9 {S : Nat → Prop} {w : World} {f : Nat → Value} {Stop : Goroutine → (Nat → Prop) → World → Prop} {cs : List Frame} {k0 : List Item} (N OB nb nl n a MB : Nat) (O : Nat → Prop) (bv lv : Value) (p : Option Addr) (hn : n ≤ 14) (hnl : nl ≤ 100000) (hB : Book N OB O nb nl bv lv w) (ha : a ≤ MB) (hOBa : OB < a) (hba : ∀ g, bv.ownBlock = some g → g < a) (hla : ∀ g, lv.ownBlock = some g → g < a) (hMB : w.heap[MB]? = some (.cells #[.int .u8 ((mrk nl : Nat) : Int)] 5)) (hF : FullL N w p n (.slice (some ⟨MB, 0, none⟩) 1 1)) (f0 : f 0 = .pointer (some ⟨OB, 0, none⟩)) (f1 : f 1 = .slice p n n) (f5 : f 5 = .slice (some ⟨MB, 0, none⟩) 1 1)
    (next : ∀ f' w' lv' w2, Ext w w2 → Frm N (fun _ => False) w w' → Book N OB (addO O p a w2.heap.size) nb (nl + 1) bv lv' w' → Vw.Reach Try.prog Stop (G ((base 16).at ⟨TA 65 f', []⟩ (.inRegion ((opsAt 9 (Try.f16.body.getD .skip)).getD #[]) [] :: k0)) cs) S w') :
    Vw.Reach Try.prog Stop (G ((base 16).at ⟨TA 65 f, []⟩ (.code (.region 9 ((opsAt 9 (Try.f16.body.getD .skip)).getD #[]) true) :: k0)) cs) S w := by
  obtain ⟨is, zs, is1, is2, is3, is4, is5⟩ := infoS
  obtain ⟨ip, zp, ip1, ip2, ip3, ip4, ip5⟩ := infoP
  obtain ⟨iq, zq, iq1, iq2, iq3, iq4, iq5⟩ := infoQ
  have e : opsAt 9 (Try.f16.body.getD .skip) = some _ := rfl
  rw [e] at next ⊢
  simp only [Option.getD_some] at next ⊢
  clear e
  refine reach_drawW (fun _ => false) goodFF (by first | kernel_rfl | rfl) ?_
  simp only [List.size_toArray, List.length_cons, List.length_nil, Nat.reduceAdd, Nat.zero_add]
  co_applyP anyW_free (i := 0) rfl (by first | kernel_rfl | decide +kernel) (by first | kernel_rfl | decide +kernel) (by first | kernel_rfl | decide +kernel) (by first | rfl | (simp [Region.wanted, yielded, TA_get, *]; done)) (by kernel_rfl) (fun _ => run_eq_of ?run1_0) ?rest1_0
  case run1_0 =>
    intro K_ hK_
    (skip)
    go_simp
    (try rw [wrapI _ (by omega) (by omega)])
    exact hK_
  simp only [stO_some, stO_none]
  refine anyW_phase (lo := 1) (hi := 26) (dep := fun i => if i = 26 then 9 else 1) (lsp OB w.heap.size n lv (.slice (some ⟨MB, 0, none⟩) 1 1) (.slice p n n)) 4 (fun _ => rfl) (by first | kernel_rfl | decide +kernel) (fun i y w w' => lsp_stable OB _ n lv _ _ i y w w') ?step ?fin
  case step =>
    intro i o hlo hhi ho f' w' hE hdep hfr
    have hN : w.heap.size ≤ w'.heap.size := hE.size
    have g0 : f' 0 = .pointer (some ⟨OB, 0, none⟩) := (hfr 0 fun j a b => (by decide +kernel : ∀ j, j < 26 → 1 ≤ j → dstAt _ j ≠ 0) j b a).trans (by simp [f0])
    have g1 : f' 1 = .slice p n n := (hfr 1 fun j a b => (by decide +kernel : ∀ j, j < 26 → 1 ≤ j → dstAt _ j ≠ 1) j b a).trans (by simp [f1])
    have g5 : f' 5 = .slice (some ⟨MB, 0, none⟩) 1 1 := (hfr 5 fun j a b => (by decide +kernel : ∀ j, j < 26 → 1 ≤ j → dstAt _ j ≠ 5) j b a).trans (by simp [f5])
    have hrow := hE.cell ((cell_of_row _ OB 1 _ _ _ hB.row).trans (by rfl : _ = some lv))
    have hi : i = 1 ∨ i = 2 ∨ i = 3 ∨ i = 4 ∨ i = 5 ∨ i = 6 ∨ i = 7 ∨ i = 8 ∨ i = 9 ∨ i = 10 ∨ i = 11 ∨ i = 12 ∨ i = 13 ∨ i = 14 ∨ i = 15 ∨ i = 16 ∨ i = 17 ∨ i = 18 ∨ i = 19 ∨ i = 20 ∨ i = 21 ∨ i = 22 ∨ i = 23 ∨ i = 24 ∨ i = 25 := by omega
    rcases hi with rfl | rfl | rfl | rfl | rfl | rfl | rfl | rfl | rfl | rfl | rfl | rfl | rfl | rfl | rfl | rfl | rfl | rfl | rfl | rfl | rfl | rfl | rfl | rfl | rfl
    · obtain rfl : _ = o := Option.some.inj ho
      exact does_still (x := .pointer (some ⟨OB, 0, none⟩)) rfl (by kernel_rfl) (fun u hu => run_eq_of fun K_ hK_ => by go_simp; exact hK_) (fun u hu => by simp [lsp])
    · obtain rfl : _ = o := Option.some.inj ho
      have d1 : lsp OB w.heap.size n lv (.slice (some ⟨MB, 0, none⟩) 1 1) (.slice p n n) 1 (f' 37) w' := hdep 1 (by decide +kernel) (by omega)
      simp [lsp] at d1
      exact does_still (x := .pointer (some ⟨OB, 0, none⟩)) rfl (by kernel_rfl) (fun u hu => run_eq_of fun K_ hK_ => by go_simp; exact hK_) (fun u hu => by simp [lsp])
    · obtain rfl : _ = o := Option.some.inj ho
      have d2 : lsp OB w.heap.size n lv (.slice (some ⟨MB, 0, none⟩) 1 1) (.slice p n n) 2 (f' 38) w' := hdep 2 (by decide +kernel) (by omega)
      simp [lsp] at d2
      exact does_still (x := .pointer (some ⟨OB, 1, none⟩)) rfl (by kernel_rfl) (fun u hu => run_eq_of fun K_ hK_ => by go_simp; exact hK_) (fun u hu => by simp [lsp])
    · obtain rfl : _ = o := Option.some.inj ho
      have d3 : lsp OB w.heap.size n lv (.slice (some ⟨MB, 0, none⟩) 1 1) (.slice p n n) 3 (f' 39) w' := hdep 3 (by decide +kernel) (by omega)
      simp [lsp] at d3
      exact does_still (x := lv) rfl (by kernel_rfl) (fun u hu => run_eq_of fun K_ hK_ => by have hc := (Ext.twin hu).cell hrow; go_simp; exact hK_) (fun u hu => by simp [lsp])
    · obtain rfl : _ = o := Option.some.inj ho
      exact does_still (x := .slice p n n) rfl (by kernel_rfl) (fun u hu => run_eq_of fun K_ hK_ => by go_simp; exact hK_) (fun u hu => by simp [lsp])
    · obtain rfl : _ = o := Option.some.inj ho
      exact does_still (x := .slice p n n) rfl (by kernel_rfl) (fun u hu => run_eq_of fun K_ hK_ => by go_simp; exact hK_) (fun u hu => by simp [lsp])
    · obtain rfl : _ = o := Option.some.inj ho
      exact does_still (x := .slice (some ⟨MB, 0, none⟩) 1 1) rfl (by kernel_rfl) (fun u hu => run_eq_of fun K_ hK_ => by go_simp; exact hK_) (fun u hu => by simp [lsp])
    · obtain rfl : _ = o := Option.some.inj ho
      have d7 : lsp OB w.heap.size n lv (.slice (some ⟨MB, 0, none⟩) 1 1) (.slice p n n) 7 (f' 43) w' := hdep 7 (by decide +kernel) (by omega)
      simp [lsp] at d7
      refine does_alloc (ob := .cells #[.slice (some ⟨MB, 0, none⟩) 1 1] 25) (x := fun b => .slice (some ⟨b, 0, none⟩) 1 1) rfl (by kernel_rfl) (fun u => run_build1 rfl Try.underlying34 is1 is2 is3 is5 (by simp [d7]) rfl u) (fun u hu hr => ?_)
      simp [lsp]
      exact ⟨_, rfl, hN, hr⟩
    · obtain rfl : _ = o := Option.some.inj ho
      have d6 : lsp OB w.heap.size n lv (.slice (some ⟨MB, 0, none⟩) 1 1) (.slice p n n) 6 (f' 42) w' := hdep 6 (by decide +kernel) (by omega)
      simp [lsp] at d6
      have d8 : lsp OB w.heap.size n lv (.slice (some ⟨MB, 0, none⟩) 1 1) (.slice p n n) 8 (f' 44) w' := hdep 8 (by decide +kernel) (by omega)
      simp [lsp] at d8
      refine does_grow (Q := MksL w.heap.size (n + 1) (.slice (some ⟨MB, 0, none⟩) 1 1)) rfl (by kernel_rfl) (fun u hu => fullL_grow (u' := u) hF hE hn (by omega) (by omega) hN d8 hu rfl (by simp [d6]) (by simp)) (fun y u hq hx => ?_)
      simp [lsp]
      exact hq
    · obtain rfl : _ = o := Option.some.inj ho
      exact does_still (x := .slice p n n) rfl (by kernel_rfl) (fun u hu => run_eq_of fun K_ hK_ => by go_simp; exact hK_) (fun u hu => by simp [lsp])
    · obtain rfl : _ = o := Option.some.inj ho
      exact does_still (x := .slice (some ⟨MB, 0, none⟩) 1 1) rfl (by kernel_rfl) (fun u hu => run_eq_of fun K_ hK_ => by go_simp; exact hK_) (fun u hu => by simp [lsp])
    · obtain rfl : _ = o := Option.some.inj ho
      exact does_still (x := .slice (some ⟨MB, 0, none⟩) 1 1) rfl (by kernel_rfl) (fun u hu => run_eq_of fun K_ hK_ => by go_simp; exact hK_) (fun u hu => by simp [lsp])
    · obtain rfl : _ = o := Option.some.inj ho
      have d11 : lsp OB w.heap.size n lv (.slice (some ⟨MB, 0, none⟩) 1 1) (.slice p n n) 11 (f' 47) w' := hdep 11 (by decide +kernel) (by omega)
      simp [lsp] at d11
      have d12 : lsp OB w.heap.size n lv (.slice (some ⟨MB, 0, none⟩) 1 1) (.slice p n n) 12 (f' 48) w' := hdep 12 (by decide +kernel) (by omega)
      simp [lsp] at d12
      refine does_alloc (ob := .cells #[.slice (some ⟨MB, 0, none⟩) 1 1, .slice (some ⟨MB, 0, none⟩) 1 1] 25) (x := fun b => .slice (some ⟨b, 0, none⟩) 2 2) rfl (by kernel_rfl) (fun u => run_build2 rfl Try.underlying34 is1 is2 is3 is5 (by simp [d11]) rfl (by simp [d12]) rfl u) (fun u hu hr => ?_)
      simp [lsp]
      exact ⟨_, rfl, hN, hr⟩
    · obtain rfl : _ = o := Option.some.inj ho
      have d10 : lsp OB w.heap.size n lv (.slice (some ⟨MB, 0, none⟩) 1 1) (.slice p n n) 10 (f' 46) w' := hdep 10 (by decide +kernel) (by omega)
      simp [lsp] at d10
      have d13 : lsp OB w.heap.size n lv (.slice (some ⟨MB, 0, none⟩) 1 1) (.slice p n n) 13 (f' 49) w' := hdep 13 (by decide +kernel) (by omega)
      simp [lsp] at d13
      refine does_grow (Q := MksL w.heap.size (n + 2) (.slice (some ⟨MB, 0, none⟩) 1 1)) rfl (by kernel_rfl) (fun u hu => fullL_grow (u' := u) hF hE hn (by omega) (by omega) hN d13 hu rfl (by simp [d10]) (by simp)) (fun y u hq hx => ?_)
      simp [lsp]
      exact hq
    · obtain rfl : _ = o := Option.some.inj ho
      exact does_still (x := .slice p n n) rfl (by kernel_rfl) (fun u hu => run_eq_of fun K_ hK_ => by go_simp; exact hK_) (fun u hu => by simp [lsp])
    · obtain rfl : _ = o := Option.some.inj ho
      exact does_still (x := .slice (some ⟨MB, 0, none⟩) 1 1) rfl (by kernel_rfl) (fun u hu => run_eq_of fun K_ hK_ => by go_simp; exact hK_) (fun u hu => by simp [lsp])
    · obtain rfl : _ = o := Option.some.inj ho
      exact does_still (x := .slice (some ⟨MB, 0, none⟩) 1 1) rfl (by kernel_rfl) (fun u hu => run_eq_of fun K_ hK_ => by go_simp; exact hK_) (fun u hu => by simp [lsp])
    · obtain rfl : _ = o := Option.some.inj ho
      exact does_still (x := .slice (some ⟨MB, 0, none⟩) 1 1) rfl (by kernel_rfl) (fun u hu => run_eq_of fun K_ hK_ => by go_simp; exact hK_) (fun u hu => by simp [lsp])
    · obtain rfl : _ = o := Option.some.inj ho
      exact does_still (x := .slice (some ⟨MB, 0, none⟩) 1 1) rfl (by kernel_rfl) (fun u hu => run_eq_of fun K_ hK_ => by go_simp; exact hK_) (fun u hu => by simp [lsp])
    · obtain rfl : _ = o := Option.some.inj ho
      exact does_still (x := .slice (some ⟨MB, 0, none⟩) 1 1) rfl (by kernel_rfl) (fun u hu => run_eq_of fun K_ hK_ => by go_simp; exact hK_) (fun u hu => by simp [lsp])
    · obtain rfl : _ = o := Option.some.inj ho
      exact does_still (x := .slice (some ⟨MB, 0, none⟩) 1 1) rfl (by kernel_rfl) (fun u hu => run_eq_of fun K_ hK_ => by go_simp; exact hK_) (fun u hu => by simp [lsp])
    · obtain rfl : _ = o := Option.some.inj ho
      have d16 : lsp OB w.heap.size n lv (.slice (some ⟨MB, 0, none⟩) 1 1) (.slice p n n) 16 (f' 52) w' := hdep 16 (by decide +kernel) (by omega)
      simp [lsp] at d16
      have d17 : lsp OB w.heap.size n lv (.slice (some ⟨MB, 0, none⟩) 1 1) (.slice p n n) 17 (f' 53) w' := hdep 17 (by decide +kernel) (by omega)
      simp [lsp] at d17
      have d18 : lsp OB w.heap.size n lv (.slice (some ⟨MB, 0, none⟩) 1 1) (.slice p n n) 18 (f' 54) w' := hdep 18 (by decide +kernel) (by omega)
      simp [lsp] at d18
      have d19 : lsp OB w.heap.size n lv (.slice (some ⟨MB, 0, none⟩) 1 1) (.slice p n n) 19 (f' 55) w' := hdep 19 (by decide +kernel) (by omega)
      simp [lsp] at d19
      have d20 : lsp OB w.heap.size n lv (.slice (some ⟨MB, 0, none⟩) 1 1) (.slice p n n) 20 (f' 56) w' := hdep 20 (by decide +kernel) (by omega)
      simp [lsp] at d20
      have d21 : lsp OB w.heap.size n lv (.slice (some ⟨MB, 0, none⟩) 1 1) (.slice p n n) 21 (f' 57) w' := hdep 21 (by decide +kernel) (by omega)
      simp [lsp] at d21
      refine does_alloc (ob := .cells #[.slice (some ⟨MB, 0, none⟩) 1 1, .slice (some ⟨MB, 0, none⟩) 1 1, .slice (some ⟨MB, 0, none⟩) 1 1, .slice (some ⟨MB, 0, none⟩) 1 1, .slice (some ⟨MB, 0, none⟩) 1 1, .slice (some ⟨MB, 0, none⟩) 1 1] 25) (x := fun b => .slice (some ⟨b, 0, none⟩) 6 6) rfl (by kernel_rfl) (fun u => run_build6 rfl Try.underlying34 is1 is2 is3 is5 (by simp [d16]) rfl (by simp [d17]) rfl (by simp [d18]) rfl (by simp [d19]) rfl (by simp [d20]) rfl (by simp [d21]) rfl u) (fun u hu hr => ?_)
      simp [lsp]
      exact ⟨_, rfl, hN, hr⟩
    · obtain rfl : _ = o := Option.some.inj ho
      have d15 : lsp OB w.heap.size n lv (.slice (some ⟨MB, 0, none⟩) 1 1) (.slice p n n) 15 (f' 51) w' := hdep 15 (by decide +kernel) (by omega)
      simp [lsp] at d15
      have d22 : lsp OB w.heap.size n lv (.slice (some ⟨MB, 0, none⟩) 1 1) (.slice p n n) 22 (f' 58) w' := hdep 22 (by decide +kernel) (by omega)
      simp [lsp] at d22
      refine does_grow (Q := MksL w.heap.size (n + 6) (.slice (some ⟨MB, 0, none⟩) 1 1)) rfl (by kernel_rfl) (fun u hu => fullL_grow (u' := u) hF hE hn (by omega) (by omega) hN d22 hu rfl (by simp [d15]) (by simp)) (fun y u hq hx => ?_)
      simp [lsp]
      exact hq
    · obtain rfl : _ = o := Option.some.inj ho
      have d5 : lsp OB w.heap.size n lv (.slice (some ⟨MB, 0, none⟩) 1 1) (.slice p n n) 5 (f' 41) w' := hdep 5 (by decide +kernel) (by omega)
      simp [lsp] at d5
      have d9 : lsp OB w.heap.size n lv (.slice (some ⟨MB, 0, none⟩) 1 1) (.slice p n n) 9 (f' 45) w' := hdep 9 (by decide +kernel) (by omega)
      simp [lsp] at d9
      have d14 : lsp OB w.heap.size n lv (.slice (some ⟨MB, 0, none⟩) 1 1) (.slice p n n) 14 (f' 50) w' := hdep 14 (by decide +kernel) (by omega)
      simp [lsp] at d14
      have d23 : lsp OB w.heap.size n lv (.slice (some ⟨MB, 0, none⟩) 1 1) (.slice p n n) 23 (f' 59) w' := hdep 23 (by decide +kernel) (by omega)
      simp [lsp] at d23
      obtain ⟨B1, c1, m1, _⟩ := id d9
      obtain ⟨B2, c2, m2, _⟩ := id d14
      obtain ⟨B3, c3, m3, _⟩ := id d23
      refine does_alloc (ob := .cells #[.slice p n n, f' 45, f' 50, f' 59] 34) (x := fun b => .slice (some ⟨b, 0, none⟩) 4 4) rfl (by kernel_rfl) (fun u => run_build4 rfl Try.underlying27 ip1 ip2 ip3 ip5 (by simp [d5]) rfl (by simp) (by rw [m1]; rfl) (by simp) (by rw [m2]; rfl) (by simp) (by rw [m3]; rfl) u) (fun u hu hr => ?_)
      simp [lsp]
      exact ⟨_, _, _, _, rfl, hN, hr, d9.ext hu, d14.ext hu, d23.ext hu⟩
    · obtain rfl : _ = o := Option.some.inj ho
      have d24 : lsp OB w.heap.size n lv (.slice (some ⟨MB, 0, none⟩) 1 1) (.slice p n n) 24 (f' 60) w' := hdep 24 (by decide +kernel) (by omega)
      simp [lsp] at d24
      obtain ⟨E1, _, _, _, m1, _⟩ := id d24
      refine does_alloc (ob := .cells #[f' 60] 27) (x := fun b => .slice (some ⟨b, 0, none⟩) 1 1) rfl (by kernel_rfl) (fun u => run_build1 rfl Try.underlying28 iq1 iq2 iq3 iq5 (by simp) (by rw [m1]; rfl) u) (fun u hu hr => ?_)
      simp [lsp]
      exact ⟨_, hr, d24.ext hu⟩
  case fin =>
    intro f' w2 hE hsp hfr
    have d4 : lsp OB w.heap.size n lv (.slice (some ⟨MB, 0, none⟩) 1 1) (.slice p n n) 4 (f' 40) w2 := hsp 4 (by omega) (by omega)
    have d25 : lsp OB w.heap.size n lv (.slice (some ⟨MB, 0, none⟩) 1 1) (.slice p n n) 25 (f' 61) w2 := hsp 25 (by omega) (by omega)
    simp [lsp] at d4 d25
    obtain ⟨B, d61, y', hr25, hEnt⟩ := d25
    have g36 : f' 36 = .pointer (some ⟨OB, 0, none⟩) := (hfr 36 fun j a b => (by decide +kernel : ∀ j, j < 26 → 1 ≤ j → dstAt _ j ≠ 36) j b a).trans (by simp [f0])
    obtain ⟨xs, hxs, hent⟩ := hB.ls.own
    have gw : Gr w w2 none := ⟨hE.os, hE.output, hE.size, fun b hb _ => hE.block b hb⟩
    have hyc : y'.oneCell' = true := by
      obtain ⟨E1, _, _, _, m1, _⟩ := hEnt
      rw [m1]
      rfl
    refine anyW_only (i := 26) rfl (by first | kernel_rfl | decide +kernel) rfl (by kernel_rfl) (fun u hu => append_does2 (s := .tmp 40) (x := .tmp 61) (ad := ⟨B, 0, none⟩) (m := 1) (c := 1) (news := [y']) hu N Try.underlying28 iq1 iq2 iq3 iq4 (by rw [iq5]; rfl) (own_gr hxs gw (by simp)) rfl (by omega) (one_cellB hr25) (fun y hy => by rw [List.mem_singleton] at hy; subst hy; exact hyc) (by unfold maxLen; omega) (by omega) (by have := hB.new; have := (Array.getElem?_eq_some_iff.1 hB.row).1; have := hE.size; omega) rfl (by simp [d4]) (by simp [d61])) ?_
    rintro lv' w3 ⟨hs', hg3, hblk⟩
    simp only [stO_some]
    have hOB3 : w3.heap[OB]? = some (.cells #[bv, lv, .slice none 0 0, .slice none 0 0] 32) := hg3.row (hE.row hB.row) fun e => by
      obtain ⟨c', hc'⟩ := own_type hxs e.symm
      rw [hB.row] at hc'
      simp at hc'
    co_applyP anyW_still (i := 27) rfl (by first | kernel_rfl | decide +kernel) (by first | rfl | (simp [Region.wanted, yielded, TA_get, *]; done)) (by kernel_rfl) (fun _ hu_ => run_eq_of ?run2_27) ?rest2_27
    case run2_27 =>
      intro K_ hK_
      (skip)
      go_simp
      (try rw [wrapI _ (by omega) (by omega)])
      exact hK_
    simp only [stO_some, stO_none]
    co_applyP anyW_still (i := 28) rfl (by first | kernel_rfl | decide +kernel) (by first | rfl | (simp [Region.wanted, yielded, TA_get, *]; done)) (by kernel_rfl) (fun _ hu_ => run_eq_of ?run3_28) ?rest3_28
    case run3_28 =>
      intro K_ hK_
      (skip)
      go_simp
      (try rw [wrapI _ (by omega) (by omega)])
      exact hK_
    simp only [stO_some, stO_none]
    refine anyW_only (i := 29) rfl (by first | kernel_rfl | decide +kernel) rfl (by kernel_rfl) (fun u hu => store_does (x := .tmp 64) (y := .tmp 62) (j := 1) (z := lv') hu hOB3 (by simp) (own_cells hs').1 (own_cells hs').2 rfl (by simp) (by simp) (by kernel_rfl)) ?_ (by rfl)
    rintro x1 w4 hW
    simp only [stO_none]
    refine anyW_done (by first | kernel_rfl | decide +kernel) ?_ _
    exact next _ w4 lv' w2 hE (hB.frm (.inr rfl) hE hg3 hW) (hB.addL hn ha hOBa hba hla hMB hF hE hxs hent hEnt hs' hg3 hblk (by simpa using hW))
end Go.Proofs.Ytpiefebngnlfoaa

/-
  mosaiclaw.book.pieces: its contract.
-/
set_option linter.unusedVariables false
set_option linter.unusedSimpArgs false
namespace Go.Proofs.Ytpiefebngnlfoaa
open Go.RowKit Go.Conc Go.Vw

/-- A list of pieces that may be written full: none, or fourteen, which are not the book's. -/
structure PcO (N : Nat) (O : Nat → Prop) (w : World) (BA : Nat) (PB : Nat → Nat) (m : Nat) : Prop where
  newA : N ≤ BA
  ba : w.heap[BA]? = some (.cells (allA fun k => sl (PB k) m) 25)
  outA : ¬ O BA
  newP : ∀ k, k < 14 → N ≤ PB k
  pb : ∀ k, k < 14 → ∃ cur, w.heap[PB k]? = some (.cells cur 5) ∧ cur.size = m
  outP : ∀ k, k < 14 → ¬ O (PB k)
  inj : ∀ k k', k < 14 → k' < 14 → PB k = PB k' → k = k'
def PcI (N : Nat) (O : Nat → Prop) (w : World) (p : Option Addr) (n BA : Nat) (PB : Nat → Nat) (m : Nat) : Prop := (p = none ∧ n = 0) ∨ (p = some ⟨BA, 0, none⟩ ∧ n = 14 ∧ PcO N O w BA PB m)
/-- What is written. -/
def PcX (n BA : Nat) (PB : Nat → Nat) (b : Nat) : Prop := n = 14 ∧ (b = BA ∨ ∃ k, k < 14 ∧ b = PB k)
theorem PcO.ne {N BA m : Nat} {O : Nat → Prop} {w : World} {PB : Nat → Nat} (h : PcO N O w BA PB m) {k : Nat} (hk : k < 14) : BA ≠ PB k := by
  intro e
  obtain ⟨cur, q, _⟩ := h.pb k hk
  rw [← e, h.ba] at q
  simp at q

set_option maxRecDepth 100000 in
set_option maxHeartbeats 8000000 in
theorem pieces_r {S : Nat → Prop} {v : World} (N OB nb nl n BA m : Nat) (O : Nat → Prop) (bv lv : Value) (p : Option Addr) (PB : Nat → Nat) (hm : m ≤ 4000) (hnb : nb ≤ 10000) (hnl : nl ≤ 10000) (hB : Book N OB O nb nl bv lv v) (hl : PcI N O v p n BA PB m) :
    CallsR Try.prog 16 #[.pointer (some ⟨OB, 0, none⟩), .slice p n n] S v fun x S' v' => x = .tuple #[] ∧ S' = S ∧ ∃ O' bv' lv', Frm N (PcX n BA PB) v v' ∧ Book N OB O' (nb + n) (nl + 1) bv' lv' v' ∧ ∀ b, O' b → O b ∨ PcX n BA PB b ∨ v.heap.size ≤ b := by
  obtain ⟨ib, zb, ib1, ib2, ib3, ib4, ib5⟩ := infoB'
  have hn14 : n ≤ 14 := by rcases hl with ⟨_, e⟩ | ⟨_, e, _⟩ <;> omega
  refine callsR_body Try.func16 rfl Try.ntmps16 (by simp) fun Stop cc cs ret => ?_
  have g0 : argF #[.pointer (some ⟨OB, 0, none⟩), .slice p n n] 0 = .pointer (some ⟨OB, 0, none⟩) := rfl
  have g1 : argF #[.pointer (some ⟨OB, 0, none⟩), .slice p n n] 1 = .slice p n n := rfl
  generalize argF #[.pointer (some ⟨OB, 0, none⟩), .slice p n n] = f at g0 g1
  repeat (first|refine rA ?_|refine rB ?_|refine rC ?_|refine rD ?_|(refine rR ?_;simp only [tO, Nat.reduceAdd])|refine rE ?_|(refine rO goodFF rfl ?_;intro _ hu_ K_ hK_;go_simp;(try rw [wI _]);(try rw [wU _]);refine hK_ _ ?_;clear hK_ K_ hu_;simp only [sS, sN])|(refine rP rfl ?_;simp only [sS, sN]))
  refine reach_rounds (fun d f' S' w => ∃ i, d = n - i ∧ i ≤ n ∧ S' = S ∧ (∃ Oi bvi, Frm N (fun b => n = 14 ∧ ∃ k, k < i ∧ b = PB k) v w ∧ Book N OB Oi (nb + i) nl bvi lv w ∧ ∀ b, Oi b → O b ∨ (n = 14 ∧ ∃ k, k < i ∧ b = PB k) ∨ v.heap.size ≤ b) ∧ f' 0 = .pointer (some ⟨OB, 0, none⟩) ∧ f' 1 = .slice p n n ∧ f' 4 = .int .i64 (i : Nat)) n ⟨0, by omega, by omega, rfl, ⟨O, bv, .refl _ _ _, hB, fun b q => .inl q⟩, by simp [g0], by simp [g1], by simp⟩ ?_
  clear g0 g1 f
  rintro d f S' w ⟨i, rfl, hi, eS, ⟨Oi, bvi, hFr, hBi, hOi⟩, g0, g1, g4⟩ nxt
  subst S'
  repeat (first|refine rA ?_|refine rB ?_|refine rC ?_|refine rD ?_|(refine rR ?_;simp only [tO, Nat.reduceAdd])|refine rE ?_|(refine rO goodFF rfl ?_;intro _ hu_ K_ hK_;go_simp;(try rw [wI _]);(try rw [wU _]);refine hK_ _ ?_;clear hK_ K_ hu_;simp only [sS, sN])|(refine rP rfl ?_;simp only [sS, sN]))
  by_cases hlt : i < n
  · have hiI : (i : Int) < (n : Int) := by omega
    obtain ⟨rfl, rfl, hP⟩ : p = some ⟨BA, 0, none⟩ ∧ n = 14 ∧ PcO N O v BA PB m := by
      rcases hl with ⟨_, e⟩ | h
      · omega
      · exact h
    have hiI' : (i : Int) < 14 := by omega
    have hbaw := hFr.kept BA _ hP.ba (fun ⟨_, k, hk, e⟩ => hP.ne (show k < 14 by omega) e) (.inr (.inr ⟨_, rfl⟩))
    have hcA : w.cell? ⟨BA, i, none⟩ = some (sl (PB i) m) := (cell_of_row _ BA i _ _ _ hbaw).trans (allA_get _ i hlt)
    obtain ⟨cur, hcur, hcs⟩ := hP.pb i hlt
    have hpbw := hFr.kept (PB i) _ hcur (fun ⟨_, k, hk, e⟩ => by have := hP.inj i k hlt (by omega) e; omega) (.inr (.inl ⟨_, _, rfl⟩))
    have hout : ¬ Oi (PB i) := fun q => by
      rcases hOi _ q with q | ⟨_, k, hk, e⟩ | q
      · exact hP.outP i hlt q
      · have := hP.inj i k hlt (by omega) e
        omega
      · have := (Array.getElem?_eq_some_iff.1 hcur).1
        omega
    (refine reach_cond (t := true) (by simp [Act.eval, hlt]) ?_; simp only [if_true, if_false, reduceIte, Bool.false_eq_true])
    repeat (first|refine rA ?_|refine rB ?_|refine rC ?_|refine rD ?_|(refine rR ?_;simp only [tO, Nat.reduceAdd])|refine rE ?_|(refine rO goodFF rfl ?_;intro _ hu_ K_ hK_;(have hc := (Ext.twin hu_).cell hcA);go_simp;(try rw [wI _]);(try rw [wU _]);refine hK_ _ ?_;clear hK_ K_ hu_;simp only [sS, sN])|(refine rP rfl ?_;simp only [sS, sN]))
    (refine reach_callR rfl (by first | rfl | simp [Region.wanted, yielded, TA_get, *]) rfl Try.func28 (by kernel_rfl) rfl (by simp [Act.eval, *]; try rfl) (bytes_r N OB (nb + i) nl m Oi bvi lv (some ⟨PB i, 0, none⟩) hm (by omega) hBi (.inr ⟨PB i, cur, rfl, hP.newP i hlt, hpbw, hcs, hout⟩)) ?_)
    rintro _ S1 v1 _ ⟨rfl, e1, bv', b', hFr2, hB2⟩
    subst S1
    simp only [stO_some]
    repeat (first|refine rA ?_|refine rB ?_|refine rC ?_|refine rD ?_|(refine rR ?_;simp only [tO, Nat.reduceAdd])|refine rE ?_|(refine rO goodFF rfl ?_;intro _ hu_ K_ hK_;go_simp;(try rw [wI _]);(try rw [wU _]);refine hK_ _ ?_;clear hK_ K_ hu_;simp only [sS, sN])|(refine rP rfl ?_;simp only [sS, sN]))
    refine nxt _ _ _ (14 - (i + 1)) (by omega) ⟨i + 1, rfl, by omega, rfl, ⟨_, bv', ?_, hB2, fun b q => ?_⟩, by simp [g0], by simp [g1], by simp⟩
    · exact (hFr.mono fun b ⟨h1, k, hk, e⟩ => ⟨h1, k, by omega, e⟩).trans (hFr2.mono fun b e => ⟨rfl, i, by omega, by simpa using e.symm⟩)
    · rcases q with q | ⟨B, q1, q2⟩ | ⟨q, _⟩
      · rcases hOi b q with q | ⟨h1, k, hk, e⟩ | q
        · exact .inl q
        · exact .inr (.inl ⟨h1, k, by omega, e⟩)
        · exact .inr (.inr q)
      · exact .inr (.inl ⟨rfl, i, by omega, by simp at q1; omega⟩)
      · have := hFr.size
        exact .inr (.inr (by omega))
  · obtain rfl : i = n := by omega
    clear nxt hlt hi
    (refine reach_cond (t := false) (by simp [Act.eval]) ?_; simp only [if_true, if_false, reduceIte, Bool.false_eq_true])
    refine reach_exit rfl ?_
    have hc1 : w.cell? ⟨OB, 1, none⟩ = some lv := (cell_of_row _ OB 1 _ _ _ hBi.row).trans rfl
    obtain ⟨plv, clv, hlv⟩ : ∃ pl cl, lv = .slice pl nl cl := by
      obtain ⟨xs, q1, _⟩ := hBi.ls.own
      rcases q1.2 with ⟨e1, e2⟩ | ⟨g, cap, cur, e1, _⟩
      · exact ⟨none, 0, by rw [e1, e2]⟩
      · exact ⟨_, _, e1⟩
    rw [hlv] at hc1
    repeat (first|refine rA ?_|refine rB ?_|refine rC ?_|refine rD ?_|(refine rR ?_;simp only [tO, Nat.reduceAdd])|refine rE ?_|(refine rO goodFF rfl ?_;intro _ hu_ K_ hK_;(have hc := (Ext.twin hu_).cell hc1);go_simp;(try rw [wI _]);(try rw [wU _]);refine hK_ _ ?_;clear hK_ K_ hu_;simp only [sS, sN])|(refine rP rfl ?_;simp only [sS, sN]))
    (refine reach_callR rfl (by first | rfl | simp [Region.wanted, yielded, TA_get, *]) rfl Try.func37 (by kernel_rfl) rfl (by simp [Act.eval, *]; try rfl) (mark_r nl (by omega)) ?_)
    rintro _ S1 v1 _ ⟨rfl, e1, e2⟩
    subst S1 v1
    simp only [stO_some]
    refine reach_turnQ (Q := fun x w2 => x = .slice (some ⟨w.heap.size, 0, none⟩) 1 1 ∧ Ext w w2 ∧ w2.heap[w.heap.size]? = some (.cells #[.int .u8 ((mrk nl : Nat) : Int)] 5)) goodFF rfl rfl (by kernel_rfl) (fun u hu => ⟨_, _, .inl (run_build1 (x := .tmp 24) (y := .int .u8 ((mrk nl : Nat) : Int)) rfl Try.underlying25 ib1 ib2 ib3 ib5 (by simp) rfl u), by rw [hu.heap], (Ext.twin hu).trans _ _ _ (Ext.alloc _ _), by rw [← hu.heap]; exact alloc_at _ _⟩) ?_
    rintro _ w1 ⟨rfl, hE1, hr1⟩
    simp only [stO_some]
    have hB1 : Book N OB Oi (nb + i) nl bvi lv w1 := hBi.keep hE1.size fun b hb => hE1.block b (by
      rcases hb with q | rfl | q | q
      · exact hBi.lt b q
      · exact (Array.getElem?_eq_some_iff.1 hBi.row).1
      · obtain ⟨xs, q1, _⟩ := hBi.bs.own
        exact (q1.lt b q).2
      · obtain ⟨xs, q1, _⟩ := hBi.ls.own
        exact (q1.lt b q).2)
    have hOBa : OB < w.heap.size := (Array.getElem?_eq_some_iff.1 hBi.row).1
    have hba : ∀ g, bvi.ownBlock = some g → g < w.heap.size := by
      obtain ⟨xs, q1, _⟩ := hBi.bs.own
      exact fun g q => (q1.lt g q).2
    have hla : ∀ g, lv.ownBlock = some g → g < w.heap.size := by
      obtain ⟨xs, q1, _⟩ := hBi.ls.own
      exact fun g q => (q1.lt g q).2
    have hFr1 : Frm N (PcX i BA PB) v w1 := (hFr.mono fun b ⟨h1, k, hk, e⟩ => ⟨h1, .inr ⟨k, by omega, e⟩⟩).trans (.ext hE1)
    have hL1 : (p = none ∧ i = 0) ∨ ∃ cur, p = some ⟨BA, 0, none⟩ ∧ i = 14 ∧ N ≤ BA ∧ w1.heap[BA]? = some (.cells cur 25) ∧ cur.size = 14 ∧ ¬ Oi BA ∧ BA < w.heap.size := by
      rcases hl with h | ⟨h1, h2, hP⟩
      · exact .inl h
      · have hbaw := hFr.kept BA _ hP.ba (fun ⟨_, k, hk, e⟩ => hP.ne (show k < 14 by omega) e) (.inr (.inr ⟨_, rfl⟩))
        refine .inr ⟨_, h1, h2, hP.newA, hE1.row hbaw, by simp [allA], fun q => ?_, (Array.getElem?_eq_some_iff.1 hbaw).1⟩
        rcases hOi _ q with q | ⟨_, k, hk, e⟩ | q
        · exact hP.outA q
        · exact hP.ne (by omega) e
        · have := (Array.getElem?_eq_some_iff.1 hP.ba).1
          omega
    clear hc1 hBi
    repeat (first|refine rA ?_|refine rB ?_|refine rC ?_|refine rD ?_|(refine rR ?_;simp only [tO, Nat.reduceAdd])|refine rE ?_|(refine rO goodFF rfl ?_;intro _ hu_ K_ hK_;go_simp;(try rw [wI _]);(try rw [wU _]);refine hK_ _ ?_;clear hK_ K_ hu_;simp only [sS, sN])|(refine rP rfl ?_;simp only [sS, sN]))
    refine reach_rounds (fun d f' S' w2 => ∃ j, d = i - j ∧ j ≤ i ∧ S' = S ∧ (Frm N (PcX i BA PB) v w2 ∧ w2.heap.size = w1.heap.size ∧ Book N OB Oi (nb + i) nl bvi lv w2 ∧ w2.heap[w.heap.size]? = some (.cells #[.int .u8 ((mrk nl : Nat) : Int)] 5) ∧ ((p = none ∧ i = 0) ∨ ∃ cur, p = some ⟨BA, 0, none⟩ ∧ i = 14 ∧ N ≤ BA ∧ w2.heap[BA]? = some (.cells cur 25) ∧ cur.size = 14 ∧ ¬ Oi BA ∧ BA < w.heap.size ∧ ∀ c, c < j → cur[c]? = some (.slice (some ⟨w.heap.size, 0, none⟩) 1 1))) ∧ f' 0 = .pointer (some ⟨OB, 0, none⟩) ∧ f' 1 = .slice p i i ∧ f' 5 = .slice (some ⟨w.heap.size, 0, none⟩) 1 1 ∧ f' 6 = .int .i64 (j : Nat)) i ⟨0, by omega, by omega, rfl, ⟨hFr1, rfl, hB1, hr1, hL1.imp id fun ⟨cur, q1, q2, q3, q4, q5, q6, q7⟩ => ⟨cur, q1, q2, q3, q4, q5, q6, q7, fun c hc => by omega⟩⟩, by simp [g0], by simp [g1], by simp, by simp⟩ ?_
    clear hFr1 hB1 hL1 hr1 g0 g1 g4 f
    rintro d f S' w2 ⟨j, rfl, hj, eS, ⟨hFr2, hsz2, hB2, hr2, hL2⟩, g0, g1, g5, g6⟩ nxt2
    subst S'
    repeat (first|refine rA ?_|refine rB ?_|refine rC ?_|refine rD ?_|(refine rR ?_;simp only [tO, Nat.reduceAdd])|refine rE ?_|(refine rO goodFF rfl ?_;intro _ hu_ K_ hK_;go_simp;(try rw [wI _]);(try rw [wU _]);refine hK_ _ ?_;clear hK_ K_ hu_;simp only [sS, sN])|(refine rP rfl ?_;simp only [sS, sN]))
    by_cases hlj : j < i
    · obtain ⟨cur, rfl, rfl, q3, q4, q5, q6, q7, q8⟩ : ∃ cur, p = some ⟨BA, 0, none⟩ ∧ i = 14 ∧ N ≤ BA ∧ w2.heap[BA]? = some (.cells cur 25) ∧ cur.size = 14 ∧ ¬ Oi BA ∧ BA < w.heap.size ∧ ∀ c, c < j → cur[c]? = some (.slice (some ⟨w.heap.size, 0, none⟩) 1 1) := by
        rcases hL2 with ⟨_, e⟩ | h
        · omega
        · exact h
      have hjI : (j : Int) < 14 := by omega
      (refine reach_cond (t := true) (by simp [Act.eval, hlj]) ?_; simp only [if_true, if_false, reduceIte, Bool.false_eq_true])
      repeat (first|refine rA ?_|refine rB ?_|refine rC ?_|refine rD ?_|(refine rR ?_;simp only [tO, Nat.reduceAdd])|refine rE ?_|(refine rO goodFF rfl ?_;intro _ hu_ K_ hK_;go_simp;(try rw [wI _]);(try rw [wU _]);refine hK_ _ ?_;clear hK_ K_ hu_;simp only [sS, sN])|(refine rP rfl ?_;simp only [sS, sN]))
      refine reach_store1 goodFF rfl rfl (by kernel_rfl) (x := .tmp 35) (y := .tmp 34) (g := BA) (j := j) (z := .slice (some ⟨w.heap.size, 0, none⟩) 1 1) rfl (by simp) (by simp) rfl rfl q4 (by omega) (by kernel_rfl) fun w3 hW => ?_
      simp only [stO_none]
      repeat (first|refine rA ?_|refine rB ?_|refine rC ?_|refine rD ?_|(refine rR ?_;simp only [tO, Nat.reduceAdd])|refine rE ?_|(refine rO goodFF rfl ?_;intro _ hu_ K_ hK_;go_simp;(try rw [wI _]);(try rw [wU _]);refine hK_ _ ?_;clear hK_ K_ hu_;simp only [sS, sN])|(refine rP rfl ?_;simp only [sS, sN]))
      refine nxt2 _ _ _ (14 - (j + 1)) (by omega) ⟨j + 1, rfl, by omega, rfl, ⟨hFr2.trans (.wr ⟨rfl, .inl rfl⟩ hW), hW.size.trans hsz2, hB2.wr q4 (.inr rfl) q6 hW, (hW.other _ (by omega)).trans hr2, .inr ⟨_, rfl, rfl, q3, hW.at_, by simpa using q5, q6, q7, fun c hc => ?_⟩⟩, by simp [g0], by simp [g1], by simp [g5], by simp⟩
      by_cases e : c = j
      · subst e
        simp [q5, hlj]
      · rw [Array.getElem?_setIfInBounds_ne (by omega)]
        exact q8 c (by omega)
    · obtain rfl : j = i := by omega
      (refine reach_cond (t := false) (by simp [Act.eval]) ?_; simp only [if_true, if_false, reduceIte, Bool.false_eq_true])
      refine reach_exit rfl ?_
      repeat (first|refine rA ?_|refine rB ?_|refine rC ?_|refine rD ?_|(refine rR ?_;simp only [tO, Nat.reduceAdd])|refine rE ?_|(refine rO goodFF rfl ?_;intro _ hu_ K_ hK_;go_simp;(try rw [wI _]);(try rw [wU _]);refine hK_ _ ?_;clear hK_ K_ hu_;simp only [sS, sN])|(refine rP rfl ?_;simp only [sS, sN]))
      refine bk_r9 N OB (nb + j) nl j w.heap.size w.heap.size Oi bvi lv p hn14 (by omega) hB2 (Nat.le_refl _) hOBa hba hla hr2 (hL2.imp id fun ⟨cur, q1, q2, q3, q4, q5, q6, q7, q8⟩ => ⟨BA, cur, q1, q3, q4, by omega, q8⟩) (by simp [g0]) (by simp [g1]) (by simp [g5]) fun f2 w4 lv' w3 hE hFr3 hB3 => ?_
      repeat (first|refine rA ?_|refine rB ?_|refine rC ?_|refine rD ?_|(refine rR ?_;simp only [tO, Nat.reduceAdd])|refine rE ?_|(refine rO goodFF rfl ?_;intro _ hu_ K_ hK_;go_simp;(try rw [wI _]);(try rw [wU _]);refine hK_ _ ?_;clear hK_ K_ hu_;simp only [sS, sN])|(refine rP rfl ?_;simp only [sS, sN]))
      refine reach_end ?_
      refine ret _ _ S w4 (.tuple #[]) ?_ ⟨rfl, rfl, _, bvi, lv', hFr2.trans (hFr3.mono fun b h => h.elim), hB3, fun b q => ?_⟩
      · simp [results, Try.results16]
      · rcases q with q | ⟨B, q1, q2⟩ | ⟨q, _⟩
        · rcases hOi b q with q | ⟨h1, k, hk, e⟩ | q
          · exact .inl q
          · exact .inr (.inl ⟨h1, .inr ⟨k, by omega, e⟩⟩)
          · exact .inr (.inr q)
        · rcases hL2 with ⟨e, _⟩ | ⟨cur, e, e2, _⟩
          · rw [e] at q1; cases q1
          · rw [e] at q1
            simp at q1
            exact .inr (.inl ⟨e2, .inl (by omega)⟩)
        · have := hFr.size
          exact .inr (.inr (by omega))
end Go.Proofs.Ytpiefebngnlfoaa
