/-
  mosaiclaw's book: what its owner wrote into the lists that came out; 'mark'; 'bytes'.
-/
import Derived.Test.YtpiefebngnlfoaaLo
import Derived.Test.YtpiefebngnlfoaaLk
set_option linter.unusedVariables false
set_option linter.unusedSimpArgs false
namespace Go.Proofs.Ytpiefebngnlfoaa
open Go.RowKit Go.Conc Go.Vw

/-- The mark of a number. -/
def mrk (i : Nat) : Nat := 1 + i % 251
theorem mrk_lt (i : Nat) : mrk i < 256 := by unfold mrk; omega
set_option maxRecDepth 100000 in
theorem mark_r {S : Nat → Prop} {v : World} (i : Nat) (hi : i < 1000000) : CallsR Try.prog 37 #[.int .i64 (i : Nat)] S v fun x S' v' => x = .int .u8 ((mrk i : Nat) : Int) ∧ S' = S ∧ v' = v := by
  refine callsR_body Try.func37 rfl Try.ntmps37 (by simp) fun Stop cc cs ret => ?_
  have g0 : argF #[.int .i64 (i : Nat)] 0 = .int .i64 (i : Nat) := rfl
  generalize argF #[.int .i64 (i : Nat)] = f at g0
  have hm0 : (i : Int).tmod 251 = (i : Int) % 251 := Int.tmod_eq_emod_of_nonneg (by omega)
  have hm : (i : Int).tmod 251 = ((i % 251 : Nat) : Int) := by omega
  repeat (first|refine rA ?_|refine rB ?_|refine rC ?_|refine rD ?_|(refine rR ?_;simp only [tO, Nat.reduceAdd])|refine rE ?_|(refine rO goodFF rfl ?_;intro _ hu_ K_ hK_;go_simp;(try rw [wI _]);(try rw [wU _]);refine hK_ _ ?_;clear hK_ K_ hu_;simp only [sS, sN])|(refine rP rfl ?_;simp only [sS, sN]))
  refine reach_ret fun todo => ?_
  refine ret _ _ _ _ (.int .u8 ((mrk i : Nat) : Int)) ?_ ⟨rfl, rfl, rfl⟩
  simp [results, Try.results37, mrk]
/-- Bytes that all are z, in memory of O. -/
def MarkV (O : Nat → Prop) (w : World) (z : Nat) (e : Value) : Prop := ∃ p len cap, e = .slice p len cap ∧ len ≤ 5000 ∧ ((p = none ∧ len = 0 ∧ cap = 0) ∨ ∃ B, p = some ⟨B, 0, none⟩ ∧ O B ∧ len ≤ cap ∧ B < w.heap.size ∧ BytesAt w B 0 len fun _ => z)
/-- An entry of the first list. -/
def BkE (O : Nat → Prop) (w : World) (z : Nat) (y : Value) : Prop := ∃ E e0 e1 e2 e3, y = .slice (some ⟨E, 0, none⟩) 4 4 ∧ O E ∧ w.heap[E]? = some (.cells #[e0, e1, e2, e3] 25) ∧ MarkV O w z e0 ∧ MarkV O w z e1 ∧ MarkV O w z e2 ∧ MarkV O w z e3
/-- Lists each of which is one byte, z. -/
def MarkL (O : Nat → Prop) (w : World) (z : Nat) (e : Value) : Prop := ∃ p len cap, e = .slice p len cap ∧ len ≤ 5000 ∧ ((p = none ∧ len = 0 ∧ cap = 0) ∨ ∃ B, p = some ⟨B, 0, none⟩ ∧ O B ∧ len ≤ cap ∧ B < w.heap.size ∧ ∀ j, j < len → ∃ M c, w.cell? ⟨B, j, none⟩ = some (.slice (some ⟨M, 0, none⟩) 1 c) ∧ O M ∧ 1 ≤ c ∧ w.cell? ⟨M, 0, none⟩ = some (.int .u8 ((z : Nat) : Int)))
def LsE (O : Nat → Prop) (w : World) (z : Nat) (y : Value) : Prop := ∃ E e0 e1 e2 e3, y = .slice (some ⟨E, 0, none⟩) 4 4 ∧ O E ∧ w.heap[E]? = some (.cells #[e0, e1, e2, e3] 34) ∧ MarkL O w z e0 ∧ MarkL O w z e1 ∧ MarkL O w z e2 ∧ MarkL O w z e3
/-- What O holds is as it was. -/
def KeepO (O : Nat → Prop) (w w' : World) : Prop := w.heap.size ≤ w'.heap.size ∧ ∀ b, O b → w'.heap[b]? = w.heap[b]?
theorem KeepO.cell {O : Nat → Prop} {w w' : World} (h : KeepO O w w') {b o : Nat} (hb : O b) : w'.cell? ⟨b, o, none⟩ = w.cell? ⟨b, o, none⟩ := World.cell?_of_block (h.2 b hb)
theorem MarkV.keep {O O' : Nat → Prop} {w w' : World} {z : Nat} {e : Value} (h : MarkV O w z e) (hk : KeepO O w w') (ho : ∀ b, O b → O' b) : MarkV O' w' z e := by
  obtain ⟨p, len, cap, e1, e2, e3⟩ := h
  refine ⟨p, len, cap, e1, e2, e3.imp id ?_⟩
  rintro ⟨B, q1, q2, q3, q4, q5⟩
  exact ⟨B, q1, ho _ q2, q3, Nat.lt_of_lt_of_le q4 hk.1, fun j hj => by rw [hk.cell q2]; exact q5 j hj⟩
theorem BkE.keep {O O' : Nat → Prop} {w w' : World} {z : Nat} {e : Value} (h : BkE O w z e) (hk : KeepO O w w') (ho : ∀ b, O b → O' b) : BkE O' w' z e := by
  obtain ⟨E, e0, e1, e2, e3, q1, q2, q3, q4, q5, q6, q7⟩ := h
  exact ⟨E, e0, e1, e2, e3, q1, ho _ q2, by rw [hk.2 E q2]; exact q3, q4.keep hk ho, q5.keep hk ho, q6.keep hk ho, q7.keep hk ho⟩
theorem MarkL.keep {O O' : Nat → Prop} {w w' : World} {z : Nat} {e : Value} (h : MarkL O w z e) (hk : KeepO O w w') (ho : ∀ b, O b → O' b) : MarkL O' w' z e := by
  obtain ⟨p, len, cap, e1, e2, e3⟩ := h
  refine ⟨p, len, cap, e1, e2, e3.imp id ?_⟩
  rintro ⟨B, q1, q2, q3, q4, q5⟩
  refine ⟨B, q1, ho _ q2, q3, Nat.lt_of_lt_of_le q4 hk.1, fun j hj => ?_⟩
  obtain ⟨M, c, r1, r2, r3, r4⟩ := q5 j hj
  exact ⟨M, c, by rw [hk.cell q2]; exact r1, ho _ r2, r3, by rw [hk.cell r2]; exact r4⟩
theorem LsE.keep {O O' : Nat → Prop} {w w' : World} {z : Nat} {e : Value} (h : LsE O w z e) (hk : KeepO O w w') (ho : ∀ b, O b → O' b) : LsE O' w' z e := by
  obtain ⟨E, e0, e1, e2, e3, q1, q2, q3, q4, q5, q6, q7⟩ := h
  exact ⟨E, e0, e1, e2, e3, q1, ho _ q2, by rw [hk.2 E q2]; exact q3, q4.keep hk ho, q5.keep hk ho, q6.keep hk ho, q7.keep hk ho⟩
/-- A list of the book's: n entries. -/
structure Lst (N : Nat) (O : Nat → Prop) (t : TypeId) (Ent : Nat → Value → Prop) (n : Nat) (sv : Value) (w : World) : Prop where
  own : ∃ xs, w.ownsRow N t 1 sv n xs ∧ ∀ i, i < n → ∃ y, xs[i]? = some y ∧ Ent i y
  out : ∀ g, sv.ownBlock = some g → ¬ O g
/-- The book: its memory O is not turned any more; itself and its lists' rows are apart from it. -/
structure Book (N OB : Nat) (O : Nat → Prop) (nb nl : Nat) (bv lv : Value) (w : World) : Prop where
  new : N ≤ OB
  row : w.heap[OB]? = some (.cells #[bv, lv, .slice none 0 0, .slice none 0 0] 32)
  obO : ¬ O OB
  lt : ∀ b, O b → b < w.heap.size
  ge : ∀ b, O b → N ≤ b
  bs : Lst N O 34 (fun i y => BkE O w (mrk i) y) nb bv w
  ls : Lst N O 27 (fun i y => LsE O w (mrk i) y) nl lv w
end Go.Proofs.Ytpiefebngnlfoaa

/-
  mosaiclaw.book.bytes: the region that makes the entry.
-/
set_option linter.unusedVariables false
set_option linter.unusedSimpArgs false
namespace Go.Proofs.Ytpiefebngnlfoaa
open Go.RowKit Go.Conc Go.Vw

/-- So many marks, made anew. -/
def NewM (N0 z k : Nat) (y : Value) (w : World) : Prop := ∃ B, y = .slice (some ⟨B, 0, none⟩) k k ∧ N0 ≤ B ∧ w.heap[B]? = some (.cells (Array.replicate k (.int .u8 ((z : Nat) : Int))) 5)
/-- So many marks, behind what was there. -/
def Mks (N0 z k : Nat) (y : Value) (w : World) : Prop := ∃ B cap, y = .slice (some ⟨B, 0, none⟩) k cap ∧ N0 ≤ B ∧ k ≤ cap ∧ B < w.heap.size ∧ BytesAt w B 0 k fun _ => z
def EntV (N0 z n : Nat) (l : Value) (y : Value) (w : World) : Prop := ∃ E e1 e2 e3, y = .slice (some ⟨E, 0, none⟩) 4 4 ∧ N0 ≤ E ∧ w.heap[E]? = some (.cells #[l, e1, e2, e3] 25) ∧ Mks N0 z (n + 1) e1 w ∧ Mks N0 z (n + 2) e2 w ∧ Mks N0 z (n + 6) e3 w
theorem NewM.ext {N0 z k : Nat} {y : Value} {w w' : World} (h : NewM N0 z k y w) (e : Ext w w') : NewM N0 z k y w' := by
  obtain ⟨B, h1, h2, h3⟩ := h
  exact ⟨B, h1, h2, e.row h3⟩
theorem Mks.ext {N0 z k : Nat} {y : Value} {w w' : World} (h : Mks N0 z k y w) (e : Ext w w') : Mks N0 z k y w' := by
  obtain ⟨B, cap, h1, h2, h3, h4, h5⟩ := h
  exact ⟨B, cap, h1, h2, h3, Nat.lt_of_lt_of_le h4 e.size, fun j hj => e.cell (h5 j hj)⟩
theorem EntV.ext {N0 z n : Nat} {l y : Value} {w w' : World} (h : EntV N0 z n l y w) (e : Ext w w') : EntV N0 z n l y w' := by
  obtain ⟨E, e1, e2, e3, h1, h2, h3, h4, h5, h6⟩ := h
  exact ⟨E, e1, e2, e3, h1, h2, e.row h3, h4.ext e, h5.ext e, h6.ext e⟩
/-- What each operation leaves. -/
def bsp (OB N0 z n : Nat) (bv l : Value) (i : Nat) (y : Value) (w : World) : Prop :=
  if i ≤ 3 then y = .pointer (some ⟨OB, 0, none⟩) else if i = 4 then y = bv else if i = 5 ∨ i = 6 ∨ i = 10 ∨ i = 15 then y = l
  else if i = 8 then NewM N0 z 1 y w else if i = 9 then Mks N0 z (n + 1) y w else if i = 13 then NewM N0 z 2 y w else if i = 14 then Mks N0 z (n + 2) y w
  else if i = 22 then NewM N0 z 6 y w else if i = 23 then Mks N0 z (n + 6) y w else if i = 24 then EntV N0 z n l y w
  else if i = 25 then ∃ B y', y = .slice (some ⟨B, 0, none⟩) 1 1 ∧ w.heap[B]? = some (.cells #[y'] 34) ∧ EntV N0 z n l y' w
  else y = .int .u8 ((z : Nat) : Int)
theorem bsp_stable (OB N0 z n : Nat) (bv l : Value) (i : Nat) (y : Value) (w w' : World) (h : bsp OB N0 z n bv l i y w) (e : Ext w w') : bsp OB N0 z n bv l i y w' := by
  unfold bsp at h ⊢
  by_cases c1 : i ≤ 3
  · rw [if_pos c1] at h ⊢; exact h
  rw [if_neg c1] at h ⊢
  by_cases c2 : i = 4
  · rw [if_pos c2] at h ⊢; exact h
  rw [if_neg c2] at h ⊢
  by_cases c3 : i = 5 ∨ i = 6 ∨ i = 10 ∨ i = 15
  · rw [if_pos c3] at h ⊢; exact h
  rw [if_neg c3] at h ⊢
  by_cases c4 : i = 8
  · rw [if_pos c4] at h ⊢; exact h.ext e
  rw [if_neg c4] at h ⊢
  by_cases c5 : i = 9
  · rw [if_pos c5] at h ⊢; exact h.ext e
  rw [if_neg c5] at h ⊢
  by_cases c6 : i = 13
  · rw [if_pos c6] at h ⊢; exact h.ext e
  rw [if_neg c6] at h ⊢
  by_cases c7 : i = 14
  · rw [if_pos c7] at h ⊢; exact h.ext e
  rw [if_neg c7] at h ⊢
  by_cases c8 : i = 22
  · rw [if_pos c8] at h ⊢; exact h.ext e
  rw [if_neg c8] at h ⊢
  by_cases c9 : i = 23
  · rw [if_pos c9] at h ⊢; exact h.ext e
  rw [if_neg c9] at h ⊢
  by_cases c10 : i = 24
  · rw [if_pos c10] at h ⊢; exact h.ext e
  rw [if_neg c10] at h ⊢
  by_cases c11 : i = 25
  · rw [if_pos c11] at h ⊢
    obtain ⟨B, y', h1, h2, h3⟩ := h
    exact ⟨B, y', h1, e.row h2, h3.ext e⟩
  rw [if_neg c11] at h ⊢
  exact h
/-- It turns nothing. -/
theorem does_still {F : FuncId → Bool} {w : World} {ops : Array Oper} {o : Oper} {a : Act} {x : Value} {Sp : Value → World → Prop} (hw : Region.wanted o (yielded ops a.tmps) = true) (hok : okOper Try.prog F o = true) (h : ∀ u, Vw.Twin w u → (execOp a.eval o).run Try.prog u = .ok (.value x) u) (hs : ∀ u, Ext w u → Sp x u) : DoesW Try.prog F w ops o (fun y w' => Ext w w' ∧ Sp y w') a :=
  .inl ⟨hw, hok, fun u hu => ⟨x, u, .inl (h u hu), Ext.twin hu, hs u (Ext.twin hu)⟩⟩
/-- It makes one block. -/
theorem does_alloc {F : FuncId → Bool} {w : World} {ops : Array Oper} {o : Oper} {a : Act} {ob : Obj} {x : Nat → Value} {Sp : Value → World → Prop} (hw : Region.wanted o (yielded ops a.tmps) = true) (hok : okOper Try.prog F o = true) (h : ∀ u, (execOp a.eval o).run Try.prog u = .ok (.value (x u.heap.size)) (u.alloc ob)) (hs : ∀ u, Ext w u → u.heap[w.heap.size]? = some ob → Sp (x w.heap.size) u) : DoesW Try.prog F w ops o (fun y w' => Ext w w' ∧ Sp y w') a :=
  .inl ⟨hw, hok, fun u hu => ⟨_, _, .inl (h u), (Ext.twin hu).trans _ _ _ (Ext.alloc _ _), by
    rw [hu.heap]
    refine hs _ ((Ext.twin hu).trans _ _ _ (Ext.alloc _ _)) ?_
    rw [← hu.heap]
    exact alloc_at _ _⟩⟩
/-- It makes memory. -/
theorem does_grow {F : FuncId → Bool} {w : World} {ops : Array Oper} {o : Oper} {a : Act} {Q : Value → World → Prop} {Sp : Value → World → Prop} (hw : Region.wanted o (yielded ops a.tmps) = true) (hok : okOper Try.prog F o = true) (h : ∀ u, Vw.Twin w u → ∃ y w', ((execOp a.eval o).run Try.prog u = .ok (.value y) w' ∨ ((execOp a.eval o).run Try.prog u = .ok .skip w' ∧ y = undef)) ∧ (Q y w' ∧ Ext w w')) (hs : ∀ y u, Q y u → Ext w u → Sp y u) : DoesW Try.prog F w ops o (fun y w' => Ext w w' ∧ Sp y w') a :=
  .inl ⟨hw, hok, fun u hu => let ⟨y, w', hr, q, e⟩ := h u hu; ⟨y, w', hr, e, hs y w' q e⟩⟩
/-- What is written full: nothing, or a row of that length. -/
def Full (N : Nat) (w : World) (p : Option Addr) (n z : Nat) : Prop := (p = none ∧ n = 0) ∨ ∃ B cur, p = some ⟨B, 0, none⟩ ∧ N ≤ B ∧ w.heap[B]? = some (.cells cur 5) ∧ cur.size = n ∧ ∀ j, j < n → cur[j]? = some (.int .u8 ((z : Nat) : Int))
def addO (O : Nat → Prop) (p : Option Addr) (a b x : Nat) : Prop := O x ∨ (∃ B, p = some ⟨B, 0, none⟩ ∧ x = B) ∨ (a ≤ x ∧ x < b)
/-- The book has an entry more. -/
theorem Book.addB {N OB nb nl n : Nat} {O : Nat → Prop} {bv lv bv' y' : Value} {p : Option Addr} {w w2 w3 w4 : World} {xs : List Value} (h : Book N OB O nb nl bv lv w) (hn : n ≤ 4000) (hF : Full N w p n (mrk nb)) (hE : Ext w w2) (hxs : w.ownsRow N 34 1 bv nb xs) (hent : ∀ i, i < nb → ∃ y, xs[i]? = some y ∧ BkE O w (mrk i) y)
    (hEnt : EntV w.heap.size (mrk nb) n (.slice p n n) y' w2) (hown : w3.ownsRow N 34 1 bv' (nb + 1) (xs ++ [y'])) (hg : Gr w2 w3 bv.ownBlock) (hblk : ∀ g, bv'.ownBlock = some g → bv.ownBlock = some g ∨ w2.heap.size ≤ g) (hW : Wr w3 OB (.cells #[bv', lv, .slice none 0 0, .slice none 0 0] 32) w4) :
    Book N OB (addO O p w.heap.size w2.heap.size) (nb + 1) nl bv' lv w4 := by
  have hOB : OB < w.heap.size := (Array.getElem?_eq_some_iff.1 h.row).1
  have hbvlt : ∀ g, bv.ownBlock = some g → g < w.heap.size := fun g q => (hxs.lt g q).2
  have hlvlt : ∀ g, lv.ownBlock = some g → g < w.heap.size := by
    obtain ⟨ys, q, _⟩ := h.ls.own
    exact fun g e => (q.lt g e).2
  -- of what is kept
  have keep1 : ∀ b, b < w2.heap.size → b ≠ OB → bv.ownBlock ≠ some b → w4.heap[b]? = w2.heap[b]? := fun b h1 h2 h3 => by
    rw [hW.other b h2]
    exact hg.block b h1 (fun e => h3 e.symm)
  have keepO : ∀ b, O b → w4.heap[b]? = w.heap[b]? := fun b hb => by
    have hlt := h.lt b hb
    rw [keep1 b (Nat.lt_of_lt_of_le hlt hE.size) (fun e => h.obO (e ▸ hb)) (fun e => h.bs.out b e hb)]
    exact hE.block b hlt
  have hsz : w2.heap.size ≤ w4.heap.size := by rw [hW.size]; exact hg.size
  have hK : KeepO O w w4 := ⟨Nat.le_trans hE.size hsz, keepO⟩
  have hBl : ∀ B, p = some ⟨B, 0, none⟩ → B < w.heap.size ∧ N ≤ B ∧ B ≠ OB ∧ bv.ownBlock ≠ some B ∧ lv.ownBlock ≠ some B := by
    intro B hB
    rcases hF with ⟨e, _⟩ | ⟨B', cur, e, q1, q2, q3, q4⟩
    · rw [e] at hB; cases hB
    · rw [e] at hB
      cases hB
      refine ⟨(Array.getElem?_eq_some_iff.1 q2).1, q1, ?_, ?_, ?_⟩
      · rintro rfl
        have := h.row
        rw [q2] at this
        simp at this
      · intro e'
        obtain ⟨c', hc'⟩ := own_type hxs e'
        rw [q2] at hc'
        simp at hc'
      · intro e'
        obtain ⟨ys, q, _⟩ := h.ls.own
        obtain ⟨c', hc'⟩ := own_type q e'
        rw [q2] at hc'
        simp at hc'
  have hge : ∀ b, addO O p w.heap.size w2.heap.size b → N ≤ b := by
    rintro b (q | ⟨B, q1, rfl⟩ | ⟨q, _⟩)
    · exact h.ge b q
    · exact (hBl _ q1).2.1
    · have := h.new
      omega
  have hmk : ∀ {k : Nat} {e : Value}, k ≤ 5000 → Mks w.heap.size (mrk nb) k e w2 → MarkV (addO O p w.heap.size w2.heap.size) w4 (mrk nb) e := by
    rintro k e hk ⟨B, cap, q1, q2, q3, q4, q5⟩
    refine ⟨_, _, _, q1, hk, .inr ⟨B, rfl, .inr (.inr ⟨q2, q4⟩), q3, Nat.lt_of_lt_of_le q4 hsz, fun j hj => ?_⟩⟩
    rw [← q5 j hj]
    exact World.cell?_of_block (keep1 B q4 (by omega) fun e => by have := hbvlt B e; omega)
  refine ⟨h.new, hW.at_, ?_, ?_, hge, ⟨⟨xs ++ [y'], ?_, fun i hi => ?_⟩, ?_⟩, ⟨?_, ?_⟩⟩
  · rintro (q | ⟨B, q1, e⟩ | ⟨q, _⟩)
    · exact h.obO q
    · exact (hBl B q1).2.2.1 e.symm
    · omega
  · rintro b (q | ⟨B, q1, rfl⟩ | ⟨_, q⟩)
    · exact Nat.lt_of_lt_of_le (h.lt b q) (Nat.le_trans hE.size hsz)
    · exact Nat.lt_of_lt_of_le (hBl _ q1).1 (Nat.le_trans hE.size hsz)
    · omega
  · refine ⟨hown.1, hown.2.imp id ?_⟩
    rintro ⟨g, cap, cur, q1, q2, q3, q4⟩
    refine ⟨g, cap, cur, q1, q2, ?_, q4⟩
    rw [hW.other g]
    · exact q3
    · rintro rfl
      rcases hblk g (by rw [q1]; rfl) with e | e
      · obtain ⟨c', hc'⟩ := own_type hxs e
        rw [h.row] at hc'
        simp at hc'
      · have := hE.size
        omega
  · have hxl := hxs.1
    simp only [Nat.mul_one] at hxl
    by_cases e : i < nb
    · obtain ⟨y, q1, q2⟩ := hent i e
      exact ⟨y, by rw [List.getElem?_append_left (by omega)]; exact q1, q2.keep hK fun b q => .inl q⟩
    · obtain rfl : i = nb := by omega
      obtain ⟨E, e1, e2, e3, r1, r2, r3, r4, r5, r6⟩ := hEnt
      have hElt := (Array.getElem?_eq_some_iff.1 r3).1
      refine ⟨y', by simp [hxl], E, .slice p n n, e1, e2, e3, r1, .inr (.inr ⟨r2, hElt⟩), ?_, ?_, hmk (by omega) r4, hmk (by omega) r5, hmk (by omega) r6⟩
      · rw [keep1 E hElt (by omega) fun e => by have := hbvlt E e; omega]
        exact r3
      · rcases hF with ⟨rfl, rfl⟩ | ⟨B, cur, rfl, q1, q2, q3, q4⟩
        · exact ⟨_, _, _, rfl, by omega, .inl ⟨rfl, rfl, rfl⟩⟩
        · obtain ⟨s1, s2, s3, s4, s5⟩ := hBl B rfl
          refine ⟨_, _, _, rfl, by omega, .inr ⟨B, rfl, .inr (.inl ⟨B, rfl, rfl⟩), Nat.le_refl _, Nat.lt_of_lt_of_le s1 (Nat.le_trans hE.size hsz), fun j hj => ?_⟩⟩
          have hb2 : w4.heap[B]? = some (.cells cur 5) := by
            rw [keep1 B (Nat.lt_of_lt_of_le s1 hE.size) s3 s4]
            exact hE.row q2
          rw [Nat.zero_add, cell_of_row _ B j _ _ _ hb2]
          exact q4 j hj
  · intro g hg' hO
    rcases hblk g hg' with e | e
    · rcases hO with q | ⟨B, q1, rfl⟩ | ⟨q, _⟩
      · exact h.bs.out g e q
      · exact (hBl _ q1).2.2.2.1 e
      · have := hbvlt g e
        omega
    · rcases hO with q | ⟨B, q1, rfl⟩ | ⟨_, q⟩
      · have := h.lt g q
        have := hE.size
        omega
      · have := (hBl _ q1).1
        have := hE.size
        omega
      · omega
  · obtain ⟨ys, q1, q2⟩ := h.ls.own
    refine ⟨ys, ⟨q1.1, q1.2.imp id ?_⟩, fun i hi => ?_⟩
    · rintro ⟨g, cap, cur, r1, r2, r3, r4⟩
      refine ⟨g, cap, cur, r1, r2, ?_, r4⟩
      have hlt := (Array.getElem?_eq_some_iff.1 r3).1
      rw [keep1 g (Nat.lt_of_lt_of_le hlt hE.size)]
      · exact hE.row r3
      · rintro rfl
        rw [h.row] at r3
        simp at r3
      · intro e
        obtain ⟨c', hc'⟩ := own_type hxs e
        rw [r3] at hc'
        simp at hc'
    · obtain ⟨y, r1, r2⟩ := q2 i hi
      exact ⟨y, r1, r2.keep hK fun b q => .inl q⟩
  · intro g hg' hO
    rcases hO with q | ⟨B, q1, rfl⟩ | ⟨q, _⟩
    · exact h.ls.out g hg' q
    · exact (hBl _ q1).2.2.2.2 hg'
    · have := hlvlt g hg'
      omega
theorem Book.keep {N OB nb nl : Nat} {O : Nat → Prop} {bv lv : Value} {w w' : World} (h : Book N OB O nb nl bv lv w) (hs : w.heap.size ≤ w'.heap.size) (hk : ∀ b, (O b ∨ b = OB ∨ bv.ownBlock = some b ∨ lv.ownBlock = some b) → w'.heap[b]? = w.heap[b]?) : Book N OB O nb nl bv lv w' := by
  have hK : KeepO O w w' := ⟨hs, fun b hb => hk b (.inl hb)⟩
  refine ⟨h.new, (hk OB (.inr (.inl rfl))).trans h.row, h.obO, fun b hb => Nat.lt_of_lt_of_le (h.lt b hb) hs, h.ge, ⟨?_, h.bs.out⟩, ⟨?_, h.ls.out⟩⟩
  · obtain ⟨xs, q1, q2⟩ := h.bs.own
    refine ⟨xs, ⟨q1.1, q1.2.imp id ?_⟩, fun i hi => ?_⟩
    · rintro ⟨g, cap, cur, r1, r2, r3, r4⟩
      exact ⟨g, cap, cur, r1, r2, (hk g (.inr (.inr (.inl (by rw [r1]; rfl))))).trans r3, r4⟩
    · obtain ⟨y, r1, r2⟩ := q2 i hi
      exact ⟨y, r1, r2.keep hK fun b q => q⟩
  · obtain ⟨xs, q1, q2⟩ := h.ls.own
    refine ⟨xs, ⟨q1.1, q1.2.imp id ?_⟩, fun i hi => ?_⟩
    · rintro ⟨g, cap, cur, r1, r2, r3, r4⟩
      exact ⟨g, cap, cur, r1, r2, (hk g (.inr (.inr (.inr (by rw [r1]; rfl))))).trans r3, r4⟩
    · obtain ⟨y, r1, r2⟩ := q2 i hi
      exact ⟨y, r1, r2.keep hK fun b q => q⟩
/-- A byte row that is not the book's is not one of its own. -/
theorem Book.apart {N OB nb nl B : Nat} {O : Nat → Prop} {bv lv : Value} {w : World} {cur : Array Value} {t : TypeId} {fr : Nat × Nat} (h : Book N OB O nb nl bv lv w) (hr : w.heap[B]? = some (.cells cur t fr)) (ht : t = 5 ∨ t = 25) : B ≠ OB ∧ bv.ownBlock ≠ some B ∧ lv.ownBlock ≠ some B := by
  refine ⟨?_, ?_, ?_⟩
  · rintro rfl
    rw [h.row] at hr
    simp at hr
    rcases ht with rfl | rfl <;> simp at hr
  · intro e
    obtain ⟨xs, q1, _⟩ := h.bs.own
    obtain ⟨c', hc'⟩ := own_type q1 e
    rw [hr] at hc'
    rcases ht with rfl | rfl <;> simp at hc'
  · intro e
    obtain ⟨xs, q1, _⟩ := h.ls.own
    obtain ⟨c', hc'⟩ := own_type q1 e
    rw [hr] at hc'
    rcases ht with rfl | rfl <;> simp at hc'
theorem Book.wr {N OB nb nl B : Nat} {O : Nat → Prop} {bv lv : Value} {w w' : World} {cur : Array Value} {o : Obj} {t : TypeId} (h : Book N OB O nb nl bv lv w) (hr : w.heap[B]? = some (.cells cur t)) (ht : t = 5 ∨ t = 25) (hO : ¬ O B) (hW : Wr w B o w') : Book N OB O nb nl bv lv w' := by
  obtain ⟨a1, a2, a3⟩ := h.apart hr ht
  refine h.keep (by rw [hW.size]; exact Nat.le_refl _) fun b hb => hW.other b ?_
  rintro rfl
  rcases hb with q | q | q | q
  · exact hO q
  · exact a1 q
  · exact a2 q
  · exact a3 q
/-- What lies below N, rows of bytes and of slices of bytes are as they were, but X. -/
structure Frm (N : Nat) (X : Nat → Prop) (w w' : World) : Prop where
  size : w.heap.size ≤ w'.heap.size
  os : w'.os = w.os
  output : w'.output = w.output
  kept : ∀ b o, w.heap[b]? = some o → ¬ X b → (b < N ∨ (∃ c fr, o = .cells c 5 fr) ∨ ∃ c, o = .cells c 25) → w'.heap[b]? = some o
theorem Frm.refl (N : Nat) (X : Nat → Prop) (w : World) : Frm N X w w := ⟨Nat.le_refl _, rfl, rfl, fun _ _ h _ _ => h⟩
theorem Frm.trans {N : Nat} {X : Nat → Prop} {a b c : World} (h : Frm N X a b) (k : Frm N X b c) : Frm N X a c :=
  ⟨Nat.le_trans h.size k.size, k.os.trans h.os, k.output.trans h.output, fun x o hx hn ht => k.kept x o (h.kept x o hx hn ht) hn ht⟩
theorem Frm.mono {N : Nat} {X Y : Nat → Prop} {a b : World} (h : Frm N X a b) (hx : ∀ b, X b → Y b) : Frm N Y a b := ⟨h.size, h.os, h.output, fun x o q hn ht => h.kept x o q (fun e => hn (hx x e)) ht⟩
theorem Frm.wr {N B : Nat} {X : Nat → Prop} {w w' : World} {o : Obj} (hB : X B) (hW : Wr w B o w') : Frm N X w w' :=
  ⟨by rw [hW.size]; exact Nat.le_refl _, hW.os, hW.output, fun b o h hn _ => (hW.other b (fun e => hn (e ▸ hB))).trans h⟩
theorem Frm.ext {N : Nat} {X : Nat → Prop} {w w' : World} (h : Ext w w') : Frm N X w w' := ⟨h.size, h.os, h.output, fun b o q _ _ => h.row q⟩
/-- The book's own writes leave that alone. -/
theorem Book.frm {N OB nb nl : Nat} {O : Nat → Prop} {bv lv : Value} {w w2 w3 w4 : World} {o : Obj} {row : Option Nat} (h : Book N OB O nb nl bv lv w) (hrow : row = bv.ownBlock ∨ row = lv.ownBlock) (hE : Ext w w2) (hg : Gr w2 w3 row) (hW : Wr w3 OB o w4) : Frm N (fun _ => False) w w4 := by
  refine ⟨?_, ?_, ?_, fun b ob hb _ ht => ?_⟩
  · rw [hW.size]; exact Nat.le_trans hE.size hg.size
  · rw [hW.os, hg.os, hE.os]
  · rw [hW.output, hg.output, hE.output]
  · have hlt := (Array.getElem?_eq_some_iff.1 hb).1
    have hne : b ≠ OB ∧ bv.ownBlock ≠ some b ∧ lv.ownBlock ≠ some b := by
      rcases ht with ht | ⟨c, fr, rfl⟩ | ⟨c, rfl⟩
      · obtain ⟨xs, q1, _⟩ := h.bs.own
        obtain ⟨ys, q2, _⟩ := h.ls.own
        refine ⟨fun e => ?_, fun e => ?_, fun e => ?_⟩
        · have := h.new
          omega
        · have := own_base q1 e
          omega
        · have := own_base q2 e
          omega
      · exact h.apart hb (.inl rfl)
      · exact h.apart hb (.inr rfl)
    rw [hW.other b hne.1, hg.block b (Nat.lt_of_lt_of_le hlt hE.size) (fun e => by rcases hrow with r | r <;> rw [r] at e <;> simp_all)]
    exact hE.row hb
end Go.Proofs.Ytpiefebngnlfoaa

/-
  mosaiclaw.book.bytes: its walk.
-/
set_option linter.unusedVariables false
set_option linter.unusedSimpArgs false
namespace Go.Proofs.Ytpiefebngnlfoaa
open Go.RowKit Go.Conc Go.Vw

set_option maxRecDepth 100000 in
theorem infoP : ∃ i z, Try.prog.info? 34 = some i ∧ i.zero = some z ∧ i.size = 1 ∧ i.bytes = 24 ∧ z.cells = #[z] := ⟨_, _, rfl, rfl, rfl, rfl, rfl⟩
set_option maxRecDepth 100000 in
theorem infoB' : ∃ i z, Try.prog.info? 5 = some i ∧ i.zero = some z ∧ i.size = 1 ∧ i.bytes = 1 ∧ z.cells = #[z] := ⟨_, _, rfl, rfl, rfl, rfl, rfl⟩
/-- Behind what is full: marks. -/
theorem full_grow {N N0 n m z : Nat} {w w0 u u' : World} {o : Oper} {a : Act} {s x : Operand} {p : Option Addr} {y1 : Value} (hF : Full N w0 p n z) (hE : Ext w0 w) (hn : n ≤ 4000) (hm : 0 < m) (hm6 : m ≤ 6) (hN : N0 ≤ w.heap.size) (hM : NewM N0 z m y1 w) (hu : Vw.Twin w u) (hop : o.op = Op.call { callee := Callee.builtin Builtin.append, args := #[s, x], argTypes := #[25, 25] }) (hs : a.eval s = .slice p n n) (hx : a.eval x = y1) :
    ∃ y w', ((execOp a.eval o).run Try.prog u = .ok (.value y) w' ∨ ((execOp a.eval o).run Try.prog u = .ok .skip w' ∧ y = undef)) ∧ (Mks N0 z (n + m) y w' ∧ Ext w w') := by
  obtain ⟨ib, zb, ib1, ib2, ib3, ib4, ib5⟩ := infoB
  obtain ⟨B1, rfl, _, hr1⟩ := hM
  obtain ⟨olds, hlo, holds, hz⟩ : ∃ olds : List Value, olds.length = n ∧ (∀ b, p = some b → ∀ j y, olds[j]? = some y → w.cell? (b.add j) = some y) ∧ ∀ j, j < n → olds[j]? = some (.int .u8 ((z : Nat) : Int)) := by
    rcases hF with ⟨rfl, rfl⟩ | ⟨B, cur, rfl, _, q2, q3, q4⟩
    · exact ⟨[], rfl, fun b hb => (by cases hb), fun j hj => by omega⟩
    · refine ⟨cur.toList, by simpa using q3, fun b hb j y hy => ?_, fun j hj => by rw [Array.getElem?_toList]; exact q4 j hj⟩
      cases hb
      rw [Addr.add_lit, Nat.zero_add]
      rw [Array.getElem?_toList] at hy
      exact (cell_of_row _ B j _ _ _ (hE.row q2)).trans hy
  have hrep : ∀ j y, (List.replicate m (Value.int .u8 ((z : Nat) : Int)))[j]? = some y → w.cell? ((⟨B1, 0, none⟩ : Addr).add j) = some y := by
    intro j y hy
    rw [Addr.add_lit, Nat.zero_add]
    have hj : j < m := by
      have := (List.getElem?_eq_some_iff.1 hy).1
      simpa using this
    rw [cell_of_row _ B1 j _ _ _ hr1]
    simp [hj] at hy ⊢
    exact hy
  obtain ⟨y, w', hrun, ho, hEx⟩ := grow_does (w := w) (p := p) (n := n) (cap := n) (olds := olds) (ad := ⟨B1, 0, none⟩) (m := m) (c := m) (news := List.replicate m (.int .u8 ((z : Nat) : Int))) hu Try.underlying25 ib1 ib2 ib3 ib4 ib5 (by
      rcases hF with ⟨e1, e2⟩ | ⟨B, cur, e1, _⟩
      · exact .inl ⟨e1, e2, e2⟩
      · exact .inr ⟨_, e1⟩) hlo holds (by omega) (by simp) hrep (fun y hy => by rw [List.mem_replicate] at hy; rw [hy.2]; rfl) (by unfold maxLen; omega) (by omega) hop hs hx
  refine ⟨y, w', hrun, ?_, hEx⟩
  obtain ⟨g, cap, cur, q1, q2, q3, q4, q5, q6⟩ := own_some ho (.inl (by omega))
  refine ⟨g, cap, q1, by omega, q4, (Array.getElem?_eq_some_iff.1 q3).1, fun j hj => ?_⟩
  rw [Nat.zero_add, cell_of_row _ g j _ _ _ q3, q6 j hj]
  by_cases e : j < n
  · rw [List.getElem?_append_left (by omega)]
    exact hz j e
  · rw [List.getElem?_append_right (by omega)]
    simp only [List.getElem?_replicate]
    rw [if_pos (by omega)]

theorem one_cellB {w : World} {b : Nat} {e : Value} {t : TypeId} (h : w.heap[b]? = some (.cells #[e] t)) : ∀ j y, [e][j]? = some y → w.cell? ((⟨b, 0, none⟩ : Addr).add j) = some y := by
  intro j y hy
  cases j with
  | zero =>
    simp only [List.getElem?_cons_zero, Option.some.injEq] at hy
    subst hy
    rw [Addr.add_lit]
    exact (cell_of_row _ b 0 _ _ _ h).trans rfl
  | succ j => simp at hy

set_option maxRecDepth 100000 in
set_option maxHeartbeats 8000000 in
theorem bk_r5 {S : Nat → Prop} {w : World} {f : Nat → Value} {Stop : Goroutine → (Nat → Prop) → World → Prop} {cs : List Frame} {k0 : List Item} (N OB nb nl n : Nat) (O : Nat → Prop) (bv lv : Value) (p : Option Addr) (hn : n ≤ 4000) (hnb : nb ≤ 100000) (hB : Book N OB O nb nl bv lv w) (hF : Full N w p n (mrk nb)) (f0 : f 0 = .pointer (some ⟨OB, 0, none⟩)) (f1 : f 1 = .slice p n n) (f4 : f 4 = .int .u8 ((mrk nb : Nat) : Int))
    (next : ∀ f' w' bv' w2, Ext w w2 → Frm N (fun _ => False) w w' → Book N OB (addO O p w.heap.size w2.heap.size) (nb + 1) nl bv' lv w' → Vw.Reach Try.prog Stop (G ((base 28).at ⟨TA 51 f', []⟩ (.inRegion ((opsAt 5 (Try.f28.body.getD .skip)).getD #[]) [] :: k0)) cs) S w') :
    Vw.Reach Try.prog Stop (G ((base 28).at ⟨TA 51 f, []⟩ (.code (.region 5 ((opsAt 5 (Try.f28.body.getD .skip)).getD #[]) true) :: k0)) cs) S w := by
  obtain ⟨ib, zb, ib1, ib2, ib3, ib4, ib5⟩ := infoB'
  obtain ⟨is, zs, is1, is2, is3, is4, is5⟩ := infoS
  obtain ⟨ip, zp, ip1, ip2, ip3, ip4, ip5⟩ := infoP
  have e : opsAt 5 (Try.f28.body.getD .skip) = some _ := rfl
  rw [e] at next ⊢
  simp only [Option.getD_some] at next ⊢
  clear e
  refine reach_drawW (fun _ => false) goodFF (by first | kernel_rfl | rfl) ?_
  simp only [List.size_toArray, List.length_cons, List.length_nil, Nat.reduceAdd, Nat.zero_add]
  co_applyP anyW_free (i := 0) rfl (by first | kernel_rfl | decide +kernel) (by first | kernel_rfl | decide +kernel) (by first | kernel_rfl | decide +kernel) (by first | rfl | (simp [Region.wanted, yielded, TA_get, *]; done)) (by kernel_rfl) (fun _ => run_eq_of ?run1_0) ?rest1_0
  case run1_0 =>
    intro K_ hK_
    (skip)
    go_simp
    (try rw [wrapI _ (by omega) (by omega)])
    exact hK_
  simp only [stO_some, stO_none]
  refine anyW_phase (lo := 1) (hi := 26) (dep := fun i => if i = 26 then 9 else 1) (bsp OB w.heap.size (mrk nb) n bv (.slice p n n)) 4 (fun _ => rfl) (by first | kernel_rfl | decide +kernel) (fun i y w w' => bsp_stable OB _ _ n bv _ i y w w') ?step ?fin
  case step =>
    intro i o hlo hhi ho f' w' hE hdep hfr
    have hN : w.heap.size ≤ w'.heap.size := hE.size
    have g0 : f' 0 = .pointer (some ⟨OB, 0, none⟩) := (hfr 0 fun j a b => (by decide +kernel : ∀ j, j < 26 → 1 ≤ j → dstAt _ j ≠ 0) j b a).trans (by simp [f0])
    have g1 : f' 1 = .slice p n n := (hfr 1 fun j a b => (by decide +kernel : ∀ j, j < 26 → 1 ≤ j → dstAt _ j ≠ 1) j b a).trans (by simp [f1])
    have g4 : f' 4 = .int .u8 ((mrk nb : Nat) : Int) := (hfr 4 fun j a b => (by decide +kernel : ∀ j, j < 26 → 1 ≤ j → dstAt _ j ≠ 4) j b a).trans (by simp [f4])
    have hrow := hE.cell ((cell_of_row _ OB 0 _ _ _ hB.row).trans (by rfl : _ = some bv))
    have hi : i = 1 ∨ i = 2 ∨ i = 3 ∨ i = 4 ∨ i = 5 ∨ i = 6 ∨ i = 7 ∨ i = 8 ∨ i = 9 ∨ i = 10 ∨ i = 11 ∨ i = 12 ∨ i = 13 ∨ i = 14 ∨ i = 15 ∨ i = 16 ∨ i = 17 ∨ i = 18 ∨ i = 19 ∨ i = 20 ∨ i = 21 ∨ i = 22 ∨ i = 23 ∨ i = 24 ∨ i = 25 := by omega
    rcases hi with rfl | rfl | rfl | rfl | rfl | rfl | rfl | rfl | rfl | rfl | rfl | rfl | rfl | rfl | rfl | rfl | rfl | rfl | rfl | rfl | rfl | rfl | rfl | rfl | rfl
    · obtain rfl : _ = o := Option.some.inj ho
      exact does_still (x := .pointer (some ⟨OB, 0, none⟩)) rfl (by kernel_rfl) (fun u hu => run_eq_of fun K_ hK_ => by go_simp; exact hK_) (fun u hu => by simp [bsp])
    · obtain rfl : _ = o := Option.some.inj ho
      have d1 : bsp OB w.heap.size (mrk nb) n bv (.slice p n n) 1 (f' 23) w' := hdep 1 (by decide +kernel) (by omega)
      simp [bsp] at d1
      exact does_still (x := .pointer (some ⟨OB, 0, none⟩)) rfl (by kernel_rfl) (fun u hu => run_eq_of fun K_ hK_ => by go_simp; exact hK_) (fun u hu => by simp [bsp])
    · obtain rfl : _ = o := Option.some.inj ho
      have d2 : bsp OB w.heap.size (mrk nb) n bv (.slice p n n) 2 (f' 24) w' := hdep 2 (by decide +kernel) (by omega)
      simp [bsp] at d2
      exact does_still (x := .pointer (some ⟨OB, 0, none⟩)) rfl (by kernel_rfl) (fun u hu => run_eq_of fun K_ hK_ => by go_simp; exact hK_) (fun u hu => by simp [bsp])
    · obtain rfl : _ = o := Option.some.inj ho
      have d3 : bsp OB w.heap.size (mrk nb) n bv (.slice p n n) 3 (f' 25) w' := hdep 3 (by decide +kernel) (by omega)
      simp [bsp] at d3
      exact does_still (x := bv) rfl (by kernel_rfl) (fun u hu => run_eq_of fun K_ hK_ => by have hc := (Ext.twin hu).cell hrow; go_simp; exact hK_) (fun u hu => by simp [bsp])
    · obtain rfl : _ = o := Option.some.inj ho
      exact does_still (x := .slice p n n) rfl (by kernel_rfl) (fun u hu => run_eq_of fun K_ hK_ => by go_simp; exact hK_) (fun u hu => by simp [bsp])
    · obtain rfl : _ = o := Option.some.inj ho
      exact does_still (x := .slice p n n) rfl (by kernel_rfl) (fun u hu => run_eq_of fun K_ hK_ => by go_simp; exact hK_) (fun u hu => by simp [bsp])
    · obtain rfl : _ = o := Option.some.inj ho
      exact does_still (x := .int .u8 ((mrk nb : Nat) : Int)) rfl (by kernel_rfl) (fun u hu => run_eq_of fun K_ hK_ => by go_simp; exact hK_) (fun u hu => by simp [bsp])
    · obtain rfl : _ = o := Option.some.inj ho
      have d7 : bsp OB w.heap.size (mrk nb) n bv (.slice p n n) 7 (f' 29) w' := hdep 7 (by decide +kernel) (by omega)
      simp [bsp] at d7
      refine does_alloc (ob := .cells #[.int .u8 ((mrk nb : Nat) : Int)] 5) (x := fun b => .slice (some ⟨b, 0, none⟩) 1 1) rfl (by kernel_rfl) (fun u => run_build1 rfl Try.underlying25 ib1 ib2 ib3 ib5 (by simp [d7]) rfl u) (fun u hu hr => ?_)
      simp [bsp]
      exact ⟨_, rfl, hN, hr⟩
    · obtain rfl : _ = o := Option.some.inj ho
      have d6 : bsp OB w.heap.size (mrk nb) n bv (.slice p n n) 6 (f' 28) w' := hdep 6 (by decide +kernel) (by omega)
      simp [bsp] at d6
      have d8 : bsp OB w.heap.size (mrk nb) n bv (.slice p n n) 8 (f' 30) w' := hdep 8 (by decide +kernel) (by omega)
      simp [bsp] at d8
      refine does_grow (Q := Mks w.heap.size (mrk nb) (n + 1)) rfl (by kernel_rfl) (fun u hu => full_grow (u' := u) hF hE hn (by omega) (by omega) hN d8 hu rfl (by simp [d6]) (by simp)) (fun y u hq hx => ?_)
      simp [bsp]
      exact hq
    · obtain rfl : _ = o := Option.some.inj ho
      exact does_still (x := .slice p n n) rfl (by kernel_rfl) (fun u hu => run_eq_of fun K_ hK_ => by go_simp; exact hK_) (fun u hu => by simp [bsp])
    · obtain rfl : _ = o := Option.some.inj ho
      exact does_still (x := .int .u8 ((mrk nb : Nat) : Int)) rfl (by kernel_rfl) (fun u hu => run_eq_of fun K_ hK_ => by go_simp; exact hK_) (fun u hu => by simp [bsp])
    · obtain rfl : _ = o := Option.some.inj ho
      exact does_still (x := .int .u8 ((mrk nb : Nat) : Int)) rfl (by kernel_rfl) (fun u hu => run_eq_of fun K_ hK_ => by go_simp; exact hK_) (fun u hu => by simp [bsp])
    · obtain rfl : _ = o := Option.some.inj ho
      have d11 : bsp OB w.heap.size (mrk nb) n bv (.slice p n n) 11 (f' 33) w' := hdep 11 (by decide +kernel) (by omega)
      simp [bsp] at d11
      have d12 : bsp OB w.heap.size (mrk nb) n bv (.slice p n n) 12 (f' 34) w' := hdep 12 (by decide +kernel) (by omega)
      simp [bsp] at d12
      refine does_alloc (ob := .cells #[.int .u8 ((mrk nb : Nat) : Int), .int .u8 ((mrk nb : Nat) : Int)] 5) (x := fun b => .slice (some ⟨b, 0, none⟩) 2 2) rfl (by kernel_rfl) (fun u => run_build2 rfl Try.underlying25 ib1 ib2 ib3 ib5 (by simp [d11]) rfl (by simp [d12]) rfl u) (fun u hu hr => ?_)
      simp [bsp]
      exact ⟨_, rfl, hN, hr⟩
    · obtain rfl : _ = o := Option.some.inj ho
      have d10 : bsp OB w.heap.size (mrk nb) n bv (.slice p n n) 10 (f' 32) w' := hdep 10 (by decide +kernel) (by omega)
      simp [bsp] at d10
      have d13 : bsp OB w.heap.size (mrk nb) n bv (.slice p n n) 13 (f' 35) w' := hdep 13 (by decide +kernel) (by omega)
      simp [bsp] at d13
      refine does_grow (Q := Mks w.heap.size (mrk nb) (n + 2)) rfl (by kernel_rfl) (fun u hu => full_grow (u' := u) hF hE hn (by omega) (by omega) hN d13 hu rfl (by simp [d10]) (by simp)) (fun y u hq hx => ?_)
      simp [bsp]
      exact hq
    · obtain rfl : _ = o := Option.some.inj ho
      exact does_still (x := .slice p n n) rfl (by kernel_rfl) (fun u hu => run_eq_of fun K_ hK_ => by go_simp; exact hK_) (fun u hu => by simp [bsp])
    · obtain rfl : _ = o := Option.some.inj ho
      exact does_still (x := .int .u8 ((mrk nb : Nat) : Int)) rfl (by kernel_rfl) (fun u hu => run_eq_of fun K_ hK_ => by go_simp; exact hK_) (fun u hu => by simp [bsp])
    · obtain rfl : _ = o := Option.some.inj ho
      exact does_still (x := .int .u8 ((mrk nb : Nat) : Int)) rfl (by kernel_rfl) (fun u hu => run_eq_of fun K_ hK_ => by go_simp; exact hK_) (fun u hu => by simp [bsp])
    · obtain rfl : _ = o := Option.some.inj ho
      exact does_still (x := .int .u8 ((mrk nb : Nat) : Int)) rfl (by kernel_rfl) (fun u hu => run_eq_of fun K_ hK_ => by go_simp; exact hK_) (fun u hu => by simp [bsp])
    · obtain rfl : _ = o := Option.some.inj ho
      exact does_still (x := .int .u8 ((mrk nb : Nat) : Int)) rfl (by kernel_rfl) (fun u hu => run_eq_of fun K_ hK_ => by go_simp; exact hK_) (fun u hu => by simp [bsp])
    · obtain rfl : _ = o := Option.some.inj ho
      exact does_still (x := .int .u8 ((mrk nb : Nat) : Int)) rfl (by kernel_rfl) (fun u hu => run_eq_of fun K_ hK_ => by go_simp; exact hK_) (fun u hu => by simp [bsp])
    · obtain rfl : _ = o := Option.some.inj ho
      exact does_still (x := .int .u8 ((mrk nb : Nat) : Int)) rfl (by kernel_rfl) (fun u hu => run_eq_of fun K_ hK_ => by go_simp; exact hK_) (fun u hu => by simp [bsp])
    · obtain rfl : _ = o := Option.some.inj ho
      have d16 : bsp OB w.heap.size (mrk nb) n bv (.slice p n n) 16 (f' 38) w' := hdep 16 (by decide +kernel) (by omega)
      simp [bsp] at d16
      have d17 : bsp OB w.heap.size (mrk nb) n bv (.slice p n n) 17 (f' 39) w' := hdep 17 (by decide +kernel) (by omega)
      simp [bsp] at d17
      have d18 : bsp OB w.heap.size (mrk nb) n bv (.slice p n n) 18 (f' 40) w' := hdep 18 (by decide +kernel) (by omega)
      simp [bsp] at d18
      have d19 : bsp OB w.heap.size (mrk nb) n bv (.slice p n n) 19 (f' 41) w' := hdep 19 (by decide +kernel) (by omega)
      simp [bsp] at d19
      have d20 : bsp OB w.heap.size (mrk nb) n bv (.slice p n n) 20 (f' 42) w' := hdep 20 (by decide +kernel) (by omega)
      simp [bsp] at d20
      have d21 : bsp OB w.heap.size (mrk nb) n bv (.slice p n n) 21 (f' 43) w' := hdep 21 (by decide +kernel) (by omega)
      simp [bsp] at d21
      refine does_alloc (ob := .cells #[.int .u8 ((mrk nb : Nat) : Int), .int .u8 ((mrk nb : Nat) : Int), .int .u8 ((mrk nb : Nat) : Int), .int .u8 ((mrk nb : Nat) : Int), .int .u8 ((mrk nb : Nat) : Int), .int .u8 ((mrk nb : Nat) : Int)] 5) (x := fun b => .slice (some ⟨b, 0, none⟩) 6 6) rfl (by kernel_rfl) (fun u => run_build6 rfl Try.underlying25 ib1 ib2 ib3 ib5 (by simp [d16]) rfl (by simp [d17]) rfl (by simp [d18]) rfl (by simp [d19]) rfl (by simp [d20]) rfl (by simp [d21]) rfl u) (fun u hu hr => ?_)
      simp [bsp]
      exact ⟨_, rfl, hN, hr⟩
    · obtain rfl : _ = o := Option.some.inj ho
      have d15 : bsp OB w.heap.size (mrk nb) n bv (.slice p n n) 15 (f' 37) w' := hdep 15 (by decide +kernel) (by omega)
      simp [bsp] at d15
      have d22 : bsp OB w.heap.size (mrk nb) n bv (.slice p n n) 22 (f' 44) w' := hdep 22 (by decide +kernel) (by omega)
      simp [bsp] at d22
      refine does_grow (Q := Mks w.heap.size (mrk nb) (n + 6)) rfl (by kernel_rfl) (fun u hu => full_grow (u' := u) hF hE hn (by omega) (by omega) hN d22 hu rfl (by simp [d15]) (by simp)) (fun y u hq hx => ?_)
      simp [bsp]
      exact hq
    · obtain rfl : _ = o := Option.some.inj ho
      have d5 : bsp OB w.heap.size (mrk nb) n bv (.slice p n n) 5 (f' 27) w' := hdep 5 (by decide +kernel) (by omega)
      simp [bsp] at d5
      have d9 : bsp OB w.heap.size (mrk nb) n bv (.slice p n n) 9 (f' 31) w' := hdep 9 (by decide +kernel) (by omega)
      simp [bsp] at d9
      have d14 : bsp OB w.heap.size (mrk nb) n bv (.slice p n n) 14 (f' 36) w' := hdep 14 (by decide +kernel) (by omega)
      simp [bsp] at d14
      have d23 : bsp OB w.heap.size (mrk nb) n bv (.slice p n n) 23 (f' 45) w' := hdep 23 (by decide +kernel) (by omega)
      simp [bsp] at d23
      obtain ⟨B1, c1, m1, _⟩ := id d9
      obtain ⟨B2, c2, m2, _⟩ := id d14
      obtain ⟨B3, c3, m3, _⟩ := id d23
      refine does_alloc (ob := .cells #[.slice p n n, f' 31, f' 36, f' 45] 25) (x := fun b => .slice (some ⟨b, 0, none⟩) 4 4) rfl (by kernel_rfl) (fun u => run_build4 rfl Try.underlying34 is1 is2 is3 is5 (by simp [d5]) rfl (by simp) (by rw [m1]; rfl) (by simp) (by rw [m2]; rfl) (by simp) (by rw [m3]; rfl) u) (fun u hu hr => ?_)
      simp [bsp]
      exact ⟨_, _, _, _, rfl, hN, hr, d9.ext hu, d14.ext hu, d23.ext hu⟩
    · obtain rfl : _ = o := Option.some.inj ho
      have d24 : bsp OB w.heap.size (mrk nb) n bv (.slice p n n) 24 (f' 46) w' := hdep 24 (by decide +kernel) (by omega)
      simp [bsp] at d24
      obtain ⟨E1, _, _, _, m1, _⟩ := id d24
      refine does_alloc (ob := .cells #[f' 46] 34) (x := fun b => .slice (some ⟨b, 0, none⟩) 1 1) rfl (by kernel_rfl) (fun u => run_build1 rfl Try.underlying27 ip1 ip2 ip3 ip5 (by simp) (by rw [m1]; rfl) u) (fun u hu hr => ?_)
      simp [bsp]
      exact ⟨_, hr, d24.ext hu⟩
  case fin =>
    intro f' w2 hE hsp hfr
    have d4 : bsp OB w.heap.size (mrk nb) n bv (.slice p n n) 4 (f' 26) w2 := hsp 4 (by omega) (by omega)
    have d25 : bsp OB w.heap.size (mrk nb) n bv (.slice p n n) 25 (f' 47) w2 := hsp 25 (by omega) (by omega)
    simp [bsp] at d4 d25
    obtain ⟨B, d47, y', hr25, hEnt⟩ := d25
    have g22 : f' 22 = .pointer (some ⟨OB, 0, none⟩) := (hfr 22 fun j a b => (by decide +kernel : ∀ j, j < 26 → 1 ≤ j → dstAt _ j ≠ 22) j b a).trans (by simp [f0])
    obtain ⟨xs, hxs, hent⟩ := hB.bs.own
    have gw : Gr w w2 none := ⟨hE.os, hE.output, hE.size, fun b hb _ => hE.block b hb⟩
    have hyc : y'.oneCell' = true := by
      obtain ⟨E1, _, _, _, m1, _⟩ := hEnt
      rw [m1]
      rfl
    refine anyW_only (i := 26) rfl (by first | kernel_rfl | decide +kernel) rfl (by kernel_rfl) (fun u hu => append_does2 (s := .tmp 26) (x := .tmp 47) (ad := ⟨B, 0, none⟩) (m := 1) (c := 1) (news := [y']) hu N Try.underlying27 ip1 ip2 ip3 ip4 (by rw [ip5]; rfl) (own_gr hxs gw (by simp)) rfl (by omega) (one_cellB hr25) (fun y hy => by rw [List.mem_singleton] at hy; subst hy; exact hyc) (by unfold maxLen; omega) (by omega) (by have := hB.new; have := (Array.getElem?_eq_some_iff.1 hB.row).1; have := hE.size; omega) rfl (by simp [d4]) (by simp [d47])) ?_
    rintro bv' w3 ⟨hs', hg3, hblk⟩
    simp only [stO_some]
    have hOB3 : w3.heap[OB]? = some (.cells #[bv, lv, .slice none 0 0, .slice none 0 0] 32) := hg3.row (hE.row hB.row) fun e => by
      obtain ⟨c', hc'⟩ := own_type hxs e.symm
      rw [hB.row] at hc'
      simp at hc'
    co_applyP anyW_still (i := 27) rfl (by first | kernel_rfl | decide +kernel) (by first | rfl | (simp [Region.wanted, yielded, TA_get, *]; done)) (by kernel_rfl) (fun _ hu_ => run_eq_of ?run2_27) ?rest2_27
    case run2_27 =>
      intro K_ hK_
      (skip)
      go_simp
      (try rw [wrapI _ (by omega) (by omega)])
      exact hK_
    simp only [stO_some, stO_none]
    co_applyP anyW_still (i := 28) rfl (by first | kernel_rfl | decide +kernel) (by first | rfl | (simp [Region.wanted, yielded, TA_get, *]; done)) (by kernel_rfl) (fun _ hu_ => run_eq_of ?run3_28) ?rest3_28
    case run3_28 =>
      intro K_ hK_
      (skip)
      go_simp
      (try rw [wrapI _ (by omega) (by omega)])
      exact hK_
    simp only [stO_some, stO_none]
    refine anyW_only (i := 29) rfl (by first | kernel_rfl | decide +kernel) rfl (by kernel_rfl) (fun u hu => store_does (x := .tmp 50) (y := .tmp 48) (j := 0) (z := bv') hu hOB3 (by simp) (own_cells hs').1 (own_cells hs').2 rfl (by simp) (by simp) (by kernel_rfl)) ?_ (by rfl)
    rintro x1 w4 hW
    simp only [stO_none]
    refine anyW_done (by first | kernel_rfl | decide +kernel) ?_ _
    exact next _ w4 bv' w2 hE (hB.frm (.inl rfl) hE hg3 hW) (hB.addB hn hF hE hxs hent hEnt hs' hg3 hblk (by simpa using hW))
/-- What may be written full: nothing, or a row of that length, which is not the book's. -/
def Rw (N : Nat) (O : Nat → Prop) (w : World) (p : Option Addr) (n : Nat) : Prop := (p = none ∧ n = 0) ∨ ∃ B cur, p = some ⟨B, 0, none⟩ ∧ N ≤ B ∧ w.heap[B]? = some (.cells cur 5) ∧ cur.size = n ∧ ¬ O B
set_option maxRecDepth 100000 in
set_option maxHeartbeats 4000000 in
theorem bytes_r {S : Nat → Prop} {v : World} (N OB nb nl n : Nat) (O : Nat → Prop) (bv lv : Value) (p : Option Addr) (hn : n ≤ 4000) (hnb : nb ≤ 100000) (hB : Book N OB O nb nl bv lv v) (hl : Rw N O v p n) :
    CallsR Try.prog 28 #[.pointer (some ⟨OB, 0, none⟩), .slice p n n] S v fun x S' v' => x = .tuple #[] ∧ S' = S ∧ ∃ bv' b, Frm N (fun b => p = some ⟨b, 0, none⟩) v v' ∧ Book N OB (addO O p v.heap.size b) (nb + 1) nl bv' lv v' := by
  refine callsR_body Try.func28 rfl Try.ntmps28 (by simp) fun Stop cc cs ret => ?_
  have g0 : argF #[.pointer (some ⟨OB, 0, none⟩), .slice p n n] 0 = .pointer (some ⟨OB, 0, none⟩) := rfl
  have g1 : argF #[.pointer (some ⟨OB, 0, none⟩), .slice p n n] 1 = .slice p n n := rfl
  generalize argF #[.pointer (some ⟨OB, 0, none⟩), .slice p n n] = f at g0 g1
  have hc0 : v.cell? ⟨OB, 0, none⟩ = some bv := (cell_of_row _ OB 0 _ _ _ hB.row).trans rfl
  obtain ⟨pb, cb, hbv⟩ : ∃ pb cb, bv = .slice pb nb cb := by
    obtain ⟨xs, q1, _⟩ := hB.bs.own
    rcases q1.2 with ⟨e1, e2⟩ | ⟨g, cap, cur, e1, _⟩
    · exact ⟨none, 0, by rw [e1, e2]⟩
    · exact ⟨_, _, e1⟩
  rw [hbv] at hc0
  repeat (first|refine rA ?_|refine rB ?_|refine rC ?_|refine rD ?_|(refine rR ?_;simp only [tO, Nat.reduceAdd])|refine rE ?_|(refine rO goodFF rfl ?_;intro _ hu_ K_ hK_;(have hc := (Ext.twin hu_).cell hc0);go_simp;(try rw [wI _]);(try rw [wU _]);refine hK_ _ ?_;clear hK_ K_ hu_;simp only [sS, sN])|(refine rP rfl ?_;simp only [sS, sN]))
  (refine reach_callR rfl (by first | rfl | simp [Region.wanted, yielded, TA_get, *]) rfl Try.func37 (by kernel_rfl) rfl (by simp [Act.eval, *]; try rfl) (mark_r nb (by omega)) ?_)
  rintro _ S1 v1 _ ⟨rfl, e1, e2⟩
  subst S1 v1
  simp only [stO_some]
  repeat (first|refine rA ?_|refine rB ?_|refine rC ?_|refine rD ?_|(refine rR ?_;simp only [tO, Nat.reduceAdd])|refine rE ?_|(refine rO goodFF rfl ?_;intro _ hu_ K_ hK_;go_simp;(try rw [wI _]);(try rw [wU _]);refine hK_ _ ?_;clear hK_ K_ hu_;simp only [sS, sN])|(refine rP rfl ?_;simp only [sS, sN]))
  refine reach_rounds (fun d f' S' w => ∃ i, d = n - i ∧ i ≤ n ∧ S' = S ∧ (Frm N (fun b => p = some ⟨b, 0, none⟩) v w ∧ w.heap.size = v.heap.size ∧ Book N OB O nb nl bv lv w ∧ ((p = none ∧ n = 0) ∨ ∃ B cur, p = some ⟨B, 0, none⟩ ∧ N ≤ B ∧ w.heap[B]? = some (.cells cur 5) ∧ cur.size = n ∧ ¬ O B ∧ ∀ j, j < i → cur[j]? = some (.int .u8 ((mrk nb : Nat) : Int)))) ∧ f' 0 = .pointer (some ⟨OB, 0, none⟩) ∧ f' 1 = .slice p n n ∧ f' 4 = .int .u8 ((mrk nb : Nat) : Int) ∧ f' 5 = .int .i64 (i : Nat)) n ⟨0, by omega, by omega, rfl, ⟨.refl _ _ _, rfl, hB, hl.imp id fun ⟨B, cur, q1, q2, q3, q4, q5⟩ => ⟨B, cur, q1, q2, q3, q4, q5, fun j hj => by omega⟩⟩, by simp [g0], by simp [g1], by simp, by simp⟩ ?_
  clear g0 g1 f
  rintro d f S' w ⟨i, rfl, hi, eS, ⟨hFr, hsz, hBw, hlw⟩, g0, g1, g4, g5⟩ nxt
  subst S'
  repeat (first|refine rA ?_|refine rB ?_|refine rC ?_|refine rD ?_|(refine rR ?_;simp only [tO, Nat.reduceAdd])|refine rE ?_|(refine rO goodFF rfl ?_;intro _ hu_ K_ hK_;go_simp;(try rw [wI _]);(try rw [wU _]);refine hK_ _ ?_;clear hK_ K_ hu_;simp only [sS, sN])|(refine rP rfl ?_;simp only [sS, sN]))
  by_cases hlt : i < n
  · have hiI : (i : Int) < (n : Int) := by omega
    obtain ⟨B, cur, q1, q2, q3, q4, q5, q6⟩ : ∃ B cur, p = some ⟨B, 0, none⟩ ∧ N ≤ B ∧ w.heap[B]? = some (.cells cur 5) ∧ cur.size = n ∧ ¬ O B ∧ ∀ j, j < i → cur[j]? = some (.int .u8 ((mrk nb : Nat) : Int)) := by
      rcases hlw with ⟨_, h⟩ | h
      · omega
      · exact h
    subst q1
    (refine reach_cond (t := true) (by simp [Act.eval, hlt]) ?_; simp only [if_true, if_false, reduceIte, Bool.false_eq_true])
    repeat (first|refine rA ?_|refine rB ?_|refine rC ?_|refine rD ?_|(refine rR ?_;simp only [tO, Nat.reduceAdd])|refine rE ?_|(refine rO goodFF rfl ?_;intro _ hu_ K_ hK_;go_simp;(try rw [wI _]);(try rw [wU _]);refine hK_ _ ?_;clear hK_ K_ hu_;simp only [sS, sN])|(refine rP rfl ?_;simp only [sS, sN]))
    refine reach_store1 goodFF rfl rfl (by kernel_rfl) (x := .tmp 21) (y := .tmp 20) (g := B) (j := i) (z := .int .u8 ((mrk nb : Nat) : Int)) rfl (by simp) (by simp) rfl rfl q3 (by omega) (by kernel_rfl) fun w3 hW => ?_
    simp only [stO_none]
    repeat (first|refine rA ?_|refine rB ?_|refine rC ?_|refine rD ?_|(refine rR ?_;simp only [tO, Nat.reduceAdd])|refine rE ?_|(refine rO goodFF rfl ?_;intro _ hu_ K_ hK_;go_simp;(try rw [wI _]);(try rw [wU _]);refine hK_ _ ?_;clear hK_ K_ hu_;simp only [sS, sN])|(refine rP rfl ?_;simp only [sS, sN]))
    refine nxt _ _ _ (n - (i + 1)) (by omega) ⟨i + 1, rfl, by omega, rfl, ⟨hFr.trans (.wr rfl hW), hW.size.trans hsz, hBw.wr q3 (.inl rfl) q5 hW, .inr ⟨B, _, rfl, q2, hW.at_, by simpa using q4, q5, fun j hj => ?_⟩⟩, by simp [g0], by simp [g1], by simp [g4], by simp⟩
    by_cases e : j = i
    · subst e
      simp [q4, hlt]
    · rw [Array.getElem?_setIfInBounds_ne (by omega)]
      exact q6 j (by omega)
  · obtain rfl : i = n := by omega
    (refine reach_cond (t := false) (by simp [Act.eval]) ?_; simp only [if_true, if_false, reduceIte, Bool.false_eq_true])
    refine reach_exit rfl ?_
    repeat (first|refine rA ?_|refine rB ?_|refine rC ?_|refine rD ?_|(refine rR ?_;simp only [tO, Nat.reduceAdd])|refine rE ?_|(refine rO goodFF rfl ?_;intro _ hu_ K_ hK_;go_simp;(try rw [wI _]);(try rw [wU _]);refine hK_ _ ?_;clear hK_ K_ hu_;simp only [sS, sN])|(refine rP rfl ?_;simp only [sS, sN]))
    refine bk_r5 N OB nb nl i O bv lv p hn hnb hBw (hlw.imp id fun ⟨B, cur, q1, q2, q3, q4, q5, q6⟩ => ⟨B, cur, q1, q2, q3, q4, q6⟩) (by simp [g0]) (by simp [g1]) (by simp [g4]) fun f2 w2 bv' w3 hE hFr2 hB2 => ?_
    repeat (first|refine rA ?_|refine rB ?_|refine rC ?_|refine rD ?_|(refine rR ?_;simp only [tO, Nat.reduceAdd])|refine rE ?_|(refine rO goodFF rfl ?_;intro _ hu_ K_ hK_;go_simp;(try rw [wI _]);(try rw [wU _]);refine hK_ _ ?_;clear hK_ K_ hu_;simp only [sS, sN])|(refine rP rfl ?_;simp only [sS, sN]))
    refine reach_end ?_
    refine ret _ _ S w2 (.tuple #[]) ?_ ⟨rfl, rfl, bv', w3.heap.size, hFr.trans (hFr2.mono fun b h => h.elim), by rw [← hsz]; exact hB2⟩
    simp [results, Try.results28]
end Go.Proofs.Ytpiefebngnlfoaa
