/-
  piece.RowLength, piece.row.
-/
import Derived.Test.YtpiefebngnlfoaaDoorLh
import Derived.Test.YtpiefebngnlfoaaDoorLq
set_option linter.unusedVariables false
set_option linter.unusedSimpArgs false
namespace Go.Proofs.YtpiefebngnlfoaaDoor
open Go.RowKit Go.Conc Go.Vw

set_option maxRecDepth 100000 in
theorem rowLength_r {S : Nat → Prop} {v : World} (m : Nat) (hm : m ≤ 400) : CallsR Tryd.prog 39 #[.int .i64 (m : Nat)] S v fun x S' v' => x = .int .i64 (((m + 9) / 10 : Nat) : Int) ∧ S' = S ∧ v' = v := by
  refine callsR_body Tryd.func39 rfl Tryd.ntmps39 (by simp) fun Stop cc cs ret => ?_
  have h0 : argF #[.int .i64 (m : Nat)] 0 = .int .i64 (m : Nat) := rfl
  generalize argF #[.int .i64 (m : Nat)] = f at h0
  repeat (first|refine rA ?_|refine rB ?_|refine rC ?_|refine rD ?_|(refine rR ?_;simp only [tO, Nat.reduceAdd])|refine rE ?_|(refine rO goodFG rfl ?_;intro _ hu_ K_ hK_;go_simp;(try rw [wI _]);(try rw [wU _]);refine hK_ _ ?_;clear hK_ K_ hu_;simp only [sS, sN])|(refine rP rfl ?_;simp only [sS, sN])|(refine rP2 rfl ?_;simp only [sS, sN]))
  refine reach_ret fun todo => ?_
  refine ret _ _ _ _ (.int .i64 (((m + 9) / 10 : Nat) : Int)) ?_ ⟨rfl, rfl, rfl⟩
  simp [results, Tryd.results39]
  rw [Int.tdiv_eq_ediv_of_nonneg (by omega), wrapI _ (by omega) (by omega)]
  omega

/-- What stands in row k of a value: its bytes, then noughts. -/
def rowOf (val : Nat → Nat) (len m k i : Nat) : Nat := if k * m + i < len then val (k * m + i) else 0
theorem bytesA_mem {n : Nat} {x : Nat → Nat} : ∀ y ∈ (bytesA n x).toList, y.oneCell' = true := by
  intro y hy
  simp [bytesA] at hy
  obtain ⟨j, _, rfl⟩ := hy
  rfl
theorem splice_bytes (n o m : Nat) (x y : Nat → Nat) (h : o + m ≤ n) : ((bytesA n y).toList.take o ++ (List.range m).map (fun j => Value.int .u8 ((x j : Nat) : Int)) ++ (bytesA n y).toList.drop (o + m)).toArray = bytesA n fun i => if o ≤ i ∧ i < o + m then x (i - o) else y i := by
  apply Array.ext_getElem?
  intro c
  simp only [List.getElem?_toArray, List.append_assoc]
  by_cases h1 : c < o
  · rw [List.getElem?_append_left (by simp [bytesA]; omega)]
    have hc : c < n := by omega
    simp [bytesA, h1, hc, show ¬ o ≤ c by omega]
  · rw [List.getElem?_append_right (by simp [bytesA]; omega)]
    have e : ((bytesA n y).toList.take o).length = o := by simp [bytesA]; omega
    rw [e]
    by_cases h2 : c < o + m
    · rw [List.getElem?_append_left (by simp; omega)]
      have hc : c < n := by omega
      have h3 : c - o < m := by omega
      simp [bytesA, hc, h3, show o ≤ c by omega, h2]
    · rw [List.getElem?_append_right (by simp; omega)]
      simp only [List.length_map, List.length_range, List.getElem?_drop]
      rw [show o + m + (c - o - m) = c by omega]
      by_cases hc : c < n
      · simp [bytesA, hc, h2]
      · simp [bytesA, hc]
/-- What is known of a new row. -/
structure Rowed (v : World) (m : Nat) (x : Nat → Nat) (v' : World) : Prop where
  ext : Ext v v'
  row : v'.heap[v.heap.size]? = some (.cells (bytesA m x) 5)
  size : v'.heap.size = v.heap.size + 1
theorem wr_new {v v1 v2 : World} {o : Obj} (hE : Ext v v1) (hs : v1.heap.size = v.heap.size + 1) (hW : Wr v1 v.heap.size o v2) : Ext v v2 ∧ v2.heap[v.heap.size]? = some o ∧ v2.heap.size = v.heap.size + 1 :=
  ⟨⟨by have := hW.size; omega, fun b hb => (hW.other b (by omega)).trans (hE.block b hb), hW.os.trans hE.os, hW.output.trans hE.output⟩, hW.at_, hW.size.trans hs⟩
set_option maxRecDepth 100000 in
theorem row_r {S : Nat → Prop} {v : World} (m k len cap B off : Nat) (val : Nat → Nat) (hk : k < 10) (hm : m ≤ 400) (hl : len ≤ 400) (hc : len ≤ cap) (hB : BytesAt v B off len val) :
    CallsR Tryd.prog 40 #[.slice (some ⟨B, off, none⟩) len cap, .int .i64 (k : Nat), .int .i64 (m : Nat)] S v fun x S' v' => x = sl v.heap.size m ∧ S' = S ∧ Rowed v m (rowOf val len m k) v' := by
  refine callsR_body Tryd.func40 rfl Tryd.ntmps40 (by simp) fun Stop cc cs ret => ?_
  have h0 : argF #[.slice (some ⟨B, off, none⟩) len cap, .int .i64 (k : Nat), .int .i64 (m : Nat)] 0 = .slice (some ⟨B, off, none⟩) len cap := rfl
  have h1 : argF #[.slice (some ⟨B, off, none⟩) len cap, .int .i64 (k : Nat), .int .i64 (m : Nat)] 1 = .int .i64 (k : Nat) := rfl
  have h2 : argF #[.slice (some ⟨B, off, none⟩) len cap, .int .i64 (k : Nat), .int .i64 (m : Nat)] 2 = .int .i64 (m : Nat) := rfl
  generalize argF #[.slice (some ⟨B, off, none⟩) len cap, .int .i64 (k : Nat), .int .i64 (m : Nat)] = f at h0 h1 h2
  have ekm : ((k * m : Nat) : Int) = (k : Int) * (m : Int) := Int.natCast_mul k m
  have hkm : (k : Int) * (m : Int) ≤ 4000 := by
    have h : k * m ≤ 10 * 400 := Nat.mul_le_mul (by omega) hm
    omega
  have hkm0 : (0 : Int) ≤ (k : Int) * (m : Int) := by omega
  obtain ⟨a, ha⟩ : ∃ a : Nat, a = min (k * m) len := ⟨_, rfl⟩
  obtain ⟨b, hb⟩ : ∃ b : Nat, b = min (a + m) len := ⟨_, rfl⟩
  have e1 : (if (len : Int) < (k : Int) * (m : Int) then (len : Int) else (k : Int) * (m : Int)) = (a : Int) := by split <;> omega
  have e2 : (if (len : Int) < (a : Int) + (m : Int) then (len : Int) else (a : Int) + (m : Int)) = (b : Int) := by split <;> omega
  have HE : Hid (((k * m : Nat) : Int) = (k : Int) * (m : Int)) := ekm
  have hab : (a : Int) ≤ (b : Int) := by omega
  have hbc : (b : Int) ≤ (cap : Int) := by omega
  have hbm : b - a ≤ m := by omega
  have hrow : ∀ i, i < m → (if 0 ≤ i ∧ i < 0 + (b - a) then val (a + (i - 0)) else 0) = rowOf val len m k i := by
    intro i hi
    unfold rowOf
    by_cases h : i < b - a
    · have e : a = k * m := by omega
      rw [if_pos ⟨by omega, by omega⟩, if_pos (by omega), e, Nat.sub_zero]
    · rw [if_neg (by omega), if_neg (by omega)]
  have hsrc : ∀ j, j < b - a → v.cell? ⟨B, off + a + j, none⟩ = some (.int .u8 (val (a + j) : Nat)) := fun j hj => by
    have := hB (a + j) (by omega)
    rwa [← Nat.add_assoc] at this
  clear ekm ha hb
  repeat (first|refine rA ?_|refine rB ?_|refine rC ?_|refine rD ?_|(refine rR ?_;simp only [tO, Nat.reduceAdd])|refine rE ?_|(refine rO goodFG rfl ?_;intro _ hu_ K_ hK_;go_simp;(try rw [wI _]);(try rw [wU _]);refine hK_ _ ?_;clear hK_ K_ hu_;simp only [sS, sN])|(refine rP rfl ?_;simp only [sS, sN])|(refine rP2 rfl ?_;simp only [sS, sN]))
  refine reach_makeBytes goodFG rfl rfl (by kernel_rfl) rfl (m := m) (by simp [h2]) (by simp [h2]) (by omega) (by kernel_rfl) Tryd.underlying25 fun v1 hE hr hs => ?_
  simp only [stO_some]
  repeat (first|refine rA ?_|refine rB ?_|refine rC ?_|refine rD ?_|(refine rR ?_;simp only [tO, Nat.reduceAdd])|refine rE ?_|(refine rO goodFG rfl ?_;intro _ hu_ K_ hK_;go_simp;(try rw [wI _]);(try rw [wU _]);refine hK_ _ ?_;clear hK_ K_ hu_;simp only [sS, sN])|(refine rP rfl ?_;simp only [sS, sN])|(refine rP2 rfl ?_;simp only [sS, sN]))
  obtain ⟨o2, ho2, hs2⟩ : ∃ o2, (if cap = a then some (⟨B, off, none⟩ : Addr) else some ⟨B, off + a, none⟩) = some ⟨B, o2, none⟩ ∧ ∀ j, j < b - a → v.cell? ⟨B, o2 + j, none⟩ = some (.int .u8 (val (a + j) : Nat)) := by
    by_cases e : cap = a
    · exact ⟨off, by rw [if_pos e], fun j hj => by omega⟩
    · exact ⟨off + a, by rw [if_neg e], hsrc⟩
  rw [ho2]
  rw [bytesA_zero] at hr
  refine reach_copy goodFG rfl rfl (by kernel_rfl) rfl (d := .tmp 24) (s := .tmp 28) (g := v.heap.size) (o' := 0) (dLen := m) (dCap := m) (b := B) (off := o2) (sLen := b - a) (sCap := cap - a) (cells := (List.range (b - a)).map fun j => Value.int .u8 ((val (a + j) : Nat) : Int)) (by simp) (by simp) Tryd.underlying25 (by kernel_rfl) hr (by simp [Nat.min_eq_left hbm]) (fun j y hy => ?_) (by rw [bytesA_size]; simp; omega) bytesL_mem fun v2 hW => ?_
  · obtain ⟨hj, rfl⟩ := bytesL_get hy
    exact hE.cell (hs2 j hj)
  · simp only [List.length_map, List.length_range, stO_some] at hW ⊢
    rw [splice_bytes m 0 (b - a) (fun j => val (a + j)) (fun _ => 0) (by omega), bytesA_congr hrow] at hW
    obtain ⟨q1, q2, q3⟩ := wr_new hE hs hW
    repeat (first|refine rA ?_|refine rB ?_|refine rC ?_|refine rD ?_|(refine rR ?_;simp only [tO, Nat.reduceAdd])|refine rE ?_|(refine rO goodFG rfl ?_;intro _ hu_ K_ hK_;go_simp;(try rw [wI _]);(try rw [wU _]);refine hK_ _ ?_;clear hK_ K_ hu_;simp only [sS, sN])|(refine rP rfl ?_;simp only [sS, sN])|(refine rP2 rfl ?_;simp only [sS, sN]))
    refine reach_ret fun todo => ?_
    refine ret _ _ _ _ _ ?_ ⟨rfl, rfl, q1, q2, q3⟩
    simp [results, Tryd.results40, h0]
set_option maxRecDepth 100000 in
/-- .. of a value that is nil. -/
theorem rowNil_r {S : Nat → Prop} {v : World} (m k : Nat) (val : Nat → Nat) (hk : k < 10) (hm : m ≤ 400) :
    CallsR Tryd.prog 40 #[.slice none 0 0, .int .i64 (k : Nat), .int .i64 (m : Nat)] S v fun x S' v' => x = sl v.heap.size m ∧ S' = S ∧ Rowed v m (rowOf val 0 m k) v' := by
  refine callsR_body Tryd.func40 rfl Tryd.ntmps40 (by simp) fun Stop cc cs ret => ?_
  have h0 : argF #[.slice none 0 0, .int .i64 (k : Nat), .int .i64 (m : Nat)] 0 = .slice none 0 0 := rfl
  have h1 : argF #[.slice none 0 0, .int .i64 (k : Nat), .int .i64 (m : Nat)] 1 = .int .i64 (k : Nat) := rfl
  have h2 : argF #[.slice none 0 0, .int .i64 (k : Nat), .int .i64 (m : Nat)] 2 = .int .i64 (m : Nat) := rfl
  generalize argF #[.slice none 0 0, .int .i64 (k : Nat), .int .i64 (m : Nat)] = f at h0 h1 h2
  have ekm : ((k * m : Nat) : Int) = (k : Int) * (m : Int) := Int.natCast_mul k m
  have hkm : (k : Int) * (m : Int) ≤ 4000 := by
    have h : k * m ≤ 10 * 400 := Nat.mul_le_mul (by omega) hm
    omega
  have hkm0 : (0 : Int) ≤ (k : Int) * (m : Int) := by omega
  have e1 : (if (0 : Int) < (k : Int) * (m : Int) then (0 : Int) else (k : Int) * (m : Int)) = 0 := by split <;> omega
  have e2 : (if 0 < m then (0 : Int) else (m : Int)) = 0 := by split <;> omega
  clear ekm
  repeat (first|refine rA ?_|refine rB ?_|refine rC ?_|refine rD ?_|(refine rR ?_;simp only [tO, Nat.reduceAdd])|refine rE ?_|(refine rO goodFG rfl ?_;intro _ hu_ K_ hK_;go_simp;(try rw [wI _]);(try rw [wU _]);refine hK_ _ ?_;clear hK_ K_ hu_;simp only [sS, sN])|(refine rP rfl ?_;simp only [sS, sN])|(refine rP2 rfl ?_;simp only [sS, sN]))
  refine reach_makeBytes goodFG rfl rfl (by kernel_rfl) rfl (m := m) (by simp [h2]) (by simp [h2]) (by omega) (by kernel_rfl) Tryd.underlying25 fun v1 hE hr hs => ?_
  simp only [stO_some]
  repeat (first|refine rA ?_|refine rB ?_|refine rC ?_|refine rD ?_|(refine rR ?_;simp only [tO, Nat.reduceAdd])|refine rE ?_|(refine rO goodFG rfl ?_;intro _ hu_ K_ hK_;go_simp;(try rw [wI _]);(try rw [wU _]);refine hK_ _ ?_;clear hK_ K_ hu_;simp only [sS, sN])|(refine rP rfl ?_;simp only [sS, sN])|(refine rP2 rfl ?_;simp only [sS, sN]))
  refine reach_ret fun todo => ?_
  refine ret _ _ _ _ _ ?_ ⟨rfl, rfl, hE, ?_, hs⟩
  · simp [results, Tryd.results40, h0]
  · rw [hr, bytesA_zero, bytesA_congr (g := rowOf val 0 m k) fun i hi => by simp [rowOf]]
end Go.Proofs.YtpiefebngnlfoaaDoor

/-
  piece.Cut, mosaic.Cut: the pieces of a value.
-/
set_option linter.unusedVariables false
set_option linter.unusedSimpArgs false
namespace Go.Vw
open Go.Conc
theorem Kp.cell {v v' : World} {X : Nat → Prop} (h : Kp v X v') {b o : Nat} {y : Value} (hb : ¬ X b) (hc : v.cell? ⟨b, o, none⟩ = some y) : v'.cell? ⟨b, o, none⟩ = some y := by
  unfold World.cell? at hc
  split at hc
  · rename_i c t fr hr
    have := h.cells b c t fr hb hr
    simp only [World.cell?, this]
    exact hc
  · cases hc
theorem Kp.bytes {v v' : World} {X : Nat → Prop} (h : Kp v X v') {b off len : Nat} {x : Nat → Nat} (hb : ¬ X b) (hc : BytesAt v b off len x) : BytesAt v' b off len x := fun j hj => h.cell hb (hc j hj)
end Go.Vw
namespace Go.Proofs.YtpiefebngnlfoaaDoor
open Go.RowKit Go.Conc Go.Vw

/-- A slice of bytes, or nil. -/
def SliceV (v : World) (p : Option Addr) (len cap : Nat) (x : Nat → Nat) : Prop := (p = none ∧ len = 0 ∧ cap = 0) ∨ ∃ B off, p = some ⟨B, off, none⟩ ∧ len ≤ cap ∧ BytesAt v B off len x
theorem SliceV.ext {v u : World} {p : Option Addr} {len cap : Nat} {x : Nat → Nat} (h : SliceV v p len cap x) (e : Ext v u) : SliceV u p len cap x :=
  h.imp id fun ⟨B, off, h1, h2, h3⟩ => ⟨B, off, h1, h2, h3.ext e⟩
theorem slice_kp {v v' : World} (h : Kp v (fun _ => False) v') {p : Option Addr} {len cap : Nat} {x : Nat → Nat} (hs : SliceV v p len cap x) : SliceV v' p len cap x :=
  hs.imp id fun ⟨B, off, h1, h2, h3⟩ => ⟨B, off, h1, h2, h.bytes (fun x => x) h3⟩
/-- .. or an empty one, wherever it lies. -/
def SliceE (v : World) (p : Option Addr) (len cap : Nat) (x : Nat → Nat) : Prop := SliceV v p len cap x ∨ ((∃ a, p = some a) ∧ len = 0 ∧ cap = 0)
theorem SliceE.ext {v u : World} {p : Option Addr} {len cap : Nat} {x : Nat → Nat} (h : SliceE v p len cap x) (e : Ext v u) : SliceE u p len cap x := h.imp (fun q => q.ext e) id
theorem SliceE.of {v : World} {p : Option Addr} {len cap : Nat} {x : Nat → Nat} (h : SliceE v p len cap x) (h0 : 0 < len) : SliceV v p len cap x := by
  rcases h with h | ⟨_, h, _⟩
  · exact h
  · omega
theorem SliceE.parts {v : World} {p : Option Addr} {len cap : Nat} {x : Nat → Nat} (h : SliceE v p len cap x) : (p = none ∧ len = 0 ∧ cap = 0) ∨ ∃ a, p = some a ∧ len ≤ cap ∧ (len = 0 ∨ ∃ B off, a = ⟨B, off, none⟩ ∧ BytesAt v B off len x) := by
  rcases h with (h | ⟨B, off, e, h1, h2⟩) | ⟨⟨a, e⟩, h1, h2⟩
  · exact .inl h
  · exact .inr ⟨_, e, h1, .inr ⟨B, off, rfl, h2⟩⟩
  · exact .inr ⟨a, e, by omega, .inl h1⟩
theorem rowAny_r {S : Nat → Prop} {v : World} (m k len cap : Nat) (p : Option Addr) (val : Nat → Nat) (hk : k < 10) (hm : m ≤ 400) (hl : len ≤ 400) (hs : SliceV v p len cap val) :
    CallsR Tryd.prog 40 #[.slice p len cap, .int .i64 (k : Nat), .int .i64 (m : Nat)] S v fun x S' v' => x = sl v.heap.size m ∧ S' = S ∧ Rowed v m (rowOf val len m k) v' := by
  rcases hs with ⟨rfl, rfl, rfl⟩ | ⟨B, off, rfl, hc, hB⟩
  · exact rowNil_r m k val hk hm
  · exact row_r m k len cap B off val hk hm hl hc hB
/-- Fourteen pieces, in a list of the caller's. -/
structure Pieces (v : World) (BA : Nat) (PB : Nat → Nat) (m : Nat) (p : Nat → Nat → Nat) (v' : World) : Prop where
  kp : Kp v (fun _ => False) v'
  ba : v'.heap[BA]? = some (.cells (allA fun k => sl (PB k) m) 25)
  pb : ∀ k, k < 14 → v'.heap[PB k]? = some (.cells (bytesA m (p k)) 5)
  newA : v.heap.size ≤ BA
  newP : ∀ k, k < 14 → v.heap.size ≤ PB k
  apart : ∀ k, k < 14 → PB k ≠ BA
  inj : ∀ k k', k < 14 → k' < 14 → PB k = PB k' → k = k'
/-- A piece of rows: a row, or what is reckoned. -/
def pieceOf (known : Nat → Nat) (x : Nat → Nat → Nat) (k i : Nat) : Nat := Fld.comb (Fld.wgt known k) x 10 i
/-- A value's piece k. -/
def cutOf (val : Nat → Nat) (len k i : Nat) : Nat := if k < 10 then rowOf val len ((len + 9) / 10) k i else pieceOf id (rowOf val len ((len + 9) / 10)) k i
def tenP (j : Nat) : Array Value := (Array.range 10).map fun i => .int .i64 ((if i < j then i else 0 : Nat) : Int)
theorem tenP_ten : tenP 10 = ten id := by
  apply Array.ext_getElem?
  intro c
  by_cases h : c < 10 <;> simp [tenP, ten, h]
theorem tenP_set (j : Nat) : (tenP j).setIfInBounds j (.int .i64 (j : Nat)) = tenP (j + 1) := by
  apply Array.ext_getElem?
  intro c
  rw [Array.getElem?_setIfInBounds]
  by_cases e : j = c
  · subst e
    by_cases hi : j < 10 <;> simp [tenP, hi]
  · rw [if_neg e]
    by_cases hi : c < 10 <;> simp [tenP, hi, show c < j + 1 ↔ c < j by omega]
theorem tenP_zero : tenP 0 = #[.int .i64 0, .int .i64 0, .int .i64 0, .int .i64 0, .int .i64 0, .int .i64 0, .int .i64 0, .int .i64 0, .int .i64 0, .int .i64 0] := by
  apply Array.ext_getElem?
  intro c
  by_cases hi : c < 10
  · have : c = 0 ∨ c = 1 ∨ c = 2 ∨ c = 3 ∨ c = 4 ∨ c = 5 ∨ c = 6 ∨ c = 7 ∨ c = 8 ∨ c = 9 := by omega
    rcases this with rfl | rfl | rfl | rfl | rfl | rfl | rfl | rfl | rfl | rfl <;> simp [tenP]
  · rw [Array.getElem?_eq_none (by simp [tenP]; omega), Array.getElem?_eq_none (by simp; omega)]
/-- The list, j rows being laid. -/
def rowsA (N m j k : Nat) : Value := if k < j then sl (N + 2 + k) m else .slice none 0 0
structure CI (v0 : World) (val : Nat → Nat) (len m j : Nat) (v : World) : Prop where
  ext : Ext v0 v
  ba : v.heap[v0.heap.size]? = some (.cells (allA (rowsA v0.heap.size m j)) 25)
  bk : v.heap[v0.heap.size + 1]? = some (.cells (tenP j) 84)
  rows : ∀ k, k < j → v.heap[v0.heap.size + 2 + k]? = some (.cells (bytesA m (rowOf val len m k)) 5)
  size : v.heap.size = v0.heap.size + 2 + j
theorem lack_id {k : Nat} : lackB id k = true ↔ 10 ≤ k := by
  rw [lackB_iff]
  constructor
  · intro h
    exact Nat.le_of_not_lt fun hk => h k hk rfl
  · intro h j hj e
    simp at e
    omega

set_option maxRecDepth 100000 in
set_option maxHeartbeats 1000000 in
theorem cut_r {S : Nat → Prop} {v : World} (len cap : Nat) (p : Option Addr) (val : Nat → Nat) (hl : len ≤ 400) (hx : ∀ i, val i < 256) (hs : SliceV v p len cap val) (hg : Tryd.prog.globals.size ≤ v.heap.size) :
    CallsR Tryd.prog 24 #[.slice p len cap] S v fun y S' v' => ∃ BA PB, y = .tuple #[sl BA 14, .int .i64 0] ∧ Pieces v BA PB ((len + 9) / 10) (cutOf val len) v' := by
  refine callsR_body Tryd.func24 rfl Tryd.ntmps24 (by simp) fun Stop cc cs ret => ?_
  have h0 : argF #[.slice p len cap] 0 = .slice p len cap := rfl
  generalize argF #[.slice p len cap] = f at h0
  have hlI : ¬ ((400 : Int) < (len : Int)) := by omega
  repeat (first|refine rA ?_|refine rB ?_|refine rC ?_|refine rD ?_|(refine rR ?_;simp only [tO, Nat.reduceAdd])|refine rE ?_|(refine rO goodFG rfl ?_;intro _ hu_ K_ hK_;go_simp;(try rw [wI _]);(try rw [wU _]);refine hK_ _ ?_;clear hK_ K_ hu_;simp only [sS, sN])|(refine rP rfl ?_;simp only [sS, sN])|(refine rP2 rfl ?_;simp only [sS, sN]))
  (refine reach_cond (t := false) (by simp [Act.eval, h0, hlI]) ?_; simp only [if_true, if_false, reduceIte, Bool.false_eq_true])
  repeat (first|refine rA ?_|refine rB ?_|refine rC ?_|refine rD ?_|(refine rR ?_;simp only [tO, Nat.reduceAdd])|refine rE ?_|(refine rO goodFG rfl ?_;intro _ hu_ K_ hK_;go_simp;(try rw [wI _]);(try rw [wU _]);refine hK_ _ ?_;clear hK_ K_ hu_;simp only [sS, sN])|(refine rP rfl ?_;simp only [sS, sN])|(refine rP2 rfl ?_;simp only [sS, sN]))
  (refine reach_callR rfl (by first | rfl | simp [Region.wanted, yielded, TA_get, *]) rfl Tryd.func39 (by kernel_rfl) rfl (by simp [Act.eval, *]; try rfl) (rowLength_r len hl) ?_)
  rintro _ S1 w1 hv1 ⟨rfl, e1, e2⟩
  subst S1 w1
  simp only [stO_some]
  have hm : (len + 9) / 10 ≤ 400 := by omega
  generalize hmm : (len + 9) / 10 = m at hm ret ⊢
  have HM : Hid ((len + 9) / 10 = m) := hmm
  clear hmm
  repeat (first|refine rA ?_|refine rB ?_|refine rC ?_|refine rD ?_|(refine rR ?_;simp only [tO, Nat.reduceAdd])|refine rE ?_|(refine rO goodFG rfl ?_;intro _ hu_ K_ hK_;go_simp;(try rw [wI _]);(try rw [wU _]);refine hK_ _ ?_;clear hK_ K_ hu_;simp only [sS, sN])|(refine rP rfl ?_;simp only [sS, sN])|(refine rP2 rfl ?_;simp only [sS, sN]))
  refine reach_makeV goodFG rfl rfl (by kernel_rfl) rfl (m := 14) (wd := 24) (z := .slice none 0 0) rfl rfl (by omega) (by omega) (by omega) Tryd.underlying59 (by kernel_rfl) rfl fun v1 hE1 hr1 hs1 => ?_
  simp only [stO_some]
  repeat (first|refine rA ?_|refine rB ?_|refine rC ?_|refine rD ?_|(refine rR ?_;simp only [tO, Nat.reduceAdd])|refine rE ?_|(refine rO goodFG rfl ?_;intro _ hu_ K_ hK_;go_simp;(try rw [wI _]);(try rw [wU _]);refine hK_ _ ?_;clear hK_ K_ hu_;simp only [sS, sN])|(refine rP rfl ?_;simp only [sS, sN])|(refine rP2 rfl ?_;simp only [sS, sN]))
  refine reach_alloc goodFG rfl rfl (by kernel_rfl) (.agg (tenP 0)) rfl (by rw [tenP_zero]; kernel_rfl) fun v2 hE2 hr2 hs2 => ?_
  simp only [stO_some]
  repeat (first|refine rA ?_|refine rB ?_|refine rC ?_|refine rD ?_|(refine rR ?_;simp only [tO, Nat.reduceAdd])|refine rE ?_|(refine rO goodFG rfl ?_;intro _ hu_ K_ hK_;go_simp;(try rw [wI _]);(try rw [wU _]);refine hK_ _ ?_;clear hK_ K_ hu_;simp only [sS, sN])|(refine rP rfl ?_;simp only [sS, sN])|(refine rP2 rfl ?_;simp only [sS, sN]))
  have hCI : CI v val len m 0 v2 := by
    refine ⟨hE1.trans _ _ _ hE2, ?_, ?_, fun k hk => by omega, by omega⟩
    · rw [hE2.row hr1]
      congr 2
    · rw [hs1] at hr2
      exact hr2
  have hsz : v1.heap.size = v.heap.size + 1 := hs1
  rw [hsz]
  refine reach_rounds (fun d f' S' v' => ∃ j, d = 10 - j ∧ j ≤ 10 ∧ S' = S ∧ CI v val len m j v' ∧ f' 0 = .slice p len cap ∧ f' 4 = .int .i64 (m : Nat) ∧ f' 5 = sl v.heap.size 14 ∧ f' 6 = ptr (v.heap.size + 1) ∧ f' 15 = .int .i64 (j : Nat)) 10 ⟨0, by omega, by omega, rfl, hCI, by simp [h0], by simp, by simp, by simp, by simp⟩ ?_
  rintro d f' S' v' ⟨j, rfl, hj, eS, hI, g0, g4, g5, g6, g15⟩ next
  subst S'
  repeat (first|refine rA ?_|refine rB ?_|refine rC ?_|refine rD ?_|(refine rR ?_;simp only [tO, Nat.reduceAdd])|refine rE ?_|(refine rO goodFG rfl ?_;intro _ hu_ K_ hK_;go_simp;(try rw [wI _]);(try rw [wU _]);refine hK_ _ ?_;clear hK_ K_ hu_;simp only [sS, sN])|(refine rP rfl ?_;simp only [sS, sN])|(refine rP2 rfl ?_;simp only [sS, sN]))
  by_cases hlt : j < 10
  · have hjI : (j : Int) < 10 := by omega
    (refine reach_cond (t := true) (by simp [Act.eval, g15, hjI]) ?_; simp only [if_true, if_false, reduceIte, Bool.false_eq_true])
    repeat (first|refine rA ?_|refine rB ?_|refine rC ?_|refine rD ?_|(refine rR ?_;simp only [tO, Nat.reduceAdd])|refine rE ?_|(refine rO goodFG rfl ?_;intro _ hu_ K_ hK_;go_simp;(try rw [wI _]);(try rw [wU _]);refine hK_ _ ?_;clear hK_ K_ hu_;simp only [sS, sN])|(refine rP rfl ?_;simp only [sS, sN])|(refine rP2 rfl ?_;simp only [sS, sN]))
    refine reach_store1 goodFG rfl rfl (by kernel_rfl) (x := .tmp 20) (y := .tmp 19) (g := v.heap.size + 1) (j := j) (z := .int .i64 (j : Nat)) rfl (by simp) (by simp) rfl rfl hI.bk (by simp [tenP]; omega) (by kernel_rfl) fun v3 hW3 => ?_
    simp only [stO_none]
    rw [tenP_set] at hW3
    have hs3 : v3.heap.size = v.heap.size + 2 + j := hW3.size.trans hI.size
    have hsl3 : SliceV v3 p len cap val := by
      refine hs.imp id fun ⟨B, off, q1, q2, q3⟩ => ⟨B, off, q1, q2, fun i hi => ?_⟩
      have hc := q3 i hi
      have hb := lt_of_cell hc
      have := hI.ext.cell hc
      rw [← this]
      simp only [World.cell?, hW3.other B (by simp only at hb; omega)]
    repeat (first|refine rA ?_|refine rB ?_|refine rC ?_|refine rD ?_|(refine rR ?_;simp only [tO, Nat.reduceAdd])|refine rE ?_|(refine rO goodFG rfl ?_;intro _ hu_ K_ hK_;go_simp;(try rw [wI _]);(try rw [wU _]);refine hK_ _ ?_;clear hK_ K_ hu_;simp only [sS, sN])|(refine rP rfl ?_;simp only [sS, sN])|(refine rP2 rfl ?_;simp only [sS, sN]))
    (refine reach_callR rfl (by first | rfl | simp [Region.wanted, yielded, TA_get, *]) rfl Tryd.func40 (by kernel_rfl) rfl (by simp [Act.eval, *]; try rfl) (rowAny_r m j len cap p val hlt hm hl hsl3) ?_)
    rintro _ S1 v4 hv4 ⟨rfl, e1, hR⟩
    subst S1
    simp only [stO_some]
    have hba4 : v4.heap[v.heap.size]? = some (.cells (allA (rowsA v.heap.size m j)) 25) := hR.ext.row ((hW3.other _ (by omega)).trans hI.ba)
    have hj14 : (j : Int) < 14 := by omega
    repeat (first|refine rA ?_|refine rB ?_|refine rC ?_|refine rD ?_|(refine rR ?_;simp only [tO, Nat.reduceAdd])|refine rE ?_|(refine rO goodFG rfl ?_;intro _ hu_ K_ hK_;go_simp;(try rw [wI _]);(try rw [wU _]);refine hK_ _ ?_;clear hK_ K_ hu_;simp only [sS, sN])|(refine rP rfl ?_;simp only [sS, sN])|(refine rP2 rfl ?_;simp only [sS, sN]))
    refine reach_store1 goodFG rfl rfl (by kernel_rfl) (x := .tmp 27) (y := .tmp 26) (g := v.heap.size) (j := j) (z := sl v3.heap.size m) rfl (by simp) (by simp) rfl rfl hba4 (by rw [allA_size]; omega) (by kernel_rfl) fun v5 hW5 => ?_
    simp only [stO_none]
    rw [allA_set] at hW5
    repeat (first|refine rA ?_|refine rB ?_|refine rC ?_|refine rD ?_|(refine rR ?_;simp only [tO, Nat.reduceAdd])|refine rE ?_|(refine rO goodFG rfl ?_;intro _ hu_ K_ hK_;go_simp;(try rw [wI _]);(try rw [wU _]);refine hK_ _ ?_;clear hK_ K_ hu_;simp only [sS, sN])|(refine rP rfl ?_;simp only [sS, sN])|(refine rP2 rfl ?_;simp only [sS, sN]))
    have hI5 : CI v val len m (j + 1) v5 := by
      have hs4 := hR.size
      have hs5 := hW5.size
      refine ⟨⟨by omega, fun b hb => ?_, ?_, ?_⟩, ?_, ?_, fun k hk => ?_, by omega⟩
      · rw [hW5.other b (by omega), hR.ext.block b (by omega), hW3.other b (by omega)]
        exact hI.ext.block b hb
      · rw [hW5.os, hR.ext.os, hW3.os]; exact hI.ext.os
      · rw [hW5.output, hR.ext.output, hW3.output]; exact hI.ext.output
      · rw [hW5.at_]
        congr 2
        refine allA_congr fun c hc => ?_
        simp only [rowsA]
        by_cases e : c = j
        · subst e; rw [if_pos rfl, if_pos (by omega), hs3]
        · rw [if_neg e]
          simp only [show (c < j + 1 ↔ c < j) by omega]
      · rw [hW5.other _ (by omega)]
        exact hR.ext.row hW3.at_
      · by_cases e : k = j
        · subst e
          rw [hW5.other _ (by omega), ← hs3]
          exact hR.row
        · rw [hW5.other _ (by omega)]
          exact hR.ext.row ((hW3.other _ (by omega)).trans (hI.rows k (by omega)))
    refine next _ _ _ (10 - (j + 1)) (by omega) ⟨j + 1, rfl, by omega, rfl, hI5, ?_, ?_, ?_, ?_, ?_⟩
    · simp [g0]
    · simp [g4]
    · simp [g5]
    · simp [g6]
    · simp
  · obtain rfl : j = 10 := by omega
    (refine reach_cond (t := false) (by simp [Act.eval, g15]) ?_; simp only [if_true, if_false, reduceIte, Bool.false_eq_true])
    refine reach_exit rfl ?_
    repeat (first|refine rA ?_|refine rB ?_|refine rC ?_|refine rD ?_|(refine rR ?_;simp only [tO, Nat.reduceAdd])|refine rE ?_|(refine rO goodFG rfl ?_;intro _ hu_ K_ hK_;go_simp;(try rw [wI _]);(try rw [wU _]);refine hK_ _ ?_;clear hK_ K_ hu_;simp only [sS, sN])|(refine rP rfl ?_;simp only [sS, sN])|(refine rP2 rfl ?_;simp only [sS, sN]))
    have hbk : v'.heap[v.heap.size + 1]? = some (.cells (ten id) 84) := by rw [← tenP_ten]; exact hI.bk
    refine reach_loadRow goodFG rfl rfl (by kernel_rfl) (x := .tmp 6) (b := v.heap.size + 1) rfl (by simp [g6]) hbk (by kernel_rfl) (by rw [ten_size]; kernel_rfl) ?_
    simp only [stO_some]
    repeat (first|refine rA ?_|refine rB ?_|refine rC ?_|refine rD ?_|(refine rR ?_;simp only [tO, Nat.reduceAdd])|refine rE ?_|(refine rO goodFG rfl ?_;intro _ hu_ K_ hK_;go_simp;(try rw [wI _]);(try rw [wU _]);refine hK_ _ ?_;clear hK_ K_ hu_;simp only [sS, sN])|(refine rP rfl ?_;simp only [sS, sN])|(refine rP2 rfl ?_;simp only [sS, sN]))
    have hrows : ∀ k, k < 10 → v'.heap[v.heap.size + 2 + k]? = some (.cells (bytesA m (rowOf val len m k)) 5) := hI.rows
    have hrx : ∀ k i, rowOf val len m k i < 256 := fun k i => by
      unfold rowOf
      split
      · exact hx _
      · omega
    have hfill : CallsR Tryd.prog 41 #[sl v.heap.size 14, .agg (ten id), .int .i64 (m : Nat)] S v' fun y S' w => y = .tuple #[] ∧ ∃ PB, Filled v' id m (rowOf val len m) (rowsA v.heap.size m 10) v.heap.size 25 PB w := by
      intro Stop' c' cs' hr
      refine fill_reach (RB := fun k => v.heap.size + 2 + k) (fun j hj => by simp; omega) hm hrx (fun j hj => by simp [rowsA, hj]) (fun k hk hl' => ?_) (Nat.le_trans hg hI.ext.size) hg (fun j hj => by omega) hI.ba hrows fun S' w PB hw hf => hr _ S' w hw ⟨rfl, PB, hf⟩
      have := lack_id.1 hl'
      simp [rowsA, show ¬ k < 10 by omega]
    (refine reach_callR rfl (by first | rfl | simp [Region.wanted, yielded, TA_get, *]) rfl Tryd.func41 (by kernel_rfl) rfl (by simp [Act.eval, *]; try rfl) (hfill) ?_)
    rintro _ S5 v5 hv5 ⟨rfl, PB, hF⟩
    simp only [stO_some]
    repeat (first|refine rA ?_|refine rB ?_|refine rC ?_|refine rD ?_|(refine rR ?_;simp only [tO, Nat.reduceAdd])|refine rE ?_|(refine rO goodFG rfl ?_;intro _ hu_ K_ hK_;go_simp;(try rw [wI _]);(try rw [wU _]);refine hK_ _ ?_;clear hK_ K_ hu_;simp only [sS, sN])|(refine rP rfl ?_;simp only [sS, sN])|(refine rP2 rfl ?_;simp only [sS, sN]))
    refine reach_ret fun todo => ?_
    refine ret _ _ S5 v5 (.tuple #[sl v.heap.size 14, .int .i64 0]) ?_ ⟨v.heap.size, fun k => if k < 10 then v.heap.size + 2 + k else PB k, rfl, ?_⟩
    · simp [results, Tryd.results24, g5]
    · have hsI := hI.size
      have hPB : ∀ k, k < 14 → ¬ k < 10 → v'.heap.size ≤ PB k ∧ v5.heap[PB k]? = some (done id m (rowOf val len m) k) := fun k hk hn => hF.pb k hk (lack_id.2 (by omega))
      refine ⟨⟨Nat.le_trans hI.ext.size hF.kp.size, hF.kp.os.trans hI.ext.os, hF.kp.output.trans hI.ext.output, fun b o _ hc ht => ?_⟩, ?_, fun k hk => ?_, Nat.le_refl _, fun k hk => ?_, fun k hk => ?_, fun k k' hk hk' e => ?_⟩
      · have := (Array.getElem?_eq_some_iff.1 hc).1
        exact hF.kp.objs b o (by omega) (hI.ext.row hc) ht
      · rw [hF.ba]
        congr 2
        refine allA_congr fun c hc => ?_
        simp only [AK, rowsA]
        by_cases e : c < 10
        · have : ¬ lackB id c = true := fun h => by have := lack_id.1 h; omega
          simp [this, e]
        · simp [lack_id.2 (show 10 ≤ c by omega), hc, e]
      · by_cases e : k < 10
        · rw [if_pos e, show cutOf val len k = rowOf val len m k from funext fun i => by simp only [cutOf, if_pos e, HM.out]]
          exact hF.kp.cells _ _ _ _ (by omega) (hI.rows k e)
        · rw [if_neg e, show cutOf val len k = pieceOf id (rowOf val len m) k from funext fun i => by simp only [cutOf, if_neg e, HM.out]]
          exact (hPB k hk e).2
      · by_cases e : k < 10
        · simp only [if_pos e]; omega
        · simp only [if_neg e]
          have := (hPB k hk e).1
          omega
      · by_cases e : k < 10
        · simp only [if_pos e]; omega
        · simp only [if_neg e]
          have := (hPB k hk e).1
          omega
      · by_cases h1 : k < 10
        · by_cases h2 : k' < 10
          · simp only [if_pos h1, if_pos h2] at e; omega
          · simp only [if_pos h1, if_neg h2] at e
            have := (hPB k' hk' h2).1
            omega
        · by_cases h2 : k' < 10
          · simp only [if_neg h1, if_pos h2] at e
            have := (hPB k hk h1).1
            omega
          · simp only [if_neg h1, if_neg h2] at e
            rcases Nat.lt_trichotomy k k' with h | h | h
            · have := hF.mono k k' h hk' (lack_id.2 (by omega)) (lack_id.2 (by omega)); omega
            · exact h
            · have := hF.mono k' k h hk (lack_id.2 (by omega)) (lack_id.2 (by omega)); omega
end Go.Proofs.YtpiefebngnlfoaaDoor

/-
  Lists of pieces: piece.oneLength, piece.firstTen.
-/
set_option linter.unusedVariables false
set_option linter.unusedSimpArgs false
namespace Go.Proofs.YtpiefebngnlfoaaDoor
open Go.RowKit Go.Conc Go.Vw

/-- A list of fourteen pieces, some of which are there. -/
structure PL (v : World) (BL ol : Nat) (q : Nat → Option Addr) (ln cp : Nat → Nat) (y : Nat → Nat → Nat) : Prop where
  at_ : ∀ k, k < 14 → v.cell? ⟨BL, ol + k, none⟩ = some (.slice (q k) (ln k) (cp k))
  sl : ∀ k, k < 14 → SliceV v (q k) (ln k) (cp k) (y k)
theorem PL.ext {v u : World} {BL ol : Nat} {q : Nat → Option Addr} {ln cp : Nat → Nat} {y : Nat → Nat → Nat} (h : PL v BL ol q ln cp y) (e : Ext v u) : PL u BL ol q ln cp y := ⟨fun k hk => e.cell (h.at_ k hk), fun k hk => (h.sl k hk).ext e⟩
theorem PL.kp {v u : World} {BL ol : Nat} {q : Nat → Option Addr} {ln cp : Nat → Nat} {y : Nat → Nat → Nat} (h : PL v BL ol q ln cp y) (e : Kp v (fun _ => False) u) : PL u BL ol q ln cp y := ⟨fun k hk => e.cell (fun x => x) (h.at_ k hk), fun k hk => slice_kp e (h.sl k hk)⟩
def anyB (q : Nat → Option Addr) (i : Nat) : Bool := (List.range i).any fun k => (q k).isSome
theorem anyB_succ (q : Nat → Option Addr) (i : Nat) : anyB q (i + 1) = (anyB q i || (q i).isSome) := by simp [anyB, List.range_succ]

set_option maxRecDepth 100000 in
set_option maxHeartbeats 1000000 in
theorem oneLength_r {S : Nat → Prop} {v : World} (BL ol cl m : Nat) (q : Nat → Option Addr) (ln cp : Nat → Nat) (y : Nat → Nat → Nat) (hP : PL v BL ol q ln cp y) (hm : ∀ k, k < 14 → (q k).isSome = true → ln k = m) :
    CallsR Tryd.prog 65 #[.slice (some ⟨BL, ol, none⟩) 14 cl] S v fun x S' v' => x = .tuple #[.int .i64 ((if anyB q 14 then m else 0 : Nat) : Int), .bool true] ∧ S' = S ∧ v' = v := by
  refine callsR_body Tryd.func65 rfl Tryd.ntmps65 (by simp) fun Stop cc cs ret => ?_
  have h0 : argF #[.slice (some ⟨BL, ol, none⟩) 14 cl] 0 = .slice (some ⟨BL, ol, none⟩) 14 cl := rfl
  generalize argF #[.slice (some ⟨BL, ol, none⟩) 14 cl] = f at h0
  repeat (first|refine rA ?_|refine rB ?_|refine rC ?_|refine rD ?_|(refine rR ?_;simp only [tO, Nat.reduceAdd])|refine rE ?_|(refine rO goodFG rfl ?_;intro _ hu_ K_ hK_;go_simp;(try rw [wI _]);(try rw [wU _]);refine hK_ _ ?_;clear hK_ K_ hu_;simp only [sS, sN])|(refine rP rfl ?_;simp only [sS, sN])|(refine rP2 rfl ?_;simp only [sS, sN]))
  refine reach_rounds (fun d f' S' v' => ∃ j, d = 14 - j ∧ j ≤ 14 ∧ S' = S ∧ v' = v ∧ f' 8 = .slice (some ⟨BL, ol, none⟩) 14 cl ∧ f' 9 = .int .i64 14 ∧ f' 10 = .int .i64 (j : Nat) ∧ f' 4 = .int .i64 ((if anyB q j then m else 0 : Nat) : Int) ∧ f' 5 = .bool (anyB q j)) 14 ⟨0, by omega, by omega, rfl, rfl, by simp [h0], by simp, by simp, by simp [anyB], by simp [anyB]⟩ ?_
  rintro d f' S' v' ⟨j, rfl, hj, eS, eV, g8, g9, g10, g4, g5⟩ next
  subst S' v'
  repeat (first|refine rA ?_|refine rB ?_|refine rC ?_|refine rD ?_|(refine rR ?_;simp only [tO, Nat.reduceAdd])|refine rE ?_|(refine rO goodFG rfl ?_;intro _ hu_ K_ hK_;go_simp;(try rw [wI _]);(try rw [wU _]);refine hK_ _ ?_;clear hK_ K_ hu_;simp only [sS, sN])|(refine rP rfl ?_;simp only [sS, sN])|(refine rP2 rfl ?_;simp only [sS, sN]))
  by_cases hlt : j < 14
  · have hjI : (j : Int) < 14 := by omega
    (refine reach_cond (t := true) (by simp [Act.eval, g10, g9, hjI]) ?_; simp only [if_true, if_false, reduceIte, Bool.false_eq_true])
    have hat := hP.at_ j hlt
    cases hq : q j with
    | none =>
      rw [hq] at hat
      have ha : anyB q (j + 1) = anyB q j := by rw [anyB_succ, hq]; simp
      have HA : Hid (anyB q (j + 1) = anyB q j) := ha
      clear ha hq
      repeat (first|refine rA ?_|refine rB ?_|refine rC ?_|refine rD ?_|(refine rR ?_;simp only [tO, Nat.reduceAdd])|refine rE ?_|(refine rO goodFG rfl ?_;intro _ hu_ K_ hK_;(have hc := (Ext.twin hu_).cell hat);go_simp;(try rw [wI _]);(try rw [wU _]);refine hK_ _ ?_;clear hK_ K_ hu_;simp only [sS, sN])|(refine rP rfl ?_;simp only [sS, sN])|(refine rP2 rfl ?_;simp only [sS, sN]))
      (refine reach_cond (t := true) (by simp [Act.eval]) ?_; simp only [if_true, if_false, reduceIte, Bool.false_eq_true])
      refine reach_exit rfl ?_
      repeat (first|refine rA ?_|refine rB ?_|refine rC ?_|refine rD ?_|(refine rR ?_;simp only [tO, Nat.reduceAdd])|refine rE ?_|(refine rO goodFG rfl ?_;intro _ hu_ K_ hK_;go_simp;(try rw [wI _]);(try rw [wU _]);refine hK_ _ ?_;clear hK_ K_ hu_;simp only [sS, sN])|(refine rP rfl ?_;simp only [sS, sN])|(refine rP2 rfl ?_;simp only [sS, sN]))
      refine next _ _ _ (14 - (j + 1)) (by omega) ⟨j + 1, rfl, by omega, rfl, rfl, ?_, ?_, ?_, ?_, ?_⟩
      · simp [g8]
      · simp [g9]
      · simp
      · simp [g4, HA.out]
      · simp [g5, HA.out]
    | some a =>
      rw [hq] at hat
      have hlm : ln j = m := hm j hlt (by rw [hq]; rfl)
      rw [hlm] at hat
      have ha : anyB q (j + 1) = true := by rw [anyB_succ, hq]; simp
      have HA : Hid (anyB q (j + 1) = true) := ha
      clear ha hq hlm
      repeat (first|refine rA ?_|refine rB ?_|refine rC ?_|refine rD ?_|(refine rR ?_;simp only [tO, Nat.reduceAdd])|refine rE ?_|(refine rO goodFG rfl ?_;intro _ hu_ K_ hK_;(have hc := (Ext.twin hu_).cell hat);go_simp;(try rw [wI _]);(try rw [wU _]);refine hK_ _ ?_;clear hK_ K_ hu_;simp only [sS, sN])|(refine rP rfl ?_;simp only [sS, sN])|(refine rP2 rfl ?_;simp only [sS, sN]))
      (refine reach_cond (t := false) (by simp [Act.eval]) ?_; simp only [if_true, if_false, reduceIte, Bool.false_eq_true])
      cases hb : anyB q j with
      | false =>
        rw [hb] at g5
        simp only [hb, Bool.false_eq_true, if_false] at g4
        repeat (first|refine rA ?_|refine rB ?_|refine rC ?_|refine rD ?_|(refine rR ?_;simp only [tO, Nat.reduceAdd])|refine rE ?_|(refine rO goodFG rfl ?_;intro _ hu_ K_ hK_;go_simp;(try rw [wI _]);(try rw [wU _]);refine hK_ _ ?_;clear hK_ K_ hu_;simp only [sS, sN])|(refine rP rfl ?_;simp only [sS, sN])|(refine rP2 rfl ?_;simp only [sS, sN]))
        (refine reach_cond (t := false) (by simp [Act.eval]) ?_; simp only [if_true, if_false, reduceIte, Bool.false_eq_true])
        repeat (first|refine rA ?_|refine rB ?_|refine rC ?_|refine rD ?_|(refine rR ?_;simp only [tO, Nat.reduceAdd])|refine rE ?_|(refine rO goodFG rfl ?_;intro _ hu_ K_ hK_;go_simp;(try rw [wI _]);(try rw [wU _]);refine hK_ _ ?_;clear hK_ K_ hu_;simp only [sS, sN])|(refine rP rfl ?_;simp only [sS, sN])|(refine rP2 rfl ?_;simp only [sS, sN]))
        refine next _ _ _ (14 - (j + 1)) (by omega) ⟨j + 1, rfl, by omega, rfl, rfl, ?_, ?_, ?_, ?_, ?_⟩
        · simp [g8]
        · simp [g9]
        · simp
        · simp [HA.out]
        · simp [HA.out]
      | true =>
        rw [hb] at g5
        simp only [hb, if_true] at g4
        repeat (first|refine rA ?_|refine rB ?_|refine rC ?_|refine rD ?_|(refine rR ?_;simp only [tO, Nat.reduceAdd])|refine rE ?_|(refine rO goodFG rfl ?_;intro _ hu_ K_ hK_;go_simp;(try rw [wI _]);(try rw [wU _]);refine hK_ _ ?_;clear hK_ K_ hu_;simp only [sS, sN])|(refine rP rfl ?_;simp only [sS, sN])|(refine rP2 rfl ?_;simp only [sS, sN]))
        (refine reach_cond (t := false) (by simp [Act.eval]) ?_; simp only [if_true, if_false, reduceIte, Bool.false_eq_true])
        repeat (first|refine rA ?_|refine rB ?_|refine rC ?_|refine rD ?_|(refine rR ?_;simp only [tO, Nat.reduceAdd])|refine rE ?_|(refine rO goodFG rfl ?_;intro _ hu_ K_ hK_;go_simp;(try rw [wI _]);(try rw [wU _]);refine hK_ _ ?_;clear hK_ K_ hu_;simp only [sS, sN])|(refine rP rfl ?_;simp only [sS, sN])|(refine rP2 rfl ?_;simp only [sS, sN]))
        refine next _ _ _ (14 - (j + 1)) (by omega) ⟨j + 1, rfl, by omega, rfl, rfl, ?_, ?_, ?_, ?_, ?_⟩
        · simp [g8]
        · simp [g9]
        · simp
        · simp [HA.out]
        · simp [HA.out]
  · obtain rfl : j = 14 := by omega
    (refine reach_cond (t := false) (by simp [Act.eval, g10, g9]) ?_; simp only [if_true, if_false, reduceIte, Bool.false_eq_true])
    refine reach_exit rfl ?_
    repeat (first|refine rA ?_|refine rB ?_|refine rC ?_|refine rD ?_|(refine rR ?_;simp only [tO, Nat.reduceAdd])|refine rE ?_|(refine rO goodFG rfl ?_;intro _ hu_ K_ hK_;go_simp;(try rw [wI _]);(try rw [wU _]);refine hK_ _ ?_;clear hK_ K_ hu_;simp only [sS, sN])|(refine rP rfl ?_;simp only [sS, sN])|(refine rP2 rfl ?_;simp only [sS, sN]))
    refine reach_ret fun todo => ?_
    refine ret _ _ _ _ _ ?_ ⟨rfl, rfl, rfl⟩
    simp [results, Tryd.results65, g4]

/-- How many of the first i pieces are counted, and which. -/
def ftC (q : Nat → Option Addr) : Nat → Nat × (Nat → Nat)
  | 0 => (0, fun _ => 0)
  | i + 1 => if (q i).isSome = true ∧ (ftC q i).1 < 10 then ((ftC q i).1 + 1, fun j => if j = (ftC q i).1 then i else (ftC q i).2 j) else ftC q i
theorem ftC_le (q : Nat → Option Addr) (i : Nat) : (ftC q i).1 ≤ 10 := by
  induction i with
  | zero => exact Nat.zero_le _
  | succ i ih =>
    unfold ftC
    split
    · simp only; omega
    · exact ih
theorem ftC_kn (q : Nat → Option Addr) (i : Nat) : ∀ j, j < (ftC q i).1 → (ftC q i).2 j < i ∧ (q ((ftC q i).2 j)).isSome = true ∧ ∀ j', j' < j → (ftC q i).2 j' < (ftC q i).2 j := by
  induction i with
  | zero => intro j hj; exact absurd hj (Nat.not_lt_zero _)
  | succ i ih =>
    intro j hj
    unfold ftC at hj ⊢
    split at hj
    · rename_i h
      rw [if_pos h]
      simp only at hj ⊢
      by_cases e : j = (ftC q i).1
      · rw [if_pos e]
        refine ⟨by omega, h.1, fun j' hj' => ?_⟩
        rw [if_neg (by omega)]
        exact (ih j' (by omega)).1
      · rw [if_neg e]
        obtain ⟨h1, h2, h3⟩ := ih j (by omega)
        refine ⟨by omega, h2, fun j' hj' => ?_⟩
        rw [if_neg (by omega)]
        exact h3 j' hj'
    · rename_i h
      rw [if_neg h]
      obtain ⟨h1, h2, h3⟩ := ih j hj
      exact ⟨by omega, h2, h3⟩
theorem ten_set (kn : Nat → Nat) (c i : Nat) : (ten kn).setIfInBounds c (.int .i64 (i : Nat)) = ten fun j => if j = c then i else kn j := by
  apply Array.ext_getElem?
  intro e
  rw [Array.getElem?_setIfInBounds]
  by_cases h : c = e
  · subst h
    by_cases hi : c < 10 <;> simp [ten, hi]
  · rw [if_neg h]
    by_cases hi : e < 10 <;> simp [ten, hi, show ¬ e = c from fun x => h x.symm]
theorem ten_one (kn : Nat → Nat) : (ten kn).all (·.oneCell') = true := by
  rw [Array.all_eq_true_iff_forall_mem]
  intro y hy
  simp [ten] at hy
  obtain ⟨j, _, rfl⟩ := hy
  rfl
theorem ten_zero : tenP 0 = ten fun _ => 0 := by
  apply Array.ext_getElem?
  intro c
  by_cases h : c < 10 <;> simp [tenP, ten, h]
structure FT (v0 : World) (q : Nat → Option Addr) (j : Nat) (v : World) : Prop where
  ext : Ext v0 v
  r : v.heap[v0.heap.size]? = some (.cells (ten fun _ => 0) 84)
  k : v.heap[v0.heap.size + 1]? = some (.cells (ten (ftC q j).2) 84)
  size : v.heap.size = v0.heap.size + 2

set_option maxRecDepth 100000 in
set_option maxHeartbeats 1000000 in
theorem firstTen_r {S : Nat → Prop} {v : World} (BL ol cl : Nat) (q : Nat → Option Addr) (ln cp : Nat → Nat) (y : Nat → Nat → Nat) (hP : PL v BL ol q ln cp y) :
    CallsR Tryd.prog 66 #[.slice (some ⟨BL, ol, none⟩) 14 cl] S v fun x S' v' => x = .tuple #[.agg (ten (ftC q 14).2), .bool (decide ((ftC q 14).1 = 10))] ∧ S' = S ∧ Ext v v' := by
  refine callsR_body Tryd.func66 rfl Tryd.ntmps66 (by simp) fun Stop cc cs ret => ?_
  have h0 : argF #[.slice (some ⟨BL, ol, none⟩) 14 cl] 0 = .slice (some ⟨BL, ol, none⟩) 14 cl := rfl
  generalize argF #[.slice (some ⟨BL, ol, none⟩) 14 cl] = f at h0
  repeat (first|refine rA ?_|refine rB ?_|refine rC ?_|refine rD ?_|(refine rR ?_;simp only [tO, Nat.reduceAdd])|refine rE ?_|(refine rO goodFG rfl ?_;intro _ hu_ K_ hK_;go_simp;(try rw [wI _]);(try rw [wU _]);refine hK_ _ ?_;clear hK_ K_ hu_;simp only [sS, sN])|(refine rP rfl ?_;simp only [sS, sN])|(refine rP2 rfl ?_;simp only [sS, sN]))
  refine reach_alloc goodFG rfl rfl (by kernel_rfl) (.agg (tenP 0)) rfl (by rw [tenP_zero]; kernel_rfl) fun v1 hE1 hr1 hs1 => ?_
  simp only [stO_some]
  repeat (first|refine rA ?_|refine rB ?_|refine rC ?_|refine rD ?_|(refine rR ?_;simp only [tO, Nat.reduceAdd])|refine rE ?_|(refine rO goodFG rfl ?_;intro _ hu_ K_ hK_;go_simp;(try rw [wI _]);(try rw [wU _]);refine hK_ _ ?_;clear hK_ K_ hu_;simp only [sS, sN])|(refine rP rfl ?_;simp only [sS, sN])|(refine rP2 rfl ?_;simp only [sS, sN]))
  refine reach_alloc goodFG rfl rfl (by kernel_rfl) (.agg (tenP 0)) rfl (by rw [tenP_zero]; kernel_rfl) fun v2 hE2 hr2 hs2 => ?_
  simp only [stO_some]
  repeat (first|refine rA ?_|refine rB ?_|refine rC ?_|refine rD ?_|(refine rR ?_;simp only [tO, Nat.reduceAdd])|refine rE ?_|(refine rO goodFG rfl ?_;intro _ hu_ K_ hK_;go_simp;(try rw [wI _]);(try rw [wU _]);refine hK_ _ ?_;clear hK_ K_ hu_;simp only [sS, sN])|(refine rP rfl ?_;simp only [sS, sN])|(refine rP2 rfl ?_;simp only [sS, sN]))
  rw [hs1] at hr2 ⊢
  have hT : FT v q 0 v2 := ⟨hE1.trans _ _ _ hE2, by rw [← ten_zero]; exact hE2.row hr1, by rw [show (ftC q 0).2 = fun _ => 0 from rfl, ← ten_zero]; exact hr2, by omega⟩
  refine reach_rounds (fun d f' S' v' => ∃ j, d = 14 - j ∧ j ≤ 14 ∧ S' = S ∧ FT v q j v' ∧ f' 2 = ptr v.heap.size ∧ f' 4 = ptr (v.heap.size + 1) ∧ f' 5 = .int .i64 ((ftC q j).1 : Nat) ∧ f' 8 = .slice (some ⟨BL, ol, none⟩) 14 cl ∧ f' 9 = .int .i64 14 ∧ f' 10 = .int .i64 (j : Nat)) 14 ⟨0, by omega, by omega, rfl, hT, by simp, by simp, by simp [ftC], by simp [h0], by simp, by simp⟩ ?_
  rintro d f' S' v' ⟨j, rfl, hj, eS, hT, g2, g4, g5, g8, g9, g10⟩ next
  subst S'
  repeat (first|refine rA ?_|refine rB ?_|refine rC ?_|refine rD ?_|(refine rR ?_;simp only [tO, Nat.reduceAdd])|refine rE ?_|(refine rO goodFG rfl ?_;intro _ hu_ K_ hK_;go_simp;(try rw [wI _]);(try rw [wU _]);refine hK_ _ ?_;clear hK_ K_ hu_;simp only [sS, sN])|(refine rP rfl ?_;simp only [sS, sN])|(refine rP2 rfl ?_;simp only [sS, sN]))
  have hle := ftC_le q j
  by_cases hlt : j < 14
  · have hjI : (j : Int) < 14 := by omega
    (refine reach_cond (t := true) (by simp [Act.eval, g10, g9, hjI]) ?_; simp only [if_true, if_false, reduceIte, Bool.false_eq_true])
    have hat := hT.ext.cell (hP.at_ j hlt)
    cases hq : q j with
    | none =>
      rw [hq] at hat
      have hf : ftC q (j + 1) = ftC q j := by
        rw [ftC, if_neg]
        rw [hq]; simp
      have HF : Hid (ftC q (j + 1) = ftC q j) := hf
      clear hf hq
      repeat (first|refine rA ?_|refine rB ?_|refine rC ?_|refine rD ?_|(refine rR ?_;simp only [tO, Nat.reduceAdd])|refine rE ?_|(refine rO goodFG rfl ?_;intro _ hu_ K_ hK_;(have hc := (Ext.twin hu_).cell hat);go_simp;(try rw [wI _]);(try rw [wU _]);refine hK_ _ ?_;clear hK_ K_ hu_;simp only [sS, sN])|(refine rP rfl ?_;simp only [sS, sN])|(refine rP2 rfl ?_;simp only [sS, sN]))
      (refine reach_cond (t := false) (by simp [Act.eval]) ?_; simp only [if_true, if_false, reduceIte, Bool.false_eq_true])
      repeat (first|refine rA ?_|refine rB ?_|refine rC ?_|refine rD ?_|(refine rR ?_;simp only [tO, Nat.reduceAdd])|refine rE ?_|(refine rO goodFG rfl ?_;intro _ hu_ K_ hK_;go_simp;(try rw [wI _]);(try rw [wU _]);refine hK_ _ ?_;clear hK_ K_ hu_;simp only [sS, sN])|(refine rP rfl ?_;simp only [sS, sN])|(refine rP2 rfl ?_;simp only [sS, sN]))
      refine next _ _ _ (14 - (j + 1)) (by omega) ⟨j + 1, rfl, by omega, rfl, ⟨hT.ext, hT.r, by rw [HF.out]; exact hT.k, hT.size⟩, ?_, ?_, ?_, ?_, ?_, ?_⟩
      · simp [g2]
      · simp [g4]
      · simp [g5, HF.out]
      · simp [g8]
      · simp [g9]
      · simp
    | some a =>
      rw [hq] at hat
      by_cases hc10 : (ftC q j).1 < 10
      · have hf : ftC q (j + 1) = ((ftC q j).1 + 1, fun e => if e = (ftC q j).1 then j else (ftC q j).2 e) := by
          rw [ftC, if_pos]
          rw [hq]; exact ⟨rfl, hc10⟩
        have HF : Hid (ftC q (j + 1) = ((ftC q j).1 + 1, fun e => if e = (ftC q j).1 then j else (ftC q j).2 e)) := hf
        have hcI : ((ftC q j).1 : Int) < 10 := by omega
        clear hf hq
        repeat (first|refine rA ?_|refine rB ?_|refine rC ?_|refine rD ?_|(refine rR ?_;simp only [tO, Nat.reduceAdd])|refine rE ?_|(refine rO goodFG rfl ?_;intro _ hu_ K_ hK_;(have hc := (Ext.twin hu_).cell hat);go_simp;(try rw [wI _]);(try rw [wU _]);refine hK_ _ ?_;clear hK_ K_ hu_;simp only [sS, sN])|(refine rP rfl ?_;simp only [sS, sN])|(refine rP2 rfl ?_;simp only [sS, sN]))
        (refine reach_cond (t := true) (by simp [Act.eval, hcI]) ?_; simp only [if_true, if_false, reduceIte, Bool.false_eq_true])
        repeat (first|refine rA ?_|refine rB ?_|refine rC ?_|refine rD ?_|(refine rR ?_;simp only [tO, Nat.reduceAdd])|refine rE ?_|(refine rO goodFG rfl ?_;intro _ hu_ K_ hK_;go_simp;(try rw [wI _]);(try rw [wU _]);refine hK_ _ ?_;clear hK_ K_ hu_;simp only [sS, sN])|(refine rP rfl ?_;simp only [sS, sN])|(refine rP2 rfl ?_;simp only [sS, sN]))
        refine reach_store1 goodFG rfl rfl (by kernel_rfl) (x := .tmp 23) (y := .tmp 22) (g := v.heap.size + 1) (j := (ftC q j).1) (z := .int .i64 (j : Nat)) rfl (by simp) (by simp) rfl rfl hT.k (by rw [ten_size]; exact hc10) (by kernel_rfl) fun v3 hW => ?_
        simp only [stO_none]
        rw [ten_set] at hW
        repeat (first|refine rA ?_|refine rB ?_|refine rC ?_|refine rD ?_|(refine rR ?_;simp only [tO, Nat.reduceAdd])|refine rE ?_|(refine rO goodFG rfl ?_;intro _ hu_ K_ hK_;go_simp;(try rw [wI _]);(try rw [wU _]);refine hK_ _ ?_;clear hK_ K_ hu_;simp only [sS, sN])|(refine rP rfl ?_;simp only [sS, sN])|(refine rP2 rfl ?_;simp only [sS, sN]))
        refine next _ _ _ (14 - (j + 1)) (by omega) ⟨j + 1, rfl, by omega, rfl, ⟨⟨by have := hW.size; have := hT.size; omega, fun b hb => (hW.other b (by omega)).trans (hT.ext.block b hb), hW.os.trans hT.ext.os, hW.output.trans hT.ext.output⟩, (hW.other _ (by omega)).trans hT.r, by rw [HF.out]; exact hW.at_, hW.size.trans hT.size⟩, ?_, ?_, ?_, ?_, ?_, ?_⟩
        · simp [g2]
        · simp [g4]
        · simp [HF.out]
        · simp [g8]
        · simp [g9]
        · simp
      · have hf : ftC q (j + 1) = ftC q j := by
          rw [ftC, if_neg]
          exact fun h => hc10 h.2
        have HF : Hid (ftC q (j + 1) = ftC q j) := hf
        have hcI : ¬ ((ftC q j).1 : Int) < 10 := by omega
        clear hf hq
        repeat (first|refine rA ?_|refine rB ?_|refine rC ?_|refine rD ?_|(refine rR ?_;simp only [tO, Nat.reduceAdd])|refine rE ?_|(refine rO goodFG rfl ?_;intro _ hu_ K_ hK_;(have hc := (Ext.twin hu_).cell hat);go_simp;(try rw [wI _]);(try rw [wU _]);refine hK_ _ ?_;clear hK_ K_ hu_;simp only [sS, sN])|(refine rP rfl ?_;simp only [sS, sN])|(refine rP2 rfl ?_;simp only [sS, sN]))
        (refine reach_cond (t := false) (by simp [Act.eval, hcI]) ?_; simp only [if_true, if_false, reduceIte, Bool.false_eq_true])
        repeat (first|refine rA ?_|refine rB ?_|refine rC ?_|refine rD ?_|(refine rR ?_;simp only [tO, Nat.reduceAdd])|refine rE ?_|(refine rO goodFG rfl ?_;intro _ hu_ K_ hK_;go_simp;(try rw [wI _]);(try rw [wU _]);refine hK_ _ ?_;clear hK_ K_ hu_;simp only [sS, sN])|(refine rP rfl ?_;simp only [sS, sN])|(refine rP2 rfl ?_;simp only [sS, sN]))
        refine next _ _ _ (14 - (j + 1)) (by omega) ⟨j + 1, rfl, by omega, rfl, ⟨hT.ext, hT.r, by rw [HF.out]; exact hT.k, hT.size⟩, ?_, ?_, ?_, ?_, ?_, ?_⟩
        · simp [g2]
        · simp [g4]
        · simp [g5, HF.out]
        · simp [g8]
        · simp [g9]
        · simp
  · obtain rfl : j = 14 := by omega
    (refine reach_cond (t := false) (by simp [Act.eval, g10, g9]) ?_; simp only [if_true, if_false, reduceIte, Bool.false_eq_true])
    refine reach_exit rfl ?_
    repeat (first|refine rA ?_|refine rB ?_|refine rC ?_|refine rD ?_|(refine rR ?_;simp only [tO, Nat.reduceAdd])|refine rE ?_|(refine rO goodFG rfl ?_;intro _ hu_ K_ hK_;go_simp;(try rw [wI _]);(try rw [wU _]);refine hK_ _ ?_;clear hK_ K_ hu_;simp only [sS, sN])|(refine rP rfl ?_;simp only [sS, sN])|(refine rP2 rfl ?_;simp only [sS, sN]))
    refine reach_loadRow goodFG rfl rfl (by kernel_rfl) (x := .tmp 4) (b := v.heap.size + 1) rfl (by simp [g4]) hT.k (by kernel_rfl) (by rw [ten_size]; kernel_rfl) ?_
    simp only [stO_some]
    repeat (first|refine rA ?_|refine rB ?_|refine rC ?_|refine rD ?_|(refine rR ?_;simp only [tO, Nat.reduceAdd])|refine rE ?_|(refine rO goodFG rfl ?_;intro _ hu_ K_ hK_;go_simp;(try rw [wI _]);(try rw [wU _]);refine hK_ _ ?_;clear hK_ K_ hu_;simp only [sS, sN])|(refine rP rfl ?_;simp only [sS, sN])|(refine rP2 rfl ?_;simp only [sS, sN]))
    refine reach_storeRow goodFG rfl rfl (by kernel_rfl) (x := .tmp 2) (y := .tmp 27) (g := v.heap.size) (c := ten (ftC q 14).2) rfl (by simp [g2]) (by simp) hT.r (by rw [ten_size]; kernel_rfl) (by rw [ten_size, ten_size]) (ten_one _) fun v3 hW => ?_
    simp only [stO_none]
    repeat (first|refine rA ?_|refine rB ?_|refine rC ?_|refine rD ?_|(refine rR ?_;simp only [tO, Nat.reduceAdd])|refine rE ?_|(refine rO goodFG rfl ?_;intro _ hu_ K_ hK_;go_simp;(try rw [wI _]);(try rw [wU _]);refine hK_ _ ?_;clear hK_ K_ hu_;simp only [sS, sN])|(refine rP rfl ?_;simp only [sS, sN])|(refine rP2 rfl ?_;simp only [sS, sN]))
    refine reach_ret fun todo => ?_
    refine ret _ _ _ _ _ ?_ ⟨rfl, rfl, ⟨by have := hW.size; have := hT.size; omega, fun b hb => (hW.other b (by omega)).trans (hT.ext.block b hb), hW.os.trans hT.ext.os, hW.output.trans hT.ext.output⟩⟩
    have hload : (loadVar 84 ⟨v.heap.size, 0, none⟩).run Tryd.prog v3 = .ok (.agg (ten (ftC q 14).2)) v3 := run_loadVar_row v3 v.heap.size 84 84 _ _ _ hW.at_ Tryd.underlying84 (by simp) (by rw [ten_size]; kernel_rfl)
    simp [results, Tryd.results66, g2, asAddr, hload]
    rw [Bool.eq_iff_iff]
    simp
    omega
end Go.Proofs.YtpiefebngnlfoaaDoor

/-
  piece.Mend, where ten pieces of one length are there; mosaic.Mend.
-/
set_option linter.unusedVariables false
set_option linter.unusedSimpArgs false
namespace Go.Proofs.YtpiefebngnlfoaaDoor
open Go.RowKit Go.Conc Go.Vw

/-- The list, j of the known pieces being laid. -/
def MA (kn : Nat → Nat) (N m : Nat) : Nat → Nat → Value
  | 0, _ => .slice none 0 0
  | j + 1, k => if k = kn j then sl (N + 2 + j) m else MA kn N m j k
theorem MA_known {kn : Nat → Nat} {N m : Nat} (hinj : ∀ j j', j < 10 → j' < j → kn j' < kn j) : ∀ (c j : Nat), c ≤ 10 → j < c → MA kn N m c (kn j) = sl (N + 2 + j) m
  | 0, j, _, h => absurd h (Nat.not_lt_zero _)
  | c + 1, j, hc, h => by
    unfold MA
    by_cases e : j = c
    · subst e; rw [if_pos rfl]
    · have := hinj c j (by omega) (by omega)
      rw [if_neg (by omega)]
      exact MA_known hinj c j (by omega) (by omega)
theorem MA_lack {kn : Nat → Nat} {N m k : Nat} (h : lackB kn k = true) : ∀ c, c ≤ 10 → MA kn N m c k = .slice none 0 0
  | 0, _ => rfl
  | c + 1, hc => by
    unfold MA
    rw [if_neg fun e => lackB_iff.1 h c (by omega) e.symm]
    exact MA_lack h c (by omega)
def idxOf (kn : Nat → Nat) (k : Nat) : Nat := ((List.range 10).find? fun j => kn j == k).getD 0
theorem idxOf_spec {kn : Nat → Nat} {k : Nat} (h : lackB kn k = false) : idxOf kn k < 10 ∧ kn (idxOf kn k) = k := by
  obtain ⟨j, hj, e⟩ := lackB_no h
  unfold idxOf
  cases hf : (List.range 10).find? fun j => kn j == k with
  | none =>
    have := List.find?_eq_none.1 hf j (by simp [hj])
    simp [e] at this
  | some i =>
    have h1 := List.find?_some hf
    have h2 := List.mem_of_find?_eq_some hf
    simp at h1 h2
    exact ⟨h2, h1⟩
/-- What is mended. -/
def mendOf (kn : Nat → Nat) (y : Nat → Nat → Nat) (k i : Nat) : Nat := if lackB kn k = true then pieceOf kn (fun j => y (kn j)) k i else y k i
structure MI (v0 : World) (kn : Nat → Nat) (y : Nat → Nat → Nat) (m j : Nat) (v : World) : Prop where
  ext : Ext v0 v
  bk : v.heap[v0.heap.size]? = some (.cells (ten kn) 84)
  ba : v.heap[v0.heap.size + 1]? = some (.cells (allA (MA kn v0.heap.size m j)) 25)
  rows : ∀ i, i < j → v.heap[v0.heap.size + 2 + i]? = some (.cells (bytesA m (y (kn i))) 5)
  size : v.heap.size = v0.heap.size + 2 + j

set_option maxRecDepth 100000 in
set_option maxHeartbeats 2000000 in
theorem mend_r {S : Nat → Prop} {v : World} (BL ol cl m : Nat) (q : Nat → Option Addr) (ln cp : Nat → Nat) (y : Nat → Nat → Nat) (hP : PL v BL ol q ln cp y) (hm : ∀ k, k < 14 → (q k).isSome = true → ln k = m) (hm4 : m ≤ 400) (h10 : (ftC q 14).1 = 10) (hy : ∀ k i, y k i < 256) (hg : Tryd.prog.globals.size ≤ v.heap.size) :
    CallsR Tryd.prog 46 #[.slice (some ⟨BL, ol, none⟩) 14 cl] S v fun x S' v' => ∃ BA PB, x = .tuple #[sl BA 14, .int .i64 0] ∧ Pieces v BA PB m (mendOf (ftC q 14).2 y) v' := by
  have hkn := ftC_kn q 14
  rw [h10] at hkn
  have hany : anyB q 14 = true := by
    have h := hkn 0 (by omega)
    simp only [anyB, List.any_eq_true]
    exact ⟨_, by simpa using h.1, h.2.1⟩
  refine callsR_body Tryd.func46 rfl Tryd.ntmps46 (by simp) fun Stop cc cs ret => ?_
  have h0 : argF #[.slice (some ⟨BL, ol, none⟩) 14 cl] 0 = .slice (some ⟨BL, ol, none⟩) 14 cl := rfl
  generalize argF #[.slice (some ⟨BL, ol, none⟩) 14 cl] = f at h0
  have hone := oneLength_r (S := S) BL ol cl m q ln cp y hP hm
  rw [if_pos hany] at hone
  have hfirst := firstTen_r (S := S) BL ol cl q ln cp y hP
  rw [h10, decide_eq_true rfl] at hfirst
  have HM := hide hm
  have HK := hide hkn
  generalize (ftC q 14).2 = kn at hfirst HK ret
  clear hany h10 hm hkn
  repeat (first|refine rA ?_|refine rB ?_|refine rC ?_|refine rD ?_|(refine rR ?_;simp only [tO, Nat.reduceAdd])|refine rE ?_|(refine rO goodFG rfl ?_;intro _ hu_ K_ hK_;go_simp;(try rw [wI _]);(try rw [wU _]);refine hK_ _ ?_;clear hK_ K_ hu_;simp only [sS, sN])|(refine rP rfl ?_;simp only [sS, sN])|(refine rP2 rfl ?_;simp only [sS, sN]))
  (refine reach_cond (t := false) (by simp [Act.eval]) ?_; simp only [if_true, if_false, reduceIte, Bool.false_eq_true])
  repeat (first|refine rA ?_|refine rB ?_|refine rC ?_|refine rD ?_|(refine rR ?_;simp only [tO, Nat.reduceAdd])|refine rE ?_|(refine rO goodFG rfl ?_;intro _ hu_ K_ hK_;go_simp;(try rw [wI _]);(try rw [wU _]);refine hK_ _ ?_;clear hK_ K_ hu_;simp only [sS, sN])|(refine rP rfl ?_;simp only [sS, sN])|(refine rP2 rfl ?_;simp only [sS, sN]))
  (refine reach_callR rfl (by first | rfl | simp [Region.wanted, yielded, TA_get, *]) rfl Tryd.func65 (by kernel_rfl) rfl (by simp [Act.eval, *]; try rfl) (hone) ?_)
  rintro _ S1 w1 hv1 ⟨rfl, e1, e2⟩
  subst S1 w1
  simp only [stO_some]
  have hmI : ¬ ((400 : Int) < (m : Int)) := by omega
  repeat (first|refine rA ?_|refine rB ?_|refine rC ?_|refine rD ?_|(refine rR ?_;simp only [tO, Nat.reduceAdd])|refine rE ?_|(refine rO goodFG rfl ?_;intro _ hu_ K_ hK_;go_simp;(try rw [wI _]);(try rw [wU _]);refine hK_ _ ?_;clear hK_ K_ hu_;simp only [sS, sN])|(refine rP rfl ?_;simp only [sS, sN])|(refine rP2 rfl ?_;simp only [sS, sN]))
  (refine reach_cond (t := false) (by simp [Act.eval, hmI]) ?_; simp only [if_true, if_false, reduceIte, Bool.false_eq_true])
  repeat (first|refine rA ?_|refine rB ?_|refine rC ?_|refine rD ?_|(refine rR ?_;simp only [tO, Nat.reduceAdd])|refine rE ?_|(refine rO goodFG rfl ?_;intro _ hu_ K_ hK_;go_simp;(try rw [wI _]);(try rw [wU _]);refine hK_ _ ?_;clear hK_ K_ hu_;simp only [sS, sN])|(refine rP rfl ?_;simp only [sS, sN])|(refine rP2 rfl ?_;simp only [sS, sN]))
  (refine reach_callR rfl (by first | rfl | simp [Region.wanted, yielded, TA_get, *]) rfl Tryd.func66 (by kernel_rfl) rfl (by simp [Act.eval, *]; try rfl) (hfirst) ?_)
  rintro _ S1 v1 hv1 ⟨rfl, e1, hE1⟩
  subst S1
  simp only [stO_some]
  repeat (first|refine rA ?_|refine rB ?_|refine rC ?_|refine rD ?_|(refine rR ?_;simp only [tO, Nat.reduceAdd])|refine rE ?_|(refine rO goodFG rfl ?_;intro _ hu_ K_ hK_;go_simp;(try rw [wI _]);(try rw [wU _]);refine hK_ _ ?_;clear hK_ K_ hu_;simp only [sS, sN])|(refine rP rfl ?_;simp only [sS, sN])|(refine rP2 rfl ?_;simp only [sS, sN]))
  refine reach_alloc goodFG rfl rfl (by kernel_rfl) (.agg (tenP 0)) rfl (by rw [tenP_zero]; kernel_rfl) fun v2 hE2 hr2 hs2 => ?_
  simp only [stO_some]
  repeat (first|refine rA ?_|refine rB ?_|refine rC ?_|refine rD ?_|(refine rR ?_;simp only [tO, Nat.reduceAdd])|refine rE ?_|(refine rO goodFG rfl ?_;intro _ hu_ K_ hK_;go_simp;(try rw [wI _]);(try rw [wU _]);refine hK_ _ ?_;clear hK_ K_ hu_;simp only [sS, sN])|(refine rP rfl ?_;simp only [sS, sN])|(refine rP2 rfl ?_;simp only [sS, sN]))
  refine reach_storeRow goodFG rfl rfl (by kernel_rfl) (x := .tmp 6) (y := .tmp 29) (g := v1.heap.size) (c := ten kn) rfl (by simp) (by simp) hr2 (by rw [ten_size]; kernel_rfl) (by rw [ten_size]; simp [Value.cells, tenP]) (ten_one _) fun v3 hW3 => ?_
  simp only [stO_none]
  repeat (first|refine rA ?_|refine rB ?_|refine rC ?_|refine rD ?_|(refine rR ?_;simp only [tO, Nat.reduceAdd])|refine rE ?_|(refine rO goodFG rfl ?_;intro _ hu_ K_ hK_;go_simp;(try rw [wI _]);(try rw [wU _]);refine hK_ _ ?_;clear hK_ K_ hu_;simp only [sS, sN])|(refine rP rfl ?_;simp only [sS, sN])|(refine rP2 rfl ?_;simp only [sS, sN]))
  (refine reach_cond (t := false) (by simp [Act.eval]) ?_; simp only [if_true, if_false, reduceIte, Bool.false_eq_true])
  repeat (first|refine rA ?_|refine rB ?_|refine rC ?_|refine rD ?_|(refine rR ?_;simp only [tO, Nat.reduceAdd])|refine rE ?_|(refine rO goodFG rfl ?_;intro _ hu_ K_ hK_;go_simp;(try rw [wI _]);(try rw [wU _]);refine hK_ _ ?_;clear hK_ K_ hu_;simp only [sS, sN])|(refine rP rfl ?_;simp only [sS, sN])|(refine rP2 rfl ?_;simp only [sS, sN]))
  refine reach_makeV goodFG rfl rfl (by kernel_rfl) rfl (m := 14) (wd := 24) (z := .slice none 0 0) rfl rfl (by omega) (by omega) (by omega) Tryd.underlying59 (by kernel_rfl) rfl fun v4 hE4 hr4 hs4 => ?_
  simp only [stO_some]
  have hs3 : v3.heap.size = v1.heap.size + 1 := hW3.size.trans hs2
  have hbk4 : v4.heap[v1.heap.size]? = some (.cells (ten kn) 84) := hE4.row hW3.at_
  repeat (first|refine rA ?_|refine rB ?_|refine rC ?_|refine rD ?_|(refine rR ?_;simp only [tO, Nat.reduceAdd])|refine rE ?_|(refine rO goodFG rfl ?_;intro _ hu_ K_ hK_;go_simp;(try rw [wI _]);(try rw [wU _]);refine hK_ _ ?_;clear hK_ K_ hu_;simp only [sS, sN])|(refine rP rfl ?_;simp only [sS, sN])|(refine rP2 rfl ?_;simp only [sS, sN]))
  refine reach_loadRow goodFG rfl rfl (by kernel_rfl) (x := .tmp 6) (b := v1.heap.size) rfl (by simp) hbk4 (by kernel_rfl) (by rw [ten_size]; kernel_rfl) ?_
  simp only [stO_some]
  repeat (first|refine rA ?_|refine rB ?_|refine rC ?_|refine rD ?_|(refine rR ?_;simp only [tO, Nat.reduceAdd])|refine rE ?_|(refine rO goodFG rfl ?_;intro _ hu_ K_ hK_;go_simp;(try rw [wI _]);(try rw [wU _]);refine hK_ _ ?_;clear hK_ K_ hu_;simp only [sS, sN])|(refine rP rfl ?_;simp only [sS, sN])|(refine rP2 rfl ?_;simp only [sS, sN]))
  rw [hs3] at hr4 ⊢
  have hP1 := hP.ext hE1
  have hM : MI v1 kn y m 0 v4 := by
    refine ⟨⟨by omega, fun b hb => ?_, ?_, ?_⟩, hbk4, ?_, fun i hi => by omega, by omega⟩
    · rw [hE4.block b (by omega), hW3.other b (by omega)]
      exact hE2.block b hb
    · rw [hE4.os, hW3.os]; exact hE2.os
    · rw [hE4.output, hW3.output]; exact hE2.output
    · rw [hr4]
      congr 2
  refine reach_rounds (fun d f' S' v' => ∃ j, d = 10 - j ∧ j ≤ 10 ∧ S' = S ∧ MI v1 kn y m j v' ∧ f' 0 = .slice (some ⟨BL, ol, none⟩) 14 cl ∧ f' 4 = .int .i64 (m : Nat) ∧ f' 6 = ptr v1.heap.size ∧ f' 8 = sl (v1.heap.size + 1) 14 ∧ f' 34 = .agg (ten kn) ∧ f' 35 = .int .i64 (j : Nat)) 10 ⟨0, by omega, by omega, rfl, hM, by simp [h0], by simp, by simp, by simp, by simp, by simp⟩ ?_
  rintro d f' S' v' ⟨j, rfl, hj, eS, hI, g0, g4, g6, g8, g34, g35⟩ next
  subst S'
  repeat (first|refine rA ?_|refine rB ?_|refine rC ?_|refine rD ?_|(refine rR ?_;simp only [tO, Nat.reduceAdd])|refine rE ?_|(refine rO goodFG rfl ?_;intro _ hu_ K_ hK_;go_simp;(try rw [wI _]);(try rw [wU _]);refine hK_ _ ?_;clear hK_ K_ hu_;simp only [sS, sN])|(refine rP rfl ?_;simp only [sS, sN])|(refine rP2 rfl ?_;simp only [sS, sN]))
  by_cases hlt : j < 10
  · have hjI : (j : Int) < 10 := by omega
    (refine reach_cond (t := true) (by simp [Act.eval, g35, hjI]) ?_; simp only [if_true, if_false, reduceIte, Bool.false_eq_true])
    repeat (first|refine rA ?_|refine rB ?_|refine rC ?_|refine rD ?_|(refine rR ?_;simp only [tO, Nat.reduceAdd])|refine rE ?_|(refine rO goodFG rfl ?_;intro _ hu_ K_ hK_;go_simp;(try rw [wI _]);(try rw [wU _]);refine hK_ _ ?_;clear hK_ K_ hu_;simp only [sS, sN])|(refine rP rfl ?_;simp only [sS, sN])|(refine rP2 rfl ?_;simp only [sS, sN]))
    refine reach_index goodFG rfl rfl (by kernel_rfl) rfl (m := j) (L := 10) (by simp [g34]) (by simp [g35]) (by kernel_rfl) hlt (ten_get kn j hlt) ?_
    simp only [stO_some]
    repeat (first|refine rA ?_|refine rB ?_|refine rC ?_|refine rD ?_|(refine rR ?_;simp only [tO, Nat.reduceAdd])|refine rE ?_|(refine rO goodFG rfl ?_;intro _ hu_ K_ hK_;go_simp;(try rw [wI _]);(try rw [wU _]);refine hK_ _ ?_;clear hK_ K_ hu_;simp only [sS, sN])|(refine rP rfl ?_;simp only [sS, sN])|(refine rP2 rfl ?_;simp only [sS, sN]))
    refine reach_makeBytes goodFG rfl rfl (by kernel_rfl) rfl (m := m) (by simp [g4]) (by simp [g4]) (by omega) (by kernel_rfl) Tryd.underlying25 fun v5 hE5 hr5 hs5 => ?_
    simp only [stO_some]
    obtain ⟨k1, k2, _⟩ := HK.out j hlt
    have hkI : (kn j : Int) < 14 := by omega
    have hat := hE5.cell (hI.ext.cell (hP1.at_ (kn j) k1))
    have hsl := ((hP1.sl (kn j) k1).ext hI.ext).ext hE5
    rw [HM.out (kn j) k1 k2] at hat hsl
    obtain ⟨B, off, hq, hcp, hB⟩ : ∃ B off, q (kn j) = some ⟨B, off, none⟩ ∧ m ≤ cp (kn j) ∧ BytesAt v5 B off m (y (kn j)) := by
      rcases hsl with ⟨h1, _⟩ | h
      · rw [h1] at k2; cases k2
      · exact h
    rw [hq] at hat
    have HQ := hide hq
    clear hq
    repeat (first|refine rA ?_|refine rB ?_|refine rC ?_|refine rD ?_|(refine rR ?_;simp only [tO, Nat.reduceAdd])|refine rE ?_|(refine rO goodFG rfl ?_;intro _ hu_ K_ hK_;(have hc := (Ext.twin hu_).cell hat);go_simp;(try rw [wI _]);(try rw [wU _]);refine hK_ _ ?_;clear hK_ K_ hu_;simp only [sS, sN])|(refine rP rfl ?_;simp only [sS, sN])|(refine rP2 rfl ?_;simp only [sS, sN]))
    have hs5' : v5.heap.size = v1.heap.size + 2 + j + 1 := by rw [hs5, hI.size]
    have hr5' : v5.heap[v1.heap.size + 2 + j]? = some (.cells (bytesA m fun _ => 0) 5) := by rw [← hI.size, ← bytesA_zero]; exact hr5
    rw [hI.size]
    refine reach_copy goodFG rfl rfl (by kernel_rfl) rfl (d := .tmp 40) (s := .tmp 44) (g := v1.heap.size + 2 + j) (o' := 0) (dLen := m) (dCap := m) (b := B) (off := off) (sLen := m) (sCap := cp (kn j)) (cells := (List.range m).map fun i => Value.int .u8 ((y (kn j) i : Nat) : Int)) (by simp) (by simp) Tryd.underlying25 (by kernel_rfl) hr5' (by simp [Nat.min_self]) (fun i z hz => ?_) (by rw [bytesA_size]; simp) bytesL_mem fun v6 hW6 => ?_
    · obtain ⟨hi, rfl⟩ := bytesL_get hz
      exact hB i hi
    simp only [List.length_map, List.length_range, stO_some] at hW6 ⊢
    rw [splice_bytes m 0 m (y (kn j)) (fun _ => 0) (by omega), bytesA_congr (g := y (kn j)) fun i hi => by simp [hi]] at hW6
    have hba6 : v6.heap[v1.heap.size + 1]? = some (.cells (allA (MA kn v1.heap.size m j)) 25) := (hW6.other _ (by omega)).trans (hE5.row hI.ba)
    repeat (first|refine rA ?_|refine rB ?_|refine rC ?_|refine rD ?_|(refine rR ?_;simp only [tO, Nat.reduceAdd])|refine rE ?_|(refine rO goodFG rfl ?_;intro _ hu_ K_ hK_;go_simp;(try rw [wI _]);(try rw [wU _]);refine hK_ _ ?_;clear hK_ K_ hu_;simp only [sS, sN])|(refine rP rfl ?_;simp only [sS, sN])|(refine rP2 rfl ?_;simp only [sS, sN]))
    refine reach_store1 goodFG rfl rfl (by kernel_rfl) (x := .tmp 49) (y := .tmp 48) (g := v1.heap.size + 1) (j := kn j) (z := sl (v1.heap.size + 2 + j) m) rfl (by simp) (by simp) rfl rfl hba6 (by rw [allA_size]; exact k1) (by kernel_rfl) fun v7 hW7 => ?_
    simp only [stO_none]
    rw [allA_set] at hW7
    repeat (first|refine rA ?_|refine rB ?_|refine rC ?_|refine rD ?_|(refine rR ?_;simp only [tO, Nat.reduceAdd])|refine rE ?_|(refine rO goodFG rfl ?_;intro _ hu_ K_ hK_;go_simp;(try rw [wI _]);(try rw [wU _]);refine hK_ _ ?_;clear hK_ K_ hu_;simp only [sS, sN])|(refine rP rfl ?_;simp only [sS, sN])|(refine rP2 rfl ?_;simp only [sS, sN]))
    have hI7 : MI v1 kn y m (j + 1) v7 := by
      have hs6 := hW6.size
      have hs7 := hW7.size
      refine ⟨⟨by omega, fun b hb => ?_, ?_, ?_⟩, ?_, hW7.at_, fun i hi => ?_, by omega⟩
      · rw [hW7.other b (by omega), hW6.other b (by omega), hE5.block b (by have := hI.size; omega)]
        exact hI.ext.block b hb
      · rw [hW7.os, hW6.os, hE5.os]; exact hI.ext.os
      · rw [hW7.output, hW6.output, hE5.output]; exact hI.ext.output
      · rw [hW7.other _ (by omega), hW6.other _ (by omega)]
        exact hE5.row hI.bk
      · by_cases e : i = j
        · subst e
          rw [hW7.other _ (by omega)]
          exact hW6.at_
        · rw [hW7.other _ (by omega), hW6.other _ (by omega)]
          exact hE5.row (hI.rows i (by omega))
    refine next _ _ _ (10 - (j + 1)) (by omega) ⟨j + 1, rfl, by omega, rfl, hI7, ?_, ?_, ?_, ?_, ?_, ?_⟩
    · simp [g0]
    · simp [g4]
    · simp [g6]
    · simp [g8]
    · simp [g34]
    · simp
  · obtain rfl : j = 10 := by omega
    (refine reach_cond (t := false) (by simp [Act.eval, g35]) ?_; simp only [if_true, if_false, reduceIte, Bool.false_eq_true])
    refine reach_exit rfl ?_
    repeat (first|refine rA ?_|refine rB ?_|refine rC ?_|refine rD ?_|(refine rR ?_;simp only [tO, Nat.reduceAdd])|refine rE ?_|(refine rO goodFG rfl ?_;intro _ hu_ K_ hK_;go_simp;(try rw [wI _]);(try rw [wU _]);refine hK_ _ ?_;clear hK_ K_ hu_;simp only [sS, sN])|(refine rP rfl ?_;simp only [sS, sN])|(refine rP2 rfl ?_;simp only [sS, sN]))
    refine reach_loadRow goodFG rfl rfl (by kernel_rfl) (x := .tmp 6) (b := v1.heap.size) rfl (by simp [g6]) hI.bk (by kernel_rfl) (by rw [ten_size]; kernel_rfl) ?_
    simp only [stO_some]
    repeat (first|refine rA ?_|refine rB ?_|refine rC ?_|refine rD ?_|(refine rR ?_;simp only [tO, Nat.reduceAdd])|refine rE ?_|(refine rO goodFG rfl ?_;intro _ hu_ K_ hK_;go_simp;(try rw [wI _]);(try rw [wU _]);refine hK_ _ ?_;clear hK_ K_ hu_;simp only [sS, sN])|(refine rP rfl ?_;simp only [sS, sN])|(refine rP2 rfl ?_;simp only [sS, sN]))
    have hinj : ∀ j j', j < 10 → j' < j → kn j' < kn j := fun j j' hj hj' => (HK.out j hj).2.2 j' hj'
    have hs1 := hE1.size
    have hfill : CallsR Tryd.prog 41 #[sl (v1.heap.size + 1) 14, .agg (ten kn), .int .i64 (m : Nat)] S v' fun z S' w => z = .tuple #[] ∧ ∃ PB, Filled v' kn m (fun j => y (kn j)) (MA kn v1.heap.size m 10) (v1.heap.size + 1) 25 PB w := by
      intro Stop' c' cs' hr
      refine fill_reach (RB := fun k => v1.heap.size + 2 + k) (fun j hj => (HK.out j hj).1) hm4 (fun j i => hy _ _) (fun j hj => MA_known hinj 10 j (Nat.le_refl _) hj) (fun k hk hl' => MA_lack hl' 10 (Nat.le_refl _)) (by have := hI.size; omega) (by omega) (fun j hj => by omega) hI.ba hI.rows fun S' w PB hw hf => hr _ S' w hw ⟨rfl, PB, hf⟩
    (refine reach_callR rfl (by first | rfl | simp [Region.wanted, yielded, TA_get, *]) rfl Tryd.func41 (by kernel_rfl) rfl (by simp [Act.eval, *]; try rfl) (hfill) ?_)
    rintro _ S5 v5 hv5 ⟨rfl, PB, hF⟩
    simp only [stO_some]
    repeat (first|refine rA ?_|refine rB ?_|refine rC ?_|refine rD ?_|(refine rR ?_;simp only [tO, Nat.reduceAdd])|refine rE ?_|(refine rO goodFG rfl ?_;intro _ hu_ K_ hK_;go_simp;(try rw [wI _]);(try rw [wU _]);refine hK_ _ ?_;clear hK_ K_ hu_;simp only [sS, sN])|(refine rP rfl ?_;simp only [sS, sN])|(refine rP2 rfl ?_;simp only [sS, sN]))
    refine reach_ret fun todo => ?_
    refine ret _ _ S5 v5 (.tuple #[sl (v1.heap.size + 1) 14, .int .i64 0]) ?_ ⟨v1.heap.size + 1, fun k => if lackB kn k = true then PB k else v1.heap.size + 2 + idxOf kn k, rfl, ?_⟩
    · simp [results, Tryd.results46, g8]
    · have hsI := hI.size
      have hno : ∀ k, ¬ lackB kn k = true → lackB kn k = false := fun k h => by simpa using h
      refine ⟨⟨by have := hF.kp.size; omega, ?_, ?_, fun b o _ hc ht => ?_⟩, ?_, fun k hk => ?_, by omega, fun k hk => ?_, fun k hk => ?_, fun k k' hk hk' e => ?_⟩
      · rw [hF.kp.os, hI.ext.os]; exact hE1.os
      · rw [hF.kp.output, hI.ext.output]; exact hE1.output
      · have := (Array.getElem?_eq_some_iff.1 hc).1
        exact hF.kp.objs b o (by omega) (hI.ext.row (hE1.row hc)) ht
      · rw [hF.ba]
        congr 2
        refine allA_congr fun c hc => ?_
        simp only [AK]
        by_cases e : lackB kn c = true
        · simp [e, hc]
        · obtain ⟨i1, i2⟩ := idxOf_spec (hno c e)
          simp only [e, false_and, if_false]
          have := MA_known (m := m) (N := v1.heap.size) hinj 10 (idxOf kn c) (Nat.le_refl _) i1
          rw [i2] at this
          exact this
      · by_cases e : lackB kn k = true
        · rw [if_pos e, show mendOf kn y k = pieceOf kn (fun j => y (kn j)) k from funext fun i => by simp only [mendOf, if_pos e]]
          exact (hF.pb k hk e).2
        · obtain ⟨i1, i2⟩ := idxOf_spec (hno k e)
          rw [if_neg e, show mendOf kn y k = y k from funext fun i => by simp only [mendOf, if_neg e]]
          have := hF.kp.cells _ _ _ _ (by omega) (hI.rows (idxOf kn k) i1)
          rw [i2] at this
          exact this
      · by_cases e : lackB kn k = true
        · simp only [if_pos e]
          have := (hF.pb k hk e).1
          omega
        · simp only [if_neg e]; omega
      · by_cases e : lackB kn k = true
        · simp only [if_pos e]
          have := (hF.pb k hk e).1
          omega
        · simp only [if_neg e]; omega
      · by_cases h1 : lackB kn k = true
        · by_cases h2 : lackB kn k' = true
          · simp only [if_pos h1, if_pos h2] at e
            rcases Nat.lt_trichotomy k k' with h | h | h
            · have := hF.mono k k' h hk' h1 h2; omega
            · exact h
            · have := hF.mono k' k h hk h2 h1; omega
          · simp only [if_pos h1, if_neg h2] at e
            have := (hF.pb k hk h1).1
            have := (idxOf_spec (hno k' h2)).1
            omega
        · by_cases h2 : lackB kn k' = true
          · simp only [if_neg h1, if_pos h2] at e
            have := (hF.pb k' hk' h2).1
            have := (idxOf_spec (hno k h1)).1
            omega
          · simp only [if_neg h1, if_neg h2] at e
            have e1 := (idxOf_spec (hno k h1)).2
            have e2 := (idxOf_spec (hno k' h2)).2
            rw [← e1, ← e2, show idxOf kn k = idxOf kn k' by omega]
end Go.Proofs.YtpiefebngnlfoaaDoor

/-
  piece.Join, where ten pieces of one length are there; mosaic.Mend, mosaic.Join.
-/
set_option linter.unusedVariables false
set_option linter.unusedSimpArgs false
namespace Go.Proofs.YtpiefebngnlfoaaDoor
open Go.RowKit Go.Conc Go.Vw

/-- The joined bytes, the first e of them being laid. -/
def joinP (p : Nat → Nat → Nat) (m e i : Nat) : Nat := if i < e then p (i / m) (i % m) else 0
theorem join_step (p : Nat → Nat → Nat) (m n j : Nat) : let fl := min (j * m) n; let o := if n = fl then 0 else fl; let c := min m (n - fl)
    bytesA n (fun i => if o ≤ i ∧ i < o + c then p j (i - o) else joinP p m fl i) = bytesA n (joinP p m (min ((j + 1) * m) n)) ∧ o + c ≤ n ∧ fl + c = min ((j + 1) * m) n ∧ fl ≤ n := by
  intro fl o c
  have e1 : (j + 1) * m = j * m + m := Nat.succ_mul j m
  have hfl : fl = min (j * m) n := rfl
  have ho : o = if n = fl then 0 else fl := rfl
  have hc : c = min m (n - fl) := rfl
  refine ⟨bytesA_congr fun i hi => ?_, ?_, by omega, by omega⟩
  · by_cases e : n = fl
    · rw [if_pos e] at ho
      rw [if_neg (by omega)]
      simp only [joinP]
      rw [if_pos (by omega), if_pos (by omega)]
    · rw [if_neg e] at ho
      have hjm : fl = j * m := by omega
      by_cases h : o ≤ i ∧ i < o + c
      · rw [if_pos h]
        have hd : i / m = j := Nat.div_eq_of_lt_le (by omega) (by omega)
        have hmod : i % m = i - o := by
          have h1 := Nat.div_add_mod i m
          rw [hd, Nat.mul_comm m j] at h1
          omega
        simp only [joinP, hd, hmod]
        rw [if_pos (by omega)]
      · rw [if_neg h]
        simp only [joinP]
        by_cases h2 : i < fl
        · rw [if_pos h2, if_pos (by omega)]
        · rw [if_neg h2, if_neg (by omega)]
  · by_cases e : n = fl
    · rw [if_pos e] at ho; omega
    · rw [if_neg e] at ho; omega
structure JI (v0 : World) (BV n : Nat) (z : Nat → Nat) (v : World) : Prop where
  kp : Kp v0 (fun _ => False) v
  bv : v.heap[BV]? = some (.cells (bytesA n z) 5)

set_option maxRecDepth 100000 in
set_option maxHeartbeats 2000000 in
theorem join_r {S : Nat → Prop} {v : World} (s : Value) (m n : Nat) (p : Nat → Nat → Nat) (hm : m ≤ 400) (hn : n ≤ 10 * m) (hmend : CallsR Tryd.prog 46 #[s] S v fun x S' v' => ∃ BA PB, x = .tuple #[sl BA 14, .int .i64 0] ∧ Pieces v BA PB m p v') :
    CallsR Tryd.prog 29 #[s, .int .i64 (n : Nat)] S v fun x S' v' => ∃ BV, x = .tuple #[sl BV n, .int .i64 0] ∧ v.heap.size ≤ BV ∧ JI v BV n (fun i => p (i / m) (i % m)) v' := by
  refine callsR_body Tryd.func29 rfl Tryd.ntmps29 (by simp) fun Stop cc cs ret => ?_
  have h0 : argF #[s, .int .i64 (n : Nat)] 0 = s := rfl
  have h1 : argF #[s, .int .i64 (n : Nat)] 1 = .int .i64 (n : Nat) := rfl
  generalize argF #[s, .int .i64 (n : Nat)] = f at h0 h1
  repeat (first|refine rA ?_|refine rB ?_|refine rC ?_|refine rD ?_|(refine rR ?_;simp only [tO, Nat.reduceAdd])|refine rE ?_|(refine rO goodFG rfl ?_;intro _ hu_ K_ hK_;go_simp;(try rw [wI _]);(try rw [wU _]);refine hK_ _ ?_;clear hK_ K_ hu_;simp only [sS, sN])|(refine rP rfl ?_;simp only [sS, sN])|(refine rP2 rfl ?_;simp only [sS, sN]))
  (refine reach_callR rfl (by first | rfl | simp [Region.wanted, yielded, TA_get, *]) rfl Tryd.func46 (by kernel_rfl) rfl (by simp [Act.eval, *]; try rfl) (hmend) ?_)
  rintro _ S1 v1 hv1 ⟨BA, PB, rfl, hp⟩
  simp only [stO_some]
  have hnI : ¬ ((n : Int) < 0) := by omega
  have hnI2 : ¬ ((10 : Int) * (m : Int) < (n : Int)) := by omega
  have hc0 : v1.cell? ⟨BA, 0, none⟩ = some (sl (PB 0) m) := (cell_of_row _ BA 0 _ _ _ hp.ba).trans (allA_get _ 0 (by omega))
  repeat (first|refine rA ?_|refine rB ?_|refine rC ?_|refine rD ?_|(refine rR ?_;simp only [tO, Nat.reduceAdd])|refine rE ?_|(refine rO goodFG rfl ?_;intro _ hu_ K_ hK_;(have hc := (Ext.twin hu_).cell hc0);go_simp;(try rw [wI _]);(try rw [wU _]);refine hK_ _ ?_;clear hK_ K_ hu_;simp only [sS, sN])|(refine rP rfl ?_;simp only [sS, sN])|(refine rP2 rfl ?_;simp only [sS, sN]))
  (refine reach_cond (t := false) (by simp [Act.eval]) ?_; simp only [if_true, if_false, reduceIte, Bool.false_eq_true])
  repeat (first|refine rA ?_|refine rB ?_|refine rC ?_|refine rD ?_|(refine rR ?_;simp only [tO, Nat.reduceAdd])|refine rE ?_|(refine rO goodFG rfl ?_;intro _ hu_ K_ hK_;(have hc := (Ext.twin hu_).cell hc0);go_simp;(try rw [wI _]);(try rw [wU _]);refine hK_ _ ?_;clear hK_ K_ hu_;simp only [sS, sN])|(refine rP rfl ?_;simp only [sS, sN])|(refine rP2 rfl ?_;simp only [sS, sN]))
  (refine reach_cond (t := false) (by simp [Act.eval]) ?_; simp only [if_true, if_false, reduceIte, Bool.false_eq_true])
  repeat (first|refine rA ?_|refine rB ?_|refine rC ?_|refine rD ?_|(refine rR ?_;simp only [tO, Nat.reduceAdd])|refine rE ?_|(refine rO goodFG rfl ?_;intro _ hu_ K_ hK_;go_simp;(try rw [wI _]);(try rw [wU _]);refine hK_ _ ?_;clear hK_ K_ hu_;simp only [sS, sN])|(refine rP rfl ?_;simp only [sS, sN])|(refine rP2 rfl ?_;simp only [sS, sN]))
  refine reach_makeBytes goodFG rfl rfl (by kernel_rfl) rfl (m := n) (by simp [h1]) (by simp [h1]) (by omega) (by kernel_rfl) Tryd.underlying25 fun v2 hE2 hr2 hs2 => ?_
  simp only [stO_some]
  repeat (first|refine rA ?_|refine rB ?_|refine rC ?_|refine rD ?_|(refine rR ?_;simp only [tO, Nat.reduceAdd])|refine rE ?_|(refine rO goodFG rfl ?_;intro _ hu_ K_ hK_;go_simp;(try rw [wI _]);(try rw [wU _]);refine hK_ _ ?_;clear hK_ K_ hu_;simp only [sS, sN])|(refine rP rfl ?_;simp only [sS, sN])|(refine rP2 rfl ?_;simp only [sS, sN]))
  have hJ : JI v1 v1.heap.size n (joinP p m (min (0 * m) n)) v2 := ⟨(Kp.refl v1 _).ext hE2, by rw [hr2, bytesA_zero, bytesA_congr (g := joinP p m (min (0 * m) n)) fun i hi => by simp [joinP]]⟩
  have hpb : ∀ k, k < 14 → v1.heap[PB k]? = some (.cells (bytesA m (p k)) 5) := hp.pb
  refine reach_rounds (fun d f' S' v' => ∃ j, d = 10 - j ∧ j ≤ 10 ∧ S' = S1 ∧ JI v1 v1.heap.size n (joinP p m (min (j * m) n)) v' ∧ f' 8 = sl v1.heap.size n ∧ f' 9 = .int .i64 ((min (j * m) n : Nat) : Int) ∧ f' 34 = .slice (some ⟨BA, 0, none⟩) 10 14 ∧ f' 35 = .int .i64 10 ∧ f' 36 = .int .i64 (j : Nat)) 10 ⟨0, by omega, by omega, rfl, hJ, by simp, by simp, by simp, by simp, by simp⟩ ?_
  rintro d f' S' v' ⟨j, rfl, hj, eS, hI, g8, g9, g34, g35, g36⟩ next
  subst S'
  repeat (first|refine rA ?_|refine rB ?_|refine rC ?_|refine rD ?_|(refine rR ?_;simp only [tO, Nat.reduceAdd])|refine rE ?_|(refine rO goodFG rfl ?_;intro _ hu_ K_ hK_;go_simp;(try rw [wI _]);(try rw [wU _]);refine hK_ _ ?_;clear hK_ K_ hu_;simp only [sS, sN])|(refine rP rfl ?_;simp only [sS, sN])|(refine rP2 rfl ?_;simp only [sS, sN]))
  by_cases hlt : j < 10
  · have hjI : (j : Int) < 10 := by omega
    (refine reach_cond (t := true) (by simp [Act.eval, g36, g35, hjI]) ?_; simp only [if_true, if_false, reduceIte, Bool.false_eq_true])
    have hcj : v'.cell? ⟨BA, j, none⟩ = some (sl (PB j) m) := hI.kp.cell (fun x => x) ((cell_of_row _ BA j _ _ _ hp.ba).trans (allA_get _ j (by omega)))
    obtain ⟨hs1, hs2', hs3, hs4⟩ := join_step p m n j
    obtain ⟨fl, hfl⟩ : ∃ fl, fl = min (j * m) n := ⟨_, rfl⟩
    rw [← hfl] at hs1 hs2' hs3 hs4 g9 hI
    have H1 := hide hs1
    have H2 := hide hs3
    clear hs1 hs3 hfl
    have hflI : (fl : Int) ≤ (n : Int) := by omega
    repeat (first|refine rA ?_|refine rB ?_|refine rC ?_|refine rD ?_|(refine rR ?_;simp only [tO, Nat.reduceAdd])|refine rE ?_|(refine rO goodFG rfl ?_;intro _ hu_ K_ hK_;(have hc := (Ext.twin hu_).cell hcj);go_simp;(try rw [wI _]);(try rw [wU _]);refine hK_ _ ?_;clear hK_ K_ hu_;simp only [sS, sN])|(refine rP rfl ?_;simp only [sS, sN])|(refine rP2 rfl ?_;simp only [sS, sN]))
    obtain ⟨o, ho⟩ : ∃ o, o = if n = fl then 0 else fl := ⟨_, rfl⟩
    rw [← ho] at H1 hs2'
    have eo : (if n = fl then some (⟨v1.heap.size, 0, none⟩ : Addr) else some ⟨v1.heap.size, fl, none⟩) = some ⟨v1.heap.size, o, none⟩ := by
      rw [ho]; split <;> rfl
    rw [eo]
    have hPj : v'.heap[PB j]? = some (.cells (bytesA m (p j)) 5) := hI.kp.cells _ _ _ _ (fun x => x) (hpb j (by omega))
    refine reach_copy goodFG rfl rfl (by kernel_rfl) rfl (d := .tmp 43) (s := .tmp 44) (g := v1.heap.size) (o' := o) (dLen := n - fl) (dCap := n - fl) (b := PB j) (off := 0) (sLen := m) (sCap := m) (cells := (List.range (min m (n - fl))).map fun i => Value.int .u8 ((p j i : Nat) : Int)) (by simp) (by simp) Tryd.underlying25 (by kernel_rfl) hI.bv (by simp) (fun i z hz => ?_) (by rw [bytesA_size]; simp; omega) bytesL_mem fun v6 hW6 => ?_
    · obtain ⟨hi, rfl⟩ := bytesL_get hz
      rw [Nat.zero_add]
      exact (cell_of_row _ (PB j) i _ _ _ hPj).trans (bytesA_get m _ i (by omega))
    simp only [List.length_map, List.length_range, stO_some] at hW6 ⊢
    rw [splice_bytes n o (min m (n - fl)) (p j) _ hs2', H1.out] at hW6
    have hgo : goInt ((min m (n - fl) : Nat) : Int) = .int .i64 ((min m (n - fl) : Nat) : Int) := rfl
    rw [hgo]
    have hcm : min m (n - fl) ≤ 400 := by omega
    have HC := hide (show fl + min m (n - fl) = min ((j + 1) * m) n from H2.out)
    generalize min m (n - fl) = cc' at HC hcm ⊢
    clear H1 H2
    repeat (first|refine rA ?_|refine rB ?_|refine rC ?_|refine rD ?_|(refine rR ?_;simp only [tO, Nat.reduceAdd])|refine rE ?_|(refine rO goodFG rfl ?_;intro _ hu_ K_ hK_;go_simp;(try rw [wI _]);(try rw [wU _]);refine hK_ _ ?_;clear hK_ K_ hu_;simp only [sS, sN])|(refine rP rfl ?_;simp only [sS, sN])|(refine rP2 rfl ?_;simp only [sS, sN]))
    refine next _ _ _ (10 - (j + 1)) (by omega) ⟨j + 1, rfl, by omega, rfl, ⟨⟨?_, ?_, ?_, fun b o _ hc ht => ?_⟩, hW6.at_⟩, ?_, ?_, ?_, ?_, ?_⟩
    · rw [hW6.size]; exact hI.kp.size
    · rw [hW6.os]; exact hI.kp.os
    · rw [hW6.output]; exact hI.kp.output
    · have := (Array.getElem?_eq_some_iff.1 hc).1
      rw [hW6.other b (by omega)]
      exact hI.kp.objs b o (fun x => x) hc ht
    · simp [g8]
    · simp
      have := HC.out
      omega
    · simp [g34]
    · simp [g35]
    · simp
  · obtain rfl : j = 10 := by omega
    (refine reach_cond (t := false) (by simp [Act.eval, g36, g35]) ?_; simp only [if_true, if_false, reduceIte, Bool.false_eq_true])
    refine reach_exit rfl ?_
    repeat (first|refine rA ?_|refine rB ?_|refine rC ?_|refine rD ?_|(refine rR ?_;simp only [tO, Nat.reduceAdd])|refine rE ?_|(refine rO goodFG rfl ?_;intro _ hu_ K_ hK_;go_simp;(try rw [wI _]);(try rw [wU _]);refine hK_ _ ?_;clear hK_ K_ hu_;simp only [sS, sN])|(refine rP rfl ?_;simp only [sS, sN])|(refine rP2 rfl ?_;simp only [sS, sN]))
    refine reach_ret fun todo => ?_
    refine ret _ _ S1 v' (.tuple #[sl v1.heap.size n, .int .i64 0]) ?_ ⟨v1.heap.size, rfl, hp.kp.size, ⟨hp.kp.trans hI.kp, ?_⟩⟩
    · simp [results, Tryd.results29, g8]
    · rw [hI.bv, bytesA_congr (g := fun i => p (i / m) (i % m)) fun i hi => by simp only [joinP]; rw [if_pos (by omega)]]
end Go.Proofs.YtpiefebngnlfoaaDoor
