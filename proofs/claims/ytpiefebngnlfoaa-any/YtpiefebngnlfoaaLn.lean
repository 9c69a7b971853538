/-
  piece.RowLength, piece.row.
-/
import Derived.Test.YtpiefebngnlfoaaLk
import Derived.Test.YtpiefebngnlfoaaLm
set_option linter.unusedVariables false
set_option linter.unusedSimpArgs false
namespace Go.Proofs.Ytpiefebngnlfoaa
open Go.RowKit Go.Conc Go.Vw

set_option maxRecDepth 100000 in
theorem rowLength_r {S : Nat → Prop} {v : World} (m : Nat) (hm : m ≤ 400) : CallsR Try.prog 41 #[.int .i64 (m : Nat)] S v fun x S' v' => x = .int .i64 (((m + 9) / 10 : Nat) : Int) ∧ S' = S ∧ v' = v := by
  refine callsR_body Try.func41 rfl Try.ntmps41 (by simp) fun Stop cc cs ret => ?_
  have h0 : argF #[.int .i64 (m : Nat)] 0 = .int .i64 (m : Nat) := rfl
  generalize argF #[.int .i64 (m : Nat)] = f at h0
  repeat (first|refine rA ?_|refine rB ?_|refine rC ?_|refine rD ?_|(refine rR ?_;simp only [tO, Nat.reduceAdd])|refine rE ?_|(refine rO goodFF rfl ?_;intro _ hu_ K_ hK_;go_simp;(try rw [wI _]);(try rw [wU _]);refine hK_ _ ?_;clear hK_ K_ hu_;simp only [sS, sN])|(refine rP rfl ?_;simp only [sS, sN]))
  refine reach_ret fun todo => ?_
  refine ret _ _ _ _ (.int .i64 (((m + 9) / 10 : Nat) : Int)) ?_ ⟨rfl, rfl, rfl⟩
  simp [results, Try.results41]
  rw [Int.tdiv_eq_ediv_of_nonneg (by omega), wrapI _ (by omega) (by omega)]
  omega

/-- What stands in row k of a value: its bytes, then noughts. -/
def rowOf (val : Nat → Nat) (len m k i : Nat) : Nat := if k * m + i < len then val (k * m + i) else 0
theorem bytesA_mem {n : Nat} {x : Nat → Nat} : ∀ y ∈ (bytesA n x).toList, y.oneCell' = true := by
  intro y hy
  simp [bytesA] at hy
  obtain ⟨j, _, rfl⟩ := hy
  rfl
theorem bytesL_mem {n : Nat} {x : Nat → Nat} : ∀ y ∈ (List.range n).map (fun j => Value.int .u8 ((x j : Nat) : Int)), y.oneCell' = true := by
  intro y hy
  simp at hy
  obtain ⟨j, _, rfl⟩ := hy
  rfl
theorem bytesL_get {n j : Nat} {x : Nat → Nat} {y : Value} (h : ((List.range n).map (fun j => Value.int .u8 ((x j : Nat) : Int)))[j]? = some y) : j < n ∧ y = .int .u8 (x j : Nat) := by
  have hj : j < n := by
    have := (List.getElem?_eq_some_iff.1 h).1
    simpa using this
  refine ⟨hj, ?_⟩
  simp [hj] at h
  exact h.symm
theorem splice_bytes (n o m : Nat) (x y : Nat → Nat) (h : o + m ≤ n) : ((bytesA n y).toList.take o ++ (List.range m).map (fun j => Value.int .u8 ((x j : Nat) : Int)) ++ (bytesA n y).toList.drop (o + m)).toArray = bytesA n fun i => if o ≤ i ∧ i < o + m then x (i - o) else y i := by
  apply Array.ext_getElem?
  intro c
  simp only [List.getElem?_toArray, List.append_assoc]
  by_cases h1 : c < o
  · rw [List.getElem?_append_left (by simp [bytesA]; omega)]
    have hc : c < n := by omega
    simp [bytesA, h1, hc, show ¬ o ≤ c by omega]
  · rw [List.getElem?_append_right (by simp [bytesA]; omega)]
    have e : ((bytesA n y).toList.take o).length = o := by simp [bytesA]; omega
    rw [e]
    by_cases h2 : c < o + m
    · rw [List.getElem?_append_left (by simp; omega)]
      have hc : c < n := by omega
      have h3 : c - o < m := by omega
      simp [bytesA, hc, h3, show o ≤ c by omega, h2]
    · rw [List.getElem?_append_right (by simp; omega)]
      simp only [List.length_map, List.length_range, List.getElem?_drop]
      rw [show o + m + (c - o - m) = c by omega]
      by_cases hc : c < n
      · simp [bytesA, hc, h2]
      · simp [bytesA, hc]
/-- What is known of a new row. -/
structure Rowed (v : World) (m : Nat) (x : Nat → Nat) (v' : World) : Prop where
  ext : Ext v v'
  row : v'.heap[v.heap.size]? = some (.cells (bytesA m x) 5)
  size : v'.heap.size = v.heap.size + 1
theorem wr_new {v v1 v2 : World} {o : Obj} (hE : Ext v v1) (hs : v1.heap.size = v.heap.size + 1) (hW : Wr v1 v.heap.size o v2) : Ext v v2 ∧ v2.heap[v.heap.size]? = some o ∧ v2.heap.size = v.heap.size + 1 :=
  ⟨⟨by have := hW.size; omega, fun b hb => (hW.other b (by omega)).trans (hE.block b hb), hW.os.trans hE.os, hW.output.trans hE.output⟩, hW.at_, hW.size.trans hs⟩
set_option maxRecDepth 100000 in
theorem row_r {S : Nat → Prop} {v : World} (m k len cap B off : Nat) (val : Nat → Nat) (hk : k < 10) (hm : m ≤ 400) (hl : len ≤ 400) (hc : len ≤ cap) (hB : BytesAt v B off len val) :
    CallsR Try.prog 42 #[.slice (some ⟨B, off, none⟩) len cap, .int .i64 (k : Nat), .int .i64 (m : Nat)] S v fun x S' v' => x = sl v.heap.size m ∧ S' = S ∧ Rowed v m (rowOf val len m k) v' := by
  refine callsR_body Try.func42 rfl Try.ntmps42 (by simp) fun Stop cc cs ret => ?_
  have h0 : argF #[.slice (some ⟨B, off, none⟩) len cap, .int .i64 (k : Nat), .int .i64 (m : Nat)] 0 = .slice (some ⟨B, off, none⟩) len cap := rfl
  have h1 : argF #[.slice (some ⟨B, off, none⟩) len cap, .int .i64 (k : Nat), .int .i64 (m : Nat)] 1 = .int .i64 (k : Nat) := rfl
  have h2 : argF #[.slice (some ⟨B, off, none⟩) len cap, .int .i64 (k : Nat), .int .i64 (m : Nat)] 2 = .int .i64 (m : Nat) := rfl
  generalize argF #[.slice (some ⟨B, off, none⟩) len cap, .int .i64 (k : Nat), .int .i64 (m : Nat)] = f at h0 h1 h2
  have ekm : ((k * m : Nat) : Int) = (k : Int) * (m : Int) := Int.natCast_mul k m
  have hkm : (k : Int) * (m : Int) ≤ 4000 := by
    have h : k * m ≤ 10 * 400 := Nat.mul_le_mul (by omega) hm
    omega
  have hkm0 : (0 : Int) ≤ (k : Int) * (m : Int) := by omega
  obtain ⟨a, ha⟩ : ∃ a : Nat, a = min (k * m) len := ⟨_, rfl⟩
  obtain ⟨b, hb⟩ : ∃ b : Nat, b = min (a + m) len := ⟨_, rfl⟩
  have e1 : (if (len : Int) < (k : Int) * (m : Int) then (len : Int) else (k : Int) * (m : Int)) = (a : Int) := by split <;> omega
  have e2 : (if (len : Int) < (a : Int) + (m : Int) then (len : Int) else (a : Int) + (m : Int)) = (b : Int) := by split <;> omega
  have HE : Hid (((k * m : Nat) : Int) = (k : Int) * (m : Int)) := ekm
  have hab : (a : Int) ≤ (b : Int) := by omega
  have hbc : (b : Int) ≤ (cap : Int) := by omega
  have hbm : b - a ≤ m := by omega
  have hrow : ∀ i, i < m → (if 0 ≤ i ∧ i < 0 + (b - a) then val (a + (i - 0)) else 0) = rowOf val len m k i := by
    intro i hi
    unfold rowOf
    by_cases h : i < b - a
    · have e : a = k * m := by omega
      rw [if_pos ⟨by omega, by omega⟩, if_pos (by omega), e, Nat.sub_zero]
    · rw [if_neg (by omega), if_neg (by omega)]
  have hsrc : ∀ j, j < b - a → v.cell? ⟨B, off + a + j, none⟩ = some (.int .u8 (val (a + j) : Nat)) := fun j hj => by
    have := hB (a + j) (by omega)
    rwa [← Nat.add_assoc] at this
  clear ekm ha hb
  repeat (first|refine rA ?_|refine rB ?_|refine rC ?_|refine rD ?_|(refine rR ?_;simp only [tO, Nat.reduceAdd])|refine rE ?_|(refine rO goodFF rfl ?_;intro _ hu_ K_ hK_;go_simp;(try rw [wI _]);(try rw [wU _]);refine hK_ _ ?_;clear hK_ K_ hu_;simp only [sS, sN])|(refine rP rfl ?_;simp only [sS, sN]))
  refine reach_makeBytes goodFF rfl rfl (by kernel_rfl) rfl (m := m) (by simp [h2]) (by simp [h2]) (by omega) (by kernel_rfl) Try.underlying25 fun v1 hE hr hs => ?_
  simp only [stO_some]
  repeat (first|refine rA ?_|refine rB ?_|refine rC ?_|refine rD ?_|(refine rR ?_;simp only [tO, Nat.reduceAdd])|refine rE ?_|(refine rO goodFF rfl ?_;intro _ hu_ K_ hK_;go_simp;(try rw [wI _]);(try rw [wU _]);refine hK_ _ ?_;clear hK_ K_ hu_;simp only [sS, sN])|(refine rP rfl ?_;simp only [sS, sN]))
  obtain ⟨o2, ho2, hs2⟩ : ∃ o2, (if cap = a then some (⟨B, off, none⟩ : Addr) else some ⟨B, off + a, none⟩) = some ⟨B, o2, none⟩ ∧ ∀ j, j < b - a → v.cell? ⟨B, o2 + j, none⟩ = some (.int .u8 (val (a + j) : Nat)) := by
    by_cases e : cap = a
    · exact ⟨off, by rw [if_pos e], fun j hj => by omega⟩
    · exact ⟨off + a, by rw [if_neg e], hsrc⟩
  rw [ho2]
  rw [bytesA_zero] at hr
  refine reach_copy goodFF rfl rfl (by kernel_rfl) rfl (d := .tmp 24) (s := .tmp 28) (g := v.heap.size) (o' := 0) (dLen := m) (dCap := m) (b := B) (off := o2) (sLen := b - a) (sCap := cap - a) (cells := (List.range (b - a)).map fun j => Value.int .u8 ((val (a + j) : Nat) : Int)) (by simp) (by simp) Try.underlying25 (by kernel_rfl) hr (by simp [Nat.min_eq_left hbm]) (fun j y hy => ?_) (by rw [bytesA_size]; simp; omega) bytesL_mem fun v2 hW => ?_
  · obtain ⟨hj, rfl⟩ := bytesL_get hy
    exact hE.cell (hs2 j hj)
  · simp only [List.length_map, List.length_range, stO_some] at hW ⊢
    rw [splice_bytes m 0 (b - a) (fun j => val (a + j)) (fun _ => 0) (by omega), bytesA_congr hrow] at hW
    obtain ⟨q1, q2, q3⟩ := wr_new hE hs hW
    repeat (first|refine rA ?_|refine rB ?_|refine rC ?_|refine rD ?_|(refine rR ?_;simp only [tO, Nat.reduceAdd])|refine rE ?_|(refine rO goodFF rfl ?_;intro _ hu_ K_ hK_;go_simp;(try rw [wI _]);(try rw [wU _]);refine hK_ _ ?_;clear hK_ K_ hu_;simp only [sS, sN])|(refine rP rfl ?_;simp only [sS, sN]))
    refine reach_ret fun todo => ?_
    refine ret _ _ _ _ _ ?_ ⟨rfl, rfl, q1, q2, q3⟩
    simp [results, Try.results42, h0]
set_option maxRecDepth 100000 in
/-- .. of a value that is nil. -/
theorem rowNil_r {S : Nat → Prop} {v : World} (m k : Nat) (val : Nat → Nat) (hk : k < 10) (hm : m ≤ 400) :
    CallsR Try.prog 42 #[.slice none 0 0, .int .i64 (k : Nat), .int .i64 (m : Nat)] S v fun x S' v' => x = sl v.heap.size m ∧ S' = S ∧ Rowed v m (rowOf val 0 m k) v' := by
  refine callsR_body Try.func42 rfl Try.ntmps42 (by simp) fun Stop cc cs ret => ?_
  have h0 : argF #[.slice none 0 0, .int .i64 (k : Nat), .int .i64 (m : Nat)] 0 = .slice none 0 0 := rfl
  have h1 : argF #[.slice none 0 0, .int .i64 (k : Nat), .int .i64 (m : Nat)] 1 = .int .i64 (k : Nat) := rfl
  have h2 : argF #[.slice none 0 0, .int .i64 (k : Nat), .int .i64 (m : Nat)] 2 = .int .i64 (m : Nat) := rfl
  generalize argF #[.slice none 0 0, .int .i64 (k : Nat), .int .i64 (m : Nat)] = f at h0 h1 h2
  have ekm : ((k * m : Nat) : Int) = (k : Int) * (m : Int) := Int.natCast_mul k m
  have hkm : (k : Int) * (m : Int) ≤ 4000 := by
    have h : k * m ≤ 10 * 400 := Nat.mul_le_mul (by omega) hm
    omega
  have hkm0 : (0 : Int) ≤ (k : Int) * (m : Int) := by omega
  have e1 : (if (0 : Int) < (k : Int) * (m : Int) then (0 : Int) else (k : Int) * (m : Int)) = 0 := by split <;> omega
  have e2 : (if 0 < m then (0 : Int) else (m : Int)) = 0 := by split <;> omega
  clear ekm
  repeat (first|refine rA ?_|refine rB ?_|refine rC ?_|refine rD ?_|(refine rR ?_;simp only [tO, Nat.reduceAdd])|refine rE ?_|(refine rO goodFF rfl ?_;intro _ hu_ K_ hK_;go_simp;(try rw [wI _]);(try rw [wU _]);refine hK_ _ ?_;clear hK_ K_ hu_;simp only [sS, sN])|(refine rP rfl ?_;simp only [sS, sN]))
  refine reach_makeBytes goodFF rfl rfl (by kernel_rfl) rfl (m := m) (by simp [h2]) (by simp [h2]) (by omega) (by kernel_rfl) Try.underlying25 fun v1 hE hr hs => ?_
  simp only [stO_some]
  repeat (first|refine rA ?_|refine rB ?_|refine rC ?_|refine rD ?_|(refine rR ?_;simp only [tO, Nat.reduceAdd])|refine rE ?_|(refine rO goodFF rfl ?_;intro _ hu_ K_ hK_;go_simp;(try rw [wI _]);(try rw [wU _]);refine hK_ _ ?_;clear hK_ K_ hu_;simp only [sS, sN])|(refine rP rfl ?_;simp only [sS, sN]))
  refine reach_ret fun todo => ?_
  refine ret _ _ _ _ _ ?_ ⟨rfl, rfl, hE, ?_, hs⟩
  · simp [results, Try.results42, h0]
  · rw [hr, bytesA_zero, bytesA_congr (g := rowOf val 0 m k) fun i hi => by simp [rowOf]]
end Go.Proofs.Ytpiefebngnlfoaa

/-
  piece.Cut, mosaic.Cut: the pieces of a value.
-/
set_option linter.unusedVariables false
set_option linter.unusedSimpArgs false
namespace Go.Vw
open Go.Conc
theorem Kp.cell {v v' : World} {X : Nat → Prop} (h : Kp v X v') {b o : Nat} {y : Value} (hb : ¬ X b) (hc : v.cell? ⟨b, o, none⟩ = some y) : v'.cell? ⟨b, o, none⟩ = some y := by
  unfold World.cell? at hc
  split at hc
  · rename_i c t fr hr
    have := h.cells b c t fr hb hr
    simp only [World.cell?, this]
    exact hc
  · cases hc
theorem Kp.bytes {v v' : World} {X : Nat → Prop} (h : Kp v X v') {b off len : Nat} {x : Nat → Nat} (hb : ¬ X b) (hc : BytesAt v b off len x) : BytesAt v' b off len x := fun j hj => h.cell hb (hc j hj)
end Go.Vw
namespace Go.Proofs.Ytpiefebngnlfoaa
open Go.RowKit Go.Conc Go.Vw

/-- A slice of bytes, or nil. -/
def SliceV (v : World) (p : Option Addr) (len cap : Nat) (x : Nat → Nat) : Prop := (p = none ∧ len = 0 ∧ cap = 0) ∨ ∃ B off, p = some ⟨B, off, none⟩ ∧ len ≤ cap ∧ BytesAt v B off len x
theorem SliceV.ext {v u : World} {p : Option Addr} {len cap : Nat} {x : Nat → Nat} (h : SliceV v p len cap x) (e : Ext v u) : SliceV u p len cap x :=
  h.imp id fun ⟨B, off, h1, h2, h3⟩ => ⟨B, off, h1, h2, h3.ext e⟩
theorem slice_kp {v v' : World} (h : Kp v (fun _ => False) v') {p : Option Addr} {len cap : Nat} {x : Nat → Nat} (hs : SliceV v p len cap x) : SliceV v' p len cap x :=
  hs.imp id fun ⟨B, off, h1, h2, h3⟩ => ⟨B, off, h1, h2, h.bytes (fun x => x) h3⟩
/-- .. or an empty one, wherever it lies. -/
def SliceE (v : World) (p : Option Addr) (len cap : Nat) (x : Nat → Nat) : Prop := SliceV v p len cap x ∨ ((∃ a, p = some a) ∧ len = 0 ∧ cap = 0)
theorem SliceE.ext {v u : World} {p : Option Addr} {len cap : Nat} {x : Nat → Nat} (h : SliceE v p len cap x) (e : Ext v u) : SliceE u p len cap x := h.imp (fun q => q.ext e) id
theorem sliceE_kp {v v' : World} (h : Kp v (fun _ => False) v') {p : Option Addr} {len cap : Nat} {x : Nat → Nat} (hs : SliceE v p len cap x) : SliceE v' p len cap x := hs.imp (fun q => slice_kp h q) id
theorem SliceE.of {v : World} {p : Option Addr} {len cap : Nat} {x : Nat → Nat} (h : SliceE v p len cap x) (h0 : 0 < len) : SliceV v p len cap x := by
  rcases h with h | ⟨_, h, _⟩
  · exact h
  · omega
theorem SliceE.parts {v : World} {p : Option Addr} {len cap : Nat} {x : Nat → Nat} (h : SliceE v p len cap x) : (p = none ∧ len = 0 ∧ cap = 0) ∨ ∃ a, p = some a ∧ len ≤ cap ∧ (len = 0 ∨ ∃ B off, a = ⟨B, off, none⟩ ∧ BytesAt v B off len x) := by
  rcases h with (h | ⟨B, off, e, h1, h2⟩) | ⟨⟨a, e⟩, h1, h2⟩
  · exact .inl h
  · exact .inr ⟨_, e, h1, .inr ⟨B, off, rfl, h2⟩⟩
  · exact .inr ⟨a, e, by omega, .inl h1⟩
theorem rowAny_r {S : Nat → Prop} {v : World} (m k len cap : Nat) (p : Option Addr) (val : Nat → Nat) (hk : k < 10) (hm : m ≤ 400) (hl : len ≤ 400) (hs : SliceV v p len cap val) :
    CallsR Try.prog 42 #[.slice p len cap, .int .i64 (k : Nat), .int .i64 (m : Nat)] S v fun x S' v' => x = sl v.heap.size m ∧ S' = S ∧ Rowed v m (rowOf val len m k) v' := by
  rcases hs with ⟨rfl, rfl, rfl⟩ | ⟨B, off, rfl, hc, hB⟩
  · exact rowNil_r m k val hk hm
  · exact row_r m k len cap B off val hk hm hl hc hB
/-- Fourteen pieces, in a list of the caller's. -/
structure Pieces (v : World) (BA : Nat) (PB : Nat → Nat) (m : Nat) (p : Nat → Nat → Nat) (v' : World) : Prop where
  kp : Kp v (fun _ => False) v'
  ba : v'.heap[BA]? = some (.cells (allA fun k => sl (PB k) m) 25)
  pb : ∀ k, k < 14 → v'.heap[PB k]? = some (.cells (bytesA m (p k)) 5)
  newA : v.heap.size ≤ BA
  newP : ∀ k, k < 14 → v.heap.size ≤ PB k
  apart : ∀ k, k < 14 → PB k ≠ BA
  inj : ∀ k k', k < 14 → k' < 14 → PB k = PB k' → k = k'
/-- A piece of rows: a row, or what is reckoned. -/
def pieceOf (known : Nat → Nat) (x : Nat → Nat → Nat) (k i : Nat) : Nat := Fld.comb (Fld.wgt known k) x 10 i
/-- A value's piece k. -/
def cutOf (val : Nat → Nat) (len k i : Nat) : Nat := if k < 10 then rowOf val len ((len + 9) / 10) k i else pieceOf id (rowOf val len ((len + 9) / 10)) k i
def tenP (j : Nat) : Array Value := (Array.range 10).map fun i => .int .i64 ((if i < j then i else 0 : Nat) : Int)
theorem tenP_ten : tenP 10 = ten id := by
  apply Array.ext_getElem?
  intro c
  by_cases h : c < 10 <;> simp [tenP, ten, h]
theorem tenP_set (j : Nat) : (tenP j).setIfInBounds j (.int .i64 (j : Nat)) = tenP (j + 1) := by
  apply Array.ext_getElem?
  intro c
  rw [Array.getElem?_setIfInBounds]
  by_cases e : j = c
  · subst e
    by_cases hi : j < 10 <;> simp [tenP, hi]
  · rw [if_neg e]
    by_cases hi : c < 10 <;> simp [tenP, hi, show c < j + 1 ↔ c < j by omega]
theorem tenP_zero : tenP 0 = #[.int .i64 0, .int .i64 0, .int .i64 0, .int .i64 0, .int .i64 0, .int .i64 0, .int .i64 0, .int .i64 0, .int .i64 0, .int .i64 0] := by
  apply Array.ext_getElem?
  intro c
  by_cases hi : c < 10
  · have : c = 0 ∨ c = 1 ∨ c = 2 ∨ c = 3 ∨ c = 4 ∨ c = 5 ∨ c = 6 ∨ c = 7 ∨ c = 8 ∨ c = 9 := by omega
    rcases this with rfl | rfl | rfl | rfl | rfl | rfl | rfl | rfl | rfl | rfl <;> simp [tenP]
  · rw [Array.getElem?_eq_none (by simp [tenP]; omega), Array.getElem?_eq_none (by simp; omega)]
/-- The list, j rows being laid. -/
def rowsA (N m j k : Nat) : Value := if k < j then sl (N + 2 + k) m else .slice none 0 0
structure CI (v0 : World) (val : Nat → Nat) (len m j : Nat) (v : World) : Prop where
  ext : Ext v0 v
  ba : v.heap[v0.heap.size]? = some (.cells (allA (rowsA v0.heap.size m j)) 25)
  bk : v.heap[v0.heap.size + 1]? = some (.cells (tenP j) 74)
  rows : ∀ k, k < j → v.heap[v0.heap.size + 2 + k]? = some (.cells (bytesA m (rowOf val len m k)) 5)
  size : v.heap.size = v0.heap.size + 2 + j
theorem lack_id {k : Nat} : lackB id k = true ↔ 10 ≤ k := by
  rw [lackB_iff]
  constructor
  · intro h
    exact Nat.le_of_not_lt fun hk => h k hk rfl
  · intro h j hj e
    simp at e
    omega

set_option maxRecDepth 100000 in
set_option maxHeartbeats 1000000 in
theorem cut_r {S : Nat → Prop} {v : World} (len cap : Nat) (p : Option Addr) (val : Nat → Nat) (hl : len ≤ 400) (hx : ∀ i, val i < 256) (hs : SliceV v p len cap val) (hg : Try.prog.globals.size ≤ v.heap.size) :
    CallsR Try.prog 35 #[.slice p len cap] S v fun y S' v' => ∃ BA PB, y = .tuple #[sl BA 14, .int .i64 0] ∧ Pieces v BA PB ((len + 9) / 10) (cutOf val len) v' := by
  refine callsR_body Try.func35 rfl Try.ntmps35 (by simp) fun Stop cc cs ret => ?_
  have h0 : argF #[.slice p len cap] 0 = .slice p len cap := rfl
  generalize argF #[.slice p len cap] = f at h0
  have hlI : ¬ ((400 : Int) < (len : Int)) := by omega
  repeat (first|refine rA ?_|refine rB ?_|refine rC ?_|refine rD ?_|(refine rR ?_;simp only [tO, Nat.reduceAdd])|refine rE ?_|(refine rO goodFF rfl ?_;intro _ hu_ K_ hK_;go_simp;(try rw [wI _]);(try rw [wU _]);refine hK_ _ ?_;clear hK_ K_ hu_;simp only [sS, sN])|(refine rP rfl ?_;simp only [sS, sN]))
  (refine reach_cond (t := false) (by simp [Act.eval, h0, hlI]) ?_; simp only [if_true, if_false, reduceIte, Bool.false_eq_true])
  repeat (first|refine rA ?_|refine rB ?_|refine rC ?_|refine rD ?_|(refine rR ?_;simp only [tO, Nat.reduceAdd])|refine rE ?_|(refine rO goodFF rfl ?_;intro _ hu_ K_ hK_;go_simp;(try rw [wI _]);(try rw [wU _]);refine hK_ _ ?_;clear hK_ K_ hu_;simp only [sS, sN])|(refine rP rfl ?_;simp only [sS, sN]))
  (refine reach_callR rfl (by first | rfl | simp [Region.wanted, yielded, TA_get, *]) rfl Try.func41 (by kernel_rfl) rfl (by simp [Act.eval, *]; try rfl) (rowLength_r len hl) ?_)
  rintro _ S1 w1 hv1 ⟨rfl, e1, e2⟩
  subst S1 w1
  simp only [stO_some]
  have hm : (len + 9) / 10 ≤ 400 := by omega
  generalize hmm : (len + 9) / 10 = m at hm ret ⊢
  have HM : Hid ((len + 9) / 10 = m) := hmm
  clear hmm
  repeat (first|refine rA ?_|refine rB ?_|refine rC ?_|refine rD ?_|(refine rR ?_;simp only [tO, Nat.reduceAdd])|refine rE ?_|(refine rO goodFF rfl ?_;intro _ hu_ K_ hK_;go_simp;(try rw [wI _]);(try rw [wU _]);refine hK_ _ ?_;clear hK_ K_ hu_;simp only [sS, sN])|(refine rP rfl ?_;simp only [sS, sN]))
  refine reach_makeV goodFF rfl rfl (by kernel_rfl) rfl (m := 14) (wd := 24) (z := .slice none 0 0) rfl rfl (by omega) (by omega) (by omega) Try.underlying34 (by kernel_rfl) rfl fun v1 hE1 hr1 hs1 => ?_
  simp only [stO_some]
  repeat (first|refine rA ?_|refine rB ?_|refine rC ?_|refine rD ?_|(refine rR ?_;simp only [tO, Nat.reduceAdd])|refine rE ?_|(refine rO goodFF rfl ?_;intro _ hu_ K_ hK_;go_simp;(try rw [wI _]);(try rw [wU _]);refine hK_ _ ?_;clear hK_ K_ hu_;simp only [sS, sN])|(refine rP rfl ?_;simp only [sS, sN]))
  refine reach_alloc goodFF rfl rfl (by kernel_rfl) (.agg (tenP 0)) rfl (by rw [tenP_zero]; kernel_rfl) fun v2 hE2 hr2 hs2 => ?_
  simp only [stO_some]
  repeat (first|refine rA ?_|refine rB ?_|refine rC ?_|refine rD ?_|(refine rR ?_;simp only [tO, Nat.reduceAdd])|refine rE ?_|(refine rO goodFF rfl ?_;intro _ hu_ K_ hK_;go_simp;(try rw [wI _]);(try rw [wU _]);refine hK_ _ ?_;clear hK_ K_ hu_;simp only [sS, sN])|(refine rP rfl ?_;simp only [sS, sN]))
  have hCI : CI v val len m 0 v2 := by
    refine ⟨hE1.trans _ _ _ hE2, ?_, ?_, fun k hk => by omega, by omega⟩
    · rw [hE2.row hr1]
      congr 2
    · rw [hs1] at hr2
      exact hr2
  have hsz : v1.heap.size = v.heap.size + 1 := hs1
  rw [hsz]
  refine reach_rounds (fun d f' S' v' => ∃ j, d = 10 - j ∧ j ≤ 10 ∧ S' = S ∧ CI v val len m j v' ∧ f' 0 = .slice p len cap ∧ f' 4 = .int .i64 (m : Nat) ∧ f' 5 = sl v.heap.size 14 ∧ f' 6 = ptr (v.heap.size + 1) ∧ f' 15 = .int .i64 (j : Nat)) 10 ⟨0, by omega, by omega, rfl, hCI, by simp [h0], by simp, by simp, by simp, by simp⟩ ?_
  rintro d f' S' v' ⟨j, rfl, hj, eS, hI, g0, g4, g5, g6, g15⟩ next
  subst S'
  repeat (first|refine rA ?_|refine rB ?_|refine rC ?_|refine rD ?_|(refine rR ?_;simp only [tO, Nat.reduceAdd])|refine rE ?_|(refine rO goodFF rfl ?_;intro _ hu_ K_ hK_;go_simp;(try rw [wI _]);(try rw [wU _]);refine hK_ _ ?_;clear hK_ K_ hu_;simp only [sS, sN])|(refine rP rfl ?_;simp only [sS, sN]))
  by_cases hlt : j < 10
  · have hjI : (j : Int) < 10 := by omega
    (refine reach_cond (t := true) (by simp [Act.eval, g15, hjI]) ?_; simp only [if_true, if_false, reduceIte, Bool.false_eq_true])
    repeat (first|refine rA ?_|refine rB ?_|refine rC ?_|refine rD ?_|(refine rR ?_;simp only [tO, Nat.reduceAdd])|refine rE ?_|(refine rO goodFF rfl ?_;intro _ hu_ K_ hK_;go_simp;(try rw [wI _]);(try rw [wU _]);refine hK_ _ ?_;clear hK_ K_ hu_;simp only [sS, sN])|(refine rP rfl ?_;simp only [sS, sN]))
    refine reach_store1 goodFF rfl rfl (by kernel_rfl) (x := .tmp 20) (y := .tmp 19) (g := v.heap.size + 1) (j := j) (z := .int .i64 (j : Nat)) rfl (by simp) (by simp) rfl rfl hI.bk (by simp [tenP]; omega) (by kernel_rfl) fun v3 hW3 => ?_
    simp only [stO_none]
    rw [tenP_set] at hW3
    have hs3 : v3.heap.size = v.heap.size + 2 + j := hW3.size.trans hI.size
    have hsl3 : SliceV v3 p len cap val := by
      refine hs.imp id fun ⟨B, off, q1, q2, q3⟩ => ⟨B, off, q1, q2, fun i hi => ?_⟩
      have hc := q3 i hi
      have hb := lt_of_cell hc
      have := hI.ext.cell hc
      rw [← this]
      simp only [World.cell?, hW3.other B (by simp only at hb; omega)]
    repeat (first|refine rA ?_|refine rB ?_|refine rC ?_|refine rD ?_|(refine rR ?_;simp only [tO, Nat.reduceAdd])|refine rE ?_|(refine rO goodFF rfl ?_;intro _ hu_ K_ hK_;go_simp;(try rw [wI _]);(try rw [wU _]);refine hK_ _ ?_;clear hK_ K_ hu_;simp only [sS, sN])|(refine rP rfl ?_;simp only [sS, sN]))
    (refine reach_callR rfl (by first | rfl | simp [Region.wanted, yielded, TA_get, *]) rfl Try.func42 (by kernel_rfl) rfl (by simp [Act.eval, *]; try rfl) (rowAny_r m j len cap p val hlt hm hl hsl3) ?_)
    rintro _ S1 v4 hv4 ⟨rfl, e1, hR⟩
    subst S1
    simp only [stO_some]
    have hba4 : v4.heap[v.heap.size]? = some (.cells (allA (rowsA v.heap.size m j)) 25) := hR.ext.row ((hW3.other _ (by omega)).trans hI.ba)
    have hj14 : (j : Int) < 14 := by omega
    repeat (first|refine rA ?_|refine rB ?_|refine rC ?_|refine rD ?_|(refine rR ?_;simp only [tO, Nat.reduceAdd])|refine rE ?_|(refine rO goodFF rfl ?_;intro _ hu_ K_ hK_;go_simp;(try rw [wI _]);(try rw [wU _]);refine hK_ _ ?_;clear hK_ K_ hu_;simp only [sS, sN])|(refine rP rfl ?_;simp only [sS, sN]))
    refine reach_store1 goodFF rfl rfl (by kernel_rfl) (x := .tmp 27) (y := .tmp 26) (g := v.heap.size) (j := j) (z := sl v3.heap.size m) rfl (by simp) (by simp) rfl rfl hba4 (by rw [allA_size]; omega) (by kernel_rfl) fun v5 hW5 => ?_
    simp only [stO_none]
    rw [allA_set] at hW5
    repeat (first|refine rA ?_|refine rB ?_|refine rC ?_|refine rD ?_|(refine rR ?_;simp only [tO, Nat.reduceAdd])|refine rE ?_|(refine rO goodFF rfl ?_;intro _ hu_ K_ hK_;go_simp;(try rw [wI _]);(try rw [wU _]);refine hK_ _ ?_;clear hK_ K_ hu_;simp only [sS, sN])|(refine rP rfl ?_;simp only [sS, sN]))
    have hI5 : CI v val len m (j + 1) v5 := by
      have hs4 := hR.size
      have hs5 := hW5.size
      refine ⟨⟨by omega, fun b hb => ?_, ?_, ?_⟩, ?_, ?_, fun k hk => ?_, by omega⟩
      · rw [hW5.other b (by omega), hR.ext.block b (by omega), hW3.other b (by omega)]
        exact hI.ext.block b hb
      · rw [hW5.os, hR.ext.os, hW3.os]; exact hI.ext.os
      · rw [hW5.output, hR.ext.output, hW3.output]; exact hI.ext.output
      · rw [hW5.at_]
        congr 2
        refine allA_congr fun c hc => ?_
        simp only [rowsA]
        by_cases e : c = j
        · subst e; rw [if_pos rfl, if_pos (by omega), hs3]
        · rw [if_neg e]
          simp only [show (c < j + 1 ↔ c < j) by omega]
      · rw [hW5.other _ (by omega)]
        exact hR.ext.row hW3.at_
      · by_cases e : k = j
        · subst e
          rw [hW5.other _ (by omega), ← hs3]
          exact hR.row
        · rw [hW5.other _ (by omega)]
          exact hR.ext.row ((hW3.other _ (by omega)).trans (hI.rows k (by omega)))
    refine next _ _ _ (10 - (j + 1)) (by omega) ⟨j + 1, rfl, by omega, rfl, hI5, ?_, ?_, ?_, ?_, ?_⟩
    · simp [g0]
    · simp [g4]
    · simp [g5]
    · simp [g6]
    · simp
  · obtain rfl : j = 10 := by omega
    (refine reach_cond (t := false) (by simp [Act.eval, g15]) ?_; simp only [if_true, if_false, reduceIte, Bool.false_eq_true])
    refine reach_exit rfl ?_
    repeat (first|refine rA ?_|refine rB ?_|refine rC ?_|refine rD ?_|(refine rR ?_;simp only [tO, Nat.reduceAdd])|refine rE ?_|(refine rO goodFF rfl ?_;intro _ hu_ K_ hK_;go_simp;(try rw [wI _]);(try rw [wU _]);refine hK_ _ ?_;clear hK_ K_ hu_;simp only [sS, sN])|(refine rP rfl ?_;simp only [sS, sN]))
    have hbk : v'.heap[v.heap.size + 1]? = some (.cells (ten id) 74) := by rw [← tenP_ten]; exact hI.bk
    refine reach_loadRow goodFF rfl rfl (by kernel_rfl) (x := .tmp 6) (b := v.heap.size + 1) rfl (by simp [g6]) hbk (by kernel_rfl) (by rw [ten_size]; kernel_rfl) ?_
    simp only [stO_some]
    repeat (first|refine rA ?_|refine rB ?_|refine rC ?_|refine rD ?_|(refine rR ?_;simp only [tO, Nat.reduceAdd])|refine rE ?_|(refine rO goodFF rfl ?_;intro _ hu_ K_ hK_;go_simp;(try rw [wI _]);(try rw [wU _]);refine hK_ _ ?_;clear hK_ K_ hu_;simp only [sS, sN])|(refine rP rfl ?_;simp only [sS, sN]))
    have hrows : ∀ k, k < 10 → v'.heap[v.heap.size + 2 + k]? = some (.cells (bytesA m (rowOf val len m k)) 5) := hI.rows
    have hrx : ∀ k i, rowOf val len m k i < 256 := fun k i => by
      unfold rowOf
      split
      · exact hx _
      · omega
    have hfill : CallsR Try.prog 43 #[sl v.heap.size 14, .agg (ten id), .int .i64 (m : Nat)] S v' fun y S' w => y = .tuple #[] ∧ ∃ PB, Filled v' id m (rowOf val len m) (rowsA v.heap.size m 10) v.heap.size 25 PB w := by
      intro Stop' c' cs' hr
      refine fill_reach (RB := fun k => v.heap.size + 2 + k) (fun j hj => by simp; omega) hm hrx (fun j hj => by simp [rowsA, hj]) (fun k hk hl' => ?_) (Nat.le_trans hg hI.ext.size) hg (fun j hj => by omega) hI.ba hrows fun S' w PB hw hf => hr _ S' w hw ⟨rfl, PB, hf⟩
      have := lack_id.1 hl'
      simp [rowsA, show ¬ k < 10 by omega]
    (refine reach_callR rfl (by first | rfl | simp [Region.wanted, yielded, TA_get, *]) rfl Try.func43 (by kernel_rfl) rfl (by simp [Act.eval, *]; try rfl) (hfill) ?_)
    rintro _ S5 v5 hv5 ⟨rfl, PB, hF⟩
    simp only [stO_some]
    repeat (first|refine rA ?_|refine rB ?_|refine rC ?_|refine rD ?_|(refine rR ?_;simp only [tO, Nat.reduceAdd])|refine rE ?_|(refine rO goodFF rfl ?_;intro _ hu_ K_ hK_;go_simp;(try rw [wI _]);(try rw [wU _]);refine hK_ _ ?_;clear hK_ K_ hu_;simp only [sS, sN])|(refine rP rfl ?_;simp only [sS, sN]))
    refine reach_ret fun todo => ?_
    refine ret _ _ S5 v5 (.tuple #[sl v.heap.size 14, .int .i64 0]) ?_ ⟨v.heap.size, fun k => if k < 10 then v.heap.size + 2 + k else PB k, rfl, ?_⟩
    · simp [results, Try.results35, g5]
    · have hsI := hI.size
      have hPB : ∀ k, k < 14 → ¬ k < 10 → v'.heap.size ≤ PB k ∧ v5.heap[PB k]? = some (done id m (rowOf val len m) k) := fun k hk hn => hF.pb k hk (lack_id.2 (by omega))
      refine ⟨⟨Nat.le_trans hI.ext.size hF.kp.size, hF.kp.os.trans hI.ext.os, hF.kp.output.trans hI.ext.output, fun b o _ hc ht => ?_⟩, ?_, fun k hk => ?_, Nat.le_refl _, fun k hk => ?_, fun k hk => ?_, fun k k' hk hk' e => ?_⟩
      · have := (Array.getElem?_eq_some_iff.1 hc).1
        exact hF.kp.objs b o (by omega) (hI.ext.row hc) ht
      · rw [hF.ba]
        congr 2
        refine allA_congr fun c hc => ?_
        simp only [AK, rowsA]
        by_cases e : c < 10
        · have : ¬ lackB id c = true := fun h => by have := lack_id.1 h; omega
          simp [this, e]
        · simp [lack_id.2 (show 10 ≤ c by omega), hc, e]
      · by_cases e : k < 10
        · rw [if_pos e, show cutOf val len k = rowOf val len m k from funext fun i => by simp only [cutOf, if_pos e, HM.out]]
          exact hF.kp.cells _ _ _ _ (by omega) (hI.rows k e)
        · rw [if_neg e, show cutOf val len k = pieceOf id (rowOf val len m) k from funext fun i => by simp only [cutOf, if_neg e, HM.out]]
          exact (hPB k hk e).2
      · by_cases e : k < 10
        · simp only [if_pos e]; omega
        · simp only [if_neg e]
          have := (hPB k hk e).1
          omega
      · by_cases e : k < 10
        · simp only [if_pos e]; omega
        · simp only [if_neg e]
          have := (hPB k hk e).1
          omega
      · by_cases h1 : k < 10
        · by_cases h2 : k' < 10
          · simp only [if_pos h1, if_pos h2] at e; omega
          · simp only [if_pos h1, if_neg h2] at e
            have := (hPB k' hk' h2).1
            omega
        · by_cases h2 : k' < 10
          · simp only [if_neg h1, if_pos h2] at e
            have := (hPB k hk h1).1
            omega
          · simp only [if_neg h1, if_neg h2] at e
            rcases Nat.lt_trichotomy k k' with h | h | h
            · have := hF.mono k k' h hk' (lack_id.2 (by omega)) (lack_id.2 (by omega)); omega
            · exact h
            · have := hF.mono k' k h hk (lack_id.2 (by omega)) (lack_id.2 (by omega)); omega
/-- .. of too long a value. -/
theorem cutLong_r {S : Nat → Prop} {v : World} (len cap : Nat) (p : Option Addr) (hl : 400 < len) (hl2 : len < 2 ^ 62) :
    CallsR Try.prog 35 #[.slice p len cap] S v fun y S' v' => y = .tuple #[.slice none 0 0, .int .i64 1] ∧ S' = S ∧ v' = v := by
  refine callsR_body Try.func35 rfl Try.ntmps35 (by simp) fun Stop cc cs ret => ?_
  have h0 : argF #[.slice p len cap] 0 = .slice p len cap := rfl
  generalize argF #[.slice p len cap] = f at h0
  have hlI : (400 : Int) < (len : Int) := by omega
  repeat (first|refine rA ?_|refine rB ?_|refine rC ?_|refine rD ?_|(refine rR ?_;simp only [tO, Nat.reduceAdd])|refine rE ?_|(refine rO goodFF rfl ?_;intro _ hu_ K_ hK_;go_simp;(try rw [wI _]);(try rw [wU _]);refine hK_ _ ?_;clear hK_ K_ hu_;simp only [sS, sN])|(refine rP rfl ?_;simp only [sS, sN]))
  (refine reach_cond (t := true) (by simp [Act.eval, h0, hlI]) ?_; simp only [if_true, if_false, reduceIte, Bool.false_eq_true])
  repeat (first|refine rA ?_|refine rB ?_|refine rC ?_|refine rD ?_|(refine rR ?_;simp only [tO, Nat.reduceAdd])|refine rE ?_|(refine rO goodFF rfl ?_;intro _ hu_ K_ hK_;go_simp;(try rw [wI _]);(try rw [wU _]);refine hK_ _ ?_;clear hK_ K_ hu_;simp only [sS, sN])|(refine rP rfl ?_;simp only [sS, sN]))
  refine reach_ret fun todo => ?_
  refine ret _ _ _ _ _ ?_ ⟨rfl, rfl, rfl⟩
  simp [results, Try.results35]
theorem mcut_of {S : Nat → Prop} {v : World} {s : Value} {Post : Value → (Nat → Prop) → World → Prop} (h : CallsR Try.prog 35 #[s] S v fun y S' v' => ∃ a b, y = .tuple #[a, b] ∧ Post y S' v') : CallsR Try.prog 13 #[s] S v Post := by
  refine callsR_body Try.func13 rfl Try.ntmps13 (by simp) fun Stop cc cs ret => ?_
  have h0 : argF #[s] 0 = s := rfl
  generalize argF #[s] = f at h0
  repeat (first|refine rA ?_|refine rB ?_|refine rC ?_|refine rD ?_|(refine rR ?_;simp only [tO, Nat.reduceAdd])|refine rE ?_|(refine rO goodFF rfl ?_;intro _ hu_ K_ hK_;go_simp;(try rw [wI _]);(try rw [wU _]);refine hK_ _ ?_;clear hK_ K_ hu_;simp only [sS, sN])|(refine rP rfl ?_;simp only [sS, sN]))
  (refine reach_callR rfl (by first | rfl | simp [Region.wanted, yielded, TA_get, *]) rfl Try.func35 (by kernel_rfl) rfl (by simp [Act.eval, *]; try rfl) (h) ?_)
  rintro _ S1 v1 hv1 ⟨a, b, rfl, hp⟩
  simp only [stO_some]
  repeat (first|refine rA ?_|refine rB ?_|refine rC ?_|refine rD ?_|(refine rR ?_;simp only [tO, Nat.reduceAdd])|refine rE ?_|(refine rO goodFF rfl ?_;intro _ hu_ K_ hK_;go_simp;(try rw [wI _]);(try rw [wU _]);refine hK_ _ ?_;clear hK_ K_ hu_;simp only [sS, sN])|(refine rP rfl ?_;simp only [sS, sN]))
  refine reach_ret fun todo => ?_
  refine ret _ _ _ _ _ ?_ hp
  simp [results, Try.results13]
end Go.Proofs.Ytpiefebngnlfoaa

/-
  Lists of pieces: piece.oneLength, piece.firstTen.
-/
set_option linter.unusedVariables false
set_option linter.unusedSimpArgs false
namespace Go.Proofs.Ytpiefebngnlfoaa
open Go.RowKit Go.Conc Go.Vw

/-- A list of fourteen pieces, some of which are there. -/
structure PL (v : World) (BL ol : Nat) (q : Nat → Option Addr) (ln cp : Nat → Nat) (y : Nat → Nat → Nat) : Prop where
  at_ : ∀ k, k < 14 → v.cell? ⟨BL, ol + k, none⟩ = some (.slice (q k) (ln k) (cp k))
  sl : ∀ k, k < 14 → SliceV v (q k) (ln k) (cp k) (y k)
theorem PL.ext {v u : World} {BL ol : Nat} {q : Nat → Option Addr} {ln cp : Nat → Nat} {y : Nat → Nat → Nat} (h : PL v BL ol q ln cp y) (e : Ext v u) : PL u BL ol q ln cp y := ⟨fun k hk => e.cell (h.at_ k hk), fun k hk => (h.sl k hk).ext e⟩
theorem PL.kp {v u : World} {BL ol : Nat} {q : Nat → Option Addr} {ln cp : Nat → Nat} {y : Nat → Nat → Nat} (h : PL v BL ol q ln cp y) (e : Kp v (fun _ => False) u) : PL u BL ol q ln cp y := ⟨fun k hk => e.cell (fun x => x) (h.at_ k hk), fun k hk => slice_kp e (h.sl k hk)⟩
def anyB (q : Nat → Option Addr) (i : Nat) : Bool := (List.range i).any fun k => (q k).isSome
theorem anyB_succ (q : Nat → Option Addr) (i : Nat) : anyB q (i + 1) = (anyB q i || (q i).isSome) := by simp [anyB, List.range_succ]

set_option maxRecDepth 100000 in
set_option maxHeartbeats 1000000 in
theorem oneLength_r {S : Nat → Prop} {v : World} (BL ol cl m : Nat) (q : Nat → Option Addr) (ln cp : Nat → Nat) (y : Nat → Nat → Nat) (hP : PL v BL ol q ln cp y) (hm : ∀ k, k < 14 → (q k).isSome = true → ln k = m) :
    CallsR Try.prog 45 #[.slice (some ⟨BL, ol, none⟩) 14 cl] S v fun x S' v' => x = .tuple #[.int .i64 ((if anyB q 14 then m else 0 : Nat) : Int), .bool true] ∧ S' = S ∧ v' = v := by
  refine callsR_body Try.func45 rfl Try.ntmps45 (by simp) fun Stop cc cs ret => ?_
  have h0 : argF #[.slice (some ⟨BL, ol, none⟩) 14 cl] 0 = .slice (some ⟨BL, ol, none⟩) 14 cl := rfl
  generalize argF #[.slice (some ⟨BL, ol, none⟩) 14 cl] = f at h0
  repeat (first|refine rA ?_|refine rB ?_|refine rC ?_|refine rD ?_|(refine rR ?_;simp only [tO, Nat.reduceAdd])|refine rE ?_|(refine rO goodFF rfl ?_;intro _ hu_ K_ hK_;go_simp;(try rw [wI _]);(try rw [wU _]);refine hK_ _ ?_;clear hK_ K_ hu_;simp only [sS, sN])|(refine rP rfl ?_;simp only [sS, sN]))
  refine reach_rounds (fun d f' S' v' => ∃ j, d = 14 - j ∧ j ≤ 14 ∧ S' = S ∧ v' = v ∧ f' 8 = .slice (some ⟨BL, ol, none⟩) 14 cl ∧ f' 9 = .int .i64 14 ∧ f' 10 = .int .i64 (j : Nat) ∧ f' 4 = .int .i64 ((if anyB q j then m else 0 : Nat) : Int) ∧ f' 5 = .bool (anyB q j)) 14 ⟨0, by omega, by omega, rfl, rfl, by simp [h0], by simp, by simp, by simp [anyB], by simp [anyB]⟩ ?_
  rintro d f' S' v' ⟨j, rfl, hj, eS, eV, g8, g9, g10, g4, g5⟩ next
  subst S' v'
  repeat (first|refine rA ?_|refine rB ?_|refine rC ?_|refine rD ?_|(refine rR ?_;simp only [tO, Nat.reduceAdd])|refine rE ?_|(refine rO goodFF rfl ?_;intro _ hu_ K_ hK_;go_simp;(try rw [wI _]);(try rw [wU _]);refine hK_ _ ?_;clear hK_ K_ hu_;simp only [sS, sN])|(refine rP rfl ?_;simp only [sS, sN]))
  by_cases hlt : j < 14
  · have hjI : (j : Int) < 14 := by omega
    (refine reach_cond (t := true) (by simp [Act.eval, g10, g9, hjI]) ?_; simp only [if_true, if_false, reduceIte, Bool.false_eq_true])
    have hat := hP.at_ j hlt
    cases hq : q j with
    | none =>
      rw [hq] at hat
      have ha : anyB q (j + 1) = anyB q j := by rw [anyB_succ, hq]; simp
      have HA : Hid (anyB q (j + 1) = anyB q j) := ha
      clear ha hq
      repeat (first|refine rA ?_|refine rB ?_|refine rC ?_|refine rD ?_|(refine rR ?_;simp only [tO, Nat.reduceAdd])|refine rE ?_|(refine rO goodFF rfl ?_;intro _ hu_ K_ hK_;(have hc := (Ext.twin hu_).cell hat);go_simp;(try rw [wI _]);(try rw [wU _]);refine hK_ _ ?_;clear hK_ K_ hu_;simp only [sS, sN])|(refine rP rfl ?_;simp only [sS, sN]))
      (refine reach_cond (t := true) (by simp [Act.eval]) ?_; simp only [if_true, if_false, reduceIte, Bool.false_eq_true])
      refine reach_exit rfl ?_
      repeat (first|refine rA ?_|refine rB ?_|refine rC ?_|refine rD ?_|(refine rR ?_;simp only [tO, Nat.reduceAdd])|refine rE ?_|(refine rO goodFF rfl ?_;intro _ hu_ K_ hK_;go_simp;(try rw [wI _]);(try rw [wU _]);refine hK_ _ ?_;clear hK_ K_ hu_;simp only [sS, sN])|(refine rP rfl ?_;simp only [sS, sN]))
      refine next _ _ _ (14 - (j + 1)) (by omega) ⟨j + 1, rfl, by omega, rfl, rfl, ?_, ?_, ?_, ?_, ?_⟩
      · simp [g8]
      · simp [g9]
      · simp
      · simp [g4, HA.out]
      · simp [g5, HA.out]
    | some a =>
      rw [hq] at hat
      have hlm : ln j = m := hm j hlt (by rw [hq]; rfl)
      rw [hlm] at hat
      have ha : anyB q (j + 1) = true := by rw [anyB_succ, hq]; simp
      have HA : Hid (anyB q (j + 1) = true) := ha
      clear ha hq hlm
      repeat (first|refine rA ?_|refine rB ?_|refine rC ?_|refine rD ?_|(refine rR ?_;simp only [tO, Nat.reduceAdd])|refine rE ?_|(refine rO goodFF rfl ?_;intro _ hu_ K_ hK_;(have hc := (Ext.twin hu_).cell hat);go_simp;(try rw [wI _]);(try rw [wU _]);refine hK_ _ ?_;clear hK_ K_ hu_;simp only [sS, sN])|(refine rP rfl ?_;simp only [sS, sN]))
      (refine reach_cond (t := false) (by simp [Act.eval]) ?_; simp only [if_true, if_false, reduceIte, Bool.false_eq_true])
      cases hb : anyB q j with
      | false =>
        rw [hb] at g5
        simp only [hb, Bool.false_eq_true, if_false] at g4
        repeat (first|refine rA ?_|refine rB ?_|refine rC ?_|refine rD ?_|(refine rR ?_;simp only [tO, Nat.reduceAdd])|refine rE ?_|(refine rO goodFF rfl ?_;intro _ hu_ K_ hK_;go_simp;(try rw [wI _]);(try rw [wU _]);refine hK_ _ ?_;clear hK_ K_ hu_;simp only [sS, sN])|(refine rP rfl ?_;simp only [sS, sN]))
        (refine reach_cond (t := false) (by simp [Act.eval]) ?_; simp only [if_true, if_false, reduceIte, Bool.false_eq_true])
        repeat (first|refine rA ?_|refine rB ?_|refine rC ?_|refine rD ?_|(refine rR ?_;simp only [tO, Nat.reduceAdd])|refine rE ?_|(refine rO goodFF rfl ?_;intro _ hu_ K_ hK_;go_simp;(try rw [wI _]);(try rw [wU _]);refine hK_ _ ?_;clear hK_ K_ hu_;simp only [sS, sN])|(refine rP rfl ?_;simp only [sS, sN]))
        refine next _ _ _ (14 - (j + 1)) (by omega) ⟨j + 1, rfl, by omega, rfl, rfl, ?_, ?_, ?_, ?_, ?_⟩
        · simp [g8]
        · simp [g9]
        · simp
        · simp [HA.out]
        · simp [HA.out]
      | true =>
        rw [hb] at g5
        simp only [hb, if_true] at g4
        repeat (first|refine rA ?_|refine rB ?_|refine rC ?_|refine rD ?_|(refine rR ?_;simp only [tO, Nat.reduceAdd])|refine rE ?_|(refine rO goodFF rfl ?_;intro _ hu_ K_ hK_;go_simp;(try rw [wI _]);(try rw [wU _]);refine hK_ _ ?_;clear hK_ K_ hu_;simp only [sS, sN])|(refine rP rfl ?_;simp only [sS, sN]))
        (refine reach_cond (t := false) (by simp [Act.eval]) ?_; simp only [if_true, if_false, reduceIte, Bool.false_eq_true])
        repeat (first|refine rA ?_|refine rB ?_|refine rC ?_|refine rD ?_|(refine rR ?_;simp only [tO, Nat.reduceAdd])|refine rE ?_|(refine rO goodFF rfl ?_;intro _ hu_ K_ hK_;go_simp;(try rw [wI _]);(try rw [wU _]);refine hK_ _ ?_;clear hK_ K_ hu_;simp only [sS, sN])|(refine rP rfl ?_;simp only [sS, sN]))
        refine next _ _ _ (14 - (j + 1)) (by omega) ⟨j + 1, rfl, by omega, rfl, rfl, ?_, ?_, ?_, ?_, ?_⟩
        · simp [g8]
        · simp [g9]
        · simp
        · simp [HA.out]
        · simp [HA.out]
  · obtain rfl : j = 14 := by omega
    (refine reach_cond (t := false) (by simp [Act.eval, g10, g9]) ?_; simp only [if_true, if_false, reduceIte, Bool.false_eq_true])
    refine reach_exit rfl ?_
    repeat (first|refine rA ?_|refine rB ?_|refine rC ?_|refine rD ?_|(refine rR ?_;simp only [tO, Nat.reduceAdd])|refine rE ?_|(refine rO goodFF rfl ?_;intro _ hu_ K_ hK_;go_simp;(try rw [wI _]);(try rw [wU _]);refine hK_ _ ?_;clear hK_ K_ hu_;simp only [sS, sN])|(refine rP rfl ?_;simp only [sS, sN]))
    refine reach_ret fun todo => ?_
    refine ret _ _ _ _ _ ?_ ⟨rfl, rfl, rfl⟩
    simp [results, Try.results45, g4]

/-- How many of the first i pieces are counted, and which. -/
def ftC (q : Nat → Option Addr) : Nat → Nat × (Nat → Nat)
  | 0 => (0, fun _ => 0)
  | i + 1 => if (q i).isSome = true ∧ (ftC q i).1 < 10 then ((ftC q i).1 + 1, fun j => if j = (ftC q i).1 then i else (ftC q i).2 j) else ftC q i
theorem ftC_le (q : Nat → Option Addr) (i : Nat) : (ftC q i).1 ≤ 10 := by
  induction i with
  | zero => exact Nat.zero_le _
  | succ i ih =>
    unfold ftC
    split
    · simp only; omega
    · exact ih
theorem ftC_kn (q : Nat → Option Addr) (i : Nat) : ∀ j, j < (ftC q i).1 → (ftC q i).2 j < i ∧ (q ((ftC q i).2 j)).isSome = true ∧ ∀ j', j' < j → (ftC q i).2 j' < (ftC q i).2 j := by
  induction i with
  | zero => intro j hj; exact absurd hj (Nat.not_lt_zero _)
  | succ i ih =>
    intro j hj
    unfold ftC at hj ⊢
    split at hj
    · rename_i h
      rw [if_pos h]
      simp only at hj ⊢
      by_cases e : j = (ftC q i).1
      · rw [if_pos e]
        refine ⟨by omega, h.1, fun j' hj' => ?_⟩
        rw [if_neg (by omega)]
        exact (ih j' (by omega)).1
      · rw [if_neg e]
        obtain ⟨h1, h2, h3⟩ := ih j (by omega)
        refine ⟨by omega, h2, fun j' hj' => ?_⟩
        rw [if_neg (by omega)]
        exact h3 j' hj'
    · rename_i h
      rw [if_neg h]
      obtain ⟨h1, h2, h3⟩ := ih j hj
      exact ⟨by omega, h2, h3⟩
theorem ten_set (kn : Nat → Nat) (c i : Nat) : (ten kn).setIfInBounds c (.int .i64 (i : Nat)) = ten fun j => if j = c then i else kn j := by
  apply Array.ext_getElem?
  intro e
  rw [Array.getElem?_setIfInBounds]
  by_cases h : c = e
  · subst h
    by_cases hi : c < 10 <;> simp [ten, hi]
  · rw [if_neg h]
    by_cases hi : e < 10 <;> simp [ten, hi, show ¬ e = c from fun x => h x.symm]
theorem ten_one (kn : Nat → Nat) : (ten kn).all (·.oneCell') = true := by
  rw [Array.all_eq_true_iff_forall_mem]
  intro y hy
  simp [ten] at hy
  obtain ⟨j, _, rfl⟩ := hy
  rfl
theorem ten_zero : tenP 0 = ten fun _ => 0 := by
  apply Array.ext_getElem?
  intro c
  by_cases h : c < 10 <;> simp [tenP, ten, h]
structure FT (v0 : World) (q : Nat → Option Addr) (j : Nat) (v : World) : Prop where
  ext : Ext v0 v
  r : v.heap[v0.heap.size]? = some (.cells (ten fun _ => 0) 74)
  k : v.heap[v0.heap.size + 1]? = some (.cells (ten (ftC q j).2) 74)
  size : v.heap.size = v0.heap.size + 2

set_option maxRecDepth 100000 in
set_option maxHeartbeats 1000000 in
theorem firstTen_r {S : Nat → Prop} {v : World} (BL ol cl : Nat) (q : Nat → Option Addr) (ln cp : Nat → Nat) (y : Nat → Nat → Nat) (hP : PL v BL ol q ln cp y) :
    CallsR Try.prog 46 #[.slice (some ⟨BL, ol, none⟩) 14 cl] S v fun x S' v' => x = .tuple #[.agg (ten (ftC q 14).2), .bool (decide ((ftC q 14).1 = 10))] ∧ S' = S ∧ Ext v v' := by
  refine callsR_body Try.func46 rfl Try.ntmps46 (by simp) fun Stop cc cs ret => ?_
  have h0 : argF #[.slice (some ⟨BL, ol, none⟩) 14 cl] 0 = .slice (some ⟨BL, ol, none⟩) 14 cl := rfl
  generalize argF #[.slice (some ⟨BL, ol, none⟩) 14 cl] = f at h0
  repeat (first|refine rA ?_|refine rB ?_|refine rC ?_|refine rD ?_|(refine rR ?_;simp only [tO, Nat.reduceAdd])|refine rE ?_|(refine rO goodFF rfl ?_;intro _ hu_ K_ hK_;go_simp;(try rw [wI _]);(try rw [wU _]);refine hK_ _ ?_;clear hK_ K_ hu_;simp only [sS, sN])|(refine rP rfl ?_;simp only [sS, sN]))
  refine reach_alloc goodFF rfl rfl (by kernel_rfl) (.agg (tenP 0)) rfl (by rw [tenP_zero]; kernel_rfl) fun v1 hE1 hr1 hs1 => ?_
  simp only [stO_some]
  repeat (first|refine rA ?_|refine rB ?_|refine rC ?_|refine rD ?_|(refine rR ?_;simp only [tO, Nat.reduceAdd])|refine rE ?_|(refine rO goodFF rfl ?_;intro _ hu_ K_ hK_;go_simp;(try rw [wI _]);(try rw [wU _]);refine hK_ _ ?_;clear hK_ K_ hu_;simp only [sS, sN])|(refine rP rfl ?_;simp only [sS, sN]))
  refine reach_alloc goodFF rfl rfl (by kernel_rfl) (.agg (tenP 0)) rfl (by rw [tenP_zero]; kernel_rfl) fun v2 hE2 hr2 hs2 => ?_
  simp only [stO_some]
  repeat (first|refine rA ?_|refine rB ?_|refine rC ?_|refine rD ?_|(refine rR ?_;simp only [tO, Nat.reduceAdd])|refine rE ?_|(refine rO goodFF rfl ?_;intro _ hu_ K_ hK_;go_simp;(try rw [wI _]);(try rw [wU _]);refine hK_ _ ?_;clear hK_ K_ hu_;simp only [sS, sN])|(refine rP rfl ?_;simp only [sS, sN]))
  rw [hs1] at hr2 ⊢
  have hT : FT v q 0 v2 := ⟨hE1.trans _ _ _ hE2, by rw [← ten_zero]; exact hE2.row hr1, by rw [show (ftC q 0).2 = fun _ => 0 from rfl, ← ten_zero]; exact hr2, by omega⟩
  refine reach_rounds (fun d f' S' v' => ∃ j, d = 14 - j ∧ j ≤ 14 ∧ S' = S ∧ FT v q j v' ∧ f' 2 = ptr v.heap.size ∧ f' 4 = ptr (v.heap.size + 1) ∧ f' 5 = .int .i64 ((ftC q j).1 : Nat) ∧ f' 8 = .slice (some ⟨BL, ol, none⟩) 14 cl ∧ f' 9 = .int .i64 14 ∧ f' 10 = .int .i64 (j : Nat)) 14 ⟨0, by omega, by omega, rfl, hT, by simp, by simp, by simp [ftC], by simp [h0], by simp, by simp⟩ ?_
  rintro d f' S' v' ⟨j, rfl, hj, eS, hT, g2, g4, g5, g8, g9, g10⟩ next
  subst S'
  repeat (first|refine rA ?_|refine rB ?_|refine rC ?_|refine rD ?_|(refine rR ?_;simp only [tO, Nat.reduceAdd])|refine rE ?_|(refine rO goodFF rfl ?_;intro _ hu_ K_ hK_;go_simp;(try rw [wI _]);(try rw [wU _]);refine hK_ _ ?_;clear hK_ K_ hu_;simp only [sS, sN])|(refine rP rfl ?_;simp only [sS, sN]))
  have hle := ftC_le q j
  by_cases hlt : j < 14
  · have hjI : (j : Int) < 14 := by omega
    (refine reach_cond (t := true) (by simp [Act.eval, g10, g9, hjI]) ?_; simp only [if_true, if_false, reduceIte, Bool.false_eq_true])
    have hat := hT.ext.cell (hP.at_ j hlt)
    cases hq : q j with
    | none =>
      rw [hq] at hat
      have hf : ftC q (j + 1) = ftC q j := by
        rw [ftC, if_neg]
        rw [hq]; simp
      have HF : Hid (ftC q (j + 1) = ftC q j) := hf
      clear hf hq
      repeat (first|refine rA ?_|refine rB ?_|refine rC ?_|refine rD ?_|(refine rR ?_;simp only [tO, Nat.reduceAdd])|refine rE ?_|(refine rO goodFF rfl ?_;intro _ hu_ K_ hK_;(have hc := (Ext.twin hu_).cell hat);go_simp;(try rw [wI _]);(try rw [wU _]);refine hK_ _ ?_;clear hK_ K_ hu_;simp only [sS, sN])|(refine rP rfl ?_;simp only [sS, sN]))
      (refine reach_cond (t := false) (by simp [Act.eval]) ?_; simp only [if_true, if_false, reduceIte, Bool.false_eq_true])
      repeat (first|refine rA ?_|refine rB ?_|refine rC ?_|refine rD ?_|(refine rR ?_;simp only [tO, Nat.reduceAdd])|refine rE ?_|(refine rO goodFF rfl ?_;intro _ hu_ K_ hK_;go_simp;(try rw [wI _]);(try rw [wU _]);refine hK_ _ ?_;clear hK_ K_ hu_;simp only [sS, sN])|(refine rP rfl ?_;simp only [sS, sN]))
      refine next _ _ _ (14 - (j + 1)) (by omega) ⟨j + 1, rfl, by omega, rfl, ⟨hT.ext, hT.r, by rw [HF.out]; exact hT.k, hT.size⟩, ?_, ?_, ?_, ?_, ?_, ?_⟩
      · simp [g2]
      · simp [g4]
      · simp [g5, HF.out]
      · simp [g8]
      · simp [g9]
      · simp
    | some a =>
      rw [hq] at hat
      by_cases hc10 : (ftC q j).1 < 10
      · have hf : ftC q (j + 1) = ((ftC q j).1 + 1, fun e => if e = (ftC q j).1 then j else (ftC q j).2 e) := by
          rw [ftC, if_pos]
          rw [hq]; exact ⟨rfl, hc10⟩
        have HF : Hid (ftC q (j + 1) = ((ftC q j).1 + 1, fun e => if e = (ftC q j).1 then j else (ftC q j).2 e)) := hf
        have hcI : ((ftC q j).1 : Int) < 10 := by omega
        clear hf hq
        repeat (first|refine rA ?_|refine rB ?_|refine rC ?_|refine rD ?_|(refine rR ?_;simp only [tO, Nat.reduceAdd])|refine rE ?_|(refine rO goodFF rfl ?_;intro _ hu_ K_ hK_;(have hc := (Ext.twin hu_).cell hat);go_simp;(try rw [wI _]);(try rw [wU _]);refine hK_ _ ?_;clear hK_ K_ hu_;simp only [sS, sN])|(refine rP rfl ?_;simp only [sS, sN]))
        (refine reach_cond (t := true) (by simp [Act.eval, hcI]) ?_; simp only [if_true, if_false, reduceIte, Bool.false_eq_true])
        repeat (first|refine rA ?_|refine rB ?_|refine rC ?_|refine rD ?_|(refine rR ?_;simp only [tO, Nat.reduceAdd])|refine rE ?_|(refine rO goodFF rfl ?_;intro _ hu_ K_ hK_;go_simp;(try rw [wI _]);(try rw [wU _]);refine hK_ _ ?_;clear hK_ K_ hu_;simp only [sS, sN])|(refine rP rfl ?_;simp only [sS, sN]))
        refine reach_store1 goodFF rfl rfl (by kernel_rfl) (x := .tmp 23) (y := .tmp 22) (g := v.heap.size + 1) (j := (ftC q j).1) (z := .int .i64 (j : Nat)) rfl (by simp) (by simp) rfl rfl hT.k (by rw [ten_size]; exact hc10) (by kernel_rfl) fun v3 hW => ?_
        simp only [stO_none]
        rw [ten_set] at hW
        repeat (first|refine rA ?_|refine rB ?_|refine rC ?_|refine rD ?_|(refine rR ?_;simp only [tO, Nat.reduceAdd])|refine rE ?_|(refine rO goodFF rfl ?_;intro _ hu_ K_ hK_;go_simp;(try rw [wI _]);(try rw [wU _]);refine hK_ _ ?_;clear hK_ K_ hu_;simp only [sS, sN])|(refine rP rfl ?_;simp only [sS, sN]))
        refine next _ _ _ (14 - (j + 1)) (by omega) ⟨j + 1, rfl, by omega, rfl, ⟨⟨by have := hW.size; have := hT.size; omega, fun b hb => (hW.other b (by omega)).trans (hT.ext.block b hb), hW.os.trans hT.ext.os, hW.output.trans hT.ext.output⟩, (hW.other _ (by omega)).trans hT.r, by rw [HF.out]; exact hW.at_, hW.size.trans hT.size⟩, ?_, ?_, ?_, ?_, ?_, ?_⟩
        · simp [g2]
        · simp [g4]
        · simp [HF.out]
        · simp [g8]
        · simp [g9]
        · simp
      · have hf : ftC q (j + 1) = ftC q j := by
          rw [ftC, if_neg]
          exact fun h => hc10 h.2
        have HF : Hid (ftC q (j + 1) = ftC q j) := hf
        have hcI : ¬ ((ftC q j).1 : Int) < 10 := by omega
        clear hf hq
        repeat (first|refine rA ?_|refine rB ?_|refine rC ?_|refine rD ?_|(refine rR ?_;simp only [tO, Nat.reduceAdd])|refine rE ?_|(refine rO goodFF rfl ?_;intro _ hu_ K_ hK_;(have hc := (Ext.twin hu_).cell hat);go_simp;(try rw [wI _]);(try rw [wU _]);refine hK_ _ ?_;clear hK_ K_ hu_;simp only [sS, sN])|(refine rP rfl ?_;simp only [sS, sN]))
        (refine reach_cond (t := false) (by simp [Act.eval, hcI]) ?_; simp only [if_true, if_false, reduceIte, Bool.false_eq_true])
        repeat (first|refine rA ?_|refine rB ?_|refine rC ?_|refine rD ?_|(refine rR ?_;simp only [tO, Nat.reduceAdd])|refine rE ?_|(refine rO goodFF rfl ?_;intro _ hu_ K_ hK_;go_simp;(try rw [wI _]);(try rw [wU _]);refine hK_ _ ?_;clear hK_ K_ hu_;simp only [sS, sN])|(refine rP rfl ?_;simp only [sS, sN]))
        refine next _ _ _ (14 - (j + 1)) (by omega) ⟨j + 1, rfl, by omega, rfl, ⟨hT.ext, hT.r, by rw [HF.out]; exact hT.k, hT.size⟩, ?_, ?_, ?_, ?_, ?_, ?_⟩
        · simp [g2]
        · simp [g4]
        · simp [g5, HF.out]
        · simp [g8]
        · simp [g9]
        · simp
  · obtain rfl : j = 14 := by omega
    (refine reach_cond (t := false) (by simp [Act.eval, g10, g9]) ?_; simp only [if_true, if_false, reduceIte, Bool.false_eq_true])
    refine reach_exit rfl ?_
    repeat (first|refine rA ?_|refine rB ?_|refine rC ?_|refine rD ?_|(refine rR ?_;simp only [tO, Nat.reduceAdd])|refine rE ?_|(refine rO goodFF rfl ?_;intro _ hu_ K_ hK_;go_simp;(try rw [wI _]);(try rw [wU _]);refine hK_ _ ?_;clear hK_ K_ hu_;simp only [sS, sN])|(refine rP rfl ?_;simp only [sS, sN]))
    refine reach_loadRow goodFF rfl rfl (by kernel_rfl) (x := .tmp 4) (b := v.heap.size + 1) rfl (by simp [g4]) hT.k (by kernel_rfl) (by rw [ten_size]; kernel_rfl) ?_
    simp only [stO_some]
    repeat (first|refine rA ?_|refine rB ?_|refine rC ?_|refine rD ?_|(refine rR ?_;simp only [tO, Nat.reduceAdd])|refine rE ?_|(refine rO goodFF rfl ?_;intro _ hu_ K_ hK_;go_simp;(try rw [wI _]);(try rw [wU _]);refine hK_ _ ?_;clear hK_ K_ hu_;simp only [sS, sN])|(refine rP rfl ?_;simp only [sS, sN]))
    refine reach_storeRow goodFF rfl rfl (by kernel_rfl) (x := .tmp 2) (y := .tmp 27) (g := v.heap.size) (c := ten (ftC q 14).2) rfl (by simp [g2]) (by simp) hT.r (by rw [ten_size]; kernel_rfl) (by rw [ten_size, ten_size]) (ten_one _) fun v3 hW => ?_
    simp only [stO_none]
    repeat (first|refine rA ?_|refine rB ?_|refine rC ?_|refine rD ?_|(refine rR ?_;simp only [tO, Nat.reduceAdd])|refine rE ?_|(refine rO goodFF rfl ?_;intro _ hu_ K_ hK_;go_simp;(try rw [wI _]);(try rw [wU _]);refine hK_ _ ?_;clear hK_ K_ hu_;simp only [sS, sN])|(refine rP rfl ?_;simp only [sS, sN]))
    refine reach_ret fun todo => ?_
    refine ret _ _ _ _ _ ?_ ⟨rfl, rfl, ⟨by have := hW.size; have := hT.size; omega, fun b hb => (hW.other b (by omega)).trans (hT.ext.block b hb), hW.os.trans hT.ext.os, hW.output.trans hT.ext.output⟩⟩
    have hload : (loadVar 74 ⟨v.heap.size, 0, none⟩).run Try.prog v3 = .ok (.agg (ten (ftC q 14).2)) v3 := run_loadVar_row v3 v.heap.size 74 74 _ _ _ hW.at_ Try.underlying74 (by simp) (by rw [ten_size]; kernel_rfl)
    simp [results, Try.results46, g2, asAddr, hload]
    rw [Bool.eq_iff_iff]
    simp
    omega
end Go.Proofs.Ytpiefebngnlfoaa
