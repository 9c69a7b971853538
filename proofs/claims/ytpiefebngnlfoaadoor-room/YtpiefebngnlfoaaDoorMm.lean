/-
  mosaickeep.Room: its walk.
-/
import Derived.Test.YtpiefebngnlfoaaDoorMl
set_option linter.unusedVariables false
set_option linter.unusedSimpArgs false
namespace Go.Proofs.YtpiefebngnlfoaaDoor
open Go.RowKit Go.Conc Go.Vw
section
variable {X D DB DA M : Nat} {RB RA : Nat → Nat} {nd nb turn : Nat} {c : Nat → Nat → Nat → Nat} {L : List Ent} {w w' v : World} {S : Nat → Prop}
theorem StE.noOwn (h : StE X D DB DA M RB RA nd nb turn c L w) {b : Nat} {x : Array Value} {t : TypeId} {fr : Nat × Nat} (hb : w.heap[b]? = some (.cells x t fr)) (h1 : t ≠ 49) (h2 : t ≠ 73) (h3 : t ≠ 92) : ¬ SOwn X D M RB RA nd b := by
  rintro (q | q | q | ⟨d, hd, q | q⟩)
  · exact ne_of_type hb h.row h1 q
  · obtain ⟨cl, hm, _⟩ := h.map
    exact map_ne hm hb q.symm
  · obtain ⟨l, _, r⟩ := h.dk.row
    exact ne_of_type hb r h2 q
  · exact ne_of_type hb (h.dk.rb d hd) h3 q
  · obtain ⟨x, r⟩ := h.dk.ra d hd
    exact ne_of_type hb r h3 q
theorem findP_not {id : Nat} {L : List Ent} (h : id ∉ L.map (·.id)) : findP id L 0 = none := by
  cases q : findP id L 0 with
  | none => rfl
  | some r =>
    obtain ⟨n, e⟩ := r
    obtain ⟨n', _, h1, h2⟩ := findP_some q
    exact absurd (List.mem_map.2 ⟨e, List.mem_of_getElem? h1, h2⟩) h
theorem findP_in {id : Nat} {L : List Ent} (h : id ∈ L.map (·.id)) : ∃ n e, findP id L 0 = some (n, e) ∧ e ∈ L ∧ e.id = id := by
  cases q : findP id L 0 with
  | none =>
    obtain ⟨e, he, h1⟩ := List.mem_map.1 h
    exact absurd h1 (findP_none q e he)
  | some r =>
    obtain ⟨n, e⟩ := r
    obtain ⟨n', _, h1, h2⟩ := findP_some q
    exact ⟨n, e, rfl, List.mem_of_getElem? h1, h2⟩
/-- The ids that a round puts. -/
def idsR (round k : Nat) : List Nat := (List.range k).map fun j => 100 + 7 * j + round
theorem idsR_succ (round k : Nat) : idsR round (k + 1) = idsR round k ++ [100 + 7 * k + round] := by simp [idsR, List.range_succ]
theorem idsR_len (round k : Nat) : (idsR round k).length = k := by simp [idsR]
theorem idsR_not (round k : Nat) : 100 + 7 * k + round ∉ idsR round k := fun h => by
  obtain ⟨j, hj, e⟩ := List.mem_map.1 h
  have := List.mem_range.1 hj
  omega
/-- What is still to be taken away. -/
def remH (h : Nat → Hl) (n i : Nat) : List Nat := (List.range (n - i)).map fun j => (h (i + j)).id
theorem remH_zero (h : Nat → Hl) (n : Nat) : remH h n 0 = ((List.range n).map h).map (·.id) := by simp [remH, Function.comp_def]
theorem remH_cons {h : Nat → Hl} {n i : Nat} (hi : i < n) : remH h n i = (h i).id :: remH h n (i + 1) := by
  unfold remH
  rw [show n - i = (n - (i + 1)) + 1 by omega, List.range_succ_eq_map, List.map_cons, List.map_map]
  congr 1
  refine List.map_congr_left fun j _ => ?_
  show (h (i + (j + 1))).id = _
  rw [show i + (j + 1) = i + 1 + j by omega]
def valR (k round i : Nat) : Nat := (i + k + round) % 256
/-- What the walk keeps. -/
structure RS (v : World) (X D DB DA M : Nat) (RB RA : Nat → Nat) (nd nb V len turn : Nat) (L : List Ent) (x : Nat → Nat) (w : World) : Prop where
  kp : Kp v (fun b => SOwn X D M RB RA nd b ∨ b = V) w
  st : ∃ c, StE X D DB DA M RB RA nd nb turn c L w
  row : w.heap[V]? = some (.cells (bytesA len x) 5)
  glob : Tryd.prog.globals.size ≤ w.heap.size
theorem StE.wrV (h : StE X D DB DA M RB RA nd nb turn c L w) {V : Nat} {x : Array Value} {fr : Nat × Nat} (hV : w.heap[V]? = some (.cells x 5 fr)) (hK : Kp w (fun b => b = V) w') : StE X D DB DA M RB RA nd nb turn c L w' := by
  have no : ∀ {b : Nat} {y : Array Value} {t : TypeId} {fr : Nat × Nat}, w.heap[b]? = some (.cells y t fr) → t ≠ 5 → ¬ b = V := fun hb ht e => ne_of_type hb hV ht e
  obtain ⟨cl, q1, q2⟩ := h.map
  refine ⟨hK.cells _ _ _ _ (no h.row (by decide)) h.row, ⟨cl, hK.objs _ _ (fun e => map_ne q1 hV e) q1 trivial, q2⟩, h.dk.kp hK ?_ (no h.dk.db (by decide)) (no h.dk.da (by decide)) (fun d hd => ⟨no (h.dk.rb d hd) (by decide), ?_⟩), h.ent, h.ids, h.slots, h.borns⟩
  · obtain ⟨l, _, r⟩ := h.dk.row
    exact no r (by decide)
  · obtain ⟨y, r⟩ := h.dk.ra d hd
    exact no r (by decide)
section
variable {V len : Nat} {x : Nat → Nat} {L' : List Ent} {turn' : Nat}
theorem RS.own (h : RS v X D DB DA M RB RA nd nb V len turn L x w) (hK : Kp w (SOwn X D M RB RA nd) w') (h' : ∃ c, StE X D DB DA M RB RA nd nb turn' c L' w') : RS v X D DB DA M RB RA nd nb V len turn' L' x w' :=
  let ⟨c, hs⟩ := h.st
  ⟨h.kp.trans (hK.mono fun b q => .inl q), h', hK.cells _ _ _ _ (hs.noOwn h.row (by decide) (by decide) (by decide)) h.row, Nat.le_trans h.glob hK.size⟩
theorem RS.nop (h : RS v X D DB DA M RB RA nd nb V len turn L x w) (hK : Kp w (fun _ => False) w') : RS v X D DB DA M RB RA nd nb V len turn L x w' :=
  let ⟨c, hs⟩ := h.st
  h.own (hK.mono fun _ q => q.elim) ⟨c, hs.kp hK⟩
theorem RS.fill (h : RS v X D DB DA M RB RA nd nb V len turn L x w) {y : Nat → Nat} (hW : Wr w V (.cells (bytesA len y) 5) w') : RS v X D DB DA M RB RA nd nb V len turn L y w' :=
  let ⟨c, hs⟩ := h.st
  have hK : Kp w (fun b => b = V) w' := (Kp.refl w _).wr (.inl rfl) hW
  ⟨h.kp.wr (.inl (.inr rfl)) hW, ⟨c, hs.wrV h.row hK⟩, hW.at_, Nat.le_trans h.glob hK.size⟩
theorem RS.slice (h : RS v X D DB DA M RB RA nd nb V len turn L x w) {y : Nat → Nat} (hy : ∀ i, i < len → x i = y i) : SliceV w (some ⟨V, 0, none⟩) len len y :=
  .inr ⟨V, 0, rfl, Nat.le_refl _, fun i hi => by rw [Nat.zero_add, cell_of_row _ _ _ _ _ _ h.row, bytesA_get _ _ _ hi, hy i hi]⟩
end
theorem kp_drop {Y : Nat → Prop} (hK : Kp v Y w) (h : ∀ b, Y b → v.heap.size ≤ b) : Kp v (fun _ => False) w :=
  ⟨hK.size, hK.os, hK.output, fun b o hb hc ht => hK.objs b o (fun q => by
    have h1 := h b q
    have := (Array.getElem?_eq_some_iff.1 hc).1
    omega) hc ht⟩
structure RF (f : Nat → Value) (X nb V len : Nat) (more : Int) (round : Nat) : Prop where
  f3 : f 3 = .int .i64 more
  f9 : f 9 = .int .i64 (nb : Nat)
  f10 : f 10 = .pointer (some ⟨X, 0, none⟩)
  f11 : f 11 = .slice (some ⟨V, 0, none⟩) len len
  f12 : f 12 = .int .i64 (round : Nat)
def fillA (len j k round : Nat) (x : Nat → Nat) (i : Nat) : Nat := if i < j then valR k round i else x i
theorem fillA_set {len j k round : Nat} {x : Nat → Nat} : (bytesA len (fillA len j k round x)).setIfInBounds j (.int .u8 (valR k round j : Nat)) = bytesA len (fillA len (j + 1) k round x) := by
  apply Array.ext_getElem?
  intro i
  rw [Array.getElem?_setIfInBounds]
  by_cases e : j = i
  · subst e
    rw [if_pos rfl, bytesA_size]
    by_cases h : j < len
    · rw [if_pos h, bytesA_get _ _ _ h]
      unfold fillA
      rw [if_pos (by omega)]
    · rw [if_neg h, Array.getElem?_eq_none (by rw [bytesA_size]; omega)]
  · rw [if_neg e]
    by_cases h : i < len
    · rw [bytesA_get _ _ _ h, bytesA_get _ _ _ h]
      unfold fillA
      by_cases h2 : i < j
      · rw [if_pos h2, if_pos (by omega)]
      · rw [if_neg h2, if_neg (by omega)]
    · rw [Array.getElem?_eq_none (by rw [bytesA_size]; omega), Array.getElem?_eq_none (by rw [bytesA_size]; omega)]
/-- A block of a text. -/
def blockAt (id : Nat) : Code → Option Code
  | .block i c => bif Nat.beq i id then some (.block i c) else blockAt id c
  | .seq a b => match blockAt id a with
    | some x => some x
    | none => blockAt id b
  | .cond _ a b => match blockAt id a with
    | some x => some x
    | none => blockAt id b
  | .loop c => blockAt id c
  | _ => none
section
variable {V len : Nat} {x : Nat → Nat} {more : Int} {round k : Nat} {f : Nat → Value} {Stop : Goroutine → (Nat → Prop) → World → Prop} {cs : List Frame} {K : List Item}
set_option maxRecDepth 100000 in
set_option maxHeartbeats 8000000 in
/-- The value is filled. -/
theorem room_fill (hl : len ≤ 400) (hk : k ≤ 11) (hro : round ≤ 4) (hS : RS v X D DB DA M RB RA nd nb V len turn L x w) (hF : RF f X nb V len more round) (f13 : f 13 = .int .i64 (k : Nat)) (f14 : f 14 = .int .i64 0)
    (next : ∀ f' w', RS v X D DB DA M RB RA nd nb V len turn L (valR k round) w' → RF f' X nb V len more round → f' 13 = .int .i64 (k : Nat) → Vw.Reach Tryd.prog Stop (G ((base 4).at ⟨TA 147 f', []⟩ (K)) cs) S w') :
    Vw.Reach Tryd.prog Stop (G ((base 4).at ⟨TA 147 f, []⟩ (.code ((blockAt 4 (Tryd.f4.body.getD .skip)).getD .skip) :: K)) cs) S w := by
  have e : blockAt 4 (Tryd.f4.body.getD .skip) = some _ := rfl
  rw [e]
  simp only [Option.getD_some]
  clear e
  obtain ⟨f3, f9, f10, f11, f12⟩ := hF
  repeat (first|refine rA ?_|refine rB ?_|refine rC ?_|refine rD ?_|(refine rR ?_;simp only [tO, Nat.reduceAdd])|refine rE ?_|(refine rO goodFG rfl ?_;intro _ hu_ K_ hK_;go_simp;(try rw [wI _]);(try rw [wU _]);refine hK_ _ ?_;clear hK_ K_ hu_;simp only [sS, sN])|(refine rP rfl ?_;simp only [sS, sN])|(refine rP2 rfl ?_;simp only [sS, sN]))
  refine reach_rounds (fun d f' S'' w => ∃ j, d = len - j ∧ j ≤ len ∧ S'' = S ∧ RS v X D DB DA M RB RA nd nb V len turn L (fillA len j k round x) w ∧ RF f' X nb V len more round ∧ f' 13 = .int .i64 (k : Nat) ∧ f' 14 = .int .i64 (j : Nat)) len ⟨0, by omega, by omega, rfl, hS, ⟨by simp [f3], by simp [f9], by simp [f10], by simp [f11], by simp [f12]⟩, by simp [f13], by simp [f14]⟩ ?_
  clear f3 f9 f10 f11 f12 f13 f14 hS
  rintro d f S'' w ⟨j, rfl, hj, eS, hS, hF, f13, f14⟩ nxt3
  subst S''
  obtain ⟨f3, f9, f10, f11, f12⟩ := hF
  repeat (first|refine rA ?_|refine rB ?_|refine rC ?_|refine rD ?_|(refine rR ?_;simp only [tO, Nat.reduceAdd])|refine rE ?_|(refine rO goodFG rfl ?_;intro _ hu_ K_ hK_;go_simp;(try rw [wI _]);(try rw [wU _]);refine hK_ _ ?_;clear hK_ K_ hu_;simp only [sS, sN])|(refine rP rfl ?_;simp only [sS, sN])|(refine rP2 rfl ?_;simp only [sS, sN]))
  by_cases hjl : j < len
  · have hjI : (j : Int) < (len : Int) := by omega
    have hw8 : IntKind.u8.wrap ((j : Int) + (k : Int) + (round : Int)) = ((valR k round j : Nat) : Int) := by
      rw [IntKind.wrap_u8]
      unfold valR
      omega
    have hv256 : valR k round j < 256 := Nat.mod_lt _ (by omega)
    (refine reach_cond (t := true) (by simp [Act.eval, hjl]) ?_; simp only [if_true, if_false, reduceIte, Bool.false_eq_true])
    repeat (first|refine rA ?_|refine rB ?_|refine rC ?_|refine rD ?_|(refine rR ?_;simp only [tO, Nat.reduceAdd])|refine rE ?_|(refine rO goodFG rfl ?_;intro _ hu_ K_ hK_;go_simp;(try rw [wI _]);(try rw [wU _]);refine hK_ _ ?_;clear hK_ K_ hu_;simp only [sS, sN])|(refine rP rfl ?_;simp only [sS, sN])|(refine rP2 rfl ?_;simp only [sS, sN]))
    refine reach_store1 goodFG rfl rfl (by kernel_rfl) (x := .tmp 67) (y := .tmp 66) (g := V) (j := j) (z := .int .u8 (valR k round j : Nat)) rfl (by simp) (by simp) rfl rfl hS.row (by rw [bytesA_size]; exact hjl) (by kernel_rfl) fun w1 hW1 => ?_
    simp only [stO_none]
    rw [fillA_set] at hW1
    repeat (first|refine rA ?_|refine rB ?_|refine rC ?_|refine rD ?_|(refine rR ?_;simp only [tO, Nat.reduceAdd])|refine rE ?_|(refine rO goodFG rfl ?_;intro _ hu_ K_ hK_;go_simp;(try rw [wI _]);(try rw [wU _]);refine hK_ _ ?_;clear hK_ K_ hu_;simp only [sS, sN])|(refine rP rfl ?_;simp only [sS, sN])|(refine rP2 rfl ?_;simp only [sS, sN]))
    refine nxt3 _ _ _ (len - (j + 1)) (by omega) ⟨j + 1, rfl, by omega, rfl, hS.fill hW1, ⟨by simp [f3], by simp [f9], by simp [f10], by simp [f11], by simp [f12]⟩, by simp [f13], by simp⟩
  · obtain rfl : j = len := by omega
    (refine reach_cond (t := false) (by simp [Act.eval]) ?_; simp only [if_true, if_false, reduceIte, Bool.false_eq_true])
    refine reach_exit rfl ?_
    refine next _ w ⟨hS.kp, hS.st, ?_, hS.glob⟩ ⟨by simp [f3], by simp [f9], by simp [f10], by simp [f11], by simp [f12]⟩ (by simp [f13])
    rw [hS.row, bytesA_congr (g := valR k round) fun i hi => ?_]
    unfold fillA
    rw [if_pos hi]
set_option maxRecDepth 100000 in
set_option maxHeartbeats 8000000 in
/-- A value is put, twice, and told. -/
theorem room_put (hl : len ≤ 400) (hkn : k < nb - 2) (b1 : 4 ≤ nb) (b13 : nb ≤ 13) (n14 : 14 ≤ nd) (n18 : nd ≤ 18) (hro : round ≤ 4) (htu : turn ≤ 1000) (hids : L.map (·.id) = idsR round k) (hS : RS v X D DB DA M RB RA nd nb V len turn L x w) (hF : RF f X nb V len more round) (f13 : f 13 = .int .i64 (k : Nat))
    (next : ∀ f' S' w' L' x', L'.map (·.id) = idsR round (k + 1) → RS v X D DB DA M RB RA nd nb V len (turn + 2) L' x' w' → RF f' X nb V len more round → f' 13 = .int .i64 (k : Nat) → Vw.Reach Tryd.prog Stop (G ((base 4).at ⟨TA 147 f', []⟩ (K)) cs) S' w') :
    Vw.Reach Tryd.prog Stop (G ((base 4).at ⟨TA 147 f, []⟩ (.code ((blockAt 3 (Tryd.f4.body.getD .skip)).getD .skip) :: K)) cs) S w := by
  have e : blockAt 3 (Tryd.f4.body.getD .skip) = some _ := rfl
  rw [e]
  simp only [Option.getD_some]
  clear e
  have hLlen : L.length = k := by
    have := congrArg List.length hids
    rw [List.length_map, idsR_len] at this
    exact this
  have HL := hide hLlen
  clear hLlen
  have hF' := hF
  obtain ⟨f3, f9, f10, f11, f12⟩ := hF
  refine reach_block ?_
  refine reach_seq ?_
  refine reach_seq ?_
  refine rR ?_
  simp only [tO, Nat.reduceAdd]
  (refine rO goodFG rfl ?_;intro _ hu_ K_ hK_;go_simp;(try rw [wI _]);(try rw [wU _]);refine hK_ _ ?_;clear hK_ K_ hu_;simp only [sS, sN])
  refine rE ?_
  refine room_fill (more := more) (round := round) (k := k) (V := V) (len := len) (X := X) (nb := nb) hl (by omega) hro hS ⟨by simp [f3], by simp [f9], by simp [f10], by simp [f11], by simp [f12]⟩ (by simp [f13]) (by simp) fun f w hS hF f13 => ?_
  obtain ⟨f3, f9, f10, f11, f12⟩ := hF
  have hval : ∀ i, valR k round i < 256 := fun i => Nat.mod_lt _ (by omega)
  obtain ⟨id, hid⟩ : ∃ id, id = 100 + 7 * k + round := ⟨_, rfl⟩
  have hidI : (100 : Int) + 7 * (k : Int) + (round : Int) = (id : Nat) := by omega
  have hid1 : 1 ≤ id := by omega
  have hid2 : id ≤ 9999 := by omega
  have hnot : findP id L 0 = none := findP_not (by rw [hids, hid]; exact idsR_not _ _)
  obtain ⟨c1, hX1⟩ := hS.st
  have HI := hide hid
  clear hid
  have hfv : ∀ i, i < len → valR k round i = valR k round i := fun _ _ => rfl
  repeat (first|refine rA ?_|refine rB ?_|refine rC ?_|refine rD ?_|(refine rR ?_;simp only [tO, Nat.reduceAdd])|refine rE ?_|(refine rO goodFG rfl ?_;intro _ hu_ K_ hK_;go_simp;(try rw [wI _]);(try rw [wU _]);refine hK_ _ ?_;clear hK_ K_ hu_;simp only [sS, sN])|(refine rP rfl ?_;simp only [sS, sN])|(refine rP2 rfl ?_;simp only [sS, sN]))
  (refine reach_callR rfl (by first | rfl | simp [Region.wanted, yielded, TA_get, *]) rfl Tryd.func12 (by kernel_rfl) rfl (by simp [Act.eval, *]; try rfl) (put_r id len len (some ⟨V, 0, none⟩) (valR k round) hid1 hid2 (by omega) hval (hS.slice hfv) hS.glob (by omega) b1 n14 n18 (by omega) hX1 (.inl (by have := HL.out; omega))) ?_)
  rintro _ S1 w1 _ ⟨rfl, hK1, c2, L1, hX2, hP1⟩
  simp only [stO_some]
  have hS1 := hS.own hK1 ⟨c2, hX2⟩
  have hids1 : L1.map (·.id) = idsR round (k + 1) := by
    rw [hP1.ids, hnot, hids, idsR_succ, HI.out]
    rfl
  have HL1 : Hid (L1.length = k + 1) := by
    have := congrArg List.length hids1
    rw [List.length_map, idsR_len] at this
    exact hide this
  have hin1 : id ∈ L1.map (·.id) := by
    obtain ⟨e', he', h1, _⟩ := hP1.has
    exact List.mem_map.2 ⟨e', he', h1⟩
  obtain ⟨n1, e1, hq1, _, _⟩ := findP_in hin1
  repeat (first|refine rA ?_|refine rB ?_|refine rC ?_|refine rD ?_|(refine rR ?_;simp only [tO, Nat.reduceAdd])|refine rE ?_|(refine rO goodFG rfl ?_;intro _ hu_ K_ hK_;go_simp;(try rw [wI _]);(try rw [wU _]);refine hK_ _ ?_;clear hK_ K_ hu_;simp only [sS, sN])|(refine rP rfl ?_;simp only [sS, sN])|(refine rP2 rfl ?_;simp only [sS, sN]))
  (refine reach_callR rfl (by first | rfl | simp [Region.wanted, yielded, TA_get, *]) rfl Tryd.func12 (by kernel_rfl) rfl (by simp [Act.eval, *]; try rfl) (put_r id len len (some ⟨V, 0, none⟩) (valR k round) hid1 hid2 (by omega) hval (hS1.slice hfv) hS1.glob (by omega) b1 n14 n18 (by omega) hX2 (.inr ⟨by have := HL1.out; omega, _, hq1⟩)) ?_)
  rintro _ S2 w2 _ ⟨rfl, hK2, c3, L2, hX3, hP2⟩
  simp only [stO_some]
  have hS2 := hS1.own hK2 ⟨c3, hX3⟩
  have hids2 : L2.map (·.id) = idsR round (k + 1) := by
    rw [hP2.ids, hq1, hids1]
    rfl
  obtain ⟨e2, he2, hei, hes, hev⟩ := hP2.has
  obtain ⟨n3, e3, hq3, he3, hei3⟩ := findP_in (List.mem_map.2 ⟨e2, he2, hei⟩ : id ∈ L2.map (·.id))
  obtain rfl : e3 = e2 := nodup_inj hX3.ids he3 he2 (hei3.trans hei.symm)
  have HE1 := hide hes
  have HE2 := hide hev
  clear hes hev hei hei3
  repeat (first|refine rA ?_|refine rB ?_|refine rC ?_|refine rD ?_|(refine rR ?_;simp only [tO, Nat.reduceAdd])|refine rE ?_|(refine rO goodFG rfl ?_;intro _ hu_ K_ hK_;go_simp;(try rw [wI _]);(try rw [wU _]);refine hK_ _ ?_;clear hK_ K_ hu_;simp only [sS, sN])|(refine rP rfl ?_;simp only [sS, sN])|(refine rP2 rfl ?_;simp only [sS, sN]))
  (refine reach_callR rfl (by first | rfl | simp [Region.wanted, yielded, TA_get, *]) rfl Tryd.func13 (by kernel_rfl) rfl (by simp [Act.eval, *]; try rfl) (get_r id n3 e3 hq3 hid1 hid2 hS2.glob (by omega) n14 n18 (by omega) hX3) ?_)
  rintro _ S3 w4 _ ⟨hK3, BV, rfl, hBV, hrow⟩
  rw [HE1.out, HE2.out] at hrow
  rw [HE1.out]
  simp only [stO_some]
  have hS3 := hS2.nop hK3
  repeat (first|refine rA ?_|refine rB ?_|refine rC ?_|refine rD ?_|(refine rR ?_;simp only [tO, Nat.reduceAdd])|refine rE ?_|(refine rO goodFG rfl ?_;intro _ hu_ K_ hK_;go_simp;(try rw [wI _]);(try rw [wU _]);refine hK_ _ ?_;clear hK_ K_ hu_;simp only [sS, sN])|(refine rP rfl ?_;simp only [sS, sN])|(refine rP2 rfl ?_;simp only [sS, sN]))
  (refine reach_callR rfl (by first | rfl | simp [Region.wanted, yielded, TA_get, *]) rfl Tryd.func14 (by kernel_rfl) rfl (by simp [Act.eval, *]; try rfl) (sameK_r (some ⟨BV, 0, none⟩) (some ⟨V, 0, none⟩) len len len (valR k round) (valR k round) (by omega) (.inr ⟨BV, 0, rfl, Nat.le_refl _, fun i hi => by rw [Nat.zero_add, cell_of_row _ _ _ _ _ _ hrow, bytesA_get _ _ _ hi]⟩) (hS3.slice hfv) fun _ _ => rfl) ?_)
  rintro _ S4 w5 _ ⟨rfl, e4, e5⟩
  subst S4 w5
  simp only [stO_some]
  repeat (first|refine rA ?_|refine rB ?_|refine rC ?_|refine rD ?_|(refine rR ?_;simp only [tO, Nat.reduceAdd])|refine rE ?_|(refine rO goodFG rfl ?_;intro _ hu_ K_ hK_;go_simp;(try rw [wI _]);(try rw [wU _]);refine hK_ _ ?_;clear hK_ K_ hu_;simp only [sS, sN])|(refine rP rfl ?_;simp only [sS, sN])|(refine rP2 rfl ?_;simp only [sS, sN]))
  (refine reach_cond (t := false) (by simp [Act.eval]) ?_; simp only [if_true, if_false, reduceIte, Bool.false_eq_true])
  repeat (first|refine rA ?_|refine rB ?_|refine rC ?_|refine rD ?_|(refine rR ?_;simp only [tO, Nat.reduceAdd])|refine rE ?_|(refine rO goodFG rfl ?_;intro _ hu_ K_ hK_;go_simp;(try rw [wI _]);(try rw [wU _]);refine hK_ _ ?_;clear hK_ K_ hu_;simp only [sS, sN])|(refine rP rfl ?_;simp only [sS, sN])|(refine rP2 rfl ?_;simp only [sS, sN]))
  exact next _ _ _ L2 _ hids2 hS3 ⟨by simp [f3], by simp [f9], by simp [f10], by simp [f11], by simp [f12]⟩ (by simp [f13])
set_option maxRecDepth 100000 in
set_option maxHeartbeats 8000000 in
/-- A value is taken away, and not told any more. -/
theorem room_del {n' g' i id : Nat} {h' : Nat → Hl} (b13 : nb ≤ 13) (n14 : 14 ≤ nd) (n18 : nd ≤ 18) (hin : i < n') (hn' : n' ≤ 12) (hidh : (h' i).id = id) {rem : List Nat} (hp : (L.map (·.id)).Perm (id :: rem)) (hS : RS v X D DB DA M RB RA nd nb V len turn L x w) (hrow : w.heap[g']? = some (.cells (hA n' h') 41)) (hF : RF f X nb V len more round) (f20 : f 20 = .slice (some ⟨g', 0, none⟩) n' n') (f21 : f 21 = .int .i64 (i : Nat))
    (next : ∀ f' w' L', (L'.map (·.id)).Perm rem → RS v X D DB DA M RB RA nd nb V len turn L' x w' → w'.heap[g']? = some (.cells (hA n' h') 41) → RF f' X nb V len more round → f' 20 = .slice (some ⟨g', 0, none⟩) n' n' → f' 21 = .int .i64 (i : Nat) → Vw.Reach Tryd.prog Stop (G ((base 4).at ⟨TA 147 f', []⟩ (K)) cs) S w') :
    Vw.Reach Tryd.prog Stop (G ((base 4).at ⟨TA 147 f, []⟩ (.code ((blockAt 7 (Tryd.f4.body.getD .skip)).getD .skip) :: K)) cs) S w := by
  have e : blockAt 7 (Tryd.f4.body.getD .skip) = some _ := rfl
  rw [e]
  simp only [Option.getD_some]
  clear e
  obtain ⟨f3, f9, f10, f11, f12⟩ := hF
  have hinI : (i : Int) < (n' : Int) := by omega
  obtain ⟨c1, hX1⟩ := hS.st
  have ci : w.cell? ⟨g', i * 3, none⟩ = some (.int .i64 (id : Nat)) := by
    rw [cell_of_row _ _ _ _ _ _ hrow, hA_get (by omega), show i * 3 / 3 = i by omega, show i * 3 % 3 = 0 by omega, ← hidh]
    rfl
  clear hidh
  obtain ⟨n1, e1, hq1, he1, hei1⟩ := findP_in (hp.mem_iff.2 (List.mem_cons_self ..))
  have HE1 := hide hei1
  clear hei1
  have hid1 : 1 ≤ id := by have := (hX1.ent e1 he1).id1; have := HE1.out; omega
  have hid2 : id ≤ 9999 := by have := (hX1.ent e1 he1).id2; have := HE1.out; omega
  have hp1 : (id :: (delL L id).map (·.id)).Perm (id :: rem) := by
    have := ((delL_perm hq1).map (·.id)).symm.trans hp
    rw [List.map_cons, HE1.out] at this
    exact this
  have hp2 := hp1.cons_inv
  have hnot : findP id (delL L id) 0 = none := findP_not fun hm => by
    have := (((delL_perm hq1).map (·.id)).nodup_iff).1 hX1.ids
    rw [List.map_cons, List.nodup_cons, HE1.out] at this
    exact this.1 hm
  repeat (first|refine rA ?_|refine rB ?_|refine rC ?_|refine rD ?_|(refine rR ?_;simp only [tO, Nat.reduceAdd])|refine rE ?_|(refine rO goodFG rfl ?_;intro _ hu_ K_ hK_;(have hc := (Ext.twin hu_).cell ci);go_simp;(try rw [wI _]);(try rw [wU _]);refine hK_ _ ?_;clear hK_ K_ hu_;simp only [sS, sN])|(refine rP rfl ?_;simp only [sS, sN])|(refine rP2 rfl ?_;simp only [sS, sN]))
  (refine reach_callR rfl (by first | rfl | simp [Region.wanted, yielded, TA_get, *]) rfl Tryd.func15 (by kernel_rfl) rfl (by simp [Act.eval, *]; try rfl) (delete_r id n1 e1 hq1 hid1 hid2 n14 n18 (by omega) hX1) ?_)
  rintro _ S1 w1 _ ⟨rfl, e4, hK1, c2, hX2⟩
  subst S1
  simp only [stO_some]
  have hS2 := hS.own hK1 ⟨c2, hX2⟩
  have hrow1 := hK1.cells _ _ _ _ (hX1.noOwn hrow (by decide) (by decide) (by decide)) hrow
  have ci1 : w1.cell? ⟨g', i * 3, none⟩ = some (.int .i64 (id : Nat)) := by
    rw [cell_of_row _ _ _ _ _ _ hrow1, ← cell_of_row _ _ _ _ _ _ hrow]
    exact ci
  repeat (first|refine rA ?_|refine rB ?_|refine rC ?_|refine rD ?_|(refine rR ?_;simp only [tO, Nat.reduceAdd])|refine rE ?_|(refine rO goodFG rfl ?_;intro _ hu_ K_ hK_;(have hc := (Ext.twin hu_).cell ci1);go_simp;(try rw [wI _]);(try rw [wU _]);refine hK_ _ ?_;clear hK_ K_ hu_;simp only [sS, sN])|(refine rP rfl ?_;simp only [sS, sN])|(refine rP2 rfl ?_;simp only [sS, sN]))
  (refine reach_callR rfl (by first | rfl | simp [Region.wanted, yielded, TA_get, *]) rfl Tryd.func13 (by kernel_rfl) rfl (by simp [Act.eval, *]; try rfl) (getNone_r id hnot hid1 hid2 hX2) ?_)
  rintro _ S1 w2 _ ⟨e4, hE2, rfl⟩
  subst S1
  simp only [stO_some]
  repeat (first|refine rA ?_|refine rB ?_|refine rC ?_|refine rD ?_|(refine rR ?_;simp only [tO, Nat.reduceAdd])|refine rE ?_|(refine rO goodFG rfl ?_;intro _ hu_ K_ hK_;go_simp;(try rw [wI _]);(try rw [wU _]);refine hK_ _ ?_;clear hK_ K_ hu_;simp only [sS, sN])|(refine rP rfl ?_;simp only [sS, sN])|(refine rP2 rfl ?_;simp only [sS, sN]))
  (refine reach_cond (t := false) (by simp [Act.eval]) ?_; simp only [if_true, if_false, reduceIte, Bool.false_eq_true])
  repeat (first|refine rA ?_|refine rB ?_|refine rC ?_|refine rD ?_|(refine rR ?_;simp only [tO, Nat.reduceAdd])|refine rE ?_|(refine rO goodFG rfl ?_;intro _ hu_ K_ hK_;go_simp;(try rw [wI _]);(try rw [wU _]);refine hK_ _ ?_;clear hK_ K_ hu_;simp only [sS, sN])|(refine rP rfl ?_;simp only [sS, sN])|(refine rP2 rfl ?_;simp only [sS, sN]))
  exact next _ w2 (delL L id) hp2 (hS2.nop (kp_ext hE2)) (hE2.row hrow1) ⟨by simp [f3], by simp [f9], by simp [f10], by simp [f11], by simp [f12]⟩ (by simp [f20]) (by simp [f21])
end
set_option maxRecDepth 100000 in
set_option maxHeartbeats 8000000 in
theorem room_whole (n blocks size more : Int) (hn : -9223372036854775808 ≤ n ∧ n ≤ 9223372036854775807) (hb : -9223372036854775808 ≤ blocks ∧ blocks ≤ 9223372036854775807) (hs : -9223372036854775808 ≤ size ∧ size ≤ 9223372036854775807) (hm : -9223372036854775808 ≤ more ∧ more ≤ 9223372036854775807) (t : TypeId) (e : Value) (hg0 : v.cell? ⟨0, 0, none⟩ = some (.iface t e)) (hg : Tryd.prog.globals.size ≤ v.heap.size) :
    ∀ (Stop : Goroutine → (Nat → Prop) → World → Prop) (cs : List Frame), (∀ f' todo S' v', f' 8 = .bool true → Kp v (fun _ => False) v' → Vw.Reach Tryd.prog Stop (G { (base 4).at ⟨TA 147 f', []⟩ todo with mode := .returning } cs) S' v') →
      Vw.Reach Tryd.prog Stop (G ((base 4).at ⟨TA 147 (argF #[.int .i64 n, .int .i64 blocks, .int .i64 size, .int .i64 more]), []⟩ [.code (Tryd.f4.body.getD .skip)]) cs) S v := by
  intro Stop cs ret
  simp only [Tryd.f4, Option.getD_some]
  have g0 : argF #[.int .i64 n, .int .i64 blocks, .int .i64 size, .int .i64 more] 0 = .int .i64 n := rfl
  have g1 : argF #[.int .i64 n, .int .i64 blocks, .int .i64 size, .int .i64 more] 1 = .int .i64 blocks := rfl
  have g2 : argF #[.int .i64 n, .int .i64 blocks, .int .i64 size, .int .i64 more] 2 = .int .i64 size := rfl
  have g3 : argF #[.int .i64 n, .int .i64 blocks, .int .i64 size, .int .i64 more] 3 = .int .i64 more := rfl
  generalize argF #[.int .i64 n, .int .i64 blocks, .int .i64 size, .int .i64 more] = f at g0 g1 g2 g3
  have l1 := pickN_lt blocks (n := 10) (by omega)
  have l2 := pickN_lt n (n := 5) (by omega)
  have l3 := pickN_lt size (n := 401) (by omega)
  have l4 := pickN_lt more (n := 3) (by omega)
  obtain ⟨nb, hnb⟩ : ∃ nb : Nat, (4 : Int) + (pickN blocks 10 : Nat) = (nb : Nat) := ⟨4 + pickN blocks 10, by omega⟩
  obtain ⟨nd, hnd⟩ : ∃ nd : Nat, (14 : Int) + (pickN n 5 : Nat) = (nd : Nat) := ⟨14 + pickN n 5, by omega⟩
  obtain ⟨R, hR⟩ : ∃ R : Nat, (2 : Int) + (pickN more 3 : Nat) = (R : Nat) := ⟨2 + pickN more 3, by omega⟩
  obtain ⟨b2, hb2⟩ : ∃ b2 : Nat, (nb : Int) - 2 = (b2 : Nat) := ⟨nb - 2, by omega⟩
  have b1 : 4 ≤ nb := by omega
  have b13 : nb ≤ 13 := by omega
  have n14 : 14 ≤ nd := by omega
  have n18 : nd ≤ 18 := by omega
  have hb2n : b2 = nb - 2 := by omega
  have HB := hide hb2n
  clear hb2n
  have r4 : R ≤ 4 := by omega
  repeat (first|refine rA ?_|refine rB ?_|refine rC ?_|refine rD ?_|(refine rR ?_;simp only [tO, Nat.reduceAdd])|refine rE ?_|(refine rO goodFG rfl ?_;intro _ hu_ K_ hK_;go_simp;(try rw [wI _]);(try rw [wU _]);refine hK_ _ ?_;clear hK_ K_ hu_;simp only [sS, sN])|(refine rP rfl ?_;simp only [sS, sN])|(refine rP2 rfl ?_;simp only [sS, sN]))
  (refine reach_callR rfl (by first | rfl | simp [Region.wanted, yielded, TA_get, *]) rfl Tryd.func9 (by kernel_rfl) rfl (by simp [Act.eval, *]; try rfl) (pickK_r blocks 10 (by omega) (by omega) hb.1 hb.2) ?_)
  rintro _ S1 w1 _ ⟨rfl, e1, e2⟩
  subst S1 w1
  simp only [stO_some]
  repeat (first|refine rA ?_|refine rB ?_|refine rC ?_|refine rD ?_|(refine rR ?_;simp only [tO, Nat.reduceAdd])|refine rE ?_|(refine rO goodFG rfl ?_;intro _ hu_ K_ hK_;go_simp;(try rw [wI _]);(try rw [wU _]);refine hK_ _ ?_;clear hK_ K_ hu_;simp only [sS, sN])|(refine rP rfl ?_;simp only [sS, sN])|(refine rP2 rfl ?_;simp only [sS, sN]))
  (refine reach_callR rfl (by first | rfl | simp [Region.wanted, yielded, TA_get, *]) rfl Tryd.func9 (by kernel_rfl) rfl (by simp [Act.eval, *]; try rfl) (pickK_r n 5 (by omega) (by omega) hn.1 hn.2) ?_)
  rintro _ S1 w1 _ ⟨rfl, e1, e2⟩
  subst S1 w1
  simp only [stO_some]
  repeat (first|refine rA ?_|refine rB ?_|refine rC ?_|refine rD ?_|(refine rR ?_;simp only [tO, Nat.reduceAdd])|refine rE ?_|(refine rO goodFG rfl ?_;intro _ hu_ K_ hK_;go_simp;(try rw [wI _]);(try rw [wU _]);refine hK_ _ ?_;clear hK_ K_ hu_;simp only [sS, sN])|(refine rP rfl ?_;simp only [sS, sN])|(refine rP2 rfl ?_;simp only [sS, sN]))
  (refine reach_callR rfl (by first | rfl | simp [Region.wanted, yielded, TA_get, *]) rfl Tryd.func11 (by kernel_rfl) rfl (by simp [Act.eval, *]; try rfl) (blankK_r nd nb n14 n18 b1 b13) ?_)
  rintro _ S1 w1 _ ⟨e1, hE1, g, cg, rfl, hz⟩
  subst S1
  simp only [stO_some]
  repeat (first|refine rA ?_|refine rB ?_|refine rC ?_|refine rD ?_|(refine rR ?_;simp only [tO, Nat.reduceAdd])|refine rE ?_|(refine rO goodFG rfl ?_;intro _ hu_ K_ hK_;go_simp;(try rw [wI _]);(try rw [wU _]);refine hK_ _ ?_;clear hK_ K_ hu_;simp only [sS, sN])|(refine rP rfl ?_;simp only [sS, sN])|(refine rP2 rfl ?_;simp only [sS, sN]))
  (refine reach_callR rfl (by first | rfl | simp [Region.wanted, yielded, TA_get, *]) rfl Tryd.func10 (by kernel_rfl) rfl (by simp [Act.eval, *]; try rfl) (mounted_r t e (hE1.cell hg0) nd nb g cg n14 n18 b1 b13 hz) ?_)
  rintro _ S1 w2 _ ⟨e1, hE2, X, D, DB, DA, M, RB, RA, rfl, hX2, hnew⟩
  subst S1
  simp only [stO_some]
  repeat (first|refine rA ?_|refine rB ?_|refine rC ?_|refine rD ?_|(refine rR ?_;simp only [tO, Nat.reduceAdd])|refine rE ?_|(refine rO goodFG rfl ?_;intro _ hu_ K_ hK_;go_simp;(try rw [wI _]);(try rw [wU _]);refine hK_ _ ?_;clear hK_ K_ hu_;simp only [sS, sN])|(refine rP rfl ?_;simp only [sS, sN])|(refine rP2 rfl ?_;simp only [sS, sN]))
  (refine reach_cond (t := false) (by simp [Act.eval]) ?_; simp only [if_true, if_false, reduceIte, Bool.false_eq_true])
  repeat (first|refine rA ?_|refine rB ?_|refine rC ?_|refine rD ?_|(refine rR ?_;simp only [tO, Nat.reduceAdd])|refine rE ?_|(refine rO goodFG rfl ?_;intro _ hu_ K_ hK_;go_simp;(try rw [wI _]);(try rw [wU _]);refine hK_ _ ?_;clear hK_ K_ hu_;simp only [sS, sN])|(refine rP rfl ?_;simp only [sS, sN])|(refine rP2 rfl ?_;simp only [sS, sN]))
  (refine reach_callR rfl (by first | rfl | simp [Region.wanted, yielded, TA_get, *]) rfl Tryd.func9 (by kernel_rfl) rfl (by simp [Act.eval, *]; try rfl) (pickK_r size 401 (by omega) (by omega) hs.1 hs.2) ?_)
  rintro _ S1 w3 _ ⟨rfl, e1, e2⟩
  subst S1 w3
  simp only [stO_some]
  generalize pickN size 401 = len at *
  refine reach_makeBytes goodFG rfl rfl (by kernel_rfl) rfl (m := len) (by simp) (by simp) (by omega) (by kernel_rfl) Tryd.underlying25 fun w3 hE3 hr3 hs3 => ?_
  simp only [stO_some]
  have hRS0 : RS v X D DB DA M RB RA nd nb w2.heap.size len 0 [] (fun _ => 0) w3 := ⟨(Kp.refl v _).ext (hE1.trans _ _ _ (hE2.trans _ _ _ hE3)), ⟨_, hX2.ext hE3⟩, hr3, Nat.le_trans hg (Nat.le_trans hE1.size (Nat.le_trans hE2.size hE3.size))⟩
  have hVn : v.heap.size ≤ w2.heap.size := Nat.le_trans hE1.size hE2.size
  have hOn : ∀ b, SOwn X D M RB RA nd b → v.heap.size ≤ b := fun b q => Nat.le_trans hE1.size (hnew b q)
  clear hX2 hnew hz hr3 hs3
  generalize w2.heap.size = V at *
  repeat (first|refine rA ?_|refine rB ?_|refine rC ?_|refine rD ?_|(refine rR ?_;simp only [tO, Nat.reduceAdd])|refine rE ?_|(refine rO goodFG rfl ?_;intro _ hu_ K_ hK_;go_simp;(try rw [wI _]);(try rw [wU _]);refine hK_ _ ?_;clear hK_ K_ hu_;simp only [sS, sN])|(refine rP rfl ?_;simp only [sS, sN])|(refine rP2 rfl ?_;simp only [sS, sN]))
  refine reach_rounds (fun d f' S' w => ∃ round turn x, d = R - round ∧ round ≤ R ∧ turn ≤ 22 * round ∧ RS v X D DB DA M RB RA nd nb V len turn [] x w ∧ RF f' X nb V len more round) R ⟨0, 0, _, by omega, by omega, by omega, hRS0, by simp [g3], by simp, by simp, by simp, by simp⟩ ?_
  clear g0 g1 g2 g3 f hRS0 hE1 hE2 hE3
  rintro d f S' w ⟨round, turn, x, rfl, hro, htu, hS, hF⟩ nxt
  obtain ⟨f3, f9, f10, f11, f12⟩ := hF
  repeat (first|refine rA ?_|refine rB ?_|refine rC ?_|refine rD ?_|(refine rR ?_;simp only [tO, Nat.reduceAdd])|refine rE ?_|(refine rO goodFG rfl ?_;intro _ hu_ K_ hK_;go_simp;(try rw [wI _]);(try rw [wU _]);refine hK_ _ ?_;clear hK_ K_ hu_;simp only [sS, sN])|(refine rP rfl ?_;simp only [sS, sN])|(refine rP2 rfl ?_;simp only [sS, sN]))
  (refine reach_callR rfl (by first | rfl | simp [Region.wanted, yielded, TA_get, *]) rfl Tryd.func9 (by kernel_rfl) rfl (by simp [Act.eval, *]; try rfl) (pickK_r more 3 (by omega) (by omega) hm.1 hm.2) ?_)
  rintro _ S1 w1 _ ⟨rfl, e1, e2⟩
  subst S1 w1
  simp only [stO_some]
  repeat (first|refine rA ?_|refine rB ?_|refine rC ?_|refine rD ?_|(refine rR ?_;simp only [tO, Nat.reduceAdd])|refine rE ?_|(refine rO goodFG rfl ?_;intro _ hu_ K_ hK_;go_simp;(try rw [wI _]);(try rw [wU _]);refine hK_ _ ?_;clear hK_ K_ hu_;simp only [sS, sN])|(refine rP rfl ?_;simp only [sS, sN])|(refine rP2 rfl ?_;simp only [sS, sN]))
  by_cases hlt : round < R
  · have hltI : (round : Int) < (R : Int) := by omega
    (refine reach_cond (t := true) (by simp [Act.eval, hlt]) ?_; simp only [if_true, if_false, reduceIte, Bool.false_eq_true])
    repeat (first|refine rA ?_|refine rB ?_|refine rC ?_|refine rD ?_|(refine rR ?_;simp only [tO, Nat.reduceAdd])|refine rE ?_|(refine rO goodFG rfl ?_;intro _ hu_ K_ hK_;go_simp;(try rw [wI _]);(try rw [wU _]);refine hK_ _ ?_;clear hK_ K_ hu_;simp only [sS, sN])|(refine rP rfl ?_;simp only [sS, sN])|(refine rP2 rfl ?_;simp only [sS, sN]))
    refine reach_rounds (fun d f' S' w => ∃ k turn' L x, d = b2 - k ∧ k ≤ b2 ∧ turn' ≤ 22 * round + 2 * k ∧ L.map (·.id) = idsR round k ∧ RS v X D DB DA M RB RA nd nb V len turn' L x w ∧ RF f' X nb V len more round ∧ f' 13 = .int .i64 (k : Nat)) b2 ⟨0, turn, [], x, by omega, by omega, by omega, rfl, hS, ⟨by simp [f3], by simp [f9], by simp [f10], by simp [f11], by simp [f12]⟩, by simp⟩ ?_
    clear f3 f9 f10 f11 f12 f hS x
    rintro d f S' w ⟨k, turn', L, x, rfl, hk, htu', hids, hS, hF, f13⟩ nxt2
    obtain ⟨f3, f9, f10, f11, f12⟩ := hF
    have hLlen : L.length = k := by
      have := congrArg List.length hids
      rw [List.length_map, idsR_len] at this
      exact this
    have hb11 : b2 ≤ 11 := by have := HB.out; omega
    repeat (first|refine rA ?_|refine rB ?_|refine rC ?_|refine rD ?_|(refine rR ?_;simp only [tO, Nat.reduceAdd])|refine rE ?_|(refine rO goodFG rfl ?_;intro _ hu_ K_ hK_;go_simp;(try rw [wI _]);(try rw [wU _]);refine hK_ _ ?_;clear hK_ K_ hu_;simp only [sS, sN])|(refine rP rfl ?_;simp only [sS, sN])|(refine rP2 rfl ?_;simp only [sS, sN]))
    by_cases hkb : k < b2
    · have hkI : (k : Int) < (b2 : Int) := by omega
      (refine reach_cond (t := true) (by simp [Act.eval, hkb]) ?_; simp only [if_true, if_false, reduceIte, Bool.false_eq_true])
      refine reach_skip ?_
      refine reach_seq ?_
      refine room_put (more := more) (round := round) (k := k) (V := V) (len := len) (X := X) (nb := nb) (by omega) (by have := HB.out; omega) b1 b13 n14 n18 (by omega) (by omega) hids hS ⟨by simp [f3], by simp [f9], by simp [f10], by simp [f11], by simp [f12]⟩ (by simp [f13]) fun f1 S1 w1 L1 x1 hids1 hS1 hF1 k13 => ?_
      obtain ⟨k3, k9, k10, k11, k12⟩ := hF1
      repeat (first|refine rA ?_|refine rB ?_|refine rC ?_|refine rD ?_|(refine rR ?_;simp only [tO, Nat.reduceAdd])|refine rE ?_|(refine rO goodFG rfl ?_;intro _ hu_ K_ hK_;go_simp;(try rw [wI _]);(try rw [wU _]);refine hK_ _ ?_;clear hK_ K_ hu_;simp only [sS, sN])|(refine rP rfl ?_;simp only [sS, sN])|(refine rP2 rfl ?_;simp only [sS, sN]))
      refine nxt2 _ _ _ (b2 - (k + 1)) (by omega) ⟨k + 1, _, L1, _, rfl, by omega, by omega, hids1, hS1, ⟨by simp [k3], by simp [k9], by simp [k10], by simp [k11], by simp [k12]⟩, by simp⟩
    · obtain rfl : k = b2 := by omega
      (refine reach_cond (t := false) (by simp [Act.eval]) ?_; simp only [if_true, if_false, reduceIte, Bool.false_eq_true])
      refine reach_exit rfl ?_
      obtain ⟨c, hX⟩ := hS.st
      repeat (first|refine rA ?_|refine rB ?_|refine rC ?_|refine rD ?_|(refine rR ?_;simp only [tO, Nat.reduceAdd])|refine rE ?_|(refine rO goodFG rfl ?_;intro _ hu_ K_ hK_;go_simp;(try rw [wI _]);(try rw [wU _]);refine hK_ _ ?_;clear hK_ K_ hu_;simp only [sS, sN])|(refine rP rfl ?_;simp only [sS, sN])|(refine rP2 rfl ?_;simp only [sS, sN]))
      (refine reach_callR rfl (by first | rfl | simp [Region.wanted, yielded, TA_get, *]) rfl Tryd.func8 (by kernel_rfl) rfl (by simp [Act.eval, *]; try rfl) (listG_r (by omega) hX) ?_)
      rintro _ S1 w1 _ ⟨e1, n', g', h', rfl, hL⟩
      subst S1
      simp only [stO_some]
      have hS1 := hS.nop hL.kp
      have hn' : n' ≤ 11 := by have := hL.len.trans hLlen; omega
      have hp0 : (L.map (·.id)).Perm (remH h' n' 0) := by
        rw [remH_zero]
        have := hL.perm.symm.map (·.id)
        rwa [List.map_map] at this
      repeat (first|refine rA ?_|refine rB ?_|refine rC ?_|refine rD ?_|(refine rR ?_;simp only [tO, Nat.reduceAdd])|refine rE ?_|(refine rO goodFG rfl ?_;intro _ hu_ K_ hK_;go_simp;(try rw [wI _]);(try rw [wU _]);refine hK_ _ ?_;clear hK_ K_ hu_;simp only [sS, sN])|(refine rP rfl ?_;simp only [sS, sN])|(refine rP2 rfl ?_;simp only [sS, sN]))
      refine reach_rounds (fun d f' S'' w => ∃ i L, d = n' - i ∧ i ≤ n' ∧ (L.map (·.id)).Perm (remH h' n' i) ∧ RS v X D DB DA M RB RA nd nb V len turn' L x w ∧ w.heap[g']? = some (.cells (hA n' h') 41) ∧ RF f' X nb V len more round ∧ f' 20 = .slice (some ⟨g', 0, none⟩) n' n' ∧ f' 21 = .int .i64 (i : Nat)) n' ⟨0, L, by omega, by omega, hp0, hS1, hL.row, ⟨by simp [f3], by simp [f9], by simp [f10], by simp [f11], by simp [f12]⟩, by simp, by simp⟩ ?_
      clear f3 f9 f10 f11 f12 f13 f hS hS1 hX hids hLlen hp0 hL
      rintro d f S'' w ⟨i, L, rfl, hi, hp, hS, hrow, hF, f20, f21⟩ nxt3
      obtain ⟨f3, f9, f10, f11, f12⟩ := hF
      repeat (first|refine rA ?_|refine rB ?_|refine rC ?_|refine rD ?_|(refine rR ?_;simp only [tO, Nat.reduceAdd])|refine rE ?_|(refine rO goodFG rfl ?_;intro _ hu_ K_ hK_;go_simp;(try rw [wI _]);(try rw [wU _]);refine hK_ _ ?_;clear hK_ K_ hu_;simp only [sS, sN])|(refine rP rfl ?_;simp only [sS, sN])|(refine rP2 rfl ?_;simp only [sS, sN]))
      by_cases hin : i < n'
      · have hinI : (i : Int) < (n' : Int) := by omega
        rw [remH_cons hin] at hp
        (refine reach_cond (t := true) (by simp [Act.eval, hin]) ?_; simp only [if_true, if_false, reduceIte, Bool.false_eq_true])
        refine reach_skip ?_
        refine reach_seq ?_
        refine room_del (more := more) (round := round) (i := i) (n' := n') (V := V) (len := len) (X := X) (nb := nb) b13 n14 n18 hin (by omega) rfl hp hS hrow ⟨by simp [f3], by simp [f9], by simp [f10], by simp [f11], by simp [f12]⟩ (by simp [f20]) (by simp [f21]) fun f1 w1 L1 hp1 hS1 hrow1 hF1 k20 k21 => ?_
        obtain ⟨k3, k9, k10, k11, k12⟩ := hF1
        repeat (first|refine rA ?_|refine rB ?_|refine rC ?_|refine rD ?_|(refine rR ?_;simp only [tO, Nat.reduceAdd])|refine rE ?_|(refine rO goodFG rfl ?_;intro _ hu_ K_ hK_;go_simp;(try rw [wI _]);(try rw [wU _]);refine hK_ _ ?_;clear hK_ K_ hu_;simp only [sS, sN])|(refine rP rfl ?_;simp only [sS, sN])|(refine rP2 rfl ?_;simp only [sS, sN]))
        refine nxt3 _ _ _ (n' - (i + 1)) (by omega) ⟨i + 1, L1, rfl, by omega, hp1, hS1, hrow1, ⟨by simp [k3], by simp [k9], by simp [k10], by simp [k11], by simp [k12]⟩, by simp [k20], by simp⟩
      · obtain rfl : i = n' := by omega
        have hL0 : L = [] := by
          have h1 := hp.length_eq
          rw [List.length_map] at h1
          have h2 : (remH h' i i).length = 0 := by simp [remH]
          exact List.eq_nil_of_length_eq_zero (h1.trans h2)
        subst hL0
        (refine reach_cond (t := false) (by simp [Act.eval]) ?_; simp only [if_true, if_false, reduceIte, Bool.false_eq_true])
        refine reach_exit rfl ?_
        repeat (first|refine rA ?_|refine rB ?_|refine rC ?_|refine rD ?_|(refine rR ?_;simp only [tO, Nat.reduceAdd])|refine rE ?_|(refine rO goodFG rfl ?_;intro _ hu_ K_ hK_;go_simp;(try rw [wI _]);(try rw [wU _]);refine hK_ _ ?_;clear hK_ K_ hu_;simp only [sS, sN])|(refine rP rfl ?_;simp only [sS, sN])|(refine rP2 rfl ?_;simp only [sS, sN]))
        refine nxt _ _ _ (R - (round + 1)) (by omega) ⟨round + 1, turn', x, rfl, by omega, by omega, hS, by simp [f3], by simp [f9], by simp [f10], by simp [f11], by simp⟩
  · have hge : R ≤ round := by omega
    (refine reach_cond (t := false) (by simp [Act.eval, hge]) ?_; simp only [if_true, if_false, reduceIte, Bool.false_eq_true])
    refine reach_exit rfl ?_
    obtain ⟨c, hX⟩ := hS.st
    repeat (first|refine rA ?_|refine rB ?_|refine rC ?_|refine rD ?_|(refine rR ?_;simp only [tO, Nat.reduceAdd])|refine rE ?_|(refine rO goodFG rfl ?_;intro _ hu_ K_ hK_;go_simp;(try rw [wI _]);(try rw [wU _]);refine hK_ _ ?_;clear hK_ K_ hu_;simp only [sS, sN])|(refine rP rfl ?_;simp only [sS, sN])|(refine rP2 rfl ?_;simp only [sS, sN]))
    (refine reach_callR rfl (by first | rfl | simp [Region.wanted, yielded, TA_get, *]) rfl Tryd.func8 (by kernel_rfl) rfl (by simp [Act.eval, *]; try rfl) (listG_r (by simp) hX) ?_)
    rintro _ S1 w1 _ ⟨e1, n', g', h', rfl, hL⟩
    subst S1
    have hn0 : n' = 0 := hL.len
    subst hn0
    simp only [stO_some]
    repeat (first|refine rA ?_|refine rB ?_|refine rC ?_|refine rD ?_|(refine rR ?_;simp only [tO, Nat.reduceAdd])|refine rE ?_|(refine rO goodFG rfl ?_;intro _ hu_ K_ hK_;go_simp;(try rw [wI _]);(try rw [wU _]);refine hK_ _ ?_;clear hK_ K_ hu_;simp only [sS, sN])|(refine rP rfl ?_;simp only [sS, sN])|(refine rP2 rfl ?_;simp only [sS, sN]))
    refine reach_ret fun todo => ?_
    refine ret _ _ S' w1 ?_ (kp_drop (hS.nop hL.kp).kp fun b q => ?_)
    · simp
    · rcases q with q | rfl
      · exact hOn b q
      · exact hVn
end
end Go.Proofs.YtpiefebngnlfoaaDoor
