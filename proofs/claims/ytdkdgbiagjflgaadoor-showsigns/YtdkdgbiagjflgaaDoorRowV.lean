/- Rows of expressions that a call itself makes by append. -/
import Derived.Test.YtdkdgbiagjflgaaDoorRexC
import Derived.OwnWalk
namespace Go.Proofs.YtdkdgbiagjflgaaDoor
open Go.RowKit
theorem infoR : (Tryd.prog.info? 30).map (fun i => (i.zero, i.size, i.bytes)) = some (some (.agg #[.int .u8 0, .int .u64 0, .int .u64 0, .int .u64 0, .int .u64 0, .slice none 0 0]), 6, 64) := by kernel_rfl
/-- Six values a node. -/
def RowVals (ok : Nat → Prop) (w : World) (xs : List Value) (l : List Rx) : Prop := xs.length = l.length * 6 ∧ ∀ i (h : i < l.length), ∃ c0 c1 c2 c3 c4 c5, (xs[i * 6]? = some c0 ∧ xs[i * 6 + 1]? = some c1 ∧ xs[i * 6 + 2]? = some c2 ∧ xs[i * 6 + 3]? = some c3 ∧ xs[i * 6 + 4]? = some c4 ∧ xs[i * 6 + 5]? = some c5) ∧ ReAt ok w (.agg #[c0, c1, c2, c3, c4, c5]) l[i]
theorem RowVals.nil (ok : Nat → Prop) (w : World) : RowVals ok w [] [] := ⟨rfl, fun _ h => absurd h (Nat.not_lt_zero _)⟩
theorem RowVals.go {ok ok' : Nat → Prop} {w w' : World} {xs : List Value} {l : List Rx} (h : RowVals ok w xs l) (hk : Kept ok ok' w w') : RowVals ok' w' xs l := by
  refine ⟨h.1, fun i hi => ?_⟩
  obtain ⟨c0, c1, c2, c3, c4, c5, hc, hr⟩ := h.2 i hi
  exact ⟨c0, c1, c2, c3, c4, c5, hc, hr.go hk⟩
theorem RowVals.append {ok : Nat → Prop} {w : World} {xs ys : List Value} {l m : List Rx} (h : RowVals ok w xs l) (h' : RowVals ok w ys m) : RowVals ok w (xs ++ ys) (l ++ m) := by
  refine ⟨by simp [h.1, h'.1]; omega, fun i hi => ?_⟩
  have hx := h.1
  have hy := h'.1
  by_cases e : i < l.length
  · obtain ⟨c0, c1, c2, c3, c4, c5, ⟨e0, e1, e2, e3, e4, e5⟩, hr⟩ := h.2 i e
    rw [List.getElem_append_left e]
    refine ⟨c0, c1, c2, c3, c4, c5, ⟨?_, ?_, ?_, ?_, ?_, ?_⟩, hr⟩ <;> (rw [List.getElem?_append_left (by omega)]; assumption)
  · have hi' : i - l.length < m.length := by simp at hi; omega
    obtain ⟨c0, c1, c2, c3, c4, c5, ⟨e0, e1, e2, e3, e4, e5⟩, hr⟩ := h'.2 (i - l.length) hi'
    rw [List.getElem_append_right (by omega)]
    refine ⟨c0, c1, c2, c3, c4, c5, ⟨?_, ?_, ?_, ?_, ?_, ?_⟩, hr⟩
    · rw [List.getElem?_append_right (by omega), show i * 6 - xs.length = (i - l.length) * 6 from by omega]; exact e0
    · rw [List.getElem?_append_right (by omega), show i * 6 + 1 - xs.length = (i - l.length) * 6 + 1 from by omega]; exact e1
    · rw [List.getElem?_append_right (by omega), show i * 6 + 2 - xs.length = (i - l.length) * 6 + 2 from by omega]; exact e2
    · rw [List.getElem?_append_right (by omega), show i * 6 + 3 - xs.length = (i - l.length) * 6 + 3 from by omega]; exact e3
    · rw [List.getElem?_append_right (by omega), show i * 6 + 4 - xs.length = (i - l.length) * 6 + 4 from by omega]; exact e4
    · rw [List.getElem?_append_right (by omega), show i * 6 + 5 - xs.length = (i - l.length) * 6 + 5 from by omega]; exact e5
theorem RowVals.one {ok : Nat → Prop} {w : World} {c0 c1 c2 c3 c4 c5 : Value} {r : Rx} (h : ReAt ok w (.agg #[c0, c1, c2, c3, c4, c5]) r) : RowVals ok w [c0, c1, c2, c3, c4, c5] [r] := by
  refine ⟨rfl, fun i hi => ?_⟩
  obtain rfl : i = 0 := by simpa using hi
  exact ⟨c0, c1, c2, c3, c4, c5, ⟨rfl, rfl, rfl, rfl, rfl, rfl⟩, h⟩
theorem row_of_own {ok : Nat → Prop} {w : World} {B : Nat} {v : Value} {xs : List Value} {l : List Rx} (h : w.ownsRow B 30 6 v l.length xs) (hv : RowVals ok w xs l) : ∃ al cap, v = .slice al l.length cap ∧ l.length ≤ cap ∧ RowAt (fun b => ok b ∨ B ≤ b) w al l := by
  obtain ⟨_, ⟨rfl, h0⟩ | ⟨g, cap, cur, rfl, hB, hg, hn, hm, hs, ht⟩⟩ := h
  · refine ⟨none, 0, by rw [h0], by omega, .inl (List.eq_nil_of_length_eq_zero h0)⟩
  · refine ⟨_, _, rfl, hn, .inr ⟨g, 0, rfl, (Array.getElem?_eq_some_iff.1 hg).1, .inr hB, nodesAt_of fun i hi => ?_⟩⟩
    obtain ⟨c0, c1, c2, c3, c4, c5, ⟨e0, e1, e2, e3, e4, e5⟩, hr⟩ := hv.2 i hi
    have cell : ∀ o x, o < l.length * 6 → xs[o]? = some x → w.cell? ⟨g, o, none⟩ = some x := by
      intro o x ho hx
      rw [← ht, List.getElem?_take, if_pos ho] at hx
      rw [Lib.cell_of_heap hg, ← Array.getElem?_toList]
      exact hx
    rw [show 0 + i * 6 = i * 6 from by omega]
    exact node_at (hr.imp fun _ _ h => .inl h) (cell _ _ (by omega) e0) (cell _ _ (by omega) e1) (cell _ _ (by omega) e2) (cell _ _ (by omega) e3) (cell _ _ (by omega) e4) (cell _ _ (by omega) e5)
theorem ownR_ge {w : World} {B : Nat} {v : Value} {n : Nat} {xs : List Value} (h : w.ownsRow B 30 6 v n xs) : ∀ g, v.ownBlock = some g → B ≤ g := by
  intro g hg
  obtain ⟨_, ⟨rfl, _⟩ | ⟨g', cap, cur, rfl, hB, _⟩⟩ := h
  · simp [Value.ownBlock] at hg
  · simp [Value.ownBlock] at hg; omega
theorem ownR_below {w w' : World} {B : Nat} {v : Value} {n : Nat} {xs : List Value} (h : w.ownsRow B 30 6 v n xs) (hb : Below w.heap.size w w') : w'.ownsRow B 30 6 v n xs := by
  obtain ⟨h1, h2⟩ := h
  refine ⟨h1, ?_⟩
  rcases h2 with h2 | ⟨g, cap, cur, rfl, hB, hg, hr⟩
  · exact .inl h2
  · exact .inr ⟨g, cap, cur, rfl, hB, (hb.block g (Array.getElem?_eq_some_iff.1 hg).1).trans hg, hr⟩
theorem six_cells (w : World) (c0 c1 c2 c3 c4 c5 : Value) : ∀ j u, [c0, c1, c2, c3, c4, c5][j]? = some u → (w.alloc (.cells #[c0, c1, c2, c3, c4, c5] 30)).cell? ((⟨w.heap.size, 0, none⟩ : Addr).add j) = some u := by
  intro j u h
  rw [Go.WideShapes.add_plain, Lib.cell_of_heap (blk_new w _)]
  simpa using h
def None : Nat → Prop := fun _ => False
theorem kept_none (w w' : World) (h : w.heap.size ≤ w'.heap.size) : Kept None None w w' := ⟨h, fun _ _ h => h.elim⟩
def Lo (B b : Nat) : Prop := b < B
theorem kept_lo {B : Nat} {w w' : World} (_hB : B ≤ w.heap.size) (h : Below B w w') : Kept (Lo B) (Lo B) w w' := ⟨h.size, fun b _ h2 => ⟨h2, h.block b h2⟩⟩
/-- The cells of nodes in a row. -/
theorem nodes_vals {ok : Nat → Prop} {w : World} {b : Nat} : ∀ (l : List Rx) (off : Nat), NodesAt ok w b off l → ∃ xs, RowVals ok w xs l ∧ (∀ j u, xs[j]? = some u → w.cell? ⟨b, off + j, none⟩ = some u) ∧ ∀ u ∈ xs, u.oneCell' = true
  | [], off, _ => ⟨[], RowVals.nil _ _, fun j u h => by simp at h, fun u h => by cases h⟩
  | .node k s ks :: rs, off, h => by
    unfold NodesAt at h
    obtain ⟨al, cap, ⟨c0, c1, c2, c3, c4, c5⟩, hre⟩ := h.1.read
    obtain ⟨xs, hv, hc, ho⟩ := nodes_vals rs (off + 6) h.2
    refine ⟨[.int .u8 k, .int .u64 s.a, .int .u64 s.b, .int .u64 s.c, .int .u64 s.d, .slice al ks.length cap] ++ xs, (RowVals.one hre).append hv, ?_, ?_⟩
    · intro j u hj
      match j, hj with
      | 0, hj => simp at hj; subst hj; exact c0
      | 1, hj => simp at hj; subst hj; exact c1
      | 2, hj => simp at hj; subst hj; exact c2
      | 3, hj => simp at hj; subst hj; exact c3
      | 4, hj => simp at hj; subst hj; exact c4
      | 5, hj => simp at hj; subst hj; exact c5
      | j + 6, hj =>
        rw [List.getElem?_append_right (by simp)] at hj
        have := hc j u (by simpa using hj)
        rw [show off + (j + 6) = off + 6 + j from by omega]; exact this
    · intro u hu
      simp only [List.cons_append, List.nil_append, List.mem_cons] at hu
      rcases hu with rfl | rfl | rfl | rfl | rfl | rfl | hu
      all_goals first | rfl | exact ho u hu
theorem own_nodes {ok : Nat → Prop} {w : World} {B : Nat} {v : Value} {xs : List Value} {l : List Rx} (h : w.ownsRow B 30 6 v l.length xs) (hv : RowVals ok w xs l) (hne : l ≠ []) : ∃ g cap, v = .slice (some ⟨g, 0, none⟩) l.length cap ∧ B ≤ g ∧ g < w.heap.size ∧ l.length ≤ cap ∧ NodesAt ok w g 0 l := by
  obtain ⟨_, ⟨rfl, h0⟩ | ⟨g, cap, cur, rfl, hB, hg, hn, hm, hs, ht⟩⟩ := h
  · exact absurd (List.eq_nil_of_length_eq_zero h0) hne
  · refine ⟨g, cap, rfl, hB, (Array.getElem?_eq_some_iff.1 hg).1, hn, nodesAt_of fun i hi => ?_⟩
    obtain ⟨c0, c1, c2, c3, c4, c5, ⟨e0, e1, e2, e3, e4, e5⟩, hr⟩ := hv.2 i hi
    have cell : ∀ o x, o < l.length * 6 → xs[o]? = some x → w.cell? ⟨g, o, none⟩ = some x := by
      intro o x ho hx
      rw [← ht, List.getElem?_take, if_pos ho] at hx
      rw [Lib.cell_of_heap hg, ← Array.getElem?_toList]
      exact hx
    rw [show 0 + i * 6 = i * 6 from by omega]
    exact node_at hr (cell _ _ (by omega) e0) (cell _ _ (by omega) e1) (cell _ _ (by omega) e2) (cell _ _ (by omega) e3) (cell _ _ (by omega) e4) (cell _ _ (by omega) e5)
end Go.Proofs.YtdkdgbiagjflgaaDoor
