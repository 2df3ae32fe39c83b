/- A block with room for expressions, six cells each: stores into it. -/
import Derived.Test.YtdkdgbiagjflgaaDoorRexE
import Derived.Test.YtdkdgbiagjflgaaDoorRowV
import Derived.Laws.MakeOwn
namespace Go.Proofs.YtdkdgbiagjflgaaDoor
open Go.RowKit
/-- A block of n cells. -/
def Room (w : World) (g n : Nat) : Prop := ∃ arr, w.heap[g]? = some (.cells arr 30) ∧ arr.size = n
theorem Room.lt {w : World} {g n : Nat} (h : Room w g n) : g < w.heap.size := by
  obtain ⟨arr, h, _⟩ := h
  exact (Array.getElem?_eq_some_iff.1 h).1
theorem Room.of {w w' : World} {g n : Nat} (h : Room w g n) (e : w'.heap[g]? = w.heap[g]?) : Room w' g n := by
  obtain ⟨arr, h, hs⟩ := h
  exact ⟨arr, e.trans h, hs⟩
theorem Room.cells {w : World} {g n : Nat} (h : Room w g n) (o : Nat) (ho : o < n) : (∃ v, w.cell? ⟨g, o, none⟩ = some v) ∧ w.frozen? ⟨g, o, none⟩ = false := by
  obtain ⟨arr, h, hs⟩ := h
  refine ⟨⟨arr[o]'(by omega), ?_⟩, Lib.frozen_of_heap h o⟩
  rw [Lib.cell_of_heap h]
  simp [hs, ho]
theorem setCell_at {w : World} {g : Nat} {arr : Array Value} (h : w.heap[g]? = some (.cells arr 30)) (o : Nat) (y : Value) : (w.setCell ⟨g, o, none⟩ y).heap[g]? = some (.cells (arr.setIfInBounds o y) 30) := by
  simp [World.setCell, Array.getElem?_modify, h]
def put6 (w : World) (g off : Nat) (y0 y1 y2 y3 y4 y5 : Value) : World := (((((w.setCell ⟨g, off, none⟩ y0).setCell ⟨g, off + 1, none⟩ y1).setCell ⟨g, off + 2, none⟩ y2).setCell ⟨g, off + 3, none⟩ y3).setCell ⟨g, off + 4, none⟩ y4).setCell ⟨g, off + 5, none⟩ y5
theorem put6_size (w : World) (g off : Nat) (y0 y1 y2 y3 y4 y5 : Value) : (put6 w g off y0 y1 y2 y3 y4 y5).heap.size = w.heap.size := by simp [put6, World.setCell]
theorem put6_other (w : World) (g off : Nat) (y0 y1 y2 y3 y4 y5 : Value) {b : Nat} (hb : b ≠ g) : (put6 w g off y0 y1 y2 y3 y4 y5).heap[b]? = w.heap[b]? := by
  unfold put6
  rw [Below.heap_setCell _ _ _ _ hb, Below.heap_setCell _ _ _ _ hb, Below.heap_setCell _ _ _ _ hb, Below.heap_setCell _ _ _ _ hb, Below.heap_setCell _ _ _ _ hb, Below.heap_setCell _ _ _ _ hb]
theorem put6_at {w : World} {g n off : Nat} (h : Room w g n) (ho : off + 6 ≤ n) (y0 y1 y2 y3 y4 y5 : Value) :
    Room (put6 w g off y0 y1 y2 y3 y4 y5) g n ∧
    ((put6 w g off y0 y1 y2 y3 y4 y5).cell? ⟨g, off, none⟩ = some y0 ∧ (put6 w g off y0 y1 y2 y3 y4 y5).cell? ⟨g, off + 1, none⟩ = some y1 ∧ (put6 w g off y0 y1 y2 y3 y4 y5).cell? ⟨g, off + 2, none⟩ = some y2 ∧ (put6 w g off y0 y1 y2 y3 y4 y5).cell? ⟨g, off + 3, none⟩ = some y3 ∧ (put6 w g off y0 y1 y2 y3 y4 y5).cell? ⟨g, off + 4, none⟩ = some y4 ∧ (put6 w g off y0 y1 y2 y3 y4 y5).cell? ⟨g, off + 5, none⟩ = some y5) ∧
    ∀ o, o < off ∨ off + 6 ≤ o → (put6 w g off y0 y1 y2 y3 y4 y5).cell? ⟨g, o, none⟩ = w.cell? ⟨g, o, none⟩ := by
  obtain ⟨arr, h, hs⟩ := h
  have e := setCell_at (setCell_at (setCell_at (setCell_at (setCell_at (setCell_at h off y0) (off + 1) y1) (off + 2) y2) (off + 3) y3) (off + 4) y4) (off + 5) y5
  have c := fun o => Lib.cell_of_heap (w := put6 w g off y0 y1 y2 y3 y4 y5) (j := o) e
  refine ⟨⟨_, e, by simp [hs]⟩, ⟨?_, ?_, ?_, ?_, ?_, ?_⟩, ?_⟩
  · rw [c]; simp [Array.getElem?_setIfInBounds, hs]; omega
  · rw [c]; simp [Array.getElem?_setIfInBounds, hs]; omega
  · rw [c]; simp [Array.getElem?_setIfInBounds, hs]; omega
  · rw [c]; simp [Array.getElem?_setIfInBounds, hs]; omega
  · rw [c]; simp [Array.getElem?_setIfInBounds, hs]; omega
  · rw [c]; simp [Array.getElem?_setIfInBounds, hs]; omega
  · intro o h'
    rw [c, Lib.cell_of_heap h]
    have n0 : ¬ off = o := by omega
    have n1 : ¬ off + 1 = o := by omega
    have n2 : ¬ off + 2 = o := by omega
    have n3 : ¬ off + 3 = o := by omega
    have n4 : ¬ off + 4 = o := by omega
    have n5 : ¬ off + 5 = o := by omega
    simp [n0, n1, n2, n3, n4, n5]
theorem put6_below {w w' : World} {B g : Nat} (h : Below B w w') (hg : B ≤ g) (off : Nat) (y0 y1 y2 y3 y4 y5 : Value) : Below B w (put6 w' g off y0 y1 y2 y3 y4 y5) :=
  (((((h.setCell (p := ⟨g, off, none⟩) hg _).setCell (p := ⟨g, off + 1, none⟩) hg _).setCell (p := ⟨g, off + 2, none⟩) hg _).setCell (p := ⟨g, off + 3, none⟩) hg _).setCell (p := ⟨g, off + 4, none⟩) hg _).setCell (p := ⟨g, off + 5, none⟩) hg _
/-- A node whose cells stay, and whose rows lie elsewhere, stays. -/
theorem NodeAt.cells {ok ok' : Nat → Prop} {w w' : World} {b off : Nat} {r : Rx} (h : NodeAt ok w b off r) (hk : Kept ok ok' w w') (hc : ∀ o, off ≤ o → o < off + 6 → w'.cell? ⟨b, o, none⟩ = w.cell? ⟨b, o, none⟩) : NodeAt ok' w' b off r := by
  obtain ⟨k, s, ks⟩ := r
  unfold NodeAt at h ⊢
  obtain ⟨h0, hs, ⟨c0, c1, c2, c3, c4⟩, al, cap, c5, h1, h2, h3⟩ := h
  refine ⟨h0, hs, ⟨by rw [hc _ (by omega) (by omega)]; exact c0, by rw [hc _ (by omega) (by omega)]; exact c1, by rw [hc _ (by omega) (by omega)]; exact c2, by rw [hc _ (by omega) (by omega)]; exact c3, by rw [hc _ (by omega) (by omega)]; exact c4⟩, al, cap, by rw [hc _ (by omega) (by omega)]; exact c5, h1, h2, ?_⟩
  rcases h3 with h3 | ⟨b', off', e1, e2, e3, e4⟩
  · exact .inl h3
  · have hh := hk.2 b' e2 e3
    exact .inr ⟨b', off', e1, Nat.lt_of_lt_of_le e2 hk.1, hh.1, NodesAt.go hk ks hh.2 e4⟩
/-- One node more in a row: the rows of all nodes lie elsewhere. -/
theorem nodes_push {ok : Nat → Prop} {w : World} {g n : Nat} {l : List Rx} {r : Rx} {x0 x1 x2 x3 x4 x5 : Value} (hr : Room w g n) (hl : (l.length + 1) * 6 ≤ n) (hg : ¬ ok g) (h : NodesAt ok w g 0 l) (hv : ReAt ok w (.agg #[x0, x1, x2, x3, x4, x5]) r) :
    NodesAt ok (put6 w g (l.length * 6) x0 x1 x2 x3 x4 x5) g 0 (l ++ [r]) := by
  obtain ⟨hR, ⟨c0, c1, c2, c3, c4, c5⟩, hfar⟩ := put6_at hr (off := l.length * 6) (by omega) x0 x1 x2 x3 x4 x5
  have hk : Kept ok ok w (put6 w g (l.length * 6) x0 x1 x2 x3 x4 x5) := ⟨by rw [put6_size]; exact Nat.le_refl _, fun b _ hb => ⟨hb, put6_other _ _ _ _ _ _ _ _ _ (fun e => hg (e ▸ hb))⟩⟩
  refine nodesAt_of fun i hi => ?_
  by_cases e : i < l.length
  · rw [List.getElem_append_left e]
    exact (nodesAt_get h i e).cells hk fun o h1 h2 => hfar o (.inl (by omega))
  · have : i = l.length := by simp at hi; omega
    subst this
    rw [List.getElem_append_right (Nat.le_refl _)]
    simp only [Nat.sub_self, List.getElem_cons_zero, Nat.zero_add]
    exact node_at (hv.go hk) c0 c1 c2 c3 c4 c5
theorem room_made (w : World) (z : Array Value) (n : Nat) : Room (w.alloc (.cells (madeCells z n) 30)) w.heap.size n := ⟨_, blk_new w _, size_madeCells z n⟩
def zeroR : Array Value := #[.int .u8 0, .int .u64 0, .int .u64 0, .int .u64 0, .int .u64 0, .slice none 0 0]
theorem make_re (n : Nat) (hn : n < 2199023255552) (u : World) : (Instr.makeSlice 22 (.int .i64 (n : Int)) (.int .i64 (n : Int))).run Tryd.prog u =
    .ok (.slice (some ⟨u.heap.size, 0, none⟩) n n) (u.alloc (.cells (madeCells zeroR (n * 6)) 30)) := by
  obtain ⟨i0, hi, hz0, hz1, hz2⟩ := info_parts infoR
  have h := run_make (P := Tryd.prog) u 22 30 i0 _ Tryd.underlying22 hi hz0 .i64 .i64 (n : Int) (n : Int) (by omega) (Int.le_refl _) (by rw [hz2]; omega) (by omega)
  simpa [hz1, Value.cells, zeroR] using h
end Go.Proofs.YtdkdgbiagjflgaaDoor
