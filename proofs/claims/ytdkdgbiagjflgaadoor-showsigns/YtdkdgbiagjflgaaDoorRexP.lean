/- quillref03's Fold. -/
import Derived.Test.YtdkdgbiagjflgaaDoorRexN
namespace Go.Proofs.YtdkdgbiagjflgaaDoor
open Go.RowKit
def Low (ok : Nat → Prop) (n b : Nat) : Prop := (ok b ∧ b < n) ∨ n + 1 ≤ b
theorem nodes_tail {ok : Nat → Prop} {w : World} {b off : Nat} {r : Rx} {rs : List Rx} (h : NodesAt ok w b off (r :: rs)) : NodesAt ok w b (off + 6) rs := by
  unfold NodesAt at h; exact h.2
theorem fold_kept {w W w' : World} {ok : Nat → Prop} (hbW : Below w.heap.size w W) (hsW : W.heap.size = w.heap.size + 1) (hb2 : Below W.drew.heap.size W.drew w') : Kept ok (fun b => (ok b ∧ b < w.heap.size) ∨ W.drew.heap.size ≤ b) w w' := by
  have hb : Below w.heap.size w w' := hbW.drew.trans (hb2.mono (by show w.heap.size ≤ W.heap.size; omega))
  exact ⟨hb.size, fun b h1 h2 => ⟨.inl ⟨h2, h1⟩, hb.block b h1⟩⟩
theorem fold_le {w W : World} (hsW : W.heap.size = w.heap.size + 1) : w.heap.size ≤ W.drew.heap.size := by show w.heap.size ≤ W.heap.size; omega
theorem fold_nil {w W w' w'' : World} (hsW : W.heap.size = w.heap.size + 1) (hn : W.heap[w.heap.size]? = some nilBlk) (hb2 : Below W.drew.heap.size W.drew w') (hb3 : Below w'.heap.size w' w'') : w''.heap[w.heap.size]? = some nilBlk := by
  have h1 : w'.heap[w.heap.size]? = some nilBlk := (hb2.block _ (by show w.heap.size < W.heap.size; omega)).trans hn
  exact (hb3.block _ (Array.getElem?_eq_some_iff.1 h1).1).trans h1
abbrev FoldC (x : World) (b off : Nat) (x0 x1 x2 x3 x4 x5 : Value) : Prop := x.cell? ⟨b, off, none⟩ = some x0 ∧ x.cell? ⟨b, off + 1, none⟩ = some x1 ∧ x.cell? ⟨b, off + 2, none⟩ = some x2 ∧ x.cell? ⟨b, off + 3, none⟩ = some x3 ∧ x.cell? ⟨b, off + 4, none⟩ = some x4 ∧ x.cell? ⟨b, off + 5, none⟩ = some x5
theorem foldC_go {W x : World} {b off B : Nat} {x0 x1 x2 x3 x4 x5 : Value} (h : FoldC W b off x0 x1 x2 x3 x4 x5) (hb : b < B) (hx : Below B W x) : FoldC x b off x0 x1 x2 x3 x4 x5 := by
  obtain ⟨d0, d1, d2, d3, d4, d5⟩ := h
  have e := fun o => hx.cell (p := ⟨b, o, none⟩) hb
  exact ⟨by rw [e]; exact d0, by rw [e]; exact d1, by rw [e]; exact d2, by rw [e]; exact d3, by rw [e]; exact d4, by rw [e]; exact d5⟩
theorem fold_end {w W w' w'' : World} {ok : Nat → Prop} {r : Rx} {y0 y1 y2 y3 y4 y5 : Value} (hbW : Below w.heap.size w W) (hsW : W.heap.size = w.heap.size + 1) (hn : W.heap[w.heap.size]? = some nilBlk) (hb2 : Below W.drew.heap.size W.drew w') (hb3 : Below w'.heap.size w' w'')
    (hu : ReAt (fun b => ((ok b ∧ b < w.heap.size) ∨ W.drew.heap.size ≤ b) ∨ w'.heap.size ≤ b) w'' (.agg #[y0, y1, y2, y3, y4, y5]) r) :
    (putW w'' w.heap.size y0 y1 y2 y3 y4 y5).heap[w.heap.size]? = some (.cells #[y0, y1, y2, y3, y4, y5] 30) ∧
    ReAt (fun b => ok b ∨ w.heap.size ≤ b) (putW w'' w.heap.size y0 y1 y2 y3 y4 y5) (.agg #[y0, y1, y2, y3, y4, y5]) r ∧ Below w.heap.size w (putW w'' w.heap.size y0 y1 y2 y3 y4 y5) := by
  have h1 : W.heap.size ≤ w'.heap.size := hb2.size
  have h2 := hb3.size
  have hd : W.drew.heap.size = W.heap.size := rfl
  refine ⟨putR (fold_nil hsW hn hb2 hb3) _ _ _ _ _ _, hu.go ⟨by rw [putW_size]; exact Nat.le_refl _, fun b _ h => ?_⟩, putB (hbW.drew.trans ((hb2.mono (fold_le hsW)).trans (hb3.mono (by omega)))) (Nat.le_refl _) _ _ _ _ _ _⟩
  rw [hd] at h
  rcases h with (⟨h, hl⟩ | h) | h
  · exact ⟨.inl h, putW_other _ _ _ _ _ _ _ _ (by omega)⟩
  · exact ⟨.inr (by omega), putW_other _ _ _ _ _ _ _ _ (by omega)⟩
  · exact ⟨.inr (by omega), putW_other _ _ _ _ _ _ _ _ (by omega)⟩
end Go.Proofs.YtdkdgbiagjflgaaDoor
