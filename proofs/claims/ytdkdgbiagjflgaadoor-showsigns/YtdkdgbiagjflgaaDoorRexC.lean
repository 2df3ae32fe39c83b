/- quillref03's Bare, Of, Two, Many, GreatAll. -/
import Derived.Test.YtdkdgbiagjflgaaDoorRexB
namespace Go.Proofs.YtdkdgbiagjflgaaDoor
open Go.RowKit
/-- An expression comes back. -/
def RePost (ok : Nat → Prop) (r : Rx) (w : World) (e : Ending) (w' : World) : Prop := ∃ v, e = .returned v ∧ ReAt (fun b => ok b ∨ w.heap.size ≤ b) w' v r ∧ Below w.heap.size w w'
def New (n b : Nat) : Prop := n ≤ b
/-- An expression in memory of its own comes back. -/
def NewPost (r : Rx) (w : World) (e : Ending) (w' : World) : Prop := ∃ v, e = .returned v ∧ ReAt (New w.heap.size) w' v r ∧ Below w.heap.size w w'
theorem ret_re {fn : Func} {R : Ending → World → Prop} {a : Act} {W : World} {k g : Nat} {x0 x1 x2 x3 x4 x5 : Value} {fz : Nat × Nat} (hB : W.heap[g]? = some (.cells #[x0, x1, x2, x3, x4, x5] 30 fz)) (hres : fn.results = #[.cell k 30]) (hslot : a.tmps.getD k undef = .pointer (some ⟨g, 0, none⟩)) (hd : a.defers = []) (hR : R (.returned (.agg #[x0, x1, x2, x3, x4, x5])) W) : bodyPost Tryd.prog fn R .ret a W := by
  have c0 : W.cell? ⟨g, 0, none⟩ = some x0 := by rw [Lib.cell_of_heap hB]; rfl
  have c1 : W.cell? ⟨g, 1, none⟩ = some x1 := by rw [Lib.cell_of_heap hB]; rfl
  have c2 : W.cell? ⟨g, 2, none⟩ = some x2 := by rw [Lib.cell_of_heap hB]; rfl
  have c3 : W.cell? ⟨g, 3, none⟩ = some x3 := by rw [Lib.cell_of_heap hB]; rfl
  have c4 : W.cell? ⟨g, 4, none⟩ = some x4 := by rw [Lib.cell_of_heap hB]; rfl
  have c5 : W.cell? ⟨g, 5, none⟩ = some x5 := by rw [Lib.cell_of_heap hB]; rfl
  refine bodyPost_ret (v := .agg #[x0, x1, x2, x3, x4, x5]) ?_ hd hR
  have hslot' : a.tmps[k]?.getD undef = .pointer (some ⟨g, 0, none⟩) := by simpa using hslot
  simp [results, hres, hslot', go_sem, c0, c1, c2, c3, c4, c5]
theorem blk_new (w : World) (o : Obj) : (w.alloc o).heap[w.heap.size]? = some o := by
  show (w.heap.push o)[w.heap.size]? = some o
  simp
/-- A value whose six cells lie in a block is a node there. -/
theorem node_of {ok : Nat → Prop} {w : World} {b off : Nat} {k : Nat} {s : Ws} {ks : List Rx} {al : Option Addr} {cap : Nat} (h : ReAt ok w (.agg #[.int .u8 k, .int .u64 s.a, .int .u64 s.b, .int .u64 s.c, .int .u64 s.d, .slice al ks.length cap]) (.node k s ks))
    (c0 : w.cell? ⟨b, off, none⟩ = some (.int .u8 k)) (c1 : w.cell? ⟨b, off + 1, none⟩ = some (.int .u64 s.a)) (c2 : w.cell? ⟨b, off + 2, none⟩ = some (.int .u64 s.b)) (c3 : w.cell? ⟨b, off + 3, none⟩ = some (.int .u64 s.c)) (c4 : w.cell? ⟨b, off + 4, none⟩ = some (.int .u64 s.d)) (c5 : w.cell? ⟨b, off + 5, none⟩ = some (.slice al ks.length cap)) :
    NodeAt ok w b off (.node k s ks) := by
  obtain ⟨hk, hs, al', cap', e, h1, h2, h3⟩ := h
  simp at e
  obtain ⟨rfl, rfl⟩ := e
  unfold NodeAt
  exact ⟨hk, hs, ⟨c0, c1, c2, c3, c4⟩, al, cap, c5, h1, h2, h3⟩
theorem bareAt (ok : Nat → Prop) (w : World) (k : Nat) (s : Ws) (hk : k < 256) (hs : s.Ok) : ReAt ok w (.agg #[.int .u8 k, .int .u64 s.a, .int .u64 s.b, .int .u64 s.c, .int .u64 s.d, .slice none 0 0]) (.node k s []) :=
  ⟨hk, hs, none, 0, rfl, Nat.le_refl _, by decide, .inl rfl⟩
theorem node_at {ok : Nat → Prop} {w : World} {b off : Nat} {x0 x1 x2 x3 x4 x5 : Value} {r : Rx} (h : ReAt ok w (.agg #[x0, x1, x2, x3, x4, x5]) r)
    (c0 : w.cell? ⟨b, off, none⟩ = some x0) (c1 : w.cell? ⟨b, off + 1, none⟩ = some x1) (c2 : w.cell? ⟨b, off + 2, none⟩ = some x2) (c3 : w.cell? ⟨b, off + 3, none⟩ = some x3) (c4 : w.cell? ⟨b, off + 4, none⟩ = some x4) (c5 : w.cell? ⟨b, off + 5, none⟩ = some x5) : NodeAt ok w b off r := by
  obtain ⟨k, s, ks⟩ := r
  have h' := h
  obtain ⟨_, _, al, cap, e, _⟩ := h'
  simp at e
  obtain ⟨rfl, rfl, rfl, rfl, rfl, rfl⟩ := e
  exact node_of h c0 c1 c2 c3 c4 c5
theorem row_one {ok : Nat → Prop} {W : World} {g : Nat} {x0 x1 x2 x3 x4 x5 : Value} {fz : Nat × Nat} {r : Rx} (hB : W.heap[g]? = some (.cells #[x0, x1, x2, x3, x4, x5] 30 fz)) (hg : ok g) (h : ReAt ok W (.agg #[x0, x1, x2, x3, x4, x5]) r) : RowAt ok W (some ⟨g, 0, none⟩) [r] := by
  refine .inr ⟨g, 0, rfl, (Array.getElem?_eq_some_iff.1 hB).1, hg, ?_⟩
  unfold NodesAt NodesAt
  refine ⟨node_at h ?_ ?_ ?_ ?_ ?_ ?_, trivial⟩ <;> (rw [Lib.cell_of_heap hB]; rfl)
theorem row_two {ok : Nat → Prop} {W : World} {g : Nat} {x0 x1 x2 x3 x4 x5 y0 y1 y2 y3 y4 y5 : Value} {fz : Nat × Nat} {r t : Rx} (hB : W.heap[g]? = some (.cells #[x0, x1, x2, x3, x4, x5, y0, y1, y2, y3, y4, y5] 30 fz)) (hg : ok g) (h : ReAt ok W (.agg #[x0, x1, x2, x3, x4, x5]) r) (h' : ReAt ok W (.agg #[y0, y1, y2, y3, y4, y5]) t) : RowAt ok W (some ⟨g, 0, none⟩) [r, t] := by
  refine .inr ⟨g, 0, rfl, (Array.getElem?_eq_some_iff.1 hB).1, hg, ?_⟩
  unfold NodesAt NodesAt NodesAt
  refine ⟨node_at h ?_ ?_ ?_ ?_ ?_ ?_, node_at h' ?_ ?_ ?_ ?_ ?_ ?_, trivial⟩ <;> (rw [Lib.cell_of_heap hB]; rfl)
theorem shape_re {ok : Nat → Prop} {w : World} {v : Value} {r : Rx} (h : ReAt ok w v r) : ∃ x0 x1 x2 x3 x4 x5, v = .agg #[x0, x1, x2, x3, x4, x5] := by
  obtain ⟨k, s, ks⟩ := r
  obtain ⟨_, _, al, cap, e, _⟩ := h
  exact ⟨_, _, _, _, _, _, e⟩
theorem blk_at {g : Nat} (W : World) (o : Obj) (h : g = W.heap.size) : (W.alloc o).heap[g]? = some o := by rw [h]; exact blk_new W o
set_option maxHeartbeats 1000000 in
theorem two_any {ok : Nat → Prop} (k : Nat) (r t : Rx) (v u : Value) (w : World) (hk : k < 256) (h : ReAt ok w v r) (h' : ReAt ok w u t) :
    Calls Tryd.prog 16 #[.int .u8 k, v, u] w (RePost ok (.node k Ws.nil [r, t]) w) := by
  obtain ⟨x0, x1, x2, x3, x4, x5, rfl⟩ := shape_re h
  obtain ⟨y0, y1, y2, y3, y4, y5, rfl⟩ := shape_re h'
  have HR := Lib.hid h
  have HU := Lib.hid h'
  clear h h'
  go_enter Tryd.func16, Tryd.ntmps16
  go_wp2
  have hb : Below w.heap.size w ((((w.alloc (.cells #[x0, x1, x2, x3, x4, x5] 30)).alloc (.cells #[y0, y1, y2, y3, y4, y5] 30)).alloc (.cells #[.int .u8 k, .int .u64 0, .int .u64 0, .int .u64 0, .int .u64 0, .slice (some ⟨w.heap.size + 1 + 1 + 1, 0, none⟩) 2 2] 30)).alloc (.cells #[x0, x1, x2, x3, x4, x5, y0, y1, y2, y3, y4, y5] 30)) :=
    ((((Below.refl _ w).alloc (Nat.le_refl _) _).alloc (by simp) _).alloc (by simp; omega) _).alloc (by simp; omega) _
  refine ret_re ((Below.heap_alloc _ _ _ (by simp)).trans (blk_at _ _ (by simp))) Tryd.results16 rfl rfl ⟨_, rfl, ⟨hk, Ws.nil_ok, _, _, rfl, Nat.le_refl _, by simp, ?_⟩, hb⟩
  exact row_two (blk_at _ _ (by simp)) (.inr (by omega)) ((HR.out.below hb).imp fun _ _ h => .inl h) ((HU.out.below hb).imp fun _ _ h => .inl h)
theorem cells_re {ok : Nat → Prop} {w : World} {v : Value} {r : Rx} (h : ReAt ok w v r) : ∃ k a b c d al n cap, v = .agg #[.int .u8 k, .int .u64 a, .int .u64 b, .int .u64 c, .int .u64 d, .slice al n cap] := by
  obtain ⟨k, s, ks⟩ := r
  unfold ReAt at h
  obtain ⟨_, _, al, cap, e, _⟩ := h
  exact ⟨_, _, _, _, _, al, _, cap, e⟩
theorem leaf_any {ok ok' : Nat → Prop} {w : World} (w' : World) {v : Value} {k : Nat} {s : Ws} (h : ReAt ok w v (.node k s [])) : ReAt ok' w' v (.node k s []) := by
  unfold ReAt at h ⊢
  obtain ⟨hk, hs, al, cap, e, h1, h2, _⟩ := h
  exact ⟨hk, hs, al, cap, e, h1, h2, Or.inl rfl⟩
def ofR (s : Ws) : Rx := if sameW s Ws.nil = true then .node 1 Ws.nil [] else .node 3 s []
theorem cellsR {w : World} {g : Nat} {x0 x1 x2 x3 x4 x5 : Value} (h : w.heap[g]? = some (.cells #[x0, x1, x2, x3, x4, x5] 30)) :
    w.cell? ⟨g, 0, none⟩ = some x0 ∧ w.cell? ⟨g, 1, none⟩ = some x1 ∧ w.cell? ⟨g, 2, none⟩ = some x2 ∧ w.cell? ⟨g, 3, none⟩ = some x3 ∧ w.cell? ⟨g, 4, none⟩ = some x4 ∧ w.cell? ⟨g, 5, none⟩ = some x5 ∧
      w.frozen? ⟨g, 0, none⟩ = false ∧ w.frozen? ⟨g, 1, none⟩ = false ∧ w.frozen? ⟨g, 2, none⟩ = false ∧ w.frozen? ⟨g, 3, none⟩ = false ∧ w.frozen? ⟨g, 4, none⟩ = false ∧ w.frozen? ⟨g, 5, none⟩ = false := by
  refine ⟨?_, ?_, ?_, ?_, ?_, ?_, Lib.frozen_of_heap h 0, Lib.frozen_of_heap h 1, Lib.frozen_of_heap h 2, Lib.frozen_of_heap h 3, Lib.frozen_of_heap h 4, Lib.frozen_of_heap h 5⟩ <;> (rw [Lib.cell_of_heap h]; rfl)
def putW (w : World) (g : Nat) (y0 y1 y2 y3 y4 y5 : Value) : World := (((((w.setCell ⟨g, 0, none⟩ y0).setCell ⟨g, 1, none⟩ y1).setCell ⟨g, 2, none⟩ y2).setCell ⟨g, 3, none⟩ y3).setCell ⟨g, 4, none⟩ y4).setCell ⟨g, 5, none⟩ y5
theorem putR {w : World} {g : Nat} {x0 x1 x2 x3 x4 x5 : Value} (h : w.heap[g]? = some (.cells #[x0, x1, x2, x3, x4, x5] 30)) (y0 y1 y2 y3 y4 y5 : Value) :
    (putW w g y0 y1 y2 y3 y4 y5).heap[g]? = some (.cells #[y0, y1, y2, y3, y4, y5] 30) := by
  simp [putW, World.setCell, Array.getElem?_modify, h]
theorem putB {w w' : World} {B g : Nat} (h : Below B w w') (hg : B ≤ g) (y0 y1 y2 y3 y4 y5 : Value) : Below B w (putW w' g y0 y1 y2 y3 y4 y5) :=
  (((((h.setCell (p := ⟨g, 0, none⟩) hg _).setCell (p := ⟨g, 1, none⟩) hg _).setCell (p := ⟨g, 2, none⟩) hg _).setCell (p := ⟨g, 3, none⟩) hg _).setCell (p := ⟨g, 4, none⟩) hg _).setCell (p := ⟨g, 5, none⟩) hg _
theorem nil_v : Ws.nil.v = .agg #[.int .u64 0, .int .u64 0, .int .u64 0, .int .u64 0] := rfl
end Go.Proofs.YtdkdgbiagjflgaaDoor
