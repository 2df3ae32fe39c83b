/- Lemmas of mine, merged: QPRexB, QPRexC, QPRowV, QPOwnS, QPDerR. -/
import Derived.StillTailTactics
import Derived.Test.YtiegejbbjlhpdaaQPSetAAll
import Derived.OwnWalk
import Derived.Laws.AppendOwn
import Derived.Laws.OwnMore
import Derived.Laws.MakeOwn
/- Lemmas of mine. -/
namespace Go.Proofs.Ytiegejbbjlhpdaa
open Go.RowKit
def sameW (s t : Ws) : Bool := decide (s.a = t.a ∧ s.b = t.b ∧ s.c = t.c ∧ s.d = t.d)
theorem sameW_iff {s t : Ws} : sameW s t = true ↔ s = t := by
  obtain ⟨a, b, c, d⟩ := s
  obtain ⟨a', b', c', d'⟩ := t
  simp [sameW]
open Go.RowKit
def RePost (ok : Nat → Prop) (r : Rx) (w : World) (e : Ending) (w' : World) : Prop := ∃ v, e = .returned v ∧ ReAt (fun b => ok b ∨ w.heap.size ≤ b) w' v r ∧ Below w.heap.size w w'
def New (n b : Nat) : Prop := n ≤ b
def NewPost (r : Rx) (w : World) (e : Ending) (w' : World) : Prop := ∃ v, e = .returned v ∧ ReAt (New w.heap.size) w' v r ∧ Below w.heap.size w w'
theorem ret_re {fn : Func} {R : Ending → World → Prop} {a : Act} {W : World} {k g : Nat} {x0 x1 x2 x3 x4 x5 : Value} {fz : Nat × Nat} (hB : W.heap[g]? = some (.cells #[x0, x1, x2, x3, x4, x5] 27 fz)) (hres : fn.results = #[.cell k 27]) (hslot : a.tmps.getD k undef = .pointer (some ⟨g, 0, none⟩)) (hd : a.defers = []) (hR : R (.returned (.agg #[x0, x1, x2, x3, x4, x5])) W) : bodyPost Try.prog fn R .ret a W := by
  have c0 : W.cell? ⟨g, 0, none⟩ = some x0 := by rw [Lib.cell_of_heap hB]; rfl
  have c1 : W.cell? ⟨g, 1, none⟩ = some x1 := by rw [Lib.cell_of_heap hB]; rfl
  have c2 : W.cell? ⟨g, 2, none⟩ = some x2 := by rw [Lib.cell_of_heap hB]; rfl
  have c3 : W.cell? ⟨g, 3, none⟩ = some x3 := by rw [Lib.cell_of_heap hB]; rfl
  have c4 : W.cell? ⟨g, 4, none⟩ = some x4 := by rw [Lib.cell_of_heap hB]; rfl
  have c5 : W.cell? ⟨g, 5, none⟩ = some x5 := by rw [Lib.cell_of_heap hB]; rfl
  refine bodyPost_ret (v := .agg #[x0, x1, x2, x3, x4, x5]) ?_ hd hR
  have hslot' : a.tmps[k]?.getD undef = .pointer (some ⟨g, 0, none⟩) := by simpa using hslot
  simp [results, hres, hslot', go_sem, c0, c1, c2, c3, c4, c5]
theorem blk_new (w : World) (o : Obj) : (w.alloc o).heap[w.heap.size]? = some o := by
  show (w.heap.push o)[w.heap.size]? = some o
  simp
theorem node_of {ok : Nat → Prop} {w : World} {b off : Nat} {k : Nat} {s : Ws} {ks : List Rx} {al : Option Addr} {cap : Nat} (h : ReAt ok w (.agg #[.int .u8 k, .int .u64 s.a, .int .u64 s.b, .int .u64 s.c, .int .u64 s.d, .slice al ks.length cap]) (.node k s ks))
    (c0 : w.cell? ⟨b, off, none⟩ = some (.int .u8 k)) (c1 : w.cell? ⟨b, off + 1, none⟩ = some (.int .u64 s.a)) (c2 : w.cell? ⟨b, off + 2, none⟩ = some (.int .u64 s.b)) (c3 : w.cell? ⟨b, off + 3, none⟩ = some (.int .u64 s.c)) (c4 : w.cell? ⟨b, off + 4, none⟩ = some (.int .u64 s.d)) (c5 : w.cell? ⟨b, off + 5, none⟩ = some (.slice al ks.length cap)) :
    NodeAt ok w b off (.node k s ks) := by
  obtain ⟨hk, hs, al', cap', e, h1, h2, h3⟩ := h
  simp at e
  obtain ⟨rfl, rfl⟩ := e
  unfold NodeAt
  exact ⟨hk, hs, ⟨c0, c1, c2, c3, c4⟩, al, cap, c5, h1, h2, h3⟩
theorem bareAt (ok : Nat → Prop) (w : World) (k : Nat) (s : Ws) (hk : k < 256) (hs : s.Ok) : ReAt ok w (.agg #[.int .u8 k, .int .u64 s.a, .int .u64 s.b, .int .u64 s.c, .int .u64 s.d, .slice none 0 0]) (.node k s []) :=
  ⟨hk, hs, none, 0, rfl, Nat.le_refl _, by decide, .inl rfl⟩
theorem node_at {ok : Nat → Prop} {w : World} {b off : Nat} {x0 x1 x2 x3 x4 x5 : Value} {r : Rx} (h : ReAt ok w (.agg #[x0, x1, x2, x3, x4, x5]) r)
    (c0 : w.cell? ⟨b, off, none⟩ = some x0) (c1 : w.cell? ⟨b, off + 1, none⟩ = some x1) (c2 : w.cell? ⟨b, off + 2, none⟩ = some x2) (c3 : w.cell? ⟨b, off + 3, none⟩ = some x3) (c4 : w.cell? ⟨b, off + 4, none⟩ = some x4) (c5 : w.cell? ⟨b, off + 5, none⟩ = some x5) : NodeAt ok w b off r := by
  obtain ⟨k, s, ks⟩ := r
  have h' := h
  obtain ⟨_, _, al, cap, e, _⟩ := h'
  simp at e
  obtain ⟨rfl, rfl, rfl, rfl, rfl, rfl⟩ := e
  exact node_of h c0 c1 c2 c3 c4 c5
theorem row_one {ok : Nat → Prop} {W : World} {g : Nat} {x0 x1 x2 x3 x4 x5 : Value} {fz : Nat × Nat} {r : Rx} (hB : W.heap[g]? = some (.cells #[x0, x1, x2, x3, x4, x5] 27 fz)) (hg : ok g) (h : ReAt ok W (.agg #[x0, x1, x2, x3, x4, x5]) r) : RowAt ok W (some ⟨g, 0, none⟩) [r] := by
  refine .inr ⟨g, 0, rfl, (Array.getElem?_eq_some_iff.1 hB).1, hg, ?_⟩
  unfold NodesAt NodesAt
  refine ⟨node_at h ?_ ?_ ?_ ?_ ?_ ?_, trivial⟩ <;> (rw [Lib.cell_of_heap hB]; rfl)
theorem row_two {ok : Nat → Prop} {W : World} {g : Nat} {x0 x1 x2 x3 x4 x5 y0 y1 y2 y3 y4 y5 : Value} {fz : Nat × Nat} {r t : Rx} (hB : W.heap[g]? = some (.cells #[x0, x1, x2, x3, x4, x5, y0, y1, y2, y3, y4, y5] 27 fz)) (hg : ok g) (h : ReAt ok W (.agg #[x0, x1, x2, x3, x4, x5]) r) (h' : ReAt ok W (.agg #[y0, y1, y2, y3, y4, y5]) t) : RowAt ok W (some ⟨g, 0, none⟩) [r, t] := by
  refine .inr ⟨g, 0, rfl, (Array.getElem?_eq_some_iff.1 hB).1, hg, ?_⟩
  unfold NodesAt NodesAt NodesAt
  refine ⟨node_at h ?_ ?_ ?_ ?_ ?_ ?_, node_at h' ?_ ?_ ?_ ?_ ?_ ?_, trivial⟩ <;> (rw [Lib.cell_of_heap hB]; rfl)
theorem shape_re {ok : Nat → Prop} {w : World} {v : Value} {r : Rx} (h : ReAt ok w v r) : ∃ x0 x1 x2 x3 x4 x5, v = .agg #[x0, x1, x2, x3, x4, x5] := by
  obtain ⟨k, s, ks⟩ := r
  obtain ⟨_, _, al, cap, e, _⟩ := h
  exact ⟨_, _, _, _, _, _, e⟩
theorem blk_at {g : Nat} (W : World) (o : Obj) (h : g = W.heap.size) : (W.alloc o).heap[g]? = some o := by rw [h]; exact blk_new W o
set_option maxHeartbeats 1000000 in
theorem many_any {ok : Nat → Prop} (r : Rx) (v : Value) (w : World) (h : ReAt ok w v r) :
    Calls Try.prog 19 #[v] w (RePost ok (.node 6 Ws.nil [r]) w) := by
  obtain ⟨x0, x1, x2, x3, x4, x5, rfl⟩ := shape_re h
  have HR := Lib.hid h
  clear h
  go_enter Try.func19, Try.ntmps19
  go_wp2
  have hb : Below w.heap.size w (((w.alloc (.cells #[x0, x1, x2, x3, x4, x5] 27)).alloc (.cells #[.int .u8 6, .int .u64 0, .int .u64 0, .int .u64 0, .int .u64 0, .slice (some ⟨w.heap.size + 1 + 1, 0, none⟩) 1 1] 27)).alloc (.cells #[x0, x1, x2, x3, x4, x5] 27)) :=
    (((Below.refl _ w).alloc (Nat.le_refl _) _).alloc (by simp) _).alloc (by simp; omega) _
  refine ret_re ((Below.heap_alloc _ _ _ (by simp)).trans (blk_at _ _ (by simp))) Try.results19 rfl rfl ⟨_, rfl, ⟨by decide, Ws.nil_ok, _, _, rfl, Nat.le_refl _, by simp, ?_⟩, hb⟩
  exact row_one (blk_at _ _ (by simp)) (.inr (by omega)) ((HR.out.below hb).imp fun _ _ h => .inl h)
set_option maxHeartbeats 1000000 in
theorem two_any {ok : Nat → Prop} (k : Nat) (r t : Rx) (v u : Value) (w : World) (hk : k < 256) (h : ReAt ok w v r) (h' : ReAt ok w u t) :
    Calls Try.prog 22 #[.int .u8 k, v, u] w (RePost ok (.node k Ws.nil [r, t]) w) := by
  obtain ⟨x0, x1, x2, x3, x4, x5, rfl⟩ := shape_re h
  obtain ⟨y0, y1, y2, y3, y4, y5, rfl⟩ := shape_re h'
  have HR := Lib.hid h
  have HU := Lib.hid h'
  clear h h'
  go_enter Try.func22, Try.ntmps22
  go_wp2
  have hb : Below w.heap.size w ((((w.alloc (.cells #[x0, x1, x2, x3, x4, x5] 27)).alloc (.cells #[y0, y1, y2, y3, y4, y5] 27)).alloc (.cells #[.int .u8 k, .int .u64 0, .int .u64 0, .int .u64 0, .int .u64 0, .slice (some ⟨w.heap.size + 1 + 1 + 1, 0, none⟩) 2 2] 27)).alloc (.cells #[x0, x1, x2, x3, x4, x5, y0, y1, y2, y3, y4, y5] 27)) :=
    ((((Below.refl _ w).alloc (Nat.le_refl _) _).alloc (by simp) _).alloc (by simp; omega) _).alloc (by simp; omega) _
  refine ret_re ((Below.heap_alloc _ _ _ (by simp)).trans (blk_at _ _ (by simp))) Try.results22 rfl rfl ⟨_, rfl, ⟨hk, Ws.nil_ok, _, _, rfl, Nat.le_refl _, by simp, ?_⟩, hb⟩
  exact row_two (blk_at _ _ (by simp)) (.inr (by omega)) ((HR.out.below hb).imp fun _ _ h => .inl h) ((HU.out.below hb).imp fun _ _ h => .inl h)
theorem cells_re {ok : Nat → Prop} {w : World} {v : Value} {r : Rx} (h : ReAt ok w v r) : ∃ k a b c d al n cap, v = .agg #[.int .u8 k, .int .u64 a, .int .u64 b, .int .u64 c, .int .u64 d, .slice al n cap] := by
  obtain ⟨k, s, ks⟩ := r
  unfold ReAt at h
  obtain ⟨_, _, al, cap, e, _⟩ := h
  exact ⟨_, _, _, _, _, al, _, cap, e⟩
theorem leaf_any {ok ok' : Nat → Prop} {w : World} (w' : World) {v : Value} {k : Nat} {s : Ws} (h : ReAt ok w v (.node k s [])) : ReAt ok' w' v (.node k s []) := by
  unfold ReAt at h ⊢
  obtain ⟨hk, hs, al, cap, e, h1, h2, _⟩ := h
  exact ⟨hk, hs, al, cap, e, h1, h2, Or.inl rfl⟩
def ofR (s : Ws) : Rx := if sameW s Ws.nil = true then .node 1 Ws.nil [] else .node 3 s []
theorem cellsR {w : World} {g : Nat} {x0 x1 x2 x3 x4 x5 : Value} (h : w.heap[g]? = some (.cells #[x0, x1, x2, x3, x4, x5] 27)) :
    w.cell? ⟨g, 0, none⟩ = some x0 ∧ w.cell? ⟨g, 1, none⟩ = some x1 ∧ w.cell? ⟨g, 2, none⟩ = some x2 ∧ w.cell? ⟨g, 3, none⟩ = some x3 ∧ w.cell? ⟨g, 4, none⟩ = some x4 ∧ w.cell? ⟨g, 5, none⟩ = some x5 ∧
      w.frozen? ⟨g, 0, none⟩ = false ∧ w.frozen? ⟨g, 1, none⟩ = false ∧ w.frozen? ⟨g, 2, none⟩ = false ∧ w.frozen? ⟨g, 3, none⟩ = false ∧ w.frozen? ⟨g, 4, none⟩ = false ∧ w.frozen? ⟨g, 5, none⟩ = false := by
  refine ⟨?_, ?_, ?_, ?_, ?_, ?_, Lib.frozen_of_heap h 0, Lib.frozen_of_heap h 1, Lib.frozen_of_heap h 2, Lib.frozen_of_heap h 3, Lib.frozen_of_heap h 4, Lib.frozen_of_heap h 5⟩ <;> (rw [Lib.cell_of_heap h]; rfl)
def putW (w : World) (g : Nat) (y0 y1 y2 y3 y4 y5 : Value) : World := (((((w.setCell ⟨g, 0, none⟩ y0).setCell ⟨g, 1, none⟩ y1).setCell ⟨g, 2, none⟩ y2).setCell ⟨g, 3, none⟩ y3).setCell ⟨g, 4, none⟩ y4).setCell ⟨g, 5, none⟩ y5
theorem putR {w : World} {g : Nat} {x0 x1 x2 x3 x4 x5 : Value} (h : w.heap[g]? = some (.cells #[x0, x1, x2, x3, x4, x5] 27)) (y0 y1 y2 y3 y4 y5 : Value) :
    (putW w g y0 y1 y2 y3 y4 y5).heap[g]? = some (.cells #[y0, y1, y2, y3, y4, y5] 27) := by
  simp [putW, World.setCell, Array.getElem?_modify, h]
theorem putB {w w' : World} {B g : Nat} (h : Below B w w') (hg : B ≤ g) (y0 y1 y2 y3 y4 y5 : Value) : Below B w (putW w' g y0 y1 y2 y3 y4 y5) :=
  (((((h.setCell (p := ⟨g, 0, none⟩) hg _).setCell (p := ⟨g, 1, none⟩) hg _).setCell (p := ⟨g, 2, none⟩) hg _).setCell (p := ⟨g, 3, none⟩) hg _).setCell (p := ⟨g, 4, none⟩) hg _).setCell (p := ⟨g, 5, none⟩) hg _
theorem nil_v : Ws.nil.v = .agg #[.int .u64 0, .int .u64 0, .int .u64 0, .int .u64 0] := rfl
open Go.RowKit
theorem infoR : (Try.prog.info? 27).map (fun i => (i.zero, i.size, i.bytes)) = some (some (.agg #[.int .u8 0, .int .u64 0, .int .u64 0, .int .u64 0, .int .u64 0, .slice none 0 0]), 6, 64) := by kernel_rfl
def RowVals (ok : Nat → Prop) (w : World) (xs : List Value) (l : List Rx) : Prop := xs.length = l.length * 6 ∧ ∀ i (h : i < l.length), ∃ c0 c1 c2 c3 c4 c5, (xs[i * 6]? = some c0 ∧ xs[i * 6 + 1]? = some c1 ∧ xs[i * 6 + 2]? = some c2 ∧ xs[i * 6 + 3]? = some c3 ∧ xs[i * 6 + 4]? = some c4 ∧ xs[i * 6 + 5]? = some c5) ∧ ReAt ok w (.agg #[c0, c1, c2, c3, c4, c5]) l[i]
theorem RowVals.nil (ok : Nat → Prop) (w : World) : RowVals ok w [] [] := ⟨rfl, fun _ h => absurd h (Nat.not_lt_zero _)⟩
theorem RowVals.go {ok ok' : Nat → Prop} {w w' : World} {xs : List Value} {l : List Rx} (h : RowVals ok w xs l) (hk : Kept ok ok' w w') : RowVals ok' w' xs l := by
  refine ⟨h.1, fun i hi => ?_⟩
  obtain ⟨c0, c1, c2, c3, c4, c5, hc, hr⟩ := h.2 i hi
  exact ⟨c0, c1, c2, c3, c4, c5, hc, hr.go hk⟩
theorem RowVals.append {ok : Nat → Prop} {w : World} {xs ys : List Value} {l m : List Rx} (h : RowVals ok w xs l) (h' : RowVals ok w ys m) : RowVals ok w (xs ++ ys) (l ++ m) := by
  refine ⟨by simp [h.1, h'.1]; omega, fun i hi => ?_⟩
  have hx := h.1
  have hy := h'.1
  by_cases e : i < l.length
  · obtain ⟨c0, c1, c2, c3, c4, c5, ⟨e0, e1, e2, e3, e4, e5⟩, hr⟩ := h.2 i e
    rw [List.getElem_append_left e]
    refine ⟨c0, c1, c2, c3, c4, c5, ⟨?_, ?_, ?_, ?_, ?_, ?_⟩, hr⟩ <;> (rw [List.getElem?_append_left (by omega)]; assumption)
  · have hi' : i - l.length < m.length := by simp at hi; omega
    obtain ⟨c0, c1, c2, c3, c4, c5, ⟨e0, e1, e2, e3, e4, e5⟩, hr⟩ := h'.2 (i - l.length) hi'
    rw [List.getElem_append_right (by omega)]
    refine ⟨c0, c1, c2, c3, c4, c5, ⟨?_, ?_, ?_, ?_, ?_, ?_⟩, hr⟩
    · rw [List.getElem?_append_right (by omega), show i * 6 - xs.length = (i - l.length) * 6 from by omega]; exact e0
    · rw [List.getElem?_append_right (by omega), show i * 6 + 1 - xs.length = (i - l.length) * 6 + 1 from by omega]; exact e1
    · rw [List.getElem?_append_right (by omega), show i * 6 + 2 - xs.length = (i - l.length) * 6 + 2 from by omega]; exact e2
    · rw [List.getElem?_append_right (by omega), show i * 6 + 3 - xs.length = (i - l.length) * 6 + 3 from by omega]; exact e3
    · rw [List.getElem?_append_right (by omega), show i * 6 + 4 - xs.length = (i - l.length) * 6 + 4 from by omega]; exact e4
    · rw [List.getElem?_append_right (by omega), show i * 6 + 5 - xs.length = (i - l.length) * 6 + 5 from by omega]; exact e5
theorem RowVals.one {ok : Nat → Prop} {w : World} {c0 c1 c2 c3 c4 c5 : Value} {r : Rx} (h : ReAt ok w (.agg #[c0, c1, c2, c3, c4, c5]) r) : RowVals ok w [c0, c1, c2, c3, c4, c5] [r] := by
  refine ⟨rfl, fun i hi => ?_⟩
  obtain rfl : i = 0 := by simpa using hi
  exact ⟨c0, c1, c2, c3, c4, c5, ⟨rfl, rfl, rfl, rfl, rfl, rfl⟩, h⟩
theorem ownR_ge {w : World} {B : Nat} {v : Value} {n : Nat} {xs : List Value} (h : w.ownsRow B 27 6 v n xs) : ∀ g, v.ownBlock = some g → B ≤ g := by
  intro g hg
  obtain ⟨_, ⟨rfl, _⟩ | ⟨g', cap, cur, rfl, hB, _⟩⟩ := h
  · simp [Value.ownBlock] at hg
  · simp [Value.ownBlock] at hg; omega
theorem ownR_below {w w' : World} {B : Nat} {v : Value} {n : Nat} {xs : List Value} (h : w.ownsRow B 27 6 v n xs) (hb : Below w.heap.size w w') : w'.ownsRow B 27 6 v n xs := by
  obtain ⟨h1, h2⟩ := h
  refine ⟨h1, ?_⟩
  rcases h2 with h2 | ⟨g, cap, cur, rfl, hB, hg, hr⟩
  · exact .inl h2
  · exact .inr ⟨g, cap, cur, rfl, hB, (hb.block g (Array.getElem?_eq_some_iff.1 hg).1).trans hg, hr⟩
theorem six_cells (w : World) (c0 c1 c2 c3 c4 c5 : Value) : ∀ j u, [c0, c1, c2, c3, c4, c5][j]? = some u → (w.alloc (.cells #[c0, c1, c2, c3, c4, c5] 27)).cell? ((⟨w.heap.size, 0, none⟩ : Addr).add j) = some u := by
  intro j u h
  rw [Go.WideShapes.add_plain, Lib.cell_of_heap (blk_new w _)]
  simpa using h
def Lo (B b : Nat) : Prop := b < B
theorem kept_lo {B : Nat} {w w' : World} (_hB : B ≤ w.heap.size) (h : Below B w w') : Kept (Lo B) (Lo B) w w' := ⟨h.size, fun b _ h2 => ⟨h2, h.block b h2⟩⟩
theorem nodes_vals {ok : Nat → Prop} {w : World} {b : Nat} : ∀ (l : List Rx) (off : Nat), NodesAt ok w b off l → ∃ xs, RowVals ok w xs l ∧ (∀ j u, xs[j]? = some u → w.cell? ⟨b, off + j, none⟩ = some u) ∧ ∀ u ∈ xs, u.oneCell' = true
  | [], off, _ => ⟨[], RowVals.nil _ _, fun j u h => by simp at h, fun u h => by cases h⟩
  | .node k s ks :: rs, off, h => by
    unfold NodesAt at h
    obtain ⟨al, cap, ⟨c0, c1, c2, c3, c4, c5⟩, hre⟩ := h.1.read
    obtain ⟨xs, hv, hc, ho⟩ := nodes_vals rs (off + 6) h.2
    refine ⟨[.int .u8 k, .int .u64 s.a, .int .u64 s.b, .int .u64 s.c, .int .u64 s.d, .slice al ks.length cap] ++ xs, (RowVals.one hre).append hv, ?_, ?_⟩
    · intro j u hj
      match j, hj with
      | 0, hj => simp at hj; subst hj; exact c0
      | 1, hj => simp at hj; subst hj; exact c1
      | 2, hj => simp at hj; subst hj; exact c2
      | 3, hj => simp at hj; subst hj; exact c3
      | 4, hj => simp at hj; subst hj; exact c4
      | 5, hj => simp at hj; subst hj; exact c5
      | j + 6, hj =>
        rw [List.getElem?_append_right (by simp)] at hj
        have := hc j u (by simpa using hj)
        rw [show off + (j + 6) = off + 6 + j from by omega]; exact this
    · intro u hu
      simp only [List.cons_append, List.nil_append, List.mem_cons] at hu
      rcases hu with rfl | rfl | rfl | rfl | rfl | rfl | hu
      all_goals first | rfl | exact ho u hu
theorem own_nodes {ok : Nat → Prop} {w : World} {B : Nat} {v : Value} {xs : List Value} {l : List Rx} (h : w.ownsRow B 27 6 v l.length xs) (hv : RowVals ok w xs l) (hne : l ≠ []) : ∃ g cap, v = .slice (some ⟨g, 0, none⟩) l.length cap ∧ B ≤ g ∧ g < w.heap.size ∧ l.length ≤ cap ∧ NodesAt ok w g 0 l := by
  obtain ⟨_, ⟨rfl, h0⟩ | ⟨g, cap, cur, rfl, hB, hg, hn, hm, hs, ht⟩⟩ := h
  · exact absurd (List.eq_nil_of_length_eq_zero h0) hne
  · refine ⟨g, cap, rfl, hB, (Array.getElem?_eq_some_iff.1 hg).1, hn, nodesAt_of fun i hi => ?_⟩
    obtain ⟨c0, c1, c2, c3, c4, c5, ⟨e0, e1, e2, e3, e4, e5⟩, hr⟩ := hv.2 i hi
    have cell : ∀ o x, o < l.length * 6 → xs[o]? = some x → w.cell? ⟨g, o, none⟩ = some x := by
      intro o x ho hx
      rw [← ht, List.getElem?_take, if_pos ho] at hx
      rw [Lib.cell_of_heap hg, ← Array.getElem?_toList]
      exact hx
    rw [show 0 + i * 6 = i * 6 from by omega]
    exact node_at hr (cell _ _ (by omega) e0) (cell _ _ (by omega) e1) (cell _ _ (by omega) e2) (cell _ _ (by omega) e3) (cell _ _ (by omega) e4) (cell _ _ (by omega) e5)
open Go.RowKit
theorem run_append_at {P : Program} (w : World) (base : Nat) (t ty e : TypeId) (i : TypeInfo) (z : Value) (size bytes : Nat) (ht : P.underlying t = some (.slice e)) (hi : P.info? e = some i) (hz : i.zero = some z)
    (hsize : i.size = size) (hby : i.bytes = bytes) (hzs : z.cells.size = size) (hsz : 0 < size)
    (v : Value) (n : Nat) (xs : List Value) (hown : w.ownsRow base e size v n xs)
    (a : Addr) (m c : Nat) (news : List Value) (hl : news.length = m * size) (hnews : ∀ j u, news[j]? = some u → w.cell? (a.add j) = some u) (h1 : ∀ u ∈ news, u.oneCell' = true)
    (h63 : n + m ≤ maxLen) (hbytes : (n + m) * bytes ≤ 140737488355328) (hbase : base ≤ w.heap.size) (hm : 0 < m) :
    ∃ v' w', (Builtin.append_ #[t, t] ty #[v, .slice (some a) m c]).run P w = .ok v' w' ∧ w'.ownsRow base e size v' (n + m) (xs ++ news) ∧ w.grownBy w' v.ownBlock ∧
      (v'.ownBlock = v.ownBlock ∨ v'.ownBlock = some w.heap.size) := by
  obtain ⟨v', w', hr, h2, h3, -⟩ := run_append_own (P := P) w base t ty e i z size bytes ht hi hz hsize hby hzs hsz v n xs hown a m c news hl hnews h1 h63 hbytes hbase
  refine ⟨v', w', hr, h2, h3, ?_⟩
  subst hsize hby
  unfold maxLen at h63
  rcases hown.2 with ⟨rfl, rfl⟩ | ⟨g, cap, cur, rfl, hbg, hg, hnc, hcm, hcs, htake⟩
  · have hr' := run_append_nil (P := P) w t ty e i z ht hi hz a m c news hl hnews hm (by omega) (by have hb := hbytes; simp only [Nat.zero_add] at hb; omega)
    rw [hr'] at hr
    cases hr
    exact .inr rfl
  · by_cases hroom : n + m ≤ cap
    · have hfit : n * i.size + news.length ≤ cur.size := by rw [hl, hcs, ← Nat.add_mul]; exact Nat.mul_le_mul_right _ hroom
      have hr' := run_append_room (P := P) w t ty e i ht hi g n cap cur hg a m c news hl hnews h1 hroom hfit
      rw [hr'] at hr
      cases hr
      exact .inl rfl
    · have holds : ∀ j u, xs[j]? = some u → w.cell? ((⟨g, 0, none⟩ : Addr).add j) = some u := hown.cells (g := g) rfl
      have hr' := run_append_grow (P := P) w t ty e i z ht hi hz ⟨g, 0, none⟩ n cap xs hown.1 holds a m c news hl hnews (by omega) (by omega) (growslice_fits (by omega) hbytes)
      rw [hr'] at hr
      cases hr
      exact .inr rfl
theorem wpList_append_at {P : Program} {w : World} {ops : Array Oper} {rest : List Oper} {o : Oper} {a : Act} {Q : Exit → Act → World → Prop} (hgd : o.guard = none) (s x : Operand) (t : TypeId)
    (ho : o.op = .call { callee := .builtin .append, args := #[s, x], argTypes := #[t, t] })
    (base : Nat) (e : TypeId) (i : TypeInfo) (z : Value) (size bytes : Nat) (ht : P.underlying t = some (.slice e)) (hi : P.info? e = some i) (hz : i.zero = some z)
    (hsize : i.size = size) (hby : i.bytes = bytes) (hzs : z.cells.size = size) (hsz : 0 < size)
    (v : Value) (n : Nat) (xs : List Value) (hs : a.eval s = v) (hown : w.ownsRow base e size v n xs)
    (ad : Addr) (m c : Nat) (news : List Value) (hx : a.eval x = .slice (some ad) m c) (hl : news.length = m * size) (hnews : ∀ j u, news[j]? = some u → w.cell? (ad.add j) = some u) (h1 : ∀ u ∈ news, u.oneCell' = true)
    (h63 : n + m ≤ maxLen) (hbytes : (n + m) * bytes ≤ 140737488355328) (hbase : base ≤ w.heap.size) (hm : 0 < m)
    (h : ∀ v' w', w'.ownsRow base e size v' (n + m) (xs ++ news) → w.grownBy w' v.ownBlock → (v'.ownBlock = v.ownBlock ∨ v'.ownBlock = some w.heap.size) → wpList P ops Q rest (a.put o.dst v') w') : wpList P ops Q (o :: rest) a w := by
  refine wpList_plain hgd fun _ hK => ?_
  obtain ⟨v', w', hr, h2, h3, h4⟩ := run_append_at (P := P) w base t o.type e i z size bytes ht hi hz hsize hby hzs hsz v n xs hown ad m c news hl hnews h1 h63 hbytes hbase hm
  unfold Oper.wp execOp
  simp only [ho, resolve, invoke, builtin, Sem.run_bind, Sem.run_pure, Result.andThen_ok, List.map_toArray, List.map_cons, List.map_nil, hs, hx, hr]
  exact hK _ _ (h v' w' h2 h3 h4)
open Go.RowKit
theorem infoBl : (Try.prog.info? 4).map (fun i => (i.zero, i.size, i.bytes)) = some (some (.bool false), 1, 1) := by kernel_rfl
def BoolsAt (ok : Nat → Prop) (w : World) (v : Value) (l : List Bool) : Prop := ∃ g cap cur, v = .slice (some ⟨g, 0, none⟩) l.length cap ∧ ok g ∧ w.heap[g]? = some (.cells cur 4) ∧ l.length ≤ maxLen ∧ cur.toList.take l.length = l.map Value.bool
theorem bool_cell {w : World} {g : Nat} {cur : Array Value} {l : List Bool} (hg : w.heap[g]? = some (.cells cur 4)) (ht : cur.toList.take l.length = l.map Value.bool) (i : Nat) (hi : i < l.length) : w.cell? ⟨g, i, none⟩ = some (.bool l[i]) := by
  have e : (cur.toList.take l.length)[i]? = (l.map Value.bool)[i]? := by rw [ht]
  rw [List.getElem?_take, if_pos hi] at e
  rw [Lib.cell_of_heap hg, ← Array.getElem?_toList, e]
  simp [List.getElem?_eq_getElem hi]
theorem BoolsAt.below {ok : Nat → Prop} {w w' : World} {v : Value} {l : List Bool} (h : BoolsAt ok w v l) (hb : Below w.heap.size w w') : BoolsAt ok w' v l := by
  obtain ⟨g, cap, cur, h1, h2, h3, h4, h5⟩ := h
  exact ⟨g, cap, cur, h1, h2, (hb.block g (Array.getElem?_eq_some_iff.1 h3).1).trans h3, h4, h5⟩
theorem BoolsAt.imp {ok ok' : Nat → Prop} {w : World} {v : Value} {l : List Bool} (h : BoolsAt ok w v l) (hi : ∀ g, ok g → ok' g) : BoolsAt ok' w v l := by
  obtain ⟨g, cap, cur, h1, h2, h3⟩ := h
  exact ⟨g, cap, cur, h1, hi g h2, h3⟩
def BlPost (l : List Bool) (w : World) (e : Ending) (w' : World) : Prop := ∃ v, e = .returned v ∧ BoolsAt (fun g => w.heap.size ≤ g) w' v l ∧ Below w.heap.size w w'
theorem made_bools (n : Nat) : madeCells #[.bool false] n = ((List.replicate n false).map Value.bool).toArray := by
  refine Array.ext (by simp [madeCells]) fun i h1 h2 => ?_
  simp [madeCells, Nat.mod_one]
theorem make_bools (n : Nat) (hn : n < 2199023255552) (u : World) : (Instr.makeSlice 57 (.int .i64 (n : Int)) (.int .i64 (n : Int))).run Try.prog u =
    .ok (.slice (some ⟨u.heap.size, 0, none⟩) n n) (u.alloc (.cells (((List.replicate n false).map Value.bool).toArray) 4)) := by
  obtain ⟨i0, hi, hz0, hz1, hz2⟩ := info_parts infoBl
  have h := run_make (P := Try.prog) u 57 4 i0 _ Try.underlying57 hi hz0 .i64 .i64 (n : Int) (n : Int) (by omega) (Int.le_refl _) (by rw [hz2]; omega) (by omega)
  rw [← made_bools]
  simpa [hz1, Value.cells] using h
theorem bools_new (w : World) (l : List Bool) (hl : l.length ≤ maxLen) : BoolsAt (fun g => w.heap.size ≤ g) (w.alloc (.cells ((l.map Value.bool).toArray) 4)) (.slice (some ⟨w.heap.size, 0, none⟩) l.length l.length) l :=
  ⟨w.heap.size, l.length, _, rfl, Nat.le_refl _, blk_new w _, hl, List.take_of_length_le (by simp)⟩
theorem bools_own {w : World} {B : Nat} {v : Value} {l : List Bool} (h0 : 0 < l.length) (h : w.ownsRow B 4 1 v l.length (l.map Value.bool)) : BoolsAt (fun g => B ≤ g) w v l := by
  obtain ⟨_, ⟨rfl, e0⟩ | ⟨g, cap, cur, rfl, hB, hg, hn, hm, hs, ht⟩⟩ := h
  · omega
  · exact ⟨g, cap, cur, rfl, hB, hg, by omega, by simpa using ht⟩
theorem BoolsAt.put {ok : Nat → Prop} {w : World} {g cap n : Nat} {l : List Bool} (h : BoolsAt ok w (.slice (some ⟨g, 0, none⟩) l.length cap) l) (b : Bool) : BoolsAt ok (w.setCell ⟨g, n, none⟩ (.bool b)) (.slice (some ⟨g, 0, none⟩) l.length cap) (l.set n b) := by
  obtain ⟨g', cap', cur, e, h1, h2, h3, h4⟩ := h
  injection e with e1 e2 e3
  injection e1 with e1
  injection e1 with e1
  subst e1
  refine ⟨g, cap, cur.setIfInBounds n (.bool b), by simp, h1, ?_, by simpa using h3, ?_⟩
  · simp [World.setCell, Array.getElem?_modify, h2]
  · rw [Array.toList_setIfInBounds, List.take_set, List.length_set, h4, List.map_set]
set_option maxHeartbeats 2000000 in
set_option maxRecDepth 100000 in
theorem mark_any {ok : Nat → Prop} (l : List Bool) (n : Nat) (v : Value) (w : World) (hn : n < l.length) (hl : l.length ≤ 1000000) (h : BoolsAt ok w v l) :
    Calls Try.prog 47 #[v, .int .i64 (n : Int)] w (BlPost (l.set n true) w) := by
  obtain ⟨i0, hi, hz0, hz1, hz2⟩ := info_parts infoBl
  have hz2' := Lib.hid hz2
  obtain ⟨g, cap, cur, rfl, _, hg, _, ht⟩ := h
  have hlt : g < w.heap.size := (Array.getElem?_eq_some_iff.1 hg).1
  have hc := bool_cell hg ht
  have hown : (w.alloc (.cells #[] 4)).ownsRow w.heap.size 4 1 (.slice (some ⟨w.heap.size, 0, none⟩) 0 0) 0 [] := ⟨rfl, .inr ⟨w.heap.size, 0, #[], rfl, Nat.le_refl _, blk_new w _, Nat.le_refl _, Nat.zero_le _, rfl, rfl⟩⟩
  have HO := Lib.hid hown
  have HC := Lib.hid fun (j : Nat) (u : Value) (hj : (l.map Value.bool)[j]? = some u) => show (w.alloc (.cells #[] 4)).cell? ((⟨g, 0, none⟩ : Addr).add j) = some u from by
    obtain ⟨hj1, hj2⟩ := List.getElem?_eq_some_iff.1 hj
    have hj3 : j < l.length := by simpa using hj1
    rw [Go.WideShapes.add_plain, Nat.zero_add, ((Below.refl _ w).alloc (Nat.le_refl _) _).cell (p := ⟨g, j, none⟩) hlt, hc j hj3, ← hj2]
    simp
  clear hc hown hg ht cur
  go_enter Try.func47, Try.ntmps47
  go_wp2_with (at_builtin; refine wpList_append_own _ rfl _ _ 57 rfl w.heap.size 4 i0 (.bool false) 1 1 Try.underlying57 hi hz0 hz1 hz2'.out rfl (by decide) _ _ _ rfl HO.out ⟨g, 0, none⟩ l.length cap (l.map Value.bool) rfl ?c1 HC.out ?c3 ?c4 ?c5 ?c6 ?_)
  case c1 => simp
  case c3 => intro u hu; obtain ⟨b, _, rfl⟩ := List.mem_map.1 hu; rfl
  case c4 => unfold maxLen; omega
  case c5 => omega
  case c6 => simp
  intro v1 w1 g1 g2 _
  have hb1 : Below w.heap.size w w1 := ((Below.refl _ w).alloc (Nat.le_refl _) (.cells #[] 4)).grown g2 (by simp) (fun g' hg' => by simp [Value.ownBlock] at hg'; omega)
  have B1 := bools_own (by omega) g1
  obtain ⟨g', cap', cur', e, hg', hh', hm', ht'⟩ := id B1
  subst e
  have c0 := bool_cell hh' ht' n hn
  have f0 : w1.frozen? ⟨g', n, none⟩ = false := Lib.frozen_of_heap hh' n
  have HB := Lib.hid (B1.put (n := n) true)
  have HW := Lib.hid (hb1.setCell (p := ⟨g', n, none⟩) hg' (.bool true))
  clear g1 g2 B1 hh' ht' HC HO hb1
  have hn1 : (0 : Int) ≤ (n : Int) := by omega
  have hn2 : ((n : Int)).toNat = n := by omega
  go_wp2
  go_ret
  exact ⟨_, rfl, by simpa using HB.out, HW.out⟩
end Go.Proofs.Ytiegejbbjlhpdaa
