/- rex.Many and rex.Size. -/
import Derived.Test.YtdkdgbiagjflgaaDoorRexG
namespace Go.Proofs.YtdkdgbiagjflgaaDoor
open Go.RowKit
/-- The world behind a Star that is made in a result block. -/
def manyW (w1 : World) (g : Nat) (x0 x1 x2 x3 x4 x5 : Value) : World :=
  (putW w1 g (.int .u8 6) (.int .u64 0) (.int .u64 0) (.int .u64 0) (.int .u64 0) (.slice (some ⟨w1.heap.size, 0, none⟩) 1 1)).alloc (.cells #[x0, x1, x2, x3, x4, x5] 30)
theorem many_step {n0 g : Nat} {w w1 : World} {x0 x1 x2 x3 x4 x5 : Value} {r : Rx} (hn0 : n0 ≤ g) (hlt : g < w1.heap.size) (hv : ReAt (Own n0 g) w1 (.agg #[x0, x1, x2, x3, x4, x5]) r) (hn : w1.heap[g]? = some nilBlk) (hb : Below n0 w w1) :
    (manyW w1 g x0 x1 x2 x3 x4 x5).heap[g]? = some (.cells #[.int .u8 6, .int .u64 0, .int .u64 0, .int .u64 0, .int .u64 0, .slice (some ⟨w1.heap.size, 0, none⟩) 1 1] 30) ∧
    ReAt (New n0) (manyW w1 g x0 x1 x2 x3 x4 x5) (.agg #[.int .u8 6, .int .u64 0, .int .u64 0, .int .u64 0, .int .u64 0, .slice (some ⟨w1.heap.size, 0, none⟩) 1 1]) (.node 6 Ws.nil [r]) ∧ Below n0 w (manyW w1 g x0 x1 x2 x3 x4 x5) := by
  have hsz := putW_size w1 g (.int .u8 6) (.int .u64 0) (.int .u64 0) (.int .u64 0) (.int .u64 0) (.slice (some ⟨w1.heap.size, 0, none⟩) 1 1)
  refine ⟨(Below.heap_alloc _ _ _ (by rw [hsz]; exact hlt)).trans (putR hn _ _ _ _ _ _), ⟨by decide, Ws.nil_ok, _, _, rfl, Nat.le_refl _, by simp, row_one (blk_at _ _ hsz.symm) ?_ ?_⟩, (putB hb hn0 _ _ _ _ _ _).alloc (by rw [hsz]; omega) _⟩
  · unfold New; omega
  · refine hv.go ⟨by unfold manyW; rw [World.size_alloc, hsz]; omega, fun b h1 h2 => ⟨?_, (Below.heap_alloc _ _ _ (by rw [hsz]; exact h1)).trans (putW_other _ _ _ _ _ _ _ _ h2.2)⟩⟩
    unfold Own at h2; unfold New; omega
set_option maxHeartbeats 1000000 in
theorem manyX_any {ok : Nat → Prop} (r : Rx) (v : Value) (w : World) (h : ReAt ok w v r) :
    Calls Tryd.prog 20 #[v] w (NewPost (.node 6 Ws.nil [r]) w) := by
  obtain ⟨y0, y1, y2, y3, y4, yl, yn, yc, rfl⟩ := cells_re h
  have KC := Lib.hid fun W (hb : Below w.heap.size w W) => cloneR r _ W (h.below hb)
  clear h
  go_enter Tryd.func20, Tryd.ntmps20
  go_wp2_with fail
  refine (KC.out _ (((Below.refl _ w).alloc (Nat.le_refl _) _).alloc (by simp) _)).mono ?_
  rintro e w1 ⟨v, rfl, hv, hb1⟩
  obtain ⟨x0, x1, x2, x3, x4, bl, n', cp, rfl⟩ := cells_re hv
  have hn : w1.heap[w.heap.size + 1]? = some nilBlk := (hb1.block _ (by simp)).trans (blk_at _ _ (by simp))
  have hs := hb1.size
  simp at hs
  have hbw : Below w.heap.size w w1 := (((Below.refl _ w).alloc (Nat.le_refl _) _).alloc (by simp) _).trans (hb1.mono (by simp; omega))
  obtain ⟨g0, g1, g2, g3, g4, g5, p0, p1, p2, p3, p4, p5⟩ := cellsR hn
  have hlt : w.heap.size + 1 < w1.heap.size := by omega
  obtain ⟨s1, s2, s3⟩ := many_step (g := w.heap.size + 1) (n0 := w.heap.size) (r := r) (by omega) (by omega) (by
    refine hv.imp fun b _ h => ?_
    unfold New at h; simp at h; unfold Own; omega) hn hbw
  unfold manyW putW at s1 s2 s3
  have HS1 := Lib.hid s1
  have HS2 := Lib.hid s2
  have HS3 := Lib.hid s3
  clear hv hn hbw hb1 s1 s2 s3
  go_wp2
  exact ret_re HS1.out Tryd.results20 rfl rfl ⟨_, rfl, HS2.out, HS3.out⟩
def sizeInv (l : List Rx) (w : World) (x y : Value) (wr : World) : Prop := ∃ i m : Nat, i ≤ l.length ∧ m = l.length + Rx.sizes ((l.take i).flatMap Rx.kids) ∧ x = .int .i64 (wrap64 (m : Int)) ∧ y = .int .i64 i ∧ Below w.heap.size w wr
theorem sizes_kids (l : List Rx) : Rx.sizes l = l.length + Rx.sizes (l.flatMap Rx.kids) := by
  induction l with
  | nil => simp [Rx.sizes]
  | cons r t ih =>
    obtain ⟨k, s, ks⟩ := r
    simp only [Rx.sizes, Rx.size, List.flatMap_cons, sizes_append, List.length_cons, Rx.kids, ih]
    omega
theorem wrap_add (a b : Nat) : wrap64 (wrap64 (a : Int) + wrap64 (b : Int)) = wrap64 ((a + b : Nat) : Int) := by unfold wrap64; omega
end Go.Proofs.YtdkdgbiagjflgaaDoor
