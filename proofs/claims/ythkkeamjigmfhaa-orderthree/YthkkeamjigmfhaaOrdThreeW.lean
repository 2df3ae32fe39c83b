/- quilllaw04.OrderThree, walked. -/
import Derived.Test.YthkkeamjigmfhaaOrdTwoW
namespace Go.Proofs.Ythkkeamjigmfhaa
open Go.RowKit
/-- Three blocks of one's own, and all that was there. -/
def Boxes3 (w W : World) (X Y Z : Obj) : Prop := Below w.heap.size w W ∧ W.heap[w.heap.size]? = some X ∧ W.heap[w.heap.size + 1]? = some Y ∧ W.heap[w.heap.size + 1 + 1]? = some Z
theorem Boxes3.go {w W W' : World} {X Y Z : Obj} (h : Boxes3 w W X Y Z) (hb : Below W.heap.size W W') : Boxes3 w W' X Y Z := by
  obtain ⟨h1, h2, h3, h4⟩ := h
  exact ⟨h1.trans (hb.mono h1.size), (hb.block _ (Array.getElem?_eq_some_iff.1 h2).1).trans h2, (hb.block _ (Array.getElem?_eq_some_iff.1 h3).1).trans h3, (hb.block _ (Array.getElem?_eq_some_iff.1 h4).1).trans h4⟩
theorem Boxes3.new (w : World) (X Y Z : Obj) : Boxes3 w (((w.alloc X).alloc Y).alloc Z) X Y Z :=
  ⟨(((Below.refl _ w).alloc (Nat.le_refl _) _).alloc (by simp) _).alloc (by simp; omega) _, (Below.heap_alloc _ _ _ (by simp; omega)).trans ((Below.heap_alloc _ _ _ (by simp)).trans (blk_new w _)), (Below.heap_alloc _ _ _ (by simp)).trans (blk_at _ _ (by simp)), blk_at _ _ (by simp)⟩
set_option maxHeartbeats 2000000 in
theorem orderThree_walk {ok : Nat → Prop} (a b c : Rx) (v u t : Value) (w : World) (h : ReAt ok w v a) (h' : ReAt ok w u b) (h'' : ReAt ok w t c) :
    Calls Try.prog 4 #[v, u, t] w fun e w' => e = .returned (.bool true) ∧ Below w.heap.size w w' := by
  obtain ⟨x0, x1, x2, x3, x4, xl, xn, xc, rfl⟩ := cells_re h
  obtain ⟨y0, y1, y2, y3, y4, yl, yn, yc, rfl⟩ := cells_re h'
  obtain ⟨z0, z1, z2, z3, z4, zl, zn, zc, rfl⟩ := cells_re h''
  have G1 := Lib.hid fun W (hb : Below w.heap.size w W) => great_any a 200 _ W (h.below hb) (by decide)
  have G2 := Lib.hid fun W (hb : Below w.heap.size w W) => great_any b 200 _ W (h'.below hb) (by decide)
  have G3 := Lib.hid fun W (hb : Below w.heap.size w W) => great_any c 200 _ W (h''.below hb) (by decide)
  have S1 := Lib.hid fun W (hb : Below w.heap.size w W) => twoX a b _ _ W (h.below hb) (h'.below hb)
  have S2 := Lib.hid fun W (hb : Below w.heap.size w W) => twoX b c _ _ W (h'.below hb) (h''.below hb)
  have S3 := Lib.hid fun W (hb : Below w.heap.size w W) => twoX a c _ _ W (h.below hb) (h''.below hb)
  have KA := Lib.hid awake4_any
  have TR := Lib.hid (ordR_trans a b c)
  clear h h' h''
  generalize ordR a b = q1 at *
  generalize ordR b c = q2 at *
  generalize ordR a c = q3 at *
  go_enter Try.func4, Try.ntmps4
  go_wp2_with fail
  have B := Lib.hid (Boxes3.new w (.cells #[.int .u8 x0, .int .u64 x1, .int .u64 x2, .int .u64 x3, .int .u64 x4, .slice xl xn xc] 27) (.cells #[.int .u8 y0, .int .u64 y1, .int .u64 y2, .int .u64 y3, .int .u64 y4, .slice yl yn yc] 27) (.cells #[.int .u8 z0, .int .u64 z1, .int .u64 z2, .int .u64 z3, .int .u64 z4, .slice zl zn zc] 27))
  obtain ⟨d0, d1, d2, d3, d4, d5, -⟩ := cellsR B.out.2.1
  obtain ⟨g0, g1, g2, g3, g4, g5, -⟩ := cellsR B.out.2.2.1
  obtain ⟨k0, k1, k2, k3, k4, k5, -⟩ := cellsR B.out.2.2.2
  refine (G1.out _ B.out.1).mono ?_
  rintro e w' ⟨⟨p, rfl, -⟩, hb⟩
  replace B := Lib.hid (B.out.go hb)
  clear hb d0 d1 d2 d3 d4 d5 g0 g1 g2 g3 g4 g5 k0 k1 k2 k3 k4 k5
  obtain ⟨d0, d1, d2, d3, d4, d5, -⟩ := cellsR B.out.2.1
  obtain ⟨g0, g1, g2, g3, g4, g5, -⟩ := cellsR B.out.2.2.1
  obtain ⟨k0, k1, k2, k3, k4, k5, -⟩ := cellsR B.out.2.2.2
  cases p with
  | true =>
    go_wp2_with fail
    refine (KA.out _).mono ?_
    rintro e w2 ⟨rfl, hb⟩
    have hB := (B.out.go hb).1
    clear hb d0 d1 d2 d3 d4 d5 g0 g1 g2 g3 g4 g5 k0 k1 k2 k3 k4 k5
    go_wp2
    go_ret
    exact ⟨rfl, hB⟩
  | false =>
    go_wp2_with fail
    refine (G2.out _ B.out.1).mono ?_
    rintro e w' ⟨⟨p, rfl, -⟩, hb⟩
    replace B := Lib.hid (B.out.go hb)
    clear hb d0 d1 d2 d3 d4 d5 g0 g1 g2 g3 g4 g5 k0 k1 k2 k3 k4 k5
    obtain ⟨d0, d1, d2, d3, d4, d5, -⟩ := cellsR B.out.2.1
    obtain ⟨g0, g1, g2, g3, g4, g5, -⟩ := cellsR B.out.2.2.1
    obtain ⟨k0, k1, k2, k3, k4, k5, -⟩ := cellsR B.out.2.2.2
    cases p with
    | true =>
      go_wp2_with fail
      refine (KA.out _).mono ?_
      rintro e w2 ⟨rfl, hb⟩
      have hB := (B.out.go hb).1
      clear hb d0 d1 d2 d3 d4 d5 g0 g1 g2 g3 g4 g5 k0 k1 k2 k3 k4 k5
      go_wp2
      go_ret
      exact ⟨rfl, hB⟩
    | false =>
      go_wp2_with fail
      refine (G3.out _ B.out.1).mono ?_
      rintro e w' ⟨⟨p, rfl, -⟩, hb⟩
      replace B := Lib.hid (B.out.go hb)
      clear hb d0 d1 d2 d3 d4 d5 g0 g1 g2 g3 g4 g5 k0 k1 k2 k3 k4 k5
      obtain ⟨d0, d1, d2, d3, d4, d5, -⟩ := cellsR B.out.2.1
      obtain ⟨g0, g1, g2, g3, g4, g5, -⟩ := cellsR B.out.2.2.1
      obtain ⟨k0, k1, k2, k3, k4, k5, -⟩ := cellsR B.out.2.2.2
      cases p with
      | true =>
        go_wp2_with fail
        refine (KA.out _).mono ?_
        rintro e w2 ⟨rfl, hb⟩
        have hB := (B.out.go hb).1
        clear hb d0 d1 d2 d3 d4 d5 g0 g1 g2 g3 g4 g5 k0 k1 k2 k3 k4 k5
        go_wp2
        go_ret
        exact ⟨rfl, hB⟩
      | false =>
        go_wp2_with fail
        refine (S1.out _ B.out.1).mono ?_
        rintro e w' ⟨rfl, hb⟩
        replace B := Lib.hid (B.out.go hb)
        clear hb d0 d1 d2 d3 d4 d5 g0 g1 g2 g3 g4 g5 k0 k1 k2 k3 k4 k5
        obtain ⟨d0, d1, d2, d3, d4, d5, -⟩ := cellsR B.out.2.1
        obtain ⟨g0, g1, g2, g3, g4, g5, -⟩ := cellsR B.out.2.2.1
        obtain ⟨k0, k1, k2, k3, k4, k5, -⟩ := cellsR B.out.2.2.2
        by_cases hq1 : q1 ≤ 0
        · have f1 : decide (q1 ≤ 0) = true := by simpa using hq1
          go_wp2_with fail
          refine (S2.out _ B.out.1).mono ?_
          rintro e w' ⟨rfl, hb⟩
          replace B := Lib.hid (B.out.go hb)
          clear hb d0 d1 d2 d3 d4 d5 g0 g1 g2 g3 g4 g5 k0 k1 k2 k3 k4 k5
          obtain ⟨d0, d1, d2, d3, d4, d5, -⟩ := cellsR B.out.2.1
          obtain ⟨g0, g1, g2, g3, g4, g5, -⟩ := cellsR B.out.2.2.1
          obtain ⟨k0, k1, k2, k3, k4, k5, -⟩ := cellsR B.out.2.2.2
          by_cases hq2 : q2 ≤ 0
          · have f2 : decide (q2 ≤ 0) = true := by simpa using hq2
            have f3 : decide (q3 ≤ 0) = true := by simpa using TR.out hq1 hq2
            go_wp2_with fail
            refine (S3.out _ B.out.1).mono ?_
            rintro e w' ⟨rfl, hb⟩
            replace B := Lib.hid (B.out.go hb)
            clear hb d0 d1 d2 d3 d4 d5 g0 g1 g2 g3 g4 g5 k0 k1 k2 k3 k4 k5
            obtain ⟨d0, d1, d2, d3, d4, d5, -⟩ := cellsR B.out.2.1
            obtain ⟨g0, g1, g2, g3, g4, g5, -⟩ := cellsR B.out.2.2.1
            obtain ⟨k0, k1, k2, k3, k4, k5, -⟩ := cellsR B.out.2.2.2
            go_wp2_with fail
            refine (KA.out _).mono ?_
            rintro e w2 ⟨rfl, hb⟩
            have hB := (B.out.go hb).1
            clear hb d0 d1 d2 d3 d4 d5 g0 g1 g2 g3 g4 g5 k0 k1 k2 k3 k4 k5
            go_wp2
            go_ret
            exact ⟨rfl, hB⟩
          · have f2 : decide (q2 ≤ 0) = false := by simpa using hq2
            go_wp2_with fail
            refine (KA.out _).mono ?_
            rintro e w2 ⟨rfl, hb⟩
            have hB := (B.out.go hb).1
            clear hb d0 d1 d2 d3 d4 d5 g0 g1 g2 g3 g4 g5 k0 k1 k2 k3 k4 k5
            go_wp2
            go_ret
            exact ⟨rfl, hB⟩
        · have f1 : decide (q1 ≤ 0) = false := by simpa using hq1
          go_wp2_with fail
          refine (KA.out _).mono ?_
          rintro e w2 ⟨rfl, hb⟩
          have hB := (B.out.go hb).1
          clear hb d0 d1 d2 d3 d4 d5 g0 g1 g2 g3 g4 g5 k0 k1 k2 k3 k4 k5
          go_wp2
          go_ret
          exact ⟨rfl, hB⟩
end Go.Proofs.Ythkkeamjigmfhaa
