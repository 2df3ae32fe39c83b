/- quilllaw04.OrderTwo, walked. -/
import Derived.Test.YthkkeamjigmfhaaOrdAw
namespace Go.Proofs.Ythkkeamjigmfhaa
open Go.RowKit
/-- Two blocks of one's own, and all that was there. -/
def Boxes (w W : World) (X Y : Obj) : Prop := Below w.heap.size w W ∧ W.heap[w.heap.size]? = some X ∧ W.heap[w.heap.size + 1]? = some Y
theorem Boxes.go {w W W' : World} {X Y : Obj} (h : Boxes w W X Y) (hb : Below W.heap.size W W') : Boxes w W' X Y := by
  obtain ⟨h1, h2, h3⟩ := h
  exact ⟨h1.trans (hb.mono h1.size), (hb.block _ (Array.getElem?_eq_some_iff.1 h2).1).trans h2, (hb.block _ (Array.getElem?_eq_some_iff.1 h3).1).trans h3⟩
theorem Boxes.new (w : World) (X Y : Obj) : Boxes w ((w.alloc X).alloc Y) X Y :=
  ⟨((Below.refl _ w).alloc (Nat.le_refl _) _).alloc (by simp) _, (Below.heap_alloc _ _ _ (by simp)).trans (blk_new w _), blk_at _ _ (by simp)⟩
theorem ord_same (a b : Rx) : ((ordR a b == 0) == sameR a b) = true := by
  rw [beq_iff_eq, Bool.eq_iff_iff, sameR_iff, beq_iff_eq, ordR_zero]
theorem ord_wrap (a b : Rx) : IntKind.i64.wrap (-ordR a b) = -ordR a b := by
  rcases ordR_three a b with h | h | h <;> rw [h] <;> rfl
set_option maxHeartbeats 2000000 in
theorem orderTwo_walk {ok : Nat → Prop} (a b : Rx) (v u : Value) (w : World) (h : ReAt ok w v a) (h' : ReAt ok w u b) :
    Calls Try.prog 3 #[v, u] w fun e w' => e = .returned (.bool true) ∧ Below w.heap.size w w' := by
  obtain ⟨x0, x1, x2, x3, x4, xl, xn, xc, rfl⟩ := cells_re h
  obtain ⟨y0, y1, y2, y3, y4, yl, yn, yc, rfl⟩ := cells_re h'
  have G1 := Lib.hid fun W (hb : Below w.heap.size w W) => great_any a 200 _ W (h.below hb) (by decide)
  have G2 := Lib.hid fun W (hb : Below w.heap.size w W) => great_any b 200 _ W (h'.below hb) (by decide)
  have S1 := Lib.hid fun W (hb : Below w.heap.size w W) => twoX a b _ _ W (h.below hb) (h'.below hb)
  have S0 := Lib.hid fun W (hb : Below w.heap.size w W) => refTwoX a b _ _ W (h.below hb) (h'.below hb)
  have S2 := Lib.hid fun W (hb : Below w.heap.size w W) => twoX b a _ _ W (h'.below hb) (h.below hb)
  have S3 := Lib.hid fun W (hb : Below w.heap.size w W) => refSame_any a.size a b (Nat.le_refl _) _ _ W (h.below hb) (h'.below hb)
  have KA := Lib.hid awake4_any
  have Z := Lib.hid (ord_same a b)
  have NEG := Lib.hid (ord_wrap a b)
  rw [ordR_neg a b] at S2
  clear h h'
  generalize sameR a b = z at *
  generalize ordR a b = q at *
  go_enter Try.func3, Try.ntmps3
  go_wp2_with fail
  have B := Lib.hid (Boxes.new w (.cells #[.int .u8 x0, .int .u64 x1, .int .u64 x2, .int .u64 x3, .int .u64 x4, .slice xl xn xc] 27) (.cells #[.int .u8 y0, .int .u64 y1, .int .u64 y2, .int .u64 y3, .int .u64 y4, .slice yl yn yc] 27))
  obtain ⟨d0, d1, d2, d3, d4, d5, -⟩ := cellsR B.out.2.1
  obtain ⟨g0, g1, g2, g3, g4, g5, -⟩ := cellsR B.out.2.2
  refine (G1.out _ B.out.1).mono ?_
  rintro e w' ⟨⟨p, rfl, -⟩, hb⟩
  replace B := Lib.hid (B.out.go hb)
  clear hb d0 d1 d2 d3 d4 d5 g0 g1 g2 g3 g4 g5
  obtain ⟨d0, d1, d2, d3, d4, d5, -⟩ := cellsR B.out.2.1
  obtain ⟨g0, g1, g2, g3, g4, g5, -⟩ := cellsR B.out.2.2
  cases p with
  | true =>
    go_wp2_with fail
    refine (KA.out _).mono ?_
    rintro e w2 ⟨rfl, hb⟩
    have hB := (B.out.go hb).1
    clear hb d0 d1 d2 d3 d4 d5 g0 g1 g2 g3 g4 g5
    go_wp2
    go_ret
    exact ⟨rfl, hB⟩
  | false =>
    go_wp2_with fail
    refine (G2.out _ B.out.1).mono ?_
    rintro e w' ⟨⟨p, rfl, -⟩, hb⟩
    replace B := Lib.hid (B.out.go hb)
    clear hb d0 d1 d2 d3 d4 d5 g0 g1 g2 g3 g4 g5
    obtain ⟨d0, d1, d2, d3, d4, d5, -⟩ := cellsR B.out.2.1
    obtain ⟨g0, g1, g2, g3, g4, g5, -⟩ := cellsR B.out.2.2
    cases p with
    | true =>
      go_wp2_with fail
      refine (KA.out _).mono ?_
      rintro e w2 ⟨rfl, hb⟩
      have hB := (B.out.go hb).1
      clear hb d0 d1 d2 d3 d4 d5 g0 g1 g2 g3 g4 g5
      go_wp2
      go_ret
      exact ⟨rfl, hB⟩
    | false =>
      go_wp2_with fail
      refine (S1.out _ B.out.1).mono ?_
      rintro e w' ⟨rfl, hb⟩
      replace B := Lib.hid (B.out.go hb)
      clear hb d0 d1 d2 d3 d4 d5 g0 g1 g2 g3 g4 g5
      obtain ⟨d0, d1, d2, d3, d4, d5, -⟩ := cellsR B.out.2.1
      obtain ⟨g0, g1, g2, g3, g4, g5, -⟩ := cellsR B.out.2.2
      have e1 : (q == q) = true := by simp
      have e2 : (-q == -q) = true := by simp
      have e3 : ((q == 0) == z) = true := Z.out
      have e4 : IntKind.i64.wrap (-q) = -q := NEG.out
      go_wp2_with fail
      refine (S0.out _ B.out.1).mono ?_
      rintro e w' ⟨rfl, hb⟩
      replace B := Lib.hid (B.out.go hb)
      clear hb d0 d1 d2 d3 d4 d5 g0 g1 g2 g3 g4 g5
      obtain ⟨d0, d1, d2, d3, d4, d5, -⟩ := cellsR B.out.2.1
      obtain ⟨g0, g1, g2, g3, g4, g5, -⟩ := cellsR B.out.2.2
      go_wp2_with fail
      refine (S2.out _ B.out.1).mono ?_
      rintro e w' ⟨rfl, hb⟩
      replace B := Lib.hid (B.out.go hb)
      clear hb d0 d1 d2 d3 d4 d5 g0 g1 g2 g3 g4 g5
      obtain ⟨d0, d1, d2, d3, d4, d5, -⟩ := cellsR B.out.2.1
      obtain ⟨g0, g1, g2, g3, g4, g5, -⟩ := cellsR B.out.2.2
      go_wp2_with fail
      refine (S3.out _ B.out.1).mono ?_
      rintro e w' ⟨rfl, hb⟩
      replace B := Lib.hid (B.out.go hb)
      clear hb d0 d1 d2 d3 d4 d5 g0 g1 g2 g3 g4 g5
      obtain ⟨d0, d1, d2, d3, d4, d5, -⟩ := cellsR B.out.2.1
      obtain ⟨g0, g1, g2, g3, g4, g5, -⟩ := cellsR B.out.2.2
      go_wp2_with fail
      refine (KA.out _).mono ?_
      rintro e w2 ⟨rfl, hb⟩
      have hB := (B.out.go hb).1
      clear hb d0 d1 d2 d3 d4 d5 g0 g1 g2 g3 g4 g5
      go_wp2
      go_ret
      exact ⟨rfl, hB⟩
end Go.Proofs.Ythkkeamjigmfhaa
