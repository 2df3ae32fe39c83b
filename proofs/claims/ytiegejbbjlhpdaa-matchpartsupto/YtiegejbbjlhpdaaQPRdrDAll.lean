/- Lemmas of mine, merged: QPRdrD, QPRdrH, QPRdrI, QPRdrJ, QPRdrK, QPRdrL. -/
import Derived.Shelf.RegionOpenPlain
import Derived.Test.YtiegejbbjlhpdaaQPRdrCAll
import Derived.Test.YtiegejbbjlhpdaaQPRexEAll
import Derived.StillTailTactics
/- Lemmas of mine. -/
namespace Go.Proofs.Ytiegejbbjlhpdaa
open Go.RowKit
theorem infoR2 : ∃ i z, Try.prog.info? 27 = some i ∧ i.zero = some z ∧ i.size = 6 ∧ i.bytes = 64 ∧ z.cells.size = 6 := by
  obtain ⟨i0, hi0, hz0, hz1, hz2⟩ := info_parts infoR
  exact ⟨i0, _, hi0, hz0, hz1, hz2, rfl⟩
theorem grown_below {B : Nat} {w w1 wA w2 : World} {v : Value} (hbw : Below w.heap.size w w1) (hB : B ≤ w.heap.size) (hA : Below w1.heap.size w1 wA) (hgrow : wA.grownBy w2 v.ownBlock) (hv : ∀ g, v.ownBlock = some g → B ≤ g) : Below B w w2 :=
  Below.grown ((hbw.mono hB).trans (hA.mono (Nat.le_trans hB hbw.size))) hgrow (Nat.le_trans hB (Nat.le_trans hbw.size hA.size)) hv
theorem row_ge {B : Nat} {col : Nat → Nat} {c : Nat} {w : World} {v : Value} {l : List Ex} (h : RwC B col c w v l) : ∀ g, v.ownBlock = some g → B ≤ g := by
  obtain ⟨xs, h1, _, _⟩ := h
  exact ownR_ge h1
theorem add_closeA {B D : Nat} {col : Nat → Nat} {w w1 w2 : World} {s : ByteArray} {k G cap : Nat} {vlow : List (Value × Value)} {vr vp : Value} {low : List Lv} {top : Lv} {o : Obj} (hS : StC B D col w1 s k G cap vlow vr vp low top) {a : Ex} {xs : List Value} {x0 x1 x2 x3 x4 x5 z0 z1 z2 z3 z4 z5 : Value} {g' cap' : Nat} (hvals : RowVals (Tree B col) w1 xs (top.parts.map Ex.rx)) (hcol : ∀ g, vp.ownBlock = some g → col g = 4 + 2 * low.length) (hre : ReAt (Tree B col) w1 (.agg #[x0, x1, x2, x3, x4, x5]) a.rx)
    (hbw : Below w.heap.size w w1) (how : w2.ownsRow B 27 6 (.slice (some ⟨g', 0, none⟩) (top.parts.length + 1) cap') (top.parts.length + 1) (xs ++ [z0, z1, z2, z3, z4, z5])) (hgrow : (w1.alloc o).drew.grownBy w2 vp.ownBlock) (hat : vp.ownBlock = some g' ∨ g' = (w1.alloc o).drew.heap.size) (hlen : xs.length = top.parts.length * 6) (hne : ¬ G = g') (hB : B ≤ w.heap.size) (hn : low.length < 1000000) :
    StepPost B D col w s k low ⟨top.rows, top.parts ++ [a]⟩ (.returned (.tuple #[])) (((((((w2.setCell ⟨g', top.parts.length * 6, none⟩ x0).setCell ⟨g', top.parts.length * 6 + 1, none⟩ x1).setCell ⟨g', top.parts.length * 6 + 2, none⟩ x2).setCell ⟨g', top.parts.length * 6 + 3, none⟩ x3).setCell ⟨g', top.parts.length * 6 + 4, none⟩ x4).setCell ⟨g', top.parts.length * 6 + 5, none⟩ x5).setCell ⟨G, low.length * 2 + 1, none⟩ (.slice (some ⟨g', 0, none⟩) (top.parts.length + 1) cap')) := by
  show StepPost B D col w s k low ⟨top.rows, top.parts ++ [a]⟩ (.returned (.tuple #[])) ((put6 w2 g' (top.parts.length * 6) x0 x1 x2 x3 x4 x5).setCell ⟨G, low.length * 2 + 1, none⟩ (.slice (some ⟨g', 0, none⟩) (top.parts.length + 1) cap'))
  have hA := alloc_drew_below w1 o
  obtain ⟨s1, s2, s3, s4, s5, s6⟩ := hS.sizes
  obtain ⟨f1, _, f3⟩ := grown_far hA hgrow hat hcol s3 (by rw [hS.cG]; omega)
  have hBg := (own_lt how).1
  have hput := own_put6 hlen how x0 x1 x2 x3 x4 x5
  have hL := own_set (own_levels hS.own ((put6_other w2 g' (top.parts.length * 6) x0 x1 x2 x3 x4 x5 hne).trans f1)) (low.length * 2 + 1) (.slice (some ⟨g', 0, none⟩) (top.parts.length + 1) cap')
  rw [set_parts s6] at hL
  have hR := own_row (w' := (put6 w2 g' (top.parts.length * 6) x0 x1 x2 x3 x4 x5).setCell ⟨G, low.length * 2 + 1, none⟩ (.slice (some ⟨g', 0, none⟩) (top.parts.length + 1) cap')) hput (Below.heap_setCell _ _ _ _ f3)
  have hsz3 : w2.heap.size ≤ ((put6 w2 g' (top.parts.length * 6) x0 x1 x2 x3 x4 x5).setCell ⟨G, low.length * 2 + 1, none⟩ (.slice (some ⟨g', 0, none⟩) (top.parts.length + 1) cap')).heap.size := by simp [World.setCell, put6_size]
  have hfar : ∀ b, b ≠ g' → b ≠ G → ((put6 w2 g' (top.parts.length * 6) x0 x1 x2 x3 x4 x5).setCell ⟨G, low.length * 2 + 1, none⟩ (.slice (some ⟨g', 0, none⟩) (top.parts.length + 1) cap')).heap[b]? = w2.heap[b]? := fun b h1 h2 => by rw [Below.heap_setCell _ _ _ _ h2, put6_other _ _ _ _ _ _ _ _ _ h1]
  refine ⟨rfl, ?_, _, _, _, _, _, _, Frm.pre hbw ((grown_frame hA hgrow hat hcol hsz3 hfar hS.cG).mono fun x hx => wk_of (by omega) (by omega)), hS.added hvals hcol hre hA hgrow hat hsz3 hfar hR hL⟩
  exact (put6_below (grown_below hbw hB hA hgrow (row_ge hS.tp.2)) hBg _ _ _ _ _ _ _).setCell (p := ⟨G, low.length * 2 + 1, none⟩) s4 _
theorem add_closeB {B D : Nat} {col : Nat → Nat} {w w1 w2 : World} {s : ByteArray} {k G cap : Nat} {vlow : List (Value × Value)} {vr vp : Value} {low : List Lv} {top : Lv} {o : Obj} (hS : StC B D col w1 s k G cap vlow vr vp low top) {a : Ex} {xs : List Value} {x0 x1 x2 x3 x4 x5 z0 z1 z2 z3 z4 z5 : Value} {g' cap' : Nat} (hvals : RowVals (Tree B col) w1 xs (top.parts.map Ex.rx)) (hcol : ∀ g, vp.ownBlock = some g → col g = 4 + 2 * low.length) (hre : ReAt (Tree B col) w1 (.agg #[x0, x1, x2, x3, x4, x5]) a.rx)
    (hbw : Below w.heap.size w w1) (how : w2.ownsRow B 27 6 (.slice (some ⟨g', 0, none⟩) (top.parts.length + 1) cap') (top.parts.length + 1) (xs ++ [z0, z1, z2, z3, z4, z5])) (hgrow : (w1.alloc o).drew.grownBy w2 vp.ownBlock) (hat : vp.ownBlock = some g' ∨ g' = (w1.alloc o).drew.heap.size) (hlen : xs.length = top.parts.length * 6) (hne : ¬ G = g') (hB : B ≤ w.heap.size) (hn : low.length < 1000000) :
    StepPost B D col w s k low ⟨top.rows, top.parts ++ [a]⟩ (.returned (.tuple #[])) (((((((w2.setCell ⟨G, low.length * 2 + 1, none⟩ (.slice (some ⟨g', 0, none⟩) (top.parts.length + 1) cap')).setCell ⟨g', top.parts.length * 6, none⟩ x0).setCell ⟨g', top.parts.length * 6 + 1, none⟩ x1).setCell ⟨g', top.parts.length * 6 + 2, none⟩ x2).setCell ⟨g', top.parts.length * 6 + 3, none⟩ x3).setCell ⟨g', top.parts.length * 6 + 4, none⟩ x4).setCell ⟨g', top.parts.length * 6 + 5, none⟩ x5) := by
  show StepPost B D col w s k low ⟨top.rows, top.parts ++ [a]⟩ (.returned (.tuple #[])) (put6 (w2.setCell ⟨G, low.length * 2 + 1, none⟩ (.slice (some ⟨g', 0, none⟩) (top.parts.length + 1) cap')) g' (top.parts.length * 6) x0 x1 x2 x3 x4 x5)
  have hA := alloc_drew_below w1 o
  obtain ⟨s1, s2, s3, s4, s5, s6⟩ := hS.sizes
  obtain ⟨f1, _, f3⟩ := grown_far hA hgrow hat hcol s3 (by rw [hS.cG]; omega)
  have hBg := (own_lt how).1
  have hL := own_set (own_levels hS.own f1) (low.length * 2 + 1) (.slice (some ⟨g', 0, none⟩) (top.parts.length + 1) cap')
  rw [set_parts s6] at hL
  have hR := own_put6 hlen (own_row (w' := w2.setCell ⟨G, low.length * 2 + 1, none⟩ (.slice (some ⟨g', 0, none⟩) (top.parts.length + 1) cap')) how (Below.heap_setCell _ _ _ _ f3)) x0 x1 x2 x3 x4 x5
  have hsz3 : w2.heap.size ≤ (put6 (w2.setCell ⟨G, low.length * 2 + 1, none⟩ (.slice (some ⟨g', 0, none⟩) (top.parts.length + 1) cap')) g' (top.parts.length * 6) x0 x1 x2 x3 x4 x5).heap.size := by rw [put6_size]; simp [World.setCell]
  have hfar : ∀ b, b ≠ g' → b ≠ G → (put6 (w2.setCell ⟨G, low.length * 2 + 1, none⟩ (.slice (some ⟨g', 0, none⟩) (top.parts.length + 1) cap')) g' (top.parts.length * 6) x0 x1 x2 x3 x4 x5).heap[b]? = w2.heap[b]? := fun b h1 h2 => by rw [put6_other _ _ _ _ _ _ _ _ _ h1, Below.heap_setCell _ _ _ _ h2]
  refine ⟨rfl, ?_, _, _, _, _, _, _, Frm.pre hbw ((grown_frame hA hgrow hat hcol hsz3 hfar hS.cG).mono fun x hx => wk_of (by omega) (by omega)), hS.added hvals hcol hre hA hgrow hat hsz3 hfar hR (own_levels hL (put6_other _ _ _ _ _ _ _ _ _ hne))⟩
  exact put6_below ((grown_below hbw hB hA hgrow (row_ge hS.tp.2)).setCell (p := ⟨G, low.length * 2 + 1, none⟩) s4 _) hBg _ _ _ _ _ _ _
set_option maxHeartbeats 4000000 in
theorem add_any {B D : Nat} {col : Nat → Nat} {w : World} {s : ByteArray} {k G cap : Nat} {vlow : List (Value × Value)} {vr vp : Value} {low : List Lv} {top : Lv} (hS : StC B D col w s k G cap vlow vr vp low top) (hn : low.length < 1000000) (hp : top.parts.length < 1000000) (a : Ex) (v : Value) (hre : ReAt (Tree B col) w v a.rx) :
    Calls Try.prog 60 #[.pointer (some ⟨D, 0, none⟩), v] w (StepPost B D col w s k low ⟨top.rows, top.parts ++ [a]⟩) := by
  obtain ⟨y0, y1, y2, y3, y4, yl, yn, yc, rfl⟩ := cells_re hre
  obtain ⟨al, vc, rfl⟩ : ∃ al c, vp = .slice al top.parts.length c := by
    obtain ⟨_, h, _⟩ := hS.tp.2
    exact own_form h
  obtain ⟨i0, z0, hi0, hz0, hz1, hz2, hz3⟩ := infoR2
  have hz2' := Lib.hid hz2
  have hBw := hS.sizes.1
  clear hz2
  have h0 : Below w.heap.size w (w.alloc (.cells #[.int .u8 y0, .int .u64 y1, .int .u64 y2, .int .u64 y3, .int .u64 y4, .slice yl yn yc] 27)) := (Below.refl _ w).alloc (Nat.le_refl _) _
  have hS1 := hS.below h0
  have KT := Lib.hid (top_any hS1.rd (by omega))
  have HS1 := Lib.hid hS1
  have HRE := Lib.hid (hre.below h0)
  have H0 := Lib.hid h0
  have hxb := blk_new w (.cells #[.int .u8 y0, .int .u64 y1, .int .u64 y2, .int .u64 y3, .int .u64 y4, .slice yl yn yc] 27)
  have HXB := Lib.hid hxb
  generalize hw0 : w.alloc (.cells #[.int .u8 y0, .int .u64 y1, .int .u64 y2, .int .u64 y3, .int .u64 y4, .slice yl yn yc] 27) = W0 at *
  have HW0 := Lib.hid hw0
  clear hre hS hS1 h0 hxb hw0
  go_enter Try.func60, Try.ntmps60
  go_wp2_with fail
  rw [HW0.out]
  refine KT.out.mono ?_
  rintro e w1 ⟨rfl, hb1⟩
  have hS2 := HS1.out.below hb1
  have hre2 := HRE.out.below hb1
  have hbx : w1.heap[w.heap.size]? = some (.cells #[.int .u8 y0, .int .u64 y1, .int .u64 y2, .int .u64 y3, .int .u64 y4, .slice yl yn yc] 27) := (hb1.block _ (by rw [← HW0.out]; simp)).trans HXB.out
  have hbw := H0.out.trans (hb1.mono H0.out.size)
  obtain ⟨xs, hx1, hx2, hx3⟩ := hS2.tp.2
  obtain ⟨l0, l1, lf⟩ := hS2.cells
  have hf1 := lf (low.length * 2 + 1)
  obtain ⟨s1, s2, s3, s4, s5, s6⟩ := hS2.sizes
  obtain ⟨x0', x1', x2', x3', x4', x5', -⟩ := cellsR hbx
  have hcG := hS2.cG
  have HOWN := Lib.hid hx1
  have HS2 := Lib.hid hS2
  have mixed : Try.prog.follows Departure.mixedOrders = true := by kernel_rfl
  clear hb1 hS2 hx1 lf HXB HW0 HS1
  go_wp2_with fail
  have hlen := HOWN.out.1
  have hszx : w.heap.size < w1.heap.size := (Array.getElem?_eq_some_iff.1 hbx).1
  have hszy : ¬ w.heap.size = w1.heap.size := by omega
  have hszg : ¬ G = w1.heap.size := by omega
  have hidx : (top.parts.length : Int) < (top.parts.length : Int) + 1 := by omega
  go_region_law (refine step_append_lies _ rfl (.tmp 10) (.tmp 13) 25 rfl B 27 i0 z0 6 64 Try.underlying25 hi0 hz0 hz1 hz2'.out hz3 (by decide) (.slice al top.parts.length vc) top.parts.length xs rfl (HOWN.out.drew.alloc _).drew ⟨w1.heap.size, 0, none⟩ 1 1 [.int .u8 0, .int .u64 0, .int .u64 0, .int .u64 0, .int .u64 0, .slice none 0 0] rfl rfl (zero6_at w1 _ _ _ _ _ _) zero6_one (by decide) (by unfold maxLen; omega) (by omega) (Nat.le_trans s1 (alloc_drew_below w1 _).size) _ rfl ?_; intro g' cap' w2 hown hgrow hat hlt; obtain ⟨⟨n0, n1, n2, n3, n4, n5⟩, m0, m1, m2, m3, m4, m5⟩ := new6 hlen hown; obtain ⟨hfar, ne1, ne2⟩ := grown_far (alloc_drew_below w1 _) hgrow hat hx3 s3 (by rw [hcG]; omega); have l1' : w2.cell? ⟨G, low.length * 2 + 1, none⟩ = some (.slice al top.parts.length vc) := (World.cell?_of_block hfar).trans l1; have lf' : w2.frozen? ⟨G, low.length * 2 + 1, none⟩ = false := (World.frozen?_of_block hfar).trans hf1; have HOW := Lib.hid hown; have HGR := Lib.hid hgrow; have HAT := Lib.hid hat; clear hown hgrow hat hfar)
  all_goals (
    go_end0
    first
      | with_reducible exact add_closeA HS2.out hx2 hx3 hre2 hbw HOW.out HGR.out HAT.out hlen ne1 hBw hn
      | with_reducible exact add_closeB HS2.out hx2 hx3 hre2 hbw HOW.out HGR.out HAT.out hlen ne1 hBw hn)
open Go.RowKit
theorem RowVals.unsnoc {ok : Nat → Prop} {w : World} {xs : List Value} {l : List Rx} {r : Rx} (h : RowVals ok w xs (l ++ [r])) : ∃ ys c0 c1 c2 c3 c4 c5, xs = ys ++ [c0, c1, c2, c3, c4, c5] ∧ RowVals ok w ys l ∧ ReAt ok w (.agg #[c0, c1, c2, c3, c4, c5]) r := by
  obtain ⟨hl, h⟩ := h
  simp only [List.length_append, List.length_cons, List.length_nil, Nat.zero_add] at hl
  obtain ⟨c0, c1, c2, c3, c4, c5, ⟨e0, e1, e2, e3, e4, e5⟩, hr⟩ := h l.length (by simp)
  rw [List.getElem_append_right (Nat.le_refl _)] at hr
  simp only [Nat.sub_self, List.getElem_cons_zero] at hr
  refine ⟨xs.take (l.length * 6), c0, c1, c2, c3, c4, c5, ?_, ⟨by rw [List.length_take]; omega, fun i hi => ?_⟩, hr⟩
  · apply List.ext_getElem?
    intro j
    by_cases hj : j < l.length * 6
    · rw [List.getElem?_append_left (by rw [List.length_take]; omega), List.getElem?_take, if_pos hj]
    · rw [List.getElem?_append_right (by rw [List.length_take]; omega), List.length_take, Nat.min_eq_left (by omega)]
      rcases Nat.lt_or_ge j (l.length * 6 + 6) with h6 | h6
      · obtain ⟨d, rfl⟩ : ∃ d, j = l.length * 6 + d := ⟨j - l.length * 6, by omega⟩
        have hd : d < 6 := by omega
        rw [show l.length * 6 + d - l.length * 6 = d from by omega]
        match d, hd with
        | 0, _ => exact e0
        | 1, _ => exact e1
        | 2, _ => exact e2
        | 3, _ => exact e3
        | 4, _ => exact e4
        | 5, _ => exact e5
      · rw [List.getElem?_eq_none (by omega), List.getElem?_eq_none (by simp; omega)]
  · obtain ⟨d0, d1, d2, d3, d4, d5, ⟨f0, f1, f2, f3, f4, f5⟩, hr'⟩ := h i (by simp; omega)
    rw [List.getElem_append_left hi] at hr'
    refine ⟨d0, d1, d2, d3, d4, d5, ⟨?_, ?_, ?_, ?_, ?_, ?_⟩, hr'⟩ <;> (rw [List.getElem?_take, if_pos (by omega)]; assumption)
theorem StC.starred {B D : Nat} {col : Nat → Nat} {w w3 : World} {s : ByteArray} {k G cap g' cap' : Nat} {vlow : List (Value × Value)} {vr : Value} {low : List Lv} {rows ps : List Ex} {p : Ex} (hS : StC B D col w s k G cap vlow vr (.slice (some ⟨g', 0, none⟩) (ps.length + 1) cap') low ⟨rows, ps ++ [p]⟩) {ys : List Value} {x0 x1 x2 x3 x4 x5 : Value} (hcol : col g' = 4 + 2 * low.length)
    (hvals : RowVals (Tree B col) w ys (ps.map Ex.rx)) (hs : w.heap.size ≤ w3.heap.size) (h3 : ∀ b, b < w.heap.size → b ≠ g' → w3.heap[b]? = w.heap[b]?) (how : w3.ownsRow B 27 6 (.slice (some ⟨g', 0, none⟩) (ps.length + 1) cap') (ps.length + 1) (ys ++ [x0, x1, x2, x3, x4, x5])) (hre : ReAt (Tree B col) w3 (.agg #[x0, x1, x2, x3, x4, x5]) (Ex.star p).rx) :
    StC B D col w3 s k G cap vlow vr (.slice (some ⟨g', 0, none⟩) (ps.length + 1) cap') low ⟨rows, ps ++ [.star p]⟩ := by
  have hf : Frm (fun x => x = 4 + 2 * low.length) col col w w3 := ⟨hs, fun b hb => ⟨rfl, fun hc => h3 b hb (fun e => hc (by rw [e]; exact hcol))⟩⟩
  obtain ⟨z1, z2, z3, z4, z5, z6⟩ := hS.sizes
  refine ⟨hS.rd.of ((hf.2 D z2).2 (by rw [hS.cD]; omega)), hS.ge, hS.cD, own_levels hS.own ((hf.2 G z3).2 (by rw [hS.cG]; omega)), hS.cG, hS.lo.frame hf (by omega), ⟨hS.tp.1.frame hf (by omega) (by omega), ?_⟩, fun b hb => hS.new b (Nat.le_trans hs hb)⟩
  refine ⟨ys ++ [x0, x1, x2, x3, x4, x5], by simpa using how, ?_, fun g hg => ?_⟩
  · rw [List.map_append]
    exact (hvals.go (hf.kept (by omega))).append (RowVals.one hre)
  · simp [Value.ownBlock] at hg
    subst hg
    exact hcol
theorem StC.last {B D : Nat} {col : Nat → Nat} {w : World} {s : ByteArray} {k G cap : Nat} {vlow : List (Value × Value)} {vr vp : Value} {low : List Lv} {rows ps : List Ex} {p : Ex} (hS : StC B D col w s k G cap vlow vr vp low ⟨rows, ps ++ [p]⟩) : ∃ g' cap' ys y0 y1 y2 y3 y4 yl yn yc, vp = .slice (some ⟨g', 0, none⟩) (ps.length + 1) cap' ∧ B ≤ g' ∧ g' < w.heap.size ∧ col g' = 4 + 2 * low.length ∧ ys.length = ps.length * 6 ∧
    w.ownsRow B 27 6 (.slice (some ⟨g', 0, none⟩) (ps.length + 1) cap') (ps.length + 1) (ys ++ [.int .u8 y0, .int .u64 y1, .int .u64 y2, .int .u64 y3, .int .u64 y4, .slice yl yn yc]) ∧ RowVals (Tree B col) w ys (ps.map Ex.rx) ∧ ReAt (Tree B col) w (.agg #[.int .u8 y0, .int .u64 y1, .int .u64 y2, .int .u64 y3, .int .u64 y4, .slice yl yn yc]) p.rx := by
  obtain ⟨xs, h1, h2, h3⟩ := hS.tp.2
  simp only [List.length_append, List.length_cons, List.length_nil, Nat.zero_add] at h1
  rw [List.map_append] at h2
  obtain ⟨ys, c0, c1, c2, c3, c4, c5, rfl, hv, hr⟩ := h2.unsnoc
  obtain ⟨y0, y1, y2, y3, y4, yl, yn, yc, e⟩ := cells_re hr
  simp at e
  obtain ⟨rfl, rfl, rfl, rfl, rfl, rfl⟩ := e
  obtain ⟨g', cap', rfl, hB, hlt⟩ := h1.form (by omega)
  exact ⟨g', cap', ys, y0, y1, y2, y3, y4, yl, yn, yc, rfl, hB, hlt, h3 g' rfl, by have := hv.1; simpa using this, h1, hv, hr⟩
theorem but_frm {D : Nat} {col : Nat → Nat} {w w' : World} (hD : col D = 1) (hb : But D w.heap.size w w') : Frm Wk col col w w' :=
  ⟨hb.size, fun b hbb => ⟨rfl, fun hc => hb.block b hbb (fun e => hc (by rw [e, hD]; exact wk_of (by omega) (by omega)))⟩⟩
theorem star_world {B D : Nat} {col : Nat → Nat} {w : World} {s : ByteArray} {k G cap g' cap' : Nat} {vlow : List (Value × Value)} {vr : Value} {low : List Lv} {rows ps : List Ex} {p : Ex} (hS : StC B D col w s k G cap vlow vr (.slice (some ⟨g', 0, none⟩) (ps.length + 1) cap') low ⟨rows, ps ++ [p]⟩) {ys : List Value} {y0 y1 y2 y3 y4 y5 : Value} (hcol : col g' = 4 + 2 * low.length) (hlen : ys.length = ps.length * 6) (hBg : B ≤ g')
    (how : w.ownsRow B 27 6 (.slice (some ⟨g', 0, none⟩) (ps.length + 1) cap') (ps.length + 1) (ys ++ [y0, y1, y2, y3, y4, y5])) (hvals : RowVals (Tree B col) w ys (ps.map Ex.rx)) (hre : ReAt (Tree B col) w (.agg #[y0, y1, y2, y3, y4, y5]) p.rx) (hn : low.length < 1000000) :
    Frm Wk col col w ((put6 w g' (ps.length * 6) (.int .u8 6) (.int .u64 0) (.int .u64 0) (.int .u64 0) (.int .u64 0) (.slice (some ⟨w.heap.size, 0, none⟩) 1 1)).alloc (.cells #[y0, y1, y2, y3, y4, y5] 27)) ∧ Below B w ((put6 w g' (ps.length * 6) (.int .u8 6) (.int .u64 0) (.int .u64 0) (.int .u64 0) (.int .u64 0) (.slice (some ⟨w.heap.size, 0, none⟩) 1 1)).alloc (.cells #[y0, y1, y2, y3, y4, y5] 27)) ∧
    StC B D col ((put6 w g' (ps.length * 6) (.int .u8 6) (.int .u64 0) (.int .u64 0) (.int .u64 0) (.int .u64 0) (.slice (some ⟨w.heap.size, 0, none⟩) 1 1)).alloc (.cells #[y0, y1, y2, y3, y4, y5] 27)) s k G cap vlow vr (.slice (some ⟨g', 0, none⟩) (ps.length + 1) cap') low ⟨rows, ps ++ [.star p]⟩ := by
  obtain ⟨z1, z2, z3, z4, z5, z6⟩ := hS.sizes
  have hg : g' < w.heap.size := (own_lt how).2.1
  have hsz := put6_size w g' (ps.length * 6) (.int .u8 6) (.int .u64 0) (.int .u64 0) (.int .u64 0) (.int .u64 0) (.slice (some ⟨w.heap.size, 0, none⟩) 1 1)
  have h3 : ∀ b, b < w.heap.size → b ≠ g' → ((put6 w g' (ps.length * 6) (.int .u8 6) (.int .u64 0) (.int .u64 0) (.int .u64 0) (.int .u64 0) (.slice (some ⟨w.heap.size, 0, none⟩) 1 1)).alloc (.cells #[y0, y1, y2, y3, y4, y5] 27)).heap[b]? = w.heap[b]? := fun b h1 h2 =>
    (Below.heap_alloc _ _ _ (by rw [hsz]; exact h1)).trans (put6_other _ _ _ _ _ _ _ _ _ h2)
  have hs : w.heap.size ≤ ((put6 w g' (ps.length * 6) (.int .u8 6) (.int .u64 0) (.int .u64 0) (.int .u64 0) (.int .u64 0) (.slice (some ⟨w.heap.size, 0, none⟩) 1 1)).alloc (.cells #[y0, y1, y2, y3, y4, y5] 27)).heap.size := by rw [World.size_alloc, hsz]; omega
  have hkept : Kept (Tree B col) (Tree B col) w ((put6 w g' (ps.length * 6) (.int .u8 6) (.int .u64 0) (.int .u64 0) (.int .u64 0) (.int .u64 0) (.slice (some ⟨w.heap.size, 0, none⟩) 1 1)).alloc (.cells #[y0, y1, y2, y3, y4, y5] 27)) := ⟨hs, fun b h1 h2 => ⟨h2, h3 b h1 (fun e => by have := h2.2; rw [e, hcol] at this; omega)⟩⟩
  refine ⟨⟨hs, fun b hb => ⟨rfl, fun hc => h3 b hb (fun e => hc (by rw [e, hcol]; exact wk_of (by omega) (by omega)))⟩⟩, (put6_below (Below.refl B w) hBg _ _ _ _ _ _ _).alloc (by rw [hsz]; exact z1) _, hS.starred hcol hvals hs h3 (own_row (own_put6 hlen how _ _ _ _ _ _) (Below.heap_alloc _ _ _ (by rw [hsz]; exact hg))) ?_⟩
  exact ⟨by decide, Ws.nil_ok, _, _, rfl, Nat.le_refl _, by simp, row_one (blk_at _ _ hsz.symm) ⟨z1, hS.new _ (Nat.le_refl _)⟩ (hre.go hkept)⟩
set_option maxHeartbeats 4000000 in
theorem star_yes {B D : Nat} {col : Nat → Nat} {w : World} {s : ByteArray} {k G cap : Nat} {vlow : List (Value × Value)} {vr vp : Value} {low : List Lv} {rows ps : List Ex} {p : Ex} (hS : StC B D col w s k G cap vlow vr vp low ⟨rows, ps ++ [p]⟩) (hn : low.length < 1000000) (hp : ps.length < 1000000) (hk : k < 1000000000) :
    Calls Try.prog 63 #[.pointer (some ⟨D, 0, none⟩)] w (StepPost B D col w s (k + 1) low ⟨rows, ps ++ [.star p]⟩) := by
  have KT := Lib.hid (top_any hS.rd (by omega))
  have HS := Lib.hid hS
  have KM := Lib.hid must_yes
  have hBw := hS.sizes.1
  have wk : IntKind.i64.wrap ((k : Int) + 1) = (k : Int) + 1 := by rw [IntKind.wrap_i64]; omega
  clear hS
  go_enter Try.func63, Try.ntmps63
  go_wp2_with fail
  refine KT.out.mono ?_
  rintro e w1 ⟨rfl, hb1⟩
  have hS1 := HS.out.below hb1
  obtain ⟨l0, l1, lf⟩ := hS1.cells
  obtain ⟨g', cap', ys, y0, y1, y2, y3, y4, yl, yn, yc, rfl, hBg, hgl, hcol, hlen, how, hvals, hre⟩ := hS1.last
  obtain ⟨⟨n0, n1, n2, n3, n4, n5⟩, m0, m1, m2, m3, m4, m5⟩ := new6 hlen how
  obtain ⟨hfs, hbs, hS2⟩ := star_world hS1 hcol hlen hBg how hvals hre hn
  have hr2 := hS2.rd
  obtain ⟨c0, c1, c2⟩ := hS1.rd.cells
  obtain ⟨f0, f1, f2⟩ := hS1.rd.frozen
  have hDl := hS1.rd.lt
  have hDg : ¬ D = g' := fun e => by have := hS1.cD; rw [e, hcol] at this; omega
  have hDg' : ¬ g' = D := fun e => hDg e.symm
  have hS3 := hS2.but ((But.refl D _ _).set 1 (.int .i64 ((k : Int) + 1))) (hr2.go (k + 1))
  have hb3 := ((hb1.mono hBw).trans hbs).setCell (p := ⟨D, 1, none⟩) HS.out.ge (.int .i64 ((k : Int) + 1))
  have hf3 := (Frm.pre hb1 hfs).trans (but_frm hS1.cD ((But.refl D _ _).set 1 (.int .i64 ((k : Int) + 1))))
  have HS3 := Lib.hid hS3
  have HB3 := Lib.hid hb3
  have HF3 := Lib.hid hf3
  rw [World.setCell_alloc_past (hn := by rw [put6_size]; exact hDl)] at HS3 HB3 HF3
  unfold put6 at HS3 HB3 HF3
  have q0 : decide ((0 : Int) < (ps.length : Int) + 1) = true := decide_eq_true (by omega)
  have q1 : ((ps.length : Int) + 1) - 1 = (ps.length : Int) := by omega
  have q2 : (ps.length : Int) < (ps.length : Int) + 1 := by omega
  clear hS1 how hvals hre hbs hS2 hr2 hS3 hb3 hb1 lf hf3 hfs
  go_wp2_with fail
  refine (KM.out _ _).mono ?_
  rintro e w2 ⟨rfl, rfl⟩
  go_wp2
  go_end0
  exact ⟨rfl, HB3.out, _, _, _, _, _, _, HF3.out, HS3.out⟩
theorem star_no {B D : Nat} {col : Nat → Nat} {w : World} {s : ByteArray} {k G cap : Nat} {vlow : List (Value × Value)} {vr vp : Value} {low : List Lv} {rows : List Ex} (hS : StC B D col w s k G cap vlow vr vp low ⟨rows, []⟩) (hn : low.length < 1000000) :
    Calls Try.prog 63 #[.pointer (some ⟨D, 0, none⟩)] w (ThrPost B k w) := by
  have KT := Lib.hid (top_any hS.rd (by omega))
  have HS := Lib.hid hS
  have hBw := hS.sizes.1
  obtain ⟨al, vc, rfl⟩ : ∃ al c, vp = .slice al 0 c := by
    obtain ⟨_, h, _⟩ := hS.tp.2
    exact own_form h
  clear hS
  go_enter Try.func63, Try.ntmps63
  go_wp2_with fail
  refine KT.out.mono ?_
  rintro e w1 ⟨rfl, hb1⟩
  have hS1 := HS.out.below hb1
  obtain ⟨l0, l1, lf⟩ := hS1.cells
  have KM := Lib.hid (must_no hS1.rd)
  clear hS1 lf
  go_wp2_with fail
  refine KM.out.mono ?_
  rintro e w2 ⟨rfl, rfl⟩
  exact ⟨rfl, rfl, hb1.mono hBw⟩
open Go.RowKit
theorem StC.rowed {B D : Nat} {col : Nat → Nat} {w w2 w3 : World} {s : ByteArray} {k G cap : Nat} {vlow : List (Value × Value)} {vr vp : Value} {low : List Lv} {top : Lv} (hS : StC B D col w s k G cap vlow vr vp low top) {a : Ex} {xs : List Value} {x0 x1 x2 x3 x4 x5 : Value} {g' cap' : Nat} (hvals : RowVals (Tree B col) w xs (top.rows.map Ex.rx)) (hcol : ∀ g, vr.ownBlock = some g → col g = 3 + 2 * low.length) (hre : ReAt (Tree B col) w (.agg #[x0, x1, x2, x3, x4, x5]) a.rx)
    (hgrow : w.grownBy w2 vr.ownBlock) (hat : vr.ownBlock = some g' ∨ g' = w.heap.size) (hs : w2.heap.size ≤ w3.heap.size) (h3 : ∀ b, b ≠ g' → b ≠ G → w3.heap[b]? = w2.heap[b]?)
    (howR : w3.ownsRow B 27 6 (.slice (some ⟨g', 0, none⟩) (top.rows.length + 1) cap') (top.rows.length + 1) (xs ++ [x0, x1, x2, x3, x4, x5])) (howL : w3.ownsRow B 80 2 (.slice (some ⟨G, 0, none⟩) (low.length + 1) cap) (low.length + 1) (flat vlow ++ [.slice (some ⟨g', 0, none⟩) (top.rows.length + 1) cap', .slice none 0 0])) :
    StC B D (upd col g' (3 + 2 * low.length)) w3 s k G cap vlow (.slice (some ⟨g', 0, none⟩) (top.rows.length + 1) cap') (.slice none 0 0) low ⟨top.rows ++ [a], []⟩ := by
  have hf := grown_frame (Below.refl _ w) hgrow hat hcol hs h3 hS.cG
  obtain ⟨z1, z2, z3, z4, z5, z6⟩ := hS.sizes
  refine ⟨hS.rd.of ((hf.2 D z2).2 (by rw [hS.cD]; omega)), hS.ge, by rw [(hf.2 D z2).1]; exact hS.cD, howL, by rw [(hf.2 G z3).1]; exact hS.cG, hS.lo.frame hf (by omega), ⟨?_, RwC.nil _ _ _ _⟩, fun b hb => ?_⟩
  · exact RwC.pushed (by omega) hvals hre hf howR
  · have h1 := (own_lt howR).2.1
    rw [upd_far _ (by omega)]
    exact hS.new b (Nat.le_trans hf.1 hb)
theorem row_closeA {B D : Nat} {col : Nat → Nat} {w wA w2 : World} {s : ByteArray} {k G cap : Nat} {vlow : List (Value × Value)} {vr vp : Value} {low : List Lv} {top : Lv} (hS : StC B D col wA s k G cap vlow vr vp low top) {a : Ex} {xs : List Value} {x0 x1 x2 x3 x4 x5 z0 z1 z2 z3 z4 z5 : Value} {g' cap' : Nat} (hvals : RowVals (Tree B col) wA xs (top.rows.map Ex.rx)) (hcol : ∀ g, vr.ownBlock = some g → col g = 3 + 2 * low.length) (hre : ReAt (Tree B col) wA (.agg #[x0, x1, x2, x3, x4, x5]) a.rx)
    (hbw : Below B w wA) (how : w2.ownsRow B 27 6 (.slice (some ⟨g', 0, none⟩) (top.rows.length + 1) cap') (top.rows.length + 1) (xs ++ [z0, z1, z2, z3, z4, z5])) (hgrow : wA.grownBy w2 vr.ownBlock) (hat : vr.ownBlock = some g' ∨ g' = wA.heap.size) (hlen : xs.length = top.rows.length * 6) (hf0 : Frm Wk col col w wA) (hn : low.length < 1000000) :
    StepPost B D col w s k low ⟨top.rows ++ [a], []⟩ (.returned (.tuple #[])) ((((((((w2.setCell ⟨g', top.rows.length * 6, none⟩ x0).setCell ⟨g', top.rows.length * 6 + 1, none⟩ x1).setCell ⟨g', top.rows.length * 6 + 2, none⟩ x2).setCell ⟨g', top.rows.length * 6 + 3, none⟩ x3).setCell ⟨g', top.rows.length * 6 + 4, none⟩ x4).setCell ⟨g', top.rows.length * 6 + 5, none⟩ x5).setCell ⟨G, low.length * 2, none⟩ (.slice (some ⟨g', 0, none⟩) (top.rows.length + 1) cap')).setCell ⟨G, low.length * 2 + 1, none⟩ (.slice none 0 0)) := by
  show StepPost B D col w s k low ⟨top.rows ++ [a], []⟩ (.returned (.tuple #[])) (((put6 w2 g' (top.rows.length * 6) x0 x1 x2 x3 x4 x5).setCell ⟨G, low.length * 2, none⟩ (.slice (some ⟨g', 0, none⟩) (top.rows.length + 1) cap')).setCell ⟨G, low.length * 2 + 1, none⟩ (.slice none 0 0))
  obtain ⟨s1, s2, s3, s4, s5, s6⟩ := hS.sizes
  obtain ⟨f1, f2, f3⟩ := grown_far (Below.refl _ wA) hgrow hat hcol s3 (by rw [hS.cG]; omega)
  have hBg := (own_lt how).1
  have hput := own_put6 hlen how x0 x1 x2 x3 x4 x5
  have hL := own_set (own_set (own_levels hS.own ((put6_other w2 g' (top.rows.length * 6) x0 x1 x2 x3 x4 x5 f2).trans f1)) (low.length * 2) (.slice (some ⟨g', 0, none⟩) (top.rows.length + 1) cap')) (low.length * 2 + 1) (.slice none 0 0)
  rw [set_rows s6, set_parts s6] at hL
  have hR := own_row (w' := ((put6 w2 g' (top.rows.length * 6) x0 x1 x2 x3 x4 x5).setCell ⟨G, low.length * 2, none⟩ (.slice (some ⟨g', 0, none⟩) (top.rows.length + 1) cap')).setCell ⟨G, low.length * 2 + 1, none⟩ (.slice none 0 0)) hput ((Below.heap_setCell _ _ _ _ f3).trans (Below.heap_setCell _ _ _ _ f3))
  have hsz3 : w2.heap.size ≤ (((put6 w2 g' (top.rows.length * 6) x0 x1 x2 x3 x4 x5).setCell ⟨G, low.length * 2, none⟩ (.slice (some ⟨g', 0, none⟩) (top.rows.length + 1) cap')).setCell ⟨G, low.length * 2 + 1, none⟩ (.slice none 0 0)).heap.size := by simp [World.setCell, put6_size]
  have hfar : ∀ b, b ≠ g' → b ≠ G → (((put6 w2 g' (top.rows.length * 6) x0 x1 x2 x3 x4 x5).setCell ⟨G, low.length * 2, none⟩ (.slice (some ⟨g', 0, none⟩) (top.rows.length + 1) cap')).setCell ⟨G, low.length * 2 + 1, none⟩ (.slice none 0 0)).heap[b]? = w2.heap[b]? := fun b h1 h2 => by rw [Below.heap_setCell _ _ _ _ h2, Below.heap_setCell _ _ _ _ h2, put6_other _ _ _ _ _ _ _ _ _ h1]
  refine ⟨rfl, ?_, _, _, _, _, _, _, hf0.trans ((grown_frame (Below.refl _ wA) hgrow hat hcol hsz3 hfar hS.cG).mono fun x hx => wk_of (by omega) (by omega)), hS.rowed hvals hcol hre hgrow hat hsz3 hfar hR hL⟩
  exact ((put6_below (Below.grown hbw hgrow s1 (row_ge hS.tp.1)) hBg _ _ _ _ _ _ _).setCell (p := ⟨G, low.length * 2, none⟩) s4 _).setCell (p := ⟨G, low.length * 2 + 1, none⟩) s4 _
theorem row_closeB {B D : Nat} {col : Nat → Nat} {w wA w2 : World} {s : ByteArray} {k G cap : Nat} {vlow : List (Value × Value)} {vr vp : Value} {low : List Lv} {top : Lv} (hS : StC B D col wA s k G cap vlow vr vp low top) {a : Ex} {xs : List Value} {x0 x1 x2 x3 x4 x5 z0 z1 z2 z3 z4 z5 : Value} {g' cap' : Nat} (hvals : RowVals (Tree B col) wA xs (top.rows.map Ex.rx)) (hcol : ∀ g, vr.ownBlock = some g → col g = 3 + 2 * low.length) (hre : ReAt (Tree B col) wA (.agg #[x0, x1, x2, x3, x4, x5]) a.rx)
    (hbw : Below B w wA) (how : w2.ownsRow B 27 6 (.slice (some ⟨g', 0, none⟩) (top.rows.length + 1) cap') (top.rows.length + 1) (xs ++ [z0, z1, z2, z3, z4, z5])) (hgrow : wA.grownBy w2 vr.ownBlock) (hat : vr.ownBlock = some g' ∨ g' = wA.heap.size) (hlen : xs.length = top.rows.length * 6) (hf0 : Frm Wk col col w wA) (hn : low.length < 1000000) :
    StepPost B D col w s k low ⟨top.rows ++ [a], []⟩ (.returned (.tuple #[])) ((((((((w2.setCell ⟨G, low.length * 2, none⟩ (.slice (some ⟨g', 0, none⟩) (top.rows.length + 1) cap')).setCell ⟨g', top.rows.length * 6, none⟩ x0).setCell ⟨g', top.rows.length * 6 + 1, none⟩ x1).setCell ⟨g', top.rows.length * 6 + 2, none⟩ x2).setCell ⟨g', top.rows.length * 6 + 3, none⟩ x3).setCell ⟨g', top.rows.length * 6 + 4, none⟩ x4).setCell ⟨g', top.rows.length * 6 + 5, none⟩ x5).setCell ⟨G, low.length * 2 + 1, none⟩ (.slice none 0 0)) := by
  show StepPost B D col w s k low ⟨top.rows ++ [a], []⟩ (.returned (.tuple #[])) ((put6 (w2.setCell ⟨G, low.length * 2, none⟩ (.slice (some ⟨g', 0, none⟩) (top.rows.length + 1) cap')) g' (top.rows.length * 6) x0 x1 x2 x3 x4 x5).setCell ⟨G, low.length * 2 + 1, none⟩ (.slice none 0 0))
  obtain ⟨s1, s2, s3, s4, s5, s6⟩ := hS.sizes
  obtain ⟨f1, f2, f3⟩ := grown_far (Below.refl _ wA) hgrow hat hcol s3 (by rw [hS.cG]; omega)
  have hBg := (own_lt how).1
  have hL0 := own_set (own_levels hS.own f1) (low.length * 2) (.slice (some ⟨g', 0, none⟩) (top.rows.length + 1) cap')
  have hput := own_put6 hlen (own_row (w' := w2.setCell ⟨G, low.length * 2, none⟩ (.slice (some ⟨g', 0, none⟩) (top.rows.length + 1) cap')) how (Below.heap_setCell _ _ _ _ f3)) x0 x1 x2 x3 x4 x5
  have hL := own_set (own_levels hL0 (put6_other _ g' (top.rows.length * 6) x0 x1 x2 x3 x4 x5 f2)) (low.length * 2 + 1) (.slice none 0 0)
  rw [set_rows s6, set_parts s6] at hL
  have hR := own_row (w' := (put6 (w2.setCell ⟨G, low.length * 2, none⟩ (.slice (some ⟨g', 0, none⟩) (top.rows.length + 1) cap')) g' (top.rows.length * 6) x0 x1 x2 x3 x4 x5).setCell ⟨G, low.length * 2 + 1, none⟩ (.slice none 0 0)) hput (Below.heap_setCell _ _ _ _ f3)
  have hsz3 : w2.heap.size ≤ ((put6 (w2.setCell ⟨G, low.length * 2, none⟩ (.slice (some ⟨g', 0, none⟩) (top.rows.length + 1) cap')) g' (top.rows.length * 6) x0 x1 x2 x3 x4 x5).setCell ⟨G, low.length * 2 + 1, none⟩ (.slice none 0 0)).heap.size := by simp only [World.size_setCell]; rw [put6_size]; simp [World.setCell]
  have hfar : ∀ b, b ≠ g' → b ≠ G → ((put6 (w2.setCell ⟨G, low.length * 2, none⟩ (.slice (some ⟨g', 0, none⟩) (top.rows.length + 1) cap')) g' (top.rows.length * 6) x0 x1 x2 x3 x4 x5).setCell ⟨G, low.length * 2 + 1, none⟩ (.slice none 0 0)).heap[b]? = w2.heap[b]? := fun b h1 h2 => by rw [Below.heap_setCell _ _ _ _ h2, put6_other _ _ _ _ _ _ _ _ _ h1, Below.heap_setCell _ _ _ _ h2]
  refine ⟨rfl, ?_, _, _, _, _, _, _, hf0.trans ((grown_frame (Below.refl _ wA) hgrow hat hcol hsz3 hfar hS.cG).mono fun x hx => wk_of (by omega) (by omega)), hS.rowed hvals hcol hre hgrow hat hsz3 hfar hR hL⟩
  exact (put6_below ((Below.grown hbw hgrow s1 (row_ge hS.tp.1)).setCell (p := ⟨G, low.length * 2, none⟩) s4 _) hBg _ _ _ _ _ _ _).setCell (p := ⟨G, low.length * 2 + 1, none⟩) s4 _
theorem endRow_no {B D : Nat} {col : Nat → Nat} {w : World} {s : ByteArray} {k G cap : Nat} {vlow : List (Value × Value)} {vr vp : Value} {low : List Lv} {rows : List Ex} (hS : StC B D col w s k G cap vlow vr vp low ⟨rows, []⟩) (hn : low.length < 1000000) :
    Calls Try.prog 62 #[.pointer (some ⟨D, 0, none⟩)] w (ThrPost B k w) := by
  have KT := Lib.hid (top_any hS.rd (by omega))
  have HS := Lib.hid hS
  have hBw := hS.sizes.1
  obtain ⟨al, vc, rfl⟩ : ∃ al c, vp = .slice al 0 c := by
    obtain ⟨_, h, _⟩ := hS.tp.2
    exact own_form h
  clear hS
  go_enter Try.func62, Try.ntmps62
  go_wp2_with fail
  refine KT.out.mono ?_
  rintro e w1 ⟨rfl, hb1⟩
  have hS1 := HS.out.below hb1
  obtain ⟨l0, l1, lf⟩ := hS1.cells
  have KM := Lib.hid (must_no hS1.rd)
  clear hS1 lf
  go_wp2_with fail
  refine KM.out.mono ?_
  rintro e w2 ⟨rfl, rfl⟩
  exact ⟨rfl, rfl, hb1.mono hBw⟩
open Go.RowKit
theorem rchain_tree {B : Nat} {col : Nat → Nat} {w W : World} {k o : Nat} {f : Ex → Ex → Ex} (hf : ∀ a b, (f a b).rx = .node k Ws.nil [a.rx, b.rx]) (hk : k < 256) {l : List Ex} (hl : l ≠ []) (hlen : l.length < 1000000000) {al : Option Addr} {cap : Nat} (h : RowN (Tree B col) w al (l.map Ex.rx)) (hB : B ≤ w.heap.size) (hnew : ∀ b, w.heap.size ≤ b → col b = 0) (hb : Below w.heap.size w W) :
    Calls Try.prog 69 #[.int .u8 k, .slice al l.length cap] W fun e w' => ∃ y0 y1 y2 y3 y4 yl yn yc, e = .returned (.agg #[.int .u8 y0, .int .u64 y1, .int .u64 y2, .int .u64 y3, .int .u64 y4, .slice yl yn yc]) ∧ ReAt (Tree B col) w' (.agg #[.int .u8 y0, .int .u64 y1, .int .u64 y2, .int .u64 y3, .int .u64 y4, .slice yl yn yc]) (foldE f l).rx ∧ Below W.heap.size W w' := by
  have h1 := rchain_any k o (l.map Ex.rx) al cap W hk (by simp; omega) (by simpa using hl) (h.below hb)
  rw [fold_foldE k o f hf l hl, List.length_map] at h1
  refine h1.mono ?_
  rintro e w' ⟨v, rfl, hv, hb'⟩
  obtain ⟨y0, y1, y2, y3, y4, yl, yn, yc, rfl⟩ := cells_re hv
  refine ⟨y0, y1, y2, y3, y4, yl, yn, yc, rfl, hv.imp fun b _ hb2 => ?_, hb'⟩
  rcases hb2 with hb2 | hb2
  · exact hb2.1
  · have := hb.size
    exact ⟨by omega, hnew b (by omega)⟩
theorem row_n {B : Nat} {col : Nat → Nat} {c : Nat} {w : World} {v : Value} {l : List Ex} (h : RwC B col c w v l) (hl : l ≠ []) : ∃ g cap, v = .slice (some ⟨g, 0, none⟩) l.length cap ∧ B ≤ g ∧ g < w.heap.size ∧ col g = c ∧ RowN (Tree B col) w (some ⟨g, 0, none⟩) (l.map Ex.rx) := by
  obtain ⟨xs, h1, h2, h3⟩ := h
  obtain ⟨g, cap, rfl, hB, hlt, _, hn⟩ := own_nodes (l := l.map Ex.rx) (by simpa using h1) h2 (by simpa using hl)
  rw [List.length_map]
  exact ⟨g, cap, rfl, hB, hlt, h3 g rfl, g, 0, rfl, hlt, hn⟩
theorem zero_later {w w2 : World} (c0 c1 c2 c3 c4 c5 : Value) (hb : Below (w.alloc (.cells #[c0, c1, c2, c3, c4, c5] 27)).drew.heap.size (w.alloc (.cells #[c0, c1, c2, c3, c4, c5] 27)).drew w2) : ∀ j u, [c0, c1, c2, c3, c4, c5][j]? = some u → w2.cell? ((⟨w.heap.size, 0, none⟩ : Addr).add j) = some u := by
  intro j u h
  have h1 := zero6_at w c0 c1 c2 c3 c4 c5 j u h
  rw [Go.WideShapes.add_plain] at h1 ⊢
  exact (hb.cell (p := ⟨w.heap.size, 0 + j, none⟩) (by rw [drew_hp]; simp)).trans h1
theorem al_below {w w2 : World} {o : Obj} (hb : Below (w.alloc o).drew.heap.size (w.alloc o).drew w2) : Below w.heap.size w w2 := (alloc_drew_below w o).trans (hb.mono (alloc_drew_below w o).size)
theorem dr_below {w w2 : World} (hb : Below w.drew.heap.size w.drew w2) : Below w.heap.size w w2 := (Below.refl _ w).drew.trans hb
theorem six_plain (w : World) (c0 c1 c2 c3 c4 c5 : Value) : ∀ j u, [c0, c1, c2, c3, c4, c5][j]? = some u → (w.alloc (.cells #[c0, c1, c2, c3, c4, c5] 27)).cell? ((⟨w.heap.size, 0, none⟩ : Addr).add j) = some u := six_cells w c0 c1 c2 c3 c4 c5
set_option maxRecDepth 100000 in
set_option maxHeartbeats 16000000 in
theorem endRow_yes {B D : Nat} {col : Nat → Nat} {w : World} {s : ByteArray} {k G cap : Nat} {vlow : List (Value × Value)} {vr vp : Value} {low : List Lv} {top : Lv} (hS : StC B D col w s k G cap vlow vr vp low top) (hn : low.length < 1000000) (hr : top.rows.length < 1000000) (hp : top.parts.length < 1000000) (hne : top.parts ≠ []) :
    Calls Try.prog 62 #[.pointer (some ⟨D, 0, none⟩)] w (StepPost B D col w s k low ⟨top.rows ++ [foldE .seq top.parts], []⟩) := by
  obtain ⟨i0, z0, hi0, hz0, hz1, hz2, hz3⟩ := infoR2
  have hz2' := Lib.hid hz2
  clear hz2
  have KT := Lib.hid (top_any hS.rd (by omega))
  have HS := Lib.hid hS
  have KM := Lib.hid must_yes
  have hBw := hS.sizes.1
  obtain ⟨al, vc, rfl⟩ : ∃ al c, vr = .slice al top.rows.length c := by
    obtain ⟨_, h, _⟩ := hS.tp.1
    exact own_form h
  obtain ⟨gp, cp, rfl, -⟩ := row_n hS.tp.2 hne
  have hpos : 0 < top.parts.length := List.length_pos_iff.2 hne
  have q0 : decide ((0 : Int) < (top.parts.length : Int)) = true := decide_eq_true (by omega)
  have q0' : decide (0 < top.parts.length) = true := decide_eq_true (by omega)
  have HNE := Lib.hid hne
  clear hS hne
  go_enter Try.func62, Try.ntmps62
  go_wp2_with fail
  refine KT.out.mono ?_
  rintro e w1 ⟨rfl, hb1⟩
  have hS1 := HS.out.below hb1
  have HBW1 := Lib.hid (hb1.mono hBw)
  have HB1 := Lib.hid hb1
  obtain ⟨l0, l1, lf⟩ := hS1.cells
  have lf0 := lf (low.length * 2)
  have lf1 := lf (low.length * 2 + 1)
  obtain ⟨g2, cp2, e2, -, -, -, hrn⟩ := row_n hS1.tp.2 HNE.out
  simp at e2
  obtain ⟨rfl, rfl⟩ := e2
  obtain ⟨xs, hx1, hx2, hx3⟩ := hS1.tp.1
  obtain ⟨s1, s2, s3, s4, s5, s6⟩ := hS1.sizes
  have KC := Lib.hid fun W (hb : Below w1.heap.size w1 W) => rchain_tree (k := 4) (o := 2) (f := .seq) (fun _ _ => rfl) (by decide) HNE.out (by omega) (cap := cp) hrn s1 hS1.new hb
  rw [show (((4 : Nat) : Int)) = 4 from rfl] at KC
  have hcG := hS1.cG
  have HS1 := Lib.hid hS1
  have HX2 := Lib.hid hx2
  have HX3 := Lib.hid hx3
  have HOWN := Lib.hid hx1
  have hlen := hx1.1
  have hidx : (top.rows.length : Int) < (top.rows.length : Int) + 1 := by omega
  have hszg : ¬ G = w1.heap.size := by omega
  have mixed : Try.prog.follows Departure.mixedOrders = true := by kernel_rfl
  clear hS1 hb1 hrn hx1 hx2 hx3 lf KT HNE
  go_wp2_with fail
  refine (KM.out _ _).mono ?_
  rintro e w2 ⟨rfl, rfl⟩
  go_wp2_with fail
  go_region_law (first
    | (refine step_append_lies _ rfl (.tmp 16) (.tmp 23) 25 rfl B 27 i0 z0 6 64 Try.underlying25 hi0 hz0 hz1 hz2'.out hz3 (by decide) (.slice al top.rows.length vc) top.rows.length xs rfl ((own_go HOWN.out fun g _ hl => hbA.block g hl).alloc _) ⟨w3.heap.size, 0, none⟩ 1 1 [.int .u8 0, .int .u64 0, .int .u64 0, .int .u64 0, .int .u64 0, .slice none 0 0] rfl rfl (six_plain w3 _ _ _ _ _ _) zero6_one (by decide) (by unfold maxLen; omega) (by omega) (Nat.le_trans s1 (hbA.alloc hbA.size _).size) _ rfl ?_; (have hA := hbA.alloc hbA.size (.cells #[.int .u8 0, .int .u64 0, .int .u64 0, .int .u64 0, .int .u64 0, .slice none 0 0] 27)); (have hreA := hre.below ((Below.refl _ w3).alloc (Nat.le_refl _) (.cells #[.int .u8 0, .int .u64 0, .int .u64 0, .int .u64 0, .int .u64 0, .slice none 0 0] 27))); (intro g' cap' wB hown hgrow hat hlt); (obtain ⟨⟨n0, n1, n2, n3, n4, n5⟩, m0, m1, m2, m3, m4, m5⟩ := new6 hlen hown); (obtain ⟨hfar, ne1, ne2⟩ := grown_far hA hgrow hat HX3.out s3 (by rw [hcG]; omega)); (have k0 : wB.cell? ⟨G, low.length * 2, none⟩ = some (.slice al top.rows.length vc) := (World.cell?_of_block hfar).trans l0); (have k1 : wB.cell? ⟨G, low.length * 2 + 1, none⟩ = some (.slice (some ⟨gp, 0, none⟩) top.parts.length cp) := (World.cell?_of_block hfar).trans l1); (have k2 : wB.frozen? ⟨G, low.length * 2, none⟩ = false := (World.frozen?_of_block hfar).trans lf0); (have k3 : wB.frozen? ⟨G, low.length * 2 + 1, none⟩ = false := (World.frozen?_of_block hfar).trans lf1); (have HOW := Lib.hid hown); (have HGR := Lib.hid hgrow); (have HAT := Lib.hid hat); (have HRA := Lib.hid hreA); (have HA := Lib.hid hA); clear hown hgrow hat hfar hreA hA)
    | (refine step_append_lies _ rfl (.tmp 16) (.tmp 23) 25 rfl B 27 i0 z0 6 64 Try.underlying25 hi0 hz0 hz1 hz2'.out hz3 (by decide) (.slice al top.rows.length vc) top.rows.length xs rfl (own_go HOWN.out fun g _ hl => hbA.block g hl) ⟨w2.heap.size, 0, none⟩ 1 1 [.int .u8 0, .int .u64 0, .int .u64 0, .int .u64 0, .int .u64 0, .slice none 0 0] rfl rfl hzr zero6_one (by decide) (by unfold maxLen; omega) (by omega) (Nat.le_trans s1 hbA.size) _ rfl ?_; (have hA := hbA); (have hreA := hre); (intro g' cap' wB hown hgrow hat hlt); (obtain ⟨⟨n0, n1, n2, n3, n4, n5⟩, m0, m1, m2, m3, m4, m5⟩ := new6 hlen hown); (obtain ⟨hfar, ne1, ne2⟩ := grown_far hA hgrow hat HX3.out s3 (by rw [hcG]; omega)); (have k0 : wB.cell? ⟨G, low.length * 2, none⟩ = some (.slice al top.rows.length vc) := (World.cell?_of_block hfar).trans l0); (have k1 : wB.cell? ⟨G, low.length * 2 + 1, none⟩ = some (.slice (some ⟨gp, 0, none⟩) top.parts.length cp) := (World.cell?_of_block hfar).trans l1); (have k2 : wB.frozen? ⟨G, low.length * 2, none⟩ = false := (World.frozen?_of_block hfar).trans lf0); (have k3 : wB.frozen? ⟨G, low.length * 2 + 1, none⟩ = false := (World.frozen?_of_block hfar).trans lf1); (have HOW := Lib.hid hown); (have HGR := Lib.hid hgrow); (have HAT := Lib.hid hat); (have HRA := Lib.hid hreA); (have HA := Lib.hid hA); clear hown hgrow hat hfar hreA hA)
    | (go_simp; go_at_call 69; (with_reducible refine (KC.out _ (Below.refl _ _).drew).mono ?_); (rintro e w3 ⟨y0, y1, y2, y3, y4, yl, yn, yc, rfl, hre, hbx⟩); (have hbA := dr_below hbx); (have l0' := (World.cell?_of_block (hbA.block G s3)).trans l0); (have l1' := (World.cell?_of_block (hbA.block G s3)).trans l1); (have hszg' : ¬ G = w3.heap.size := (by have := hbA.size; omega)); (have hG3 : G < w3.heap.size := Nat.lt_of_lt_of_le s3 hbA.size); go_simp)
    | (go_simp; go_at_call 69; (with_reducible refine (KC.out _ (alloc_drew_below _ _)).mono ?_); (rintro e w3 ⟨y0, y1, y2, y3, y4, yl, yn, yc, rfl, hre, hbx⟩); (have hzr := zero_later _ _ _ _ _ _ hbx); (have hbA := al_below hbx); (have l0' := (World.cell?_of_block (hbA.block G s3)).trans l0); (have l1' := (World.cell?_of_block (hbA.block G s3)).trans l1); (have hszg' : ¬ G = w3.heap.size := (by have := hbA.size; omega)); (have hG3 : G < w3.heap.size := Nat.lt_of_lt_of_le s3 hbA.size); go_simp)
    | fail)
  all_goals (
    go_wp2
    go_end0
    first
      | with_reducible exact row_closeA (HS1.out.below HA.out) (HX2.out.go (keptB HA.out _)) HX3.out HRA.out (HBW1.out.trans (HA.out.mono s1)) HOW.out HGR.out HAT.out hlen (Frm.below (HB1.out.trans (HA.out.mono HB1.out.size))) hn
      | with_reducible exact row_closeB (HS1.out.below HA.out) (HX2.out.go (keptB HA.out _)) HX3.out HRA.out (HBW1.out.trans (HA.out.mono s1)) HOW.out HGR.out HAT.out hlen (Frm.below (HB1.out.trans (HA.out.mono HB1.out.size))) hn
      | fail)
open Go.RowKit
theorem StC.frm {B D : Nat} {C : Nat → Prop} {col col' : Nat → Nat} {w w' : World} {s : ByteArray} {k G cap : Nat} {vlow : List (Value × Value)} {vr vp : Value} {low : List Lv} {top : Lv} (h : StC B D col w s k G cap vlow vr vp low top) (hf : Frm C col col' w w') (hC : ∀ x, C x → 1000000000 ≤ x) (hn : low.length < 1000000) (hnew : ∀ b, w'.heap.size ≤ b → col' b = 0) : StC B D col' w' s k G cap vlow vr vp low top := by
  obtain ⟨z1, z2, z3, z4, z5, z6⟩ := h.sizes
  have h0 : ¬ C 0 := fun e => by have := hC _ e; omega
  refine ⟨h.rd.of ((hf.2 D z2).2 (fun e => by rw [h.cD] at e; have := hC _ e; omega)), h.ge, by rw [(hf.2 D z2).1]; exact h.cD, own_levels h.own ((hf.2 G z3).2 (fun e => by rw [h.cG] at e; have := hC _ e; omega)), by rw [(hf.2 G z3).1]; exact h.cG, ⟨h.lo.1, fun i hi hi' => ?_⟩, h.tp.frame hf h0 (fun e => by have := hC _ e; omega) (fun e => by have := hC _ e; omega), hnew⟩
  exact (h.lo.2 i hi hi').frame hf h0 (fun e => by have := hC _ e; omega) (fun e => by have := hC _ e; omega)
theorem box_frm {C : Nat → Prop} (col : Nat → Nat) (w : World) (o : Obj) : Frm C col (upd col w.heap.size bxC) w (w.alloc o) :=
  ⟨by simp, fun b hb => ⟨upd_far _ (by omega), fun _ => Below.heap_alloc _ _ _ hb⟩⟩
theorem box_new {col : Nat → Nat} {w : World} (o : Obj) (h : ∀ b, w.heap.size ≤ b → col b = 0) : ∀ b, (w.alloc o).heap.size ≤ b → upd col w.heap.size bxC b = 0 := by
  intro b hb
  rw [World.size_alloc] at hb
  rw [upd_far _ (by omega)]
  exact h b (by omega)
theorem StC.box {B D : Nat} {col : Nat → Nat} {w : World} {s : ByteArray} {k G cap : Nat} {vlow : List (Value × Value)} {vr vp : Value} {low : List Lv} {top : Lv} (h : StC B D col w s k G cap vlow vr vp low top) (hn : low.length < 1000000) (o : Obj) : StC B D (upd col w.heap.size bxC) (w.alloc o) s k G cap vlow vr vp low top :=
  h.frm (box_frm (C := fun _ => False) col w o) (fun _ e => e.elim) hn (box_new o h.new)
theorem not_wk : ¬ Wk bxC := fun h => by have := h.2; omega
theorem put_frm {col : Nat → Nat} {w : World} {g : Nat} (hg : col g = bxC) (y0 y1 y2 y3 y4 y5 : Value) : Frm (fun x => x = bxC) col col w (putW w g y0 y1 y2 y3 y4 y5) :=
  ⟨by rw [putW_size]; exact Nat.le_refl _, fun b _ => ⟨rfl, fun hc => putW_other _ _ _ _ _ _ _ _ (fun e => hc (by rw [e]; exact hg))⟩⟩
theorem Frm.put {C : Nat → Prop} {col col' : Nat → Nat} {w w' : World} (h : Frm C col col' w w') {g : Nat} (hg : w.heap.size ≤ g) (y0 y1 y2 y3 y4 y5 : Value) : Frm C col col' w (putW w' g y0 y1 y2 y3 y4 y5) :=
  ⟨by rw [putW_size]; exact h.1, fun b hb => ⟨(h.2 b hb).1, fun hc => (putW_other _ _ _ _ _ _ _ _ (by omega)).trans ((h.2 b hb).2 hc)⟩⟩
theorem StC.put {B D : Nat} {col : Nat → Nat} {w : World} {s : ByteArray} {k G cap g : Nat} {vlow : List (Value × Value)} {vr vp : Value} {low : List Lv} {top : Lv} (h : StC B D col w s k G cap vlow vr vp low top) (hn : low.length < 1000000) (hg : col g = bxC) (y0 y1 y2 y3 y4 y5 : Value) : StC B D col (putW w g y0 y1 y2 y3 y4 y5) s k G cap vlow vr vp low top :=
  h.frm (put_frm hg y0 y1 y2 y3 y4 y5) (fun x e => by rw [e]; unfold bxC; omega) hn (fun b hb => h.new b (by rw [putW_size] at hb; exact hb))
theorem re_put {B : Nat} {col : Nat → Nat} {w : World} {v : Value} {r : Rx} {g : Nat} (h : ReAt (Tree B col) w v r) (hg : col g = bxC) (y0 y1 y2 y3 y4 y5 : Value) : ReAt (Tree B col) (putW w g y0 y1 y2 y3 y4 y5) v r := h.go ((put_frm hg y0 y1 y2 y3 y4 y5).kept (fun e => by unfold bxC at e; omega))
def ExprPost (B D : Nat) (col : Nat → Nat) (w : World) (s : ByteArray) (k : Nat) (low : List Lv) (lv : Lv) (ex : Ex) (e : Ending) (w' : World) : Prop :=
  ∃ col' G cap vlow vr vp y0 y1 y2 y3 y4 yl yn yc, e = .returned (.agg #[.int .u8 y0, .int .u64 y1, .int .u64 y2, .int .u64 y3, .int .u64 y4, .slice yl yn yc]) ∧ Below B w w' ∧ Frm Wk col col' w w' ∧ StC B D col' w' s k G cap vlow vr vp low lv ∧ ReAt (Tree B col') w' (.agg #[.int .u8 y0, .int .u64 y1, .int .u64 y2, .int .u64 y3, .int .u64 y4, .slice yl yn yc]) ex.rx
set_option maxHeartbeats 4000000 in
theorem expr_yes {B D : Nat} {col : Nat → Nat} {w : World} {s : ByteArray} {k G cap : Nat} {vlow : List (Value × Value)} {vr vp : Value} {low : List Lv} {top : Lv} (hS : StC B D col w s k G cap vlow vr vp low top) (hn : low.length < 1000000) (hr : top.rows.length < 1000000) (hp : top.parts.length < 1000000) (hne : top.parts ≠ []) :
    Calls Try.prog 52 #[.pointer (some ⟨D, 0, none⟩)] w (ExprPost B D col w s k low ⟨top.rows ++ [foldE .seq top.parts], []⟩ (foldE .alt (top.rows ++ [foldE .seq top.parts]))) := by
  have hBw := hS.sizes.1
  have KE := Lib.hid (endRow_yes (hS.box hn nilBlk) hn hr hp hne)
  have F0 := Lib.hid (box_frm (C := Wk) col w nilBlk)
  have hb0 := (Below.refl B w).alloc hBw nilBlk
  have HB0 := Lib.hid hb0
  have HNB := Lib.hid (blk_new w nilBlk)
  unfold nilBlk at KE F0 HB0 HNB
  clear hS hne hb0
  go_enter Try.func52, Try.ntmps52
  go_wp2_with fail
  refine KE.out.mono ?_
  rintro e w1 ⟨rfl, hb1, col1, G1, cap1, vlow1, vr1, vp1, hf1, hS1⟩
  have hfw := F0.out.trans hf1
  have hc1 : col1 w.heap.size = bxC := by rw [(hf1.2 w.heap.size (by simp)).1, upd_at]
  have hbx1 := ((hf1.2 w.heap.size (by simp)).2 (by rw [upd_at]; exact not_wk)).trans HNB.out
  have HBW := Lib.hid (HB0.out.trans hb1)
  have KT := Lib.hid (top_any hS1.rd (by omega))
  have HS1 := Lib.hid hS1
  have HF := Lib.hid hfw
  have HBX := Lib.hid hbx1
  clear hb1 hf1 hS1 hfw hbx1 HB0 F0 HNB
  go_wp2_with fail
  refine KT.out.mono ?_
  rintro e w2 ⟨rfl, hb2⟩
  have hS2 := HS1.out.below hb2
  have hbx2 := (hb2.block _ (Array.getElem?_eq_some_iff.1 HBX.out).1).trans HBX.out
  obtain ⟨l0, l1, lf⟩ := hS2.cells
  obtain ⟨g2, cp2, rfl, -, -, -, hrn⟩ := row_n hS2.tp.1 (by simp)
  have s1 := hS2.sizes.1
  have KC := Lib.hid (rchain_tree (W := w2) (k := 5) (o := 1) (f := .alt) (fun _ _ => rfl) (by decide) (l := top.rows ++ [foldE .seq top.parts]) (by simp) (by simp; omega) (cap := cp2) hrn s1 hS2.new (Below.refl _ _))
  rw [show (((5 : Nat) : Int)) = 5 from rfl] at KC
  have HS2 := Lib.hid hS2
  have HF2 := Lib.hid (HF.out.post hb2)
  have HB2 := Lib.hid (HBW.out.trans (hb2.mono (HS1.out.sizes.1)))
  clear hS2 hb2 hrn lf HS1 HF HBW KT
  generalize foldE Ex.alt (top.rows ++ [foldE .seq top.parts]) = FE at *
  generalize top.rows ++ [foldE .seq top.parts] = RS at *
  go_wp2_with fail
  refine KC.out.mono ?_
  rintro e w3 ⟨y0, y1, y2, y3, y4, yl, yn, yc, rfl, hre, hb3⟩
  have hbx3 := (hb3.block _ (Array.getElem?_eq_some_iff.1 hbx2).1).trans hbx2
  obtain ⟨g0, g1, g2', g3, g4, g5, p0, p1, p2, p3, p4, p5⟩ := cellsR hbx3
  have HP := Lib.hid (putR hbx3 (.int .u8 y0) (.int .u64 y1) (.int .u64 y2) (.int .u64 y3) (.int .u64 y4) (.slice yl yn yc))
  have HEX := Lib.hid (show ExprPost B D col w s k low ⟨RS, []⟩ FE (.returned (.agg #[.int .u8 y0, .int .u64 y1, .int .u64 y2, .int .u64 y3, .int .u64 y4, .slice yl yn yc])) (putW w3 w.heap.size (.int .u8 y0) (.int .u64 y1) (.int .u64 y2) (.int .u64 y3) (.int .u64 y4) (.slice yl yn yc)) from
    ⟨col1, _, _, _, _, _, y0, y1, y2, y3, y4, yl, yn, yc, rfl, putB (HB2.out.trans (hb3.mono s1)) hBw _ _ _ _ _ _, (HF2.out.post hb3).put (Nat.le_refl _) _ _ _ _ _ _, (HS2.out.below hb3).put hn hc1 _ _ _ _ _ _, re_put hre hc1 _ _ _ _ _ _⟩)
  unfold putW at HP HEX
  clear hre hb3 hbx3 hbx2
  go_wp2
  exact ret_re HP.out Try.results52 rfl rfl HEX.out
theorem expr_no {B D : Nat} {col : Nat → Nat} {w : World} {s : ByteArray} {k G cap : Nat} {vlow : List (Value × Value)} {vr vp : Value} {low : List Lv} {rows : List Ex} (hS : StC B D col w s k G cap vlow vr vp low ⟨rows, []⟩) (hn : low.length < 1000000) :
    Calls Try.prog 52 #[.pointer (some ⟨D, 0, none⟩)] w (ThrPost B k w) := by
  have hBw := hS.sizes.1
  have KE := Lib.hid (endRow_no (hS.box hn nilBlk) hn)
  have HB0 := Lib.hid ((Below.refl B w).alloc hBw nilBlk)
  unfold nilBlk at KE HB0
  clear hS
  go_enter Try.func52, Try.ntmps52
  go_wp2_with fail
  refine KE.out.mono ?_
  rintro e w1 ⟨rfl, hb1⟩
  exact ⟨rfl, rfl, HB0.out.trans hb1⟩
open Go.RowKit
theorem own_prefix {w : World} {B : Nat} {t : TypeId} {sz g n cap : Nat} {xs ys : List Value} (h : w.ownsRow B t sz (.slice (some ⟨g, 0, none⟩) (n + 1) cap) (n + 1) (xs ++ ys)) (hx : xs.length = n * sz) : w.ownsRow B t sz (.slice (some ⟨g, 0, none⟩) n cap) n xs := by
  obtain ⟨h1, ⟨e, _⟩ | ⟨g', cap', cur, e, hB, hg, hn, hm, hs, ht⟩⟩ := h
  · simp at e
  · simp at e
    obtain ⟨rfl, rfl⟩ := e
    refine ⟨hx, .inr ⟨g, cap, cur, rfl, hB, hg, by omega, hm, hs, ?_⟩⟩
    have := congrArg (List.take (n * sz)) ht
    rw [List.take_take, Nat.min_eq_left (Nat.mul_le_mul_right _ (by omega))] at this
    rw [this, List.take_append_of_le_length (by omega), List.take_of_length_le (by omega)]
theorem StC.pop {B D : Nat} {col : Nat → Nat} {w : World} {s : ByteArray} {k G cap : Nat} {vlow : List (Value × Value)} {vr vp : Value} {low : List Lv} {lv top : Lv} (h : StC B D col w s k G cap vlow vr vp (low ++ [lv]) top) : ∃ vs vr' vp', StC B D col (w.setCell ⟨D, 2, none⟩ (.slice (some ⟨G, 0, none⟩) (low.length + 1) cap)) s k G cap vs vr' vp' low lv := by
  obtain ⟨z1, z2, z3, z4, z5, z6⟩ := h.sizes
  obtain ⟨vs, ⟨vr', vp'⟩, rfl, hlo, htp⟩ := h.lo.unsnoc
  have hf : Frm (fun x => x = 1) col col w (w.setCell ⟨D, 2, none⟩ (.slice (some ⟨G, 0, none⟩) (low.length + 1) cap)) := ⟨by simp [World.setCell], fun b _ => ⟨rfl, fun hc => Below.heap_setCell _ _ _ _ (fun e => hc (by rw [show b = D from e]; exact h.cD))⟩⟩
  have hown := h.own
  rw [flat_snoc] at hown
  have hl : (low ++ [lv]).length = low.length + 1 := by simp
  rw [hl] at hown
  have hown2 := own_prefix hown (by rw [List.length_append, flat_len, hlo.1]; simp; omega)
  exact ⟨vs, vr', vp', h.rd.lay _, h.ge, h.cD, own_levels hown2 ((hf.2 G z3).2 (by rw [h.cG]; omega)), h.cG, hlo.frame hf (by omega), htp.frame hf (by omega) (by omega) (by omega), fun b hb => h.new b (by simpa [World.setCell] using hb)⟩
theorem closed_one {B D : Nat} {col : Nat → Nat} {w : World} {s : ByteArray} {k G cap : Nat} {vlow : List (Value × Value)} {vr vp : Value} {top : Lv} (hS : StC B D col w s k G cap vlow vr vp [] top) :
    Calls Try.prog 61 #[.pointer (some ⟨D, 0, none⟩)] w (ThrPost B k w) := by
  have hBw := hS.sizes.1
  have h0 := (Below.refl w.heap.size w).alloc (Nat.le_refl _) nilBlk
  have hr := hS.rd.below h0
  obtain ⟨c0, c1, c2⟩ := hS.rd.cells
  have hlt := hS.rd.lt
  have KM := Lib.hid (must_no hr)
  have HB0 := Lib.hid ((Below.refl B w).alloc hBw nilBlk)
  unfold nilBlk at KM HB0
  simp only [List.length_nil, Nat.zero_add] at c2
  clear hS hr h0
  go_enter Try.func61, Try.ntmps61
  go_wp2_with fail
  refine KM.out.mono ?_
  rintro e w1 ⟨rfl, rfl⟩
  exact ⟨rfl, rfl, HB0.out⟩
theorem own_cap {w : World} {B : Nat} {t : TypeId} {sz g n cap : Nat} {xs : List Value} (h : w.ownsRow B t sz (.slice (some ⟨g, 0, none⟩) n cap) n xs) : n ≤ cap := by
  obtain ⟨_, ⟨e, _⟩ | ⟨g', cap', cur, e, hB, hg, hn, _⟩⟩ := h
  · simp at e
  · simp at e
    obtain ⟨rfl, rfl⟩ := e
    exact hn
theorem closed_end {B D : Nat} {col colt : Nat → Nat} {w W : World} {s : ByteArray} {k G cap b0 : Nat} {vlow : List (Value × Value)} {vr vp : Value} {low : List Lv} {lv top : Lv} {ex : Ex} {y0 y1 y2 y3 y4 : Int} {yl : Option Addr} {yn yc : Nat} (hS : StC B D colt W s k G cap vlow vr vp (low ++ [lv]) top) (hn : low.length < 1000000) (hc : colt b0 = bxC) (hb0 : w.heap.size ≤ b0) (hBw : B ≤ w.heap.size) (hf : Frm Wk col colt w W) (hB : Below B w W) (hre : ReAt (Tree B colt) W (.agg #[.int .u8 y0, .int .u64 y1, .int .u64 y2, .int .u64 y3, .int .u64 y4, .slice yl yn yc]) ex.rx) :
    ExprPost B D col w s (k + 1) low lv ex (.returned (.agg #[.int .u8 y0, .int .u64 y1, .int .u64 y2, .int .u64 y3, .int .u64 y4, .slice yl yn yc])) (putW ((W.setCell ⟨D, 2, none⟩ (.slice (some ⟨G, 0, none⟩) (low.length + 1) cap)).setCell ⟨D, 1, none⟩ (.int .i64 ((k : Int) + 1))) b0 (.int .u8 y0) (.int .u64 y1) (.int .u64 y2) (.int .u64 y3) (.int .u64 y4) (.slice yl yn yc)) := by
  obtain ⟨vs, vr', vp', h1⟩ := hS.pop
  have h2 := h1.but ((But.refl D _ _).set 1 (.int .i64 ((k : Int) + 1))) (h1.rd.go (k + 1))
  have hfa : Frm Wk colt colt W ((W.setCell ⟨D, 2, none⟩ (.slice (some ⟨G, 0, none⟩) (low.length + 1) cap)).setCell ⟨D, 1, none⟩ (.int .i64 ((k : Int) + 1))) := but_frm hS.cD (((But.refl D _ W).set 2 _).set 1 _)
  refine ⟨colt, _, _, _, _, _, y0, y1, y2, y3, y4, yl, yn, yc, rfl, putB ((hB.setCell (p := ⟨D, 2, none⟩) hS.ge _).setCell (p := ⟨D, 1, none⟩) hS.ge _) (Nat.le_trans hBw hb0) _ _ _ _ _ _, (hf.trans hfa).put hb0 _ _ _ _ _ _, h2.put hn hc _ _ _ _ _ _, re_put (hre.go (hfa.kept (fun e => e.1 rfl))) hc _ _ _ _ _ _⟩
set_option maxHeartbeats 4000000 in
theorem closed_no {B D : Nat} {col : Nat → Nat} {w : World} {s : ByteArray} {k G cap : Nat} {vlow : List (Value × Value)} {vr vp : Value} {low : List Lv} {rows : List Ex} (hS : StC B D col w s k G cap vlow vr vp low ⟨rows, []⟩) (hl : low ≠ []) (hn : low.length < 1000000) (hr : rows.length < 1000000) (hne : rows ≠ []) :
    Calls Try.prog 61 #[.pointer (some ⟨D, 0, none⟩)] w (ThrPost B k w) := by
  have hBw := hS.sizes.1
  have hpos : 0 < low.length := List.length_pos_iff.2 hl
  have hrp : 0 < rows.length := List.length_pos_iff.2 hne
  obtain ⟨al, vc, rfl⟩ : ∃ al c, vr = .slice al rows.length c := by
    obtain ⟨_, h, _⟩ := hS.tp.1
    exact own_form h
  obtain ⟨al', vc', rfl⟩ : ∃ al c, vp = .slice al 0 c := by
    obtain ⟨_, h, _⟩ := hS.tp.2
    exact own_form h
  clear hl hne
  have hS0 := hS.box hn nilBlk
  obtain ⟨c0, c1, c2⟩ := hS0.rd.cells
  have HS0 := Lib.hid hS0
  have HB0 := Lib.hid ((Below.refl B w).alloc hBw nilBlk)
  have HNB := Lib.hid (blk_new w nilBlk)
  have F0 := Lib.hid (box_frm (C := Wk) col w nilBlk)
  have KM := Lib.hid must_yes
  have q0 : decide ((1 : Int) < (low.length : Int) + 1) = true := decide_eq_true (by omega)
  have KTh := Lib.hid fun W => then_any (ok := fun _ => True) [] none 0 W (by simp) (.inl rfl)
  simp only [foldR, List.length_nil] at KTh
  unfold nilBlk at HS0 HB0 c0 c1 c2 HNB F0
  have hs0 := HS0.out.sizes.1
  clear hS hS0
  go_enter Try.func61, Try.ntmps61
  go_wp2_with fail
  refine (KM.out _ _).mono ?_
  rintro e w1 ⟨rfl, rfl⟩
  go_wp2_with fail
  refine (KTh.out _).mono ?_
  rintro e w2 ⟨v2, rfl, hv2, hb2⟩
  obtain ⟨t0, t1, t2, t3, t4, tl0, tn, tc, rfl⟩ := cells_re hv2
  have hS2 := HS0.out.below hb2
  have hS3 := hS2.box hn (.cells #[.int .u8 t0, .int .u64 t1, .int .u64 t2, .int .u64 t3, .int .u64 t4, .slice tl0 tn tc] 27)
  have hb3 := (hb2.mono hs0).alloc (Nat.le_trans hs0 hb2.size) (.cells #[.int .u8 t0, .int .u64 t1, .int .u64 t2, .int .u64 t3, .int .u64 t4, .slice tl0 tn tc] 27)
  have HB3 := Lib.hid (HB0.out.trans hb3)
  have hc0 : upd (upd col w.heap.size bxC) w2.heap.size bxC w.heap.size = bxC := by
    rw [upd_far _ (by have := hb2.size; rw [World.size_alloc] at this; omega), upd_at]
  have hf3 := (F0.out.post hb2).trans (box_frm (C := Wk) (upd col w.heap.size bxC) w2 (.cells #[.int .u8 t0, .int .u64 t1, .int .u64 t2, .int .u64 t3, .int .u64 t4, .slice tl0 tn tc] 27))
  have hnb3 : (w2.alloc (.cells #[.int .u8 t0, .int .u64 t1, .int .u64 t2, .int .u64 t3, .int .u64 t4, .slice tl0 tn tc] 27)).heap[w.heap.size]? = some nilBlk := (Below.heap_alloc _ _ _ (by have := hb2.size; rw [World.size_alloc] at this; omega)).trans ((hb2.block _ (by simp)).trans HNB.out)
  have hbx3 := blk_new w2 (.cells #[.int .u8 t0, .int .u64 t1, .int .u64 t2, .int .u64 t3, .int .u64 t4, .slice tl0 tn tc] 27)
  have hre3 : ReAt (Tree B (upd (upd col w.heap.size bxC) w2.heap.size bxC)) (w2.alloc (.cells #[.int .u8 t0, .int .u64 t1, .int .u64 t2, .int .u64 t3, .int .u64 t4, .slice tl0 tn tc] 27)) (.agg #[.int .u8 t0, .int .u64 t1, .int .u64 t2, .int .u64 t3, .int .u64 t4, .slice tl0 tn tc]) Ex.eps.rx := leaf_any _ hv2
  have hlt23 : w.heap.size < w2.heap.size := by have := hb2.size; rw [World.size_alloc] at this; omega
  have hc1 : upd (upd col w.heap.size bxC) w2.heap.size bxC w2.heap.size = bxC := upd_at _ _ _
  generalize upd (upd col w.heap.size bxC) w2.heap.size bxC = col3 at *
  have KT := Lib.hid (top_any hS3.rd (by omega))
  have HS3 := Lib.hid hS3
  have HF3 := Lib.hid hf3
  have HN3 := Lib.hid hnb3
  have HX3 := Lib.hid hbx3
  have HR3 := Lib.hid hre3
  clear hS2 hS3 hb3 hb2 hf3 hnb3 hbx3 hre3 hv2 HS0 HB0 HNB F0 KTh c0 c1 c2
  go_wp2_with fail
  refine KT.out.mono ?_
  rintro e w4 ⟨rfl, hb4⟩
  have hS4 := HS3.out.below hb4
  obtain ⟨l0, l1, lf⟩ := hS4.cells
  have HS4 := Lib.hid hS4
  have HF4 := Lib.hid (HF3.out.post hb4)
  have HB4 := Lib.hid (HB3.out.trans (hb4.mono HS3.out.sizes.1))
  have HN4 := Lib.hid ((hb4.block _ (by rw [World.size_alloc]; omega)).trans HN3.out)
  have HX4 := Lib.hid ((hb4.block _ (by rw [World.size_alloc]; omega)).trans HX3.out)
  have HR4 := Lib.hid (HR3.out.below hb4)
  clear hS4 hb4 HS3 HF3 HB3 HN3 HX3 HR3 KT lf
  have KE := Lib.hid fun W (h : Below w4.heap.size w4 W) => expr_no (HS4.out.below h) hn
  have q1 : IntKind.i64.wrap (rows.length : Int) = (rows.length : Int) := by rw [IntKind.wrap_i64]; omega
  have q2 : decide ((0 : Int) < (rows.length : Int)) = true := decide_eq_true (by omega)
  have q3 : decide (0 < rows.length) = true := decide_eq_true (by omega)
  go_wp2_with fail
  go_quiet (fail)
  go_wp2_with fail
  refine (KE.out _ (below_drewN (Below.refl _ _) _)).mono ?_
  rintro e w5 ⟨rfl, hb5⟩
  exact ⟨rfl, rfl, HB4.out.trans ((below_drewN (Below.refl B _) _).trans hb5)⟩
set_option maxRecDepth 100000 in
set_option maxHeartbeats 4000000 in
theorem closed_eps {B D : Nat} {col : Nat → Nat} {w : World} {s : ByteArray} {k G cap : Nat} {vlow : List (Value × Value)} {vr vp : Value} {low : List Lv} {lv : Lv} (hS : StC B D col w s k G cap vlow vr vp (low ++ [lv]) ⟨[], []⟩) (hn : (low ++ [lv]).length < 1000000) (hk : k < 1000000000) :
    Calls Try.prog 61 #[.pointer (some ⟨D, 0, none⟩)] w (ExprPost B D col w s (k + 1) low lv .eps) := by
  have hBw := hS.sizes.1
  have hl1 : (low ++ [lv]).length = low.length + 1 := by simp
  obtain ⟨al, vc, rfl⟩ : ∃ al c, vr = .slice al 0 c := by
    obtain ⟨_, h, _⟩ := hS.tp.1
    exact own_form h
  obtain ⟨al', vc', rfl⟩ : ∃ al c, vp = .slice al 0 c := by
    obtain ⟨_, h, _⟩ := hS.tp.2
    exact own_form h
  have hS0 := hS.box hn nilBlk
  obtain ⟨c0, c1, c2⟩ := hS0.rd.cells
  have HS0 := Lib.hid hS0
  have HB0 := Lib.hid ((Below.refl B w).alloc hBw nilBlk)
  have HNB := Lib.hid (blk_new w nilBlk)
  have F0 := Lib.hid (box_frm (C := Wk) col w nilBlk)
  have KM := Lib.hid must_yes
  have q0 : decide ((1 : Int) < (low.length : Int) + 1 + 1) = true := decide_eq_true (by omega)
  have KTh := Lib.hid fun W => then_any (ok := fun _ => True) [] none 0 W (by simp) (.inl rfl)
  simp only [foldR, List.length_nil] at KTh
  unfold nilBlk at HS0 HB0 c0 c1 c2 HNB F0
  rw [hl1] at c2
  have hs0 := HS0.out.sizes.1
  clear hS hS0
  go_enter Try.func61, Try.ntmps61
  go_wp2_with fail
  refine (KM.out _ _).mono ?_
  rintro e w1 ⟨rfl, rfl⟩
  go_wp2_with fail
  refine (KTh.out _).mono ?_
  rintro e w2 ⟨v2, rfl, hv2, hb2⟩
  obtain ⟨t0, t1, t2, t3, t4, tl0, tn, tc, rfl⟩ := cells_re hv2
  have hS2 := HS0.out.below hb2
  have hS3 := hS2.box hn (.cells #[.int .u8 t0, .int .u64 t1, .int .u64 t2, .int .u64 t3, .int .u64 t4, .slice tl0 tn tc] 27)
  have hb3 := (hb2.mono hs0).alloc (Nat.le_trans hs0 hb2.size) (.cells #[.int .u8 t0, .int .u64 t1, .int .u64 t2, .int .u64 t3, .int .u64 t4, .slice tl0 tn tc] 27)
  have HB3 := Lib.hid (HB0.out.trans hb3)
  have hc0 : upd (upd col w.heap.size bxC) w2.heap.size bxC w.heap.size = bxC := by
    rw [upd_far _ (by have := hb2.size; rw [World.size_alloc] at this; omega), upd_at]
  have hf3 := (F0.out.post hb2).trans (box_frm (C := Wk) (upd col w.heap.size bxC) w2 (.cells #[.int .u8 t0, .int .u64 t1, .int .u64 t2, .int .u64 t3, .int .u64 t4, .slice tl0 tn tc] 27))
  have hnb3 : (w2.alloc (.cells #[.int .u8 t0, .int .u64 t1, .int .u64 t2, .int .u64 t3, .int .u64 t4, .slice tl0 tn tc] 27)).heap[w.heap.size]? = some nilBlk := (Below.heap_alloc _ _ _ (by have := hb2.size; rw [World.size_alloc] at this; omega)).trans ((hb2.block _ (by simp)).trans HNB.out)
  have hbx3 := blk_new w2 (.cells #[.int .u8 t0, .int .u64 t1, .int .u64 t2, .int .u64 t3, .int .u64 t4, .slice tl0 tn tc] 27)
  have hre3 : ReAt (Tree B (upd (upd col w.heap.size bxC) w2.heap.size bxC)) (w2.alloc (.cells #[.int .u8 t0, .int .u64 t1, .int .u64 t2, .int .u64 t3, .int .u64 t4, .slice tl0 tn tc] 27)) (.agg #[.int .u8 t0, .int .u64 t1, .int .u64 t2, .int .u64 t3, .int .u64 t4, .slice tl0 tn tc]) Ex.eps.rx := leaf_any _ hv2
  have hlt23 : w.heap.size < w2.heap.size := by have := hb2.size; rw [World.size_alloc] at this; omega
  have hc1 : upd (upd col w.heap.size bxC) w2.heap.size bxC w2.heap.size = bxC := upd_at _ _ _
  generalize upd (upd col w.heap.size bxC) w2.heap.size bxC = col3 at *
  have KT := Lib.hid (top_any hS3.rd (by omega))
  rw [hl1] at KT
  have HS3 := Lib.hid hS3
  have HF3 := Lib.hid hf3
  have HN3 := Lib.hid hnb3
  have HX3 := Lib.hid hbx3
  have HR3 := Lib.hid hre3
  clear hS2 hS3 hb3 hb2 hf3 hnb3 hbx3 hre3 hv2 HS0 HB0 HNB F0 KTh c0 c1 c2
  go_wp2_with fail
  refine KT.out.mono ?_
  rintro e w4 ⟨rfl, hb4⟩
  have hS4 := HS3.out.below hb4
  obtain ⟨l0, l1, lf⟩ := hS4.cells
  rw [hl1] at l0 l1
  have HS4 := Lib.hid hS4
  have HF4 := Lib.hid (HF3.out.post hb4)
  have HB4 := Lib.hid (HB3.out.trans (hb4.mono HS3.out.sizes.1))
  have HN4 := Lib.hid ((hb4.block _ (by rw [World.size_alloc]; omega)).trans HN3.out)
  have HX4 := Lib.hid ((hb4.block _ (by rw [World.size_alloc]; omega)).trans HX3.out)
  have HR4 := Lib.hid (HR3.out.below hb4)
  clear hS4 hb4 HS3 HF3 HB3 HN3 HX3 HR3 KT lf
  have wk : IntKind.i64.wrap ((k : Int) + 1) = (k : Int) + 1 := by rw [IntKind.wrap_i64]; omega
  rw [hl1] at hn
  go_wp2_with fail
  go_quiet (fail)
  have hd : Below w4.heap.size w4 (w4.drewN nq) := below_drewN (Below.refl _ _) _
  generalize w4.drewN nq = w5 at *
  have hS5 := HS4.out.below hd
  have HF5 := Lib.hid (HF4.out.post hd)
  have HB5 := Lib.hid (HB4.out.trans (hd.mono HS4.out.sizes.1))
  have HN5 := Lib.hid ((hd.block _ (Array.getElem?_eq_some_iff.1 HN4.out).1).trans HN4.out)
  have HX5 := Lib.hid ((hd.block _ (Array.getElem?_eq_some_iff.1 HX4.out).1).trans HX4.out)
  have HR5 := Lib.hid (HR4.out.below hd)
  have hcB := hc0
  have hcX := hc1
  have hr5 := hS5.rd
  rw [hl1] at hr5
  obtain ⟨c0, c1, c2⟩ := hr5.cells
  obtain ⟨f0, f1, f2⟩ := hr5.frozen
  have hcap : low.length + 1 + 1 ≤ cap := by have := own_cap hS5.own; rw [hl1] at this; exact this
  have q4 : (low.length : Int) + 1 ≤ (cap : Int) := by omega
  have q5 : ((low.length : Int) + 1).toNat = low.length + 1 := by omega
  have q6 : IntKind.i64.wrap ((low.length : Int) + 1) = (low.length : Int) + 1 := by rw [IntKind.wrap_i64]; omega
  have q7 : (0 : Int) ≤ (low.length : Int) + 1 := by omega
  go_wp2_with fail
  go_still_tail 14, (by kernel_rfl)
  change wpList _ _ _ _ _ w5.drew
  have hS6 := hS5.below (Below.refl _ _).drew
  have hf6 := (HF5.out).post ((Below.refl w5.heap.size w5).drew)
  have hb6 := HB5.out.trans ((Below.refl B w5).drew)
  have hn6 : w5.drew.heap[w.heap.size]? = some nilBlk := by rw [drew_hp]; exact HN5.out
  have hx6 : w5.drew.heap[w2.heap.size]? = some (.cells #[.int .u8 t0, .int .u64 t1, .int .u64 t2, .int .u64 t3, .int .u64 t4, .slice tl0 tn tc] 27) := by rw [drew_hp]; exact HX5.out
  have hre6 := HR5.out.below (Below.refl w5.heap.size w5).drew
  clear c0 c1 c2 f0 f1 f2 hr5 hS5
  generalize w5.drew = w6 at *
  have hEND := closed_end (w := w) (b0 := w.heap.size) hS6 (by omega) hcB (Nat.le_refl _) hBw hf6 hb6 hre6
  have hr6 := hS6.rd
  rw [hl1] at hr6
  have hDl := hr6.lt
  obtain ⟨c0, c1, c2⟩ := hr6.cells
  obtain ⟨f0, f1, f2⟩ := hr6.frozen
  obtain ⟨g0, g1, g2, g3, g4, g5, p0, p1, p2, p3, p4, p5⟩ := cellsR hn6
  obtain ⟨a0, a1, a2, a3, a4, a5, -⟩ := cellsR hx6
  have hne1 : ¬ D = w.heap.size := fun e => by have := hS6.cD; rw [e, hcB] at this; unfold bxC at this; omega
  have hne2 : ¬ D = w2.heap.size := fun e => by have := hS6.cD; rw [e, hcX] at this; unfold bxC at this; omega
  have hn7 : ((w6.setCell ⟨D, 2, none⟩ (.slice (some ⟨G, 0, none⟩) (low.length + 1) cap)).setCell ⟨D, 1, none⟩ (.int .i64 ((k : Int) + 1))).heap[w.heap.size]? = some nilBlk := (Below.heap_setCell _ _ _ _ (fun e => hne1 e.symm)).trans ((Below.heap_setCell _ _ _ _ (fun e => hne1 e.symm)).trans hn6)
  have HP := Lib.hid (putR hn7 (.int .u8 t0) (.int .u64 t1) (.int .u64 t2) (.int .u64 t3) (.int .u64 t4) (.slice tl0 tn tc))
  have HEND := Lib.hid hEND
  unfold putW at HP HEND
  clear hEND hn7 hS6 hf6 hb6 hre6 hr6 hn6 hx6 HS4 HF4 HB4 HN4 HX4 HR4 HF5 HB5 HN5 HX5 HR5
  go_wp2
  exact ret_re HP.out Try.results61 rfl rfl HEND.out
set_option maxRecDepth 100000 in
set_option maxHeartbeats 4000000 in
theorem closed_yes {B D : Nat} {col : Nat → Nat} {w : World} {s : ByteArray} {k G cap : Nat} {vlow : List (Value × Value)} {vr vp : Value} {low : List Lv} {lv top : Lv} (hS : StC B D col w s k G cap vlow vr vp (low ++ [lv]) top) (hn : (low ++ [lv]).length < 1000000) (hk : k < 1000000000) (hr : top.rows.length < 1000000) (hp : top.parts.length < 1000000) (hne : top.parts ≠ []) :
    Calls Try.prog 61 #[.pointer (some ⟨D, 0, none⟩)] w (ExprPost B D col w s (k + 1) low lv (foldE .alt (top.rows ++ [foldE .seq top.parts]))) := by
  have hBw := hS.sizes.1
  have hl1 : (low ++ [lv]).length = low.length + 1 := by simp
  obtain ⟨al, vc, rfl⟩ : ∃ al c, vr = .slice al top.rows.length c := by
    obtain ⟨_, h, _⟩ := hS.tp.1
    exact own_form h
  obtain ⟨al', vc', rfl⟩ : ∃ al c, vp = .slice al top.parts.length c := by
    obtain ⟨_, h, _⟩ := hS.tp.2
    exact own_form h
  have hpp : 0 < top.parts.length := List.length_pos_iff.2 hne
  have hS0 := hS.box hn nilBlk
  obtain ⟨c0, c1, c2⟩ := hS0.rd.cells
  have HS0 := Lib.hid hS0
  have HB0 := Lib.hid ((Below.refl B w).alloc hBw nilBlk)
  have HNB := Lib.hid (blk_new w nilBlk)
  have F0 := Lib.hid (box_frm (C := Wk) col w nilBlk)
  have KM := Lib.hid must_yes
  have q0 : decide ((1 : Int) < (low.length : Int) + 1 + 1) = true := decide_eq_true (by omega)
  have KTh := Lib.hid fun W => then_any (ok := fun _ => True) [] none 0 W (by simp) (.inl rfl)
  simp only [foldR, List.length_nil] at KTh
  unfold nilBlk at HS0 HB0 c0 c1 c2 HNB F0
  rw [hl1] at c2
  have hs0 := HS0.out.sizes.1
  clear hS hS0
  go_enter Try.func61, Try.ntmps61
  go_wp2_with fail
  refine (KM.out _ _).mono ?_
  rintro e w1 ⟨rfl, rfl⟩
  go_wp2_with fail
  refine (KTh.out _).mono ?_
  rintro e w2 ⟨v2, rfl, hv2, hb2⟩
  obtain ⟨t0, t1, t2, t3, t4, tl0, tn, tc, rfl⟩ := cells_re hv2
  have hS2 := HS0.out.below hb2
  have hS3 := hS2.box hn (.cells #[.int .u8 t0, .int .u64 t1, .int .u64 t2, .int .u64 t3, .int .u64 t4, .slice tl0 tn tc] 27)
  have hb3 := (hb2.mono hs0).alloc (Nat.le_trans hs0 hb2.size) (.cells #[.int .u8 t0, .int .u64 t1, .int .u64 t2, .int .u64 t3, .int .u64 t4, .slice tl0 tn tc] 27)
  have HB3 := Lib.hid (HB0.out.trans hb3)
  have hc0 : upd (upd col w.heap.size bxC) w2.heap.size bxC w.heap.size = bxC := by
    rw [upd_far _ (by have := hb2.size; rw [World.size_alloc] at this; omega), upd_at]
  have hf3 := (F0.out.post hb2).trans (box_frm (C := Wk) (upd col w.heap.size bxC) w2 (.cells #[.int .u8 t0, .int .u64 t1, .int .u64 t2, .int .u64 t3, .int .u64 t4, .slice tl0 tn tc] 27))
  have hnb3 : (w2.alloc (.cells #[.int .u8 t0, .int .u64 t1, .int .u64 t2, .int .u64 t3, .int .u64 t4, .slice tl0 tn tc] 27)).heap[w.heap.size]? = some nilBlk := (Below.heap_alloc _ _ _ (by have := hb2.size; rw [World.size_alloc] at this; omega)).trans ((hb2.block _ (by simp)).trans HNB.out)
  have hbx3 := blk_new w2 (.cells #[.int .u8 t0, .int .u64 t1, .int .u64 t2, .int .u64 t3, .int .u64 t4, .slice tl0 tn tc] 27)
  have hre3 : ReAt (Tree B (upd (upd col w.heap.size bxC) w2.heap.size bxC)) (w2.alloc (.cells #[.int .u8 t0, .int .u64 t1, .int .u64 t2, .int .u64 t3, .int .u64 t4, .slice tl0 tn tc] 27)) (.agg #[.int .u8 t0, .int .u64 t1, .int .u64 t2, .int .u64 t3, .int .u64 t4, .slice tl0 tn tc]) Ex.eps.rx := leaf_any _ hv2
  have hlt23 : w.heap.size < w2.heap.size := by have := hb2.size; rw [World.size_alloc] at this; omega
  have hc1 : upd (upd col w.heap.size bxC) w2.heap.size bxC w2.heap.size = bxC := upd_at _ _ _
  generalize upd (upd col w.heap.size bxC) w2.heap.size bxC = col3 at *
  have KT := Lib.hid (top_any hS3.rd (by omega))
  rw [hl1] at KT
  have HS3 := Lib.hid hS3
  have HF3 := Lib.hid hf3
  have HN3 := Lib.hid hnb3
  have HX3 := Lib.hid hbx3
  have HR3 := Lib.hid hre3
  clear hS2 hS3 hb3 hb2 hf3 hnb3 hbx3 hre3 hv2 HS0 HB0 HNB F0 KTh c0 c1 c2
  go_wp2_with fail
  refine KT.out.mono ?_
  rintro e w4 ⟨rfl, hb4⟩
  have hS4 := HS3.out.below hb4
  obtain ⟨l0, l1, lf⟩ := hS4.cells
  rw [hl1] at l0 l1
  have HS4 := Lib.hid hS4
  have HF4 := Lib.hid (HF3.out.post hb4)
  have HB4 := Lib.hid (HB3.out.trans (hb4.mono HS3.out.sizes.1))
  have HN4 := Lib.hid ((hb4.block _ (by rw [World.size_alloc]; omega)).trans HN3.out)
  have HX4 := Lib.hid ((hb4.block _ (by rw [World.size_alloc]; omega)).trans HX3.out)
  have HR4 := Lib.hid (HR3.out.below hb4)
  clear hS4 hb4 HS3 HF3 HB3 HN3 HX3 HR3 KT lf
  have wk : IntKind.i64.wrap ((k : Int) + 1) = (k : Int) + 1 := by rw [IntKind.wrap_i64]; omega
  have KE := Lib.hid fun W (h : Below w4.heap.size w4 W) => expr_yes (HS4.out.below h) hn hr hp hne
  have q1 : IntKind.i64.wrap ((top.rows.length : Int) + (top.parts.length : Int)) = (top.rows.length : Int) + (top.parts.length : Int) := by rw [IntKind.wrap_i64]; omega
  have q2 : decide ((0 : Int) < (top.rows.length : Int) + (top.parts.length : Int)) = true := decide_eq_true (by omega)
  have q3 : decide (0 < top.rows.length + top.parts.length) = true := decide_eq_true (by omega)
  rw [hl1] at hn
  clear hne
  go_wp2_with fail
  go_quiet (fail)
  have hd : Below w4.heap.size w4 (w4.drewN nq) := below_drewN (Below.refl _ _) _
  generalize w4.drewN nq = wd at *
  have HFd := Lib.hid (HF4.out.post hd)
  have HBd := Lib.hid (HB4.out.trans (hd.mono HS4.out.sizes.1))
  have HNd := Lib.hid ((hd.block _ (Array.getElem?_eq_some_iff.1 HN4.out).1).trans HN4.out)
  have HXd := Lib.hid ((hd.block _ (Array.getElem?_eq_some_iff.1 HX4.out).1).trans HX4.out)
  generalize foldE Ex.alt (top.rows ++ [foldE .seq top.parts]) = FE at *
  go_wp2_with fail
  refine (KE.out _ hd).mono ?_
  rintro e we ⟨col5, G5, cap5, vlow5, vr5, vp5, r0, r1, r2, r3, r4, rl, rn, rc, rfl, hbe, hfe, hSe, hree⟩
  have hbl0 := hfe.2 w.heap.size (Array.getElem?_eq_some_iff.1 HNd.out).1
  have hbl1 := hfe.2 w2.heap.size (Array.getElem?_eq_some_iff.1 HXd.out).1
  have hcB : col5 w.heap.size = bxC := hbl0.1.trans hc0
  have hcX : col5 w2.heap.size = bxC := hbl1.1.trans hc1
  have hne_ := (hbl0.2 (by rw [hc0]; exact not_wk)).trans HNd.out
  have hxe := (hbl1.2 (by rw [hc1]; exact not_wk)).trans HXd.out
  obtain ⟨a0, a1, a2, a3, a4, a5, b0, b1, b2, b3, b4, b5⟩ := cellsR hxe
  have HX5 := Lib.hid (putR hxe (.int .u8 r0) (.int .u64 r1) (.int .u64 r2) (.int .u64 r3) (.int .u64 r4) (.slice rl rn rc))
  have HN5 := Lib.hid ((putW_other we w2.heap.size (.int .u8 r0) (.int .u64 r1) (.int .u64 r2) (.int .u64 r3) (.int .u64 r4) (.slice rl rn rc) (show w.heap.size ≠ w2.heap.size from by omega)).trans hne_)
  have HS5 := Lib.hid (hSe.put (by omega) hcX (.int .u8 r0) (.int .u64 r1) (.int .u64 r2) (.int .u64 r3) (.int .u64 r4) (.slice rl rn rc))
  have HR5 := Lib.hid (re_put hree hcX (.int .u8 r0) (.int .u64 r1) (.int .u64 r2) (.int .u64 r3) (.int .u64 r4) (.slice rl rn rc))
  have HF5 := Lib.hid ((HFd.out.trans hfe).put (show w.heap.size ≤ w2.heap.size from by omega) (.int .u8 r0) (.int .u64 r1) (.int .u64 r2) (.int .u64 r3) (.int .u64 r4) (.slice rl rn rc))
  have HB5 := Lib.hid (putB (HBd.out.trans hbe) (show B ≤ w2.heap.size from by omega) (.int .u8 r0) (.int .u64 r1) (.int .u64 r2) (.int .u64 r3) (.int .u64 r4) (.slice rl rn rc))
  clear hfe hbe hSe hree hbl0 hbl1 hne_ hxe hd
  go_wp2_with fail
  generalize hw5 : (((((we.setCell ⟨w2.heap.size, 0, none⟩ (.int .u8 r0)).setCell ⟨w2.heap.size, 1, none⟩ (.int .u64 r1)).setCell ⟨w2.heap.size, 2, none⟩ (.int .u64 r2)).setCell ⟨w2.heap.size, 3, none⟩ (.int .u64 r3)).setCell ⟨w2.heap.size, 4, none⟩ (.int .u64 r4)).setCell ⟨w2.heap.size, 5, none⟩ (.slice rl rn rc) = w5
  have hw5' : putW we w2.heap.size (.int .u8 r0) (.int .u64 r1) (.int .u64 r2) (.int .u64 r3) (.int .u64 r4) (.slice rl rn rc) = w5 := hw5
  rw [hw5'] at HX5 HN5 HS5 HR5 HF5 HB5
  clear hw5 hw5' a0 a1 a2 a3 a4 a5 b0 b1 b2 b3 b4 b5
  have hS5 := HS5.out
  have hr5 := hS5.rd
  rw [hl1] at hr5
  obtain ⟨c0, c1, c2⟩ := hr5.cells
  obtain ⟨f0, f1, f2⟩ := hr5.frozen
  have hcap : low.length + 1 + 1 ≤ cap5 := by have := own_cap hS5.own; rw [hl1] at this; exact this
  have q4 : (low.length : Int) + 1 ≤ (cap5 : Int) := by omega
  have q5 : ((low.length : Int) + 1).toNat = low.length + 1 := by omega
  have q6 : IntKind.i64.wrap ((low.length : Int) + 1) = (low.length : Int) + 1 := by rw [IntKind.wrap_i64]; omega
  have q7 : (0 : Int) ≤ (low.length : Int) + 1 := by omega
  go_still_tail 14, (by kernel_rfl)
  change wpList _ _ _ _ _ w5.drew
  have hS6 := hS5.below (Below.refl _ _).drew
  have hf6 := (HF5.out).post ((Below.refl w5.heap.size w5).drew)
  have hb6 := HB5.out.trans ((Below.refl B w5).drew)
  have hn6 : w5.drew.heap[w.heap.size]? = some nilBlk := by rw [drew_hp]; exact HN5.out
  have hx6 : w5.drew.heap[w2.heap.size]? = some (.cells #[.int .u8 r0, .int .u64 r1, .int .u64 r2, .int .u64 r3, .int .u64 r4, .slice rl rn rc] 27) := by rw [drew_hp]; exact HX5.out
  have hre6 := HR5.out.below (Below.refl w5.heap.size w5).drew
  clear c0 c1 c2 f0 f1 f2 hr5 hS5
  generalize w5.drew = w6 at *
  have hEND := closed_end (w := w) (b0 := w.heap.size) hS6 (by omega) hcB (Nat.le_refl _) hBw hf6 hb6 hre6
  have hr6 := hS6.rd
  rw [hl1] at hr6
  have hDl := hr6.lt
  obtain ⟨c0, c1, c2⟩ := hr6.cells
  obtain ⟨f0, f1, f2⟩ := hr6.frozen
  obtain ⟨g0, g1, g2, g3, g4, g5, p0, p1, p2, p3, p4, p5⟩ := cellsR hn6
  obtain ⟨a0, a1, a2, a3, a4, a5, -⟩ := cellsR hx6
  have hne1 : ¬ D = w.heap.size := fun e => by have := hS6.cD; rw [e, hcB] at this; unfold bxC at this; omega
  have hne2 : ¬ D = w2.heap.size := fun e => by have := hS6.cD; rw [e, hcX] at this; unfold bxC at this; omega
  have hn7 : ((w6.setCell ⟨D, 2, none⟩ (.slice (some ⟨G5, 0, none⟩) (low.length + 1) cap5)).setCell ⟨D, 1, none⟩ (.int .i64 ((k : Int) + 1))).heap[w.heap.size]? = some nilBlk := (Below.heap_setCell _ _ _ _ (fun e => hne1 e.symm)).trans ((Below.heap_setCell _ _ _ _ (fun e => hne1 e.symm)).trans hn6)
  have HP := Lib.hid (putR hn7 (.int .u8 r0) (.int .u64 r1) (.int .u64 r2) (.int .u64 r3) (.int .u64 r4) (.slice rl rn rc))
  have HEND := Lib.hid hEND
  unfold putW at HP HEND
  clear hEND hn7 hS6 hf6 hb6 hre6 hr6 hn6 hx6 HS4 HF4 HB4 HN4 HX4 HR4 HF5 HB5 HN5 HX5 HR5
  go_wp2
  exact ret_re HP.out Try.results61 rfl rfl HEND.out
end Go.Proofs.Ytiegejbbjlhpdaa
