/- Lemmas of mine, merged: QTRdrD, QTNormG, QTNormH, QTNormI, QTNormJ, QTNormK, QTRdrH, QTRdrI, QTRdrJ, QTRdrK, QTRdrL. -/
import Derived.Shelf.RegionOpenPlain
import Derived.Test.YthgghaaddankoaaGreatDoorQTRdrCAll
import Derived.Test.YthgghaaddankoaaGreatDoorQTRexEAll
import Derived.Test.YthgghaaddankoaaGreatDoorQTAnyOrdTAll
import Derived.Test.YthgghaaddankoaaGreatDoorQTSetEAll
import Derived.StillTailTactics
/- Lemmas of mine. -/
namespace Go.Proofs.YthgghaaddankoaaGreatDoor
open Go.RowKit
theorem infoR2 : ∃ i z, Tryz.prog.info? 39 = some i ∧ i.zero = some z ∧ i.size = 6 ∧ i.bytes = 64 ∧ z.cells.size = 6 := by
  obtain ⟨i0, hi0, hz0, hz1, hz2⟩ := info_parts infoR
  exact ⟨i0, _, hi0, hz0, hz1, hz2, rfl⟩
theorem grown_below {B : Nat} {w w1 wA w2 : World} {v : Value} (hbw : Below w.heap.size w w1) (hB : B ≤ w.heap.size) (hA : Below w1.heap.size w1 wA) (hgrow : wA.grownBy w2 v.ownBlock) (hv : ∀ g, v.ownBlock = some g → B ≤ g) : Below B w w2 :=
  Below.grown ((hbw.mono hB).trans (hA.mono (Nat.le_trans hB hbw.size))) hgrow (Nat.le_trans hB (Nat.le_trans hbw.size hA.size)) hv
theorem row_ge {B : Nat} {col : Nat → Nat} {c : Nat} {w : World} {v : Value} {l : List Ex} (h : RwC B col c w v l) : ∀ g, v.ownBlock = some g → B ≤ g := by
  obtain ⟨xs, h1, _, _⟩ := h
  exact ownR_ge h1
theorem add_closeA {B D : Nat} {col : Nat → Nat} {w w1 w2 : World} {s : ByteArray} {k G cap : Nat} {vlow : List (Value × Value)} {vr vp : Value} {low : List Lv} {top : Lv} {o : Obj} (hS : StC B D col w1 s k G cap vlow vr vp low top) {a : Ex} {xs : List Value} {x0 x1 x2 x3 x4 x5 z0 z1 z2 z3 z4 z5 : Value} {g' cap' : Nat} (hvals : RowVals (Tree B col) w1 xs (top.parts.map Ex.rx)) (hcol : ∀ g, vp.ownBlock = some g → col g = 4 + 2 * low.length) (hre : ReAt (Tree B col) w1 (.agg #[x0, x1, x2, x3, x4, x5]) a.rx)
    (hbw : Below w.heap.size w w1) (how : w2.ownsRow B 39 6 (.slice (some ⟨g', 0, none⟩) (top.parts.length + 1) cap') (top.parts.length + 1) (xs ++ [z0, z1, z2, z3, z4, z5])) (hgrow : (w1.alloc o).drew.grownBy w2 vp.ownBlock) (hat : vp.ownBlock = some g' ∨ g' = (w1.alloc o).drew.heap.size) (hlen : xs.length = top.parts.length * 6) (hne : ¬ G = g') (hB : B ≤ w.heap.size) (hn : low.length < 1000000) :
    StepPost B D col w s k low ⟨top.rows, top.parts ++ [a]⟩ (.returned (.tuple #[])) (((((((w2.setCell ⟨g', top.parts.length * 6, none⟩ x0).setCell ⟨g', top.parts.length * 6 + 1, none⟩ x1).setCell ⟨g', top.parts.length * 6 + 2, none⟩ x2).setCell ⟨g', top.parts.length * 6 + 3, none⟩ x3).setCell ⟨g', top.parts.length * 6 + 4, none⟩ x4).setCell ⟨g', top.parts.length * 6 + 5, none⟩ x5).setCell ⟨G, low.length * 2 + 1, none⟩ (.slice (some ⟨g', 0, none⟩) (top.parts.length + 1) cap')) := by
  show StepPost B D col w s k low ⟨top.rows, top.parts ++ [a]⟩ (.returned (.tuple #[])) ((put6 w2 g' (top.parts.length * 6) x0 x1 x2 x3 x4 x5).setCell ⟨G, low.length * 2 + 1, none⟩ (.slice (some ⟨g', 0, none⟩) (top.parts.length + 1) cap'))
  have hA := alloc_drew_below w1 o
  obtain ⟨s1, s2, s3, s4, s5, s6⟩ := hS.sizes
  obtain ⟨f1, _, f3⟩ := grown_far hA hgrow hat hcol s3 (by rw [hS.cG]; omega)
  have hBg := (own_lt how).1
  have hput := own_put6 hlen how x0 x1 x2 x3 x4 x5
  have hL := own_set (own_levels hS.own ((put6_other w2 g' (top.parts.length * 6) x0 x1 x2 x3 x4 x5 hne).trans f1)) (low.length * 2 + 1) (.slice (some ⟨g', 0, none⟩) (top.parts.length + 1) cap')
  rw [set_parts s6] at hL
  have hR := own_row (w' := (put6 w2 g' (top.parts.length * 6) x0 x1 x2 x3 x4 x5).setCell ⟨G, low.length * 2 + 1, none⟩ (.slice (some ⟨g', 0, none⟩) (top.parts.length + 1) cap')) hput (Below.heap_setCell _ _ _ _ f3)
  have hsz3 : w2.heap.size ≤ ((put6 w2 g' (top.parts.length * 6) x0 x1 x2 x3 x4 x5).setCell ⟨G, low.length * 2 + 1, none⟩ (.slice (some ⟨g', 0, none⟩) (top.parts.length + 1) cap')).heap.size := by simp [World.setCell, put6_size]
  have hfar : ∀ b, b ≠ g' → b ≠ G → ((put6 w2 g' (top.parts.length * 6) x0 x1 x2 x3 x4 x5).setCell ⟨G, low.length * 2 + 1, none⟩ (.slice (some ⟨g', 0, none⟩) (top.parts.length + 1) cap')).heap[b]? = w2.heap[b]? := fun b h1 h2 => by rw [Below.heap_setCell _ _ _ _ h2, put6_other _ _ _ _ _ _ _ _ _ h1]
  refine ⟨rfl, ?_, _, _, _, _, _, _, Frm.pre hbw ((grown_frame hA hgrow hat hcol hsz3 hfar hS.cG).mono fun x hx => wk_of (by omega) (by omega)), hS.added hvals hcol hre hA hgrow hat hsz3 hfar hR hL⟩
  exact (put6_below (grown_below hbw hB hA hgrow (row_ge hS.tp.2)) hBg _ _ _ _ _ _ _).setCell (p := ⟨G, low.length * 2 + 1, none⟩) s4 _
theorem add_closeB {B D : Nat} {col : Nat → Nat} {w w1 w2 : World} {s : ByteArray} {k G cap : Nat} {vlow : List (Value × Value)} {vr vp : Value} {low : List Lv} {top : Lv} {o : Obj} (hS : StC B D col w1 s k G cap vlow vr vp low top) {a : Ex} {xs : List Value} {x0 x1 x2 x3 x4 x5 z0 z1 z2 z3 z4 z5 : Value} {g' cap' : Nat} (hvals : RowVals (Tree B col) w1 xs (top.parts.map Ex.rx)) (hcol : ∀ g, vp.ownBlock = some g → col g = 4 + 2 * low.length) (hre : ReAt (Tree B col) w1 (.agg #[x0, x1, x2, x3, x4, x5]) a.rx)
    (hbw : Below w.heap.size w w1) (how : w2.ownsRow B 39 6 (.slice (some ⟨g', 0, none⟩) (top.parts.length + 1) cap') (top.parts.length + 1) (xs ++ [z0, z1, z2, z3, z4, z5])) (hgrow : (w1.alloc o).drew.grownBy w2 vp.ownBlock) (hat : vp.ownBlock = some g' ∨ g' = (w1.alloc o).drew.heap.size) (hlen : xs.length = top.parts.length * 6) (hne : ¬ G = g') (hB : B ≤ w.heap.size) (hn : low.length < 1000000) :
    StepPost B D col w s k low ⟨top.rows, top.parts ++ [a]⟩ (.returned (.tuple #[])) (((((((w2.setCell ⟨G, low.length * 2 + 1, none⟩ (.slice (some ⟨g', 0, none⟩) (top.parts.length + 1) cap')).setCell ⟨g', top.parts.length * 6, none⟩ x0).setCell ⟨g', top.parts.length * 6 + 1, none⟩ x1).setCell ⟨g', top.parts.length * 6 + 2, none⟩ x2).setCell ⟨g', top.parts.length * 6 + 3, none⟩ x3).setCell ⟨g', top.parts.length * 6 + 4, none⟩ x4).setCell ⟨g', top.parts.length * 6 + 5, none⟩ x5) := by
  show StepPost B D col w s k low ⟨top.rows, top.parts ++ [a]⟩ (.returned (.tuple #[])) (put6 (w2.setCell ⟨G, low.length * 2 + 1, none⟩ (.slice (some ⟨g', 0, none⟩) (top.parts.length + 1) cap')) g' (top.parts.length * 6) x0 x1 x2 x3 x4 x5)
  have hA := alloc_drew_below w1 o
  obtain ⟨s1, s2, s3, s4, s5, s6⟩ := hS.sizes
  obtain ⟨f1, _, f3⟩ := grown_far hA hgrow hat hcol s3 (by rw [hS.cG]; omega)
  have hBg := (own_lt how).1
  have hL := own_set (own_levels hS.own f1) (low.length * 2 + 1) (.slice (some ⟨g', 0, none⟩) (top.parts.length + 1) cap')
  rw [set_parts s6] at hL
  have hR := own_put6 hlen (own_row (w' := w2.setCell ⟨G, low.length * 2 + 1, none⟩ (.slice (some ⟨g', 0, none⟩) (top.parts.length + 1) cap')) how (Below.heap_setCell _ _ _ _ f3)) x0 x1 x2 x3 x4 x5
  have hsz3 : w2.heap.size ≤ (put6 (w2.setCell ⟨G, low.length * 2 + 1, none⟩ (.slice (some ⟨g', 0, none⟩) (top.parts.length + 1) cap')) g' (top.parts.length * 6) x0 x1 x2 x3 x4 x5).heap.size := by rw [put6_size]; simp [World.setCell]
  have hfar : ∀ b, b ≠ g' → b ≠ G → (put6 (w2.setCell ⟨G, low.length * 2 + 1, none⟩ (.slice (some ⟨g', 0, none⟩) (top.parts.length + 1) cap')) g' (top.parts.length * 6) x0 x1 x2 x3 x4 x5).heap[b]? = w2.heap[b]? := fun b h1 h2 => by rw [put6_other _ _ _ _ _ _ _ _ _ h1, Below.heap_setCell _ _ _ _ h2]
  refine ⟨rfl, ?_, _, _, _, _, _, _, Frm.pre hbw ((grown_frame hA hgrow hat hcol hsz3 hfar hS.cG).mono fun x hx => wk_of (by omega) (by omega)), hS.added hvals hcol hre hA hgrow hat hsz3 hfar hR (own_levels hL (put6_other _ _ _ _ _ _ _ _ _ hne))⟩
  exact put6_below ((grown_below hbw hB hA hgrow (row_ge hS.tp.2)).setCell (p := ⟨G, low.length * 2 + 1, none⟩) s4 _) hBg _ _ _ _ _ _ _
set_option maxHeartbeats 4000000 in
theorem add_any {B D : Nat} {col : Nat → Nat} {w : World} {s : ByteArray} {k G cap : Nat} {vlow : List (Value × Value)} {vr vp : Value} {low : List Lv} {top : Lv} (hS : StC B D col w s k G cap vlow vr vp low top) (hn : low.length < 1000000) (hp : top.parts.length < 1000000) (a : Ex) (v : Value) (hre : ReAt (Tree B col) w v a.rx) :
    Calls Tryz.prog 76 #[.pointer (some ⟨D, 0, none⟩), v] w (StepPost B D col w s k low ⟨top.rows, top.parts ++ [a]⟩) := by
  obtain ⟨y0, y1, y2, y3, y4, yl, yn, yc, rfl⟩ := cells_re hre
  obtain ⟨al, vc, rfl⟩ : ∃ al c, vp = .slice al top.parts.length c := by
    obtain ⟨_, h, _⟩ := hS.tp.2
    exact own_form h
  obtain ⟨i0, z0, hi0, hz0, hz1, hz2, hz3⟩ := infoR2
  have hz2' := Lib.hid hz2
  have hBw := hS.sizes.1
  clear hz2
  have h0 : Below w.heap.size w (w.alloc (.cells #[.int .u8 y0, .int .u64 y1, .int .u64 y2, .int .u64 y3, .int .u64 y4, .slice yl yn yc] 39)) := (Below.refl _ w).alloc (Nat.le_refl _) _
  have hS1 := hS.below h0
  have KT := Lib.hid (top_any hS1.rd (by omega))
  have HS1 := Lib.hid hS1
  have HRE := Lib.hid (hre.below h0)
  have H0 := Lib.hid h0
  have hxb := blk_new w (.cells #[.int .u8 y0, .int .u64 y1, .int .u64 y2, .int .u64 y3, .int .u64 y4, .slice yl yn yc] 39)
  have HXB := Lib.hid hxb
  generalize hw0 : w.alloc (.cells #[.int .u8 y0, .int .u64 y1, .int .u64 y2, .int .u64 y3, .int .u64 y4, .slice yl yn yc] 39) = W0 at *
  have HW0 := Lib.hid hw0
  clear hre hS hS1 h0 hxb hw0
  go_enter Tryz.func76, Tryz.ntmps76
  go_wp2_with fail
  rw [HW0.out]
  refine KT.out.mono ?_
  rintro e w1 ⟨rfl, hb1⟩
  have hS2 := HS1.out.below hb1
  have hre2 := HRE.out.below hb1
  have hbx : w1.heap[w.heap.size]? = some (.cells #[.int .u8 y0, .int .u64 y1, .int .u64 y2, .int .u64 y3, .int .u64 y4, .slice yl yn yc] 39) := (hb1.block _ (by rw [← HW0.out]; simp)).trans HXB.out
  have hbw := H0.out.trans (hb1.mono H0.out.size)
  obtain ⟨xs, hx1, hx2, hx3⟩ := hS2.tp.2
  obtain ⟨l0, l1, lf⟩ := hS2.cells
  have hf1 := lf (low.length * 2 + 1)
  obtain ⟨s1, s2, s3, s4, s5, s6⟩ := hS2.sizes
  obtain ⟨x0', x1', x2', x3', x4', x5', -⟩ := cellsR hbx
  have hcG := hS2.cG
  have HOWN := Lib.hid hx1
  have HS2 := Lib.hid hS2
  have mixed : Tryz.prog.follows Departure.mixedOrders = true := by kernel_rfl
  clear hb1 hS2 hx1 lf HXB HW0 HS1
  go_wp2_with fail
  have hlen := HOWN.out.1
  have hszx : w.heap.size < w1.heap.size := (Array.getElem?_eq_some_iff.1 hbx).1
  have hszy : ¬ w.heap.size = w1.heap.size := by omega
  have hszg : ¬ G = w1.heap.size := by omega
  have hidx : (top.parts.length : Int) < (top.parts.length : Int) + 1 := by omega
  go_region_law (refine step_append_lies _ rfl (.tmp 10) (.tmp 13) 27 rfl B 39 i0 z0 6 64 Tryz.underlying27 hi0 hz0 hz1 hz2'.out hz3 (by decide) (.slice al top.parts.length vc) top.parts.length xs rfl (HOWN.out.drew.alloc _).drew ⟨w1.heap.size, 0, none⟩ 1 1 [.int .u8 0, .int .u64 0, .int .u64 0, .int .u64 0, .int .u64 0, .slice none 0 0] rfl rfl (zero6_at w1 _ _ _ _ _ _) zero6_one (by decide) (by unfold maxLen; omega) (by omega) (Nat.le_trans s1 (alloc_drew_below w1 _).size) _ rfl ?_; intro g' cap' w2 hown hgrow hat hlt; obtain ⟨⟨n0, n1, n2, n3, n4, n5⟩, m0, m1, m2, m3, m4, m5⟩ := new6 hlen hown; obtain ⟨hfar, ne1, ne2⟩ := grown_far (alloc_drew_below w1 _) hgrow hat hx3 s3 (by rw [hcG]; omega); have l1' : w2.cell? ⟨G, low.length * 2 + 1, none⟩ = some (.slice al top.parts.length vc) := (World.cell?_of_block hfar).trans l1; have lf' : w2.frozen? ⟨G, low.length * 2 + 1, none⟩ = false := (World.frozen?_of_block hfar).trans hf1; have HOW := Lib.hid hown; have HGR := Lib.hid hgrow; have HAT := Lib.hid hat; clear hown hgrow hat hfar)
  all_goals (
    go_end0
    first
      | with_reducible exact add_closeA HS2.out hx2 hx3 hre2 hbw HOW.out HGR.out HAT.out hlen ne1 hBw hn
      | with_reducible exact add_closeB HS2.out hx2 hx3 hre2 hbw HOW.out HGR.out HAT.out hlen ne1 hBw hn)
open Go.RowKit
def PV (B : Nat) (X ok : Nat → Prop) (o : Nat) (ps : List Ex) (w : World) : Prop := ∃ v xs, w.heap[o]? = some (.cells #[v] 27) ∧ w.ownsRow B 39 6 v ps.length xs ∧ RowVals (fun b => ok b ∧ v.ownBlock ≠ some b) w xs (ps.map Ex.rx) ∧ ∀ x, X x → x < w.heap.size ∧ v.ownBlock ≠ some x
theorem own_lt' {w : World} {B : Nat} {v : Value} {n : Nat} {xs : List Value} (h : w.ownsRow B 39 6 v n xs) : ∀ g, v.ownBlock = some g → B ≤ g ∧ g < w.heap.size := by
  intro g hg
  obtain ⟨_, ⟨rfl, _⟩ | ⟨g', cap, cur, rfl, hB, hh, _⟩⟩ := h
  · simp [Value.ownBlock] at hg
  · simp [Value.ownBlock] at hg
    subst hg
    exact ⟨hB, (Array.getElem?_eq_some_iff.1 hh).1⟩
theorem PV.below {B : Nat} {X ok : Nat → Prop} {o : Nat} {ps : List Ex} {w w' : World} (h : PV B X ok o ps w) (hb : Below w.heap.size w w') : PV B X ok o ps w' := by
  obtain ⟨v, xs, h1, h2, h3, h4⟩ := h
  exact ⟨v, xs, (hb.block _ (Array.getElem?_eq_some_iff.1 h1).1).trans h1, ownR_below h2 hb, h3.go (keptB hb _), fun x hx => ⟨Nat.lt_of_lt_of_le (h4 x hx).1 hb.size, (h4 x hx).2⟩⟩
theorem PV.start {B : Nat} {X ok : Nat → Prop} {o : Nat} {w : World} (h : w.heap[o]? = some (.cells #[.slice none 0 0] 27)) (hX : ∀ x, X x → x < w.heap.size) : PV B X ok o [] w :=
  ⟨_, [], h, ⟨rfl, .inl ⟨rfl, rfl⟩⟩, RowVals.nil _ _, fun x hx => ⟨hX x hx, by simp [Value.ownBlock]⟩⟩
theorem PV.other {B : Nat} {X ok : Nat → Prop} {o : Nat} {ps : List Ex} {w w' : World} (h : PV B X ok o ps w) (hs : w.heap.size ≤ w'.heap.size) {c : Nat} (hc : X c) (hoc : o ≠ c) (hok : ∀ b, ok b → ¬ X b) (hk : ∀ b, b ≠ c → b < w.heap.size → w'.heap[b]? = w.heap[b]?) : PV B X ok o ps w' := by
  obtain ⟨v, xs, h1, h2, h3, h4⟩ := h
  exact ⟨v, xs, (hk _ hoc (Array.getElem?_eq_some_iff.1 h1).1).trans h1, own_go h2 fun g hg hl => hk g (fun e => (h4 c hc).2 (by rw [hg, e])) hl, h3.go ⟨hs, fun b hl hb => ⟨hb, hk b (fun e => hok b hb.1 (by rw [e]; exact hc)) hl⟩⟩, fun x hx => ⟨Nat.lt_of_lt_of_le (h4 x hx).1 hs, (h4 x hx).2⟩⟩
def PushPost (B : Nat) (X ok : Nat → Prop) (o : Nat) (ps : List Ex) (w : World) (x : Ending) (w' : World) : Prop := x = .returned (.tuple #[]) ∧ PV B X ok o ps w' ∧ Below B w w' ∧ ∀ c, X c → c ≠ o → w'.heap[c]? = w.heap[c]?
theorem var_set {W : World} {g : Nat} {t : TypeId} {v : Value} (h : W.heap[g]? = some (.cells #[v] t)) (y : Value) : (W.setCell ⟨g, 0, none⟩ y).heap[g]? = some (.cells #[y] t) := by
  simp [World.setCell, h, Array.getElem?_modify]
theorem push_facts {B : Nat} {X ok : Nat → Prop} {o : Nat} {ps : List Ex} {w wA w2 W3 : World} {v : Value} {xs : List Value} {e : Ex} {c0 c1 c2 c3 c4 c5 z0 z1 z2 z3 z4 z5 : Value} {g' cap' : Nat} (hX : X o) (hok : ∀ b, ok b → ¬ X b)
    (h3 : RowVals (fun b => ok b ∧ v.ownBlock ≠ some b) w xs (ps.map Ex.rx)) (h4 : ∀ x, X x → x < w.heap.size ∧ v.ownBlock ≠ some x) (hA : Below w.heap.size w wA) (hre : ReAt (fun b => ok b ∧ v.ownBlock ≠ some b) wA (.agg #[c0, c1, c2, c3, c4, c5]) e.rx)
    (how : w2.ownsRow B 39 6 (.slice (some ⟨g', 0, none⟩) (ps.length + 1) cap') (ps.length + 1) (xs ++ [z0, z1, z2, z3, z4, z5])) (hgrow : wA.grownBy w2 v.ownBlock) (hat : v.ownBlock = some g' ∨ g' = wA.heap.size)
    (s1 : w2.heap.size ≤ W3.heap.size) (f : ∀ b, b ≠ g' → b ≠ o → W3.heap[b]? = w2.heap[b]?) (hrow : W3.ownsRow B 39 6 (.slice (some ⟨g', 0, none⟩) (ps.length + 1) cap') (ps.length + 1) (xs ++ [c0, c1, c2, c3, c4, c5])) (hvar : W3.heap[o]? = some (.cells #[.slice (some ⟨g', 0, none⟩) (ps.length + 1) cap'] 27)) :
    PV B X ok o (ps ++ [e]) W3 ∧ ∀ c, X c → c ≠ o → W3.heap[c]? = w.heap[c]? := by
  have hXg : ∀ c, X c → c ≠ g' := fun c hc e => by
    subst e
    rcases hat with h | h
    · exact (h4 c hc).2 h
    · have := (h4 c hc).1; have := hA.size; omega
  have hsz : wA.heap.size ≤ W3.heap.size := Nat.le_trans hgrow.size s1
  have hkept : Kept (fun b => ok b ∧ v.ownBlock ≠ some b) (fun b => ok b ∧ (Value.slice (some ⟨g', 0, none⟩) (ps.length + 1) cap').ownBlock ≠ some b) wA W3 := by
    refine ⟨hsz, fun b hl hb => ?_⟩
    have hbg : b ≠ g' := fun e => by
      rcases hat with h | h
      · exact hb.2 (by rw [h, e])
      · omega
    have hbo : b ≠ o := fun e => hok b hb.1 (by rw [e]; exact hX)
    refine ⟨⟨hb.1, by simp [Value.ownBlock]; exact fun e => hbg e.symm⟩, ?_⟩
    rw [f b hbg hbo]
    exact hgrow.block b hl fun e' => hb.2 e'.symm
  refine ⟨⟨_, _, hvar, by simpa using hrow, ?_, fun x hx => ⟨Nat.lt_of_lt_of_le (h4 x hx).1 (Nat.le_trans hA.size hsz), by simp [Value.ownBlock]; exact fun e => hXg x hx e.symm⟩⟩, fun c hc hco => ?_⟩
  · rw [List.map_append]
    exact ((h3.go (keptB hA _)).go hkept).append ((RowVals.one hre).go hkept)
  · rw [f c (hXg c hc) hco, ← hA.block c (h4 c hc).1]
    exact hgrow.block c (Nat.lt_of_lt_of_le (h4 c hc).1 hA.size) fun e => (h4 c hc).2 e.symm
theorem push_closeA {B : Nat} {X ok : Nat → Prop} {o : Nat} {ps : List Ex} {w wA w2 : World} {v : Value} {xs : List Value} {e : Ex} {c0 c1 c2 c3 c4 c5 z0 z1 z2 z3 z4 z5 : Value} {g' cap' : Nat} (hX : X o) (hok : ∀ b, ok b → ¬ X b) (hBo : B ≤ o) (hBw : B ≤ w.heap.size)
    (hown : w.ownsRow B 39 6 v ps.length xs) (h3 : RowVals (fun b => ok b ∧ v.ownBlock ≠ some b) w xs (ps.map Ex.rx)) (h4 : ∀ x, X x → x < w.heap.size ∧ v.ownBlock ≠ some x) (hA : Below w.heap.size w wA) (hre : ReAt (fun b => ok b ∧ v.ownBlock ≠ some b) wA (.agg #[c0, c1, c2, c3, c4, c5]) e.rx)
    (how : w2.ownsRow B 39 6 (.slice (some ⟨g', 0, none⟩) (ps.length + 1) cap') (ps.length + 1) (xs ++ [z0, z1, z2, z3, z4, z5])) (hgrow : wA.grownBy w2 v.ownBlock) (hat : v.ownBlock = some g' ∨ g' = wA.heap.size) (hvo : w2.heap[o]? = some (.cells #[v] 27)) (hne : ¬ o = g') :
    PushPost B X ok o (ps ++ [e]) w (.returned (.tuple #[])) (((((((w2.setCell ⟨g', ps.length * 6, none⟩ c0).setCell ⟨g', ps.length * 6 + 1, none⟩ c1).setCell ⟨g', ps.length * 6 + 2, none⟩ c2).setCell ⟨g', ps.length * 6 + 3, none⟩ c3).setCell ⟨g', ps.length * 6 + 4, none⟩ c4).setCell ⟨g', ps.length * 6 + 5, none⟩ c5).setCell ⟨o, 0, none⟩ (.slice (some ⟨g', 0, none⟩) (ps.length + 1) cap')) := by
  show PushPost B X ok o (ps ++ [e]) w (.returned (.tuple #[])) ((put6 w2 g' (ps.length * 6) c0 c1 c2 c3 c4 c5).setCell ⟨o, 0, none⟩ (.slice (some ⟨g', 0, none⟩) (ps.length + 1) cap'))
  have hput := own_put6 hown.1 how c0 c1 c2 c3 c4 c5
  have hBg := (own_lt how).1
  have hrow := own_row (w' := (put6 w2 g' (ps.length * 6) c0 c1 c2 c3 c4 c5).setCell ⟨o, 0, none⟩ (.slice (some ⟨g', 0, none⟩) (ps.length + 1) cap')) hput (Below.heap_setCell _ _ _ _ (Ne.symm hne))
  obtain ⟨k1, k2⟩ := push_facts (W3 := (put6 w2 g' (ps.length * 6) c0 c1 c2 c3 c4 c5).setCell ⟨o, 0, none⟩ (.slice (some ⟨g', 0, none⟩) (ps.length + 1) cap')) hX hok h3 h4 hA hre how hgrow hat (by simp [World.setCell, put6_size]) (fun b e1 e2 => by rw [Below.heap_setCell _ _ _ _ e2, put6_other _ _ _ _ _ _ _ _ _ e1]) hrow (var_set ((put6_other w2 g' (ps.length * 6) c0 c1 c2 c3 c4 c5 hne).trans hvo) _)
  refine ⟨rfl, k1, ?_, k2⟩
  exact (put6_below (((Below.refl _ w).trans (hA.mono hBw)).grown hgrow (Nat.le_trans hBw hA.size) (fun g hg => (own_lt' hown g hg).1)) hBg _ _ _ _ _ _ _).setCell (p := ⟨o, 0, none⟩) hBo _
theorem push_closeB {B : Nat} {X ok : Nat → Prop} {o : Nat} {ps : List Ex} {w wA w2 : World} {v : Value} {xs : List Value} {e : Ex} {c0 c1 c2 c3 c4 c5 z0 z1 z2 z3 z4 z5 : Value} {g' cap' : Nat} (hX : X o) (hok : ∀ b, ok b → ¬ X b) (hBo : B ≤ o) (hBw : B ≤ w.heap.size)
    (hown : w.ownsRow B 39 6 v ps.length xs) (h3 : RowVals (fun b => ok b ∧ v.ownBlock ≠ some b) w xs (ps.map Ex.rx)) (h4 : ∀ x, X x → x < w.heap.size ∧ v.ownBlock ≠ some x) (hA : Below w.heap.size w wA) (hre : ReAt (fun b => ok b ∧ v.ownBlock ≠ some b) wA (.agg #[c0, c1, c2, c3, c4, c5]) e.rx)
    (how : w2.ownsRow B 39 6 (.slice (some ⟨g', 0, none⟩) (ps.length + 1) cap') (ps.length + 1) (xs ++ [z0, z1, z2, z3, z4, z5])) (hgrow : wA.grownBy w2 v.ownBlock) (hat : v.ownBlock = some g' ∨ g' = wA.heap.size) (hvo : w2.heap[o]? = some (.cells #[v] 27)) (hne : ¬ o = g') :
    PushPost B X ok o (ps ++ [e]) w (.returned (.tuple #[])) (((((((w2.setCell ⟨o, 0, none⟩ (.slice (some ⟨g', 0, none⟩) (ps.length + 1) cap')).setCell ⟨g', ps.length * 6, none⟩ c0).setCell ⟨g', ps.length * 6 + 1, none⟩ c1).setCell ⟨g', ps.length * 6 + 2, none⟩ c2).setCell ⟨g', ps.length * 6 + 3, none⟩ c3).setCell ⟨g', ps.length * 6 + 4, none⟩ c4).setCell ⟨g', ps.length * 6 + 5, none⟩ c5) := by
  show PushPost B X ok o (ps ++ [e]) w (.returned (.tuple #[])) (put6 (w2.setCell ⟨o, 0, none⟩ (.slice (some ⟨g', 0, none⟩) (ps.length + 1) cap')) g' (ps.length * 6) c0 c1 c2 c3 c4 c5)
  have hBg := (own_lt how).1
  have hrow := own_put6 hown.1 (own_row (w' := w2.setCell ⟨o, 0, none⟩ (.slice (some ⟨g', 0, none⟩) (ps.length + 1) cap')) how (Below.heap_setCell _ _ _ _ (Ne.symm hne))) c0 c1 c2 c3 c4 c5
  obtain ⟨k1, k2⟩ := push_facts (W3 := put6 (w2.setCell ⟨o, 0, none⟩ (.slice (some ⟨g', 0, none⟩) (ps.length + 1) cap')) g' (ps.length * 6) c0 c1 c2 c3 c4 c5) hX hok h3 h4 hA hre how hgrow hat (by rw [put6_size]; simp [World.setCell]) (fun b e1 e2 => by rw [put6_other _ _ _ _ _ _ _ _ _ e1, Below.heap_setCell _ _ _ _ e2]) hrow ((put6_other _ g' (ps.length * 6) c0 c1 c2 c3 c4 c5 hne).trans (var_set hvo _))
  refine ⟨rfl, k1, ?_, k2⟩
  exact put6_below ((((Below.refl _ w).trans (hA.mono hBw)).grown hgrow (Nat.le_trans hBw hA.size) (fun g hg => (own_lt' hown g hg).1)).setCell (p := ⟨o, 0, none⟩) hBo _) hBg _ _ _ _ _ _ _
def SP.zero : SP := ⟨fun x w => ∃ g, x = .slice (some ⟨g, 0, none⟩) 1 1 ∧ w.heap[g]? = some zR, fun _ _ _ ⟨g, h1, h2⟩ hb => ⟨g, h1, (hb.block _ (Array.getElem?_eq_some_iff.1 h2).1).trans h2⟩⟩
theorem zero_at {w : World} {g : Nat} (h : w.heap[g]? = some zR) : ∀ j u, ([.int .u8 0, .int .u64 0, .int .u64 0, .int .u64 0, .int .u64 0, .slice none 0 0] : List Value)[j]? = some u → w.cell? ((⟨g, 0, none⟩ : Addr).add j) = some u := by
  intro j u hj
  rw [Go.WideShapes.add_plain]
  show w.cell? ⟨g, 0 + j, none⟩ = some u
  rw [Nat.zero_add, Lib.cell_of_heap h]
  simpa using hj
theorem var_cell {w : World} {o : Nat} {v : Value} (h : w.heap[o]? = some (.cells #[v] 27)) : w.cell? ⟨o, 0, none⟩ = some v ∧ w.frozen? ⟨o, 0, none⟩ = false := by
  refine ⟨by rw [Lib.cell_of_heap h]; rfl, Lib.frozen_of_heap h 0⟩
def okV (B : Nat) (X : Nat → Prop) (b : Nat) : Prop := B ≤ b ∧ ¬ X b
set_option maxHeartbeats 8000000 in
set_option maxRecDepth 100000 in
theorem normals1_any {B : Nat} {X : Nat → Prop} {o : Nat} {done : List Ex} {e : Ex} {v0 : Value} {w : World} (hX : X o) (hBo : B ≤ o) (hBw : B ≤ w.heap.size) (hlen : done.length < 1000000) (hP : PV B X (okV B X) o (done.map nfE) w) (hre : ReAt (Lo B) w v0 e.rx)
    (hN : ∀ (W : World), Below w.heap.size w W → Calls Tryz.prog 44 #[v0] W (NewPost (nfE e).rx W)) :
    Calls Tryz.prog 95 #[v0, .pointer (some ⟨o, 0, none⟩)] w (PushPost B X (okV B X) o ((done ++ [e]).map nfE) w) := by
  obtain ⟨y0, y1, y2, y3, y4, yl, yn, yc, rfl⟩ := cells_re hre
  rw [List.map_append, show [e].map nfE = [nfE e] from rfl]
  have hlen' : (done.map nfE).length < 1000000 := by rw [List.length_map]; exact hlen
  generalize done.map nfE = ps at *
  obtain ⟨v, xs, h1, hown, h3, h4⟩ := hP
  obtain ⟨al, vc, rfl⟩ : ∃ al c, v = .slice al ps.length c := own_form hown
  obtain ⟨i0, z0, hi0, hz0, hz1, hz2, hz3⟩ := infoR2
  have hz2' := Lib.hid hz2
  have HX : X o := hX
  have HOK := Lib.hid (show ∀ b, okV B X b → ¬ X b from fun b h => h.2)
  have HOWN := Lib.hid hown
  have H3 := Lib.hid h3
  have H4 := Lib.hid h4
  have BX := Lib.hid (show (w.alloc (.cells #[.int .u8 y0, .int .u64 y1, .int .u64 y2, .int .u64 y3, .int .u64 y4, .slice yl yn yc] 39)).heap[w.heap.size]? = some (.cells #[.int .u8 y0, .int .u64 y1, .int .u64 y2, .int .u64 y3, .int .u64 y4, .slice yl yn yc] 39) ∧ Below w.heap.size w (w.alloc (.cells #[.int .u8 y0, .int .u64 y1, .int .u64 y2, .int .u64 y3, .int .u64 y4, .slice yl yn yc] 39)) from ⟨blk_new w _, (Below.refl _ w).alloc (Nat.le_refl _) _⟩)
  have KN0 := Lib.hid hN
  have V0 := Lib.hid h1
  clear hz2 hX hown h3 h4 hN hre h1 hlen done
  go_enter Tryz.func95, Tryz.ntmps95
  go_wp2_with fail
  obtain ⟨W, hW⟩ : ∃ x, x = w.alloc (.cells #[.int .u8 y0, .int .u64 y1, .int .u64 y2, .int .u64 y3, .int .u64 y4, .slice yl yn yc] 39) := ⟨_, rfl⟩
  rw [← hW] at BX ⊢
  clear hW
  have WB := Lib.hid fun x (hx : Below W.heap.size W x) => BX.out.2.trans (hx.mono BX.out.2.size)
  have VO := Lib.hid fun x (hx : Below W.heap.size W x) => ((WB.out x hx).block o (H4.out o HX).1).trans V0.out
  have CB := Lib.hid fun x (hx : Below W.heap.size W x) => cellsR ((hx.block _ (Array.getElem?_eq_some_iff.1 BX.out.1).1).trans BX.out.1)
  have KN := Lib.hid fun x (hx : Below W.heap.size W x) => KN0.out x (WB.out x hx)
  have HI := Lib.hid fun x (hx : Below W.heap.size W x) b (h : New x.heap.size b) => show okV B X b ∧ (Value.slice al ps.length vc).ownBlock ≠ some b from by
    have hs := (WB.out x hx).size
    have hsb : x.heap.size ≤ b := h
    refine ⟨⟨by omega, fun hb => ?_⟩, fun hb => ?_⟩
    · have := (H4.out b hb).1; omega
    · have := (own_lt' HOWN.out b hb).2; omega
  refine wp_region_orderA 5 (fun i => ([SP.eq (.slice al ps.length vc), SP.eq (.agg #[.int .u8 y0, .int .u64 y1, .int .u64 y2, .int .u64 y3, .int .u64 y4, .slice yl yn yc]), SP.ex (fun b => okV B X b ∧ (Value.slice al ps.length vc).ownBlock ≠ some b) (nfE e), SP.eq (.int .i64 ps.length), SP.zero] : List SP).getD i SP.free) (fun _ => false) (fun _ _ _ h => by cases h) (by kernel_rfl) (by kernel_rfl) ⟨?_, ?_, ?_, ?_, ?_, trivial⟩ ?_
  · intro a x K out get hb hK
    rw [if_pos (wanted_none rfl)]
    have o1 : a.tmps[1]? = some (.pointer (some ⟨o, 0, none⟩)) := out 1 (by kernel_rfl)
    obtain ⟨c0, -⟩ := var_cell (VO.out x hb)
    clear out get
    go_simp
    exact hK _ _ rfl (Below.refl _ _) (fun h => by cases h)
  · intro a x K out get hb hK
    rw [if_pos (wanted_none rfl)]
    have o2 : a.tmps[2]? = some (.pointer (some ⟨w.heap.size, 0, none⟩)) := out 2 (by kernel_rfl)
    obtain ⟨c0, c1, c2, c3, c4, c5, -⟩ := CB.out x hb
    clear out get
    go_simp
    exact hK _ _ rfl (Below.refl _ _) (fun h => by cases h)
  · intro a x K out get hb hK
    rw [if_pos (wanted_none rfl)]
    obtain ⟨y4, hy4, rfl⟩ := get 1 _ _ rfl rfl (by kernel_rfl)
    clear out get
    go_simp
    refine (KN.out x hb).mono ?_
    rintro e w2 ⟨v2, rfl, hv2, hb2⟩
    exact hK _ _ (ExV.of hv2 fun b _ h => HI.out x hb b h) hb2 (fun h => by cases h)
  · intro a x K out get hb hK
    rw [if_pos (wanted_none rfl)]
    obtain ⟨y3, hy3, rfl⟩ := get 0 _ _ rfl rfl (by kernel_rfl)
    clear out get
    go_simp
    exact hK _ _ rfl (Below.refl _ _) (fun h => by cases h)
  · intro a x K out get hb hK
    rw [if_pos (wanted_none rfl)]
    clear out get
    go_simp
    exact hK _ _ ⟨_, rfl, blk_new _ _⟩ (bel_al _ _) (fun h => by cases h)
  refine ao_finA (isD := fun s => decide (3 ≤ s) && decide (s ≤ 9)) (by kernel_rfl) ?_
  intro f x hv hne hb
  clear hne
  have e3 : f 3 = _ := hv 0 _ _ (by decide) rfl rfl
  have e6 : f 6 = _ := hv 3 _ _ (by decide) rfl rfl
  obtain ⟨p0, p1, p2, p3, p4, pl, pn, pc, e5, he⟩ := hv 2 _ _ (by decide) rfl rfl
  obtain ⟨gz, e7, hz⟩ := hv 4 _ _ (by decide) rfl rfl
  have hbx := WB.out x hb
  have hox := VO.out x hb
  have HE := Lib.hid he
  have hownx := ownR_below HOWN.out hbx
  have hBx := Nat.le_trans hBw hbx.size
  clear hv he
  generalize hF : (Act.mk (List.toArray (frm f _ 0 _)) _) = fr
  simp [frm] at hF
  rw [e3, e6, e5, e7] at hF
  subst hF
  generalize f 4 = u4 at *
  generalize f 8 = u8 at *
  generalize f 9 = u9 at *
  clear e3 e6 e5 e7 f
  refine wp_end (n := 5) (by kernel_rfl) rfl rfl rfl rfl ?_
  refine step_append_lies _ rfl (.tmp 3) (.tmp 7) 27 rfl B 39 i0 z0 6 64 Tryz.underlying27 hi0 hz0 hz1 hz2'.out hz3 (by decide) (.slice al ps.length vc) ps.length xs rfl hownx ⟨gz, 0, none⟩ 1 1 [.int .u8 0, .int .u64 0, .int .u64 0, .int .u64 0, .int .u64 0, .slice none 0 0] rfl rfl (zero_at hz) zero6_one (by decide) (by unfold maxLen; omega) (by omega) hBx _ rfl ?_
  intro g' cap' w2 hown hgrow hat hlt
  obtain ⟨⟨n0, n1, n2, n3, n4, n5⟩, m0, m1, m2, m3, m4, m5⟩ := new6 HOWN.out.1 hown
  have hne : ¬ o = g' := fun e => by
    rcases hat with h | h
    · exact (H4.out o HX).2 (by rw [h, e])
    · have := (H4.out o HX).1; have := hbx.size; omega
  have hne' : ¬ g' = o := fun e => hne e.symm
  have hvo := (hgrow.block o (Nat.lt_of_lt_of_le (H4.out o HX).1 hbx.size) fun e => (H4.out o HX).2 e.symm).trans hox
  obtain ⟨v0c, v0f⟩ := var_cell hvo
  have hidx : (ps.length : Int) < (ps.length : Int) + 1 := by omega
  have HOW := Lib.hid hown
  have HGR := Lib.hid hgrow
  have HAT := Lib.hid hat
  have HBX := Lib.hid hbx
  have HVO := Lib.hid hvo
  clear hown hgrow hat hbx hvo hox hz hownx hBx hb
  refine ⟨?_, ?_⟩
  · rw [if_pos (wanted_none rfl)]
    go_simp
    refine ⟨?_, ?_⟩
    · go_wp2
      go_end0
      with_reducible exact push_closeA HX HOK.out hBo hBw HOWN.out H3.out H4.out HBX.out HE.out HOW.out HGR.out HAT.out HVO.out hne
    · go_wp2
      go_end0
      with_reducible exact push_closeB HX HOK.out hBo hBw HOWN.out H3.out H4.out HBX.out HE.out HOW.out HGR.out HAT.out HVO.out hne
  · go_wp2
    go_end0
    with_reducible exact push_closeB HX HOK.out hBo hBw HOWN.out H3.out H4.out HBX.out HE.out HOW.out HGR.out HAT.out HVO.out hne
open Go.RowKit
def NrmC (N : Nat) : Prop := ∀ e : Ex, e.size ≤ N → e.Wf → ∀ (ok : Nat → Prop) (v : Value) (w : World), ReAt ok w v e.rx → Calls Tryz.prog 44 #[v] w (NewPost (nfE e).rx w)
def NmPost (l : List Ex) (w : World) (x : Ending) (w' : World) : Prop := ∃ al cap, x = .returned (.slice al l.length cap) ∧ l.length ≤ cap ∧ RowAt (New w.heap.size) w' al (l.map Ex.rx) ∧ Below w.heap.size w w'
theorem PV.out {B : Nat} {X ok : Nat → Prop} {o : Nat} {ps : List Ex} {w : World} (h : PV B X ok o ps w) : ∃ al cap, w.heap[o]? = some (.cells #[.slice al ps.length cap] 27) ∧ ps.length ≤ cap ∧ RowAt (fun b => ok b ∨ B ≤ b) w al (ps.map Ex.rx) := by
  obtain ⟨v, xs, h1, h2, h3, h4⟩ := h
  obtain ⟨al, cap, rfl, e2, e3⟩ := row_of_own (l := ps.map Ex.rx) (by rw [List.length_map]; exact h2) h3
  rw [List.length_map] at h1 e2
  refine ⟨al, cap, h1, e2, e3.imp fun b _ h => ?_⟩
  rcases h with h | h
  · exact .inl h.1
  · exact .inr h
set_option maxRecDepth 100000 in
set_option maxHeartbeats 8000000 in
theorem normals_any {N k : Nat} (ih : NrmC N) (hk : k = 4 ∨ k = 5) (ok : Nat → Prop) (l : List Ex) (al : Option Addr) (cap : Nat) (w : World) (hl : ∀ e ∈ l, e.size ≤ N ∧ e.Wf) (hlen : l.length < 2199023255552) (hM : (partL k l).length ≤ 1000000) (hR : RowAt ok w al (l.map Ex.rx)) :
    Calls Tryz.prog 60 #[.int .u8 k, .slice al l.length cap] w (NmPost ((partL k l).map nfE) w) := by
  have hR0 : RowAt (Lo w.heap.size) w al (l.map Ex.rx) := hR.imp fun b hb _ => hb
  obtain ⟨W1, hW1⟩ : ∃ x, x = w.alloc (.cells #[.slice none 0 0] 27) := ⟨_, rfl⟩
  have hb1 : Below w.heap.size w W1 := by rw [hW1]; exact (Below.refl _ w).alloc (Nat.le_refl _) _
  have hR1 := hR0.below hb1
  have ho : W1.heap[w.heap.size]? = some (.cells #[.slice none 0 0] 27) := by rw [hW1]; exact blk_new w _
  have hlt : w.heap.size < W1.heap.size := (Array.getElem?_eq_some_iff.1 ho).1
  have hT : Tell 1000000 w.heap.size W1 95 #[.pointer (some ⟨w.heap.size, 0, none⟩)] (fun done W => PV w.heap.size (fun b => b = w.heap.size) (okV w.heap.size (fun b => b = w.heap.size)) w.heap.size (done.map nfE) W) (fun e => e.size ≤ N ∧ e.Wf) := by
    refine ⟨fun v W => rfl, fun done W W' h hb => h.below hb, fun done e v W hd hI hB he hre => ?_⟩
    have hsz : w.heap.size ≤ W.heap.size := Nat.le_trans (Nat.le_of_lt hlt) hB.size
    exact (normals1_any (X := fun b => b = w.heap.size) rfl (Nat.le_refl _) hsz hd hI hre fun W' hb => ih e he.1 he.2 _ v W' (hre.below hb)).mono fun x W' h => ⟨h.1, h.2.1, h.2.2.1⟩
  have K0 := each_any hk (Nat.le_of_lt hlt) hT (Ex.sum l) l al cap [] W1 (Nat.le_refl _) hlen hR1 (fun x hx => by
    obtain ⟨e, he, hx⟩ := List.mem_flatMap.1 hx
    exact ⟨Nat.le_trans (part_mem_size k e x hx) (hl e he).1, part_mem_wf k e x (hl e he).2 hx⟩) (by simpa using hM) (PV.start ho fun x hx => by rw [hx]; exact hlt) (Below.refl _ _)
  simp only [List.nil_append] at K0
  generalize (partL k l).map nfE = ps at K0 ⊢
  have K := Lib.hid K0
  have HB1 := Lib.hid hb1
  have HW1 := Lib.hid hW1
  clear hR hR0 hR1 hT ih hl hb1 ho hW1 K0
  go_enter Tryz.func60, Tryz.ntmps60
  go_wp2_with fail
  rw [← HW1.out]
  refine K.out.mono ?_
  rintro x w2 ⟨rfl, hI, hb2⟩
  obtain ⟨al2, cap2, hv, hc, hr⟩ := hI.out
  have HR := Lib.hid (show RowAt (New w.heap.size) w2 al2 (ps.map Ex.rx) from hr.imp fun b _ h => h.elim (fun h => h.1) id)
  have HC := Lib.hid hc
  have HB2 := Lib.hid (HB1.out.trans hb2)
  obtain ⟨c0, -⟩ := var_cell hv
  clear hI hv hc hr hb2 K
  go_wp2
  go_ret
  exact ⟨al2, cap2, rfl, HC.out, HR.out, HB2.out⟩
open Go.RowKit
def seqKeep (x : Ex) : Bool := !x.isEmp && !x.isEps
def SeqI (B : Nat) (X : Nat → Prop) (o c : Nat) (done : List Ex) (w : World) : Prop := PV B X (Lo B) o (done.filter seqKeep) w ∧ w.heap[c]? = some (.cells #[.bool (done.any Ex.isEmp)] 4)
theorem var_cellT {w : World} {o : Nat} {v : Value} {t : TypeId} (h : w.heap[o]? = some (.cells #[v] t)) : w.cell? ⟨o, 0, none⟩ = some v ∧ w.frozen? ⟨o, 0, none⟩ = false := by
  refine ⟨by rw [Lib.cell_of_heap h]; rfl, Lib.frozen_of_heap h 0⟩
set_option maxHeartbeats 8000000 in
set_option maxRecDepth 100000 in
theorem seq1_any {B : Nat} {X : Nat → Prop} {o c : Nat} {done : List Ex} {e : Ex} {v0 : Value} {w : World} (hX : X o) (hXc : X c) (hoc : o ≠ c) (hXB : ∀ x, X x → B ≤ x) (hBw : B ≤ w.heap.size) (hlen : done.length < 1000000) (hI : SeqI B X o c done w) (hre : ReAt (Lo B) w v0 e.rx) :
    Calls Tryz.prog 93 #[v0, .pointer (some ⟨c, 0, none⟩), .pointer (some ⟨o, 0, none⟩)] w (fun x w' => x = .returned (.tuple #[]) ∧ SeqI B X o c (done ++ [e]) w' ∧ Below B w w') := by
  obtain ⟨ka, ⟨sa, sb, sc, sd⟩, ksa, hsa⟩ := rx_form e
  have hre0 := hre
  rw [hsa] at hre
  obtain ⟨_, _, al1, cap1, rfl, _, _, _⟩ := hre
  simp only at hre0 ⊢
  have hre := hre0
  clear hre0
  have k1a := kind_emp hsa
  have k2a := kind_eps hsa
  have HOK := Lib.hid (show ∀ b, Lo B b → ¬ X b from fun b h hb => by have := hXB b hb; have : b < B := h; omega)
  obtain ⟨hP, hV⟩ := hI
  have hBo := hXB o hX
  have hBc := hXB c hXc
  have hpl : (done.filter seqKeep).length < 1000000 := Nat.lt_of_le_of_lt (List.length_filter_le _ _) hlen
  have hcl : c < w.heap.size := (Array.getElem?_eq_some_iff.1 hV).1
  cases q1 : e.isEmp with
  | true =>
    rw [q1] at k1a
    have hany : (done ++ [e]).any Ex.isEmp = true := by simp [q1]
    have hfil : (done ++ [e]).filter seqKeep = done.filter seqKeep := by simp [seqKeep, q1]
    have hb0 : Below w.heap.size w (w.alloc (.cells #[.int .u8 ka, .int .u64 sa, .int .u64 sb, .int .u64 sc, .int .u64 sd, .slice al1 ksa.length cap1] 39)) := (Below.refl _ w).alloc (Nat.le_refl _) _
    have hV1 := (hb0.block c hcl).trans hV
    have hP1 := hP.below hb0
    have hset := var_set hV1 (.bool true)
    have hP2 := hP1.other (w' := (w.alloc (.cells #[.int .u8 ka, .int .u64 sa, .int .u64 sb, .int .u64 sc, .int .u64 sd, .slice al1 ksa.length cap1] 39)).setCell ⟨c, 0, none⟩ (.bool true)) (by simp [World.setCell]) hXc hoc HOK.out fun b hb _ => Below.heap_setCell _ _ _ _ hb
    have hB2 := (hb0.mono hBw).setCell (p := ⟨c, 0, none⟩) hBc (.bool true)
    have H := Lib.hid (show SeqI B X o c (done ++ [e]) ((w.alloc (.cells #[.int .u8 ka, .int .u64 sa, .int .u64 sb, .int .u64 sc, .int .u64 sd, .slice al1 ksa.length cap1] 39)).setCell ⟨c, 0, none⟩ (.bool true)) ∧ Below B w ((w.alloc (.cells #[.int .u8 ka, .int .u64 sa, .int .u64 sb, .int .u64 sc, .int .u64 sd, .slice al1 ksa.length cap1] 39)).setCell ⟨c, 0, none⟩ (.bool true)) from ⟨⟨by rw [hfil]; exact hP2, by rw [hany]; exact hset⟩, hB2⟩)
    obtain ⟨vc0, vf0⟩ := var_cellT hV
    clear hP hV hP1 hP2 hV1 hset hB2 hb0 hre hsa k2a hany hfil
    go_enter Tryz.func93, Tryz.ntmps93
    go_wp2
    go_end0
    first
      | exact ⟨rfl, H.out.1, H.out.2⟩
      | (rw [← World.setCell_alloc_past]; (exact ⟨rfl, H.out.1, H.out.2⟩); exact hcl)
  | false =>
  rw [q1] at k1a
  cases q2 : e.isEps with
  | true =>
    rw [q2] at k2a
    have hany : (done ++ [e]).any Ex.isEmp = done.any Ex.isEmp := by simp [q1]
    have hfil : (done ++ [e]).filter seqKeep = done.filter seqKeep := by simp [seqKeep, q2]
    have hb0 : Below w.heap.size w (w.alloc (.cells #[.int .u8 ka, .int .u64 sa, .int .u64 sb, .int .u64 sc, .int .u64 sd, .slice al1 ksa.length cap1] 39)) := (Below.refl _ w).alloc (Nat.le_refl _) _
    have H := Lib.hid (show SeqI B X o c (done ++ [e]) (w.alloc (.cells #[.int .u8 ka, .int .u64 sa, .int .u64 sb, .int .u64 sc, .int .u64 sd, .slice al1 ksa.length cap1] 39)) ∧ Below B w (w.alloc (.cells #[.int .u8 ka, .int .u64 sa, .int .u64 sb, .int .u64 sc, .int .u64 sd, .slice al1 ksa.length cap1] 39)) from ⟨⟨by rw [hfil]; exact hP.below hb0, by rw [hany]; exact (hb0.block c hcl).trans hV⟩, hb0.mono hBw⟩)
    clear hP hV hb0 hre hsa hany hfil
    go_enter Tryz.func93, Tryz.ntmps93
    go_wp2
    go_end0
    exact ⟨rfl, H.out.1, H.out.2⟩
  | false =>
  rw [q2] at k2a
  have hany : (done ++ [e]).any Ex.isEmp = done.any Ex.isEmp := by simp [q1]
  have hfil : (done ++ [e]).filter seqKeep = done.filter seqKeep ++ [e] := by simp [seqKeep, q1, q2]
  have SE := Lib.hid (show ∀ x w', PushPost B X (Lo B) o (done.filter seqKeep ++ [e]) w x w' → x = .returned (.tuple #[]) ∧ SeqI B X o c (done ++ [e]) w' ∧ Below B w w' from fun x w' h => ⟨h.1, ⟨by rw [hfil]; exact h.2.1, by rw [hany, h.2.2.2 c hXc (Ne.symm hoc)]; exact hV⟩, h.2.2.1⟩)
  clear hany hfil hV hXc hoc hXB hBc hcl hlen hsa
  generalize done.filter seqKeep = ps at *
  obtain ⟨v, xs, h1, hown, h3, h4⟩ := hP
  obtain ⟨al, vc, rfl⟩ : ∃ al c, v = .slice al ps.length c := own_form hown
  obtain ⟨i0, z0, hi0, hz0, hz1, hz2, hz3⟩ := infoR2
  have hz2' := Lib.hid hz2
  have HX : X o := hX
  have HOWN := Lib.hid hown
  have H3 := Lib.hid h3
  have H4 := Lib.hid h4
  have HRE := Lib.hid (show ReAt (fun b => Lo B b ∧ (Value.slice al ps.length vc).ownBlock ≠ some b) w (.agg #[.int .u8 ka, .int .u64 sa, .int .u64 sb, .int .u64 sc, .int .u64 sd, .slice al1 ksa.length cap1]) e.rx from hre.imp fun b _ h => ⟨h, fun hb => by have := (own_lt' hown b hb).1; have : b < B := h; omega⟩)
  have BX := Lib.hid (show (w.alloc (.cells #[.int .u8 ka, .int .u64 sa, .int .u64 sb, .int .u64 sc, .int .u64 sd, .slice al1 ksa.length cap1] 39)).heap[w.heap.size]? = some (.cells #[.int .u8 ka, .int .u64 sa, .int .u64 sb, .int .u64 sc, .int .u64 sd, .slice al1 ksa.length cap1] 39) ∧ Below w.heap.size w (w.alloc (.cells #[.int .u8 ka, .int .u64 sa, .int .u64 sb, .int .u64 sc, .int .u64 sd, .slice al1 ksa.length cap1] 39)) from ⟨blk_new w _, (Below.refl _ w).alloc (Nat.le_refl _) _⟩)
  have V0 := Lib.hid h1
  clear hz2 hX hown h3 h4 hre h1
  have q1s : ((ka : Int) == 1) = false := k1a
  have q2s : ((ka : Int) == 2) = false := k2a
  go_enter Tryz.func93, Tryz.ntmps93
  go_wp2_with fail
  obtain ⟨W, hW⟩ : ∃ x, x = w.alloc (.cells #[.int .u8 ka, .int .u64 sa, .int .u64 sb, .int .u64 sc, .int .u64 sd, .slice al1 ksa.length cap1] 39) := ⟨_, rfl⟩
  rw [← hW] at BX ⊢
  clear hW
  have WB := Lib.hid fun x (hx : Below W.heap.size W x) => BX.out.2.trans (hx.mono BX.out.2.size)
  have VO := Lib.hid fun x (hx : Below W.heap.size W x) => ((WB.out x hx).block o (H4.out o HX).1).trans V0.out
  have CB := Lib.hid fun x (hx : Below W.heap.size W x) => cellsR ((hx.block _ (Array.getElem?_eq_some_iff.1 BX.out.1).1).trans BX.out.1)
  refine wp_region_orderA 4 (fun i => ([SP.eq (.slice al ps.length vc), SP.eq (.agg #[.int .u8 ka, .int .u64 sa, .int .u64 sb, .int .u64 sc, .int .u64 sd, .slice al1 ksa.length cap1]), SP.eq (.int .i64 ps.length), SP.zero] : List SP).getD i SP.free) (fun _ => false) (fun _ _ _ h => by cases h) (by kernel_rfl) (by kernel_rfl) ⟨?_, ?_, ?_, ?_, trivial⟩ ?_
  · intro a x K out get hb hK
    rw [if_pos (wanted_none rfl)]
    have o2 : a.tmps[2]? = some (.pointer (some ⟨o, 0, none⟩)) := out 2 (by kernel_rfl)
    obtain ⟨c0, -⟩ := var_cell (VO.out x hb)
    clear out get
    go_simp
    exact hK _ _ rfl (Below.refl _ _) (fun h => by cases h)
  · intro a x K out get hb hK
    rw [if_pos (wanted_none rfl)]
    have o3 : a.tmps[3]? = some (.pointer (some ⟨w.heap.size, 0, none⟩)) := out 3 (by kernel_rfl)
    obtain ⟨c0, c1, c2, c3, c4, c5, -⟩ := CB.out x hb
    clear out get
    go_simp
    exact hK _ _ rfl (Below.refl _ _) (fun h => by cases h)
  · intro a x K out get hb hK
    rw [if_pos (wanted_none rfl)]
    obtain ⟨y6, hy6, rfl⟩ := get 0 _ _ rfl rfl (by kernel_rfl)
    clear out get
    go_simp
    exact hK _ _ rfl (Below.refl _ _) (fun h => by cases h)
  · intro a x K out get hb hK
    rw [if_pos (wanted_none rfl)]
    clear out get
    go_simp
    exact hK _ _ ⟨_, rfl, blk_new _ _⟩ (bel_al _ _) (fun h => by cases h)
  refine ao_finA (isD := fun s => decide (6 ≤ s) && decide (s ≤ 11)) (by kernel_rfl) ?_
  intro f x hv hne hb
  clear hne
  have e6 : f 6 = _ := hv 0 _ _ (by decide) rfl rfl
  have e8 : f 8 = _ := hv 2 _ _ (by decide) rfl rfl
  have e7 : f 7 = _ := hv 1 _ _ (by decide) rfl rfl
  have he := HRE.out.below (WB.out x hb)
  obtain ⟨gz, e9, hz⟩ := hv 3 _ _ (by decide) rfl rfl
  have hbx := WB.out x hb
  have hox := VO.out x hb
  have HE := Lib.hid he
  have hownx := ownR_below HOWN.out hbx
  have hBx := Nat.le_trans hBw hbx.size
  clear hv he
  generalize hF : (Act.mk (List.toArray (frm f _ 0 _)) _) = fr
  simp [frm] at hF
  rw [e6, e8, e7, e9] at hF
  subst hF
  generalize f 10 = u10 at *
  generalize f 11 = u11 at *
  clear e6 e8 e7 e9 f
  refine wp_end (n := 4) (by kernel_rfl) rfl rfl rfl rfl ?_
  refine step_append_lies _ rfl (.tmp 6) (.tmp 9) 27 rfl B 39 i0 z0 6 64 Tryz.underlying27 hi0 hz0 hz1 hz2'.out hz3 (by decide) (.slice al ps.length vc) ps.length xs rfl hownx ⟨gz, 0, none⟩ 1 1 [.int .u8 0, .int .u64 0, .int .u64 0, .int .u64 0, .int .u64 0, .slice none 0 0] rfl rfl (zero_at hz) zero6_one (by decide) (by unfold maxLen; omega) (by omega) hBx _ rfl ?_
  intro g' cap' w2 hown hgrow hat hlt
  obtain ⟨⟨n0, n1, n2, n3, n4, n5⟩, m0, m1, m2, m3, m4, m5⟩ := new6 HOWN.out.1 hown
  have hne : ¬ o = g' := fun e => by
    rcases hat with h | h
    · exact (H4.out o HX).2 (by rw [h, e])
    · have := (H4.out o HX).1; have := hbx.size; omega
  have hne' : ¬ g' = o := fun e => hne e.symm
  have hvo := (hgrow.block o (Nat.lt_of_lt_of_le (H4.out o HX).1 hbx.size) fun e => (H4.out o HX).2 e.symm).trans hox
  obtain ⟨v0c, v0f⟩ := var_cell hvo
  have hidx : (ps.length : Int) < (ps.length : Int) + 1 := by omega
  have HOW := Lib.hid hown
  have HGR := Lib.hid hgrow
  have HAT := Lib.hid hat
  have HBX := Lib.hid hbx
  have HVO := Lib.hid hvo
  clear hown hgrow hat hbx hvo hox hz hownx hBx hb
  refine ⟨?_, ?_⟩
  · rw [if_pos (wanted_none rfl)]
    go_simp
    refine ⟨?_, ?_⟩
    · go_wp2
      go_end0
      with_reducible exact SE.out _ _ (push_closeA HX HOK.out hBo hBw HOWN.out H3.out H4.out HBX.out HE.out HOW.out HGR.out HAT.out HVO.out hne)
    · go_wp2
      go_end0
      with_reducible exact SE.out _ _ (push_closeB HX HOK.out hBo hBw HOWN.out H3.out H4.out HBX.out HE.out HOW.out HGR.out HAT.out HVO.out hne)
  · go_wp2
    go_end0
    with_reducible exact SE.out _ _ (push_closeB HX HOK.out hBo hBw HOWN.out H3.out H4.out HBX.out HE.out HOW.out HGR.out HAT.out HVO.out hne)
open Go.RowKit
def AltI (B : Nat) (X : Nat → Prop) (o c : Nat) (done : List Ex) (w : World) : Prop := PV B X (Lo B) o (bareL done) w ∧ Box w c (setE done) ∧ (setE done).Ok
theorem sets_two {W : World} {g sa sb sc sd ta tb tc td : Nat} (h : W.heap[g]? = some (.cells #[.int .u64 sa, .int .u64 sb, .int .u64 sc, .int .u64 sd, .int .u64 ta, .int .u64 tb, .int .u64 tc, .int .u64 td] 37)) (hs : (⟨sa, sb, sc, sd⟩ : Ws).Ok) (ht : (⟨ta, tb, tc, td⟩ : Ws).Ok) : SetsAt W (some ⟨g, 0, none⟩) [⟨sa, sb, sc, sd⟩, ⟨ta, tb, tc, td⟩] := by
  refine ⟨by unfold maxLen; simp, fun s hs' => ?_, .inr ⟨g, 0, rfl, (Array.getElem?_eq_some_iff.1 h).1, fun i hi => ?_⟩⟩
  · simp at hs'
    rcases hs' with rfl | rfl
    · exact hs
    · exact ht
  · have hi2 : i < 2 := hi
    rcases (show i = 0 ∨ i = 1 by omega) with rfl | rfl
    · refine ⟨?_, ?_, ?_, ?_⟩ <;> (rw [Lib.cell_of_heap h]; rfl)
    · refine ⟨?_, ?_, ?_, ?_⟩ <;> (rw [Lib.cell_of_heap h]; rfl)
set_option maxHeartbeats 8000000 in
set_option maxRecDepth 100000 in
theorem alt1_any {B : Nat} {X : Nat → Prop} {o c : Nat} {done : List Ex} {e : Ex} {v0 : Value} {w : World} (hX : X o) (hXc : X c) (hoc : o ≠ c) (hXB : ∀ x, X x → B ≤ x) (hBw : B ≤ w.heap.size) (hlen : done.length < 1000000) (hI : AltI B X o c done w) (hre : ReAt (Lo B) w v0 e.rx) :
    Calls Tryz.prog 96 #[v0, .pointer (some ⟨c, 0, none⟩), .pointer (some ⟨o, 0, none⟩)] w (fun x w' => x = .returned (.tuple #[]) ∧ AltI B X o c (done ++ [e]) w' ∧ Below B w w') := by
  obtain ⟨ka, ⟨sa, sb, sc, sd⟩, ksa, hsa⟩ := rx_form e
  have hre0 := hre
  rw [hsa] at hre
  obtain ⟨_, hsok, al1, cap1, rfl, _, _, _⟩ := hre
  simp only at hre0 ⊢
  have hre := hre0
  clear hre0
  have k1a := kind_emp hsa
  have k3a := kind_cls hsa
  have HOK := Lib.hid (show ∀ b, Lo B b → ¬ X b from fun b h hb => by have := hXB b hb; have : b < B := h; omega)
  obtain ⟨hP, hV, hok⟩ := hI
  have hBo := hXB o hX
  have hBc := hXB c hXc
  have hpl : (bareL done).length < 1000000 := Nat.lt_of_le_of_lt (List.length_filter_le _ _) hlen
  have hcl : c < w.heap.size := hV.lt
  cases q1 : e.isEmp with
  | true =>
    rw [q1] at k1a
    have hset : setE (done ++ [e]) = setE done := by rw [isEmp_iff.1 q1, setE_append]; exact Ws.join_nil _
    have hfil : bareL (done ++ [e]) = bareL done := by simp [bareL, q1]
    have hb0 : Below w.heap.size w (w.alloc (.cells #[.int .u8 ka, .int .u64 sa, .int .u64 sb, .int .u64 sc, .int .u64 sd, .slice al1 ksa.length cap1] 39)) := (Below.refl _ w).alloc (Nat.le_refl _) _
    have H := Lib.hid (show AltI B X o c (done ++ [e]) (w.alloc (.cells #[.int .u8 ka, .int .u64 sa, .int .u64 sb, .int .u64 sc, .int .u64 sd, .slice al1 ksa.length cap1] 39)) ∧ Below B w (w.alloc (.cells #[.int .u8 ka, .int .u64 sa, .int .u64 sb, .int .u64 sc, .int .u64 sd, .slice al1 ksa.length cap1] 39)) from ⟨⟨by rw [hfil]; exact hP.below hb0, by rw [hset]; exact hV.below hb0 hcl, by rw [hset]; exact hok⟩, hb0.mono hBw⟩)
    clear hP hV hok hb0 hre hsa hset hfil
    go_enter Tryz.func96, Tryz.ntmps96
    go_wp2
    go_end0
    exact ⟨rfl, H.out.1, H.out.2⟩
  | false =>
  rw [q1] at k1a
  cases q2 : e.isCls with
  | true =>
    rw [q2] at k3a
    have hset : setE (done ++ [e]) = (setE done).join ⟨sa, sb, sc, sd⟩ := by
      cases e with
      | cls s =>
        simp only [Ex.rx] at hsa
        injection hsa with e1 e2 e3
        rw [setE_append, e2]
        exact congrArg _ (Ws.nil_join _)
      | empty => cases q2
      | eps => cases q2
      | seq a b => cases q2
      | alt a b => cases q2
      | star a => cases q2
    have hfil : bareL (done ++ [e]) = bareL done := by simp [bareL, q2]
    have hb0 : Below w.heap.size w (w.alloc (.cells #[.int .u8 ka, .int .u64 sa, .int .u64 sb, .int .u64 sc, .int .u64 sd, .slice al1 ksa.length cap1] 39)) := (Below.refl _ w).alloc (Nat.le_refl _) _
    obtain ⟨⟨ta, tb, tc, td⟩, ht⟩ : ∃ t, t = setE done := ⟨_, rfl⟩
    rw [← ht] at hset hok hV
    obtain ⟨W, hW⟩ : ∃ x, x = (w.alloc (.cells #[.int .u8 ka, .int .u64 sa, .int .u64 sb, .int .u64 sc, .int .u64 sd, .slice al1 ksa.length cap1] 39)).alloc (.cells #[.int .u64 ta, .int .u64 tb, .int .u64 tc, .int .u64 td, .int .u64 sa, .int .u64 sb, .int .u64 sc, .int .u64 sd] 37) := ⟨_, rfl⟩
    have hbW : Below w.heap.size w W := by rw [hW]; exact (hb0.alloc hb0.size _)
    have KJ := Lib.hid (join_any (some ⟨w.heap.size + 1, 0, none⟩) [⟨ta, tb, tc, td⟩, ⟨sa, sb, sc, sd⟩] 2 W (sets_two (by rw [hW]; exact blk_at _ _ (by simp)) hok hsok))
    simp only [List.foldl_cons, List.foldl_nil, Ws.nil_join] at KJ
    rw [show ([(⟨ta, tb, tc, td⟩ : Ws), ⟨sa, sb, sc, sd⟩] : List Ws).length = 2 from rfl, ← hset] at KJ
    have hjok : (setE (done ++ [e])).Ok := by rw [hset]; exact Ws.join_ok hok hsok
    have SE := Lib.hid (show ∀ w2 (a b c' d : Nat), Below W.heap.size W w2 → setE (done ++ [e]) = ⟨a, b, c', d⟩ → AltI B X o c (done ++ [e]) ((((w2.setCell ⟨c, 0, none⟩ (.int .u64 a)).setCell ⟨c, 1, none⟩ (.int .u64 b)).setCell ⟨c, 2, none⟩ (.int .u64 c')).setCell ⟨c, 3, none⟩ (.int .u64 d)) ∧ Below B w ((((w2.setCell ⟨c, 0, none⟩ (.int .u64 a)).setCell ⟨c, 1, none⟩ (.int .u64 b)).setCell ⟨c, 2, none⟩ (.int .u64 c')).setCell ⟨c, 3, none⟩ (.int .u64 d)) from fun w2 a b c' d hb2 hj => by
      have hb := hbW.trans (hb2.mono hbW.size)
      refine ⟨⟨?_, ?_, hjok⟩, ?_⟩
      · rw [hfil]
        exact (hP.below hb).other (by simp [World.setCell]) hXc hoc HOK.out fun b hb _ => by
          rw [Below.heap_setCell _ _ _ _ hb, Below.heap_setCell _ _ _ _ hb, Below.heap_setCell _ _ _ _ hb, Below.heap_setCell _ _ _ _ hb]
      · rw [hj]
        exact (hV.below hb hcl).put4 a b c' d
      · exact ((((hb.mono hBw).setCell (p := ⟨c, 0, none⟩) hBc _).setCell (p := ⟨c, 1, none⟩) hBc _).setCell (p := ⟨c, 2, none⟩) hBc _).setCell (p := ⟨c, 3, none⟩) hBc _)
    have HB := Lib.hid fun w2 (hb2 : Below W.heap.size W w2) => (hV.below (hbW.trans (hb2.mono hbW.size)) hcl).all
    obtain ⟨⟨vc0, vc1, vc2, vc3⟩, -⟩ := hV.all
    have HW := Lib.hid hW
    clear hP hV hok hb0 hre hsa hset hfil hbW hW hjok ht
    go_enter Tryz.func96, Tryz.ntmps96
    go_wp2_with fail
    rw [← HW.out]
    refine KJ.out.mono ?_
    rintro x w2 ⟨rfl, hb2⟩
    obtain ⟨⟨a, b, c', d⟩, hj⟩ : ∃ t, t = setE (done ++ [e]) := ⟨_, rfl⟩
    rw [← hj]
    have HS := Lib.hid (SE.out w2 a b c' d hb2 hj.symm)
    obtain ⟨⟨g0, g1, g2, g3⟩, f0, f1, f2, f3⟩ := HB.out w2 hb2
    clear hb2 hj vc0 vc1 vc2 vc3
    simp only [Ws.v]
    go_wp2
    go_end0
    exact ⟨rfl, HS.out.1, HS.out.2⟩
  | false =>
  rw [q2] at k3a
  have hset : setE (done ++ [e]) = setE done := by
    rw [setE_append, show setE [e] = Ws.nil from setE_none fun t ht => by simp at ht; rw [← ht] at q2; cases q2]
    exact Ws.join_nil _
  have hfil : bareL (done ++ [e]) = bareL done ++ [e] := by simp [bareL, q1, q2]
  have SE := Lib.hid (show ∀ x w', PushPost B X (Lo B) o (bareL done ++ [e]) w x w' → x = .returned (.tuple #[]) ∧ AltI B X o c (done ++ [e]) w' ∧ Below B w w' from fun x w' h => ⟨h.1, ⟨by rw [hfil]; exact h.2.1, by rw [hset]; exact (h.2.2.2 c hXc (Ne.symm hoc)).trans hV, by rw [hset]; exact hok⟩, h.2.2.1⟩)
  clear hset hfil hV hok hXc hoc hXB hBc hcl hlen hsa
  generalize bareL done = ps at *
  obtain ⟨v, xs, h1, hown, h3, h4⟩ := hP
  obtain ⟨al, vc, rfl⟩ : ∃ al c, v = .slice al ps.length c := own_form hown
  obtain ⟨i0, z0, hi0, hz0, hz1, hz2, hz3⟩ := infoR2
  have hz2' := Lib.hid hz2
  have HX : X o := hX
  have HOWN := Lib.hid hown
  have H3 := Lib.hid h3
  have H4 := Lib.hid h4
  have HRE := Lib.hid (show ReAt (fun b => Lo B b ∧ (Value.slice al ps.length vc).ownBlock ≠ some b) w (.agg #[.int .u8 ka, .int .u64 sa, .int .u64 sb, .int .u64 sc, .int .u64 sd, .slice al1 ksa.length cap1]) e.rx from hre.imp fun b _ h => ⟨h, fun hb => by have := (own_lt' hown b hb).1; have : b < B := h; omega⟩)
  have BX := Lib.hid (show (w.alloc (.cells #[.int .u8 ka, .int .u64 sa, .int .u64 sb, .int .u64 sc, .int .u64 sd, .slice al1 ksa.length cap1] 39)).heap[w.heap.size]? = some (.cells #[.int .u8 ka, .int .u64 sa, .int .u64 sb, .int .u64 sc, .int .u64 sd, .slice al1 ksa.length cap1] 39) ∧ Below w.heap.size w (w.alloc (.cells #[.int .u8 ka, .int .u64 sa, .int .u64 sb, .int .u64 sc, .int .u64 sd, .slice al1 ksa.length cap1] 39)) from ⟨blk_new w _, (Below.refl _ w).alloc (Nat.le_refl _) _⟩)
  have V0 := Lib.hid h1
  clear hz2 hX hown h3 h4 hre h1
  have q1s : ((ka : Int) == 1) = false := k1a
  have q3s : ((ka : Int) == 3) = false := k3a
  go_enter Tryz.func96, Tryz.ntmps96
  go_wp2_with fail
  obtain ⟨W, hW⟩ : ∃ x, x = w.alloc (.cells #[.int .u8 ka, .int .u64 sa, .int .u64 sb, .int .u64 sc, .int .u64 sd, .slice al1 ksa.length cap1] 39) := ⟨_, rfl⟩
  rw [← hW] at BX ⊢
  clear hW
  have WB := Lib.hid fun x (hx : Below W.heap.size W x) => BX.out.2.trans (hx.mono BX.out.2.size)
  have VO := Lib.hid fun x (hx : Below W.heap.size W x) => ((WB.out x hx).block o (H4.out o HX).1).trans V0.out
  have CB := Lib.hid fun x (hx : Below W.heap.size W x) => cellsR ((hx.block _ (Array.getElem?_eq_some_iff.1 BX.out.1).1).trans BX.out.1)
  refine wp_region_orderA 4 (fun i => ([SP.eq (.slice al ps.length vc), SP.eq (.agg #[.int .u8 ka, .int .u64 sa, .int .u64 sb, .int .u64 sc, .int .u64 sd, .slice al1 ksa.length cap1]), SP.eq (.int .i64 ps.length), SP.zero] : List SP).getD i SP.free) (fun _ => false) (fun _ _ _ h => by cases h) (by kernel_rfl) (by kernel_rfl) ⟨?_, ?_, ?_, ?_, trivial⟩ ?_
  · intro a x K out get hb hK
    rw [if_pos (wanted_none rfl)]
    have o2 : a.tmps[2]? = some (.pointer (some ⟨o, 0, none⟩)) := out 2 (by kernel_rfl)
    obtain ⟨c0, -⟩ := var_cell (VO.out x hb)
    clear out get
    go_simp
    exact hK _ _ rfl (Below.refl _ _) (fun h => by cases h)
  · intro a x K out get hb hK
    rw [if_pos (wanted_none rfl)]
    have o3 : a.tmps[3]? = some (.pointer (some ⟨w.heap.size, 0, none⟩)) := out 3 (by kernel_rfl)
    obtain ⟨c0, c1, c2, c3, c4, c5, -⟩ := CB.out x hb
    clear out get
    go_simp
    exact hK _ _ rfl (Below.refl _ _) (fun h => by cases h)
  · intro a x K out get hb hK
    rw [if_pos (wanted_none rfl)]
    obtain ⟨y6, hy6, rfl⟩ := get 0 _ _ rfl rfl (by kernel_rfl)
    clear out get
    go_simp
    exact hK _ _ rfl (Below.refl _ _) (fun h => by cases h)
  · intro a x K out get hb hK
    rw [if_pos (wanted_none rfl)]
    clear out get
    go_simp
    exact hK _ _ ⟨_, rfl, blk_new _ _⟩ (bel_al _ _) (fun h => by cases h)
  refine ao_finA (isD := fun s => decide (6 ≤ s) && decide (s ≤ 11)) (by kernel_rfl) ?_
  intro f x hv hne hb
  clear hne
  have e6 : f 6 = _ := hv 0 _ _ (by decide) rfl rfl
  have e8 : f 8 = _ := hv 2 _ _ (by decide) rfl rfl
  have e7 : f 7 = _ := hv 1 _ _ (by decide) rfl rfl
  have he := HRE.out.below (WB.out x hb)
  obtain ⟨gz, e9, hz⟩ := hv 3 _ _ (by decide) rfl rfl
  have hbx := WB.out x hb
  have hox := VO.out x hb
  have HE := Lib.hid he
  have hownx := ownR_below HOWN.out hbx
  have hBx := Nat.le_trans hBw hbx.size
  clear hv he
  generalize hF : (Act.mk (List.toArray (frm f _ 0 _)) _) = fr
  simp [frm] at hF
  rw [e6, e8, e7, e9] at hF
  subst hF
  generalize f 10 = u10 at *
  generalize f 11 = u11 at *
  clear e6 e8 e7 e9 f
  refine wp_end (n := 4) (by kernel_rfl) rfl rfl rfl rfl ?_
  refine step_append_lies _ rfl (.tmp 6) (.tmp 9) 27 rfl B 39 i0 z0 6 64 Tryz.underlying27 hi0 hz0 hz1 hz2'.out hz3 (by decide) (.slice al ps.length vc) ps.length xs rfl hownx ⟨gz, 0, none⟩ 1 1 [.int .u8 0, .int .u64 0, .int .u64 0, .int .u64 0, .int .u64 0, .slice none 0 0] rfl rfl (zero_at hz) zero6_one (by decide) (by unfold maxLen; omega) (by omega) hBx _ rfl ?_
  intro g' cap' w2 hown hgrow hat hlt
  obtain ⟨⟨n0, n1, n2, n3, n4, n5⟩, m0, m1, m2, m3, m4, m5⟩ := new6 HOWN.out.1 hown
  have hne : ¬ o = g' := fun e => by
    rcases hat with h | h
    · exact (H4.out o HX).2 (by rw [h, e])
    · have := (H4.out o HX).1; have := hbx.size; omega
  have hne' : ¬ g' = o := fun e => hne e.symm
  have hvo := (hgrow.block o (Nat.lt_of_lt_of_le (H4.out o HX).1 hbx.size) fun e => (H4.out o HX).2 e.symm).trans hox
  obtain ⟨v0c, v0f⟩ := var_cell hvo
  have hidx : (ps.length : Int) < (ps.length : Int) + 1 := by omega
  have HOW := Lib.hid hown
  have HGR := Lib.hid hgrow
  have HAT := Lib.hid hat
  have HBX := Lib.hid hbx
  have HVO := Lib.hid hvo
  clear hown hgrow hat hbx hvo hox hz hownx hBx hb
  refine ⟨?_, ?_⟩
  · rw [if_pos (wanted_none rfl)]
    go_simp
    refine ⟨?_, ?_⟩
    · go_wp2
      go_end0
      with_reducible exact SE.out _ _ (push_closeA HX HOK.out hBo hBw HOWN.out H3.out H4.out HBX.out HE.out HOW.out HGR.out HAT.out HVO.out hne)
    · go_wp2
      go_end0
      with_reducible exact SE.out _ _ (push_closeB HX HOK.out hBo hBw HOWN.out H3.out H4.out HBX.out HE.out HOW.out HGR.out HAT.out HVO.out hne)
  · go_wp2
    go_end0
    with_reducible exact SE.out _ _ (push_closeB HX HOK.out hBo hBw HOWN.out H3.out H4.out HBX.out HE.out HOW.out HGR.out HAT.out HVO.out hne)
open Go.RowKit
theorem ret_new {fn : Func} {a : Act} {w W : World} {k g m : Nat} {r : Rx} {y0 y1 y2 y3 y4 y5 : Value} (hz : W.heap[g]? = some zR) (h : ReAt (New m) W (.agg #[y0, y1, y2, y3, y4, y5]) r) (hm : g < m) (hb : Below w.heap.size w W) (hg : w.heap.size ≤ g)
    (hres : fn.results = #[.cell k 39]) (hslot : a.tmps.getD k undef = .pointer (some ⟨g, 0, none⟩)) (hd : a.defers = []) : bodyPost Tryz.prog fn (NewPost r w) .ret a (putW W g y0 y1 y2 y3 y4 y5) :=
  ret_re (putR hz _ _ _ _ _ _) hres hslot hd ⟨_, rfl, h.go ⟨by rw [putW_size]; exact Nat.le_refl _, fun b _ h => by
    unfold New at h ⊢
    exact ⟨by omega, putW_other _ _ _ _ _ _ _ _ (by omega)⟩⟩, putB hb hg _ _ _ _ _ _⟩
theorem filter_keep {p : List Ex} (h : p.any Ex.isEmp = false) : p.filter seqKeep = p.filter fun x => !x.isEps := by
  refine List.filter_congr fun x hx => ?_
  have h1 := List.any_eq_false.1 h x hx
  have h2 : x.isEmp = false := by simpa using h1
  simp [seqKeep, h2]
theorem three_new (w : World) (X Y Z : Obj) : (((w.alloc X).alloc Y).alloc Z).heap[w.heap.size]? = some X ∧ (((w.alloc X).alloc Y).alloc Z).heap[w.heap.size + 1]? = some Y ∧ (((w.alloc X).alloc Y).alloc Z).heap[w.heap.size + 2]? = some Z ∧ (((w.alloc X).alloc Y).alloc Z).heap.size = w.heap.size + 3 :=
  ⟨(Below.heap_alloc _ _ _ (by simp; omega)).trans ((Below.heap_alloc _ _ _ (by simp)).trans (blk_new w _)), (Below.heap_alloc _ _ _ (by simp)).trans (blk_at _ _ (by simp)), blk_at _ _ (by simp), by simp⟩
set_option maxRecDepth 100000 in
set_option maxHeartbeats 8000000 in
theorem nmSeq_any (ok : Nat → Prop) (l : List Ex) (al : Option Addr) (cap : Nat) (w : World) (hlen : l.length < 2199023255552) (hM : (partL 4 l).length ≤ 1000000) (hR : RowAt ok w al (l.map Ex.rx)) :
    Calls Tryz.prog 59 #[.slice al l.length cap] w (NewPost (seqP (partL 4 l)).rx w) := by
  obtain ⟨W1, hW1⟩ : ∃ x, x = ((w.alloc zR).alloc (.cells #[.slice none 0 0] 27)).alloc (.cells #[.bool false] 4) := ⟨_, rfl⟩
  have hb1 : Below w.heap.size w W1 := by rw [hW1]; exact al3 w _ _ _
  obtain ⟨hz, ho, hc, hsz⟩ := three_new w zR (.cells #[.slice none 0 0] 27) (.cells #[.bool false] 4)
  rw [← hW1] at hz ho hc hsz
  have hB : w.heap.size + 1 ≤ W1.heap.size := by omega
  have hR1 : RowAt (Lo (w.heap.size + 1)) W1 al (l.map Ex.rx) := (hR.imp (ok' := Lo (w.heap.size + 1)) fun b hb _ => Nat.lt_succ_of_lt hb).below hb1
  obtain ⟨X, hX⟩ : ∃ X : Nat → Prop, X = fun b => b = w.heap.size + 1 ∨ b = w.heap.size + 2 := ⟨_, rfl⟩
  have hXB : ∀ x, X x → w.heap.size + 1 ≤ x := fun x h => by rw [hX] at h; rcases h with rfl | rfl <;> omega
  have hXo : X (w.heap.size + 1) := by rw [hX]; exact .inl rfl
  have hXc : X (w.heap.size + 2) := by rw [hX]; exact .inr rfl
  have hXl : ∀ x, X x → x < W1.heap.size := fun x h => by rw [hX] at h; rcases h with rfl | rfl <;> omega
  have hT : Tell 1000000 (w.heap.size + 1) W1 93 #[.pointer (some ⟨w.heap.size + 2, 0, none⟩), .pointer (some ⟨w.heap.size + 1, 0, none⟩)] (SeqI (w.heap.size + 1) X (w.heap.size + 1) (w.heap.size + 2)) (fun _ => True) := by
    refine ⟨fun v W => rfl, fun done W W' h hb => ⟨h.1.below hb, (hb.block _ (Array.getElem?_eq_some_iff.1 h.2).1).trans h.2⟩, fun done e v W hd hI hB' _ hre => ?_⟩
    exact seq1_any hXo hXc (by omega) hXB (Nat.le_trans hB hB'.size) hd hI hre
  have K0 := each_any (k := 4) (.inl rfl) hB hT (Ex.sum l) l al cap [] W1 (Nat.le_refl _) hlen hR1 (fun _ _ => trivial) (by simpa using hM) ⟨PV.start ho hXl, hc⟩ (Below.refl _ _)
  simp only [List.nil_append] at K0
  have hsp : seqP (partL 4 l) = if (partL 4 l).any Ex.isEmp = true then .empty else foldS ((partL 4 l).filter fun x => !x.isEps) := rfl
  rw [hsp]
  clear hsp
  generalize partL 4 l = p at *
  generalize hres : (if p.any Ex.isEmp = true then Ex.empty else foldS (p.filter fun x => !x.isEps)) = res
  have HRES := Lib.hid hres
  have K := Lib.hid K0
  rw [show (((4 : Nat) : Int)) = 4 from rfl] at K
  have HB1 := Lib.hid hb1
  have HW1 := Lib.hid hW1
  have HZ := Lib.hid fun w2 (h : Below (w.heap.size + 1) W1 w2) => (h.block _ (Nat.lt_succ_self _)).trans hz
  have KO := Lib.hid fun W => or_any (ok := fun _ => True) [] none 0 W (by decide) (.inl rfl)
  rw [show foldR 5 1 [] = Ex.empty.rx from rfl, show ([] : List Rx).length = 0 from rfl] at KO
  have hsz2 : w.heap.size < W1.heap.size := by omega
  clear hR hR1 hT hb1 ho hc hz hX hXB hXo hXc hXl hsz hB K0 hres
  go_enter Tryz.func59, Tryz.ntmps59
  go_wp2_with fail
  rw [← HW1.out]
  refine K.out.mono ?_
  rintro x w2 ⟨rfl, hI, hb2⟩
  obtain ⟨hP, hV⟩ := hI
  obtain ⟨al2, cap2, hv, hcp, hr⟩ := hP.out
  obtain ⟨c0, -⟩ := var_cell hv
  obtain ⟨c1, -⟩ := var_cellT hV
  have hz2 := HZ.out w2 hb2
  have HZ2 := Lib.hid hz2
  have HB2 := Lib.hid (HB1.out.trans (hb2.mono (Nat.le_succ _)))
  have hs2 : w.heap.size < w2.heap.size := Nat.lt_of_lt_of_le hsz2 hb2.size
  have HR := Lib.hid hr
  have hpl : (p.filter seqKeep).length < 2199023255552 := Nat.lt_of_le_of_lt (List.length_filter_le _ _) (by omega)
  clear hP hV hv hcp hr hb2 K HW1 hz2
  cases hq : p.any Ex.isEmp with
  | true =>
    rw [hq] at c1
    have hr' : res = .empty := by rw [← HRES.out, if_pos hq]
    have HR' := Lib.hid hr'
    clear hr'
    go_wp2_with fail
    refine (KO.out _).mono ?_
    rintro x w3 ⟨v1, rfl, hv1, hb3⟩
    obtain ⟨p0, p1, p2, p3, p4, pl, pn, pc, rfl⟩ := cells_re hv1
    have hz3 := (hb3.block _ hs2).trans HZ2.out
    have HV := Lib.hid hv1
    have HB3 := Lib.hid (HB2.out.trans (hb3.mono HB2.out.size))
    have HZ3 := Lib.hid hz3
    obtain ⟨d0, d1, d2, d3, d4, d5, f0, f1, f2, f3, f4, f5⟩ := cellsR hz3
    clear hv1 hb3 hz3 c0 c1
    go_wp2
    rw [HR'.out]
    exact ret_new HZ3.out HV.out hs2 HB3.out (Nat.le_refl _) Tryz.results59 rfl rfl
  | false =>
    rw [hq] at c1
    have hr' : res = foldS (p.filter seqKeep) := by rw [← HRES.out, if_neg (by rw [hq]; decide), filter_keep hq]
    have HR' := Lib.hid hr'
    clear hr'
    have KT := Lib.hid fun W (hb : Below w2.heap.size w2 W) => then_any ((p.filter seqKeep).map Ex.rx) al2 cap2 W (by rw [List.length_map]; exact hpl) (HR.out.below hb)
    rw [← foldS_rx, List.length_map] at KT
    go_wp2_with fail
    refine (KT.out _ (Below.refl _ _)).mono ?_
    rintro x w3 ⟨v1, rfl, hv1, hb3⟩
    obtain ⟨p0, p1, p2, p3, p4, pl, pn, pc, rfl⟩ := cells_re hv1
    have hz3 := (hb3.block _ hs2).trans HZ2.out
    have HV := Lib.hid hv1
    have HB3 := Lib.hid (HB2.out.trans (hb3.mono HB2.out.size))
    have HZ3 := Lib.hid hz3
    obtain ⟨d0, d1, d2, d3, d4, d5, f0, f1, f2, f3, f4, f5⟩ := cellsR hz3
    clear hv1 hb3 hz3 c0 c1 KT
    go_wp2
    rw [HR'.out]
    exact ret_new HZ3.out HV.out hs2 HB3.out (Nat.le_refl _) Tryz.results59 rfl rfl
open Go.RowKit
theorem RowVals.unsnoc {ok : Nat → Prop} {w : World} {xs : List Value} {l : List Rx} {r : Rx} (h : RowVals ok w xs (l ++ [r])) : ∃ ys c0 c1 c2 c3 c4 c5, xs = ys ++ [c0, c1, c2, c3, c4, c5] ∧ RowVals ok w ys l ∧ ReAt ok w (.agg #[c0, c1, c2, c3, c4, c5]) r := by
  obtain ⟨hl, h⟩ := h
  simp only [List.length_append, List.length_cons, List.length_nil, Nat.zero_add] at hl
  obtain ⟨c0, c1, c2, c3, c4, c5, ⟨e0, e1, e2, e3, e4, e5⟩, hr⟩ := h l.length (by simp)
  rw [List.getElem_append_right (Nat.le_refl _)] at hr
  simp only [Nat.sub_self, List.getElem_cons_zero] at hr
  refine ⟨xs.take (l.length * 6), c0, c1, c2, c3, c4, c5, ?_, ⟨by rw [List.length_take]; omega, fun i hi => ?_⟩, hr⟩
  · apply List.ext_getElem?
    intro j
    by_cases hj : j < l.length * 6
    · rw [List.getElem?_append_left (by rw [List.length_take]; omega), List.getElem?_take, if_pos hj]
    · rw [List.getElem?_append_right (by rw [List.length_take]; omega), List.length_take, Nat.min_eq_left (by omega)]
      rcases Nat.lt_or_ge j (l.length * 6 + 6) with h6 | h6
      · obtain ⟨d, rfl⟩ : ∃ d, j = l.length * 6 + d := ⟨j - l.length * 6, by omega⟩
        have hd : d < 6 := by omega
        rw [show l.length * 6 + d - l.length * 6 = d from by omega]
        match d, hd with
        | 0, _ => exact e0
        | 1, _ => exact e1
        | 2, _ => exact e2
        | 3, _ => exact e3
        | 4, _ => exact e4
        | 5, _ => exact e5
      · rw [List.getElem?_eq_none (by omega), List.getElem?_eq_none (by simp; omega)]
  · obtain ⟨d0, d1, d2, d3, d4, d5, ⟨f0, f1, f2, f3, f4, f5⟩, hr'⟩ := h i (by simp; omega)
    rw [List.getElem_append_left hi] at hr'
    refine ⟨d0, d1, d2, d3, d4, d5, ⟨?_, ?_, ?_, ?_, ?_, ?_⟩, hr'⟩ <;> (rw [List.getElem?_take, if_pos (by omega)]; assumption)
theorem StC.starred {B D : Nat} {col : Nat → Nat} {w w3 : World} {s : ByteArray} {k G cap g' cap' : Nat} {vlow : List (Value × Value)} {vr : Value} {low : List Lv} {rows ps : List Ex} {p : Ex} (hS : StC B D col w s k G cap vlow vr (.slice (some ⟨g', 0, none⟩) (ps.length + 1) cap') low ⟨rows, ps ++ [p]⟩) {ys : List Value} {x0 x1 x2 x3 x4 x5 : Value} (hcol : col g' = 4 + 2 * low.length)
    (hvals : RowVals (Tree B col) w ys (ps.map Ex.rx)) (hs : w.heap.size ≤ w3.heap.size) (h3 : ∀ b, b < w.heap.size → b ≠ g' → w3.heap[b]? = w.heap[b]?) (how : w3.ownsRow B 39 6 (.slice (some ⟨g', 0, none⟩) (ps.length + 1) cap') (ps.length + 1) (ys ++ [x0, x1, x2, x3, x4, x5])) (hre : ReAt (Tree B col) w3 (.agg #[x0, x1, x2, x3, x4, x5]) (Ex.star p).rx) :
    StC B D col w3 s k G cap vlow vr (.slice (some ⟨g', 0, none⟩) (ps.length + 1) cap') low ⟨rows, ps ++ [.star p]⟩ := by
  have hf : Frm (fun x => x = 4 + 2 * low.length) col col w w3 := ⟨hs, fun b hb => ⟨rfl, fun hc => h3 b hb (fun e => hc (by rw [e]; exact hcol))⟩⟩
  obtain ⟨z1, z2, z3, z4, z5, z6⟩ := hS.sizes
  refine ⟨hS.rd.of ((hf.2 D z2).2 (by rw [hS.cD]; omega)), hS.ge, hS.cD, own_levels hS.own ((hf.2 G z3).2 (by rw [hS.cG]; omega)), hS.cG, hS.lo.frame hf (by omega), ⟨hS.tp.1.frame hf (by omega) (by omega), ?_⟩, fun b hb => hS.new b (Nat.le_trans hs hb)⟩
  refine ⟨ys ++ [x0, x1, x2, x3, x4, x5], by simpa using how, ?_, fun g hg => ?_⟩
  · rw [List.map_append]
    exact (hvals.go (hf.kept (by omega))).append (RowVals.one hre)
  · simp [Value.ownBlock] at hg
    subst hg
    exact hcol
theorem StC.last {B D : Nat} {col : Nat → Nat} {w : World} {s : ByteArray} {k G cap : Nat} {vlow : List (Value × Value)} {vr vp : Value} {low : List Lv} {rows ps : List Ex} {p : Ex} (hS : StC B D col w s k G cap vlow vr vp low ⟨rows, ps ++ [p]⟩) : ∃ g' cap' ys y0 y1 y2 y3 y4 yl yn yc, vp = .slice (some ⟨g', 0, none⟩) (ps.length + 1) cap' ∧ B ≤ g' ∧ g' < w.heap.size ∧ col g' = 4 + 2 * low.length ∧ ys.length = ps.length * 6 ∧
    w.ownsRow B 39 6 (.slice (some ⟨g', 0, none⟩) (ps.length + 1) cap') (ps.length + 1) (ys ++ [.int .u8 y0, .int .u64 y1, .int .u64 y2, .int .u64 y3, .int .u64 y4, .slice yl yn yc]) ∧ RowVals (Tree B col) w ys (ps.map Ex.rx) ∧ ReAt (Tree B col) w (.agg #[.int .u8 y0, .int .u64 y1, .int .u64 y2, .int .u64 y3, .int .u64 y4, .slice yl yn yc]) p.rx := by
  obtain ⟨xs, h1, h2, h3⟩ := hS.tp.2
  simp only [List.length_append, List.length_cons, List.length_nil, Nat.zero_add] at h1
  rw [List.map_append] at h2
  obtain ⟨ys, c0, c1, c2, c3, c4, c5, rfl, hv, hr⟩ := h2.unsnoc
  obtain ⟨y0, y1, y2, y3, y4, yl, yn, yc, e⟩ := cells_re hr
  simp at e
  obtain ⟨rfl, rfl, rfl, rfl, rfl, rfl⟩ := e
  obtain ⟨g', cap', rfl, hB, hlt⟩ := h1.form (by omega)
  exact ⟨g', cap', ys, y0, y1, y2, y3, y4, yl, yn, yc, rfl, hB, hlt, h3 g' rfl, by have := hv.1; simpa using this, h1, hv, hr⟩
theorem but_frm {D : Nat} {col : Nat → Nat} {w w' : World} (hD : col D = 1) (hb : But D w.heap.size w w') : Frm Wk col col w w' :=
  ⟨hb.size, fun b hbb => ⟨rfl, fun hc => hb.block b hbb (fun e => hc (by rw [e, hD]; exact wk_of (by omega) (by omega)))⟩⟩
theorem star_world {B D : Nat} {col : Nat → Nat} {w : World} {s : ByteArray} {k G cap g' cap' : Nat} {vlow : List (Value × Value)} {vr : Value} {low : List Lv} {rows ps : List Ex} {p : Ex} (hS : StC B D col w s k G cap vlow vr (.slice (some ⟨g', 0, none⟩) (ps.length + 1) cap') low ⟨rows, ps ++ [p]⟩) {ys : List Value} {y0 y1 y2 y3 y4 y5 : Value} (hcol : col g' = 4 + 2 * low.length) (hlen : ys.length = ps.length * 6) (hBg : B ≤ g')
    (how : w.ownsRow B 39 6 (.slice (some ⟨g', 0, none⟩) (ps.length + 1) cap') (ps.length + 1) (ys ++ [y0, y1, y2, y3, y4, y5])) (hvals : RowVals (Tree B col) w ys (ps.map Ex.rx)) (hre : ReAt (Tree B col) w (.agg #[y0, y1, y2, y3, y4, y5]) p.rx) (hn : low.length < 1000000) :
    Frm Wk col col w ((put6 w g' (ps.length * 6) (.int .u8 6) (.int .u64 0) (.int .u64 0) (.int .u64 0) (.int .u64 0) (.slice (some ⟨w.heap.size, 0, none⟩) 1 1)).alloc (.cells #[y0, y1, y2, y3, y4, y5] 39)) ∧ Below B w ((put6 w g' (ps.length * 6) (.int .u8 6) (.int .u64 0) (.int .u64 0) (.int .u64 0) (.int .u64 0) (.slice (some ⟨w.heap.size, 0, none⟩) 1 1)).alloc (.cells #[y0, y1, y2, y3, y4, y5] 39)) ∧
    StC B D col ((put6 w g' (ps.length * 6) (.int .u8 6) (.int .u64 0) (.int .u64 0) (.int .u64 0) (.int .u64 0) (.slice (some ⟨w.heap.size, 0, none⟩) 1 1)).alloc (.cells #[y0, y1, y2, y3, y4, y5] 39)) s k G cap vlow vr (.slice (some ⟨g', 0, none⟩) (ps.length + 1) cap') low ⟨rows, ps ++ [.star p]⟩ := by
  obtain ⟨z1, z2, z3, z4, z5, z6⟩ := hS.sizes
  have hg : g' < w.heap.size := (own_lt how).2.1
  have hsz := put6_size w g' (ps.length * 6) (.int .u8 6) (.int .u64 0) (.int .u64 0) (.int .u64 0) (.int .u64 0) (.slice (some ⟨w.heap.size, 0, none⟩) 1 1)
  have h3 : ∀ b, b < w.heap.size → b ≠ g' → ((put6 w g' (ps.length * 6) (.int .u8 6) (.int .u64 0) (.int .u64 0) (.int .u64 0) (.int .u64 0) (.slice (some ⟨w.heap.size, 0, none⟩) 1 1)).alloc (.cells #[y0, y1, y2, y3, y4, y5] 39)).heap[b]? = w.heap[b]? := fun b h1 h2 =>
    (Below.heap_alloc _ _ _ (by rw [hsz]; exact h1)).trans (put6_other _ _ _ _ _ _ _ _ _ h2)
  have hs : w.heap.size ≤ ((put6 w g' (ps.length * 6) (.int .u8 6) (.int .u64 0) (.int .u64 0) (.int .u64 0) (.int .u64 0) (.slice (some ⟨w.heap.size, 0, none⟩) 1 1)).alloc (.cells #[y0, y1, y2, y3, y4, y5] 39)).heap.size := by rw [World.size_alloc, hsz]; omega
  have hkept : Kept (Tree B col) (Tree B col) w ((put6 w g' (ps.length * 6) (.int .u8 6) (.int .u64 0) (.int .u64 0) (.int .u64 0) (.int .u64 0) (.slice (some ⟨w.heap.size, 0, none⟩) 1 1)).alloc (.cells #[y0, y1, y2, y3, y4, y5] 39)) := ⟨hs, fun b h1 h2 => ⟨h2, h3 b h1 (fun e => by have := h2.2; rw [e, hcol] at this; omega)⟩⟩
  refine ⟨⟨hs, fun b hb => ⟨rfl, fun hc => h3 b hb (fun e => hc (by rw [e, hcol]; exact wk_of (by omega) (by omega)))⟩⟩, (put6_below (Below.refl B w) hBg _ _ _ _ _ _ _).alloc (by rw [hsz]; exact z1) _, hS.starred hcol hvals hs h3 (own_row (own_put6 hlen how _ _ _ _ _ _) (Below.heap_alloc _ _ _ (by rw [hsz]; exact hg))) ?_⟩
  exact ⟨by decide, Ws.nil_ok, _, _, rfl, Nat.le_refl _, by simp, row_one (blk_at _ _ hsz.symm) ⟨z1, hS.new _ (Nat.le_refl _)⟩ (hre.go hkept)⟩
set_option maxHeartbeats 4000000 in
theorem star_yes {B D : Nat} {col : Nat → Nat} {w : World} {s : ByteArray} {k G cap : Nat} {vlow : List (Value × Value)} {vr vp : Value} {low : List Lv} {rows ps : List Ex} {p : Ex} (hS : StC B D col w s k G cap vlow vr vp low ⟨rows, ps ++ [p]⟩) (hn : low.length < 1000000) (hp : ps.length < 1000000) (hk : k < 1000000000) :
    Calls Tryz.prog 79 #[.pointer (some ⟨D, 0, none⟩)] w (StepPost B D col w s (k + 1) low ⟨rows, ps ++ [.star p]⟩) := by
  have KT := Lib.hid (top_any hS.rd (by omega))
  have HS := Lib.hid hS
  have KM := Lib.hid must_yes
  have hBw := hS.sizes.1
  have wk : IntKind.i64.wrap ((k : Int) + 1) = (k : Int) + 1 := by rw [IntKind.wrap_i64]; omega
  clear hS
  go_enter Tryz.func79, Tryz.ntmps79
  go_wp2_with fail
  refine KT.out.mono ?_
  rintro e w1 ⟨rfl, hb1⟩
  have hS1 := HS.out.below hb1
  obtain ⟨l0, l1, lf⟩ := hS1.cells
  obtain ⟨g', cap', ys, y0, y1, y2, y3, y4, yl, yn, yc, rfl, hBg, hgl, hcol, hlen, how, hvals, hre⟩ := hS1.last
  obtain ⟨⟨n0, n1, n2, n3, n4, n5⟩, m0, m1, m2, m3, m4, m5⟩ := new6 hlen how
  obtain ⟨hfs, hbs, hS2⟩ := star_world hS1 hcol hlen hBg how hvals hre hn
  have hr2 := hS2.rd
  obtain ⟨c0, c1, c2⟩ := hS1.rd.cells
  obtain ⟨f0, f1, f2⟩ := hS1.rd.frozen
  have hDl := hS1.rd.lt
  have hDg : ¬ D = g' := fun e => by have := hS1.cD; rw [e, hcol] at this; omega
  have hDg' : ¬ g' = D := fun e => hDg e.symm
  have hS3 := hS2.but ((But.refl D _ _).set 1 (.int .i64 ((k : Int) + 1))) (hr2.go (k + 1))
  have hb3 := ((hb1.mono hBw).trans hbs).setCell (p := ⟨D, 1, none⟩) HS.out.ge (.int .i64 ((k : Int) + 1))
  have hf3 := (Frm.pre hb1 hfs).trans (but_frm hS1.cD ((But.refl D _ _).set 1 (.int .i64 ((k : Int) + 1))))
  have HS3 := Lib.hid hS3
  have HB3 := Lib.hid hb3
  have HF3 := Lib.hid hf3
  rw [World.setCell_alloc_past (hn := by rw [put6_size]; exact hDl)] at HS3 HB3 HF3
  unfold put6 at HS3 HB3 HF3
  have q0 : decide ((0 : Int) < (ps.length : Int) + 1) = true := decide_eq_true (by omega)
  have q1 : ((ps.length : Int) + 1) - 1 = (ps.length : Int) := by omega
  have q2 : (ps.length : Int) < (ps.length : Int) + 1 := by omega
  clear hS1 how hvals hre hbs hS2 hr2 hS3 hb3 hb1 lf hf3 hfs
  go_wp2_with fail
  refine (KM.out _ _).mono ?_
  rintro e w2 ⟨rfl, rfl⟩
  go_wp2
  go_end0
  exact ⟨rfl, HB3.out, _, _, _, _, _, _, HF3.out, HS3.out⟩
theorem star_no {B D : Nat} {col : Nat → Nat} {w : World} {s : ByteArray} {k G cap : Nat} {vlow : List (Value × Value)} {vr vp : Value} {low : List Lv} {rows : List Ex} (hS : StC B D col w s k G cap vlow vr vp low ⟨rows, []⟩) (hn : low.length < 1000000) :
    Calls Tryz.prog 79 #[.pointer (some ⟨D, 0, none⟩)] w (ThrPost B k w) := by
  have KT := Lib.hid (top_any hS.rd (by omega))
  have HS := Lib.hid hS
  have hBw := hS.sizes.1
  obtain ⟨al, vc, rfl⟩ : ∃ al c, vp = .slice al 0 c := by
    obtain ⟨_, h, _⟩ := hS.tp.2
    exact own_form h
  clear hS
  go_enter Tryz.func79, Tryz.ntmps79
  go_wp2_with fail
  refine KT.out.mono ?_
  rintro e w1 ⟨rfl, hb1⟩
  have hS1 := HS.out.below hb1
  obtain ⟨l0, l1, lf⟩ := hS1.cells
  have KM := Lib.hid (must_no hS1.rd)
  clear hS1 lf
  go_wp2_with fail
  refine KM.out.mono ?_
  rintro e w2 ⟨rfl, rfl⟩
  exact ⟨rfl, rfl, hb1.mono hBw⟩
open Go.RowKit
theorem StC.rowed {B D : Nat} {col : Nat → Nat} {w w2 w3 : World} {s : ByteArray} {k G cap : Nat} {vlow : List (Value × Value)} {vr vp : Value} {low : List Lv} {top : Lv} (hS : StC B D col w s k G cap vlow vr vp low top) {a : Ex} {xs : List Value} {x0 x1 x2 x3 x4 x5 : Value} {g' cap' : Nat} (hvals : RowVals (Tree B col) w xs (top.rows.map Ex.rx)) (hcol : ∀ g, vr.ownBlock = some g → col g = 3 + 2 * low.length) (hre : ReAt (Tree B col) w (.agg #[x0, x1, x2, x3, x4, x5]) a.rx)
    (hgrow : w.grownBy w2 vr.ownBlock) (hat : vr.ownBlock = some g' ∨ g' = w.heap.size) (hs : w2.heap.size ≤ w3.heap.size) (h3 : ∀ b, b ≠ g' → b ≠ G → w3.heap[b]? = w2.heap[b]?)
    (howR : w3.ownsRow B 39 6 (.slice (some ⟨g', 0, none⟩) (top.rows.length + 1) cap') (top.rows.length + 1) (xs ++ [x0, x1, x2, x3, x4, x5])) (howL : w3.ownsRow B 108 2 (.slice (some ⟨G, 0, none⟩) (low.length + 1) cap) (low.length + 1) (flat vlow ++ [.slice (some ⟨g', 0, none⟩) (top.rows.length + 1) cap', .slice none 0 0])) :
    StC B D (upd col g' (3 + 2 * low.length)) w3 s k G cap vlow (.slice (some ⟨g', 0, none⟩) (top.rows.length + 1) cap') (.slice none 0 0) low ⟨top.rows ++ [a], []⟩ := by
  have hf := grown_frame (Below.refl _ w) hgrow hat hcol hs h3 hS.cG
  obtain ⟨z1, z2, z3, z4, z5, z6⟩ := hS.sizes
  refine ⟨hS.rd.of ((hf.2 D z2).2 (by rw [hS.cD]; omega)), hS.ge, by rw [(hf.2 D z2).1]; exact hS.cD, howL, by rw [(hf.2 G z3).1]; exact hS.cG, hS.lo.frame hf (by omega), ⟨?_, RwC.nil _ _ _ _⟩, fun b hb => ?_⟩
  · exact RwC.pushed (by omega) hvals hre hf howR
  · have h1 := (own_lt howR).2.1
    rw [upd_far _ (by omega)]
    exact hS.new b (Nat.le_trans hf.1 hb)
theorem row_closeA {B D : Nat} {col : Nat → Nat} {w wA w2 : World} {s : ByteArray} {k G cap : Nat} {vlow : List (Value × Value)} {vr vp : Value} {low : List Lv} {top : Lv} (hS : StC B D col wA s k G cap vlow vr vp low top) {a : Ex} {xs : List Value} {x0 x1 x2 x3 x4 x5 z0 z1 z2 z3 z4 z5 : Value} {g' cap' : Nat} (hvals : RowVals (Tree B col) wA xs (top.rows.map Ex.rx)) (hcol : ∀ g, vr.ownBlock = some g → col g = 3 + 2 * low.length) (hre : ReAt (Tree B col) wA (.agg #[x0, x1, x2, x3, x4, x5]) a.rx)
    (hbw : Below B w wA) (how : w2.ownsRow B 39 6 (.slice (some ⟨g', 0, none⟩) (top.rows.length + 1) cap') (top.rows.length + 1) (xs ++ [z0, z1, z2, z3, z4, z5])) (hgrow : wA.grownBy w2 vr.ownBlock) (hat : vr.ownBlock = some g' ∨ g' = wA.heap.size) (hlen : xs.length = top.rows.length * 6) (hf0 : Frm Wk col col w wA) (hn : low.length < 1000000) :
    StepPost B D col w s k low ⟨top.rows ++ [a], []⟩ (.returned (.tuple #[])) ((((((((w2.setCell ⟨g', top.rows.length * 6, none⟩ x0).setCell ⟨g', top.rows.length * 6 + 1, none⟩ x1).setCell ⟨g', top.rows.length * 6 + 2, none⟩ x2).setCell ⟨g', top.rows.length * 6 + 3, none⟩ x3).setCell ⟨g', top.rows.length * 6 + 4, none⟩ x4).setCell ⟨g', top.rows.length * 6 + 5, none⟩ x5).setCell ⟨G, low.length * 2, none⟩ (.slice (some ⟨g', 0, none⟩) (top.rows.length + 1) cap')).setCell ⟨G, low.length * 2 + 1, none⟩ (.slice none 0 0)) := by
  show StepPost B D col w s k low ⟨top.rows ++ [a], []⟩ (.returned (.tuple #[])) (((put6 w2 g' (top.rows.length * 6) x0 x1 x2 x3 x4 x5).setCell ⟨G, low.length * 2, none⟩ (.slice (some ⟨g', 0, none⟩) (top.rows.length + 1) cap')).setCell ⟨G, low.length * 2 + 1, none⟩ (.slice none 0 0))
  obtain ⟨s1, s2, s3, s4, s5, s6⟩ := hS.sizes
  obtain ⟨f1, f2, f3⟩ := grown_far (Below.refl _ wA) hgrow hat hcol s3 (by rw [hS.cG]; omega)
  have hBg := (own_lt how).1
  have hput := own_put6 hlen how x0 x1 x2 x3 x4 x5
  have hL := own_set (own_set (own_levels hS.own ((put6_other w2 g' (top.rows.length * 6) x0 x1 x2 x3 x4 x5 f2).trans f1)) (low.length * 2) (.slice (some ⟨g', 0, none⟩) (top.rows.length + 1) cap')) (low.length * 2 + 1) (.slice none 0 0)
  rw [set_rows s6, set_parts s6] at hL
  have hR := own_row (w' := ((put6 w2 g' (top.rows.length * 6) x0 x1 x2 x3 x4 x5).setCell ⟨G, low.length * 2, none⟩ (.slice (some ⟨g', 0, none⟩) (top.rows.length + 1) cap')).setCell ⟨G, low.length * 2 + 1, none⟩ (.slice none 0 0)) hput ((Below.heap_setCell _ _ _ _ f3).trans (Below.heap_setCell _ _ _ _ f3))
  have hsz3 : w2.heap.size ≤ (((put6 w2 g' (top.rows.length * 6) x0 x1 x2 x3 x4 x5).setCell ⟨G, low.length * 2, none⟩ (.slice (some ⟨g', 0, none⟩) (top.rows.length + 1) cap')).setCell ⟨G, low.length * 2 + 1, none⟩ (.slice none 0 0)).heap.size := by simp [World.setCell, put6_size]
  have hfar : ∀ b, b ≠ g' → b ≠ G → (((put6 w2 g' (top.rows.length * 6) x0 x1 x2 x3 x4 x5).setCell ⟨G, low.length * 2, none⟩ (.slice (some ⟨g', 0, none⟩) (top.rows.length + 1) cap')).setCell ⟨G, low.length * 2 + 1, none⟩ (.slice none 0 0)).heap[b]? = w2.heap[b]? := fun b h1 h2 => by rw [Below.heap_setCell _ _ _ _ h2, Below.heap_setCell _ _ _ _ h2, put6_other _ _ _ _ _ _ _ _ _ h1]
  refine ⟨rfl, ?_, _, _, _, _, _, _, hf0.trans ((grown_frame (Below.refl _ wA) hgrow hat hcol hsz3 hfar hS.cG).mono fun x hx => wk_of (by omega) (by omega)), hS.rowed hvals hcol hre hgrow hat hsz3 hfar hR hL⟩
  exact ((put6_below (Below.grown hbw hgrow s1 (row_ge hS.tp.1)) hBg _ _ _ _ _ _ _).setCell (p := ⟨G, low.length * 2, none⟩) s4 _).setCell (p := ⟨G, low.length * 2 + 1, none⟩) s4 _
theorem row_closeB {B D : Nat} {col : Nat → Nat} {w wA w2 : World} {s : ByteArray} {k G cap : Nat} {vlow : List (Value × Value)} {vr vp : Value} {low : List Lv} {top : Lv} (hS : StC B D col wA s k G cap vlow vr vp low top) {a : Ex} {xs : List Value} {x0 x1 x2 x3 x4 x5 z0 z1 z2 z3 z4 z5 : Value} {g' cap' : Nat} (hvals : RowVals (Tree B col) wA xs (top.rows.map Ex.rx)) (hcol : ∀ g, vr.ownBlock = some g → col g = 3 + 2 * low.length) (hre : ReAt (Tree B col) wA (.agg #[x0, x1, x2, x3, x4, x5]) a.rx)
    (hbw : Below B w wA) (how : w2.ownsRow B 39 6 (.slice (some ⟨g', 0, none⟩) (top.rows.length + 1) cap') (top.rows.length + 1) (xs ++ [z0, z1, z2, z3, z4, z5])) (hgrow : wA.grownBy w2 vr.ownBlock) (hat : vr.ownBlock = some g' ∨ g' = wA.heap.size) (hlen : xs.length = top.rows.length * 6) (hf0 : Frm Wk col col w wA) (hn : low.length < 1000000) :
    StepPost B D col w s k low ⟨top.rows ++ [a], []⟩ (.returned (.tuple #[])) ((((((((w2.setCell ⟨G, low.length * 2, none⟩ (.slice (some ⟨g', 0, none⟩) (top.rows.length + 1) cap')).setCell ⟨g', top.rows.length * 6, none⟩ x0).setCell ⟨g', top.rows.length * 6 + 1, none⟩ x1).setCell ⟨g', top.rows.length * 6 + 2, none⟩ x2).setCell ⟨g', top.rows.length * 6 + 3, none⟩ x3).setCell ⟨g', top.rows.length * 6 + 4, none⟩ x4).setCell ⟨g', top.rows.length * 6 + 5, none⟩ x5).setCell ⟨G, low.length * 2 + 1, none⟩ (.slice none 0 0)) := by
  show StepPost B D col w s k low ⟨top.rows ++ [a], []⟩ (.returned (.tuple #[])) ((put6 (w2.setCell ⟨G, low.length * 2, none⟩ (.slice (some ⟨g', 0, none⟩) (top.rows.length + 1) cap')) g' (top.rows.length * 6) x0 x1 x2 x3 x4 x5).setCell ⟨G, low.length * 2 + 1, none⟩ (.slice none 0 0))
  obtain ⟨s1, s2, s3, s4, s5, s6⟩ := hS.sizes
  obtain ⟨f1, f2, f3⟩ := grown_far (Below.refl _ wA) hgrow hat hcol s3 (by rw [hS.cG]; omega)
  have hBg := (own_lt how).1
  have hL0 := own_set (own_levels hS.own f1) (low.length * 2) (.slice (some ⟨g', 0, none⟩) (top.rows.length + 1) cap')
  have hput := own_put6 hlen (own_row (w' := w2.setCell ⟨G, low.length * 2, none⟩ (.slice (some ⟨g', 0, none⟩) (top.rows.length + 1) cap')) how (Below.heap_setCell _ _ _ _ f3)) x0 x1 x2 x3 x4 x5
  have hL := own_set (own_levels hL0 (put6_other _ g' (top.rows.length * 6) x0 x1 x2 x3 x4 x5 f2)) (low.length * 2 + 1) (.slice none 0 0)
  rw [set_rows s6, set_parts s6] at hL
  have hR := own_row (w' := (put6 (w2.setCell ⟨G, low.length * 2, none⟩ (.slice (some ⟨g', 0, none⟩) (top.rows.length + 1) cap')) g' (top.rows.length * 6) x0 x1 x2 x3 x4 x5).setCell ⟨G, low.length * 2 + 1, none⟩ (.slice none 0 0)) hput (Below.heap_setCell _ _ _ _ f3)
  have hsz3 : w2.heap.size ≤ ((put6 (w2.setCell ⟨G, low.length * 2, none⟩ (.slice (some ⟨g', 0, none⟩) (top.rows.length + 1) cap')) g' (top.rows.length * 6) x0 x1 x2 x3 x4 x5).setCell ⟨G, low.length * 2 + 1, none⟩ (.slice none 0 0)).heap.size := by simp only [World.size_setCell]; rw [put6_size]; simp [World.setCell]
  have hfar : ∀ b, b ≠ g' → b ≠ G → ((put6 (w2.setCell ⟨G, low.length * 2, none⟩ (.slice (some ⟨g', 0, none⟩) (top.rows.length + 1) cap')) g' (top.rows.length * 6) x0 x1 x2 x3 x4 x5).setCell ⟨G, low.length * 2 + 1, none⟩ (.slice none 0 0)).heap[b]? = w2.heap[b]? := fun b h1 h2 => by rw [Below.heap_setCell _ _ _ _ h2, put6_other _ _ _ _ _ _ _ _ _ h1, Below.heap_setCell _ _ _ _ h2]
  refine ⟨rfl, ?_, _, _, _, _, _, _, hf0.trans ((grown_frame (Below.refl _ wA) hgrow hat hcol hsz3 hfar hS.cG).mono fun x hx => wk_of (by omega) (by omega)), hS.rowed hvals hcol hre hgrow hat hsz3 hfar hR hL⟩
  exact (put6_below ((Below.grown hbw hgrow s1 (row_ge hS.tp.1)).setCell (p := ⟨G, low.length * 2, none⟩) s4 _) hBg _ _ _ _ _ _ _).setCell (p := ⟨G, low.length * 2 + 1, none⟩) s4 _
theorem endRow_no {B D : Nat} {col : Nat → Nat} {w : World} {s : ByteArray} {k G cap : Nat} {vlow : List (Value × Value)} {vr vp : Value} {low : List Lv} {rows : List Ex} (hS : StC B D col w s k G cap vlow vr vp low ⟨rows, []⟩) (hn : low.length < 1000000) :
    Calls Tryz.prog 78 #[.pointer (some ⟨D, 0, none⟩)] w (ThrPost B k w) := by
  have KT := Lib.hid (top_any hS.rd (by omega))
  have HS := Lib.hid hS
  have hBw := hS.sizes.1
  obtain ⟨al, vc, rfl⟩ : ∃ al c, vp = .slice al 0 c := by
    obtain ⟨_, h, _⟩ := hS.tp.2
    exact own_form h
  clear hS
  go_enter Tryz.func78, Tryz.ntmps78
  go_wp2_with fail
  refine KT.out.mono ?_
  rintro e w1 ⟨rfl, hb1⟩
  have hS1 := HS.out.below hb1
  obtain ⟨l0, l1, lf⟩ := hS1.cells
  have KM := Lib.hid (must_no hS1.rd)
  clear hS1 lf
  go_wp2_with fail
  refine KM.out.mono ?_
  rintro e w2 ⟨rfl, rfl⟩
  exact ⟨rfl, rfl, hb1.mono hBw⟩
open Go.RowKit
theorem rchain_tree {B : Nat} {col : Nat → Nat} {w W : World} {k o : Nat} {f : Ex → Ex → Ex} (hf : ∀ a b, (f a b).rx = .node k Ws.nil [a.rx, b.rx]) (hk : k < 256) {l : List Ex} (hl : l ≠ []) (hlen : l.length < 1000000000) {al : Option Addr} {cap : Nat} (h : RowN (Tree B col) w al (l.map Ex.rx)) (hB : B ≤ w.heap.size) (hnew : ∀ b, w.heap.size ≤ b → col b = 0) (hb : Below w.heap.size w W) :
    Calls Tryz.prog 85 #[.int .u8 k, .slice al l.length cap] W fun e w' => ∃ y0 y1 y2 y3 y4 yl yn yc, e = .returned (.agg #[.int .u8 y0, .int .u64 y1, .int .u64 y2, .int .u64 y3, .int .u64 y4, .slice yl yn yc]) ∧ ReAt (Tree B col) w' (.agg #[.int .u8 y0, .int .u64 y1, .int .u64 y2, .int .u64 y3, .int .u64 y4, .slice yl yn yc]) (foldE f l).rx ∧ Below W.heap.size W w' := by
  have h1 := rchain_any k o (l.map Ex.rx) al cap W hk (by simp; omega) (by simpa using hl) (h.below hb)
  rw [fold_foldE k o f hf l hl, List.length_map] at h1
  refine h1.mono ?_
  rintro e w' ⟨v, rfl, hv, hb'⟩
  obtain ⟨y0, y1, y2, y3, y4, yl, yn, yc, rfl⟩ := cells_re hv
  refine ⟨y0, y1, y2, y3, y4, yl, yn, yc, rfl, hv.imp fun b _ hb2 => ?_, hb'⟩
  rcases hb2 with hb2 | hb2
  · exact hb2.1
  · have := hb.size
    exact ⟨by omega, hnew b (by omega)⟩
theorem row_n {B : Nat} {col : Nat → Nat} {c : Nat} {w : World} {v : Value} {l : List Ex} (h : RwC B col c w v l) (hl : l ≠ []) : ∃ g cap, v = .slice (some ⟨g, 0, none⟩) l.length cap ∧ B ≤ g ∧ g < w.heap.size ∧ col g = c ∧ RowN (Tree B col) w (some ⟨g, 0, none⟩) (l.map Ex.rx) := by
  obtain ⟨xs, h1, h2, h3⟩ := h
  obtain ⟨g, cap, rfl, hB, hlt, _, hn⟩ := own_nodes (l := l.map Ex.rx) (by simpa using h1) h2 (by simpa using hl)
  rw [List.length_map]
  exact ⟨g, cap, rfl, hB, hlt, h3 g rfl, g, 0, rfl, hlt, hn⟩
theorem zero_later {w w2 : World} (c0 c1 c2 c3 c4 c5 : Value) (hb : Below (w.alloc (.cells #[c0, c1, c2, c3, c4, c5] 39)).drew.heap.size (w.alloc (.cells #[c0, c1, c2, c3, c4, c5] 39)).drew w2) : ∀ j u, [c0, c1, c2, c3, c4, c5][j]? = some u → w2.cell? ((⟨w.heap.size, 0, none⟩ : Addr).add j) = some u := by
  intro j u h
  have h1 := zero6_at w c0 c1 c2 c3 c4 c5 j u h
  rw [Go.WideShapes.add_plain] at h1 ⊢
  exact (hb.cell (p := ⟨w.heap.size, 0 + j, none⟩) (by rw [drew_hp]; simp)).trans h1
theorem al_below {w w2 : World} {o : Obj} (hb : Below (w.alloc o).drew.heap.size (w.alloc o).drew w2) : Below w.heap.size w w2 := (alloc_drew_below w o).trans (hb.mono (alloc_drew_below w o).size)
theorem dr_below {w w2 : World} (hb : Below w.drew.heap.size w.drew w2) : Below w.heap.size w w2 := (Below.refl _ w).drew.trans hb
theorem six_plain (w : World) (c0 c1 c2 c3 c4 c5 : Value) : ∀ j u, [c0, c1, c2, c3, c4, c5][j]? = some u → (w.alloc (.cells #[c0, c1, c2, c3, c4, c5] 39)).cell? ((⟨w.heap.size, 0, none⟩ : Addr).add j) = some u := six_cells w c0 c1 c2 c3 c4 c5
set_option maxRecDepth 100000 in
set_option maxHeartbeats 16000000 in
theorem endRow_yes {B D : Nat} {col : Nat → Nat} {w : World} {s : ByteArray} {k G cap : Nat} {vlow : List (Value × Value)} {vr vp : Value} {low : List Lv} {top : Lv} (hS : StC B D col w s k G cap vlow vr vp low top) (hn : low.length < 1000000) (hr : top.rows.length < 1000000) (hp : top.parts.length < 1000000) (hne : top.parts ≠ []) :
    Calls Tryz.prog 78 #[.pointer (some ⟨D, 0, none⟩)] w (StepPost B D col w s k low ⟨top.rows ++ [foldE .seq top.parts], []⟩) := by
  obtain ⟨i0, z0, hi0, hz0, hz1, hz2, hz3⟩ := infoR2
  have hz2' := Lib.hid hz2
  clear hz2
  have KT := Lib.hid (top_any hS.rd (by omega))
  have HS := Lib.hid hS
  have KM := Lib.hid must_yes
  have hBw := hS.sizes.1
  obtain ⟨al, vc, rfl⟩ : ∃ al c, vr = .slice al top.rows.length c := by
    obtain ⟨_, h, _⟩ := hS.tp.1
    exact own_form h
  obtain ⟨gp, cp, rfl, -⟩ := row_n hS.tp.2 hne
  have hpos : 0 < top.parts.length := List.length_pos_iff.2 hne
  have q0 : decide ((0 : Int) < (top.parts.length : Int)) = true := decide_eq_true (by omega)
  have q0' : decide (0 < top.parts.length) = true := decide_eq_true (by omega)
  have HNE := Lib.hid hne
  clear hS hne
  go_enter Tryz.func78, Tryz.ntmps78
  go_wp2_with fail
  refine KT.out.mono ?_
  rintro e w1 ⟨rfl, hb1⟩
  have hS1 := HS.out.below hb1
  have HBW1 := Lib.hid (hb1.mono hBw)
  have HB1 := Lib.hid hb1
  obtain ⟨l0, l1, lf⟩ := hS1.cells
  have lf0 := lf (low.length * 2)
  have lf1 := lf (low.length * 2 + 1)
  obtain ⟨g2, cp2, e2, -, -, -, hrn⟩ := row_n hS1.tp.2 HNE.out
  simp at e2
  obtain ⟨rfl, rfl⟩ := e2
  obtain ⟨xs, hx1, hx2, hx3⟩ := hS1.tp.1
  obtain ⟨s1, s2, s3, s4, s5, s6⟩ := hS1.sizes
  have KC := Lib.hid fun W (hb : Below w1.heap.size w1 W) => rchain_tree (k := 4) (o := 2) (f := .seq) (fun _ _ => rfl) (by decide) HNE.out (by omega) (cap := cp) hrn s1 hS1.new hb
  rw [show (((4 : Nat) : Int)) = 4 from rfl] at KC
  have hcG := hS1.cG
  have HS1 := Lib.hid hS1
  have HX2 := Lib.hid hx2
  have HX3 := Lib.hid hx3
  have HOWN := Lib.hid hx1
  have hlen := hx1.1
  have hidx : (top.rows.length : Int) < (top.rows.length : Int) + 1 := by omega
  have hszg : ¬ G = w1.heap.size := by omega
  have mixed : Tryz.prog.follows Departure.mixedOrders = true := by kernel_rfl
  clear hS1 hb1 hrn hx1 hx2 hx3 lf KT HNE
  go_wp2_with fail
  refine (KM.out _ _).mono ?_
  rintro e w2 ⟨rfl, rfl⟩
  go_wp2_with fail
  go_region_law (first
    | (refine step_append_lies _ rfl (.tmp 16) (.tmp 23) 27 rfl B 39 i0 z0 6 64 Tryz.underlying27 hi0 hz0 hz1 hz2'.out hz3 (by decide) (.slice al top.rows.length vc) top.rows.length xs rfl ((own_go HOWN.out fun g _ hl => hbA.block g hl).alloc _) ⟨w3.heap.size, 0, none⟩ 1 1 [.int .u8 0, .int .u64 0, .int .u64 0, .int .u64 0, .int .u64 0, .slice none 0 0] rfl rfl (six_plain w3 _ _ _ _ _ _) zero6_one (by decide) (by unfold maxLen; omega) (by omega) (Nat.le_trans s1 (hbA.alloc hbA.size _).size) _ rfl ?_; (have hA := hbA.alloc hbA.size (.cells #[.int .u8 0, .int .u64 0, .int .u64 0, .int .u64 0, .int .u64 0, .slice none 0 0] 39)); (have hreA := hre.below ((Below.refl _ w3).alloc (Nat.le_refl _) (.cells #[.int .u8 0, .int .u64 0, .int .u64 0, .int .u64 0, .int .u64 0, .slice none 0 0] 39))); (intro g' cap' wB hown hgrow hat hlt); (obtain ⟨⟨n0, n1, n2, n3, n4, n5⟩, m0, m1, m2, m3, m4, m5⟩ := new6 hlen hown); (obtain ⟨hfar, ne1, ne2⟩ := grown_far hA hgrow hat HX3.out s3 (by rw [hcG]; omega)); (have k0 : wB.cell? ⟨G, low.length * 2, none⟩ = some (.slice al top.rows.length vc) := (World.cell?_of_block hfar).trans l0); (have k1 : wB.cell? ⟨G, low.length * 2 + 1, none⟩ = some (.slice (some ⟨gp, 0, none⟩) top.parts.length cp) := (World.cell?_of_block hfar).trans l1); (have k2 : wB.frozen? ⟨G, low.length * 2, none⟩ = false := (World.frozen?_of_block hfar).trans lf0); (have k3 : wB.frozen? ⟨G, low.length * 2 + 1, none⟩ = false := (World.frozen?_of_block hfar).trans lf1); (have HOW := Lib.hid hown); (have HGR := Lib.hid hgrow); (have HAT := Lib.hid hat); (have HRA := Lib.hid hreA); (have HA := Lib.hid hA); clear hown hgrow hat hfar hreA hA)
    | (refine step_append_lies _ rfl (.tmp 16) (.tmp 23) 27 rfl B 39 i0 z0 6 64 Tryz.underlying27 hi0 hz0 hz1 hz2'.out hz3 (by decide) (.slice al top.rows.length vc) top.rows.length xs rfl (own_go HOWN.out fun g _ hl => hbA.block g hl) ⟨w2.heap.size, 0, none⟩ 1 1 [.int .u8 0, .int .u64 0, .int .u64 0, .int .u64 0, .int .u64 0, .slice none 0 0] rfl rfl hzr zero6_one (by decide) (by unfold maxLen; omega) (by omega) (Nat.le_trans s1 hbA.size) _ rfl ?_; (have hA := hbA); (have hreA := hre); (intro g' cap' wB hown hgrow hat hlt); (obtain ⟨⟨n0, n1, n2, n3, n4, n5⟩, m0, m1, m2, m3, m4, m5⟩ := new6 hlen hown); (obtain ⟨hfar, ne1, ne2⟩ := grown_far hA hgrow hat HX3.out s3 (by rw [hcG]; omega)); (have k0 : wB.cell? ⟨G, low.length * 2, none⟩ = some (.slice al top.rows.length vc) := (World.cell?_of_block hfar).trans l0); (have k1 : wB.cell? ⟨G, low.length * 2 + 1, none⟩ = some (.slice (some ⟨gp, 0, none⟩) top.parts.length cp) := (World.cell?_of_block hfar).trans l1); (have k2 : wB.frozen? ⟨G, low.length * 2, none⟩ = false := (World.frozen?_of_block hfar).trans lf0); (have k3 : wB.frozen? ⟨G, low.length * 2 + 1, none⟩ = false := (World.frozen?_of_block hfar).trans lf1); (have HOW := Lib.hid hown); (have HGR := Lib.hid hgrow); (have HAT := Lib.hid hat); (have HRA := Lib.hid hreA); (have HA := Lib.hid hA); clear hown hgrow hat hfar hreA hA)
    | (go_simp; go_at_call 85; (with_reducible refine (KC.out _ (Below.refl _ _).drew).mono ?_); (rintro e w3 ⟨y0, y1, y2, y3, y4, yl, yn, yc, rfl, hre, hbx⟩); (have hbA := dr_below hbx); (have l0' := (World.cell?_of_block (hbA.block G s3)).trans l0); (have l1' := (World.cell?_of_block (hbA.block G s3)).trans l1); (have hszg' : ¬ G = w3.heap.size := (by have := hbA.size; omega)); (have hG3 : G < w3.heap.size := Nat.lt_of_lt_of_le s3 hbA.size); go_simp)
    | (go_simp; go_at_call 85; (with_reducible refine (KC.out _ (alloc_drew_below _ _)).mono ?_); (rintro e w3 ⟨y0, y1, y2, y3, y4, yl, yn, yc, rfl, hre, hbx⟩); (have hzr := zero_later _ _ _ _ _ _ hbx); (have hbA := al_below hbx); (have l0' := (World.cell?_of_block (hbA.block G s3)).trans l0); (have l1' := (World.cell?_of_block (hbA.block G s3)).trans l1); (have hszg' : ¬ G = w3.heap.size := (by have := hbA.size; omega)); (have hG3 : G < w3.heap.size := Nat.lt_of_lt_of_le s3 hbA.size); go_simp)
    | fail)
  all_goals (
    go_wp2
    go_end0
    first
      | with_reducible exact row_closeA (HS1.out.below HA.out) (HX2.out.go (keptB HA.out _)) HX3.out HRA.out (HBW1.out.trans (HA.out.mono s1)) HOW.out HGR.out HAT.out hlen (Frm.below (HB1.out.trans (HA.out.mono HB1.out.size))) hn
      | with_reducible exact row_closeB (HS1.out.below HA.out) (HX2.out.go (keptB HA.out _)) HX3.out HRA.out (HBW1.out.trans (HA.out.mono s1)) HOW.out HGR.out HAT.out hlen (Frm.below (HB1.out.trans (HA.out.mono HB1.out.size))) hn
      | fail)
open Go.RowKit
theorem StC.frm {B D : Nat} {C : Nat → Prop} {col col' : Nat → Nat} {w w' : World} {s : ByteArray} {k G cap : Nat} {vlow : List (Value × Value)} {vr vp : Value} {low : List Lv} {top : Lv} (h : StC B D col w s k G cap vlow vr vp low top) (hf : Frm C col col' w w') (hC : ∀ x, C x → 1000000000 ≤ x) (hn : low.length < 1000000) (hnew : ∀ b, w'.heap.size ≤ b → col' b = 0) : StC B D col' w' s k G cap vlow vr vp low top := by
  obtain ⟨z1, z2, z3, z4, z5, z6⟩ := h.sizes
  have h0 : ¬ C 0 := fun e => by have := hC _ e; omega
  refine ⟨h.rd.of ((hf.2 D z2).2 (fun e => by rw [h.cD] at e; have := hC _ e; omega)), h.ge, by rw [(hf.2 D z2).1]; exact h.cD, own_levels h.own ((hf.2 G z3).2 (fun e => by rw [h.cG] at e; have := hC _ e; omega)), by rw [(hf.2 G z3).1]; exact h.cG, ⟨h.lo.1, fun i hi hi' => ?_⟩, h.tp.frame hf h0 (fun e => by have := hC _ e; omega) (fun e => by have := hC _ e; omega), hnew⟩
  exact (h.lo.2 i hi hi').frame hf h0 (fun e => by have := hC _ e; omega) (fun e => by have := hC _ e; omega)
theorem box_frm {C : Nat → Prop} (col : Nat → Nat) (w : World) (o : Obj) : Frm C col (upd col w.heap.size bxC) w (w.alloc o) :=
  ⟨by simp, fun b hb => ⟨upd_far _ (by omega), fun _ => Below.heap_alloc _ _ _ hb⟩⟩
theorem box_new {col : Nat → Nat} {w : World} (o : Obj) (h : ∀ b, w.heap.size ≤ b → col b = 0) : ∀ b, (w.alloc o).heap.size ≤ b → upd col w.heap.size bxC b = 0 := by
  intro b hb
  rw [World.size_alloc] at hb
  rw [upd_far _ (by omega)]
  exact h b (by omega)
theorem StC.box {B D : Nat} {col : Nat → Nat} {w : World} {s : ByteArray} {k G cap : Nat} {vlow : List (Value × Value)} {vr vp : Value} {low : List Lv} {top : Lv} (h : StC B D col w s k G cap vlow vr vp low top) (hn : low.length < 1000000) (o : Obj) : StC B D (upd col w.heap.size bxC) (w.alloc o) s k G cap vlow vr vp low top :=
  h.frm (box_frm (C := fun _ => False) col w o) (fun _ e => e.elim) hn (box_new o h.new)
theorem not_wk : ¬ Wk bxC := fun h => by have := h.2; omega
theorem put_frm {col : Nat → Nat} {w : World} {g : Nat} (hg : col g = bxC) (y0 y1 y2 y3 y4 y5 : Value) : Frm (fun x => x = bxC) col col w (putW w g y0 y1 y2 y3 y4 y5) :=
  ⟨by rw [putW_size]; exact Nat.le_refl _, fun b _ => ⟨rfl, fun hc => putW_other _ _ _ _ _ _ _ _ (fun e => hc (by rw [e]; exact hg))⟩⟩
theorem Frm.put {C : Nat → Prop} {col col' : Nat → Nat} {w w' : World} (h : Frm C col col' w w') {g : Nat} (hg : w.heap.size ≤ g) (y0 y1 y2 y3 y4 y5 : Value) : Frm C col col' w (putW w' g y0 y1 y2 y3 y4 y5) :=
  ⟨by rw [putW_size]; exact h.1, fun b hb => ⟨(h.2 b hb).1, fun hc => (putW_other _ _ _ _ _ _ _ _ (by omega)).trans ((h.2 b hb).2 hc)⟩⟩
theorem StC.put {B D : Nat} {col : Nat → Nat} {w : World} {s : ByteArray} {k G cap g : Nat} {vlow : List (Value × Value)} {vr vp : Value} {low : List Lv} {top : Lv} (h : StC B D col w s k G cap vlow vr vp low top) (hn : low.length < 1000000) (hg : col g = bxC) (y0 y1 y2 y3 y4 y5 : Value) : StC B D col (putW w g y0 y1 y2 y3 y4 y5) s k G cap vlow vr vp low top :=
  h.frm (put_frm hg y0 y1 y2 y3 y4 y5) (fun x e => by rw [e]; unfold bxC; omega) hn (fun b hb => h.new b (by rw [putW_size] at hb; exact hb))
theorem re_put {B : Nat} {col : Nat → Nat} {w : World} {v : Value} {r : Rx} {g : Nat} (h : ReAt (Tree B col) w v r) (hg : col g = bxC) (y0 y1 y2 y3 y4 y5 : Value) : ReAt (Tree B col) (putW w g y0 y1 y2 y3 y4 y5) v r := h.go ((put_frm hg y0 y1 y2 y3 y4 y5).kept (fun e => by unfold bxC at e; omega))
def ExprPost (B D : Nat) (col : Nat → Nat) (w : World) (s : ByteArray) (k : Nat) (low : List Lv) (lv : Lv) (ex : Ex) (e : Ending) (w' : World) : Prop :=
  ∃ col' G cap vlow vr vp y0 y1 y2 y3 y4 yl yn yc, e = .returned (.agg #[.int .u8 y0, .int .u64 y1, .int .u64 y2, .int .u64 y3, .int .u64 y4, .slice yl yn yc]) ∧ Below B w w' ∧ Frm Wk col col' w w' ∧ StC B D col' w' s k G cap vlow vr vp low lv ∧ ReAt (Tree B col') w' (.agg #[.int .u8 y0, .int .u64 y1, .int .u64 y2, .int .u64 y3, .int .u64 y4, .slice yl yn yc]) ex.rx
set_option maxHeartbeats 4000000 in
theorem expr_yes {B D : Nat} {col : Nat → Nat} {w : World} {s : ByteArray} {k G cap : Nat} {vlow : List (Value × Value)} {vr vp : Value} {low : List Lv} {top : Lv} (hS : StC B D col w s k G cap vlow vr vp low top) (hn : low.length < 1000000) (hr : top.rows.length < 1000000) (hp : top.parts.length < 1000000) (hne : top.parts ≠ []) :
    Calls Tryz.prog 53 #[.pointer (some ⟨D, 0, none⟩)] w (ExprPost B D col w s k low ⟨top.rows ++ [foldE .seq top.parts], []⟩ (foldE .alt (top.rows ++ [foldE .seq top.parts]))) := by
  have hBw := hS.sizes.1
  have KE := Lib.hid (endRow_yes (hS.box hn nilBlk) hn hr hp hne)
  have F0 := Lib.hid (box_frm (C := Wk) col w nilBlk)
  have hb0 := (Below.refl B w).alloc hBw nilBlk
  have HB0 := Lib.hid hb0
  have HNB := Lib.hid (blk_new w nilBlk)
  unfold nilBlk at KE F0 HB0 HNB
  clear hS hne hb0
  go_enter Tryz.func53, Tryz.ntmps53
  go_wp2_with fail
  refine KE.out.mono ?_
  rintro e w1 ⟨rfl, hb1, col1, G1, cap1, vlow1, vr1, vp1, hf1, hS1⟩
  have hfw := F0.out.trans hf1
  have hc1 : col1 w.heap.size = bxC := by rw [(hf1.2 w.heap.size (by simp)).1, upd_at]
  have hbx1 := ((hf1.2 w.heap.size (by simp)).2 (by rw [upd_at]; exact not_wk)).trans HNB.out
  have HBW := Lib.hid (HB0.out.trans hb1)
  have KT := Lib.hid (top_any hS1.rd (by omega))
  have HS1 := Lib.hid hS1
  have HF := Lib.hid hfw
  have HBX := Lib.hid hbx1
  clear hb1 hf1 hS1 hfw hbx1 HB0 F0 HNB
  go_wp2_with fail
  refine KT.out.mono ?_
  rintro e w2 ⟨rfl, hb2⟩
  have hS2 := HS1.out.below hb2
  have hbx2 := (hb2.block _ (Array.getElem?_eq_some_iff.1 HBX.out).1).trans HBX.out
  obtain ⟨l0, l1, lf⟩ := hS2.cells
  obtain ⟨g2, cp2, rfl, -, -, -, hrn⟩ := row_n hS2.tp.1 (by simp)
  have s1 := hS2.sizes.1
  have KC := Lib.hid (rchain_tree (W := w2) (k := 5) (o := 1) (f := .alt) (fun _ _ => rfl) (by decide) (l := top.rows ++ [foldE .seq top.parts]) (by simp) (by simp; omega) (cap := cp2) hrn s1 hS2.new (Below.refl _ _))
  rw [show (((5 : Nat) : Int)) = 5 from rfl] at KC
  have HS2 := Lib.hid hS2
  have HF2 := Lib.hid (HF.out.post hb2)
  have HB2 := Lib.hid (HBW.out.trans (hb2.mono (HS1.out.sizes.1)))
  clear hS2 hb2 hrn lf HS1 HF HBW KT
  generalize foldE Ex.alt (top.rows ++ [foldE .seq top.parts]) = FE at *
  generalize top.rows ++ [foldE .seq top.parts] = RS at *
  go_wp2_with fail
  refine KC.out.mono ?_
  rintro e w3 ⟨y0, y1, y2, y3, y4, yl, yn, yc, rfl, hre, hb3⟩
  have hbx3 := (hb3.block _ (Array.getElem?_eq_some_iff.1 hbx2).1).trans hbx2
  obtain ⟨g0, g1, g2', g3, g4, g5, p0, p1, p2, p3, p4, p5⟩ := cellsR hbx3
  have HP := Lib.hid (putR hbx3 (.int .u8 y0) (.int .u64 y1) (.int .u64 y2) (.int .u64 y3) (.int .u64 y4) (.slice yl yn yc))
  have HEX := Lib.hid (show ExprPost B D col w s k low ⟨RS, []⟩ FE (.returned (.agg #[.int .u8 y0, .int .u64 y1, .int .u64 y2, .int .u64 y3, .int .u64 y4, .slice yl yn yc])) (putW w3 w.heap.size (.int .u8 y0) (.int .u64 y1) (.int .u64 y2) (.int .u64 y3) (.int .u64 y4) (.slice yl yn yc)) from
    ⟨col1, _, _, _, _, _, y0, y1, y2, y3, y4, yl, yn, yc, rfl, putB (HB2.out.trans (hb3.mono s1)) hBw _ _ _ _ _ _, (HF2.out.post hb3).put (Nat.le_refl _) _ _ _ _ _ _, (HS2.out.below hb3).put hn hc1 _ _ _ _ _ _, re_put hre hc1 _ _ _ _ _ _⟩)
  unfold putW at HP HEX
  clear hre hb3 hbx3 hbx2
  go_wp2
  exact ret_re HP.out Tryz.results53 rfl rfl HEX.out
theorem expr_no {B D : Nat} {col : Nat → Nat} {w : World} {s : ByteArray} {k G cap : Nat} {vlow : List (Value × Value)} {vr vp : Value} {low : List Lv} {rows : List Ex} (hS : StC B D col w s k G cap vlow vr vp low ⟨rows, []⟩) (hn : low.length < 1000000) :
    Calls Tryz.prog 53 #[.pointer (some ⟨D, 0, none⟩)] w (ThrPost B k w) := by
  have hBw := hS.sizes.1
  have KE := Lib.hid (endRow_no (hS.box hn nilBlk) hn)
  have HB0 := Lib.hid ((Below.refl B w).alloc hBw nilBlk)
  unfold nilBlk at KE HB0
  clear hS
  go_enter Tryz.func53, Tryz.ntmps53
  go_wp2_with fail
  refine KE.out.mono ?_
  rintro e w1 ⟨rfl, hb1⟩
  exact ⟨rfl, rfl, HB0.out.trans hb1⟩
open Go.RowKit
theorem own_prefix {w : World} {B : Nat} {t : TypeId} {sz g n cap : Nat} {xs ys : List Value} (h : w.ownsRow B t sz (.slice (some ⟨g, 0, none⟩) (n + 1) cap) (n + 1) (xs ++ ys)) (hx : xs.length = n * sz) : w.ownsRow B t sz (.slice (some ⟨g, 0, none⟩) n cap) n xs := by
  obtain ⟨h1, ⟨e, _⟩ | ⟨g', cap', cur, e, hB, hg, hn, hm, hs, ht⟩⟩ := h
  · simp at e
  · simp at e
    obtain ⟨rfl, rfl⟩ := e
    refine ⟨hx, .inr ⟨g, cap, cur, rfl, hB, hg, by omega, hm, hs, ?_⟩⟩
    have := congrArg (List.take (n * sz)) ht
    rw [List.take_take, Nat.min_eq_left (Nat.mul_le_mul_right _ (by omega))] at this
    rw [this, List.take_append_of_le_length (by omega), List.take_of_length_le (by omega)]
theorem StC.pop {B D : Nat} {col : Nat → Nat} {w : World} {s : ByteArray} {k G cap : Nat} {vlow : List (Value × Value)} {vr vp : Value} {low : List Lv} {lv top : Lv} (h : StC B D col w s k G cap vlow vr vp (low ++ [lv]) top) : ∃ vs vr' vp', StC B D col (w.setCell ⟨D, 2, none⟩ (.slice (some ⟨G, 0, none⟩) (low.length + 1) cap)) s k G cap vs vr' vp' low lv := by
  obtain ⟨z1, z2, z3, z4, z5, z6⟩ := h.sizes
  obtain ⟨vs, ⟨vr', vp'⟩, rfl, hlo, htp⟩ := h.lo.unsnoc
  have hf : Frm (fun x => x = 1) col col w (w.setCell ⟨D, 2, none⟩ (.slice (some ⟨G, 0, none⟩) (low.length + 1) cap)) := ⟨by simp [World.setCell], fun b _ => ⟨rfl, fun hc => Below.heap_setCell _ _ _ _ (fun e => hc (by rw [show b = D from e]; exact h.cD))⟩⟩
  have hown := h.own
  rw [flat_snoc] at hown
  have hl : (low ++ [lv]).length = low.length + 1 := by simp
  rw [hl] at hown
  have hown2 := own_prefix hown (by rw [List.length_append, flat_len, hlo.1]; simp; omega)
  exact ⟨vs, vr', vp', h.rd.lay _, h.ge, h.cD, own_levels hown2 ((hf.2 G z3).2 (by rw [h.cG]; omega)), h.cG, hlo.frame hf (by omega), htp.frame hf (by omega) (by omega) (by omega), fun b hb => h.new b (by simpa [World.setCell] using hb)⟩
theorem closed_one {B D : Nat} {col : Nat → Nat} {w : World} {s : ByteArray} {k G cap : Nat} {vlow : List (Value × Value)} {vr vp : Value} {top : Lv} (hS : StC B D col w s k G cap vlow vr vp [] top) :
    Calls Tryz.prog 77 #[.pointer (some ⟨D, 0, none⟩)] w (ThrPost B k w) := by
  have hBw := hS.sizes.1
  have h0 := (Below.refl w.heap.size w).alloc (Nat.le_refl _) nilBlk
  have hr := hS.rd.below h0
  obtain ⟨c0, c1, c2⟩ := hS.rd.cells
  have hlt := hS.rd.lt
  have KM := Lib.hid (must_no hr)
  have HB0 := Lib.hid ((Below.refl B w).alloc hBw nilBlk)
  unfold nilBlk at KM HB0
  simp only [List.length_nil, Nat.zero_add] at c2
  clear hS hr h0
  go_enter Tryz.func77, Tryz.ntmps77
  go_wp2_with fail
  refine KM.out.mono ?_
  rintro e w1 ⟨rfl, rfl⟩
  exact ⟨rfl, rfl, HB0.out⟩
theorem own_cap {w : World} {B : Nat} {t : TypeId} {sz g n cap : Nat} {xs : List Value} (h : w.ownsRow B t sz (.slice (some ⟨g, 0, none⟩) n cap) n xs) : n ≤ cap := by
  obtain ⟨_, ⟨e, _⟩ | ⟨g', cap', cur, e, hB, hg, hn, _⟩⟩ := h
  · simp at e
  · simp at e
    obtain ⟨rfl, rfl⟩ := e
    exact hn
theorem closed_end {B D : Nat} {col colt : Nat → Nat} {w W : World} {s : ByteArray} {k G cap b0 : Nat} {vlow : List (Value × Value)} {vr vp : Value} {low : List Lv} {lv top : Lv} {ex : Ex} {y0 y1 y2 y3 y4 : Int} {yl : Option Addr} {yn yc : Nat} (hS : StC B D colt W s k G cap vlow vr vp (low ++ [lv]) top) (hn : low.length < 1000000) (hc : colt b0 = bxC) (hb0 : w.heap.size ≤ b0) (hBw : B ≤ w.heap.size) (hf : Frm Wk col colt w W) (hB : Below B w W) (hre : ReAt (Tree B colt) W (.agg #[.int .u8 y0, .int .u64 y1, .int .u64 y2, .int .u64 y3, .int .u64 y4, .slice yl yn yc]) ex.rx) :
    ExprPost B D col w s (k + 1) low lv ex (.returned (.agg #[.int .u8 y0, .int .u64 y1, .int .u64 y2, .int .u64 y3, .int .u64 y4, .slice yl yn yc])) (putW ((W.setCell ⟨D, 2, none⟩ (.slice (some ⟨G, 0, none⟩) (low.length + 1) cap)).setCell ⟨D, 1, none⟩ (.int .i64 ((k : Int) + 1))) b0 (.int .u8 y0) (.int .u64 y1) (.int .u64 y2) (.int .u64 y3) (.int .u64 y4) (.slice yl yn yc)) := by
  obtain ⟨vs, vr', vp', h1⟩ := hS.pop
  have h2 := h1.but ((But.refl D _ _).set 1 (.int .i64 ((k : Int) + 1))) (h1.rd.go (k + 1))
  have hfa : Frm Wk colt colt W ((W.setCell ⟨D, 2, none⟩ (.slice (some ⟨G, 0, none⟩) (low.length + 1) cap)).setCell ⟨D, 1, none⟩ (.int .i64 ((k : Int) + 1))) := but_frm hS.cD (((But.refl D _ W).set 2 _).set 1 _)
  refine ⟨colt, _, _, _, _, _, y0, y1, y2, y3, y4, yl, yn, yc, rfl, putB ((hB.setCell (p := ⟨D, 2, none⟩) hS.ge _).setCell (p := ⟨D, 1, none⟩) hS.ge _) (Nat.le_trans hBw hb0) _ _ _ _ _ _, (hf.trans hfa).put hb0 _ _ _ _ _ _, h2.put hn hc _ _ _ _ _ _, re_put (hre.go (hfa.kept (fun e => e.1 rfl))) hc _ _ _ _ _ _⟩
set_option maxHeartbeats 4000000 in
theorem closed_no {B D : Nat} {col : Nat → Nat} {w : World} {s : ByteArray} {k G cap : Nat} {vlow : List (Value × Value)} {vr vp : Value} {low : List Lv} {rows : List Ex} (hS : StC B D col w s k G cap vlow vr vp low ⟨rows, []⟩) (hl : low ≠ []) (hn : low.length < 1000000) (hr : rows.length < 1000000) (hne : rows ≠ []) :
    Calls Tryz.prog 77 #[.pointer (some ⟨D, 0, none⟩)] w (ThrPost B k w) := by
  have hBw := hS.sizes.1
  have hpos : 0 < low.length := List.length_pos_iff.2 hl
  have hrp : 0 < rows.length := List.length_pos_iff.2 hne
  obtain ⟨al, vc, rfl⟩ : ∃ al c, vr = .slice al rows.length c := by
    obtain ⟨_, h, _⟩ := hS.tp.1
    exact own_form h
  obtain ⟨al', vc', rfl⟩ : ∃ al c, vp = .slice al 0 c := by
    obtain ⟨_, h, _⟩ := hS.tp.2
    exact own_form h
  clear hl hne
  have hS0 := hS.box hn nilBlk
  obtain ⟨c0, c1, c2⟩ := hS0.rd.cells
  have HS0 := Lib.hid hS0
  have HB0 := Lib.hid ((Below.refl B w).alloc hBw nilBlk)
  have HNB := Lib.hid (blk_new w nilBlk)
  have F0 := Lib.hid (box_frm (C := Wk) col w nilBlk)
  have KM := Lib.hid must_yes
  have q0 : decide ((1 : Int) < (low.length : Int) + 1) = true := decide_eq_true (by omega)
  have KTh := Lib.hid fun W => then_any (ok := fun _ => True) [] none 0 W (by simp) (.inl rfl)
  simp only [foldR, List.length_nil] at KTh
  unfold nilBlk at HS0 HB0 c0 c1 c2 HNB F0
  have hs0 := HS0.out.sizes.1
  clear hS hS0
  go_enter Tryz.func77, Tryz.ntmps77
  go_wp2_with fail
  refine (KM.out _ _).mono ?_
  rintro e w1 ⟨rfl, rfl⟩
  go_wp2_with fail
  refine (KTh.out _).mono ?_
  rintro e w2 ⟨v2, rfl, hv2, hb2⟩
  obtain ⟨t0, t1, t2, t3, t4, tl0, tn, tc, rfl⟩ := cells_re hv2
  have hS2 := HS0.out.below hb2
  have hS3 := hS2.box hn (.cells #[.int .u8 t0, .int .u64 t1, .int .u64 t2, .int .u64 t3, .int .u64 t4, .slice tl0 tn tc] 39)
  have hb3 := (hb2.mono hs0).alloc (Nat.le_trans hs0 hb2.size) (.cells #[.int .u8 t0, .int .u64 t1, .int .u64 t2, .int .u64 t3, .int .u64 t4, .slice tl0 tn tc] 39)
  have HB3 := Lib.hid (HB0.out.trans hb3)
  have hc0 : upd (upd col w.heap.size bxC) w2.heap.size bxC w.heap.size = bxC := by
    rw [upd_far _ (by have := hb2.size; rw [World.size_alloc] at this; omega), upd_at]
  have hf3 := (F0.out.post hb2).trans (box_frm (C := Wk) (upd col w.heap.size bxC) w2 (.cells #[.int .u8 t0, .int .u64 t1, .int .u64 t2, .int .u64 t3, .int .u64 t4, .slice tl0 tn tc] 39))
  have hnb3 : (w2.alloc (.cells #[.int .u8 t0, .int .u64 t1, .int .u64 t2, .int .u64 t3, .int .u64 t4, .slice tl0 tn tc] 39)).heap[w.heap.size]? = some nilBlk := (Below.heap_alloc _ _ _ (by have := hb2.size; rw [World.size_alloc] at this; omega)).trans ((hb2.block _ (by simp)).trans HNB.out)
  have hbx3 := blk_new w2 (.cells #[.int .u8 t0, .int .u64 t1, .int .u64 t2, .int .u64 t3, .int .u64 t4, .slice tl0 tn tc] 39)
  have hre3 : ReAt (Tree B (upd (upd col w.heap.size bxC) w2.heap.size bxC)) (w2.alloc (.cells #[.int .u8 t0, .int .u64 t1, .int .u64 t2, .int .u64 t3, .int .u64 t4, .slice tl0 tn tc] 39)) (.agg #[.int .u8 t0, .int .u64 t1, .int .u64 t2, .int .u64 t3, .int .u64 t4, .slice tl0 tn tc]) Ex.eps.rx := leaf_any _ hv2
  have hlt23 : w.heap.size < w2.heap.size := by have := hb2.size; rw [World.size_alloc] at this; omega
  have hc1 : upd (upd col w.heap.size bxC) w2.heap.size bxC w2.heap.size = bxC := upd_at _ _ _
  generalize upd (upd col w.heap.size bxC) w2.heap.size bxC = col3 at *
  have KT := Lib.hid (top_any hS3.rd (by omega))
  have HS3 := Lib.hid hS3
  have HF3 := Lib.hid hf3
  have HN3 := Lib.hid hnb3
  have HX3 := Lib.hid hbx3
  have HR3 := Lib.hid hre3
  clear hS2 hS3 hb3 hb2 hf3 hnb3 hbx3 hre3 hv2 HS0 HB0 HNB F0 KTh c0 c1 c2
  go_wp2_with fail
  refine KT.out.mono ?_
  rintro e w4 ⟨rfl, hb4⟩
  have hS4 := HS3.out.below hb4
  obtain ⟨l0, l1, lf⟩ := hS4.cells
  have HS4 := Lib.hid hS4
  have HF4 := Lib.hid (HF3.out.post hb4)
  have HB4 := Lib.hid (HB3.out.trans (hb4.mono HS3.out.sizes.1))
  have HN4 := Lib.hid ((hb4.block _ (by rw [World.size_alloc]; omega)).trans HN3.out)
  have HX4 := Lib.hid ((hb4.block _ (by rw [World.size_alloc]; omega)).trans HX3.out)
  have HR4 := Lib.hid (HR3.out.below hb4)
  clear hS4 hb4 HS3 HF3 HB3 HN3 HX3 HR3 KT lf
  have KE := Lib.hid fun W (h : Below w4.heap.size w4 W) => expr_no (HS4.out.below h) hn
  have q1 : IntKind.i64.wrap (rows.length : Int) = (rows.length : Int) := by rw [IntKind.wrap_i64]; omega
  have q2 : decide ((0 : Int) < (rows.length : Int)) = true := decide_eq_true (by omega)
  have q3 : decide (0 < rows.length) = true := decide_eq_true (by omega)
  go_wp2_with fail
  go_quiet (fail)
  go_wp2_with fail
  refine (KE.out _ (below_drewN (Below.refl _ _) _)).mono ?_
  rintro e w5 ⟨rfl, hb5⟩
  exact ⟨rfl, rfl, HB4.out.trans ((below_drewN (Below.refl B _) _).trans hb5)⟩
set_option maxRecDepth 100000 in
set_option maxHeartbeats 4000000 in
theorem closed_eps {B D : Nat} {col : Nat → Nat} {w : World} {s : ByteArray} {k G cap : Nat} {vlow : List (Value × Value)} {vr vp : Value} {low : List Lv} {lv : Lv} (hS : StC B D col w s k G cap vlow vr vp (low ++ [lv]) ⟨[], []⟩) (hn : (low ++ [lv]).length < 1000000) (hk : k < 1000000000) :
    Calls Tryz.prog 77 #[.pointer (some ⟨D, 0, none⟩)] w (ExprPost B D col w s (k + 1) low lv .eps) := by
  have hBw := hS.sizes.1
  have hl1 : (low ++ [lv]).length = low.length + 1 := by simp
  obtain ⟨al, vc, rfl⟩ : ∃ al c, vr = .slice al 0 c := by
    obtain ⟨_, h, _⟩ := hS.tp.1
    exact own_form h
  obtain ⟨al', vc', rfl⟩ : ∃ al c, vp = .slice al 0 c := by
    obtain ⟨_, h, _⟩ := hS.tp.2
    exact own_form h
  have hS0 := hS.box hn nilBlk
  obtain ⟨c0, c1, c2⟩ := hS0.rd.cells
  have HS0 := Lib.hid hS0
  have HB0 := Lib.hid ((Below.refl B w).alloc hBw nilBlk)
  have HNB := Lib.hid (blk_new w nilBlk)
  have F0 := Lib.hid (box_frm (C := Wk) col w nilBlk)
  have KM := Lib.hid must_yes
  have q0 : decide ((1 : Int) < (low.length : Int) + 1 + 1) = true := decide_eq_true (by omega)
  have KTh := Lib.hid fun W => then_any (ok := fun _ => True) [] none 0 W (by simp) (.inl rfl)
  simp only [foldR, List.length_nil] at KTh
  unfold nilBlk at HS0 HB0 c0 c1 c2 HNB F0
  rw [hl1] at c2
  have hs0 := HS0.out.sizes.1
  clear hS hS0
  go_enter Tryz.func77, Tryz.ntmps77
  go_wp2_with fail
  refine (KM.out _ _).mono ?_
  rintro e w1 ⟨rfl, rfl⟩
  go_wp2_with fail
  refine (KTh.out _).mono ?_
  rintro e w2 ⟨v2, rfl, hv2, hb2⟩
  obtain ⟨t0, t1, t2, t3, t4, tl0, tn, tc, rfl⟩ := cells_re hv2
  have hS2 := HS0.out.below hb2
  have hS3 := hS2.box hn (.cells #[.int .u8 t0, .int .u64 t1, .int .u64 t2, .int .u64 t3, .int .u64 t4, .slice tl0 tn tc] 39)
  have hb3 := (hb2.mono hs0).alloc (Nat.le_trans hs0 hb2.size) (.cells #[.int .u8 t0, .int .u64 t1, .int .u64 t2, .int .u64 t3, .int .u64 t4, .slice tl0 tn tc] 39)
  have HB3 := Lib.hid (HB0.out.trans hb3)
  have hc0 : upd (upd col w.heap.size bxC) w2.heap.size bxC w.heap.size = bxC := by
    rw [upd_far _ (by have := hb2.size; rw [World.size_alloc] at this; omega), upd_at]
  have hf3 := (F0.out.post hb2).trans (box_frm (C := Wk) (upd col w.heap.size bxC) w2 (.cells #[.int .u8 t0, .int .u64 t1, .int .u64 t2, .int .u64 t3, .int .u64 t4, .slice tl0 tn tc] 39))
  have hnb3 : (w2.alloc (.cells #[.int .u8 t0, .int .u64 t1, .int .u64 t2, .int .u64 t3, .int .u64 t4, .slice tl0 tn tc] 39)).heap[w.heap.size]? = some nilBlk := (Below.heap_alloc _ _ _ (by have := hb2.size; rw [World.size_alloc] at this; omega)).trans ((hb2.block _ (by simp)).trans HNB.out)
  have hbx3 := blk_new w2 (.cells #[.int .u8 t0, .int .u64 t1, .int .u64 t2, .int .u64 t3, .int .u64 t4, .slice tl0 tn tc] 39)
  have hre3 : ReAt (Tree B (upd (upd col w.heap.size bxC) w2.heap.size bxC)) (w2.alloc (.cells #[.int .u8 t0, .int .u64 t1, .int .u64 t2, .int .u64 t3, .int .u64 t4, .slice tl0 tn tc] 39)) (.agg #[.int .u8 t0, .int .u64 t1, .int .u64 t2, .int .u64 t3, .int .u64 t4, .slice tl0 tn tc]) Ex.eps.rx := leaf_any _ hv2
  have hlt23 : w.heap.size < w2.heap.size := by have := hb2.size; rw [World.size_alloc] at this; omega
  have hc1 : upd (upd col w.heap.size bxC) w2.heap.size bxC w2.heap.size = bxC := upd_at _ _ _
  generalize upd (upd col w.heap.size bxC) w2.heap.size bxC = col3 at *
  have KT := Lib.hid (top_any hS3.rd (by omega))
  rw [hl1] at KT
  have HS3 := Lib.hid hS3
  have HF3 := Lib.hid hf3
  have HN3 := Lib.hid hnb3
  have HX3 := Lib.hid hbx3
  have HR3 := Lib.hid hre3
  clear hS2 hS3 hb3 hb2 hf3 hnb3 hbx3 hre3 hv2 HS0 HB0 HNB F0 KTh c0 c1 c2
  go_wp2_with fail
  refine KT.out.mono ?_
  rintro e w4 ⟨rfl, hb4⟩
  have hS4 := HS3.out.below hb4
  obtain ⟨l0, l1, lf⟩ := hS4.cells
  rw [hl1] at l0 l1
  have HS4 := Lib.hid hS4
  have HF4 := Lib.hid (HF3.out.post hb4)
  have HB4 := Lib.hid (HB3.out.trans (hb4.mono HS3.out.sizes.1))
  have HN4 := Lib.hid ((hb4.block _ (by rw [World.size_alloc]; omega)).trans HN3.out)
  have HX4 := Lib.hid ((hb4.block _ (by rw [World.size_alloc]; omega)).trans HX3.out)
  have HR4 := Lib.hid (HR3.out.below hb4)
  clear hS4 hb4 HS3 HF3 HB3 HN3 HX3 HR3 KT lf
  have wk : IntKind.i64.wrap ((k : Int) + 1) = (k : Int) + 1 := by rw [IntKind.wrap_i64]; omega
  rw [hl1] at hn
  go_wp2_with fail
  go_quiet (fail)
  have hd : Below w4.heap.size w4 (w4.drewN nq) := below_drewN (Below.refl _ _) _
  generalize w4.drewN nq = w5 at *
  have hS5 := HS4.out.below hd
  have HF5 := Lib.hid (HF4.out.post hd)
  have HB5 := Lib.hid (HB4.out.trans (hd.mono HS4.out.sizes.1))
  have HN5 := Lib.hid ((hd.block _ (Array.getElem?_eq_some_iff.1 HN4.out).1).trans HN4.out)
  have HX5 := Lib.hid ((hd.block _ (Array.getElem?_eq_some_iff.1 HX4.out).1).trans HX4.out)
  have HR5 := Lib.hid (HR4.out.below hd)
  have hcB := hc0
  have hcX := hc1
  have hr5 := hS5.rd
  rw [hl1] at hr5
  obtain ⟨c0, c1, c2⟩ := hr5.cells
  obtain ⟨f0, f1, f2⟩ := hr5.frozen
  have hcap : low.length + 1 + 1 ≤ cap := by have := own_cap hS5.own; rw [hl1] at this; exact this
  have q4 : (low.length : Int) + 1 ≤ (cap : Int) := by omega
  have q5 : ((low.length : Int) + 1).toNat = low.length + 1 := by omega
  have q6 : IntKind.i64.wrap ((low.length : Int) + 1) = (low.length : Int) + 1 := by rw [IntKind.wrap_i64]; omega
  have q7 : (0 : Int) ≤ (low.length : Int) + 1 := by omega
  go_wp2_with fail
  go_still_tail 14, (by kernel_rfl)
  change wpList _ _ _ _ _ w5.drew
  have hS6 := hS5.below (Below.refl _ _).drew
  have hf6 := (HF5.out).post ((Below.refl w5.heap.size w5).drew)
  have hb6 := HB5.out.trans ((Below.refl B w5).drew)
  have hn6 : w5.drew.heap[w.heap.size]? = some nilBlk := by rw [drew_hp]; exact HN5.out
  have hx6 : w5.drew.heap[w2.heap.size]? = some (.cells #[.int .u8 t0, .int .u64 t1, .int .u64 t2, .int .u64 t3, .int .u64 t4, .slice tl0 tn tc] 39) := by rw [drew_hp]; exact HX5.out
  have hre6 := HR5.out.below (Below.refl w5.heap.size w5).drew
  clear c0 c1 c2 f0 f1 f2 hr5 hS5
  generalize w5.drew = w6 at *
  have hEND := closed_end (w := w) (b0 := w.heap.size) hS6 (by omega) hcB (Nat.le_refl _) hBw hf6 hb6 hre6
  have hr6 := hS6.rd
  rw [hl1] at hr6
  have hDl := hr6.lt
  obtain ⟨c0, c1, c2⟩ := hr6.cells
  obtain ⟨f0, f1, f2⟩ := hr6.frozen
  obtain ⟨g0, g1, g2, g3, g4, g5, p0, p1, p2, p3, p4, p5⟩ := cellsR hn6
  obtain ⟨a0, a1, a2, a3, a4, a5, -⟩ := cellsR hx6
  have hne1 : ¬ D = w.heap.size := fun e => by have := hS6.cD; rw [e, hcB] at this; unfold bxC at this; omega
  have hne2 : ¬ D = w2.heap.size := fun e => by have := hS6.cD; rw [e, hcX] at this; unfold bxC at this; omega
  have hn7 : ((w6.setCell ⟨D, 2, none⟩ (.slice (some ⟨G, 0, none⟩) (low.length + 1) cap)).setCell ⟨D, 1, none⟩ (.int .i64 ((k : Int) + 1))).heap[w.heap.size]? = some nilBlk := (Below.heap_setCell _ _ _ _ (fun e => hne1 e.symm)).trans ((Below.heap_setCell _ _ _ _ (fun e => hne1 e.symm)).trans hn6)
  have HP := Lib.hid (putR hn7 (.int .u8 t0) (.int .u64 t1) (.int .u64 t2) (.int .u64 t3) (.int .u64 t4) (.slice tl0 tn tc))
  have HEND := Lib.hid hEND
  unfold putW at HP HEND
  clear hEND hn7 hS6 hf6 hb6 hre6 hr6 hn6 hx6 HS4 HF4 HB4 HN4 HX4 HR4 HF5 HB5 HN5 HX5 HR5
  go_wp2
  exact ret_re HP.out Tryz.results77 rfl rfl HEND.out
set_option maxRecDepth 100000 in
set_option maxHeartbeats 4000000 in
theorem closed_yes {B D : Nat} {col : Nat → Nat} {w : World} {s : ByteArray} {k G cap : Nat} {vlow : List (Value × Value)} {vr vp : Value} {low : List Lv} {lv top : Lv} (hS : StC B D col w s k G cap vlow vr vp (low ++ [lv]) top) (hn : (low ++ [lv]).length < 1000000) (hk : k < 1000000000) (hr : top.rows.length < 1000000) (hp : top.parts.length < 1000000) (hne : top.parts ≠ []) :
    Calls Tryz.prog 77 #[.pointer (some ⟨D, 0, none⟩)] w (ExprPost B D col w s (k + 1) low lv (foldE .alt (top.rows ++ [foldE .seq top.parts]))) := by
  have hBw := hS.sizes.1
  have hl1 : (low ++ [lv]).length = low.length + 1 := by simp
  obtain ⟨al, vc, rfl⟩ : ∃ al c, vr = .slice al top.rows.length c := by
    obtain ⟨_, h, _⟩ := hS.tp.1
    exact own_form h
  obtain ⟨al', vc', rfl⟩ : ∃ al c, vp = .slice al top.parts.length c := by
    obtain ⟨_, h, _⟩ := hS.tp.2
    exact own_form h
  have hpp : 0 < top.parts.length := List.length_pos_iff.2 hne
  have hS0 := hS.box hn nilBlk
  obtain ⟨c0, c1, c2⟩ := hS0.rd.cells
  have HS0 := Lib.hid hS0
  have HB0 := Lib.hid ((Below.refl B w).alloc hBw nilBlk)
  have HNB := Lib.hid (blk_new w nilBlk)
  have F0 := Lib.hid (box_frm (C := Wk) col w nilBlk)
  have KM := Lib.hid must_yes
  have q0 : decide ((1 : Int) < (low.length : Int) + 1 + 1) = true := decide_eq_true (by omega)
  have KTh := Lib.hid fun W => then_any (ok := fun _ => True) [] none 0 W (by simp) (.inl rfl)
  simp only [foldR, List.length_nil] at KTh
  unfold nilBlk at HS0 HB0 c0 c1 c2 HNB F0
  rw [hl1] at c2
  have hs0 := HS0.out.sizes.1
  clear hS hS0
  go_enter Tryz.func77, Tryz.ntmps77
  go_wp2_with fail
  refine (KM.out _ _).mono ?_
  rintro e w1 ⟨rfl, rfl⟩
  go_wp2_with fail
  refine (KTh.out _).mono ?_
  rintro e w2 ⟨v2, rfl, hv2, hb2⟩
  obtain ⟨t0, t1, t2, t3, t4, tl0, tn, tc, rfl⟩ := cells_re hv2
  have hS2 := HS0.out.below hb2
  have hS3 := hS2.box hn (.cells #[.int .u8 t0, .int .u64 t1, .int .u64 t2, .int .u64 t3, .int .u64 t4, .slice tl0 tn tc] 39)
  have hb3 := (hb2.mono hs0).alloc (Nat.le_trans hs0 hb2.size) (.cells #[.int .u8 t0, .int .u64 t1, .int .u64 t2, .int .u64 t3, .int .u64 t4, .slice tl0 tn tc] 39)
  have HB3 := Lib.hid (HB0.out.trans hb3)
  have hc0 : upd (upd col w.heap.size bxC) w2.heap.size bxC w.heap.size = bxC := by
    rw [upd_far _ (by have := hb2.size; rw [World.size_alloc] at this; omega), upd_at]
  have hf3 := (F0.out.post hb2).trans (box_frm (C := Wk) (upd col w.heap.size bxC) w2 (.cells #[.int .u8 t0, .int .u64 t1, .int .u64 t2, .int .u64 t3, .int .u64 t4, .slice tl0 tn tc] 39))
  have hnb3 : (w2.alloc (.cells #[.int .u8 t0, .int .u64 t1, .int .u64 t2, .int .u64 t3, .int .u64 t4, .slice tl0 tn tc] 39)).heap[w.heap.size]? = some nilBlk := (Below.heap_alloc _ _ _ (by have := hb2.size; rw [World.size_alloc] at this; omega)).trans ((hb2.block _ (by simp)).trans HNB.out)
  have hbx3 := blk_new w2 (.cells #[.int .u8 t0, .int .u64 t1, .int .u64 t2, .int .u64 t3, .int .u64 t4, .slice tl0 tn tc] 39)
  have hre3 : ReAt (Tree B (upd (upd col w.heap.size bxC) w2.heap.size bxC)) (w2.alloc (.cells #[.int .u8 t0, .int .u64 t1, .int .u64 t2, .int .u64 t3, .int .u64 t4, .slice tl0 tn tc] 39)) (.agg #[.int .u8 t0, .int .u64 t1, .int .u64 t2, .int .u64 t3, .int .u64 t4, .slice tl0 tn tc]) Ex.eps.rx := leaf_any _ hv2
  have hlt23 : w.heap.size < w2.heap.size := by have := hb2.size; rw [World.size_alloc] at this; omega
  have hc1 : upd (upd col w.heap.size bxC) w2.heap.size bxC w2.heap.size = bxC := upd_at _ _ _
  generalize upd (upd col w.heap.size bxC) w2.heap.size bxC = col3 at *
  have KT := Lib.hid (top_any hS3.rd (by omega))
  rw [hl1] at KT
  have HS3 := Lib.hid hS3
  have HF3 := Lib.hid hf3
  have HN3 := Lib.hid hnb3
  have HX3 := Lib.hid hbx3
  have HR3 := Lib.hid hre3
  clear hS2 hS3 hb3 hb2 hf3 hnb3 hbx3 hre3 hv2 HS0 HB0 HNB F0 KTh c0 c1 c2
  go_wp2_with fail
  refine KT.out.mono ?_
  rintro e w4 ⟨rfl, hb4⟩
  have hS4 := HS3.out.below hb4
  obtain ⟨l0, l1, lf⟩ := hS4.cells
  rw [hl1] at l0 l1
  have HS4 := Lib.hid hS4
  have HF4 := Lib.hid (HF3.out.post hb4)
  have HB4 := Lib.hid (HB3.out.trans (hb4.mono HS3.out.sizes.1))
  have HN4 := Lib.hid ((hb4.block _ (by rw [World.size_alloc]; omega)).trans HN3.out)
  have HX4 := Lib.hid ((hb4.block _ (by rw [World.size_alloc]; omega)).trans HX3.out)
  have HR4 := Lib.hid (HR3.out.below hb4)
  clear hS4 hb4 HS3 HF3 HB3 HN3 HX3 HR3 KT lf
  have wk : IntKind.i64.wrap ((k : Int) + 1) = (k : Int) + 1 := by rw [IntKind.wrap_i64]; omega
  have KE := Lib.hid fun W (h : Below w4.heap.size w4 W) => expr_yes (HS4.out.below h) hn hr hp hne
  have q1 : IntKind.i64.wrap ((top.rows.length : Int) + (top.parts.length : Int)) = (top.rows.length : Int) + (top.parts.length : Int) := by rw [IntKind.wrap_i64]; omega
  have q2 : decide ((0 : Int) < (top.rows.length : Int) + (top.parts.length : Int)) = true := decide_eq_true (by omega)
  have q3 : decide (0 < top.rows.length + top.parts.length) = true := decide_eq_true (by omega)
  rw [hl1] at hn
  clear hne
  go_wp2_with fail
  go_quiet (fail)
  have hd : Below w4.heap.size w4 (w4.drewN nq) := below_drewN (Below.refl _ _) _
  generalize w4.drewN nq = wd at *
  have HFd := Lib.hid (HF4.out.post hd)
  have HBd := Lib.hid (HB4.out.trans (hd.mono HS4.out.sizes.1))
  have HNd := Lib.hid ((hd.block _ (Array.getElem?_eq_some_iff.1 HN4.out).1).trans HN4.out)
  have HXd := Lib.hid ((hd.block _ (Array.getElem?_eq_some_iff.1 HX4.out).1).trans HX4.out)
  generalize foldE Ex.alt (top.rows ++ [foldE .seq top.parts]) = FE at *
  go_wp2_with fail
  refine (KE.out _ hd).mono ?_
  rintro e we ⟨col5, G5, cap5, vlow5, vr5, vp5, r0, r1, r2, r3, r4, rl, rn, rc, rfl, hbe, hfe, hSe, hree⟩
  have hbl0 := hfe.2 w.heap.size (Array.getElem?_eq_some_iff.1 HNd.out).1
  have hbl1 := hfe.2 w2.heap.size (Array.getElem?_eq_some_iff.1 HXd.out).1
  have hcB : col5 w.heap.size = bxC := hbl0.1.trans hc0
  have hcX : col5 w2.heap.size = bxC := hbl1.1.trans hc1
  have hne_ := (hbl0.2 (by rw [hc0]; exact not_wk)).trans HNd.out
  have hxe := (hbl1.2 (by rw [hc1]; exact not_wk)).trans HXd.out
  obtain ⟨a0, a1, a2, a3, a4, a5, b0, b1, b2, b3, b4, b5⟩ := cellsR hxe
  have HX5 := Lib.hid (putR hxe (.int .u8 r0) (.int .u64 r1) (.int .u64 r2) (.int .u64 r3) (.int .u64 r4) (.slice rl rn rc))
  have HN5 := Lib.hid ((putW_other we w2.heap.size (.int .u8 r0) (.int .u64 r1) (.int .u64 r2) (.int .u64 r3) (.int .u64 r4) (.slice rl rn rc) (show w.heap.size ≠ w2.heap.size from by omega)).trans hne_)
  have HS5 := Lib.hid (hSe.put (by omega) hcX (.int .u8 r0) (.int .u64 r1) (.int .u64 r2) (.int .u64 r3) (.int .u64 r4) (.slice rl rn rc))
  have HR5 := Lib.hid (re_put hree hcX (.int .u8 r0) (.int .u64 r1) (.int .u64 r2) (.int .u64 r3) (.int .u64 r4) (.slice rl rn rc))
  have HF5 := Lib.hid ((HFd.out.trans hfe).put (show w.heap.size ≤ w2.heap.size from by omega) (.int .u8 r0) (.int .u64 r1) (.int .u64 r2) (.int .u64 r3) (.int .u64 r4) (.slice rl rn rc))
  have HB5 := Lib.hid (putB (HBd.out.trans hbe) (show B ≤ w2.heap.size from by omega) (.int .u8 r0) (.int .u64 r1) (.int .u64 r2) (.int .u64 r3) (.int .u64 r4) (.slice rl rn rc))
  clear hfe hbe hSe hree hbl0 hbl1 hne_ hxe hd
  go_wp2_with fail
  generalize hw5 : (((((we.setCell ⟨w2.heap.size, 0, none⟩ (.int .u8 r0)).setCell ⟨w2.heap.size, 1, none⟩ (.int .u64 r1)).setCell ⟨w2.heap.size, 2, none⟩ (.int .u64 r2)).setCell ⟨w2.heap.size, 3, none⟩ (.int .u64 r3)).setCell ⟨w2.heap.size, 4, none⟩ (.int .u64 r4)).setCell ⟨w2.heap.size, 5, none⟩ (.slice rl rn rc) = w5
  have hw5' : putW we w2.heap.size (.int .u8 r0) (.int .u64 r1) (.int .u64 r2) (.int .u64 r3) (.int .u64 r4) (.slice rl rn rc) = w5 := hw5
  rw [hw5'] at HX5 HN5 HS5 HR5 HF5 HB5
  clear hw5 hw5' a0 a1 a2 a3 a4 a5 b0 b1 b2 b3 b4 b5
  have hS5 := HS5.out
  have hr5 := hS5.rd
  rw [hl1] at hr5
  obtain ⟨c0, c1, c2⟩ := hr5.cells
  obtain ⟨f0, f1, f2⟩ := hr5.frozen
  have hcap : low.length + 1 + 1 ≤ cap5 := by have := own_cap hS5.own; rw [hl1] at this; exact this
  have q4 : (low.length : Int) + 1 ≤ (cap5 : Int) := by omega
  have q5 : ((low.length : Int) + 1).toNat = low.length + 1 := by omega
  have q6 : IntKind.i64.wrap ((low.length : Int) + 1) = (low.length : Int) + 1 := by rw [IntKind.wrap_i64]; omega
  have q7 : (0 : Int) ≤ (low.length : Int) + 1 := by omega
  go_still_tail 14, (by kernel_rfl)
  change wpList _ _ _ _ _ w5.drew
  have hS6 := hS5.below (Below.refl _ _).drew
  have hf6 := (HF5.out).post ((Below.refl w5.heap.size w5).drew)
  have hb6 := HB5.out.trans ((Below.refl B w5).drew)
  have hn6 : w5.drew.heap[w.heap.size]? = some nilBlk := by rw [drew_hp]; exact HN5.out
  have hx6 : w5.drew.heap[w2.heap.size]? = some (.cells #[.int .u8 r0, .int .u64 r1, .int .u64 r2, .int .u64 r3, .int .u64 r4, .slice rl rn rc] 39) := by rw [drew_hp]; exact HX5.out
  have hre6 := HR5.out.below (Below.refl w5.heap.size w5).drew
  clear c0 c1 c2 f0 f1 f2 hr5 hS5
  generalize w5.drew = w6 at *
  have hEND := closed_end (w := w) (b0 := w.heap.size) hS6 (by omega) hcB (Nat.le_refl _) hBw hf6 hb6 hre6
  have hr6 := hS6.rd
  rw [hl1] at hr6
  have hDl := hr6.lt
  obtain ⟨c0, c1, c2⟩ := hr6.cells
  obtain ⟨f0, f1, f2⟩ := hr6.frozen
  obtain ⟨g0, g1, g2, g3, g4, g5, p0, p1, p2, p3, p4, p5⟩ := cellsR hn6
  obtain ⟨a0, a1, a2, a3, a4, a5, -⟩ := cellsR hx6
  have hne1 : ¬ D = w.heap.size := fun e => by have := hS6.cD; rw [e, hcB] at this; unfold bxC at this; omega
  have hne2 : ¬ D = w2.heap.size := fun e => by have := hS6.cD; rw [e, hcX] at this; unfold bxC at this; omega
  have hn7 : ((w6.setCell ⟨D, 2, none⟩ (.slice (some ⟨G5, 0, none⟩) (low.length + 1) cap5)).setCell ⟨D, 1, none⟩ (.int .i64 ((k : Int) + 1))).heap[w.heap.size]? = some nilBlk := (Below.heap_setCell _ _ _ _ (fun e => hne1 e.symm)).trans ((Below.heap_setCell _ _ _ _ (fun e => hne1 e.symm)).trans hn6)
  have HP := Lib.hid (putR hn7 (.int .u8 r0) (.int .u64 r1) (.int .u64 r2) (.int .u64 r3) (.int .u64 r4) (.slice rl rn rc))
  have HEND := Lib.hid hEND
  unfold putW at HP HEND
  clear hEND hn7 hS6 hf6 hb6 hre6 hr6 hn6 hx6 HS4 HF4 HB4 HN4 HX4 HR4 HF5 HB5 HN5 HX5 HR5
  go_wp2
  exact ret_re HP.out Tryz.results77 rfl rfl HEND.out
end Go.Proofs.YthgghaaddankoaaGreatDoor
