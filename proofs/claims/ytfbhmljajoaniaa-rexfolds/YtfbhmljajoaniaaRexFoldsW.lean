/- quilllaw03.RexFolds, walked. -/
import Derived.Test.YtfbhmljajoaniaaRexP
import Derived.Test.YtfbhmljajoaniaaRexSameW
namespace Go.Proofs.Ytfbhmljajoaniaa
open Go.RowKit
theorem bel_call {P : Prop} {W x y : World} (hb : Below x.heap.size x y) (h : P ∧ Below W.heap.size W x) : Below W.heap.size W y := h.2.trans (hb.mono h.2.size)
theorem bel_alloc {P : Prop} {W x : World} (o : Obj) (h : P ∧ Below W.heap.size W x) : Below W.heap.size W (x.alloc o) := h.2.alloc h.2.size o
theorem row_at1 {w : World} {g : Nat} {ok : Nat → Prop} {x0 x1 x2 x3 x4 x5 : Value} {r : Rx} (hg : g = w.heap.size) (h : ReAt ok w (.agg #[x0, x1, x2, x3, x4, x5]) r) : RowAt (fun _ => True) (w.alloc (.cells #[x0, x1, x2, x3, x4, x5] 30)) (some ⟨g, 0, none⟩) [r] := by
  subst hg; exact row_new h
theorem row_at2 {w : World} {g : Nat} {ok ok' : Nat → Prop} {x0 x1 x2 x3 x4 x5 y0 y1 y2 y3 y4 y5 : Value} {r t : Rx} (hg : g = w.heap.size) (h : ReAt ok w (.agg #[x0, x1, x2, x3, x4, x5]) r) (h' : ReAt ok' w (.agg #[y0, y1, y2, y3, y4, y5]) t) :
    RowAt (fun _ => True) (w.alloc (.cells #[x0, x1, x2, x3, x4, x5, y0, y1, y2, y3, y4, y5] 30)) (some ⟨g, 0, none⟩) [r, t] := by
  subst hg
  exact row_two (blk_new w _) trivial ((h.below ((Below.refl _ w).alloc (Nat.le_refl _) _)).imp fun _ _ _ => trivial) ((h'.below ((Below.refl _ w).alloc (Nat.le_refl _) _)).imp fun _ _ _ => trivial)
def Cells6 (x : World) (b off : Nat) (x0 x1 x2 x3 x4 x5 : Value) : Prop := x.cell? ⟨b, off, none⟩ = some x0 ∧ x.cell? ⟨b, off + 1, none⟩ = some x1 ∧ x.cell? ⟨b, off + 2, none⟩ = some x2 ∧ x.cell? ⟨b, off + 3, none⟩ = some x3 ∧ x.cell? ⟨b, off + 4, none⟩ = some x4 ∧ x.cell? ⟨b, off + 5, none⟩ = some x5
theorem Cells6.go {W x : World} {b off B : Nat} {x0 x1 x2 x3 x4 x5 : Value} (h : Cells6 W b off x0 x1 x2 x3 x4 x5) (hb : b < B) (hx : Below B W x) : Cells6 x b off x0 x1 x2 x3 x4 x5 := by
  obtain ⟨d0, d1, d2, d3, d4, d5⟩ := h
  have e := fun o => hx.cell (p := ⟨b, o, none⟩) hb
  exact ⟨by rw [e]; exact d0, by rw [e]; exact d1, by rw [e]; exact d2, by rw [e]; exact d3, by rw [e]; exact d4, by rw [e]; exact d5⟩
theorem same45 (l : List Rx) (h : 1 < l.length) : sameR (foldR 4 2 l) (foldR 5 1 l) = false := by
  match l, h with
  | r :: r' :: rs, _ => simp [foldR, sameR]
theorem folds_arith (a s n : Nat) (h : a + 1 = s + n) : (wrap64 ((a : Nat) : Int) == wrap64 (wrap64 (wrap64 ((s : Nat) : Int) + (n : Int)) - 1)) = true := by
  simp only [beq_iff_eq]
  have : (a : Int) = s + n - 1 := by omega
  rw [this]; unfold wrap64; omega
set_option maxHeartbeats 8000000 in
set_option maxRecDepth 100000 in
theorem rexFolds_walk {ok : Nat → Prop} (al : Option Addr) (cap : Nat) (l : List Rx) (w : World) (hl : l.length < 2199023255552) (hcap : l.length ≤ cap) (hR : RowAt ok w al l) :
    Calls Try.prog 7 #[.slice al l.length cap] w fun e w' => e = .returned (.bool true) ∧ Below w.heap.size w w' := by
  have KG := Lib.hid (greatAll_any l 200 al cap w hR hl (by decide))
  have KA := Lib.hid awake_any
  have awk : ∀ W, Below w.heap.size w W → Calls Try.prog 9 #[] W fun e w' => e = .returned (.bool true) ∧ Below w.heap.size w w' := fun W h => (KA.out W).mono fun e w' ⟨h1, h2⟩ => ⟨h1, h.trans (h2.mono h.size)⟩
  have AWK := Lib.hid awk
  clear awk
  by_cases h2 : l.length < 2
  · have d1 : decide ((l.length : Int) < (2 : Int)) = true := by simp; omega
    go_enter Try.func7, Try.ntmps7
    go_wp2_with fail
    refine KG.out.mono ?_
    rintro e w1 ⟨q, rfl, -, -, hb⟩
    cases q
    all_goals
      go_wp2_with fail
      refine (AWK.out _ hb).mono ?_
      rintro e w2 ⟨rfl, hb2⟩
      go_wp2
      go_ret
      exact ⟨rfl, hb2⟩
  have d1 : decide ((l.length : Int) < (2 : Int)) = false := by simp; omega
  obtain ⟨b, off, hab, hblt, hbok, hnodes⟩ : ∃ b off, al = some ⟨b, off, none⟩ ∧ b < w.heap.size ∧ ok b ∧ NodesAt ok w b off l := by
    rcases hR with h | h
    · subst h; simp at h2
    · exact h
  subst hab
  match l, h2 with
  | r :: rs, h2 =>
  have hrs : rs ≠ [] := fun e => by subst e; simp at h2
  have hk0 : NodeAt ok w b off r := by unfold NodesAt at hnodes; exact hnodes.1
  have htail := nodes_tail hnodes
  have hrow : RowAt ok w (some ⟨b, off + 6, none⟩) rs := .inr ⟨b, off + 6, rfl, hblt, hbok, htail⟩
  have e4 : foldR 4 2 [r, foldR 4 2 rs] = foldR 4 2 (r :: rs) := by rw [foldR_cons 4 2 r hrs]; rfl
  have e5 : foldR 5 1 [r, foldR 5 1 rs] = foldR 5 1 (r :: rs) := by rw [foldR_cons 5 1 r hrs]; rfl
  have e45 := same45 (r :: rs) (by omega)
  have z4 := size_foldR 4 2 (r :: rs) (by simp)
  have z5 := size_foldR 5 1 (r :: rs) (by simp)
  have har := folds_arith _ _ _ z4
  have h54 : (foldR 5 1 (r :: rs)).size = (foldR 4 2 (r :: rs)).size := by omega
  have KT := Lib.hid fun W (hb : Below w.heap.size w W) => then_any (r :: rs) _ cap W hl (hR.below hb)
  have KO := Lib.hid fun W (hb : Below w.heap.size w W) => or_any (r :: rs) _ cap W hl (hR.below hb)
  have hlr : rs.length < 2199023255552 := by simp at hl; omega
  have KT1 := Lib.hid fun W (hb : Below w.heap.size w W) => then_any rs _ (cap - 1) W hlr (hrow.below hb)
  have KO1 := Lib.hid fun W (hb : Below w.heap.size w W) => or_any rs _ (cap - 1) W hlr (hrow.below hb)
  have KT2 := Lib.hid fun (al : Option Addr) W (h : RowAt (fun _ => True) W al [r, foldR 4 2 rs]) => then_any _ al 2 W (by simp) h
  have KO2 := Lib.hid fun (al : Option Addr) W (h : RowAt (fun _ => True) W al [r, foldR 5 1 rs]) => or_any _ al 2 W (by simp) h
  rw [e4, show [r, foldR 4 2 rs].length = 2 from rfl] at KT2
  rw [e5, show [r, foldR 5 1 rs].length = 2 from rfl] at KO2
  have KSL := Lib.hid fun W (hb : Below w.heap.size w W) => sizeX (r :: rs) _ cap W hl (hR.below hb)
  have KSZ := Lib.hid fun (al : Option Addr) W (h : RowAt (fun _ => True) W al [foldR 4 2 (r :: rs)] ∨ RowAt (fun _ => True) W al [foldR 5 1 (r :: rs)]) => show Calls Try.prog 13 #[.slice al 1 1] W fun e w' => e = .returned (.int .i64 (wrap64 ((foldR 4 2 (r :: rs)).size : Int))) ∧ Below W.heap.size W w' from by
    rcases h with h | h
    · have := sizeX _ al 1 W (by simp) h
      simpa [Rx.sizes] using this
    · have := sizeX _ al 1 W (by simp) h
      simpa [Rx.sizes, h54] using this
  have KS := Lib.hid fun (a : Rx) (ok1 ok2 : Nat → Prop) (v u : Value) (W : World) (h : ReAt ok1 W v a) (h' : ReAt ok2 W u a) => sameX a a v u W h h'
  simp only [sameR_self] at KS
  have KD := Lib.hid fun (ok1 ok2 : Nat → Prop) (v u : Value) (W : World) (h : ReAt ok1 W v (foldR 4 2 (r :: rs))) (h' : ReAt ok2 W u (foldR 5 1 (r :: rs))) => sameX _ _ v u W h h'
  simp only [e45] at KD
  generalize wrap64 (((foldR 4 2 (r :: rs)).size : Nat) : Int) = zz at *
  generalize foldR 4 2 (r :: rs) = R4 at *
  generalize foldR 5 1 (r :: rs) = R5 at *
  generalize foldR 4 2 rs = T4 at *
  generalize foldR 5 1 rs = T5 at *
  generalize wrap64 ((Rx.sizes (r :: rs) : Nat) : Int) = zl at *
  obtain ⟨n, hn⟩ : ∃ n, n = (r :: rs).length := ⟨_, rfl⟩
  have hn' : rs.length = n - 1 := by simp at hn; omega
  rw [← hn] at hl hcap d1 KG KT KO KSL har h2 ⊢
  rw [hn'] at KT1 KO1
  have q4 : 1 ≤ n := by omega
  have q5 : 0 < n := by omega
  have q3 : (1 : Int) ≤ (n : Int) := by omega
  have q6 : (n : Int) ≤ (cap : Int) := by omega
  have q7 : ¬ cap = 1 := by omega
  obtain ⟨k', ⟨ta, tb, tc, td⟩, ks'⟩ := r
  obtain ⟨al', cap', ⟨c0, c1, c2, c3, c4, c5⟩, hre⟩ := hk0.read
  simp only at c0 c1 c2 c3 c4 c5
  have HC := Lib.hid (show Cells6 w b off _ _ _ _ _ _ from ⟨c0, c1, c2, c3, c4, c5⟩)
  generalize hrr : Rx.node k' ⟨ta, tb, tc, td⟩ ks' = r at *
  have HRE := Lib.hid hre
  have HAR := Lib.hid har
  clear hre hk0 htail hrow hnodes hR e4 e5 e45 z4 z5 h54 c0 c1 c2 c3 c4 c5 hrr hn hn' hlr har hrs
  go_enter Try.func7, Try.ntmps7
  go_wp2_with fail
  refine KG.out.mono ?_
  rintro e w1 ⟨q, rfl, -, -, hb⟩
  cases q with
  | true =>
    go_wp2_with fail
    refine (AWK.out _ hb).mono ?_
    rintro e w2 ⟨rfl, hb2⟩
    go_wp2
    go_ret
    exact ⟨rfl, hb2⟩
  | false =>
    go_wp2_with fail
    refine (KT.out _ hb).mono ?_
    rintro e w2 ⟨v, rfl, hv, hb2⟩
    obtain ⟨x0, x1, x2, x3, x4, xl, xn, xc, rfl⟩ := cells_re hv
    replace hb := hb.trans (hb2.mono hb.size)
    have HX := Lib.hid hv
    clear hv hb2
    go_wp2_with fail
    refine (KO.out _ hb).mono ?_
    rintro e w3 ⟨v, rfl, hv, hb3⟩
    obtain ⟨y0, y1, y2, y3, y4, yl, yn, yc, rfl⟩ := cells_re hv
    replace hb := hb.trans (hb3.mono hb.size)
    have HX3 := Lib.hid (HX.out.below hb3)
    have HY := Lib.hid hv
    clear hv hb3 HX
    go_wp2_with fail
    have hbW := (hb.alloc hb.size (.cells #[.int .u8 x0, .int .u64 x1, .int .u64 x2, .int .u64 x3, .int .u64 x4, .slice xl xn xc] 30)).alloc (Nat.le_trans hb.size (by simp)) (.cells #[.int .u8 y0, .int .u64 y1, .int .u64 y2, .int .u64 y3, .int .u64 y4, .slice yl yn yc] 30)
    have hx0 : ((w3.alloc (.cells #[.int .u8 x0, .int .u64 x1, .int .u64 x2, .int .u64 x3, .int .u64 x4, .slice xl xn xc] 30)).alloc (.cells #[.int .u8 y0, .int .u64 y1, .int .u64 y2, .int .u64 y3, .int .u64 y4, .slice yl yn yc] 30)).heap[w3.heap.size]? = some (.cells #[.int .u8 x0, .int .u64 x1, .int .u64 x2, .int .u64 x3, .int .u64 x4, .slice xl xn xc] 30) := (Below.heap_alloc _ _ _ (by simp)).trans (blk_new w3 _)
    have hy0 : ((w3.alloc (.cells #[.int .u8 x0, .int .u64 x1, .int .u64 x2, .int .u64 x3, .int .u64 x4, .slice xl xn xc] 30)).alloc (.cells #[.int .u8 y0, .int .u64 y1, .int .u64 y2, .int .u64 y3, .int .u64 y4, .slice yl yn yc] 30)).heap[w3.heap.size + 1]? = some (.cells #[.int .u8 y0, .int .u64 y1, .int .u64 y2, .int .u64 y3, .int .u64 y4, .slice yl yn yc] 30) := blk_at _ _ (by simp)
    have hbb : Below w3.heap.size w3 ((w3.alloc (.cells #[.int .u8 x0, .int .u64 x1, .int .u64 x2, .int .u64 x3, .int .u64 x4, .slice xl xn xc] 30)).alloc (.cells #[.int .u8 y0, .int .u64 y1, .int .u64 y2, .int .u64 y3, .int .u64 y4, .slice yl yn yc] 30)) := ((Below.refl _ w3).alloc (Nat.le_refl _) _).alloc (by simp) _
    have hsW : ((w3.alloc (.cells #[.int .u8 x0, .int .u64 x1, .int .u64 x2, .int .u64 x3, .int .u64 x4, .slice xl xn xc] 30)).alloc (.cells #[.int .u8 y0, .int .u64 y1, .int .u64 y2, .int .u64 y3, .int .u64 y4, .slice yl yn yc] 30)).heap.size = w3.heap.size + 2 := by simp
    have hsw := hb.size
    generalize (w3.alloc (.cells #[.int .u8 x0, .int .u64 x1, .int .u64 x2, .int .u64 x3, .int .u64 x4, .slice xl xn xc] 30)).alloc (.cells #[.int .u8 y0, .int .u64 y1, .int .u64 y2, .int .u64 y3, .int .u64 y4, .slice yl yn yc] 30) = W at *
    have KEEP := Lib.hid fun x (hx : Below W.heap.size W x) => show ((x.cell? ⟨w3.heap.size, 0, none⟩ = some (.int .u8 x0) ∧ x.cell? ⟨w3.heap.size, 1, none⟩ = some (.int .u64 x1) ∧ x.cell? ⟨w3.heap.size, 2, none⟩ = some (.int .u64 x2) ∧ x.cell? ⟨w3.heap.size, 3, none⟩ = some (.int .u64 x3) ∧ x.cell? ⟨w3.heap.size, 4, none⟩ = some (.int .u64 x4) ∧ x.cell? ⟨w3.heap.size, 5, none⟩ = some (.slice xl xn xc)) ∧ (x.cell? ⟨w3.heap.size + 1, 0, none⟩ = some (.int .u8 y0) ∧ x.cell? ⟨w3.heap.size + 1, 1, none⟩ = some (.int .u64 y1) ∧ x.cell? ⟨w3.heap.size + 1, 2, none⟩ = some (.int .u64 y2) ∧ x.cell? ⟨w3.heap.size + 1, 3, none⟩ = some (.int .u64 y3) ∧ x.cell? ⟨w3.heap.size + 1, 4, none⟩ = some (.int .u64 y4) ∧ x.cell? ⟨w3.heap.size + 1, 5, none⟩ = some (.slice yl yn yc)) ∧ (x.cell? ⟨b, off, none⟩ = some (.int .u8 k') ∧ x.cell? ⟨b, off + 1, none⟩ = some (.int .u64 ta) ∧ x.cell? ⟨b, off + 2, none⟩ = some (.int .u64 tb) ∧ x.cell? ⟨b, off + 3, none⟩ = some (.int .u64 tc) ∧ x.cell? ⟨b, off + 4, none⟩ = some (.int .u64 td) ∧ x.cell? ⟨b, off + 5, none⟩ = some (.slice al' ks'.length cap'))) ∧ Below W.heap.size W x from by
      have hx1 : x.heap[w3.heap.size]? = some (.cells #[.int .u8 x0, .int .u64 x1, .int .u64 x2, .int .u64 x3, .int .u64 x4, .slice xl xn xc] 30) := (hx.block _ (by omega)).trans hx0
      have hy1 : x.heap[w3.heap.size + 1]? = some (.cells #[.int .u8 y0, .int .u64 y1, .int .u64 y2, .int .u64 y3, .int .u64 y4, .slice yl yn yc] 30) := (hx.block _ (by omega)).trans hy0
      obtain ⟨a0, a1, a2, a3, a4, a5, -⟩ := cellsR hx1
      obtain ⟨b0, b1, b2, b3, b4, b5, -⟩ := cellsR hy1
      have hc := (HC.out.go hblt hbW).go (Nat.lt_of_lt_of_le hblt (by omega)) hx
      exact ⟨⟨⟨a0, a1, a2, a3, a4, a5⟩, ⟨b0, b1, b2, b3, b4, b5⟩, hc⟩, hx⟩
    have RX := Lib.hid fun x (hx : Below W.heap.size W x) => (HX3.out.below hbb).below hx
    have RY := Lib.hid fun x (hx : Below W.heap.size W x) => (HY.out.below hbb).below hx
    have RL := Lib.hid fun x (hx : Below W.heap.size W x) => (HRE.out.below hbW).below hx
    obtain ⟨m1, hm1⟩ : ∃ m1, IntKind.i64.wrap (zl + (n : Int)) = m1 := ⟨_, rfl⟩
    have hm2 : IntKind.i64.wrap (m1 - 1) = zz := by
      have h := HAR.out
      rw [← IntWalk.i64_left (zl + (n : Int)), hm1, ← IntWalk.i64_left] at h
      exact (beq_iff_eq.1 h).symm
    have HBW := Lib.hid hbW
    clear hx0 hy0 hbb HX3 HY HC HRE KT KO KG HAR
    go_region_held3 (fun x => ((x.cell? ⟨w3.heap.size, 0, none⟩ = some (.int .u8 x0) ∧ x.cell? ⟨w3.heap.size, 1, none⟩ = some (.int .u64 x1) ∧ x.cell? ⟨w3.heap.size, 2, none⟩ = some (.int .u64 x2) ∧ x.cell? ⟨w3.heap.size, 3, none⟩ = some (.int .u64 x3) ∧ x.cell? ⟨w3.heap.size, 4, none⟩ = some (.int .u64 x4) ∧ x.cell? ⟨w3.heap.size, 5, none⟩ = some (.slice xl xn xc)) ∧ (x.cell? ⟨w3.heap.size + 1, 0, none⟩ = some (.int .u8 y0) ∧ x.cell? ⟨w3.heap.size + 1, 1, none⟩ = some (.int .u64 y1) ∧ x.cell? ⟨w3.heap.size + 1, 2, none⟩ = some (.int .u64 y2) ∧ x.cell? ⟨w3.heap.size + 1, 3, none⟩ = some (.int .u64 y3) ∧ x.cell? ⟨w3.heap.size + 1, 4, none⟩ = some (.int .u64 y4) ∧ x.cell? ⟨w3.heap.size + 1, 5, none⟩ = some (.slice yl yn yc)) ∧ (x.cell? ⟨b, off, none⟩ = some (.int .u8 k') ∧ x.cell? ⟨b, off + 1, none⟩ = some (.int .u64 ta) ∧ x.cell? ⟨b, off + 2, none⟩ = some (.int .u64 tb) ∧ x.cell? ⟨b, off + 3, none⟩ = some (.int .u64 tc) ∧ x.cell? ⟨b, off + 4, none⟩ = some (.int .u64 td) ∧ x.cell? ⟨b, off + 5, none⟩ = some (.slice al' ks'.length cap'))) ∧ Below W.heap.size W x)
      (first | assumption | (with_reducible exact KEEP.out _ (Below.refl _ _).drew) | (with_reducible exact KEEP.out _ (by assumption)) | (with_reducible exact KEEP.out _ (bel_alloc _ (by assumption))))
      (first
      | (go_at_call 17; (with_reducible refine (KT1.out _ (Below.trans hbW (Below.mono (And.right (by assumption)) hbW.size))).mono ?_); (rintro e wp ⟨vp, rfl, hvp, hbp⟩); (have hWp := bel_call hbp (by assumption)); (obtain ⟨p0, p1, p2, p3, p4, pl, pn, pc, rfl⟩ := cells_re hvp))
      | (go_at_call 17; (with_reducible refine (KT2.out _ _ ?_).mono ?_); (focus (exact row_at2 (by simp) (RL.out _ hWp) hvp)); (rintro e wr ⟨vr, rfl, hvr, hbr⟩); (have hWr := bel_call hbr (by assumption)); (obtain ⟨r0, r1, r2, r3, r4, rl, rn, rc, rfl⟩ := cells_re hvr))
      | (go_at_call 16; (with_reducible refine (KS.out R4 _ _ _ _ _ (RX.out _ (And.right (by assumption))) hvr).mono ?_); (rintro e ws ⟨rfl, hbs⟩); (have hWs := bel_call hbs (by assumption)))
      | (go_at_call 19; (with_reducible refine (KO1.out _ (Below.trans hbW (Below.mono (And.right (by assumption)) hbW.size))).mono ?_); (rintro e wt ⟨vt, rfl, hvt, hbt⟩); (have hWt := bel_call hbt (by assumption)); (obtain ⟨t0, t1, t2, t3, t4, tl, tn, tc, rfl⟩ := cells_re hvt))
      | (go_at_call 19; (with_reducible refine (KO2.out _ _ ?_).mono ?_); (focus (exact row_at2 (by simp) (RL.out _ hWt) hvt)); (rintro e wu ⟨vu, rfl, hvu, hbu⟩); (have hWu := bel_call hbu (by assumption)); (obtain ⟨u0, u1, u2, u3, u4, ul, un, uc, rfl⟩ := cells_re hvu))
      | (go_at_call 16; (with_reducible refine (KS.out R5 _ _ _ _ _ (RY.out _ (And.right (by assumption))) hvu).mono ?_); (rintro e wv ⟨rfl, hbv⟩); (have hWv := bel_call hbv (by assumption)))
      | (go_at_call 13; (with_reducible refine (KSL.out _ (Below.trans hbW (Below.mono (And.right (by assumption)) hbW.size))).mono ?_); (rintro e wz ⟨rfl, hbz⟩); (have hWz := bel_call hbz (by assumption)))
      | (go_at_call 13; (with_reducible refine (KSZ.out _ _ ?_).mono ?_); (focus (first | exact .inl (row_at1 (by simp) (RX.out _ hWv)) | exact .inr (row_at1 (by simp) (RY.out _ hWz)) | exact .inl (row_at1 (by simp) (RX.out _ hWk)) | exact .inr ((row_at1 (by simp) (RY.out _ hWz)).below ((Below.refl _ _).alloc (Nat.le_refl _) _)) | exact .inl ((row_at1 (by simp) (RX.out _ (hWz.alloc hWz.size _))).below hbk) | exact .inr (row_at1 (by simp) (RY.out _ (hWz.alloc hWz.size _))) | exact .inl (((row_at1 (by simp) (RX.out _ hWz)).below ((Below.refl _ _).alloc (Nat.le_refl _) _)).below hbk))); (rintro e wk ⟨rfl, hbk⟩); (have hWk := bel_call hbk (by assumption)))
      | (go_at_call 16; (with_reducible refine (KD.out _ _ _ _ _ (RX.out _ (And.right (by assumption))) (RY.out _ (And.right (by assumption)))).mono ?_); (rintro e wd ⟨rfl, hbd⟩); (have hWd := bel_call hbd (by assumption)))
      | (go_at_call 9; (with_reducible refine (KA.out _).mono ?_); (rintro e wa ⟨rfl, hba⟩); (have hWa := bel_call hba (by assumption))))
    all_goals
      have hfin := Lib.hid (HBW.out.trans (hWa.mono HBW.out.size))
      clear hvp hvr hvt hvu
      go_wp2
      go_ret
      exact ⟨rfl, hfin.out⟩
end Go.Proofs.Ytfbhmljajoaniaa
