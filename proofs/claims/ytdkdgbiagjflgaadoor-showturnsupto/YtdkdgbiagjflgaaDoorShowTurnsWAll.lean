/- Lemmas of mine, merged: ShowTurnsW. -/
import Derived.Deep.CutRange
import Derived.Deep.RegionHeld3
import Derived.Test.YtdkdgbiagjflgaaDoorSetKAll
/- quilllaw05.ShowTurns, walked. -/
namespace Go.Proofs.YtdkdgbiagjflgaaDoor
open Go.RowKit
set_option maxHeartbeats 4000000 in
theorem showTurns_walk (hText : TextC) (hAwake : AwakeC) {ok : Nat → Prop} (a b c : Rx) (kind : Bool) (v u t : Value) (w : World) (hT : Tab w) (h : ReAt ok w v a) (h' : ReAt ok w u b) (h'' : ReAt ok w t c) (ha : a.size ≤ 1048576) (hb : b.size ≤ 1048576) (hc : c.size ≤ 1048576) :
    Calls Tryd.prog 5 #[v, u, t, .bool kind] w fun e w' => e = .returned (.bool true) ∧ Below w.heap.size w w' := by
  obtain ⟨x0, x1, x2, x3, x4, xl, xn, xc, rfl⟩ := cells_re h
  obtain ⟨y0, y1, y2, y3, y4, yl, yn, yc, rfl⟩ := cells_re h'
  obtain ⟨z0, z1, z2, z3, z4, zl, zn, zc, rfl⟩ := cells_re h''
  have G1 := Lib.hid fun W (hb : Below w.heap.size w W) => great_any a 60 _ W (h.below hb) (by decide)
  have HM1 := Lib.hid (fun h => great_60 (r := a) h ha)
  have MM1 := Lib.hid fun (hz : a.size ≤ 60) W (hb : Below w.heap.size w W) => refMay_any a _ W (by omega) (h.below hb)
  have G2 := Lib.hid fun W (hb : Below w.heap.size w W) => great_any b 60 _ W (h'.below hb) (by decide)
  have HM2 := Lib.hid (fun h => great_60 (r := b) h hb)
  have MM2 := Lib.hid fun (hz : b.size ≤ 60) W (hb : Below w.heap.size w W) => refMay_any b _ W (by omega) (h'.below hb)
  have G3 := Lib.hid fun W (hb : Below w.heap.size w W) => great_any c 60 _ W (h''.below hb) (by decide)
  have HM3 := Lib.hid (fun h => great_60 (r := c) h hc)
  have MM3 := Lib.hid fun (hz : c.size ≤ 60) W (hb : Below w.heap.size w W) => refMay_any c _ W (by omega) (h''.below hb)
  have KA := Lib.hid fun W (hb : Below w.heap.size w W) => hAwake W (hT.go hb)
  have HA := Lib.hid h
  have HB := Lib.hid h'
  have HC := Lib.hid h''
  have HTX := Lib.hid hText
  have HT := Lib.hid hT
  clear h h' h'' hT hText hAwake
  obtain ⟨m1, hm1⟩ : ∃ m, mayR a = m := ⟨_, rfl⟩
  obtain ⟨m2, hm2⟩ : ∃ m, mayR b = m := ⟨_, rfl⟩
  obtain ⟨m3, hm3⟩ : ∃ m, mayR c = m := ⟨_, rfl⟩
  rw [hm1] at MM1
  rw [hm2] at MM2
  rw [hm3] at MM3
  have Q1 := Lib.hid hm1
  have Q2 := Lib.hid hm2
  have Q3 := Lib.hid hm3
  clear hm1 hm2 hm3
  go_enter Tryd.func5, Tryd.ntmps5
  go_wp2_with fail
  have B := Lib.hid (Boxes3.new w (.cells #[.int .u8 x0, .int .u64 x1, .int .u64 x2, .int .u64 x3, .int .u64 x4, .slice xl xn xc] 30) (.cells #[.int .u8 y0, .int .u64 y1, .int .u64 y2, .int .u64 y3, .int .u64 y4, .slice yl yn yc] 30) (.cells #[.int .u8 z0, .int .u64 z1, .int .u64 z2, .int .u64 z3, .int .u64 z4, .slice zl zn zc] 30))
  obtain ⟨d0, d1, d2, d3, d4, d5, -⟩ := cellsR B.out.2.1
  obtain ⟨g0, g1, g2, g3, g4, g5, -⟩ := cellsR B.out.2.2.1
  obtain ⟨k0, k1, k2, k3, k4, k5, -⟩ := cellsR B.out.2.2.2
  refine (G1.out _ B.out.1).mono ?_
  rintro e w' ⟨⟨p, rfl, hp1⟩, hb⟩
  replace B := Lib.hid (B.out.go hb)
  clear hb d0 d1 d2 d3 d4 d5 g0 g1 g2 g3 g4 g5 k0 k1 k2 k3 k4 k5
  obtain ⟨d0, d1, d2, d3, d4, d5, -⟩ := cellsR B.out.2.1
  obtain ⟨g0, g1, g2, g3, g4, g5, -⟩ := cellsR B.out.2.2.1
  obtain ⟨k0, k1, k2, k3, k4, k5, -⟩ := cellsR B.out.2.2.2
  have HP1 := Lib.hid hp1
  clear hp1
  cases p with
  | true =>
    go_wp2_with fail
    refine (KA.out _ B.out.1).mono ?_
    rintro e w2 ⟨rfl, hb⟩
    have hB := (B.out.go hb).1
    clear hb d0 d1 d2 d3 d4 d5 g0 g1 g2 g3 g4 g5 k0 k1 k2 k3 k4 k5
    go_wp2
    go_ret
    exact ⟨rfl, hB⟩
  | false =>
    go_wp2_with fail
    refine (G2.out _ B.out.1).mono ?_
    rintro e w' ⟨⟨p, rfl, hp2⟩, hb⟩
    replace B := Lib.hid (B.out.go hb)
    clear hb d0 d1 d2 d3 d4 d5 g0 g1 g2 g3 g4 g5 k0 k1 k2 k3 k4 k5
    obtain ⟨d0, d1, d2, d3, d4, d5, -⟩ := cellsR B.out.2.1
    obtain ⟨g0, g1, g2, g3, g4, g5, -⟩ := cellsR B.out.2.2.1
    obtain ⟨k0, k1, k2, k3, k4, k5, -⟩ := cellsR B.out.2.2.2
    have HP2 := Lib.hid hp2
    clear hp2
    cases p with
    | true =>
      go_wp2_with fail
      refine (KA.out _ B.out.1).mono ?_
      rintro e w2 ⟨rfl, hb⟩
      have hB := (B.out.go hb).1
      clear hb d0 d1 d2 d3 d4 d5 g0 g1 g2 g3 g4 g5 k0 k1 k2 k3 k4 k5
      go_wp2
      go_ret
      exact ⟨rfl, hB⟩
    | false =>
      go_wp2_with fail
      refine (G3.out _ B.out.1).mono ?_
      rintro e w' ⟨⟨p, rfl, hp3⟩, hb⟩
      replace B := Lib.hid (B.out.go hb)
      clear hb d0 d1 d2 d3 d4 d5 g0 g1 g2 g3 g4 g5 k0 k1 k2 k3 k4 k5
      obtain ⟨d0, d1, d2, d3, d4, d5, -⟩ := cellsR B.out.2.1
      obtain ⟨g0, g1, g2, g3, g4, g5, -⟩ := cellsR B.out.2.2.1
      obtain ⟨k0, k1, k2, k3, k4, k5, -⟩ := cellsR B.out.2.2.2
      have HP3 := Lib.hid hp3
      clear hp3
      cases p with
      | true =>
        go_wp2_with fail
        refine (KA.out _ B.out.1).mono ?_
        rintro e w2 ⟨rfl, hb⟩
        have hB := (B.out.go hb).1
        clear hb d0 d1 d2 d3 d4 d5 g0 g1 g2 g3 g4 g5 k0 k1 k2 k3 k4 k5
        go_wp2
        go_ret
        exact ⟨rfl, hB⟩
      | false =>
        have Z1 := Lib.hid (HM1.out HP1.out)
        have M1 := Lib.hid (MM1.out Z1.out)
        have Z2 := Lib.hid (HM2.out HP2.out)
        have M2 := Lib.hid (MM2.out Z2.out)
        have Z3 := Lib.hid (HM3.out HP3.out)
        have M3 := Lib.hid (MM3.out Z3.out)
        clear MM1 MM2 MM3 HM1 HM2 HM3 HP1 HP2 HP3 G1 G2 G3
        go_wp2_with fail
        refine (M1.out _ B.out.1).mono ?_
        rintro e w' ⟨rfl, hb⟩
        replace B := Lib.hid (B.out.go hb)
        clear hb d0 d1 d2 d3 d4 d5 g0 g1 g2 g3 g4 g5 k0 k1 k2 k3 k4 k5
        obtain ⟨d0, d1, d2, d3, d4, d5, -⟩ := cellsR B.out.2.1
        obtain ⟨g0, g1, g2, g3, g4, g5, -⟩ := cellsR B.out.2.2.1
        obtain ⟨k0, k1, k2, k3, k4, k5, -⟩ := cellsR B.out.2.2.2
        cases m1 with
        | false =>
          go_wp2_with fail
          refine (KA.out _ B.out.1).mono ?_
          rintro e w2 ⟨rfl, hb⟩
          have hB := (B.out.go hb).1
          clear hb d0 d1 d2 d3 d4 d5 g0 g1 g2 g3 g4 g5 k0 k1 k2 k3 k4 k5
          go_wp2
          go_ret
          exact ⟨rfl, hB⟩
        | true =>
          go_wp2_with fail
          refine (M2.out _ B.out.1).mono ?_
          rintro e w' ⟨rfl, hb⟩
          replace B := Lib.hid (B.out.go hb)
          clear hb d0 d1 d2 d3 d4 d5 g0 g1 g2 g3 g4 g5 k0 k1 k2 k3 k4 k5
          obtain ⟨d0, d1, d2, d3, d4, d5, -⟩ := cellsR B.out.2.1
          obtain ⟨g0, g1, g2, g3, g4, g5, -⟩ := cellsR B.out.2.2.1
          obtain ⟨k0, k1, k2, k3, k4, k5, -⟩ := cellsR B.out.2.2.2
          cases m2 with
          | false =>
            go_wp2_with fail
            refine (KA.out _ B.out.1).mono ?_
            rintro e w2 ⟨rfl, hb⟩
            have hB := (B.out.go hb).1
            clear hb d0 d1 d2 d3 d4 d5 g0 g1 g2 g3 g4 g5 k0 k1 k2 k3 k4 k5
            go_wp2
            go_ret
            exact ⟨rfl, hB⟩
          | true =>
            go_wp2_with fail
            refine (M3.out _ B.out.1).mono ?_
            rintro e w' ⟨rfl, hb⟩
            replace B := Lib.hid (B.out.go hb)
            clear hb d0 d1 d2 d3 d4 d5 g0 g1 g2 g3 g4 g5 k0 k1 k2 k3 k4 k5
            obtain ⟨d0, d1, d2, d3, d4, d5, -⟩ := cellsR B.out.2.1
            obtain ⟨g0, g1, g2, g3, g4, g5, -⟩ := cellsR B.out.2.2.1
            obtain ⟨k0, k1, k2, k3, k4, k5, -⟩ := cellsR B.out.2.2.2
            cases m3 with
            | false =>
              go_wp2_with fail
              refine (KA.out _ B.out.1).mono ?_
              rintro e w2 ⟨rfl, hb⟩
              have hB := (B.out.go hb).1
              clear hb d0 d1 d2 d3 d4 d5 g0 g1 g2 g3 g4 g5 k0 k1 k2 k3 k4 k5
              go_wp2
              go_ret
              exact ⟨rfl, hB⟩
            | true =>
              obtain ⟨w0, hw0⟩ : ∃ w0, w0 = w' := ⟨_, rfl⟩
              subst hw0
              clear d0 d1 d2 d3 d4 d5 g0 g1 g2 g3 g4 g5 k0 k1 k2 k3 k4 k5
              have KEEP := Lib.hid fun x (hx2 : Below w0.heap.size w0 x) => show ((x.cell? ⟨w.heap.size, 0, none⟩ = some (.int .u8 x0) ∧ x.cell? ⟨w.heap.size, 1, none⟩ = some (.int .u64 x1) ∧ x.cell? ⟨w.heap.size, 2, none⟩ = some (.int .u64 x2) ∧ x.cell? ⟨w.heap.size, 3, none⟩ = some (.int .u64 x3) ∧ x.cell? ⟨w.heap.size, 4, none⟩ = some (.int .u64 x4) ∧ x.cell? ⟨w.heap.size, 5, none⟩ = some (.slice xl xn xc)) ∧ (x.cell? ⟨w.heap.size + 1, 0, none⟩ = some (.int .u8 y0) ∧ x.cell? ⟨w.heap.size + 1, 1, none⟩ = some (.int .u64 y1) ∧ x.cell? ⟨w.heap.size + 1, 2, none⟩ = some (.int .u64 y2) ∧ x.cell? ⟨w.heap.size + 1, 3, none⟩ = some (.int .u64 y3) ∧ x.cell? ⟨w.heap.size + 1, 4, none⟩ = some (.int .u64 y4) ∧ x.cell? ⟨w.heap.size + 1, 5, none⟩ = some (.slice yl yn yc)) ∧ (x.cell? ⟨w.heap.size + 1 + 1, 0, none⟩ = some (.int .u8 z0) ∧ x.cell? ⟨w.heap.size + 1 + 1, 1, none⟩ = some (.int .u64 z1) ∧ x.cell? ⟨w.heap.size + 1 + 1, 2, none⟩ = some (.int .u64 z2) ∧ x.cell? ⟨w.heap.size + 1 + 1, 3, none⟩ = some (.int .u64 z3) ∧ x.cell? ⟨w.heap.size + 1 + 1, 4, none⟩ = some (.int .u64 z4) ∧ x.cell? ⟨w.heap.size + 1 + 1, 5, none⟩ = some (.slice zl zn zc))) ∧ Below w0.heap.size w0 x from by
                obtain ⟨d0, d1, d2, d3, d4, d5, -⟩ := cellsR ((hx2.block _ (Array.getElem?_eq_some_iff.1 B.out.2.1).1).trans B.out.2.1)
                obtain ⟨e0, e1, e2, e3, e4, e5, -⟩ := cellsR ((hx2.block _ (Array.getElem?_eq_some_iff.1 B.out.2.2.1).1).trans B.out.2.2.1)
                obtain ⟨f0, f1, f2, f3, f4, f5, -⟩ := cellsR ((hx2.block _ (Array.getElem?_eq_some_iff.1 B.out.2.2.2).1).trans B.out.2.2.2)
                exact ⟨⟨⟨d0, d1, d2, d3, d4, d5⟩, ⟨e0, e1, e2, e3, e4, e5⟩, ⟨f0, f1, f2, f3, f4, f5⟩⟩, hx2⟩
              have RA0 := Lib.hid fun W (h : Below w0.heap.size w0 W) => (HA.out.imp (ok' := Lo w0.heap.size) fun b hb _ => Nat.lt_of_lt_of_le hb B.out.1.size).below (B.out.1.trans (h.mono B.out.1.size))
              have RB0 := Lib.hid fun W (h : Below w0.heap.size w0 W) => (HB.out.imp (ok' := Lo w0.heap.size) fun b hb _ => Nat.lt_of_lt_of_le hb B.out.1.size).below (B.out.1.trans (h.mono B.out.1.size))
              have RC0 := Lib.hid fun W (h : Below w0.heap.size w0 W) => (HC.out.imp (ok' := Lo w0.heap.size) fun b hb _ => Nat.lt_of_lt_of_le hb B.out.1.size).below (B.out.1.trans (h.mono B.out.1.size))
              have HKK := Lib.hid fun (kk : Nat) (hk : kk < 256) (r t : Rx) (v u : Value) (W : World) (ok : Nat → Prop) (h : ReAt ok W v r) (h' : ReAt ok W u t) => show Calls Tryd.prog 16 #[.int .u8 kk, v, u] W (RePost ok (.node kk Ws.nil [r, t]) W) from two_any kk r t v u W hk h h'
              go_upto_if 40 with fail
              go_cut [9] from 40 to 40 (fun s wc => (∃ kk, KindAt s kk) ∧ wc = w0)
              case first =>
                cases kind with
                | true =>
                  go_wp2_with fail
                  go_meet
                  exact ⟨⟨5, rfl, .inr rfl⟩, rfl⟩
                | false =>
                  go_wp2_with fail
                  go_meet
                  exact ⟨⟨4, rfl, .inl rfl⟩, rfl⟩
              case rest =>
                obtain ⟨⟨kk, rfl, hkk⟩, hwc⟩ := hcut
                replace hwc := hwc.symm
                subst hwc
                have HK := Lib.hid hkk
                have K2 := Lib.hid (HKK.out kk (by rcases hkk with rfl | rfl <;> decide))
                clear hkk HKK
                go_upto_region 6 with fail
                go_cut [10] from 41 to 47 (fun s wc => Held (.node kk Ws.nil [.node kk Ws.nil [a, b], c]) w0 s wc)
                case first =>
                  have hW0 := (Below.refl w0.heap.size w0).drew
                  go_region_held3 (fun x => ((x.cell? ⟨w.heap.size, 0, none⟩ = some (.int .u8 x0) ∧ x.cell? ⟨w.heap.size, 1, none⟩ = some (.int .u64 x1) ∧ x.cell? ⟨w.heap.size, 2, none⟩ = some (.int .u64 x2) ∧ x.cell? ⟨w.heap.size, 3, none⟩ = some (.int .u64 x3) ∧ x.cell? ⟨w.heap.size, 4, none⟩ = some (.int .u64 x4) ∧ x.cell? ⟨w.heap.size, 5, none⟩ = some (.slice xl xn xc)) ∧ (x.cell? ⟨w.heap.size + 1, 0, none⟩ = some (.int .u8 y0) ∧ x.cell? ⟨w.heap.size + 1, 1, none⟩ = some (.int .u64 y1) ∧ x.cell? ⟨w.heap.size + 1, 2, none⟩ = some (.int .u64 y2) ∧ x.cell? ⟨w.heap.size + 1, 3, none⟩ = some (.int .u64 y3) ∧ x.cell? ⟨w.heap.size + 1, 4, none⟩ = some (.int .u64 y4) ∧ x.cell? ⟨w.heap.size + 1, 5, none⟩ = some (.slice yl yn yc)) ∧ (x.cell? ⟨w.heap.size + 1 + 1, 0, none⟩ = some (.int .u8 z0) ∧ x.cell? ⟨w.heap.size + 1 + 1, 1, none⟩ = some (.int .u64 z1) ∧ x.cell? ⟨w.heap.size + 1 + 1, 2, none⟩ = some (.int .u64 z2) ∧ x.cell? ⟨w.heap.size + 1 + 1, 3, none⟩ = some (.int .u64 z3) ∧ x.cell? ⟨w.heap.size + 1 + 1, 4, none⟩ = some (.int .u64 z4) ∧ x.cell? ⟨w.heap.size + 1 + 1, 5, none⟩ = some (.slice zl zn zc))) ∧ Below w0.heap.size w0 x)
                    (first | (with_reducible exact KEEP.out _ hW0) | (with_reducible exact KEEP.out _ hWl) | (with_reducible exact KEEP.out _ hWo) | (with_reducible exact KEEP.out _ (((Below.refl w0.heap.size w0).alloc (Nat.le_refl _) _).drew)) | (with_reducible exact KEEP.out _ (hWl.alloc hWl.size _)) | (with_reducible exact KEEP.out _ (hWo.alloc hWo.size _)) | (with_reducible exact KEEP.out _ (bel_put hWl hWo.size _ _ _ _ _ _)) | (with_reducible exact KEEP.out _ (bel_put hWl (Nat.le_refl _) _ _ _ _ _ _)))
                    (first
                    | (go_at_call 16; (with_reducible refine (K2.out _ _ _ _ _ _ (RA0.out _ ?_) (RB0.out _ ?_)).mono ?_); (focus (first | with_reducible exact hW0 | with_reducible exact (((Below.refl w0.heap.size w0).alloc (Nat.le_refl _) _).drew))); (focus (first | with_reducible exact hW0 | with_reducible exact (((Below.refl w0.heap.size w0).alloc (Nat.le_refl _) _).drew))); (rintro e wo ⟨vo, rfl, hvo, hbo⟩); (first | (with_reducible have hWo := bel_first0 (w0 := w0) hbo) | (with_reducible have hWo := bel_first2 (w0 := w0) hbo)); (obtain ⟨n1, hn1, hv1⟩ := two_first hvo); (obtain ⟨o0, o1, o2, o3, o4, ol, oq, oc, rfl⟩ := cells_re hv1))
                    | (go_at_call 16; (with_reducible refine (K2.out (.node kk Ws.nil [a, b]) c _ _ _ (Nb w0.heap.size n1 wo.heap.size) ?_ ?_).mono ?_); (focus (first | with_reducible exact hv1 | with_reducible exact hv1.below ((Below.refl _ _).alloc (Nat.le_refl _) _))); (focus (first | with_reducible exact (RC0.out _ hWo).imp fun _ _ h => nb_lo h hWo.size | with_reducible exact (RC0.out _ (hWo.alloc hWo.size _)).imp fun _ _ h => nb_lo h hWo.size)); (rintro e wl ⟨vl, rfl, hvl, hbl⟩); (first | (with_reducible have hWl := bel_second hWo hbl) | (with_reducible have hWl := bel_second' hWo hbl)); (obtain ⟨p0, p1, p2, p3, p4, pl, pq, pc, rfl⟩ := cells_re hvl); (first | ((with_reducible have hfr := heldB (wo := wo) hbl); (obtain ⟨f0, f1, f2, f3, f4, f5, k0, k1, k2, k3, k4, k5⟩ := cellsR hfr)) | ((with_reducible have hfr := heldC (w0 := w0) hbo hbl); (obtain ⟨f0, f1, f2, f3, f4, f5, k0, k1, k2, k3, k4, k5⟩ := cellsR hfr)) | skip))
                    | fail)

                  all_goals (go_wp2_with fail; go_meet; first
                    | (with_reducible exact held_new hvl hWl)
                    | (with_reducible exact held_put hfr okB hWo.size hvl hWl)
                    | (with_reducible exact held_put hfr (okA hn1 hbo.size) (Nat.le_refl _) hvl hWl))
                case rest =>
                  obtain ⟨w1, hw1⟩ : ∃ w1, w1 = wc := ⟨_, rfl⟩
                  subst hw1
                  obtain ⟨g, p0, p1, p2, p3, p4, pl, pq, pc, rfl, hg, hv, hb01⟩ := hcut
                  have HG := Lib.hid hg
                  have HV := Lib.hid hv
                  have KEEP1 := Lib.hid fun x (hx2 : Below w1.heap.size w1 x) => show ((x.cell? ⟨w.heap.size, 0, none⟩ = some (.int .u8 x0) ∧ x.cell? ⟨w.heap.size, 1, none⟩ = some (.int .u64 x1) ∧ x.cell? ⟨w.heap.size, 2, none⟩ = some (.int .u64 x2) ∧ x.cell? ⟨w.heap.size, 3, none⟩ = some (.int .u64 x3) ∧ x.cell? ⟨w.heap.size, 4, none⟩ = some (.int .u64 x4) ∧ x.cell? ⟨w.heap.size, 5, none⟩ = some (.slice xl xn xc)) ∧ (x.cell? ⟨w.heap.size + 1, 0, none⟩ = some (.int .u8 y0) ∧ x.cell? ⟨w.heap.size + 1, 1, none⟩ = some (.int .u64 y1) ∧ x.cell? ⟨w.heap.size + 1, 2, none⟩ = some (.int .u64 y2) ∧ x.cell? ⟨w.heap.size + 1, 3, none⟩ = some (.int .u64 y3) ∧ x.cell? ⟨w.heap.size + 1, 4, none⟩ = some (.int .u64 y4) ∧ x.cell? ⟨w.heap.size + 1, 5, none⟩ = some (.slice yl yn yc)) ∧ (x.cell? ⟨w.heap.size + 1 + 1, 0, none⟩ = some (.int .u8 z0) ∧ x.cell? ⟨w.heap.size + 1 + 1, 1, none⟩ = some (.int .u64 z1) ∧ x.cell? ⟨w.heap.size + 1 + 1, 2, none⟩ = some (.int .u64 z2) ∧ x.cell? ⟨w.heap.size + 1 + 1, 3, none⟩ = some (.int .u64 z3) ∧ x.cell? ⟨w.heap.size + 1 + 1, 4, none⟩ = some (.int .u64 z4) ∧ x.cell? ⟨w.heap.size + 1 + 1, 5, none⟩ = some (.slice zl zn zc))) ∧ Below w1.heap.size w1 x from ⟨(KEEP.out x (hb01.trans (hx2.mono hb01.size))).1, hx2⟩
                  have RA1 := Lib.hid fun W (h : Below w1.heap.size w1 W) => (RA0.out W (hb01.trans (h.mono hb01.size))).imp (ok' := Lo w1.heap.size) fun _ _ h => Nat.lt_of_lt_of_le h hb01.size
                  have RB1 := Lib.hid fun W (h : Below w1.heap.size w1 W) => (RB0.out W (hb01.trans (h.mono hb01.size))).imp (ok' := Lo w1.heap.size) fun _ _ h => Nat.lt_of_lt_of_le h hb01.size
                  have RC1 := Lib.hid fun W (h : Below w1.heap.size w1 W) => (RC0.out W (hb01.trans (h.mono hb01.size))).imp (ok' := Lo w1.heap.size) fun _ _ h => Nat.lt_of_lt_of_le h hb01.size
                  clear hg hv RA0 RB0 RC0 KEEP
                  go_upto_region 7 with fail
                  go_cut [11] from 48 to 54 (fun s wc => Held (.node kk Ws.nil [a, .node kk Ws.nil [b, c]]) w1 s wc)
                  case first =>
                    have hV0 := (Below.refl w1.heap.size w1).drew
                    go_region_held3 (fun x => ((x.cell? ⟨w.heap.size, 0, none⟩ = some (.int .u8 x0) ∧ x.cell? ⟨w.heap.size, 1, none⟩ = some (.int .u64 x1) ∧ x.cell? ⟨w.heap.size, 2, none⟩ = some (.int .u64 x2) ∧ x.cell? ⟨w.heap.size, 3, none⟩ = some (.int .u64 x3) ∧ x.cell? ⟨w.heap.size, 4, none⟩ = some (.int .u64 x4) ∧ x.cell? ⟨w.heap.size, 5, none⟩ = some (.slice xl xn xc)) ∧ (x.cell? ⟨w.heap.size + 1, 0, none⟩ = some (.int .u8 y0) ∧ x.cell? ⟨w.heap.size + 1, 1, none⟩ = some (.int .u64 y1) ∧ x.cell? ⟨w.heap.size + 1, 2, none⟩ = some (.int .u64 y2) ∧ x.cell? ⟨w.heap.size + 1, 3, none⟩ = some (.int .u64 y3) ∧ x.cell? ⟨w.heap.size + 1, 4, none⟩ = some (.int .u64 y4) ∧ x.cell? ⟨w.heap.size + 1, 5, none⟩ = some (.slice yl yn yc)) ∧ (x.cell? ⟨w.heap.size + 1 + 1, 0, none⟩ = some (.int .u8 z0) ∧ x.cell? ⟨w.heap.size + 1 + 1, 1, none⟩ = some (.int .u64 z1) ∧ x.cell? ⟨w.heap.size + 1 + 1, 2, none⟩ = some (.int .u64 z2) ∧ x.cell? ⟨w.heap.size + 1 + 1, 3, none⟩ = some (.int .u64 z3) ∧ x.cell? ⟨w.heap.size + 1 + 1, 4, none⟩ = some (.int .u64 z4) ∧ x.cell? ⟨w.heap.size + 1 + 1, 5, none⟩ = some (.slice zl zn zc))) ∧ Below w1.heap.size w1 x)
                      (first | (with_reducible exact KEEP1.out _ hV0) | (with_reducible exact KEEP1.out _ hWl) | (with_reducible exact KEEP1.out _ hWo) | (with_reducible exact KEEP1.out _ (((Below.refl w1.heap.size w1).alloc (Nat.le_refl _) _).drew)) | (with_reducible exact KEEP1.out _ (hWl.alloc hWl.size _)) | (with_reducible exact KEEP1.out _ (hWo.alloc hWo.size _)) | (with_reducible exact KEEP1.out _ (bel_put hWl hWo.size _ _ _ _ _ _)) | (with_reducible exact KEEP1.out _ (bel_put hWl (Nat.le_refl _) _ _ _ _ _ _)))
                      (first
                      | (go_at_call 16; (with_reducible refine (K2.out _ _ _ _ _ _ (RB1.out _ ?_) (RC1.out _ ?_)).mono ?_); (focus (first | with_reducible exact hV0 | with_reducible exact (((Below.refl w1.heap.size w1).alloc (Nat.le_refl _) _).drew))); (focus (first | with_reducible exact hV0 | with_reducible exact (((Below.refl w1.heap.size w1).alloc (Nat.le_refl _) _).drew))); (rintro e wo ⟨vo, rfl, hvo, hbo⟩); (first | (with_reducible have hWo := bel_first0 (w0 := w1) hbo) | (with_reducible have hWo := bel_first2 (w0 := w1) hbo)); (obtain ⟨n1, hn1, hv1⟩ := two_first hvo); (obtain ⟨o0, o1, o2, o3, o4, ol, oq, oc, rfl⟩ := cells_re hv1))
                      | (go_at_call 16; (with_reducible refine (K2.out a (.node kk Ws.nil [b, c]) _ _ _ (Nb w1.heap.size n1 wo.heap.size) ?_ ?_).mono ?_); (focus (first | with_reducible exact (RA1.out _ hWo).imp fun _ _ h => nb_lo h hWo.size | with_reducible exact (RA1.out _ (hWo.alloc hWo.size _)).imp fun _ _ h => nb_lo h hWo.size)); (focus (first | with_reducible exact hv1 | with_reducible exact hv1.below ((Below.refl _ _).alloc (Nat.le_refl _) _))); (rintro e wl ⟨vl, rfl, hvl, hbl⟩); (first | (with_reducible have hWl := bel_second hWo hbl) | (with_reducible have hWl := bel_second' hWo hbl)); (obtain ⟨p0, p1, p2, p3, p4, pl, pq, pc, rfl⟩ := cells_re hvl); (first | ((with_reducible have hfr := heldB (wo := wo) hbl); (obtain ⟨f0, f1, f2, f3, f4, f5, k0, k1, k2, k3, k4, k5⟩ := cellsR hfr)) | ((with_reducible have hfr := heldC (w0 := w1) hbo hbl); (obtain ⟨f0, f1, f2, f3, f4, f5, k0, k1, k2, k3, k4, k5⟩ := cellsR hfr)) | skip))
                      | fail)

                    all_goals (go_wp2_with fail; go_meet; first
                      | (with_reducible exact held_new hvl hWl)
                      | (with_reducible exact held_put hfr okB hWo.size hvl hWl)
                      | (with_reducible exact held_put hfr (okA hn1 hbo.size) (Nat.le_refl _) hvl hWl))
                  case rest =>
                    obtain ⟨w2, hw2⟩ : ∃ w2, w2 = wc := ⟨_, rfl⟩
                    subst hw2
                    obtain ⟨g', q0, q1, q2, q3, q4, ql, qq, qc, rfl, hg', hv', hb12⟩ := hcut
                    have hb02 := hb01.trans (hb12.mono hb01.size)
                    have hbw2 : Below w.heap.size w w2 := B.out.1.trans (hb02.mono B.out.1.size)
                    have hgg := (hb12.block g (Array.getElem?_eq_some_iff.1 HG.out).1).trans HG.out
                    have hgl := (Array.getElem?_eq_some_iff.1 hgg).1
                    have hgl' := (Array.getElem?_eq_some_iff.1 hg').1
                    obtain ⟨ea, hea, wea, _⟩ := may_ex HA.out Q1.out
                    obtain ⟨eb, heb, web, _⟩ := may_ex HB.out Q2.out
                    obtain ⟨ec, hec, wec, _⟩ := may_ex HC.out Q3.out
                    obtain ⟨L, R, hL, hR, wL, wR, sL, sR, hne, T', hT'⟩ := turns_ex kk HK.out ea eb ec wea web wec
                    have za := Z1.out
                    have zb := Z2.out
                    have zc := Z3.out
                    rw [← hea, Ex.size_rx] at za
                    rw [← heb, Ex.size_rx] at zb
                    rw [← hec, Ex.size_rx] at zc
                    have hl1 := text_length L
                    have hl2 := text_length R
                    rw [hea, heb, hec] at hL hR
                    have hvL : ReAt (fun _ => True) w2 (.agg #[.int .u8 p0, .int .u64 p1, .int .u64 p2, .int .u64 p3, .int .u64 p4, .slice pl pq pc]) L.rx := by rw [hL]; exact HV.out.below hb12
                    have hvR : ReAt (fun _ => True) w2 (.agg #[.int .u8 q0, .int .u64 q1, .int .u64 q2, .int .u64 q3, .int .u64 q4, .slice ql qq qc]) R.rx := by rw [hR]; exact hv'
                    have mL := ex_may wL (by omega)
                    have mR := ex_may wR (by omega)
                    have KT1 := Lib.hid fun W (h : Below w2.heap.size w2 W) => HTX.out _ L.rx _ W (HT.out.go (hbw2.trans (h.mono hbw2.size))) (by rw [Ex.size_rx]; omega) (hvL.below h)
                    have KT2 := Lib.hid fun W (h : Below w2.heap.size w2 W) => HTX.out _ R.rx _ W (HT.out.go (hbw2.trans (h.mono hbw2.size))) (by rw [Ex.size_rx]; omega) (hvR.below h)
                    have KO1 := Lib.hid fun W (h : Below w2.heap.size w2 W) => refOfX L _ W wL (by omega) (hvL.below h)
                    have KO2 := Lib.hid fun W (h : Below w2.heap.size w2 W) => refOfX R _ W wR (by omega) (hvR.below h)
                    have KW := Lib.hid fun W (h : Below w2.heap.size w2 W) => KA.out W (hbw2.trans (h.mono hbw2.size))
                    rw [textX_yes mL] at KT1
                    rw [textX_yes mR] at KT2
                    rw [hT'] at KT1 KO1 hne
                    generalize R.text = U at *
                    obtain ⟨c0, c1, c2, c3, c4, c5, -⟩ := cellsR hgg
                    obtain ⟨d0, d1, d2, d3, d4, d5, -⟩ := cellsR hg'
                    have u0 : ∀ p : Bel w2, p.x.cell? ⟨g, 0, none⟩ = some (.int .u8 p0) := bel_cell hgl c0
                    have u1 : ∀ p : Bel w2, p.x.cell? ⟨g, 1, none⟩ = some (.int .u64 p1) := bel_cell hgl c1
                    have u2 : ∀ p : Bel w2, p.x.cell? ⟨g, 2, none⟩ = some (.int .u64 p2) := bel_cell hgl c2
                    have u3 : ∀ p : Bel w2, p.x.cell? ⟨g, 3, none⟩ = some (.int .u64 p3) := bel_cell hgl c3
                    have u4 : ∀ p : Bel w2, p.x.cell? ⟨g, 4, none⟩ = some (.int .u64 p4) := bel_cell hgl c4
                    have u5 : ∀ p : Bel w2, p.x.cell? ⟨g, 5, none⟩ = some (.slice pl pq pc) := bel_cell hgl c5
                    have v0 : ∀ p : Bel w2, p.x.cell? ⟨g', 0, none⟩ = some (.int .u8 q0) := bel_cell hgl' d0
                    have v1 : ∀ p : Bel w2, p.x.cell? ⟨g', 1, none⟩ = some (.int .u64 q1) := bel_cell hgl' d1
                    have v2 : ∀ p : Bel w2, p.x.cell? ⟨g', 2, none⟩ = some (.int .u64 q2) := bel_cell hgl' d2
                    have v3 : ∀ p : Bel w2, p.x.cell? ⟨g', 3, none⟩ = some (.int .u64 q3) := bel_cell hgl' d3
                    have v4 : ∀ p : Bel w2, p.x.cell? ⟨g', 4, none⟩ = some (.int .u64 q4) := bel_cell hgl' d4
                    have v5 : ∀ p : Bel w2, p.x.cell? ⟨g', 5, none⟩ = some (.slice ql qq qc) := bel_cell hgl' d5
                    have HBW := Lib.hid hbw2
                    have HNE := Lib.hid hne
                    clear c0 c1 c2 c3 c4 c5 d0 d1 d2 d3 d4 d5 hg' hv' hb12 hb02 hb01 hbw2 hgg hvL hvR hL hR mL mR wL wR sL sR hl1 hl2 hT' hne HG HV KEEP1 RA1 RB1 RC1 B KA HK HA HB HC Q1 Q2 Q3 Z1 Z2 Z3 M1 M2 M3 HT HTX
                    clear hea heb hec wea web wec za zb zc
                    have hne2 := bel_ne w2
                    go_upto_region 8 with fail
                    refine wp_region_bel (by kernel_rfl) (by kernel_rfl) ?_
                    repeat (quiet_step (first | (go_at_call 10; with_reducible exact bel_of (KT1.out _ (Bel.h _))) | (go_at_call 10; with_reducible exact bel_of (KT2.out _ (Bel.h _)))))
                    refine wpQuiet_nil ?_
                    intro x hw'
                    obtain ⟨⟨y, hbx⟩, hw''⟩ := hw'
                    subst hw''
                    have c0 := u0 ⟨x, hbx⟩
                    have c1 := u1 ⟨x, hbx⟩
                    have c2 := u2 ⟨x, hbx⟩
                    have c3 := u3 ⟨x, hbx⟩
                    have c4 := u4 ⟨x, hbx⟩
                    have c5 := u5 ⟨x, hbx⟩
                    simp only at c0 c1 c2 c3 c4 c5
                    go_wp2_with fail
                    refine (KO1.out _ hbx).mono ?_
                    rintro e x' ⟨rfl, hb'⟩
                    have hbx' := hbx.trans (hb'.mono hbx.size)
                    clear hb' c0 c1 c2 c3 c4 c5
                    have d0 := v0 ⟨x', hbx'⟩
                    have d1 := v1 ⟨x', hbx'⟩
                    have d2 := v2 ⟨x', hbx'⟩
                    have d3 := v3 ⟨x', hbx'⟩
                    have d4 := v4 ⟨x', hbx'⟩
                    have d5 := v5 ⟨x', hbx'⟩
                    simp only at d0 d1 d2 d3 d4 d5
                    clear u0 u1 u2 u3 u4 u5 v0 v1 v2 v3 v4 v5
                    go_wp2_with fail
                    refine (KO2.out _ hbx').mono ?_
                    rintro e x'' ⟨rfl, hb''⟩
                    have hbx'' := hbx'.trans (hb''.mono hbx'.size)
                    clear hb'' d0 d1 d2 d3 d4 d5
                    have e0 : ((40 :: T') == U) = false := by simpa using HNE.out
                    go_wp2_with fail
                    refine (KW.out _ hbx'').mono ?_
                    rintro e x3 ⟨rfl, hb3⟩
                    have hB := Lib.hid (HBW.out.trans ((hbx''.trans (hb3.mono hbx''.size)).mono HBW.out.size))
                    clear hb3
                    go_wp2
                    go_ret
                    exact ⟨rfl, hB.out⟩
end Go.Proofs.YtdkdgbiagjflgaaDoor
