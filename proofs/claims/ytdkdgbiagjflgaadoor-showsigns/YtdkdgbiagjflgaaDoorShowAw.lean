/- quilllaw05's example, on what package show's Text answers. -/
import Derived.Test.YtdkdgbiagjflgaaDoorShowE
import Derived.Deep.RegionHeld3
namespace Go.Proofs.YtdkdgbiagjflgaaDoor
open Go.RowKit
theorem bel_call5 {P : Prop} {W x y : World} (hb : Below x.heap.size x y) (h : P ∧ Below W.heap.size W x) : Below W.heap.size W y := h.2.trans (hb.mono h.2.size)
theorem bel_alloc5 {P : Prop} {W x : World} (o : Obj) (h : P ∧ Below W.heap.size W x) : Below W.heap.size W (x.alloc o) := h.2.alloc h.2.size o
theorem byte_any {ok ok' : Nat → Prop} {w : World} (w' : World) {v : Value} {c : UInt8} (h : ReAt ok w v (byteR c)) : ReAt ok' w' v (byteR c) := by
  rw [← byteE_rx] at h ⊢
  exact leaf_any w' h
theorem row_at2' {w : World} {g : Nat} {ok ok' : Nat → Prop} {x0 x1 x2 x3 x4 x5 y0 y1 y2 y3 y4 y5 : Value} {r t : Rx} (hg : g = w.heap.size) (h : ReAt ok w (.agg #[x0, x1, x2, x3, x4, x5]) r) (h' : ReAt ok' w (.agg #[y0, y1, y2, y3, y4, y5]) t) :
    RowAt (fun _ => True) (w.alloc (.cells #[x0, x1, x2, x3, x4, x5, y0, y1, y2, y3, y4, y5] 30)) (some ⟨g, 0, none⟩) [r, t] := by
  subst hg
  exact row_two (blk_new w _) trivial ((h.below ((Below.refl _ w).alloc (Nat.le_refl _) _)).imp fun _ _ _ => trivial) ((h'.below ((Below.refl _ w).alloc (Nat.le_refl _) _)).imp fun _ _ _ => trivial)
theorem row_at3' {w : World} {g : Nat} {ok ok' ok'' : Nat → Prop} {x0 x1 x2 x3 x4 x5 y0 y1 y2 y3 y4 y5 z0 z1 z2 z3 z4 z5 : Value} {r t u : Rx} (hg : g = w.heap.size) (h : ReAt ok w (.agg #[x0, x1, x2, x3, x4, x5]) r) (h' : ReAt ok' w (.agg #[y0, y1, y2, y3, y4, y5]) t) (h'' : ReAt ok'' w (.agg #[z0, z1, z2, z3, z4, z5]) u) :
    RowAt (fun _ => True) (w.alloc (.cells #[x0, x1, x2, x3, x4, x5, y0, y1, y2, y3, y4, y5, z0, z1, z2, z3, z4, z5] 30)) (some ⟨g, 0, none⟩) [r, t, u] := by
  subst hg
  have hb : Below w.heap.size w (w.alloc (.cells #[x0, x1, x2, x3, x4, x5, y0, y1, y2, y3, y4, y5, z0, z1, z2, z3, z4, z5] 30)) := (Below.refl _ w).alloc (Nat.le_refl _) _
  have hB := blk_new w (.cells #[x0, x1, x2, x3, x4, x5, y0, y1, y2, y3, y4, y5, z0, z1, z2, z3, z4, z5] 30)
  refine .inr ⟨_, 0, rfl, (Array.getElem?_eq_some_iff.1 hB).1, trivial, ?_⟩
  unfold NodesAt NodesAt NodesAt NodesAt
  refine ⟨node_at ((h.below hb).imp fun _ _ _ => trivial) ?_ ?_ ?_ ?_ ?_ ?_, node_at ((h'.below hb).imp fun _ _ _ => trivial) ?_ ?_ ?_ ?_ ?_ ?_, node_at ((h''.below hb).imp fun _ _ _ => trivial) ?_ ?_ ?_ ?_ ?_ ?_, trivial⟩ <;> (rw [Lib.cell_of_heap hB]; rfl)
set_option maxHeartbeats 4000000 in
theorem awake5_any (hText : TextC) (w : World) (hT : Tab w) :
    Calls Tryd.prog 8 #[] w fun e w' => e = .returned (.bool true) ∧ Below w.heap.size w w' := by
  have K1 := Lib.hid fun (c : UInt8) (al : Option Addr) (W : World) (h : BytesAt W al [c]) => setOf_any al [c] 1 W h
  have K2 := Lib.hid fun (c : UInt8) (W : World) => ofX_any (ofN (natsOf [c])) W (ofN_ok _)
  have hby : ∀ c : UInt8, ofR (ofN (natsOf [c])) = byteR c := fun _ => rfl
  simp only [hby] at K2
  have HTX := Lib.hid hText
  have HT := Lib.hid hT
  clear hText hT
  go_enter Tryd.func8, Tryd.ntmps8
  go_wp2_with fail
  refine (K1.out 97 _ _ (bytes_one w 97 _ rfl)).mono ?_
  rintro e w0a ⟨rfl, hb1⟩
  have hbr : Below w.heap.size w w0a := ((Below.refl _ w).alloc (Nat.le_refl _) _).trans (hb1.mono (by simp))
  have hbw := hbr
  clear hb1 hbr
  have K := K2.out 97 w0a
  generalize ofN (natsOf [97]) = s0 at *
  obtain ⟨aa, ab, ac, ad⟩ := s0
  unfold Ws.v at *
  simp only at K
  have KO := Lib.hid K
  clear K
  go_wp2_with fail
  refine KO.out.mono ?_
  rintro e w0b ⟨v, rfl, hv, hb1⟩
  obtain ⟨a0, a1, a2, a3, a4, al, an, ak, rfl⟩ := cells_re hv
  replace hbw := hbw.trans (hb1.mono hbw.size)
  have Ha := Lib.hid hv
  clear hv hb1 KO
  go_wp2_with fail
  refine (K1.out 98 _ _ (bytes_one w0b 98 _ rfl)).mono ?_
  rintro e w1a ⟨rfl, hb1⟩
  have hbr : Below w0b.heap.size w0b w1a := ((Below.refl _ w0b).alloc (Nat.le_refl _) _).trans (hb1.mono (by simp))
  replace hbw := hbw.trans (hbr.mono hbw.size)
  clear hb1 hbr
  have K := K2.out 98 w1a
  generalize ofN (natsOf [98]) = s1 at *
  obtain ⟨ba, bb, bc, bd⟩ := s1
  unfold Ws.v at *
  simp only at K
  have KO := Lib.hid K
  clear K
  go_wp2_with fail
  refine KO.out.mono ?_
  rintro e w1b ⟨v, rfl, hv, hb1⟩
  obtain ⟨b0, b1, b2, b3, b4, bl, bn, bk, rfl⟩ := cells_re hv
  replace hbw := hbw.trans (hb1.mono hbw.size)
  have Hb := Lib.hid hv
  clear hv hb1 KO
  go_wp2_with fail
  refine (K1.out 99 _ _ (bytes_one w1b 99 _ rfl)).mono ?_
  rintro e w2a ⟨rfl, hb1⟩
  have hbr : Below w1b.heap.size w1b w2a := ((Below.refl _ w1b).alloc (Nat.le_refl _) _).trans (hb1.mono (by simp))
  replace hbw := hbw.trans (hbr.mono hbw.size)
  clear hb1 hbr
  have K := K2.out 99 w2a
  generalize ofN (natsOf [99]) = s2 at *
  obtain ⟨ca, cb, cc, cd⟩ := s2
  unfold Ws.v at *
  simp only at K
  have KO := Lib.hid K
  clear K
  go_wp2_with fail
  refine KO.out.mono ?_
  rintro e w2b ⟨v, rfl, hv, hb1⟩
  obtain ⟨c0, c1, c2, c3, c4, cl, cn, ck, rfl⟩ := cells_re hv
  replace hbw := hbw.trans (hb1.mono hbw.size)
  have Hc := Lib.hid hv
  clear hv hb1 KO
  obtain ⟨w3, hw3⟩ : ∃ w3, w3 = ((w2b.alloc (.cells #[.int .u8 a0, .int .u64 a1, .int .u64 a2, .int .u64 a3, .int .u64 a4, .slice al an ak] 30)).alloc (.cells #[.int .u8 b0, .int .u64 b1, .int .u64 b2, .int .u64 b3, .int .u64 b4, .slice bl bn bk] 30)).alloc (.cells #[.int .u8 c0, .int .u64 c1, .int .u64 c2, .int .u64 c3, .int .u64 c4, .slice cl cn ck] 30) := ⟨_, rfl⟩
  have hb3 : Below w2b.heap.size w2b w3 := by rw [hw3]; exact (((Below.refl _ w2b).alloc (Nat.le_refl _) _).alloc (by simp) _).alloc (by simp; omega) _
  have ba : w3.heap[w2b.heap.size]? = some (.cells #[.int .u8 a0, .int .u64 a1, .int .u64 a2, .int .u64 a3, .int .u64 a4, .slice al an ak] 30) := by rw [hw3]; exact (Below.heap_alloc _ _ _ (by simp; omega)).trans ((Below.heap_alloc _ _ _ (by simp)).trans (blk_new w2b _))
  have bb : w3.heap[w2b.heap.size + 1]? = some (.cells #[.int .u8 b0, .int .u64 b1, .int .u64 b2, .int .u64 b3, .int .u64 b4, .slice bl bn bk] 30) := by rw [hw3]; exact (Below.heap_alloc _ _ _ (by simp)).trans (blk_at _ _ (by simp))
  have bc : w3.heap[w2b.heap.size + 1 + 1]? = some (.cells #[.int .u8 c0, .int .u64 c1, .int .u64 c2, .int .u64 c3, .int .u64 c4, .slice cl cn ck] 30) := by rw [hw3]; exact blk_at _ _ (by simp)
  have KEEP := Lib.hid fun x (hx2 : Below w3.heap.size w3 x) => show ((x.cell? ⟨w2b.heap.size, 0, none⟩ = some (.int .u8 a0) ∧ x.cell? ⟨w2b.heap.size, 1, none⟩ = some (.int .u64 a1) ∧ x.cell? ⟨w2b.heap.size, 2, none⟩ = some (.int .u64 a2) ∧ x.cell? ⟨w2b.heap.size, 3, none⟩ = some (.int .u64 a3) ∧ x.cell? ⟨w2b.heap.size, 4, none⟩ = some (.int .u64 a4) ∧ x.cell? ⟨w2b.heap.size, 5, none⟩ = some (.slice al an ak)) ∧ (x.cell? ⟨w2b.heap.size + 1, 0, none⟩ = some (.int .u8 b0) ∧ x.cell? ⟨w2b.heap.size + 1, 1, none⟩ = some (.int .u64 b1) ∧ x.cell? ⟨w2b.heap.size + 1, 2, none⟩ = some (.int .u64 b2) ∧ x.cell? ⟨w2b.heap.size + 1, 3, none⟩ = some (.int .u64 b3) ∧ x.cell? ⟨w2b.heap.size + 1, 4, none⟩ = some (.int .u64 b4) ∧ x.cell? ⟨w2b.heap.size + 1, 5, none⟩ = some (.slice bl bn bk)) ∧ (x.cell? ⟨w2b.heap.size + 1 + 1, 0, none⟩ = some (.int .u8 c0) ∧ x.cell? ⟨w2b.heap.size + 1 + 1, 1, none⟩ = some (.int .u64 c1) ∧ x.cell? ⟨w2b.heap.size + 1 + 1, 2, none⟩ = some (.int .u64 c2) ∧ x.cell? ⟨w2b.heap.size + 1 + 1, 3, none⟩ = some (.int .u64 c3) ∧ x.cell? ⟨w2b.heap.size + 1 + 1, 4, none⟩ = some (.int .u64 c4) ∧ x.cell? ⟨w2b.heap.size + 1 + 1, 5, none⟩ = some (.slice cl cn ck))) ∧ Below w3.heap.size w3 x from by
    obtain ⟨d0, d1, d2, d3, d4, d5, -⟩ := cellsR ((hx2.block _ (Array.getElem?_eq_some_iff.1 ba).1).trans ba)
    obtain ⟨e0, e1, e2, e3, e4, e5, -⟩ := cellsR ((hx2.block _ (Array.getElem?_eq_some_iff.1 bb).1).trans bb)
    obtain ⟨f0, f1, f2, f3, f4, f5, -⟩ := cellsR ((hx2.block _ (Array.getElem?_eq_some_iff.1 bc).1).trans bc)
    exact ⟨⟨⟨d0, d1, d2, d3, d4, d5⟩, ⟨e0, e1, e2, e3, e4, e5⟩, ⟨f0, f1, f2, f3, f4, f5⟩⟩, hx2⟩
  replace hbw := hbw.trans (hb3.mono hbw.size)
  have HW3 := Lib.hid hw3
  have A1 := Lib.hid fun W => byte_any (ok' := fun _ => True) W Ha.out
  have B1 := Lib.hid fun W => byte_any (ok' := fun _ => True) W Hb.out
  have C1 := Lib.hid fun W => byte_any (ok' := fun _ => True) W Hc.out
  have KO := Lib.hid fun (al : Option Addr) (W : World) (h : RowAt (fun _ => True) W al [byteR 98, byteR 99]) => or_any [byteR 98, byteR 99] al 2 W (by decide) h
  have KM := Lib.hid fun (W : World) => manyX_any (byteR 97) _ W (A1.out W)
  have KT := Lib.hid fun (al : Option Addr) (W : World) (h : RowAt (fun _ => True) W al [byteR 97, foldR 5 1 [byteR 98, byteR 99], .node 6 Ws.nil [byteR 97]]) => then_any [byteR 97, foldR 5 1 [byteR 98, byteR 99], .node 6 Ws.nil [byteR 97]] al 3 W (by decide) h
  have KX := Lib.hid fun (v : Value) (W : World) (ok : Nat → Prop) (hb : Below w.heap.size w W) (h : ReAt ok W v (foldR 4 2 [byteR 97, foldR 5 1 [byteR 98, byteR 99], .node 6 Ws.nil [byteR 97]])) => HTX.out ok _ v W (HT.out.go hb) (by rw [← awakeE_rx, Ex.size_rx]; decide) h
  rw [awakeE_textX] at KX
  rw [show [byteR 98, byteR 99].length = 2 from rfl] at KO
  rw [show [byteR 97, foldR 5 1 [byteR 98, byteR 99], Rx.node 6 Ws.nil [byteR 97]].length = 3 from rfl] at KT
  generalize foldR 4 2 [byteR 97, foldR 5 1 [byteR 98, byteR 99], .node 6 Ws.nil [byteR 97]] = R at *
  generalize foldR 5 1 [byteR 98, byteR 99] = O at *
  generalize byteR 97 = ra at *
  generalize byteR 98 = rb at *
  generalize byteR 99 = rc at *
  clear hb3 ba bb bc Ha Hb Hc K1 K2 HTX hby hw3
  go_wp2_with fail
  rw [← HW3.out]
  clear HW3
  go_region_held3 (fun x => ((x.cell? ⟨w2b.heap.size, 0, none⟩ = some (.int .u8 a0) ∧ x.cell? ⟨w2b.heap.size, 1, none⟩ = some (.int .u64 a1) ∧ x.cell? ⟨w2b.heap.size, 2, none⟩ = some (.int .u64 a2) ∧ x.cell? ⟨w2b.heap.size, 3, none⟩ = some (.int .u64 a3) ∧ x.cell? ⟨w2b.heap.size, 4, none⟩ = some (.int .u64 a4) ∧ x.cell? ⟨w2b.heap.size, 5, none⟩ = some (.slice al an ak)) ∧ (x.cell? ⟨w2b.heap.size + 1, 0, none⟩ = some (.int .u8 b0) ∧ x.cell? ⟨w2b.heap.size + 1, 1, none⟩ = some (.int .u64 b1) ∧ x.cell? ⟨w2b.heap.size + 1, 2, none⟩ = some (.int .u64 b2) ∧ x.cell? ⟨w2b.heap.size + 1, 3, none⟩ = some (.int .u64 b3) ∧ x.cell? ⟨w2b.heap.size + 1, 4, none⟩ = some (.int .u64 b4) ∧ x.cell? ⟨w2b.heap.size + 1, 5, none⟩ = some (.slice bl bn bk)) ∧ (x.cell? ⟨w2b.heap.size + 1 + 1, 0, none⟩ = some (.int .u8 c0) ∧ x.cell? ⟨w2b.heap.size + 1 + 1, 1, none⟩ = some (.int .u64 c1) ∧ x.cell? ⟨w2b.heap.size + 1 + 1, 2, none⟩ = some (.int .u64 c2) ∧ x.cell? ⟨w2b.heap.size + 1 + 1, 3, none⟩ = some (.int .u64 c3) ∧ x.cell? ⟨w2b.heap.size + 1 + 1, 4, none⟩ = some (.int .u64 c4) ∧ x.cell? ⟨w2b.heap.size + 1 + 1, 5, none⟩ = some (.slice cl cn ck))) ∧ Below w3.heap.size w3 x)
    (first | assumption | (with_reducible exact KEEP.out _ (Below.refl _ _).drew) | (with_reducible exact KEEP.out _ (by assumption)) | (with_reducible exact KEEP.out _ (bel_alloc5 _ (by assumption))))
    (first
    | (go_at_call 24; (with_reducible refine (KO.out _ _ ?_).mono ?_); (focus (exact (row_at2' (by simp) (B1.out _) (C1.out _)).below (Below.refl _ _).drew)); (rintro e wo ⟨vo, rfl, hvo, hbo⟩); (have hWo := bel_call5 hbo (by assumption)); (obtain ⟨o0, o1, o2, o3, o4, ol, oq, oc, rfl⟩ := cells_re hvo))
    | (go_at_call 20; (with_reducible refine (KM.out _).mono ?_); (rintro e wm ⟨vm, rfl, hvm, hbm⟩); (have hWm := bel_call5 hbm (by assumption)); (obtain ⟨m0, m1, m2, m3, m4, ml, mn, mc, rfl⟩ := cells_re hvm))
    | (go_at_call 23; (with_reducible refine (KT.out _ _ ?_).mono ?_); (focus (exact row_at3' (by simp) (A1.out _) (hvo.below hbm) hvm)); (rintro e wt ⟨vt, rfl, hvt, hbt⟩); (have hWt := bel_call5 hbt (by assumption)); (obtain ⟨t0, t1, t2, t3, t4, tl, tn, tc, rfl⟩ := cells_re hvt))
    | (go_at_call 10; (with_reducible refine (KX.out _ _ _ (hbw.trans (hWt.mono hbw.size)) hvt).mono ?_); (rintro e wx ⟨rfl, hbx⟩); (have hWx := bel_call5 hbx (by assumption))))
  go_wp2
  go_ret
  exact ⟨rfl, hbw.trans (hWx.mono hbw.size)⟩
end Go.Proofs.YtdkdgbiagjflgaaDoor
