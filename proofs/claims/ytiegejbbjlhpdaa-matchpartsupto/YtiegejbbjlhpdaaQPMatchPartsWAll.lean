/- Lemmas of mine, merged: QPMatchPartsW. -/
import Derived.Laws.DeepStrings4
import Derived.Deep.CutRange
import Derived.Test.YtiegejbbjlhpdaaQPMatKAll
import Derived.Test.YtiegejbbjlhpdaaQPAnyOrdAll
/- Lemmas of mine. -/
namespace Go.Proofs.Ytiegejbbjlhpdaa
open Go.RowKit
def Bz10 (w W : World) (X Y : Obj) : Prop := W.heap[w.heap.size]? = some X ∧ W.heap[w.heap.size + 1]? = some Y ∧ Below w.heap.size w W
theorem Bz10.go {w W W' : World} {X Y : Obj} (h : Bz10 w W X Y) (hb : Below W.heap.size W W') : Bz10 w W' X Y := ⟨(hb.block _ (Array.getElem?_eq_some_iff.1 h.1).1).trans h.1, (hb.block _ (Array.getElem?_eq_some_iff.1 h.2.1).1).trans h.2.1, h.2.2.trans (hb.mono h.2.2.size)⟩
theorem Bz10.new (w : World) (X Y : Obj) : Bz10 w ((w.alloc X).alloc Y) X Y := ⟨(Below.heap_alloc _ _ _ (by simp)).trans (blk_new w _), by have := blk_new (w.alloc X) Y; simpa using this, ((Below.refl _ w).alloc (Nat.le_refl _) _).alloc (by simp) _⟩
def SP.re10 (r : Rx) : SP := ⟨fun x w => ReAt (fun _ => True) w x r, fun _ _ _ h hb => h.below hb⟩
def SP.strs10 (s : ByteArray) : SP := ⟨fun x w => ∃ g, x = .slice (some ⟨g, 0, none⟩) 1 1 ∧ StrsAt w (some ⟨g, 0, none⟩) [s], fun _ _ _ ⟨g, h1, h2⟩ hb => ⟨g, h1, strs_below10 h2 hb⟩⟩
def partsInv (ra rb : Rx) (s : ByteArray) (W9 : World) (y7 y8 y10 : Value) (W : World) : Prop := ∃ i : Nat, i ≤ s.size + 1 ∧ y10 = .int .i64 i ∧ y7 = .bool (cutB ra rb s i) ∧ y8 = .bool (anyM ra s i) ∧ Below W9.heap.size W9 W
set_option maxHeartbeats 8000000 in
set_option maxRecDepth 100000 in
theorem matchParts_walk (hRead : ReadC) {ok ok' : Nat → Prop} (ra rb : Rx) (va vb : Value) (s : ByteArray) (w : World) (ha : ReAt ok w va ra) (hb : ReAt ok' w vb rb) (hza : ra.size ≤ 1048576) (hzb : rb.size ≤ 1048576) :
    Calls Try.prog 5 #[va, vb, .string s] w fun e w' => e = .returned (.bool true) ∧ Below w.heap.size w w' := by
  obtain ⟨x0, x1, x2, x3, x4, xl, xn, xc, rfl⟩ := cells_re ha
  obtain ⟨y0, y1, y2, y3, y4, yl, yn, yc, rfl⟩ := cells_re hb
  have HRA := Lib.hid (ha.imp (ok' := fun _ => True) fun _ _ _ => trivial)
  have HRB := Lib.hid (hb.imp (ok' := fun _ => True) fun _ _ _ => trivial)
  have HM1 := Lib.hid (fun h => great10 (r := ra) (n := 40) h hza)
  have HM2 := Lib.hid (fun h => great10 (r := rb) (n := 40) h hzb)
  have G1 := Lib.hid fun W (h : Below w.heap.size w W) => great_any ra 40 _ W (ha.below h) (by decide)
  have G2 := Lib.hid fun W (h : Below w.heap.size w W) => great_any rb 40 _ W (hb.below h) (by decide)
  have KA := Lib.hid fun W (_ : Below w.heap.size w W) => awake10_any hRead W
  have BX := Lib.hid (Bz10.new w (.cells #[.int .u8 x0, .int .u64 x1, .int .u64 x2, .int .u64 x3, .int .u64 x4, .slice xl xn xc] 27) (.cells #[.int .u8 y0, .int .u64 y1, .int .u64 y2, .int .u64 y3, .int .u64 y4, .slice yl yn yc] 27))
  clear hRead ha hb hza hzb
  go_enter Try.func5, Try.ntmps5
  go_wp2_with fail
  refine (G1.out _ BX.out.2.2).mono ?_
  rintro e w1 ⟨⟨p, rfl, hp⟩, hb⟩
  have HP1 := Lib.hid hp
  replace BX := Lib.hid (BX.out.go hb)
  clear hb hp
  cases p with
  | true =>
    clear HM1 HM2 HP1
    go_wp2_with fail
    refine (KA.out _ BX.out.2.2).mono ?_
    rintro e w' ⟨rfl, hb⟩
    have HE := Lib.hid (BX.out.2.2.trans (hb.mono BX.out.2.2.size))
    clear hb
    go_wp2
    go_ret
    exact ⟨rfl, HE.out⟩
  | false =>
    obtain ⟨c0, c1, c2, c3, c4, c5, -⟩ := cellsR BX.out.1
    obtain ⟨d0, d1, d2, d3, d4, d5, -⟩ := cellsR BX.out.2.1
    go_wp2_with fail
    clear c0 c1 c2 c3 c4 c5 d0 d1 d2 d3 d4 d5
    refine (G2.out _ BX.out.2.2).mono ?_
    rintro e w2 ⟨⟨p, rfl, hp⟩, hb⟩
    have HP2 := Lib.hid hp
    replace BX := Lib.hid (BX.out.go hb)
    clear hb hp
    cases p with
    | true =>
      clear HM1 HM2 HP1 HP2
      go_wp2_with fail
      refine (KA.out _ BX.out.2.2).mono ?_
      rintro e w' ⟨rfl, hb⟩
      have HE := Lib.hid (BX.out.2.2.trans (hb.mono BX.out.2.2.size))
      clear hb
      go_wp2
      go_ret
      exact ⟨rfl, HE.out⟩
    | false =>
      by_cases hs : s.size ≤ 12
      · have q1 : ¬ (12 : Int) < (s.size : Int) := by omega
        have za := HM1.out (fun h => HP1.out h)
        have zb := HM2.out (fun h => HP2.out h)
        clear HM1 HM2 HP1 HP2 G1 G2
        have K1 := Lib.hid (many_any ra _ w2 (HRA.out.below BX.out.2.2))
        obtain ⟨e0, he0⟩ : ∃ e0, e0 = decide (s.size = 0) := ⟨_, rfl⟩
        have d0 : (s.toList == []) = e0 := by
          rw [he0, Bool.eq_iff_iff, beq_iff_eq, decide_eq_true_eq]
          rw [Go.ByteArray.toList_eq]
          constructor
          · intro h
            have := congrArg List.length h
            rw [Array.length_toList] at this
            exact this
          · intro h
            exact List.length_eq_zero_iff.1 (by rw [Array.length_toList]; exact h)
        have HE0 := Lib.hid he0
        clear he0
        obtain ⟨c0, c1, c2, c3, c4, c5, -⟩ := cellsR BX.out.1
        obtain ⟨d0, d1, d2, d3, d4, d5, -⟩ := cellsR BX.out.2.1
        go_wp2_with fail
        clear c0 c1 c2 c3 c4 c5 d0 d1 d2 d3 d4 d5
        refine K1.out.mono ?_
        rintro e w3 ⟨vz, rfl, hz, hb⟩
        obtain ⟨z0, z1, z2, z3, z4, zl, zn, zc, rfl⟩ := cells_re hz
        replace BX := Lib.hid (BX.out.go hb)
        have HZ := Lib.hid (hz.imp (ok' := fun _ => True) fun _ _ _ => trivial)
        clear hb hz K1 d0
        obtain ⟨gz, hgz⟩ : ∃ gz, gz = w3.heap.size := ⟨_, rfl⟩
        have hal := bel_al w3 (.cells #[.int .u8 z0, .int .u64 z1, .int .u64 z2, .int .u64 z3, .int .u64 z4, .slice zl zn zc] 27)
        have hzn := blk_new w3 (.cells #[.int .u8 z0, .int .u64 z1, .int .u64 z2, .int .u64 z3, .int .u64 z4, .slice zl zn zc] 27)
        rw [← hgz] at hzn
        go_upto_region 5 with fail
        obtain ⟨W9, hW9⟩ : ∃ x, x = w3.alloc (.cells #[.int .u8 z0, .int .u64 z1, .int .u64 z2, .int .u64 z3, .int .u64 z4, .slice zl zn zc] 27) := ⟨_, rfl⟩
        rw [← hW9] at hal hzn ⊢
        rw [← hgz]
        have BZ := Lib.hid (BX.out.go hal)
        have HZN := Lib.hid hzn
        have HZR := Lib.hid (HZ.out.below hal)
        clear hW9 hgz hal hzn HZ BX
        have KF0 := Lib.hid fun (j : Nat) (x : World) (hx : Below W9.heap.size W9 x) => refFits endsC ra (s.extract 0 j) (.agg #[.int .u8 x0, .int .u64 x1, .int .u64 x2, .int .u64 x3, .int .u64 x4, .slice xl xn xc]) x (by omega) (by rw [ByteArray.size_extract]; omega) (HRA.out.below (BZ.out.go hx).2.2)
        have KFB0 := Lib.hid fun (j : Nat) (x : World) (hx : Below W9.heap.size W9 x) => refFits endsC rb (s.extract j s.size) (.agg #[.int .u8 y0, .int .u64 y1, .int .u64 y2, .int .u64 y3, .int .u64 y4, .slice yl yn yc]) x (by omega) (by rw [ByteArray.size_extract]; omega) (HRB.out.below (BZ.out.go hx).2.2)
        have hzs : (starR ra).size ≤ 1000 := by simp [starR, Rx.size, Rx.sizes]; omega
        have KFS0 := Lib.hid fun (j : Nat) (x : World) (hx : Below W9.heap.size W9 x) => refFits endsC (starR ra) (s.extract j s.size) (.agg #[.int .u8 z0, .int .u64 z1, .int .u64 z2, .int .u64 z3, .int .u64 z4, .slice zl zn zc]) x (by omega) (by rw [ByteArray.size_extract]; omega) (HZR.out.below hx)
        have KMZ0 := Lib.hid fun (x : World) (hx : Below W9.heap.size W9 x) => refMay_any (starR ra) (.agg #[.int .u8 z0, .int .u64 z1, .int .u64 z2, .int .u64 z3, .int .u64 z4, .slice zl zn zc]) x (by omega) (HZR.out.below hx)
        have KMA0 := Lib.hid fun (x : World) (hx : Below W9.heap.size W9 x) => refMay_any ra (.agg #[.int .u8 x0, .int .u64 x1, .int .u64 x2, .int .u64 x3, .int .u64 x4, .slice xl xn xc]) x (by omega) (HRA.out.below (BZ.out.go hx).2.2)
        have KMB0 := Lib.hid fun (x : World) (hx : Below W9.heap.size W9 x) => refMay_any rb (.agg #[.int .u8 y0, .int .u64 y1, .int .u64 y2, .int .u64 y3, .int .u64 y4, .slice yl yn yc]) x (by omega) (HRB.out.below (BZ.out.go hx).2.2)
        have KT0 := Lib.hid fun (x : World) (hx : Below W9.heap.size W9 x) => two_any 4 ra rb (.agg #[.int .u8 x0, .int .u64 x1, .int .u64 x2, .int .u64 x3, .int .u64 x4, .slice xl xn xc]) (.agg #[.int .u8 y0, .int .u64 y1, .int .u64 y2, .int .u64 y3, .int .u64 y4, .slice yl yn yc]) x (by decide) (HRA.out.below (BZ.out.go hx).2.2) (HRB.out.below (BZ.out.go hx).2.2)
        have KL0 := Lib.hid fun (r : Rx) (g : Nat) (x : World) v (hr : ReAt (fun _ => True) x v r) (hS : StrsAt x (some ⟨g, 0, none⟩) [s]) => show Calls Try.prog 17 #[v, .slice (some ⟨g, 0, none⟩) 1 1] x _ from mFits_any r [s] (some ⟨g, 0, none⟩) 1 (by simp) (fun _ t ht => by simp at ht; rw [ht]; omega) v x hr hS
        have HTF := Lib.hid (two_fits HRA.out HRB.out (by omega) (by omega) s)
        have HSF := Lib.hid (star_fits HRA.out (by omega) s)
        have hst : partsInv ra rb s W9 (.bool false) (.bool e0) (.int .i64 0) W9 := ⟨0, Nat.zero_le _, rfl, rfl, by unfold anyM; rw [HE0.out]; simp, Below.refl _ _⟩
        have HST := Lib.hid hst
        clear hst hzs
        go_wp2_with fail
        go_loopw [7, 8, 10] (fun y7 y8 y10 wr => partsInv ra rb s W9 y7 y8 y10 wr) (fun _ _ y10 _ => s.size + 1 - (intOf y10).toNat)
        case atStart => exact HST.out
        case round =>
          clear HST
          obtain ⟨i, hi, rfl, rfl, rfl, hbr⟩ := hrel
          have HBR := Lib.hid hbr
          obtain ⟨bo, hbo⟩ : ∃ b, b = cutB ra rb s i := ⟨_, rfl⟩
          obtain ⟨mn, hmn⟩ : ∃ b, b = anyM ra s i := ⟨_, rfl⟩
          rw [← hbo, ← hmn]
          have HBO := Lib.hid hbo
          have HMN := Lib.hid hmn
          clear hbo hmn
          by_cases hlt : i ≤ s.size
          · have q2 : (i : Int) ≤ (s.size : Int) := by omega
            have HIN := Lib.hid (show (0 : Int) ≤ (i : Int) ∧ (i : Int) ≤ (s.size : Int) from ⟨by omega, by omega⟩)
            have CA := Lib.hid fun x (hx : Below wr.heap.size wr x) => cellsR (BZ.out.go (HBR.out.trans (hx.mono HBR.out.size))).1
            have KFA := Lib.hid fun x (hx : Below wr.heap.size wr x) => KF0.out i x (HBR.out.trans (hx.mono HBR.out.size))
            have hnb := cutB_next ra rb s i
            have hnm := anyM_next ra s i
            obtain ⟨fa, hfa⟩ : ∃ b, b = fitX9 ra (s.extract 0 i) := ⟨_, rfl⟩
            obtain ⟨fb, hfb⟩ : ∃ b, b = fitX9 rb (s.extract i s.size) := ⟨_, rfl⟩
            obtain ⟨fs, hfs⟩ : ∃ b, b = fitX9 (starR ra) (s.extract i s.size) := ⟨_, rfl⟩
            rw [← hfa] at hnb hnm KFA
            rw [← hfb, ← HBO.out] at hnb
            rw [← hfs, ← HMN.out] at hnm
            have HNB := Lib.hid hnb
            have HNM := Lib.hid hnm
            have HFB := Lib.hid hfb
            have HFS := Lib.hid hfs
            clear hnb hnm hfa hfb hfs hbr
            go_wp2_with fail
            refine wp_region_order (fun j => ([SP.eq (.agg #[.int .u8 x0, .int .u64 x1, .int .u64 x2, .int .u64 x3, .int .u64 x4, .slice xl xn xc]), SP.eq (.string s), SP.eq (.int .i64 i), SP.eq (.string (s.extract 0 i)), SP.eq (.bool fa), SP.eq (.bool fa)] : List SP).getD j SP.free) (by kernel_rfl) (by kernel_rfl) ⟨?_, ?_, ?_, ?_, ?_, ?_, trivial⟩ ?_
            · intro a x K out get hb hK
              rw [if_pos (wanted_none rfl)]
              have o3 : a.tmps[3]? = some (.pointer (some ⟨w.heap.size, 0, none⟩)) := out 3 (by kernel_rfl)
              clear out get
              obtain ⟨c0, c1, c2, c3, c4, c5, -⟩ := CA.out x hb
              go_simp
              exact hK _ _ rfl (Below.refl _ _)
            · intro a x K out get hb hK
              rw [if_pos (wanted_none rfl)]
              have o2 : a.tmps[2]? = some (.string s) := out 2 (by kernel_rfl)
              clear out get
              go_simp
              exact hK _ _ rfl (Below.refl _ _)
            · intro a x K out get hb hK
              rw [if_pos (wanted_none rfl)]
              have o10 : a.tmps[10]? = some (.int .i64 i) := out 10 (by kernel_rfl)
              clear out get
              go_simp
              exact hK _ _ rfl (Below.refl _ _)
            · intro a x K out get hb hK
              rw [if_pos (wanted_none rfl)]
              obtain ⟨y35, hy35, rfl⟩ := get 1 _ _ rfl rfl (by kernel_rfl)
              obtain ⟨y36, hy36, rfl⟩ := get 2 _ _ rfl rfl (by kernel_rfl)
              clear out get
              have hi1 := HIN.out
              go_simp
              exact hK _ _ rfl (Below.refl _ _)
            · intro a x K out get hb hK
              rw [if_pos (wanted_none rfl)]
              obtain ⟨y34, hy34, rfl⟩ := get 0 _ _ rfl rfl (by kernel_rfl)
              obtain ⟨y37, hy37, rfl⟩ := get 3 _ _ rfl rfl (by kernel_rfl)
              clear out get
              go_simp
              refine (KFA.out x hb).mono ?_
              rintro e w2 ⟨rfl, hb2⟩
              exact hK _ _ rfl hb2
            · intro a x K out get hb hK
              rw [if_pos (wanted_none rfl)]
              obtain ⟨y38, hy38, rfl⟩ := get 4 _ _ rfl rfl (by kernel_rfl)
              clear out get
              go_simp
              exact hK _ _ rfl (Below.refl _ _)
            refine ao_fin (isD := fun s => (decide (34 ≤ s) && decide (s ≤ 38)) || decide (s = 11)) (by kernel_rfl) ?_
            intro f9 w8 hv hb8
            have h11 : f9 11 = .bool fa := hv 5 _ _ rfl rfl
            have H8 := Lib.hid (HBR.out.trans (hb8.mono HBR.out.size))
            clear hv hb8 CA KFA
            generalize hF : (Act.mk (List.toArray (frm f9 _ 0 _)) _) = fr
            simp [frm] at hF
            rw [h11] at hF
            subst hF
            generalize f9 34 = u34 at *; generalize f9 35 = u35 at *; generalize f9 36 = u36 at *; generalize f9 37 = u37 at *; generalize f9 38 = u38 at *
            clear h11 f9
            have CB := Lib.hid fun x (hx : Below w8.heap.size w8 x) => cellsR (BZ.out.go (H8.out.trans (hx.mono H8.out.size))).2.1
            have KFB := Lib.hid fun x (hx : Below w8.heap.size w8 x) => KFB0.out i x (H8.out.trans (hx.mono H8.out.size))
            rw [← HFB.out] at KFB
            go_upto_region 9 with fail
            go_cut [7] from 39 to 49 (fun v wx => v = .bool (bo || (fa && fb)) ∧ Below w8.heap.size w8 wx)
            case first =>
              cases bo with
              | true =>
                go_wp2_with fail
                refine wp_region_orderX [11] (fun i => if i = 4 then 0 else if i = 8 then 0 else if i = 11 then 2 else 1) (pvS [some (.bool true), some (.bool true), some undef, some undef, some undef, some undef, some undef, some undef, some undef, some undef, some (.bool true), none]) (pv [some (.bool true), some (.bool true), some undef, some undef, some undef, some undef, some undef, some undef, some undef, some undef, some (.bool true), none]) (fun X => Below w8.heap.size w8 X) (fun _ => True) (fun _ y X => y = .bool true ∧ Below w8.heap.size w8 X)
                  (Below.refl _ _).drew (fun _ _ => trivial) (fun _ _ _ _ => trivial) (fun X X2 h hb => h.trans (hb.mono h.size)) (fun _ _ _ h => h) (by kernel_rfl) (by kernel_rfl) ⟨?_, ?_, ?_, ?_, ?_, ?_, ?_, ?_, ?_, ?_, ?_, ?_, trivial⟩ ?_
                · intro a x K out get old hC hK
                  rw [if_pos (wanted_none rfl)]
                  have o7 : a.tmps[7]? = some (.bool true) := old 11 _ _ rfl rfl (by kernel_rfl)
                  clear out get old
                  go_simp
                  exact hK _ rfl (fun _ => rfl)
                · intro a x K out get old hC hK
                  rw [if_pos (wanted_none rfl)]
                  obtain ⟨y39, hy39, rfl⟩ := get 0 _ _ rfl rfl (by kernel_rfl)
                  clear out get old
                  go_simp
                  exact hK _ rfl (fun _ => rfl)
                · intro a x K out get old hC hK
                  obtain ⟨yg, hyg, rfl⟩ := get 1 _ _ rfl rfl (by kernel_rfl)
                  rw [if_neg (by rw [wanted_bool rfl rfl rfl hyg]; decide)]
                  exact hK _ rfl (fun _ => rfl)
                · intro a x K out get old hC hK
                  obtain ⟨yg, hyg, rfl⟩ := get 1 _ _ rfl rfl (by kernel_rfl)
                  rw [if_neg (by rw [wanted_bool rfl rfl rfl hyg]; decide)]
                  exact hK _ rfl (fun _ => rfl)
                · intro a x K out get hJ hK
                  obtain ⟨yg, hyg, rfl⟩ := get 3 _ _ rfl rfl (by kernel_rfl)
                  rw [if_neg (by rw [wanted_undef rfl rfl rfl hyg]; decide)]
                  exact hK _ _ rfl (Below.refl _ _)
                · intro a x K out get old hC hK
                  obtain ⟨yg, hyg, rfl⟩ := get 3 _ _ rfl rfl (by kernel_rfl)
                  rw [if_neg (by rw [wanted_undef rfl rfl rfl hyg]; decide)]
                  exact hK _ rfl (fun _ => rfl)
                · intro a x K out get old hC hK
                  obtain ⟨yg, hyg, rfl⟩ := get 3 _ _ rfl rfl (by kernel_rfl)
                  rw [if_neg (by rw [wanted_undef rfl rfl rfl hyg]; decide)]
                  exact hK _ rfl (fun _ => rfl)
                · intro a x K out get old hC hK
                  obtain ⟨yg, hyg, rfl⟩ := get 3 _ _ rfl rfl (by kernel_rfl)
                  rw [if_neg (by rw [wanted_undef rfl rfl rfl hyg]; decide)]
                  exact hK _ rfl (fun _ => rfl)
                · intro a x K out get hJ hK
                  obtain ⟨yg, hyg, rfl⟩ := get 3 _ _ rfl rfl (by kernel_rfl)
                  rw [if_neg (by rw [wanted_undef rfl rfl rfl hyg]; decide)]
                  exact hK _ _ rfl (Below.refl _ _)
                · intro a x K out get old hC hK
                  obtain ⟨yg, hyg, rfl⟩ := get 1 _ _ rfl rfl (by kernel_rfl)
                  rw [if_neg (by rw [wanted_bool rfl rfl rfl hyg]; decide)]
                  exact hK _ rfl (fun _ => rfl)
                · intro a x K out get old hC hK
                  rw [if_pos (wanted_none rfl)]
                  obtain ⟨y40, hy40, rfl⟩ := get 1 _ _ rfl rfl (by kernel_rfl)
                  obtain ⟨y48, hy48, rfl⟩ := get 9 _ _ rfl rfl (by kernel_rfl)
                  clear out get old
                  go_simp
                  exact hK _ rfl (fun _ => rfl)
                · intro a x K out get hJ hK
                  rw [if_pos (wanted_none rfl)]
                  obtain ⟨y49, hy49, rfl, -⟩ := get 10 _ _ rfl rfl (by kernel_rfl)
                  clear out get
                  go_simp
                  exact hK _ _ trivial ⟨rfl, hJ⟩
                refine ao_finX (isD := fun s => (decide (39 ≤ s) && decide (s ≤ 49)) || decide (s = 7)) 0 (some 7) rfl (by kernel_rfl) (by kernel_rfl) (by kernel_rfl) ?_
                intro f9 wx hv hG hn
                obtain ⟨h7, hbx⟩ := hG 7 rfl
                have HBX := Lib.hid hbx
                clear hv hG hn hbx
                generalize hF : (Act.mk (List.toArray (frm f9 _ 0 _)) _) = fr
                simp [frm] at hF
                rw [h7] at hF
                subst hF
                generalize f9 39 = v39 at *; generalize f9 40 = v40 at *; generalize f9 41 = v41 at *; generalize f9 42 = v42 at *; generalize f9 43 = v43 at *; generalize f9 44 = v44 at *; generalize f9 45 = v45 at *; generalize f9 46 = v46 at *; generalize f9 47 = v47 at *; generalize f9 48 = v48 at *; generalize f9 49 = v49 at *
                clear h7
                go_wp2_with fail
                go_meet
                exact ⟨by simp, HBX.out⟩
              | false =>
                cases fa with
                | false =>
                  go_wp2_with fail
                  refine wp_region_orderX [11] (fun i => if i = 4 then 0 else if i = 8 then 0 else if i = 11 then 2 else 1) (pvS [some (.bool false), some (.bool false), some (.bool false), some (.bool false), some undef, some undef, some undef, some undef, some undef, some (.bool false), some (.bool false), none]) (pv [some (.bool false), some (.bool false), some (.bool false), some (.bool false), some undef, some undef, some undef, some undef, some undef, some (.bool false), some (.bool false), none]) (fun X => Below w8.heap.size w8 X) (fun _ => True) (fun _ y X => y = .bool false ∧ Below w8.heap.size w8 X)
                    (Below.refl _ _).drew (fun _ _ => trivial) (fun _ _ _ _ => trivial) (fun X X2 h hb => h.trans (hb.mono h.size)) (fun _ _ _ h => h) (by kernel_rfl) (by kernel_rfl) ⟨?_, ?_, ?_, ?_, ?_, ?_, ?_, ?_, ?_, ?_, ?_, ?_, trivial⟩ ?_
                  · intro a x K out get old hC hK
                    rw [if_pos (wanted_none rfl)]
                    have o7 : a.tmps[7]? = some (.bool false) := old 11 _ _ rfl rfl (by kernel_rfl)
                    clear out get old
                    go_simp
                    exact hK _ rfl (fun _ => rfl)
                  · intro a x K out get old hC hK
                    rw [if_pos (wanted_none rfl)]
                    obtain ⟨y39, hy39, rfl⟩ := get 0 _ _ rfl rfl (by kernel_rfl)
                    clear out get old
                    go_simp
                    exact hK _ rfl (fun _ => rfl)
                  · intro a x K out get old hC hK
                    obtain ⟨yg, hyg, rfl⟩ := get 1 _ _ rfl rfl (by kernel_rfl)
                    rw [if_pos (by rw [wanted_bool rfl rfl rfl hyg]; rfl)]
                    clear hyg
                    have o11 : a.tmps[11]? = some (.bool false) := out 11 (by kernel_rfl)
                    clear out get old
                    go_simp
                    exact hK _ rfl (fun _ => rfl)
                  · intro a x K out get old hC hK
                    obtain ⟨yg, hyg, rfl⟩ := get 1 _ _ rfl rfl (by kernel_rfl)
                    rw [if_pos (by rw [wanted_bool rfl rfl rfl hyg]; rfl)]
                    clear hyg
                    obtain ⟨y41, hy41, rfl⟩ := get 2 _ _ rfl rfl (by kernel_rfl)
                    clear out get old
                    go_simp
                    exact hK _ rfl (fun _ => rfl)
                  · intro a x K out get hJ hK
                    obtain ⟨yg, hyg, rfl⟩ := get 3 _ _ rfl rfl (by kernel_rfl)
                    rw [if_neg (by rw [wanted_bool rfl rfl rfl hyg]; decide)]
                    exact hK _ _ rfl (Below.refl _ _)
                  · intro a x K out get old hC hK
                    obtain ⟨yg, hyg, rfl⟩ := get 3 _ _ rfl rfl (by kernel_rfl)
                    rw [if_neg (by rw [wanted_bool rfl rfl rfl hyg]; decide)]
                    exact hK _ rfl (fun _ => rfl)
                  · intro a x K out get old hC hK
                    obtain ⟨yg, hyg, rfl⟩ := get 3 _ _ rfl rfl (by kernel_rfl)
                    rw [if_neg (by rw [wanted_bool rfl rfl rfl hyg]; decide)]
                    exact hK _ rfl (fun _ => rfl)
                  · intro a x K out get old hC hK
                    obtain ⟨yg, hyg, rfl⟩ := get 3 _ _ rfl rfl (by kernel_rfl)
                    rw [if_neg (by rw [wanted_bool rfl rfl rfl hyg]; decide)]
                    exact hK _ rfl (fun _ => rfl)
                  · intro a x K out get hJ hK
                    obtain ⟨yg, hyg, rfl⟩ := get 3 _ _ rfl rfl (by kernel_rfl)
                    rw [if_neg (by rw [wanted_bool rfl rfl rfl hyg]; decide)]
                    exact hK _ _ rfl (Below.refl _ _)
                  · intro a x K out get old hC hK
                    obtain ⟨yg, hyg, rfl⟩ := get 1 _ _ rfl rfl (by kernel_rfl)
                    rw [if_pos (by rw [wanted_bool rfl rfl rfl hyg]; rfl)]
                    clear hyg
                    obtain ⟨y42, hy42, rfl⟩ := get 3 _ _ rfl rfl (by kernel_rfl)
                    obtain ⟨y47, hy47, rfl⟩ := get 8 _ _ rfl rfl (by kernel_rfl)
                    clear out get old
                    go_simp
                    exact hK _ rfl (fun _ => rfl)
                  · intro a x K out get old hC hK
                    rw [if_pos (wanted_none rfl)]
                    obtain ⟨y40, hy40, rfl⟩ := get 1 _ _ rfl rfl (by kernel_rfl)
                    obtain ⟨y48, hy48, rfl⟩ := get 9 _ _ rfl rfl (by kernel_rfl)
                    clear out get old
                    go_simp
                    exact hK _ rfl (fun _ => rfl)
                  · intro a x K out get hJ hK
                    rw [if_pos (wanted_none rfl)]
                    obtain ⟨y49, hy49, rfl, -⟩ := get 10 _ _ rfl rfl (by kernel_rfl)
                    clear out get
                    go_simp
                    exact hK _ _ trivial ⟨rfl, hJ⟩
                  refine ao_finX (isD := fun s => (decide (39 ≤ s) && decide (s ≤ 49)) || decide (s = 7)) 0 (some 7) rfl (by kernel_rfl) (by kernel_rfl) (by kernel_rfl) ?_
                  intro f9 wx hv hG hn
                  obtain ⟨h7, hbx⟩ := hG 7 rfl
                  have HBX := Lib.hid hbx
                  clear hv hG hn hbx
                  generalize hF : (Act.mk (List.toArray (frm f9 _ 0 _)) _) = fr
                  simp [frm] at hF
                  rw [h7] at hF
                  subst hF
                  generalize f9 39 = v39 at *; generalize f9 40 = v40 at *; generalize f9 41 = v41 at *; generalize f9 42 = v42 at *; generalize f9 43 = v43 at *; generalize f9 44 = v44 at *; generalize f9 45 = v45 at *; generalize f9 46 = v46 at *; generalize f9 47 = v47 at *; generalize f9 48 = v48 at *; generalize f9 49 = v49 at *
                  clear h7
                  go_wp2_with fail
                  go_meet
                  exact ⟨by simp, HBX.out⟩
                | true =>
                  go_wp2_with fail
                  refine wp_region_orderX [11] (fun i => if i = 4 then 0 else if i = 8 then 0 else if i = 11 then 2 else 1) (pvS [some (.bool false), some (.bool false), some (.bool true), some (.bool true), some (.agg #[.int .u8 y0, .int .u64 y1, .int .u64 y2, .int .u64 y3, .int .u64 y4, .slice yl yn yc]), some (.string s), some (.int .i64 i), some (.string (s.extract i s.size)), some (.bool fb), some (.bool fb), some (.bool fb), none]) (pv [some (.bool false), some (.bool false), some (.bool true), some (.bool true), some (.agg #[.int .u8 y0, .int .u64 y1, .int .u64 y2, .int .u64 y3, .int .u64 y4, .slice yl yn yc]), some (.string s), some (.int .i64 i), some (.string (s.extract i s.size)), some (.bool fb), some (.bool fb), some (.bool fb), none]) (fun X => Below w8.heap.size w8 X) (fun _ => True) (fun _ y X => y = .bool fb ∧ Below w8.heap.size w8 X)
                    (Below.refl _ _).drew (fun _ _ => trivial) (fun _ _ _ _ => trivial) (fun X X2 h hb => h.trans (hb.mono h.size)) (fun _ _ _ h => h) (by kernel_rfl) (by kernel_rfl) ⟨?_, ?_, ?_, ?_, ?_, ?_, ?_, ?_, ?_, ?_, ?_, ?_, trivial⟩ ?_
                  · intro a x K out get old hC hK
                    rw [if_pos (wanted_none rfl)]
                    have o7 : a.tmps[7]? = some (.bool false) := old 11 _ _ rfl rfl (by kernel_rfl)
                    clear out get old
                    go_simp
                    exact hK _ rfl (fun _ => rfl)
                  · intro a x K out get old hC hK
                    rw [if_pos (wanted_none rfl)]
                    obtain ⟨y39, hy39, rfl⟩ := get 0 _ _ rfl rfl (by kernel_rfl)
                    clear out get old
                    go_simp
                    exact hK _ rfl (fun _ => rfl)
                  · intro a x K out get old hC hK
                    obtain ⟨yg, hyg, rfl⟩ := get 1 _ _ rfl rfl (by kernel_rfl)
                    rw [if_pos (by rw [wanted_bool rfl rfl rfl hyg]; rfl)]
                    clear hyg
                    have o11 : a.tmps[11]? = some (.bool true) := out 11 (by kernel_rfl)
                    clear out get old
                    go_simp
                    exact hK _ rfl (fun _ => rfl)
                  · intro a x K out get old hC hK
                    obtain ⟨yg, hyg, rfl⟩ := get 1 _ _ rfl rfl (by kernel_rfl)
                    rw [if_pos (by rw [wanted_bool rfl rfl rfl hyg]; rfl)]
                    clear hyg
                    obtain ⟨y41, hy41, rfl⟩ := get 2 _ _ rfl rfl (by kernel_rfl)
                    clear out get old
                    go_simp
                    exact hK _ rfl (fun _ => rfl)
                  · intro a x K out get hJ hK
                    obtain ⟨yg, hyg, rfl⟩ := get 3 _ _ rfl rfl (by kernel_rfl)
                    rw [if_pos (by rw [wanted_bool rfl rfl rfl hyg]; rfl)]
                    clear hyg
                    have o4 : a.tmps[4]? = some (.pointer (some ⟨w.heap.size + 1, 0, none⟩)) := out 4 (by kernel_rfl)
                    clear out get
                    obtain ⟨c0, c1, c2, c3, c4, c5, -⟩ := CB.out x hJ
                    go_simp
                    exact hK _ _ rfl (Below.refl _ _)
                  · intro a x K out get old hC hK
                    obtain ⟨yg, hyg, rfl⟩ := get 3 _ _ rfl rfl (by kernel_rfl)
                    rw [if_pos (by rw [wanted_bool rfl rfl rfl hyg]; rfl)]
                    clear hyg
                    have o2 : a.tmps[2]? = some (.string s) := out 2 (by kernel_rfl)
                    clear out get old
                    go_simp
                    exact hK _ rfl (fun _ => rfl)
                  · intro a x K out get old hC hK
                    obtain ⟨yg, hyg, rfl⟩ := get 3 _ _ rfl rfl (by kernel_rfl)
                    rw [if_pos (by rw [wanted_bool rfl rfl rfl hyg]; rfl)]
                    clear hyg
                    have o10 : a.tmps[10]? = some (.int .i64 i) := out 10 (by kernel_rfl)
                    clear out get old
                    go_simp
                    exact hK _ rfl (fun _ => rfl)
                  · intro a x K out get old hC hK
                    obtain ⟨yg, hyg, rfl⟩ := get 3 _ _ rfl rfl (by kernel_rfl)
                    rw [if_pos (by rw [wanted_bool rfl rfl rfl hyg]; rfl)]
                    clear hyg
                    obtain ⟨y44, hy44, rfl⟩ := get 5 _ _ rfl rfl (by kernel_rfl)
                    obtain ⟨y45, hy45, rfl⟩ := get 6 _ _ rfl rfl (by kernel_rfl)
                    clear out get old
                    have hi1 := HIN.out
                    go_simp
                    exact hK _ rfl (fun _ => rfl)
                  · intro a x K out get hJ hK
                    obtain ⟨yg, hyg, rfl⟩ := get 3 _ _ rfl rfl (by kernel_rfl)
                    rw [if_pos (by rw [wanted_bool rfl rfl rfl hyg]; rfl)]
                    clear hyg
                    obtain ⟨y43, hy43, rfl⟩ := get 4 _ _ rfl rfl (by kernel_rfl)
                    obtain ⟨y46, hy46, rfl⟩ := get 7 _ _ rfl rfl (by kernel_rfl)
                    clear out get
                    go_simp
                    refine (KFB.out x hJ).mono ?_
                    rintro e w2 ⟨rfl, hb2⟩
                    exact hK _ _ rfl hb2
                  · intro a x K out get old hC hK
                    obtain ⟨yg, hyg, rfl⟩ := get 1 _ _ rfl rfl (by kernel_rfl)
                    rw [if_pos (by rw [wanted_bool rfl rfl rfl hyg]; rfl)]
                    clear hyg
                    obtain ⟨y42, hy42, rfl⟩ := get 3 _ _ rfl rfl (by kernel_rfl)
                    obtain ⟨y47, hy47, rfl⟩ := get 8 _ _ rfl rfl (by kernel_rfl)
                    clear out get old
                    go_simp
                    exact hK _ rfl (fun _ => rfl)
                  · intro a x K out get old hC hK
                    rw [if_pos (wanted_none rfl)]
                    obtain ⟨y40, hy40, rfl⟩ := get 1 _ _ rfl rfl (by kernel_rfl)
                    obtain ⟨y48, hy48, rfl⟩ := get 9 _ _ rfl rfl (by kernel_rfl)
                    clear out get old
                    go_simp
                    exact hK _ rfl (fun _ => rfl)
                  · intro a x K out get hJ hK
                    rw [if_pos (wanted_none rfl)]
                    obtain ⟨y49, hy49, rfl, -⟩ := get 10 _ _ rfl rfl (by kernel_rfl)
                    clear out get
                    go_simp
                    exact hK _ _ trivial ⟨rfl, hJ⟩
                  refine ao_finX (isD := fun s => (decide (39 ≤ s) && decide (s ≤ 49)) || decide (s = 7)) 0 (some 7) rfl (by kernel_rfl) (by kernel_rfl) (by kernel_rfl) ?_
                  intro f9 wx hv hG hn
                  obtain ⟨h7, hbx⟩ := hG 7 rfl
                  have HBX := Lib.hid hbx
                  clear hv hG hn hbx
                  generalize hF : (Act.mk (List.toArray (frm f9 _ 0 _)) _) = fr
                  simp [frm] at hF
                  rw [h7] at hF
                  subst hF
                  generalize f9 39 = v39 at *; generalize f9 40 = v40 at *; generalize f9 41 = v41 at *; generalize f9 42 = v42 at *; generalize f9 43 = v43 at *; generalize f9 44 = v44 at *; generalize f9 45 = v45 at *; generalize f9 46 = v46 at *; generalize f9 47 = v47 at *; generalize f9 48 = v48 at *; generalize f9 49 = v49 at *
                  clear h7
                  go_wp2_with fail
                  go_meet
                  exact ⟨by simp, HBX.out⟩
            case rest =>
              obtain ⟨rfl, hbc⟩ := hcut
              have HC := Lib.hid (H8.out.trans (hbc.mono H8.out.size))
              rw [← HNB.out]
              clear hbc CB KFB H8
              have CZ := Lib.hid fun x (hx : Below wc.heap.size wc x) => cellsR (((HC.out.trans (hx.mono HC.out.size)).block _ (Array.getElem?_eq_some_iff.1 HZN.out).1).trans HZN.out)
              have KFS := Lib.hid fun x (hx : Below wc.heap.size wc x) => KFS0.out i x (HC.out.trans (hx.mono HC.out.size))
              rw [← HFS.out] at KFS
              obtain ⟨bn, hbn⟩ : ∃ b, b = cutB ra rb s (i + 1) := ⟨_, rfl⟩
              rw [← hbn]
              have HBN := Lib.hid hbn
              clear hbn
              go_upto_region 10 with fail
              cases mn with
              | true =>
                go_wp2_with fail
                refine wp_region_orderX [15] (fun i => if i = 8 then 0 else if i = 12 then 0 else if i = 15 then 2 else 1) (pvS [some (.bool true), some (.bool true), some undef, some undef, some undef, some undef, some undef, some undef, some undef, some undef, some undef, some undef, some undef, some undef, some (.bool true), none]) (pv [some (.bool true), some (.bool true), some undef, some undef, some undef, some undef, some undef, some undef, some undef, some undef, some undef, some undef, some undef, some undef, some (.bool true), none]) (fun X => Below wc.heap.size wc X) (fun _ => True) (fun _ y X => y = .bool true ∧ Below wc.heap.size wc X)
                  (Below.refl _ _).drew (fun _ _ => trivial) (fun _ _ _ _ => trivial) (fun X X2 h hb => h.trans (hb.mono h.size)) (fun _ _ _ h => h) (by kernel_rfl) (by kernel_rfl) ⟨?_, ?_, ?_, ?_, ?_, ?_, ?_, ?_, ?_, ?_, ?_, ?_, ?_, ?_, ?_, ?_, trivial⟩ ?_
                · intro a x K out get old hC hK
                  rw [if_pos (wanted_none rfl)]
                  have o8 : a.tmps[8]? = some (.bool true) := old 15 _ _ rfl rfl (by kernel_rfl)
                  clear out get old
                  go_simp
                  exact hK _ rfl (fun _ => rfl)
                · intro a x K out get old hC hK
                  rw [if_pos (wanted_none rfl)]
                  obtain ⟨y50, hy50, rfl⟩ := get 0 _ _ rfl rfl (by kernel_rfl)
                  clear out get old
                  go_simp
                  exact hK _ rfl (fun _ => rfl)
                · intro a x K out get old hC hK
                  obtain ⟨yg, hyg, rfl⟩ := get 1 _ _ rfl rfl (by kernel_rfl)
                  rw [if_neg (by rw [wanted_bool rfl rfl rfl hyg]; decide)]
                  exact hK _ rfl (fun _ => rfl)
                · intro a x K out get old hC hK
                  obtain ⟨yg, hyg, rfl⟩ := get 1 _ _ rfl rfl (by kernel_rfl)
                  rw [if_neg (by rw [wanted_bool rfl rfl rfl hyg]; decide)]
                  exact hK _ rfl (fun _ => rfl)
                · intro a x K out get old hC hK
                  obtain ⟨yg, hyg, rfl⟩ := get 3 _ _ rfl rfl (by kernel_rfl)
                  rw [if_neg (by rw [wanted_undef rfl rfl rfl hyg]; decide)]
                  exact hK _ rfl (fun _ => rfl)
                · intro a x K out get old hC hK
                  obtain ⟨yg, hyg, rfl⟩ := get 3 _ _ rfl rfl (by kernel_rfl)
                  rw [if_neg (by rw [wanted_undef rfl rfl rfl hyg]; decide)]
                  exact hK _ rfl (fun _ => rfl)
                · intro a x K out get old hC hK
                  obtain ⟨yg, hyg, rfl⟩ := get 1 _ _ rfl rfl (by kernel_rfl)
                  rw [if_neg (by rw [wanted_bool rfl rfl rfl hyg]; decide)]
                  exact hK _ rfl (fun _ => rfl)
                · intro a x K out get old hC hK
                  obtain ⟨yg, hyg, rfl⟩ := get 1 _ _ rfl rfl (by kernel_rfl)
                  rw [if_neg (by rw [wanted_bool rfl rfl rfl hyg]; decide)]
                  exact hK _ rfl (fun _ => rfl)
                · intro a x K out get hJ hK
                  obtain ⟨yg, hyg, rfl⟩ := get 7 _ _ rfl rfl (by kernel_rfl)
                  rw [if_neg (by rw [wanted_undef rfl rfl rfl hyg]; decide)]
                  exact hK _ _ rfl (Below.refl _ _)
                · intro a x K out get old hC hK
                  obtain ⟨yg, hyg, rfl⟩ := get 7 _ _ rfl rfl (by kernel_rfl)
                  rw [if_neg (by rw [wanted_undef rfl rfl rfl hyg]; decide)]
                  exact hK _ rfl (fun _ => rfl)
                · intro a x K out get old hC hK
                  obtain ⟨yg, hyg, rfl⟩ := get 7 _ _ rfl rfl (by kernel_rfl)
                  rw [if_neg (by rw [wanted_undef rfl rfl rfl hyg]; decide)]
                  exact hK _ rfl (fun _ => rfl)
                · intro a x K out get old hC hK
                  obtain ⟨yg, hyg, rfl⟩ := get 7 _ _ rfl rfl (by kernel_rfl)
                  rw [if_neg (by rw [wanted_undef rfl rfl rfl hyg]; decide)]
                  exact hK _ rfl (fun _ => rfl)
                · intro a x K out get hJ hK
                  obtain ⟨yg, hyg, rfl⟩ := get 7 _ _ rfl rfl (by kernel_rfl)
                  rw [if_neg (by rw [wanted_undef rfl rfl rfl hyg]; decide)]
                  exact hK _ _ rfl (Below.refl _ _)
                · intro a x K out get old hC hK
                  obtain ⟨yg, hyg, rfl⟩ := get 1 _ _ rfl rfl (by kernel_rfl)
                  rw [if_neg (by rw [wanted_bool rfl rfl rfl hyg]; decide)]
                  exact hK _ rfl (fun _ => rfl)
                · intro a x K out get old hC hK
                  rw [if_pos (wanted_none rfl)]
                  obtain ⟨y51, hy51, rfl⟩ := get 1 _ _ rfl rfl (by kernel_rfl)
                  obtain ⟨y63, hy63, rfl⟩ := get 13 _ _ rfl rfl (by kernel_rfl)
                  clear out get old
                  go_simp
                  exact hK _ rfl (fun _ => rfl)
                · intro a x K out get hJ hK
                  rw [if_pos (wanted_none rfl)]
                  obtain ⟨y64, hy64, rfl, -⟩ := get 14 _ _ rfl rfl (by kernel_rfl)
                  clear out get
                  go_simp
                  exact hK _ _ trivial ⟨rfl, hJ⟩
                refine ao_finX (isD := fun s => (decide (50 ≤ s) && decide (s ≤ 64)) || decide (s = 8)) 0 (some 8) rfl (by kernel_rfl) (by kernel_rfl) (by kernel_rfl) ?_
                intro f9 wx hv hG hn
                obtain ⟨h8, hbx⟩ := hG 8 rfl
                have HBX := Lib.hid hbx
                clear hv hG hn hbx
                generalize hF : (Act.mk (List.toArray (frm f9 _ 0 _)) _) = fr
                simp [frm] at hF
                rw [h8] at hF
                subst hF
                generalize f9 50 = v50 at *; generalize f9 51 = v51 at *; generalize f9 52 = v52 at *; generalize f9 53 = v53 at *; generalize f9 54 = v54 at *; generalize f9 55 = v55 at *; generalize f9 56 = v56 at *; generalize f9 57 = v57 at *; generalize f9 58 = v58 at *; generalize f9 59 = v59 at *; generalize f9 60 = v60 at *; generalize f9 61 = v61 at *; generalize f9 62 = v62 at *; generalize f9 63 = v63 at *; generalize f9 64 = v64 at *
                clear h8
                have HC2 := Lib.hid (HC.out.trans (HBX.out.mono HC.out.size))
                go_wp2
                exact ⟨⟨i + 1, by omega, by go_num, by rw [HBN.out], by rw [HNM.out]; simp, HC2.out⟩, by simp [intOf]; omega⟩
              | false =>
                cases fa with
                | false =>
                  go_wp2_with fail
                  refine wp_region_orderX [15] (fun i => if i = 8 then 0 else if i = 12 then 0 else if i = 15 then 2 else 1) (pvS [some (.bool false), some (.bool false), some (.bool false), some (.bool false), some undef, some undef, some (.bool false), some (.bool false), some undef, some undef, some undef, some undef, some undef, some (.bool false), some (.bool false), none]) (pv [some (.bool false), some (.bool false), some (.bool false), some (.bool false), some undef, some undef, some (.bool false), some (.bool false), some undef, some undef, some undef, some undef, some undef, some (.bool false), some (.bool false), none]) (fun X => Below wc.heap.size wc X) (fun _ => True) (fun _ y X => y = .bool false ∧ Below wc.heap.size wc X)
                    (Below.refl _ _).drew (fun _ _ => trivial) (fun _ _ _ _ => trivial) (fun X X2 h hb => h.trans (hb.mono h.size)) (fun _ _ _ h => h) (by kernel_rfl) (by kernel_rfl) ⟨?_, ?_, ?_, ?_, ?_, ?_, ?_, ?_, ?_, ?_, ?_, ?_, ?_, ?_, ?_, ?_, trivial⟩ ?_
                  · intro a x K out get old hC hK
                    rw [if_pos (wanted_none rfl)]
                    have o8 : a.tmps[8]? = some (.bool false) := old 15 _ _ rfl rfl (by kernel_rfl)
                    clear out get old
                    go_simp
                    exact hK _ rfl (fun _ => rfl)
                  · intro a x K out get old hC hK
                    rw [if_pos (wanted_none rfl)]
                    obtain ⟨y50, hy50, rfl⟩ := get 0 _ _ rfl rfl (by kernel_rfl)
                    clear out get old
                    go_simp
                    exact hK _ rfl (fun _ => rfl)
                  · intro a x K out get old hC hK
                    obtain ⟨yg, hyg, rfl⟩ := get 1 _ _ rfl rfl (by kernel_rfl)
                    rw [if_pos (by rw [wanted_bool rfl rfl rfl hyg]; rfl)]
                    clear hyg
                    have o11 : a.tmps[11]? = some (.bool false) := out 11 (by kernel_rfl)
                    clear out get old
                    go_simp
                    exact hK _ rfl (fun _ => rfl)
                  · intro a x K out get old hC hK
                    obtain ⟨yg, hyg, rfl⟩ := get 1 _ _ rfl rfl (by kernel_rfl)
                    rw [if_pos (by rw [wanted_bool rfl rfl rfl hyg]; rfl)]
                    clear hyg
                    obtain ⟨y52, hy52, rfl⟩ := get 2 _ _ rfl rfl (by kernel_rfl)
                    clear out get old
                    go_simp
                    exact hK _ rfl (fun _ => rfl)
                  · intro a x K out get old hC hK
                    obtain ⟨yg, hyg, rfl⟩ := get 3 _ _ rfl rfl (by kernel_rfl)
                    rw [if_neg (by rw [wanted_bool rfl rfl rfl hyg]; decide)]
                    exact hK _ rfl (fun _ => rfl)
                  · intro a x K out get old hC hK
                    obtain ⟨yg, hyg, rfl⟩ := get 3 _ _ rfl rfl (by kernel_rfl)
                    rw [if_neg (by rw [wanted_bool rfl rfl rfl hyg]; decide)]
                    exact hK _ rfl (fun _ => rfl)
                  · intro a x K out get old hC hK
                    obtain ⟨yg, hyg, rfl⟩ := get 1 _ _ rfl rfl (by kernel_rfl)
                    rw [if_pos (by rw [wanted_bool rfl rfl rfl hyg]; rfl)]
                    clear hyg
                    obtain ⟨y53, hy53, rfl⟩ := get 3 _ _ rfl rfl (by kernel_rfl)
                    obtain ⟨y55, hy55, rfl⟩ := get 5 _ _ rfl rfl (by kernel_rfl)
                    clear out get old
                    go_simp
                    exact hK _ rfl (fun _ => rfl)
                  · intro a x K out get old hC hK
                    obtain ⟨yg, hyg, rfl⟩ := get 1 _ _ rfl rfl (by kernel_rfl)
                    rw [if_pos (by rw [wanted_bool rfl rfl rfl hyg]; rfl)]
                    clear hyg
                    obtain ⟨y56, hy56, rfl⟩ := get 6 _ _ rfl rfl (by kernel_rfl)
                    clear out get old
                    go_simp
                    exact hK _ rfl (fun _ => rfl)
                  · intro a x K out get hJ hK
                    obtain ⟨yg, hyg, rfl⟩ := get 7 _ _ rfl rfl (by kernel_rfl)
                    rw [if_neg (by rw [wanted_bool rfl rfl rfl hyg]; decide)]
                    exact hK _ _ rfl (Below.refl _ _)
                  · intro a x K out get old hC hK
                    obtain ⟨yg, hyg, rfl⟩ := get 7 _ _ rfl rfl (by kernel_rfl)
                    rw [if_neg (by rw [wanted_bool rfl rfl rfl hyg]; decide)]
                    exact hK _ rfl (fun _ => rfl)
                  · intro a x K out get old hC hK
                    obtain ⟨yg, hyg, rfl⟩ := get 7 _ _ rfl rfl (by kernel_rfl)
                    rw [if_neg (by rw [wanted_bool rfl rfl rfl hyg]; decide)]
                    exact hK _ rfl (fun _ => rfl)
                  · intro a x K out get old hC hK
                    obtain ⟨yg, hyg, rfl⟩ := get 7 _ _ rfl rfl (by kernel_rfl)
                    rw [if_neg (by rw [wanted_bool rfl rfl rfl hyg]; decide)]
                    exact hK _ rfl (fun _ => rfl)
                  · intro a x K out get hJ hK
                    obtain ⟨yg, hyg, rfl⟩ := get 7 _ _ rfl rfl (by kernel_rfl)
                    rw [if_neg (by rw [wanted_bool rfl rfl rfl hyg]; decide)]
                    exact hK _ _ rfl (Below.refl _ _)
                  · intro a x K out get old hC hK
                    obtain ⟨yg, hyg, rfl⟩ := get 1 _ _ rfl rfl (by kernel_rfl)
                    rw [if_pos (by rw [wanted_bool rfl rfl rfl hyg]; rfl)]
                    clear hyg
                    obtain ⟨y57, hy57, rfl⟩ := get 7 _ _ rfl rfl (by kernel_rfl)
                    obtain ⟨y62, hy62, rfl⟩ := get 12 _ _ rfl rfl (by kernel_rfl)
                    clear out get old
                    go_simp
                    exact hK _ rfl (fun _ => rfl)
                  · intro a x K out get old hC hK
                    rw [if_pos (wanted_none rfl)]
                    obtain ⟨y51, hy51, rfl⟩ := get 1 _ _ rfl rfl (by kernel_rfl)
                    obtain ⟨y63, hy63, rfl⟩ := get 13 _ _ rfl rfl (by kernel_rfl)
                    clear out get old
                    go_simp
                    exact hK _ rfl (fun _ => rfl)
                  · intro a x K out get hJ hK
                    rw [if_pos (wanted_none rfl)]
                    obtain ⟨y64, hy64, rfl, -⟩ := get 14 _ _ rfl rfl (by kernel_rfl)
                    clear out get
                    go_simp
                    exact hK _ _ trivial ⟨rfl, hJ⟩
                  refine ao_finX (isD := fun s => (decide (50 ≤ s) && decide (s ≤ 64)) || decide (s = 8)) 0 (some 8) rfl (by kernel_rfl) (by kernel_rfl) (by kernel_rfl) ?_
                  intro f9 wx hv hG hn
                  obtain ⟨h8, hbx⟩ := hG 8 rfl
                  have HBX := Lib.hid hbx
                  clear hv hG hn hbx
                  generalize hF : (Act.mk (List.toArray (frm f9 _ 0 _)) _) = fr
                  simp [frm] at hF
                  rw [h8] at hF
                  subst hF
                  generalize f9 50 = v50 at *; generalize f9 51 = v51 at *; generalize f9 52 = v52 at *; generalize f9 53 = v53 at *; generalize f9 54 = v54 at *; generalize f9 55 = v55 at *; generalize f9 56 = v56 at *; generalize f9 57 = v57 at *; generalize f9 58 = v58 at *; generalize f9 59 = v59 at *; generalize f9 60 = v60 at *; generalize f9 61 = v61 at *; generalize f9 62 = v62 at *; generalize f9 63 = v63 at *; generalize f9 64 = v64 at *
                  clear h8
                  have HC2 := Lib.hid (HC.out.trans (HBX.out.mono HC.out.size))
                  go_wp2
                  exact ⟨⟨i + 1, by omega, by go_num, by rw [HBN.out], by rw [HNM.out]; simp, HC2.out⟩, by simp [intOf]; omega⟩
                | true =>
                  by_cases h0 : 0 < i
                  · have HI0 := Lib.hid (show (0 : Int) < (i : Int) from by omega)
                    go_wp2_with fail
                    refine wp_region_orderX [15] (fun i => if i = 8 then 0 else if i = 12 then 0 else if i = 15 then 2 else 1) (pvS [some (.bool false), some (.bool false), some (.bool true), some (.bool true), some (.int .i64 i), some (.bool true), some (.bool true), some (.bool true), some (.agg #[.int .u8 z0, .int .u64 z1, .int .u64 z2, .int .u64 z3, .int .u64 z4, .slice zl zn zc]), some (.string s), some (.int .i64 i), some (.string (s.extract i s.size)), some (.bool fs), some (.bool fs), some (.bool fs), none]) (pv [some (.bool false), some (.bool false), some (.bool true), some (.bool true), some (.int .i64 i), some (.bool true), some (.bool true), some (.bool true), some (.agg #[.int .u8 z0, .int .u64 z1, .int .u64 z2, .int .u64 z3, .int .u64 z4, .slice zl zn zc]), some (.string s), some (.int .i64 i), some (.string (s.extract i s.size)), some (.bool fs), some (.bool fs), some (.bool fs), none]) (fun X => Below wc.heap.size wc X) (fun _ => True) (fun _ y X => y = .bool fs ∧ Below wc.heap.size wc X)
                      (Below.refl _ _).drew (fun _ _ => trivial) (fun _ _ _ _ => trivial) (fun X X2 h hb => h.trans (hb.mono h.size)) (fun _ _ _ h => h) (by kernel_rfl) (by kernel_rfl) ⟨?_, ?_, ?_, ?_, ?_, ?_, ?_, ?_, ?_, ?_, ?_, ?_, ?_, ?_, ?_, ?_, trivial⟩ ?_
                    · intro a x K out get old hC hK
                      rw [if_pos (wanted_none rfl)]
                      have o8 : a.tmps[8]? = some (.bool false) := old 15 _ _ rfl rfl (by kernel_rfl)
                      clear out get old
                      go_simp
                      exact hK _ rfl (fun _ => rfl)
                    · intro a x K out get old hC hK
                      rw [if_pos (wanted_none rfl)]
                      obtain ⟨y50, hy50, rfl⟩ := get 0 _ _ rfl rfl (by kernel_rfl)
                      clear out get old
                      go_simp
                      exact hK _ rfl (fun _ => rfl)
                    · intro a x K out get old hC hK
                      obtain ⟨yg, hyg, rfl⟩ := get 1 _ _ rfl rfl (by kernel_rfl)
                      rw [if_pos (by rw [wanted_bool rfl rfl rfl hyg]; rfl)]
                      clear hyg
                      have o11 : a.tmps[11]? = some (.bool true) := out 11 (by kernel_rfl)
                      clear out get old
                      go_simp
                      exact hK _ rfl (fun _ => rfl)
                    · intro a x K out get old hC hK
                      obtain ⟨yg, hyg, rfl⟩ := get 1 _ _ rfl rfl (by kernel_rfl)
                      rw [if_pos (by rw [wanted_bool rfl rfl rfl hyg]; rfl)]
                      clear hyg
                      obtain ⟨y52, hy52, rfl⟩ := get 2 _ _ rfl rfl (by kernel_rfl)
                      clear out get old
                      go_simp
                      exact hK _ rfl (fun _ => rfl)
                    · intro a x K out get old hC hK
                      obtain ⟨yg, hyg, rfl⟩ := get 3 _ _ rfl rfl (by kernel_rfl)
                      rw [if_pos (by rw [wanted_bool rfl rfl rfl hyg]; rfl)]
                      clear hyg
                      have o10 : a.tmps[10]? = some (.int .i64 i) := out 10 (by kernel_rfl)
                      clear out get old
                      go_simp
                      exact hK _ rfl (fun _ => rfl)
                    · intro a x K out get old hC hK
                      obtain ⟨yg, hyg, rfl⟩ := get 3 _ _ rfl rfl (by kernel_rfl)
                      rw [if_pos (by rw [wanted_bool rfl rfl rfl hyg]; rfl)]
                      clear hyg
                      obtain ⟨y54, hy54, rfl⟩ := get 4 _ _ rfl rfl (by kernel_rfl)
                      clear out get old
                      have hi2 := HI0.out
                      go_simp
                      exact hK _ rfl (fun _ => rfl)
                    · intro a x K out get old hC hK
                      obtain ⟨yg, hyg, rfl⟩ := get 1 _ _ rfl rfl (by kernel_rfl)
                      rw [if_pos (by rw [wanted_bool rfl rfl rfl hyg]; rfl)]
                      clear hyg
                      obtain ⟨y53, hy53, rfl⟩ := get 3 _ _ rfl rfl (by kernel_rfl)
                      obtain ⟨y55, hy55, rfl⟩ := get 5 _ _ rfl rfl (by kernel_rfl)
                      clear out get old
                      go_simp
                      exact hK _ rfl (fun _ => rfl)
                    · intro a x K out get old hC hK
                      obtain ⟨yg, hyg, rfl⟩ := get 1 _ _ rfl rfl (by kernel_rfl)
                      rw [if_pos (by rw [wanted_bool rfl rfl rfl hyg]; rfl)]
                      clear hyg
                      obtain ⟨y56, hy56, rfl⟩ := get 6 _ _ rfl rfl (by kernel_rfl)
                      clear out get old
                      go_simp
                      exact hK _ rfl (fun _ => rfl)
                    · intro a x K out get hJ hK
                      obtain ⟨yg, hyg, rfl⟩ := get 7 _ _ rfl rfl (by kernel_rfl)
                      rw [if_pos (by rw [wanted_bool rfl rfl rfl hyg]; rfl)]
                      clear hyg
                      have o9 : a.tmps[9]? = some (.pointer (some ⟨gz, 0, none⟩)) := out 9 (by kernel_rfl)
                      clear out get
                      obtain ⟨c0, c1, c2, c3, c4, c5, -⟩ := CZ.out x hJ
                      go_simp
                      exact hK _ _ rfl (Below.refl _ _)
                    · intro a x K out get old hC hK
                      obtain ⟨yg, hyg, rfl⟩ := get 7 _ _ rfl rfl (by kernel_rfl)
                      rw [if_pos (by rw [wanted_bool rfl rfl rfl hyg]; rfl)]
                      clear hyg
                      have o2 : a.tmps[2]? = some (.string s) := out 2 (by kernel_rfl)
                      clear out get old
                      go_simp
                      exact hK _ rfl (fun _ => rfl)
                    · intro a x K out get old hC hK
                      obtain ⟨yg, hyg, rfl⟩ := get 7 _ _ rfl rfl (by kernel_rfl)
                      rw [if_pos (by rw [wanted_bool rfl rfl rfl hyg]; rfl)]
                      clear hyg
                      have o10 : a.tmps[10]? = some (.int .i64 i) := out 10 (by kernel_rfl)
                      clear out get old
                      go_simp
                      exact hK _ rfl (fun _ => rfl)
                    · intro a x K out get old hC hK
                      obtain ⟨yg, hyg, rfl⟩ := get 7 _ _ rfl rfl (by kernel_rfl)
                      rw [if_pos (by rw [wanted_bool rfl rfl rfl hyg]; rfl)]
                      clear hyg
                      obtain ⟨y59, hy59, rfl⟩ := get 9 _ _ rfl rfl (by kernel_rfl)
                      obtain ⟨y60, hy60, rfl⟩ := get 10 _ _ rfl rfl (by kernel_rfl)
                      clear out get old
                      have hi1 := HIN.out
                      go_simp
                      exact hK _ rfl (fun _ => rfl)
                    · intro a x K out get hJ hK
                      obtain ⟨yg, hyg, rfl⟩ := get 7 _ _ rfl rfl (by kernel_rfl)
                      rw [if_pos (by rw [wanted_bool rfl rfl rfl hyg]; rfl)]
                      clear hyg
                      obtain ⟨y58, hy58, rfl⟩ := get 8 _ _ rfl rfl (by kernel_rfl)
                      obtain ⟨y61, hy61, rfl⟩ := get 11 _ _ rfl rfl (by kernel_rfl)
                      clear out get
                      go_simp
                      refine (KFS.out x hJ).mono ?_
                      rintro e w2 ⟨rfl, hb2⟩
                      exact hK _ _ rfl hb2
                    · intro a x K out get old hC hK
                      obtain ⟨yg, hyg, rfl⟩ := get 1 _ _ rfl rfl (by kernel_rfl)
                      rw [if_pos (by rw [wanted_bool rfl rfl rfl hyg]; rfl)]
                      clear hyg
                      obtain ⟨y57, hy57, rfl⟩ := get 7 _ _ rfl rfl (by kernel_rfl)
                      obtain ⟨y62, hy62, rfl⟩ := get 12 _ _ rfl rfl (by kernel_rfl)
                      clear out get old
                      go_simp
                      exact hK _ rfl (fun _ => rfl)
                    · intro a x K out get old hC hK
                      rw [if_pos (wanted_none rfl)]
                      obtain ⟨y51, hy51, rfl⟩ := get 1 _ _ rfl rfl (by kernel_rfl)
                      obtain ⟨y63, hy63, rfl⟩ := get 13 _ _ rfl rfl (by kernel_rfl)
                      clear out get old
                      go_simp
                      exact hK _ rfl (fun _ => rfl)
                    · intro a x K out get hJ hK
                      rw [if_pos (wanted_none rfl)]
                      obtain ⟨y64, hy64, rfl, -⟩ := get 14 _ _ rfl rfl (by kernel_rfl)
                      clear out get
                      go_simp
                      exact hK _ _ trivial ⟨rfl, hJ⟩
                    refine ao_finX (isD := fun s => (decide (50 ≤ s) && decide (s ≤ 64)) || decide (s = 8)) 0 (some 8) rfl (by kernel_rfl) (by kernel_rfl) (by kernel_rfl) ?_
                    intro f9 wx hv hG hn
                    obtain ⟨h8, hbx⟩ := hG 8 rfl
                    have HBX := Lib.hid hbx
                    clear hv hG hn hbx
                    generalize hF : (Act.mk (List.toArray (frm f9 _ 0 _)) _) = fr
                    simp [frm] at hF
                    rw [h8] at hF
                    subst hF
                    generalize f9 50 = v50 at *; generalize f9 51 = v51 at *; generalize f9 52 = v52 at *; generalize f9 53 = v53 at *; generalize f9 54 = v54 at *; generalize f9 55 = v55 at *; generalize f9 56 = v56 at *; generalize f9 57 = v57 at *; generalize f9 58 = v58 at *; generalize f9 59 = v59 at *; generalize f9 60 = v60 at *; generalize f9 61 = v61 at *; generalize f9 62 = v62 at *; generalize f9 63 = v63 at *; generalize f9 64 = v64 at *
                    clear h8
                    have HC2 := Lib.hid (HC.out.trans (HBX.out.mono HC.out.size))
                    go_wp2
                    exact ⟨⟨i + 1, by omega, by go_num, by rw [HBN.out], by rw [HNM.out]; simp [h0], HC2.out⟩, by simp [intOf]; omega⟩
                  · have HI0 := Lib.hid (show ¬ (0 : Int) < (i : Int) from by omega)
                    go_wp2_with fail
                    refine wp_region_orderX [15] (fun i => if i = 8 then 0 else if i = 12 then 0 else if i = 15 then 2 else 1) (pvS [some (.bool false), some (.bool false), some (.bool true), some (.bool true), some (.int .i64 i), some (.bool false), some (.bool false), some (.bool false), some undef, some undef, some undef, some undef, some undef, some (.bool false), some (.bool false), none]) (pv [some (.bool false), some (.bool false), some (.bool true), some (.bool true), some (.int .i64 i), some (.bool false), some (.bool false), some (.bool false), some undef, some undef, some undef, some undef, some undef, some (.bool false), some (.bool false), none]) (fun X => Below wc.heap.size wc X) (fun _ => True) (fun _ y X => y = .bool false ∧ Below wc.heap.size wc X)
                      (Below.refl _ _).drew (fun _ _ => trivial) (fun _ _ _ _ => trivial) (fun X X2 h hb => h.trans (hb.mono h.size)) (fun _ _ _ h => h) (by kernel_rfl) (by kernel_rfl) ⟨?_, ?_, ?_, ?_, ?_, ?_, ?_, ?_, ?_, ?_, ?_, ?_, ?_, ?_, ?_, ?_, trivial⟩ ?_
                    · intro a x K out get old hC hK
                      rw [if_pos (wanted_none rfl)]
                      have o8 : a.tmps[8]? = some (.bool false) := old 15 _ _ rfl rfl (by kernel_rfl)
                      clear out get old
                      go_simp
                      exact hK _ rfl (fun _ => rfl)
                    · intro a x K out get old hC hK
                      rw [if_pos (wanted_none rfl)]
                      obtain ⟨y50, hy50, rfl⟩ := get 0 _ _ rfl rfl (by kernel_rfl)
                      clear out get old
                      go_simp
                      exact hK _ rfl (fun _ => rfl)
                    · intro a x K out get old hC hK
                      obtain ⟨yg, hyg, rfl⟩ := get 1 _ _ rfl rfl (by kernel_rfl)
                      rw [if_pos (by rw [wanted_bool rfl rfl rfl hyg]; rfl)]
                      clear hyg
                      have o11 : a.tmps[11]? = some (.bool true) := out 11 (by kernel_rfl)
                      clear out get old
                      go_simp
                      exact hK _ rfl (fun _ => rfl)
                    · intro a x K out get old hC hK
                      obtain ⟨yg, hyg, rfl⟩ := get 1 _ _ rfl rfl (by kernel_rfl)
                      rw [if_pos (by rw [wanted_bool rfl rfl rfl hyg]; rfl)]
                      clear hyg
                      obtain ⟨y52, hy52, rfl⟩ := get 2 _ _ rfl rfl (by kernel_rfl)
                      clear out get old
                      go_simp
                      exact hK _ rfl (fun _ => rfl)
                    · intro a x K out get old hC hK
                      obtain ⟨yg, hyg, rfl⟩ := get 3 _ _ rfl rfl (by kernel_rfl)
                      rw [if_pos (by rw [wanted_bool rfl rfl rfl hyg]; rfl)]
                      clear hyg
                      have o10 : a.tmps[10]? = some (.int .i64 i) := out 10 (by kernel_rfl)
                      clear out get old
                      go_simp
                      exact hK _ rfl (fun _ => rfl)
                    · intro a x K out get old hC hK
                      obtain ⟨yg, hyg, rfl⟩ := get 3 _ _ rfl rfl (by kernel_rfl)
                      rw [if_pos (by rw [wanted_bool rfl rfl rfl hyg]; rfl)]
                      clear hyg
                      obtain ⟨y54, hy54, rfl⟩ := get 4 _ _ rfl rfl (by kernel_rfl)
                      clear out get old
                      have hi2 := HI0.out
                      go_simp
                      exact hK _ rfl (fun _ => rfl)
                    · intro a x K out get old hC hK
                      obtain ⟨yg, hyg, rfl⟩ := get 1 _ _ rfl rfl (by kernel_rfl)
                      rw [if_pos (by rw [wanted_bool rfl rfl rfl hyg]; rfl)]
                      clear hyg
                      obtain ⟨y53, hy53, rfl⟩ := get 3 _ _ rfl rfl (by kernel_rfl)
                      obtain ⟨y55, hy55, rfl⟩ := get 5 _ _ rfl rfl (by kernel_rfl)
                      clear out get old
                      go_simp
                      exact hK _ rfl (fun _ => rfl)
                    · intro a x K out get old hC hK
                      obtain ⟨yg, hyg, rfl⟩ := get 1 _ _ rfl rfl (by kernel_rfl)
                      rw [if_pos (by rw [wanted_bool rfl rfl rfl hyg]; rfl)]
                      clear hyg
                      obtain ⟨y56, hy56, rfl⟩ := get 6 _ _ rfl rfl (by kernel_rfl)
                      clear out get old
                      go_simp
                      exact hK _ rfl (fun _ => rfl)
                    · intro a x K out get hJ hK
                      obtain ⟨yg, hyg, rfl⟩ := get 7 _ _ rfl rfl (by kernel_rfl)
                      rw [if_neg (by rw [wanted_bool rfl rfl rfl hyg]; decide)]
                      exact hK _ _ rfl (Below.refl _ _)
                    · intro a x K out get old hC hK
                      obtain ⟨yg, hyg, rfl⟩ := get 7 _ _ rfl rfl (by kernel_rfl)
                      rw [if_neg (by rw [wanted_bool rfl rfl rfl hyg]; decide)]
                      exact hK _ rfl (fun _ => rfl)
                    · intro a x K out get old hC hK
                      obtain ⟨yg, hyg, rfl⟩ := get 7 _ _ rfl rfl (by kernel_rfl)
                      rw [if_neg (by rw [wanted_bool rfl rfl rfl hyg]; decide)]
                      exact hK _ rfl (fun _ => rfl)
                    · intro a x K out get old hC hK
                      obtain ⟨yg, hyg, rfl⟩ := get 7 _ _ rfl rfl (by kernel_rfl)
                      rw [if_neg (by rw [wanted_bool rfl rfl rfl hyg]; decide)]
                      exact hK _ rfl (fun _ => rfl)
                    · intro a x K out get hJ hK
                      obtain ⟨yg, hyg, rfl⟩ := get 7 _ _ rfl rfl (by kernel_rfl)
                      rw [if_neg (by rw [wanted_bool rfl rfl rfl hyg]; decide)]
                      exact hK _ _ rfl (Below.refl _ _)
                    · intro a x K out get old hC hK
                      obtain ⟨yg, hyg, rfl⟩ := get 1 _ _ rfl rfl (by kernel_rfl)
                      rw [if_pos (by rw [wanted_bool rfl rfl rfl hyg]; rfl)]
                      clear hyg
                      obtain ⟨y57, hy57, rfl⟩ := get 7 _ _ rfl rfl (by kernel_rfl)
                      obtain ⟨y62, hy62, rfl⟩ := get 12 _ _ rfl rfl (by kernel_rfl)
                      clear out get old
                      go_simp
                      exact hK _ rfl (fun _ => rfl)
                    · intro a x K out get old hC hK
                      rw [if_pos (wanted_none rfl)]
                      obtain ⟨y51, hy51, rfl⟩ := get 1 _ _ rfl rfl (by kernel_rfl)
                      obtain ⟨y63, hy63, rfl⟩ := get 13 _ _ rfl rfl (by kernel_rfl)
                      clear out get old
                      go_simp
                      exact hK _ rfl (fun _ => rfl)
                    · intro a x K out get hJ hK
                      rw [if_pos (wanted_none rfl)]
                      obtain ⟨y64, hy64, rfl, -⟩ := get 14 _ _ rfl rfl (by kernel_rfl)
                      clear out get
                      go_simp
                      exact hK _ _ trivial ⟨rfl, hJ⟩
                    refine ao_finX (isD := fun s => (decide (50 ≤ s) && decide (s ≤ 64)) || decide (s = 8)) 0 (some 8) rfl (by kernel_rfl) (by kernel_rfl) (by kernel_rfl) ?_
                    intro f9 wx hv hG hn
                    obtain ⟨h8, hbx⟩ := hG 8 rfl
                    have HBX := Lib.hid hbx
                    clear hv hG hn hbx
                    generalize hF : (Act.mk (List.toArray (frm f9 _ 0 _)) _) = fr
                    simp [frm] at hF
                    rw [h8] at hF
                    subst hF
                    generalize f9 50 = v50 at *; generalize f9 51 = v51 at *; generalize f9 52 = v52 at *; generalize f9 53 = v53 at *; generalize f9 54 = v54 at *; generalize f9 55 = v55 at *; generalize f9 56 = v56 at *; generalize f9 57 = v57 at *; generalize f9 58 = v58 at *; generalize f9 59 = v59 at *; generalize f9 60 = v60 at *; generalize f9 61 = v61 at *; generalize f9 62 = v62 at *; generalize f9 63 = v63 at *; generalize f9 64 = v64 at *
                    clear h8
                    have HC2 := Lib.hid (HC.out.trans (HBX.out.mono HC.out.size))
                    go_wp2
                    exact ⟨⟨i + 1, by omega, by go_num, by rw [HBN.out], by rw [HNM.out]; simp [h0], HC2.out⟩, by simp [intOf]; omega⟩
          · have q2 : ¬ (i : Int) ≤ (s.size : Int) := by omega
            have hie : i = s.size + 1 := by omega
            have htf : fitsL10 (twoR ra rb) [s] = (bo && (mayR ra && mayR rb)) := by rw [HTF.out, HBO.out, hie]
            have hsf : fitsL10 (starR ra) [s] = (mn && mayR (starR ra)) := by rw [HSF.out, HMN.out, hie]
            obtain ⟨ms, hms⟩ : ∃ b, b = mayR (starR ra) := ⟨_, rfl⟩
            obtain ⟨ma, hma⟩ : ∃ b, b = mayR ra := ⟨_, rfl⟩
            obtain ⟨mb, hmb⟩ : ∃ b, b = mayR rb := ⟨_, rfl⟩
            have BW := Lib.hid (BZ.out.go hbr)
            have KMZ := Lib.hid (KMZ0.out wr hbr)
            rw [← hms] at hsf KMZ
            rw [← hma, ← hmb] at htf
            have HT2 := Lib.hid htf
            have HS2 := Lib.hid hsf
            have HMA := Lib.hid hma
            have HMB := Lib.hid hmb
            clear htf hsf hms hma hmb hie HTF HSF HBO HMN
            obtain ⟨e0, e1, e2, e3, e4, e5, -⟩ := cellsR ((hbr.block _ (Array.getElem?_eq_some_iff.1 HZN.out).1).trans HZN.out)
            go_upto_region 11 with fail
            go_cut [8] from 65 to 69 (fun v wx => v = .bool (mn && ms) ∧ Below wr.heap.size wr wx)
            case first =>
              cases mn with
              | false =>
                go_wp2_with fail
                go_meet
                exact ⟨rfl, Below.refl _ _⟩
              | true =>
                go_wp2_with fail
                refine KMZ.out.mono ?_
                rintro e wx ⟨rfl, hbx⟩
                have HBX := Lib.hid hbx
                clear hbx
                go_wp2_with fail
                go_meet
                exact ⟨rfl, HBX.out⟩
            case rest =>
              obtain ⟨rfl, hbc⟩ := hcut
              have HC := Lib.hid (HBR.out.trans (hbc.mono HBR.out.size))
              have BX := Lib.hid (BW.out.go hbc)
              clear hbc KMZ BW hbr e0 e1 e2 e3 e4 e5
              have HB := Lib.hid fun x (hx : Below wc.heap.size wc x) => HC.out.trans (hx.mono HC.out.size)
              have CA := Lib.hid fun x (hx : Below wc.heap.size wc x) => cellsR (BX.out.go hx).1
              have CB := Lib.hid fun x (hx : Below wc.heap.size wc x) => cellsR (BX.out.go hx).2.1
              have CZ := Lib.hid fun x (hx : Below wc.heap.size wc x) => cellsR (((HB.out x hx).block _ (Array.getElem?_eq_some_iff.1 HZN.out).1).trans HZN.out)
              have KT := Lib.hid fun x (hx : Below wc.heap.size wc x) => KT0.out x (HB.out x hx)
              have KMA := Lib.hid fun x (hx : Below wc.heap.size wc x) => KMA0.out x (HB.out x hx)
              have KMB := Lib.hid fun x (hx : Below wc.heap.size wc x) => KMB0.out x (HB.out x hx)
              rw [← HMA.out] at KMA
              rw [← HMB.out] at KMB
              have KF20 := Lib.hid fun x v g (_ : Below wc.heap.size wc x) (hr : ReAt (fun _ => True) x v (twoR ra rb)) (hS : StrsAt x (some ⟨g, 0, none⟩) [s]) => KL0.out (twoR ra rb) g x v hr hS
              rw [HT2.out] at KF20
              have KF30 := Lib.hid fun x g (hx : Below wc.heap.size wc x) (hS : StrsAt x (some ⟨g, 0, none⟩) [s]) => KL0.out (starR ra) g x _ (HZR.out.below (HB.out x hx)) hS
              rw [HS2.out] at KF30
              obtain ⟨mf, hmf⟩ : ∃ b, b = (mn && ms) := ⟨_, rfl⟩
              rw [← hmf] at KF30 ⊢
              clear hmf KF0 KFB0 KFS0 KMZ0 KMA0 KMB0 KT0 KL0 HT2 HS2 HMA HMB
              have KF3 := Lib.hid fun x (y : Value) (hx : Below wc.heap.size wc x) (hp : (SP.strs10 s).p y x) => show Calls Try.prog 17 #[.agg #[.int .u8 z0, .int .u64 z1, .int .u64 z2, .int .u64 z3, .int .u64 z4, .slice zl zn zc], y] x (fun e w' => e = .returned (.bool mf) ∧ Below x.heap.size x w') from hp.elim fun g h => by
                obtain ⟨h1, h2⟩ := h
                rw [h1]
                exact KF30.out x g hx h2
              have KF2 := Lib.hid fun x (v y : Value) (hx : Below wc.heap.size wc x) (hr : (SP.re10 (twoR ra rb)).p v x) (hp : (SP.strs10 s).p y x) => show Calls Try.prog 17 #[v, y] x (fun e w' => e = .returned (.bool (bo && (ma && mb))) ∧ Below x.heap.size x w') from hp.elim fun g h => by
                obtain ⟨h1, h2⟩ := h
                rw [h1]
                exact KF20.out x v g hx hr h2
              clear KF20 KF30
              cases bo with
              | false =>
                rw [show (false && (ma && mb)) = false from rfl] at KF2
                obtain ⟨c0, c1, c2, c3, c4, c5, -⟩ := CA.out _ (Below.refl _ _)
                obtain ⟨d0, d1, d2, d3, d4, d5, -⟩ := CB.out _ (Below.refl _ _)
                go_wp2_with fail
                refine (KT.out _ (Below.refl _ _)).mono ?_
                rintro e w4 ⟨v2, rfl, hv2, hb4⟩
                clear c0 c1 c2 c3 c4 c5 d0 d1 d2 d3 d4 d5
                obtain ⟨t0, t1, t2, t3, t4, tl, tn, tc, rfl⟩ := cells_re hv2
                have hal4 := bel_al w4 (.cells #[.string s] 9)
                have K2 := Lib.hid (KF2.out _ _ (.slice (some ⟨w4.heap.size, 0, none⟩) 1 1) (hb4.trans (hal4.mono hb4.size)) ((hv2.below hal4).imp fun _ _ _ => trivial) ⟨_, rfl, strs_one w4 s rfl _⟩)
                have H4 := Lib.hid (hb4.trans (hal4.mono hb4.size))
                clear hv2 hb4 hal4
                go_wp2_with fail
                refine K2.out.mono ?_
                rintro e w5 ⟨rfl, hb5⟩
                have HW := Lib.hid (H4.out.trans (hb5.mono H4.out.size))
                clear hb5 H4 K2
                have dmf : (mf == mf) = true := by simp
                obtain ⟨c0, c1, c2, c3, c4, c5, -⟩ := CZ.out _ HW.out
                have hal8 := bel_al w5 (.cells #[.string s] 9)
                have H8 := Lib.hid (HW.out.trans (hal8.mono HW.out.size))
                have K3 := Lib.hid (KF3.out _ (.slice (some ⟨w5.heap.size, 0, none⟩) 1 1) H8.out ⟨_, rfl, strs_one w5 s rfl _⟩)
                clear hal8
                go_wp2_with fail
                clear c0 c1 c2 c3 c4 c5
                refine K3.out.mono ?_
                rintro e w9 ⟨rfl, hb9⟩
                replace BX := Lib.hid (BX.out.go (H8.out.trans (hb9.mono H8.out.size)))
                clear hb9 H8 K3 HW
                go_wp2_with fail
                refine (KA.out _ BX.out.2.2).mono ?_
                rintro e w' ⟨rfl, hb⟩
                have HE := Lib.hid (BX.out.2.2.trans (hb.mono BX.out.2.2.size))
                clear hb
                go_wp2
                go_ret
                exact ⟨rfl, HE.out⟩
              | true =>
                cases ma with
                | false =>
                  rw [show (true && (false && mb)) = false from rfl] at KF2
                  obtain ⟨c0, c1, c2, c3, c4, c5, -⟩ := CA.out _ (Below.refl _ _)
                  obtain ⟨d0, d1, d2, d3, d4, d5, -⟩ := CB.out _ (Below.refl _ _)
                  go_wp2_with fail
                  refine (KT.out _ (Below.refl _ _)).mono ?_
                  rintro e w4 ⟨v2, rfl, hv2, hb4⟩
                  clear c0 c1 c2 c3 c4 c5 d0 d1 d2 d3 d4 d5
                  obtain ⟨t0, t1, t2, t3, t4, tl, tn, tc, rfl⟩ := cells_re hv2
                  have hal4 := bel_al w4 (.cells #[.string s] 9)
                  have K2 := Lib.hid (KF2.out _ _ (.slice (some ⟨w4.heap.size, 0, none⟩) 1 1) (hb4.trans (hal4.mono hb4.size)) ((hv2.below hal4).imp fun _ _ _ => trivial) ⟨_, rfl, strs_one w4 s rfl _⟩)
                  have H4 := Lib.hid (hb4.trans (hal4.mono hb4.size))
                  clear hv2 hb4 hal4
                  go_wp2_with fail
                  refine K2.out.mono ?_
                  rintro e w5 ⟨rfl, hb5⟩
                  have HW := Lib.hid (H4.out.trans (hb5.mono H4.out.size))
                  clear hb5 H4 K2
                  obtain ⟨c0, c1, c2, c3, c4, c5, -⟩ := CA.out _ HW.out
                  go_wp2_with fail
                  clear c0 c1 c2 c3 c4 c5
                  refine (KMA.out _ HW.out).mono ?_
                  rintro e w6 ⟨rfl, hb6⟩
                  replace HW := Lib.hid (HW.out.trans (hb6.mono HW.out.size))
                  clear hb6
                  have dmf : (mf == mf) = true := by simp
                  obtain ⟨c0, c1, c2, c3, c4, c5, -⟩ := CZ.out _ HW.out
                  have hal8 := bel_al w6 (.cells #[.string s] 9)
                  have H8 := Lib.hid (HW.out.trans (hal8.mono HW.out.size))
                  have K3 := Lib.hid (KF3.out _ (.slice (some ⟨w6.heap.size, 0, none⟩) 1 1) H8.out ⟨_, rfl, strs_one w6 s rfl _⟩)
                  clear hal8
                  go_wp2_with fail
                  clear c0 c1 c2 c3 c4 c5
                  refine K3.out.mono ?_
                  rintro e w9 ⟨rfl, hb9⟩
                  replace BX := Lib.hid (BX.out.go (H8.out.trans (hb9.mono H8.out.size)))
                  clear hb9 H8 K3 HW
                  go_wp2_with fail
                  refine (KA.out _ BX.out.2.2).mono ?_
                  rintro e w' ⟨rfl, hb⟩
                  have HE := Lib.hid (BX.out.2.2.trans (hb.mono BX.out.2.2.size))
                  clear hb
                  go_wp2
                  go_ret
                  exact ⟨rfl, HE.out⟩
                | true =>
                  rw [show (true && (true && mb)) = mb from rfl] at KF2
                  obtain ⟨c0, c1, c2, c3, c4, c5, -⟩ := CA.out _ (Below.refl _ _)
                  obtain ⟨d0, d1, d2, d3, d4, d5, -⟩ := CB.out _ (Below.refl _ _)
                  go_wp2_with fail
                  refine (KT.out _ (Below.refl _ _)).mono ?_
                  rintro e w4 ⟨v2, rfl, hv2, hb4⟩
                  clear c0 c1 c2 c3 c4 c5 d0 d1 d2 d3 d4 d5
                  obtain ⟨t0, t1, t2, t3, t4, tl, tn, tc, rfl⟩ := cells_re hv2
                  have hal4 := bel_al w4 (.cells #[.string s] 9)
                  have K2 := Lib.hid (KF2.out _ _ (.slice (some ⟨w4.heap.size, 0, none⟩) 1 1) (hb4.trans (hal4.mono hb4.size)) ((hv2.below hal4).imp fun _ _ _ => trivial) ⟨_, rfl, strs_one w4 s rfl _⟩)
                  have H4 := Lib.hid (hb4.trans (hal4.mono hb4.size))
                  clear hv2 hb4 hal4
                  go_wp2_with fail
                  refine K2.out.mono ?_
                  rintro e w5 ⟨rfl, hb5⟩
                  have HW := Lib.hid (H4.out.trans (hb5.mono H4.out.size))
                  clear hb5 H4 K2
                  obtain ⟨c0, c1, c2, c3, c4, c5, -⟩ := CA.out _ HW.out
                  go_wp2_with fail
                  clear c0 c1 c2 c3 c4 c5
                  refine (KMA.out _ HW.out).mono ?_
                  rintro e w6 ⟨rfl, hb6⟩
                  replace HW := Lib.hid (HW.out.trans (hb6.mono HW.out.size))
                  clear hb6
                  obtain ⟨c0, c1, c2, c3, c4, c5, -⟩ := CB.out _ HW.out
                  go_wp2_with fail
                  clear c0 c1 c2 c3 c4 c5
                  refine (KMB.out _ HW.out).mono ?_
                  rintro e w7 ⟨rfl, hb7⟩
                  replace HW := Lib.hid (HW.out.trans (hb7.mono HW.out.size))
                  clear hb7
                  have dmb : (mb == mb) = true := by simp
                  have dmf : (mf == mf) = true := by simp
                  obtain ⟨c0, c1, c2, c3, c4, c5, -⟩ := CZ.out _ HW.out
                  have hal8 := bel_al w7 (.cells #[.string s] 9)
                  have H8 := Lib.hid (HW.out.trans (hal8.mono HW.out.size))
                  have K3 := Lib.hid (KF3.out _ (.slice (some ⟨w7.heap.size, 0, none⟩) 1 1) H8.out ⟨_, rfl, strs_one w7 s rfl _⟩)
                  clear hal8
                  go_wp2_with fail
                  clear c0 c1 c2 c3 c4 c5
                  refine K3.out.mono ?_
                  rintro e w9 ⟨rfl, hb9⟩
                  replace BX := Lib.hid (BX.out.go (H8.out.trans (hb9.mono H8.out.size)))
                  clear hb9 H8 K3 HW
                  go_wp2_with fail
                  refine (KA.out _ BX.out.2.2).mono ?_
                  rintro e w' ⟨rfl, hb⟩
                  have HE := Lib.hid (BX.out.2.2.trans (hb.mono BX.out.2.2.size))
                  clear hb
                  go_wp2
                  go_ret
                  exact ⟨rfl, HE.out⟩
      · have q1 : (12 : Int) < (s.size : Int) := by omega
        clear HM1 HM2 HP1 HP2
        go_wp2_with fail
        refine (KA.out _ BX.out.2.2).mono ?_
        rintro e w' ⟨rfl, hb⟩
        have HE := Lib.hid (BX.out.2.2.trans (hb.mono BX.out.2.2.size))
        clear hb
        go_wp2
        go_ret
        exact ⟨rfl, HE.out⟩
end Go.Proofs.Ytiegejbbjlhpdaa
