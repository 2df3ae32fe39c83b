/- Lemmas of mine, merged: QOMatchFormsW. -/
import Derived.Deep.CutRange
import Derived.Test.YtiegejbbjlhpdaaGreatDoorQOMatKAll
import Derived.Test.YtiegejbbjlhpdaaGreatDoorQONormLAll
import Derived.Test.YtiegejbbjlhpdaaGreatDoorQOReadJAll
import Derived.Test.YtiegejbbjlhpdaaGreatDoorQOReadStAll
/- Lemmas of mine. -/
namespace Go.Proofs.YtiegejbbjlhpdaaGreatDoor
open Go.RowKit
theorem endsN_nf (e : Ex) (s : List UInt8) (n : Nat) : endsN (nfE e) s n = endsN e s n := by
  refine rise_ext (endsN_lt _ _ _) (endsN_lt _ _ _) fun x => ?_
  rw [mem_endsN, mem_endsN]
  unfold EndsP
  simp only [nf_fit]
theorem endsI_nf {e : Ex} (we : e.Wf) (hs : e.size ≤ 2000) (s : ByteArray) : endsI (normX e.rx) s 0 = endsI e.rx s 0 := by
  rw [normX_of we hs, show (0 : Int) = ((0 : Nat) : Int) from rfl, endsI_in we hs (Nat.zero_le _), endsI_in (nf_wf e we) (Nat.le_trans (nf_size e) hs) (Nat.zero_le _), endsN_nf]
set_option maxHeartbeats 8000000 in
set_option maxRecDepth 100000 in
theorem matchForms_walk (hRead : ReadC) (hText : TextC) {ok : Nat → Prop} (r : Rx) (v : Value) (s : ByteArray) (w : World) (hT : Tab w) (h : ReAt ok w v r) (hsz : r.size ≤ 1048576) :
    Calls Tryz.prog 3 #[v, .string s] w fun e w' => e = .returned (.bool true) ∧ Below w.heap.size w w' := by
  obtain ⟨x0, x1, x2, x3, x4, xl, xn, xc, rfl⟩ := cells_re h
  have HR := Lib.hid h
  have HM := Lib.hid (fun h => great10 (r := r) (n := 60) h hsz)
  have G1 := Lib.hid fun W (hb : Below w.heap.size w W) => great_any r 60 _ W (h.below hb) (by decide)
  have KA := Lib.hid fun W (_ : Below w.heap.size w W) => awake10_any hRead W
  have BX := Lib.hid (Bx10.new w (.cells #[.int .u8 x0, .int .u64 x1, .int .u64 x2, .int .u64 x3, .int .u64 x4, .slice xl xn xc] 27))
  have KM := Lib.hid fun (hr : r.size ≤ 1000000) W (hb : Below w.heap.size w W) => refMay_any r _ W hr (h.below hb)
  have KT := Lib.hid fun (hr : r.size ≤ 1000000) W (hb : Below w.heap.size w W) => hText ok r _ W (hT.go hb) hr (h.below hb)
  have KN := Lib.hid fun W (hb : Below w.heap.size w W) => normL_any r _ W (h.below hb)
  have KE := Lib.hid fun (hs : s.size ≤ 60) W (hb : Below w.heap.size w W) => mEnds_any r s hs 0 _ W (h.below hb)
  have HRD := Lib.hid hRead
  clear hRead hText hT h hsz
  by_cases hs : s.size ≤ 20
  · have q1 : ¬ (20 : Int) < (s.size : Int) := by omega
    have hs60 : s.size ≤ 60 := by omega
    go_enter Tryz.func3, Tryz.ntmps3
    go_wp2_with fail
    refine (G1.out _ BX.out.2).mono ?_
    rintro e w1 ⟨⟨p, rfl, hp⟩, hb⟩
    have HP := Lib.hid hp
    replace BX := Lib.hid (BX.out.go hb)
    clear hb hp
    cases p with
    | true =>
      clear HM HP
      go_wp2_with fail
      refine (KA.out _ BX.out.2).mono ?_
      rintro e w' ⟨rfl, hb⟩
      have HE := Lib.hid (BX.out.2.trans (hb.mono BX.out.2.size))
      clear hb
      go_wp2
      go_ret
      exact ⟨rfl, HE.out⟩
    | false =>
      have hr60 := HM.out (fun h => HP.out h)
      have hrb : r.size ≤ 1000000 := by omega
      clear HM HP G1
      obtain ⟨c0, c1, c2, c3, c4, c5, -⟩ := cellsR BX.out.1
      go_wp2_with fail
      clear c0 c1 c2 c3 c4 c5
      refine (KM.out hrb _ BX.out.2).mono ?_
      cases hm : mayR r with
      | false =>
        rintro e w2 ⟨rfl, hb⟩
        replace BX := Lib.hid (BX.out.go hb)
        clear hb hm
        go_wp2_with fail
        refine (KA.out _ BX.out.2).mono ?_
        rintro e w' ⟨rfl, hb⟩
        have HE := Lib.hid (BX.out.2.trans (hb.mono BX.out.2.size))
        clear hb
        go_wp2
        go_ret
        exact ⟨rfl, HE.out⟩
      | true =>
        rintro e w2 ⟨rfl, hb⟩
        replace BX := Lib.hid (BX.out.go hb)
        obtain ⟨e0, he0, we, hes⟩ := may_ex HR.out hm
        have hz60 : e0.size ≤ 60 := by have := Ex.size_rx e0; rw [he0] at this; omega
        have htx : textX r = e0.text := by rw [← he0, textX_yes (by rw [he0]; exact hm)]
        have hrd := rd_back we hes (text_200 (by omega))
        have hnf := endsI_nf we hes s
        rw [he0] at hnf
        have hlenL := endsI_len r s 0
        have KT1 := Lib.hid (KT.out hrb)
        rw [htx] at KT1
        have hsz6 : (⟨e0.text.toArray⟩ : ByteArray).size ≤ 1000000000 := by
          have := text_200 (e := e0) (by omega)
          show e0.text.toArray.size ≤ _
          simp; omega
        have KR := Lib.hid fun W => HRD.out ⟨e0.text.toArray⟩ W hsz6
        rw [hrd] at KR
        have KX := Lib.hid fun W v (h : ReAt (fun _ => True) W v e0.rx) => mEnds_any e0.rx s hs60 0 v W h
        have KY := Lib.hid fun W v (h : ReAt (fun _ => True) W v (normX r)) => mEnds_any (normX r) s hs60 0 v W h
        have KE1 := Lib.hid (KE.out hs60)
        rw [he0] at KX
        rw [hnf] at KY
        obtain ⟨L, hL⟩ : ∃ L, L = endsI r s 0 := ⟨_, rfl⟩
        rw [← hL] at KX KY KE1 hlenL
        have HLL := Lib.hid (show L.length ≤ 21 from by omega)
        have KI := Lib.hid fun (x : World) (y z : Value) (hy : OwnI x y L) (hz : OwnI x z L) => show Calls _ _ _ x _ from ints_any L L y z x (by have := HLL.out; omega) (by have := HLL.out; omega) hy hz
        rw [show decide (L = L) = true from by simp] at KI
        have HE0 := Lib.hid he0
        generalize e0.text = TX at *
        clear hb hm we hes hz60 htx hrd hnf hlenL hsz6 hL KT KE HRD KM he0 HR
        obtain ⟨c0, c1, c2, c3, c4, c5, -⟩ := cellsR BX.out.1
        go_wp2_with fail
        clear c0 c1 c2 c3 c4 c5
        refine (KT1.out _ BX.out.2).mono ?_
        rintro e w3 ⟨rfl, hb⟩
        replace BX := Lib.hid (BX.out.go hb)
        clear hb KT1
        go_wp2_with fail
        refine (KR.out _).mono ?_
        rintro e w4 ⟨hb4, vq, rfl, hvq⟩
        obtain ⟨q0, q1, q2, q3, q4, ql, qn, qc, rfl⟩ := cells_re hvq
        rw [HE0.out] at hvq
        have hal := bel_al w4 (.cells #[.int .u8 q0, .int .u64 q1, .int .u64 q2, .int .u64 q3, .int .u64 q4, .slice ql qn qc] 27)
        have HQ := Lib.hid ((hvq.below hal).imp (ok' := fun _ => True) fun _ _ _ => trivial)
        have HV := Lib.hid (blk_new w4 (.cells #[.int .u8 q0, .int .u64 q1, .int .u64 q2, .int .u64 q3, .int .u64 q4, .slice ql qn qc] 27))
        replace BX := Lib.hid ((BX.out.go hb4).go hal)
        obtain ⟨W5, hW5⟩ : ∃ x, x = w4.alloc (.cells #[.int .u8 q0, .int .u64 q1, .int .u64 q2, .int .u64 q3, .int .u64 q4, .slice ql qn qc] 27) := ⟨_, rfl⟩
        obtain ⟨gv, hgv⟩ : ∃ g, g = w4.heap.size := ⟨_, rfl⟩
        have hw5 : w4.heap.size < W5.heap.size := by rw [hW5]; simp
        rw [← hgv] at hw5
        rw [← hW5] at HQ
        rw [← hW5, ← hgv] at HV
        rw [← hW5] at BX
        have HW5 := Lib.hid hW5
        have HGV := Lib.hid hgv
        clear hb4 hvq hal KR hW5 hgv
        go_upto_region 4 with fail
        rw [← HW5.out, ← HGV.out]
        clear HW5 HGV
        obtain ⟨c0, c1, c2, c3, c4, c5, -⟩ := cellsR BX.out.1
        go_wp2_with fail
        clear c0 c1 c2 c3 c4 c5
        refine (KE1.out _ BX.out.2).mono ?_
        rintro e w6 ⟨v6, rfl, h6, hb⟩
        obtain ⟨p6, k6, rfl⟩ := own_len h6
        have H6 := Lib.hid h6
        replace BX := Lib.hid (BX.out.go hb)
        replace HQ := Lib.hid (HQ.out.below hb)
        replace HV := Lib.hid ((hb.block gv hw5).trans HV.out)
        have hw6 := Nat.lt_of_lt_of_le hw5 hb.size
        clear hb h6 KE1
        obtain ⟨c0, c1, c2, c3, c4, c5, -⟩ := cellsR BX.out.1
        go_wp2_with fail
        clear c0 c1 c2 c3 c4 c5
        refine (KN.out _ BX.out.2).mono ?_
        rintro e w7 ⟨v7, rfl, h7, hb⟩
        obtain ⟨t0, t1, t2, t3, t4, tl, tn, tc, rfl⟩ := cells_re h7
        have KY1 := Lib.hid (KY.out _ _ (h7.imp fun _ _ _ => trivial))
        replace BX := Lib.hid (BX.out.go hb)
        replace HQ := Lib.hid (HQ.out.below hb)
        replace HV := Lib.hid ((hb.block gv hw6).trans HV.out)
        replace H6 := Lib.hid (H6.out.below hb)
        have hw7 := Nat.lt_of_lt_of_le hw6 hb.size
        clear hb h7 KN KY
        go_wp2_with fail
        refine KY1.out.mono ?_
        rintro e w8 ⟨v8, rfl, h8, hb⟩
        obtain ⟨p8, k8, rfl⟩ := own_len h8
        have KI1 := Lib.hid (KI.out _ _ _ h8 (H6.out.below hb))
        replace BX := Lib.hid (BX.out.go hb)
        replace HQ := Lib.hid (HQ.out.below hb)
        replace HV := Lib.hid ((hb.block gv hw7).trans HV.out)
        replace H6 := Lib.hid (H6.out.below hb)
        have hw8 := Nat.lt_of_lt_of_le hw7 hb.size
        clear hb h8 KY1
        go_wp2_with fail
        refine KI1.out.mono ?_
        rintro e w9 ⟨rfl, hb⟩
        replace BX := Lib.hid (BX.out.go hb)
        replace HQ := Lib.hid (HQ.out.below hb)
        replace HV := Lib.hid ((hb.block gv hw8).trans HV.out)
        replace H6 := Lib.hid (H6.out.below hb)
        clear hb KI1
        obtain ⟨c0, c1, c2, c3, c4, c5, -⟩ := cellsR HV.out
        have KX1 := Lib.hid (KX.out _ _ HQ.out)
        go_wp2_with fail
        clear c0 c1 c2 c3 c4 c5
        refine KX1.out.mono ?_
        rintro e wa ⟨va, rfl, ha, hb⟩
        obtain ⟨pa, ka, rfl⟩ := own_len ha
        have KI2 := Lib.hid (KI.out _ _ _ ha (H6.out.below hb))
        replace BX := Lib.hid (BX.out.go hb)
        clear hb ha KX1 KX KI H6 HQ HV
        go_wp2_with fail
        refine KI2.out.mono ?_
        rintro e wb ⟨rfl, hb⟩
        replace BX := Lib.hid (BX.out.go hb)
        clear hb KI2
        go_wp2_with fail
        refine (KA.out _ BX.out.2).mono ?_
        rintro e w' ⟨rfl, hb⟩
        have HE := Lib.hid (BX.out.2.trans (hb.mono BX.out.2.size))
        clear hb
        go_wp2
        go_ret
        exact ⟨rfl, HE.out⟩
  · have q1 : (20 : Int) < (s.size : Int) := by omega
    go_enter Tryz.func3, Tryz.ntmps3
    go_wp2_with fail
    refine (G1.out _ BX.out.2).mono ?_
    rintro e w1 ⟨⟨p, rfl, hp⟩, hb⟩
    replace BX := Lib.hid (BX.out.go hb)
    clear hb hp HM
    cases p with
    | true =>
      go_wp2_with fail
      refine (KA.out _ BX.out.2).mono ?_
      rintro e w' ⟨rfl, hb⟩
      have HE := Lib.hid (BX.out.2.trans (hb.mono BX.out.2.size))
      clear hb
      go_wp2
      go_ret
      exact ⟨rfl, HE.out⟩
    | false =>
      go_wp2_with fail
      refine (KA.out _ BX.out.2).mono ?_
      rintro e w' ⟨rfl, hb⟩
      have HE := Lib.hid (BX.out.2.trans (hb.mono BX.out.2.size))
      clear hb
      go_wp2
      go_ret
      exact ⟨rfl, HE.out⟩
end Go.Proofs.YtiegejbbjlhpdaaGreatDoor
