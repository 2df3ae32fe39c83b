/- quillref03's May. -/
import Derived.Test.YtdkdgbiagjflgaaDoorRexS
import Derived.RegionTactic
import Derived.Deep.RegionHeld3
namespace Go.Proofs.YtdkdgbiagjflgaaDoor
open Go.RowKit
def rmInv (L : List Rx) (w1 : World) (y : Value) (wr : World) : Prop := ∃ i : Nat, i ≤ L.length ∧ y = .int .i64 i ∧ (L.take i).all goodN = true ∧ Below w1.heap.size w1 wr
theorem all_no {L : List Rx} {i : Nat} (h : i < L.length) (hg : goodN L[i] = false) : L.all goodN = false := by
  rw [List.all_eq_false]; exact ⟨L[i], List.getElem_mem h, by rw [hg]; simp⟩
set_option maxHeartbeats 40000000 in
theorem refMay_any {ok : Nat → Prop} (r : Rx) (v : Value) (w : World) (hbig : r.size ≤ 1000000) (h : ReAt ok w v r) :
    Calls Tryd.prog 14 #[v] w fun e w' => e = .returned (.bool (mayR r)) ∧ Below w.heap.size w w' := by
  have h' : ReAt (Lo w.heap.size) w v r := h.imp fun b hb _ => hb
  have KA := Lib.hid fun W (hb : Below w.heap.size w W) => allX w.heap.size r v W hbig hb.size (h'.go (kept_lo (Nat.le_refl _) hb))
  have hmay : mayR r = ((allR r).all goodN && decide ((allR r).length ≤ 2000)) := by
    rw [allR_good, allR_length]; rfl
  have HMAY := Lib.hid hmay
  have hlen : (allR r).length ≤ 1000000 := by rw [allR_length]; exact hbig
  obtain ⟨x0, x1, x2, x3, x4, bl, n', cp, rfl⟩ := cells_re h
  clear h h' hmay
  generalize mayR r = ans at *
  generalize allR r = L at *
  go_enter Tryd.func14, Tryd.ntmps14
  go_wp2_with fail
  refine (KA.out _ ((Below.refl _ w).alloc (Nat.le_refl _) _)).mono ?_
  rintro e w1 ⟨g, off, cap, rfl, hg1, hg2, hcap, hn, hb1⟩
  have hbw : Below w.heap.size w w1 := ((Below.refl _ w).alloc (Nat.le_refl _) _).trans (hb1.mono (by simp))
  have HN := Lib.hid hn
  have HBW := Lib.hid hbw
  clear hn hb1 hbw hg1
  go_wp2
  go_loopw [10] (fun y wr => rmInv L w1 y wr) (fun y _ => L.length - (intOf y).toNat)
  case atStart => exact ⟨0, Nat.zero_le _, rfl, by simp, Below.refl _ _⟩
  case round =>
    obtain ⟨i, hii, rfl, hall, hb⟩ := hrel
    have HA := Lib.hid hall
    have hfin := HBW.out.trans (hb.mono HBW.out.size)
    have HFIN := Lib.hid hfin
    clear hall hfin
    by_cases hlt : i < L.length
    · have hkid := NodeAt.below hb _ hg2 (nodesAt_get HN.out i hlt)
      have htk : (L.take (i + 1)).all goodN = ((L.take i).all goodN && goodN L[i]) := by
        rw [List.take_succ_eq_append_getElem hlt, List.all_append]; simp
      have hno := fun h => all_no hlt h
      generalize L[i] = kid at *
      obtain ⟨k, s, ks⟩ := kid
      obtain ⟨al', cap', ⟨c0, c1, c2, c3, c4, c5⟩, hre⟩ := hkid.read
      obtain ⟨hk, hs, -, -, -, -, hlk, -⟩ := hre
      have hgn : goodN (.node k s ks) = nodeGood k ks.length (bareB s) := rfl
      rw [hgn] at htk hno
      have T1 := Lib.hid htk
      have T2 := Lib.hid hno
      have hq : ∀ W : World, (Op.equalIn 10000 28 s.v (.agg #[.int .u64 0, .int .u64 0, .int .u64 0, .int .u64 0])).run Tryd.prog W = .ok (bareB s) W := fun W => by
        rw [← nil_v]
        by_cases hb : s = Ws.nil
        · subst hb; rw [eqW_yes, show bareB Ws.nil = true from sameW_iff.2 rfl]
        · rw [eqW_no hb]; congr 1
          have : ¬ sameW s Ws.nil = true := fun e => hb (sameW_iff.1 e)
          symm; simpa [bareB] using this
      generalize bareB s = q at *
      obtain ⟨sa, sb, sc, sd⟩ := s
      unfold Ws.v at hq
      simp only at c0 c1 c2 c3 c4 c5 hq
      clear hkid htk hno hgn
      have q1 : (i : Int) < (L.length : Int) := by omega
      by_cases k0 : k = 0
      · subst k0
        go_wp2
        go_ret
        exact ⟨by rw [HMAY.out, T2.out (by simp [nodeGood])]; simp, HFIN.out⟩
      by_cases k7 : 6 < k
      · have d1 : decide ((k : Int) < (1 : Int)) = false := by simp; omega
        have d2 : decide ((6 : Int) < (k : Int)) = true := by simp; omega
        have hng : nodeGood k ks.length q = false := by
          have n1 : ¬ k = 1 := by omega
          have n2 : ¬ k = 2 := by omega
          have n3 : ¬ k = 3 := by omega
          have n4 : ¬ k = 4 := by omega
          have n5 : ¬ k = 5 := by omega
          have n6 : ¬ k = 6 := by omega
          simp [nodeGood, n1, n2, n3, n4, n5, n6]
        have HNG := Lib.hid hng
        clear hng
        go_wp2
        go_ret
        exact ⟨by rw [HMAY.out, T2.out HNG.out]; simp, HFIN.out⟩
      have hk6 : k = 1 ∨ k = 2 ∨ k = 3 ∨ k = 4 ∨ k = 5 ∨ k = 6 := by omega
      clear k0 k7 hk
      have hgw : g < wr.heap.size := Nat.lt_of_lt_of_le hg2 hb.size
      rcases hk6 with rfl | rfl | rfl | rfl | rfl | rfl
      · rw [show ((1 : Nat) : Int) = 1 from rfl] at c0
        cases q
        · go_wp2
          go_ret
          exact ⟨by rw [HMAY.out, T2.out (by simp [nodeGood])]; simp, HFIN.out⟩
        · go_wp2
          go_region
          all_goals
            by_cases hm : ks.length = 0
            · have d1 : ((ks.length : Int) != 0) = false := by simp only [bne_eq_false_iff_eq]; omega
              have T3 := Lib.hid (show nodeGood 1 ks.length true = true from by simp [nodeGood, hm])
              clear hm
              go_wp2
              exact ⟨⟨i + 1, by omega, by go_num, by rw [T1.out, HA.out, T3.out]; rfl, hb.drew.alloc hb.size _⟩, by simp [intOf]; omega⟩
            · have d1 : ((ks.length : Int) != 0) = true := by simp only [bne_iff_ne, ne_eq]; omega
              have T3 := Lib.hid (show nodeGood 1 ks.length true = false from by simp [nodeGood, hm])
              clear hm
              go_wp2
              go_ret
              exact ⟨by rw [HMAY.out, T2.out T3.out]; simp, HFIN.out.drew.alloc HFIN.out.size _⟩
      · rw [show ((2 : Nat) : Int) = 2 from rfl] at c0
        cases q
        · go_wp2
          go_ret
          exact ⟨by rw [HMAY.out, T2.out (by simp [nodeGood])]; simp, HFIN.out⟩
        · go_wp2
          go_region
          all_goals
            by_cases hm : ks.length = 0
            · have d1 : ((ks.length : Int) != 0) = false := by simp only [bne_eq_false_iff_eq]; omega
              have T3 := Lib.hid (show nodeGood 2 ks.length true = true from by simp [nodeGood, hm])
              clear hm
              go_wp2
              exact ⟨⟨i + 1, by omega, by go_num, by rw [T1.out, HA.out, T3.out]; rfl, hb.drew.alloc hb.size _⟩, by simp [intOf]; omega⟩
            · have d1 : ((ks.length : Int) != 0) = true := by simp only [bne_iff_ne, ne_eq]; omega
              have T3 := Lib.hid (show nodeGood 2 ks.length true = false from by simp [nodeGood, hm])
              clear hm
              go_wp2
              go_ret
              exact ⟨by rw [HMAY.out, T2.out T3.out]; simp, HFIN.out.drew.alloc HFIN.out.size _⟩
      · rw [show ((3 : Nat) : Int) = 3 from rfl] at c0
        cases q
        · go_wp2
          go_region
          all_goals
            by_cases hm : ks.length = 0
            · have d1 : ((ks.length : Int) != 0) = false := by simp only [bne_eq_false_iff_eq]; omega
              have T3 := Lib.hid (show nodeGood 3 ks.length false = true from by simp [nodeGood, hm])
              clear hm
              go_wp2
              exact ⟨⟨i + 1, by omega, by go_num, by rw [T1.out, HA.out, T3.out]; rfl, hb.drew.alloc hb.size _⟩, by simp [intOf]; omega⟩
            · have d1 : ((ks.length : Int) != 0) = true := by simp only [bne_iff_ne, ne_eq]; omega
              have T3 := Lib.hid (show nodeGood 3 ks.length false = false from by simp [nodeGood, hm])
              clear hm
              go_wp2
              go_ret
              exact ⟨by rw [HMAY.out, T2.out T3.out]; simp, HFIN.out.drew.alloc HFIN.out.size _⟩
        · go_wp2
          go_ret
          exact ⟨by rw [HMAY.out, T2.out (by simp [nodeGood])]; simp, HFIN.out⟩
      · rw [show ((4 : Nat) : Int) = 4 from rfl] at c0
        cases q
        · go_wp2
          go_ret
          exact ⟨by rw [HMAY.out, T2.out (by simp [nodeGood])]; simp, HFIN.out⟩
        · go_wp2
          go_region
          all_goals
            by_cases hm : ks.length = 2
            · have d1 : ((ks.length : Int) != 2) = false := by simp only [bne_eq_false_iff_eq]; omega
              have T3 := Lib.hid (show nodeGood 4 ks.length true = true from by simp [nodeGood, hm])
              clear hm
              go_wp2
              exact ⟨⟨i + 1, by omega, by go_num, by rw [T1.out, HA.out, T3.out]; rfl, hb.drew.alloc hb.size _⟩, by simp [intOf]; omega⟩
            · have d1 : ((ks.length : Int) != 2) = true := by simp only [bne_iff_ne, ne_eq]; omega
              have T3 := Lib.hid (show nodeGood 4 ks.length true = false from by simp [nodeGood, hm])
              clear hm
              go_wp2
              go_ret
              exact ⟨by rw [HMAY.out, T2.out T3.out]; simp, HFIN.out.drew.alloc HFIN.out.size _⟩
      · rw [show ((5 : Nat) : Int) = 5 from rfl] at c0
        cases q
        · go_wp2
          go_ret
          exact ⟨by rw [HMAY.out, T2.out (by simp [nodeGood])]; simp, HFIN.out⟩
        · go_wp2
          go_region
          all_goals
            by_cases hm : ks.length = 2
            · have d1 : ((ks.length : Int) != 2) = false := by simp only [bne_eq_false_iff_eq]; omega
              have T3 := Lib.hid (show nodeGood 5 ks.length true = true from by simp [nodeGood, hm])
              clear hm
              go_wp2
              exact ⟨⟨i + 1, by omega, by go_num, by rw [T1.out, HA.out, T3.out]; rfl, hb.drew.alloc hb.size _⟩, by simp [intOf]; omega⟩
            · have d1 : ((ks.length : Int) != 2) = true := by simp only [bne_iff_ne, ne_eq]; omega
              have T3 := Lib.hid (show nodeGood 5 ks.length true = false from by simp [nodeGood, hm])
              clear hm
              go_wp2
              go_ret
              exact ⟨by rw [HMAY.out, T2.out T3.out]; simp, HFIN.out.drew.alloc HFIN.out.size _⟩
      · rw [show ((6 : Nat) : Int) = 6 from rfl] at c0
        cases q
        · go_wp2
          go_ret
          exact ⟨by rw [HMAY.out, T2.out (by simp [nodeGood])]; simp, HFIN.out⟩
        · go_wp2
          go_region
          all_goals
            by_cases hm : ks.length = 1
            · have d1 : ((ks.length : Int) != 1) = false := by simp only [bne_eq_false_iff_eq]; omega
              have T3 := Lib.hid (show nodeGood 6 ks.length true = true from by simp [nodeGood, hm])
              clear hm
              go_wp2
              exact ⟨⟨i + 1, by omega, by go_num, by rw [T1.out, HA.out, T3.out]; rfl, hb.drew.alloc hb.size _⟩, by simp [intOf]; omega⟩
            · have d1 : ((ks.length : Int) != 1) = true := by simp only [bne_iff_ne, ne_eq]; omega
              have T3 := Lib.hid (show nodeGood 6 ks.length true = false from by simp [nodeGood, hm])
              clear hm
              go_wp2
              go_ret
              exact ⟨by rw [HMAY.out, T2.out T3.out]; simp, HFIN.out.drew.alloc HFIN.out.size _⟩
    · have he : L.take i = L := List.take_of_length_le (by omega)
      rw [he] at HA
      have hd : decide ((L.length : Int) ≤ (2000 : Int)) = decide (L.length ≤ 2000) := by rw [decide_eq_decide]; omega
      have HD := Lib.hid hd
      clear hd he
      go_wp2
      go_ret
      exact ⟨by rw [HMAY.out, HA.out, ← HD.out]; rfl, HFIN.out⟩
end Go.Proofs.YtdkdgbiagjflgaaDoor
