/- quillref04's Two. -/
import Derived.Test.YthkkeamjigmfhaaOrdM
import Derived.Test.YthkkeamjigmfhaaSetG
import Derived.Test.YthkkeamjigmfhaaRexC
namespace Go.Proofs.Ythkkeamjigmfhaa
open Go.RowKit
theorem ordRs_drop : ∀ (i : Nat) (l m : List Rx), i ≤ l.length → i ≤ m.length → l.take i = m.take i → ordRs l m = ordRs (l.drop i) (m.drop i)
  | 0, _, _, _, _, _ => by simp
  | i + 1, [], _, h, _, _ => by simp at h
  | i + 1, _ :: _, [], _, h, _ => by simp at h
  | i + 1, a :: l, b :: m, h1, h2, h => by
    simp at h
    obtain ⟨rfl, h⟩ := h
    have ih := ordRs_drop i l m (by simpa using h1) (by simpa using h2) h
    rw [ordRs, ordR_self]
    simpa [lexI] using ih
theorem ordRs_at {l m : List Rx} {i : Nat} (h1 : i < l.length) (h2 : i < m.length) (h : l.take i = m.take i) (hc : ordR l[i] m[i] ≠ 0) : ordRs l m = ordR l[i] m[i] := by
  rw [ordRs_drop i l m (by omega) (by omega) h, List.drop_eq_getElem_cons h1, List.drop_eq_getElem_cons h2, ordRs]
  simp [lexI, hc]
theorem take_step {l m : List Rx} {i : Nat} (h1 : i < l.length) (h2 : i < m.length) (h : l.take i = m.take i) (hc : ordR l[i] m[i] = 0) : l.take (i + 1) = m.take (i + 1) := by
  rw [List.take_succ_eq_append_getElem h1, List.take_succ_eq_append_getElem h2, h, (ordR_zero _ _).1 hc]
theorem ordRs_more {l m : List Rx} (h1 : m.length < l.length) (h : l.take m.length = m.take m.length) : ordRs l m = 1 := by
  rw [ordRs_drop m.length l m (by omega) (Nat.le_refl _) h, List.drop_of_length_le (Nat.le_refl _), List.drop_eq_getElem_cons h1]
  rfl
theorem ordRs_less {l m : List Rx} (h1 : l.length < m.length) (h : l.take l.length = m.take l.length) : ordRs l m = -1 := by
  rw [ordRs_drop l.length l m (Nat.le_refl _) (by omega) h, List.drop_of_length_le (Nat.le_refl _), List.drop_eq_getElem_cons h1]
  rfl
theorem ordRs_same {l m : List Rx} (h1 : l.length = m.length) (h : l.take l.length = m.take l.length) : ordRs l m = 0 := by
  rw [List.take_of_length_le (Nat.le_refl _), List.take_of_length_le (by omega)] at h
  exact (ordRs_zero l m).2 h
def twoInv (ks ks' : List Rx) (w : World) (v v' : Value) (y : Value) (wr : World) : Prop := ∃ i : Nat, i ≤ ks.length ∧ i ≤ ks'.length ∧ y = .int .i64 i ∧ ks.take i = ks'.take i ∧ wr.cell? ⟨w.heap.size, 5, none⟩ = some v ∧ wr.cell? ⟨w.heap.size + 1, 5, none⟩ = some v' ∧ Below w.heap.size w wr
set_option maxHeartbeats 4000000 in
theorem refTwo_any {ok ok' : Nat → Prop} (N : Nat) : ∀ (r t : Rx), r.size ≤ N → ∀ (v u : Value) (w : World), ReAt ok w v r → ReAt ok' w u t →
    Calls Try.prog 10 #[v, u] w fun e w' => e = .returned (.int .i64 (ordR r t)) ∧ Below w.heap.size w w' := by
  induction N with
  | zero => intro r _ h; have := r.size_pos; omega
  | succ N ih =>
    rintro ⟨k, s, ks⟩ ⟨k', s', ks'⟩ hN v u w hR hU
    obtain ⟨hk, hs, al, cap, rfl, hcap, hmax, hrow⟩ := hR
    obtain ⟨hk', hs', al', cap', rfl, hcap', hmax', hrow'⟩ := hU
    have hN' : Rx.sizes ks ≤ N := by simp [Rx.size] at hN; omega
    have IH := Lib.hid ih
    have HR := Lib.hid hrow
    have HU := Lib.hid hrow'
    have HORD := Lib.hid (show ordR (.node k s ks) (.node k' s' ks') = lexI (cmpN k k') (lexI (ordW s s') (ordRs ks ks')) from by simp [ordR])
    have KO := Lib.hid fun W => refOrder_any s s' W
    generalize ordR (.node k s ks) (.node k' s' ks') = ans at *
    clear ih hrow hrow' hN
    by_cases hk1 : k < k'
    · have d1 : decide ((k : Int) < (k' : Int)) = true := by simp; omega
      have HA := Lib.hid (show ans = -1 from by rw [HORD.out]; simp [lexI, cmpN, hk1])
      obtain ⟨sa, sb, sc, sd⟩ := s
      obtain ⟨sa', sb', sc', sd'⟩ := s'
      clear KO
      go_enter Try.func10, Try.ntmps10
      go_wp2
      go_ret
      exact ⟨by rw [HA.out]; rfl, ((Below.refl _ _).alloc (Nat.le_refl _) _).alloc (by simp) _⟩
    have d1 : decide ((k : Int) < (k' : Int)) = false := by simp; omega
    by_cases hk2 : k' < k
    · have d2 : decide ((k' : Int) < (k : Int)) = true := by simp; omega
      have HA := Lib.hid (show ans = 1 from by rw [HORD.out]; simp [lexI, cmpN, hk1, hk2])
      obtain ⟨sa, sb, sc, sd⟩ := s
      obtain ⟨sa', sb', sc', sd'⟩ := s'
      clear KO
      go_enter Try.func10, Try.ntmps10
      go_wp2
      go_ret
      exact ⟨by rw [HA.out]; rfl, ((Below.refl _ _).alloc (Nat.le_refl _) _).alloc (by simp) _⟩
    have d2 : decide ((k' : Int) < (k : Int)) = false := by simp; omega
    have hans : ans = lexI (ordW s s') (ordRs ks ks') := by
      rw [HORD.out, show cmpN k k' = 0 from cmpN_zero.2 (by omega)]; simp [lexI]
    generalize ordW s s' = c at *
    obtain ⟨sa, sb, sc, sd⟩ := s
    obtain ⟨sa', sb', sc', sd'⟩ := s'
    unfold Ws.v at KO
    simp only at KO
    clear HORD
    by_cases hc : c = 0
    · subst hc
      have HANS := Lib.hid (show ans = ordRs ks ks' from by rw [hans]; simp [lexI])
      clear hans
      go_enter Try.func10, Try.ntmps10
      go_wp2_with fail
      refine (KO.out _).mono ?_
      rintro e w1 ⟨rfl, hb1⟩
      have hbw : Below w.heap.size w w1 := (((Below.refl _ w).alloc (Nat.le_refl _) _).alloc (by simp) _).trans (hb1.mono (by simp; omega))
      have x5 : w1.cell? ⟨w.heap.size, 5, none⟩ = some (.slice al ks.length cap) := by
        rw [Lib.cell_of_heap ((hb1.block _ (by simp; omega)).trans ((Below.heap_alloc _ _ _ (by simp)).trans (blk_new w _)))]; rfl
      have y5 : w1.cell? ⟨w.heap.size + 1, 5, none⟩ = some (.slice al' ks'.length cap') := by
        rw [Lib.cell_of_heap ((hb1.block _ (by simp)).trans (blk_at _ _ (by simp)))]; rfl
      have HX5 := Lib.hid x5
      have HY5 := Lib.hid y5
      clear hb1
      go_wp2
      go_loopw [29] (fun y wr => twoInv ks ks' w (.slice al ks.length cap) (.slice al' ks'.length cap') y wr) (fun y _ => ks.length - (intOf y).toNat)
      case atStart => exact ⟨0, Nat.zero_le _, Nat.zero_le _, rfl, by simp, HX5.out, HY5.out, hbw⟩
      case round =>
        obtain ⟨i, hi, hi', rfl, htk, f5, g5, hb⟩ := hrel
        have HTK := Lib.hid htk
        clear htk x5 y5 hbw HX5 HY5
        by_cases hlt : i < ks.length
        · by_cases hlt' : i < ks'.length
          · have e1 : ((i : Int) == (ks'.length : Int)) = false := by simp; omega
            obtain ⟨b, off, hab, hblt, hnode⟩ := HR.out.kid hlt
            obtain ⟨b', off', hab', hblt', hnode'⟩ := HU.out.kid hlt'
            subst hab
            subst hab'
            have hkid := NodeAt.below hb _ hblt hnode
            have hkid' := NodeAt.below hb _ hblt' hnode'
            have hks := size_kid hlt
            have HSA := fun h => ordRs_at hlt hlt' HTK.out h
            have HSB := fun h => take_step hlt hlt' HTK.out h
            generalize ks[i] = kid at *
            generalize ks'[i] = kid' at *
            obtain ⟨kk, ⟨ta, tb, tc, td⟩, kks⟩ := kid
            obtain ⟨kk', ⟨ta', tb', tc', td'⟩, kks'⟩ := kid'
            obtain ⟨bl, bcap, ⟨c0, c1, c2, c3, c4, c5⟩, hre⟩ := hkid.read
            obtain ⟨bl', bcap', ⟨e0, e1', e2, e3, e4, e5⟩, hre'⟩ := hkid'.read
            simp only at c0 c1 c2 c3 c4 c5 e0 e1' e2 e3 e4 e5
            have KK := Lib.hid (IH.out _ _ (Nat.le_trans hks hN') _ _ wr.drew (hre.below (Below.refl _ _).drew) (hre'.below (Below.refl _ _).drew))
            generalize ordR (Rx.node kk ⟨ta, tb, tc, td⟩ kks) (Rx.node kk' ⟨ta', tb', tc', td'⟩ kks') = q at *
            have HSA' := Lib.hid HSA
            have HSB' := Lib.hid HSB
            clear hkid hkid' hnode hnode' HSA HSB hre hre' hks
            have q1 : (i : Int) < (ks.length : Int) := by omega
            have q2 : (i : Int) < (ks'.length : Int) := by omega
            go_wp2_with fail
            go_still_tail 10, (by kernel_rfl)
            change wpList _ _ _ _ _ wr.drew
            go_wp2_with fail
            refine KK.out.mono ?_
            rintro e w1 ⟨rfl, hb1⟩
            have f5' := hb1.cell (p := ⟨w.heap.size, 5, none⟩) (show w.heap.size < wr.drew.heap.size from box_lt f5)
            have g5' := hb1.cell (p := ⟨w.heap.size + 1, 5, none⟩) (show w.heap.size + 1 < wr.drew.heap.size from box_lt g5)
            rw [show wr.drew.cell? ⟨w.heap.size, 5, none⟩ = _ from f5] at f5'
            rw [show wr.drew.cell? ⟨w.heap.size + 1, 5, none⟩ = _ from g5] at g5'
            replace hb := hb.drew.trans (hb1.mono hb.drew.size)
            clear c0 c1 c2 c3 c4 c5 e0 e1' e2 e3 e4 e5 hb1 f5 g5
            by_cases hq : q = 0
            · subst hq
              go_wp2
              exact ⟨⟨i + 1, by omega, by omega, by go_num, HSB'.out trivial, f5', g5', hb⟩, by simp [intOf]; omega⟩
            · have d3 : (q != 0) = true := by simp [hq]
              have HA := Lib.hid (show ans = q from by rw [HANS.out]; exact HSA'.out hq)
              clear hq
              go_wp2
              go_ret
              exact ⟨by rw [HA.out]; rfl, hb⟩
          · have e1 : ((i : Int) == (ks'.length : Int)) = true := by simp; omega
            have hie : i = ks'.length := by omega
            have HA := Lib.hid (show ans = 1 from by rw [HANS.out]; exact ordRs_more (by omega) (by rw [← hie]; exact HTK.out))
            clear hie
            go_wp2
            go_ret
            exact ⟨by rw [HA.out]; rfl, hb⟩
        · have hie : i = ks.length := by omega
          by_cases hll : ks.length < ks'.length
          · have d3 : decide ((ks.length : Int) < (ks'.length : Int)) = true := by simp; omega
            have HA := Lib.hid (show ans = -1 from by rw [HANS.out]; exact ordRs_less hll (by rw [← hie]; exact HTK.out))
            clear hie
            go_wp2
            go_ret
            exact ⟨by rw [HA.out]; rfl, hb⟩
          · have d3 : decide ((ks.length : Int) < (ks'.length : Int)) = false := by simp; omega
            have HA := Lib.hid (show ans = 0 from by rw [HANS.out]; exact ordRs_same (by omega) (by rw [← hie]; exact HTK.out))
            clear hie
            go_wp2
            go_ret
            exact ⟨by rw [HA.out]; rfl, hb⟩
    · have d3 : (c != 0) = true := by simp [hc]
      have HA := Lib.hid (show ans = c from by rw [hans]; simp [lexI, hc])
      clear hans hc
      go_enter Try.func10, Try.ntmps10
      go_wp2_with fail
      refine (KO.out _).mono ?_
      rintro e w1 ⟨rfl, hb1⟩
      have hbw : Below w.heap.size w w1 := (((Below.refl _ w).alloc (Nat.le_refl _) _).alloc (by simp) _).trans (hb1.mono (by simp; omega))
      clear hb1
      go_wp2
      go_ret
      exact ⟨by rw [HA.out]; rfl, hbw⟩
theorem refTwoX {ok ok' : Nat → Prop} (r t : Rx) (v u : Value) (w : World) (h : ReAt ok w v r) (h' : ReAt ok' w u t) :
    Calls Try.prog 10 #[v, u] w fun e w' => e = .returned (.int .i64 (ordR r t)) ∧ Below w.heap.size w w' := refTwo_any r.size r t (Nat.le_refl _) v u w h h'
end Go.Proofs.Ythkkeamjigmfhaa
