/- order.Two, through slices.CompareFunc. -/
import Derived.Test.YthkkeamjigmfhaaOrdA
namespace Go.Proofs.Ythkkeamjigmfhaa
open Go.RowKit
theorem isNaN8_any (x : Nat) (w : World) :
    Calls Try.prog 32 #[.int .u8 x] w fun e w' => e = .returned (.bool false) ∧ w = w' := by
  go_enter Try.func32, Try.ntmps32
  go_wp2
  go_ret
  exact ⟨rfl, rfl⟩
set_option maxHeartbeats 1000000 in
theorem compare8_any (x y : Nat) (c : Int) (h : cmpN x y = c) (w : World) :
    Calls Try.prog 22 #[.int .u8 x, .int .u8 y] w fun e w' => e = .returned (.int .i64 c) ∧ w' = w := by
  subst h
  unfold cmpN
  by_cases h1 : x < y
  · rw [if_pos h1]
    go_enter Try.func22, Try.ntmps22
    go_wp2_with fail
    refine (isNaN8_any x _).mono ?_
    rintro e w1 ⟨rfl, rfl⟩
    go_wp2_with fail
    refine (isNaN8_any y _).mono ?_
    rintro e w1 ⟨rfl, rfl⟩
    go_wp2
    go_ret
    exact ⟨rfl, rfl⟩
  · rw [if_neg h1]
    by_cases h2 : y < x
    · rw [if_pos h2]
      go_enter Try.func22, Try.ntmps22
      go_wp2_with fail
      refine (isNaN8_any x _).mono ?_
      rintro e w1 ⟨rfl, rfl⟩
      go_wp2_with fail
      refine (isNaN8_any y _).mono ?_
      rintro e w1 ⟨rfl, rfl⟩
      go_wp2
      go_ret
      exact ⟨rfl, rfl⟩
    · rw [if_neg h2]
      go_enter Try.func22, Try.ntmps22
      go_wp2_with fail
      refine (isNaN8_any x _).mono ?_
      rintro e w1 ⟨rfl, rfl⟩
      go_wp2_with fail
      refine (isNaN8_any y _).mono ?_
      rintro e w1 ⟨rfl, rfl⟩
      go_wp2
      go_ret
      exact ⟨rfl, rfl⟩
def OrdAt (ok ok' : Nat → Prop) (N : Nat) : Prop := ∀ (r t : Rx), r.size ≤ N → ∀ (v u : Value) (w : World), ReAt ok w v r → ReAt ok' w u t →
    Calls Try.prog 9 #[v, u] w fun e w' => e = .returned (.int .i64 (ordR r t)) ∧ Below w.heap.size w w'
def compInv (ks ks' : List Rx) (w : World) (y : Value) (wr : World) : Prop := ∃ i : Nat, i ≤ ks.length ∧ i ≤ ks'.length ∧ y = .int .i64 i ∧ ks.take i = ks'.take i ∧ Below w.heap.size w wr
set_option maxHeartbeats 4000000 in
theorem compare_of {ok ok' : Nat → Prop} {N : Nat} (ih : OrdAt ok ok' N) (ks ks' : List Rx) (hN : Rx.sizes ks ≤ N) (al al' : Option Addr) (cap cap' : Nat) (w : World) (_hl : ks.length < 2199023255552) (_hl' : ks'.length < 2199023255552) (hR : RowAt ok w al ks) (hU : RowAt ok' w al' ks') :
    Calls Try.prog 24 #[.slice al ks.length cap, .slice al' ks'.length cap', .func (.func 9) #[] #[]] w fun e w' => e = .returned (.int .i64 (ordRs ks ks')) ∧ Below w.heap.size w w' := by
  have IH := Lib.hid ih
  have HR := Lib.hid hR
  have HU := Lib.hid hU
  clear ih hR hU
  obtain ⟨ans, hans⟩ : ∃ ans, ans = ordRs ks ks' := ⟨_, rfl⟩
  rw [← hans]
  have HANS := Lib.hid hans
  clear hans
  go_enter Try.func24, Try.ntmps24
  go_wp2
  go_loopw [13] (fun y wr => compInv ks ks' w y wr) (fun y _ => ks.length - (intOf y).toNat)
  case atStart => exact ⟨0, Nat.zero_le _, Nat.zero_le _, rfl, by simp, Below.refl _ w⟩
  case round =>
    obtain ⟨i, hi, hi', rfl, htk, hb⟩ := hrel
    have HTK := Lib.hid htk
    clear htk
    by_cases hlt : i < ks.length
    · obtain ⟨b, off, hab, hblt, hnode⟩ := HR.out.kid hlt
      subst hab
      have hkid := NodeAt.below hb _ hblt hnode
      have hks := size_kid hlt
      by_cases hlt' : i < ks'.length
      · obtain ⟨b', off', hab', hblt', hnode'⟩ := HU.out.kid hlt'
        subst hab'
        have hkid' := NodeAt.below hb _ hblt' hnode'
        have HSA := fun h => ordRs_at hlt hlt' HTK.out h
        have HSB := fun h => take_step hlt hlt' HTK.out h
        generalize ks[i] = kid at *
        generalize ks'[i] = kid' at *
        obtain ⟨kk, ⟨ta, tb, tc, td⟩, kks⟩ := kid
        obtain ⟨kk', ⟨ta', tb', tc', td'⟩, kks'⟩ := kid'
        obtain ⟨bl, bcap, ⟨c0, c1, c2, c3, c4, c5⟩, hre⟩ := hkid.read
        obtain ⟨bl', bcap', ⟨e0, e1, e2, e3, e4, e5⟩, hre'⟩ := hkid'.read
        simp only at c0 c1 c2 c3 c4 c5 e0 e1 e2 e3 e4 e5
        have KK := Lib.hid fun W (h : Below wr.heap.size wr W) => IH.out _ _ (Nat.le_trans hks hN) _ _ W (hre.below h) (hre'.below h)
        generalize ordR (Rx.node kk ⟨ta, tb, tc, td⟩ kks) (Rx.node kk' ⟨ta', tb', tc', td'⟩ kks') = q at *
        have HSA' := Lib.hid HSA
        have HSB' := Lib.hid HSB
        clear hkid hkid' hnode hnode' HSA HSB hre hre' hks
        have d1 : decide ((i : Int) ≥ (ks'.length : Int)) = false := by simp; omega
        have d2 : ¬ ((ks'.length : Int) ≤ (i : Int)) := by omega
        have q2 : (i : Int) < (ks'.length : Int) := by omega
        have q3 : b' < wr.heap.size := Nat.lt_of_lt_of_le hblt' hb.size
        go_wp2_with fail
        refine (KK.out _ (((Below.refl _ wr).alloc (Nat.le_refl _) _).alloc (by simp) _)).mono ?_
        rintro e w1 ⟨rfl, hb1⟩
        replace hb : Below w.heap.size w w1 := hb.trans (((((Below.refl _ wr).alloc (Nat.le_refl _) _).alloc (by simp) _).trans (hb1.mono (by simp; omega))).mono hb.size)
        clear c0 c1 c2 c3 c4 c5 e0 e1 e2 e3 e4 e5 hb1
        by_cases hq : q = 0
        · subst hq
          go_wp2
          exact ⟨⟨i + 1, by omega, by omega, by go_num, HSB'.out trivial, hb⟩, by simp [intOf]; omega⟩
        · have d3 : (q != 0) = true := by simp [hq]
          have HA := Lib.hid (show ans = q from by rw [HANS.out]; exact HSA'.out hq)
          clear hq
          go_wp2
          go_ret
          exact ⟨by rw [HA.out]; rfl, hb⟩
      · have hie : i = ks'.length := by omega
        have HA := Lib.hid (show ans = 1 from by rw [HANS.out]; exact ordRs_more (by omega) (by rw [← hie]; exact HTK.out))
        have d1 : decide ((i : Int) ≥ (ks'.length : Int)) = true := by simp; omega
        have d2 : (ks'.length : Int) ≤ (i : Int) := by omega
        generalize ks[i] = kid at *
        obtain ⟨kk, ⟨ta, tb, tc, td⟩, kks⟩ := kid
        obtain ⟨bl, bcap, ⟨c0, c1, c2, c3, c4, c5⟩, hre⟩ := hkid.read
        simp only at c0 c1 c2 c3 c4 c5
        clear hie hkid hnode hks hre
        go_wp2
        go_ret
        exact ⟨by rw [HA.out]; rfl, hb.alloc hb.size _⟩
    · have hie : i = ks.length := by omega
      by_cases hll : ks.length < ks'.length
      · have d3 : decide ((ks.length : Int) < (ks'.length : Int)) = true := by simp; omega
        have HA := Lib.hid (show ans = -1 from by rw [HANS.out]; exact ordRs_less hll (by rw [← hie]; exact HTK.out))
        clear hie
        go_wp2
        go_ret
        exact ⟨by rw [HA.out]; rfl, hb⟩
      · have d3 : decide ((ks.length : Int) < (ks'.length : Int)) = false := by simp; omega
        have HA := Lib.hid (show ans = 0 from by rw [HANS.out]; exact ordRs_same (by omega) (by rw [← hie]; exact HTK.out))
        clear hie
        go_wp2
        go_ret
        exact ⟨by rw [HA.out]; rfl, hb⟩
set_option maxHeartbeats 4000000 in
theorem ord_all_R (ok ok' : Nat → Prop) (N : Nat) : OrdAt ok ok' N := by
  induction N with
  | zero => intro r _ h; have := r.size_pos; omega
  | succ N ih =>
    rintro ⟨k, s, ks⟩ ⟨k', s', ks'⟩ hN v u w hR hU
    obtain ⟨hk, hs, al, cap, rfl, hcap, hmax, hrow⟩ := hR
    obtain ⟨hk', hs', al', cap', rfl, hcap', hmax', hrow'⟩ := hU
    have hN' : Rx.sizes ks ≤ N := by simp [Rx.size] at hN; omega
    have KE := Lib.hid fun W (h : Below w.heap.size w W) => compare_of ih ks ks' hN' al al' cap cap' W hmax hmax' (hrow.below h) (hrow'.below h)
    have KO := Lib.hid fun W => order_any s s' W
    obtain ⟨c1, hc1⟩ : ∃ c1, cmpN k k' = c1 := ⟨_, rfl⟩
    have KC := Lib.hid fun W => compare8_any k k' c1 hc1 W
    have hans : ordR (.node k s ks) (.node k' s' ks') = lexI c1 (lexI (ordW s s') (ordRs ks ks')) := by rw [← hc1]; simp [ordR]
    rw [hans]
    clear ih hrow hrow' hN hans hc1
    generalize ordRs ks ks' = c3 at *
    generalize ordW s s' = c2 at *
    obtain ⟨sa, sb, sc, sd⟩ := s
    obtain ⟨sa', sb', sc', sd'⟩ := s'
    unfold Ws.v at KO
    simp only at KO
    go_enter Try.func9, Try.ntmps9
    go_wp2_with fail
    refine (KC.out _).mono ?_
    rintro e w0 ⟨rfl, rfl⟩
    by_cases h1 : c1 = 0
    · subst h1
      go_wp2_with fail
      refine (KO.out _).mono ?_
      rintro e w1 ⟨rfl, hb1⟩
      have hbw : Below w.heap.size w w1 := (((Below.refl _ w).alloc (Nat.le_refl _) _).alloc (by simp) _).trans (hb1.mono (by simp; omega))
      have x5 : w1.cell? ⟨w.heap.size, 5, none⟩ = some (.slice al ks.length cap) := by
        rw [Lib.cell_of_heap ((hb1.block _ (by simp; omega)).trans ((Below.heap_alloc _ _ _ (by simp)).trans (blk_new w _)))]; rfl
      have y5 : w1.cell? ⟨w.heap.size + 1, 5, none⟩ = some (.slice al' ks'.length cap') := by
        rw [Lib.cell_of_heap ((hb1.block _ (by simp)).trans (blk_at _ _ (by simp)))]; rfl
      clear hb1
      by_cases h2 : c2 = 0
      · subst h2
        go_wp2_with fail
        refine (KE.out _ hbw).mono ?_
        rintro e w2 ⟨rfl, hb2⟩
        have hbz : Below w.heap.size w w2 := hbw.trans (hb2.mono hbw.size)
        clear hb2 x5 y5
        go_wp2
        go_ret
        exact ⟨by simp [lexI], hbz⟩
      · have d3 : (c2 != 0) = true := by simp [h2]
        have HA := Lib.hid (show lexI 0 (lexI c2 c3) = c2 from by simp [lexI, h2])
        clear h2 x5 y5
        go_wp2
        go_ret
        exact ⟨by rw [HA.out]; rfl, hbw⟩
    · have d3 : (c1 != 0) = true := by simp [h1]
      have HA := Lib.hid (show lexI c1 (lexI c2 c3) = c1 from by simp [lexI, h1])
      clear h1
      go_wp2
      go_ret
      exact ⟨by rw [HA.out]; rfl, ((Below.refl _ w).alloc (Nat.le_refl _) _).alloc (by simp) _⟩
theorem twoX {ok ok' : Nat → Prop} (r t : Rx) (v u : Value) (w : World) (h : ReAt ok w v r) (h' : ReAt ok' w u t) :
    Calls Try.prog 9 #[v, u] w fun e w' => e = .returned (.int .i64 (ordR r t)) ∧ Below w.heap.size w w' := ord_all_R ok ok' r.size r t (Nat.le_refl _) v u w h h'
end Go.Proofs.Ythkkeamjigmfhaa
